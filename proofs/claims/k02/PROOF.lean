import PyProof.Rows.All
import Wide.All
import OpenK.AllK
import Wide.FinOn
import HandS.ForMost
import HandS.Evl
import HandS.IsInst
import HandS.StrMore
import HandS.Strs
import HandS.TupAny
import HandS.Zip
import HandS.Walk
import HandS.Wide
import HandS.Conv
import HandS.Property
import HandS.ClsMeth
import HandS.CallLocal
import HandS.Defaults
import HandS.FStr
import HandS.TupMul
import HandS.Exc
import HandS.ExcInit
import HandS.ExcField
import PySem.Challenge.RW_halvesmeet_k02_whole_texts_of_plain_valu
import HandS.SetFor
import HandS.TryMany
import HandS.ExcOwn
import HandS.WordsExc
import HandS.RaiseMore
import HandS.Text
import HandS.Codes
import HandS.EndTab
import KE.KIntText
import HandS.TupLe
import PyProof.ReprLen
import PyProof.StrLawsRepr
import KE.IntTextLaws
import HandS.Lambda
set_option Elab.async false
set_option linter.all false
set_option maxRecDepth 100000
set_option maxHeartbeats 8000000
namespace K0
open PySem L2 Evl
/-- a dict of the top from texts to defs -/
def TabF (K : PySem.W.Frag) (w : World) (a : Addr) (ts : List (Str × Addr)) : Prop := ∃ es n, KDict K w a es n ∧ ∀ z, PySem.W.nsIn K a z = some ((ts.lookup z).map Value.ref)
/-- an own class has what isinstance asks -/
structure ObjC (K : PySem.W.Frag) (C : Addr) : Prop where
  ca : PySem.W.findIn K (.ref C) "__class__" = some (some (.builtin "object.__class__"))
  cg : PySem.W.specialIn K (.builtin "object.__class__") "__get__" = some (some (.builtin "getset_descriptor.__get__"))
  ct : PySem.W.takesIn K (.builtin "object.__class__") = some true
  co : PySem.W.mroIn K C (.type "object") = some true
def bmVE : List Value := [.type "ValueError", .type "Exception", .type "BaseException", .type "object"]
/-- an exception class over ValueError, without an __init__ of its own -/
structure ExcF (K : PySem.W.Frag) (mg : Str → Option Value) (x : Str) (C : Addr) : Prop where
  g : mg x = some (.ref C)
  q : PySem.W.excIn K C bmVE "ValueError.__new__" = true
  k : PySem.W.keepIn K (.ref C) = true
  b : PySem.W.subIn K (.ref C) (.type "BaseException") = some true
  t : PySem.W.typeIn K (.ref C) = some (.type "type")
/-- an exception class over ValueError with an __init__ of its own alone -/
def oexIn (K : PySem.W.Frag) (C : Addr) : Bool := match K.lookup C with
  | some ⟨.type "type", _, .cls cd, sl⟩ => (match cd.mro, sl.toList with
    | .ref C' :: bm, [_, _, _, _, some (.builtin n), _] => C' == C && n == "ValueError.__new__" && !cd.hasDel && cd.hasDict && PySem.HandSPX.refsVE bm
    | _, _ => false)
  | _ => false
theorem oexC {K : PySem.W.Frag} {C : Addr} (q : oexIn K C = true) (sa : PySem.W.findIn K (.ref C) "__setattr__" = some (some (.builtin "object.__setattr__"))) (exC : PySem.W.subIn K (.ref C) (.type "BaseException") = some true)
    (tyC : PySem.W.typeIn K (.ref C) = some (.type "type")) (kC : PySem.W.keepIn K (.ref C) = true) : OexC K C := by
  refine ⟨?_, sa, exC, tyC, kC⟩
  unfold oexIn at q
  split at q
  · rename_i dd cd sl ho
    split at q
    · rename_i C' bm k0 k1 k2 k3 n k5 hm hs
      simp only [Bool.and_eq_true, beq_iff_eq, Bool.not_eq_true'] at q
      obtain ⟨⟨⟨⟨rfl, rfl⟩, hdel⟩, hdi⟩, ht⟩ := q
      obtain ⟨nm, bs, mro, ns, qn, hd, sn, sub, ab, col, del⟩ := cd
      dsimp only at hm hdel hdi
      subst hm hdel hdi
      have hsl : sl = #[k0, k1, k2, k3, some (.builtin "ValueError.__new__"), k5] := by
        obtain ⟨l⟩ := sl
        simp only at hs
        rw [hs]
      subst hsl
      exact ⟨nm, qn, ns, bs, bm, sn, sub, ab, col, dd, k0, k1, k2, k3, k5, ho, ht⟩
    · cases q
  · cases q
structure ExI (K : PySem.W.Frag) (mg : Str → Option Value) (x : Str) (C fI : Addr) : Prop where
  g : mg x = some (.ref C)
  o : OexC K C
  x : XfC K C
  i : PySem.W.findIn K (.ref C) "__init__" = some (some (.ref fI))
  t : PySem.W.typeIn K (.ref fI) = some (.type "function")
def top (i : Nat) : Stmt := PySem.Challenge.pw_halvesmeet_k02_whole_texts_of_plain_valu.main.body.getD i (.Pass ⟨0, 0, 0, 0⟩)
abbrev s_is_number : Stmt := top 11
abbrev N_is_number : List Str := ["value"]
theorem sc_is_number : FnScope N_is_number ["value"] (defScope s_is_number) := ⟨rfl, rfl, rfl, by decide +kernel, rfl, by decide +kernel, by decide +kernel⟩
abbrev s_is_made_of : Stmt := top 12
abbrev N_is_made_of : List Str := ["value", "signs", "most"]
theorem sc_is_made_of : FnScope N_is_made_of ["value", "signs", "most"] (defScope s_is_made_of) := ⟨rfl, rfl, rfl, by decide +kernel, rfl, by decide +kernel, by decide +kernel⟩
abbrev s_is_plain : Stmt := top 13
abbrev N_is_plain : List Str := ["value"]
theorem sc_is_plain : FnScope N_is_plain ["value"] (defScope s_is_plain) := ⟨rfl, rfl, rfl, by decide +kernel, rfl, by decide +kernel, by decide +kernel⟩
abbrev s_is_plain_within : Stmt := top 14
abbrev N_is_plain_within : List Str := ["value", "most", "level", "nest", "inner", "part", "row", "member"]
theorem sc_is_plain_within : FnScope N_is_plain_within ["value", "most"] (defScope s_is_plain_within) := ⟨rfl, rfl, rfl, by decide +kernel, rfl, by decide +kernel, by decide +kernel⟩
abbrev s_is_single : Stmt := top 15
abbrev N_is_single : List Str := ["value"]
theorem sc_is_single : FnScope N_is_single ["value"] (defScope s_is_single) := ⟨rfl, rfl, rfl, by decide +kernel, rfl, by decide +kernel, by decide +kernel⟩
abbrev s_check_plain : Stmt := top 16
abbrev N_check_plain : List Str := ["value"]
theorem sc_check_plain : FnScope N_check_plain ["value"] (defScope s_check_plain) := ⟨rfl, rfl, rfl, by decide +kernel, rfl, by decide +kernel, by decide +kernel⟩
abbrev s_write_plain : Stmt := top 17
abbrev N_write_plain : List Str := ["value"]
theorem sc_write_plain : FnScope N_write_plain ["value"] (defScope s_write_plain) := ⟨rfl, rfl, rfl, by decide +kernel, rfl, by decide +kernel, by decide +kernel⟩
abbrev s_text_of : Stmt := top 18
abbrev N_text_of : List Str := ["value", "member"]
theorem sc_text_of : FnScope N_text_of ["value"] (defScope s_text_of) := ⟨rfl, rfl, rfl, by decide +kernel, rfl, by decide +kernel, by decide +kernel⟩
abbrev s_read_plain : Stmt := top 19
abbrev N_read_plain : List Str := ["text", "value", "end"]
theorem sc_read_plain : FnScope N_read_plain ["text"] (defScope s_read_plain) := ⟨rfl, rfl, rfl, by decide +kernel, rfl, by decide +kernel, by decide +kernel⟩
abbrev s_read_value : Stmt := top 20
abbrev N_read_value : List Str := ["text", "start", "nest", "sign", "number", "end"]
theorem sc_read_value : FnScope N_read_value ["text", "start", "nest"] (defScope s_read_value) := ⟨rfl, rfl, rfl, by decide +kernel, rfl, by decide +kernel, by decide +kernel⟩
abbrev s_read_string : Stmt := top 21
abbrev N_read_string : List Str := ["text", "start", "end"]
theorem sc_read_string : FnScope N_read_string ["text", "start"] (defScope s_read_string) := ⟨rfl, rfl, rfl, by decide +kernel, rfl, by decide +kernel, by decide +kernel⟩
abbrev s_read_digits : Stmt := top 22
abbrev N_read_digits : List Str := ["text", "start", "firsts", "end"]
theorem sc_read_digits : FnScope N_read_digits ["text", "start", "firsts"] (defScope s_read_digits) := ⟨rfl, rfl, rfl, by decide +kernel, rfl, by decide +kernel, by decide +kernel⟩
abbrev s_read_tuple : Stmt := top 23
abbrev N_read_tuple : List Str := ["text", "start", "nest", "members", "end", "sign", "member"]
theorem sc_read_tuple : FnScope N_read_tuple ["text", "start", "nest"] (defScope s_read_tuple) := ⟨rfl, rfl, rfl, by decide +kernel, rfl, by decide +kernel, by decide +kernel⟩
abbrev s_law_dice : Stmt := top 25
abbrev N_law_dice : List Str := ["script", "spot", "cell", "left"]
theorem sc_law_dice : FnScope N_law_dice ["script", "spot"] (defScope s_law_dice) := ⟨rfl, rfl, rfl, by decide +kernel, rfl, by decide +kernel, by decide +kernel⟩
abbrev s_law_roll : Stmt := top 26
abbrev N_law_roll : List Str := ["dice", "most", "found", "one", "two"]
theorem sc_law_roll : FnScope N_law_roll ["dice", "most"] (defScope s_law_roll) := ⟨rfl, rfl, rfl, by decide +kernel, rfl, by decide +kernel, by decide +kernel⟩
abbrev s_law_pick : Stmt := top 27
abbrev N_law_pick : List Str := ["dice", "items"]
theorem sc_law_pick : FnScope N_law_pick ["dice", "items"] (defScope s_law_pick) := ⟨rfl, rfl, rfl, by decide +kernel, rfl, by decide +kernel, by decide +kernel⟩
abbrev s_law_va_plain : Stmt := top 28
abbrev N_law_va_plain : List Str := ["dice", "deep", "some", "turn"]
theorem sc_law_va_plain : FnScope N_law_va_plain ["dice", "deep"] (defScope s_law_va_plain) := ⟨rfl, rfl, rfl, by decide +kernel, rfl, by decide +kernel, by decide +kernel⟩
abbrev s_law_va_text : Stmt := top 29
abbrev N_law_va_text : List Str := ["value", "one"]
theorem sc_law_va_text : FnScope N_law_va_text ["value"] (defScope s_law_va_text) := ⟨rfl, rfl, rfl, by decide +kernel, rfl, by decide +kernel, by decide +kernel⟩
abbrev s_law_va_number : Stmt := top 30
abbrev N_law_va_number : List Str := ["text", "at", "first", "stop"]
theorem sc_law_va_number : FnScope N_law_va_number ["text", "at"] (defScope s_law_va_number) := ⟨rfl, rfl, rfl, by decide +kernel, rfl, by decide +kernel, by decide +kernel⟩
abbrev s_law_va_string : Stmt := top 31
abbrev N_law_va_string : List Str := ["text", "at", "stop"]
theorem sc_law_va_string : FnScope N_law_va_string ["text", "at"] (defScope s_law_va_string) := ⟨rfl, rfl, rfl, by decide +kernel, rfl, by decide +kernel, by decide +kernel⟩
abbrev s_law_va_read : Stmt := top 32
abbrev N_law_va_read : List Str := ["text", "at", "deep", "sign", "value", "stop", "found", "place", "turn", "is_right"]
theorem sc_law_va_read : FnScope N_law_va_read ["text", "at", "deep"] (defScope s_law_va_read) := ⟨rfl, rfl, rfl, by decide +kernel, rfl, by decide +kernel, by decide +kernel⟩
abbrev s_law_due : Stmt := top 33
abbrev N_law_due : List Str := ["text", "is_right", "value", "place"]
theorem sc_law_due : FnScope N_law_due ["text"] (defScope s_law_due) := ⟨rfl, rfl, rfl, by decide +kernel, rfl, by decide +kernel, by decide +kernel⟩
abbrev s_law_told : Stmt := top 34
abbrev N_law_told : List Str := ["text", "error"]
theorem sc_law_told : FnScope N_law_told ["text"] (defScope s_law_told) := ⟨rfl, rfl, rfl, by decide +kernel, rfl, by decide +kernel, by decide +kernel⟩
abbrev s_law_spoilt : Stmt := top 35
abbrev N_law_spoilt : List Str := ["dice", "text", "turn", "at", "way", "more"]
theorem sc_law_spoilt : FnScope N_law_spoilt ["dice", "text"] (defScope s_law_spoilt) := ⟨rfl, rfl, rfl, by decide +kernel, rfl, by decide +kernel, by decide +kernel⟩
abbrev s_law_right : Stmt := top 36
abbrev N_law_right : List Str := ["dice", "value", "other", "text", "turn", "spoilt"]
theorem sc_law_right : FnScope N_law_right ["dice"] (defScope s_law_right) := ⟨rfl, rfl, rfl, by decide +kernel, rfl, by decide +kernel, by decide +kernel⟩
abbrev s_law : Stmt := top 37
abbrev N_law : List Str := ["script", "spot", "dice", "turn", "deep", "told", "text", "place"]
theorem sc_law : FnScope N_law ["script"] (defScope s_law) := ⟨rfl, rfl, rfl, by decide +kernel, rfl, by decide +kernel, by decide +kernel⟩
abbrev s_ParseError_init : Stmt := inClass (top 3) 0
abbrev N_ParseError_init : List Str := ["self", "spot"]
theorem sc_ParseError_init : FnScope N_ParseError_init ["self", "spot"] (defScope s_ParseError_init) := ⟨rfl, rfl, rfl, by decide +kernel, rfl, by decide +kernel, by decide +kernel⟩
structure Ad where
  is_number : Addr
  is_made_of : Addr
  is_plain : Addr
  is_plain_within : Addr
  is_single : Addr
  check_plain : Addr
  write_plain : Addr
  text_of : Addr
  read_plain : Addr
  read_value : Addr
  read_string : Addr
  read_digits : Addr
  read_tuple : Addr
  law_dice : Addr
  law_roll : Addr
  law_pick : Addr
  law_va_plain : Addr
  law_va_text : Addr
  law_va_number : Addr
  law_va_string : Addr
  law_va_read : Addr
  law_due : Addr
  law_told : Addr
  law_spoilt : Addr
  law_right : Addr
  law : Addr
  ParseError_init : Addr
  EInvalidOperation : Addr
  EParseError : Addr
structure Fd where
  is_number : FuncData
  is_made_of : FuncData
  is_plain : FuncData
  is_plain_within : FuncData
  is_single : FuncData
  check_plain : FuncData
  write_plain : FuncData
  text_of : FuncData
  read_plain : FuncData
  read_value : FuncData
  read_string : FuncData
  read_digits : FuncData
  read_tuple : FuncData
  law_dice : FuncData
  law_roll : FuncData
  law_pick : FuncData
  law_va_plain : FuncData
  law_va_text : FuncData
  law_va_number : FuncData
  law_va_string : FuncData
  law_va_read : FuncData
  law_due : FuncData
  law_told : FuncData
  law_spoilt : FuncData
  law_right : FuncData
  law : FuncData
  ParseError_init : FuncData
/-- what the top has written -/
structure Txt (K : PySem.W.Frag) (mg : Str → Option Value) (A : Ad) (D : Fd) : Prop where
  g_is_number : mg "is_number" = some (.ref A.is_number)
  F_is_number : Fun K "is_number" "is_number" s_is_number A.is_number D.is_number
  b_is_number : Binds K D.is_number ["value"] []
  g_is_made_of : mg "is_made_of" = some (.ref A.is_made_of)
  F_is_made_of : Fun K "is_made_of" "is_made_of" s_is_made_of A.is_made_of D.is_made_of
  b_is_made_of : Binds K D.is_made_of ["value", "signs", "most"] []
  g_is_plain : mg "is_plain" = some (.ref A.is_plain)
  F_is_plain : Fun K "is_plain" "is_plain" s_is_plain A.is_plain D.is_plain
  b_is_plain : Binds K D.is_plain ["value"] []
  g_is_plain_within : mg "is_plain_within" = some (.ref A.is_plain_within)
  F_is_plain_within : Fun K "is_plain_within" "is_plain_within" s_is_plain_within A.is_plain_within D.is_plain_within
  b_is_plain_within : Binds K D.is_plain_within ["value", "most"] []
  g_is_single : mg "_is_single" = some (.ref A.is_single)
  F_is_single : Fun K "_is_single" "_is_single" s_is_single A.is_single D.is_single
  b_is_single : Binds K D.is_single ["value"] []
  g_check_plain : mg "_check_plain" = some (.ref A.check_plain)
  F_check_plain : Fun K "_check_plain" "_check_plain" s_check_plain A.check_plain D.check_plain
  b_check_plain : Binds K D.check_plain ["value"] []
  g_write_plain : mg "write_plain" = some (.ref A.write_plain)
  F_write_plain : Fun K "write_plain" "write_plain" s_write_plain A.write_plain D.write_plain
  b_write_plain : Binds K D.write_plain ["value"] []
  g_text_of : mg "_text_of" = some (.ref A.text_of)
  F_text_of : Fun K "_text_of" "_text_of" s_text_of A.text_of D.text_of
  b_text_of : Binds K D.text_of ["value"] []
  g_read_plain : mg "read_plain" = some (.ref A.read_plain)
  F_read_plain : Fun K "read_plain" "read_plain" s_read_plain A.read_plain D.read_plain
  b_read_plain : Binds K D.read_plain ["text"] []
  g_read_value : mg "_read_value" = some (.ref A.read_value)
  F_read_value : Fun K "_read_value" "_read_value" s_read_value A.read_value D.read_value
  b_read_value : Binds K D.read_value ["text", "start", "nest"] []
  g_read_string : mg "_read_string" = some (.ref A.read_string)
  F_read_string : Fun K "_read_string" "_read_string" s_read_string A.read_string D.read_string
  b_read_string : Binds K D.read_string ["text", "start"] []
  g_read_digits : mg "_read_digits" = some (.ref A.read_digits)
  F_read_digits : Fun K "_read_digits" "_read_digits" s_read_digits A.read_digits D.read_digits
  b_read_digits : Binds K D.read_digits ["text", "start", "firsts"] []
  g_read_tuple : mg "_read_tuple" = some (.ref A.read_tuple)
  F_read_tuple : Fun K "_read_tuple" "_read_tuple" s_read_tuple A.read_tuple D.read_tuple
  b_read_tuple : Binds K D.read_tuple ["text", "start", "nest"] []
  g_law_dice : mg "_law_dice" = some (.ref A.law_dice)
  F_law_dice : Fun K "_law_dice" "_law_dice" s_law_dice A.law_dice D.law_dice
  b_law_dice : Binds K D.law_dice ["script", "spot"] []
  g_law_roll : mg "_law_roll" = some (.ref A.law_roll)
  F_law_roll : Fun K "_law_roll" "_law_roll" s_law_roll A.law_roll D.law_roll
  b_law_roll : Binds K D.law_roll ["dice", "most"] []
  g_law_pick : mg "_law_pick" = some (.ref A.law_pick)
  F_law_pick : Fun K "_law_pick" "_law_pick" s_law_pick A.law_pick D.law_pick
  b_law_pick : Binds K D.law_pick ["dice", "items"] []
  g_law_va_plain : mg "_law_va_plain" = some (.ref A.law_va_plain)
  F_law_va_plain : Fun K "_law_va_plain" "_law_va_plain" s_law_va_plain A.law_va_plain D.law_va_plain
  b_law_va_plain : Binds K D.law_va_plain ["dice", "deep"] []
  g_law_va_text : mg "_law_va_text" = some (.ref A.law_va_text)
  F_law_va_text : Fun K "_law_va_text" "_law_va_text" s_law_va_text A.law_va_text D.law_va_text
  b_law_va_text : Binds K D.law_va_text ["value"] []
  g_law_va_number : mg "_law_va_number" = some (.ref A.law_va_number)
  F_law_va_number : Fun K "_law_va_number" "_law_va_number" s_law_va_number A.law_va_number D.law_va_number
  b_law_va_number : Binds K D.law_va_number ["text", "at"] []
  g_law_va_string : mg "_law_va_string" = some (.ref A.law_va_string)
  F_law_va_string : Fun K "_law_va_string" "_law_va_string" s_law_va_string A.law_va_string D.law_va_string
  b_law_va_string : Binds K D.law_va_string ["text", "at"] []
  g_law_va_read : mg "_law_va_read" = some (.ref A.law_va_read)
  F_law_va_read : Fun K "_law_va_read" "_law_va_read" s_law_va_read A.law_va_read D.law_va_read
  b_law_va_read : Binds K D.law_va_read ["text", "at", "deep"] []
  g_law_due : mg "_law_due" = some (.ref A.law_due)
  F_law_due : Fun K "_law_due" "_law_due" s_law_due A.law_due D.law_due
  b_law_due : Binds K D.law_due ["text"] []
  g_law_told : mg "_law_told" = some (.ref A.law_told)
  F_law_told : Fun K "_law_told" "_law_told" s_law_told A.law_told D.law_told
  b_law_told : Binds K D.law_told ["text"] []
  g_law_spoilt : mg "_law_spoilt" = some (.ref A.law_spoilt)
  F_law_spoilt : Fun K "_law_spoilt" "_law_spoilt" s_law_spoilt A.law_spoilt D.law_spoilt
  b_law_spoilt : Binds K D.law_spoilt ["dice", "text"] []
  g_law_right : mg "_law_right" = some (.ref A.law_right)
  F_law_right : Fun K "_law_right" "_law_right" s_law_right A.law_right D.law_right
  b_law_right : Binds K D.law_right ["dice"] []
  g_law : mg "law" = some (.ref A.law)
  F_law : Fun K "law" "law" s_law A.law D.law
  b_law : Binds K D.law ["script"] []
  F_ParseError_init : Fun K "__init__" "ParseError.__init__" s_ParseError_init A.ParseError_init D.ParseError_init
  b_ParseError_init : Binds K D.ParseError_init ["self", "spot"] []
  c_MAX_NEST : ∃ t, mg "MAX_NEST" = some (.int (12) t)
  c_MAX_STRING : ∃ t, mg "MAX_STRING" = some (.int (3000) t)
  c_MAX_DIGITS : ∃ t, mg "MAX_DIGITS" = some (.int (60) t)
  c_MAX_NUMBER : ∃ t, mg "MAX_NUMBER" = some (.int (999999999999999999999999999999999999999999999999999999999999) t)
  c_DIGITS : ∃ t, mg "DIGITS" = some (.str "0123456789" t)
  c_SIGNS : ∃ t, mg "SIGNS" = some (.str "abcdefghijklmnopqrstuvwxyz0123456789 " t)
  b_abs : mg "abs" = none
  b_bool : mg "bool" = none
  b_int : mg "int" = none
  b_isinstance : mg "isinstance" = none
  b_len : mg "len" = none
  b_max : mg "max" = none
  b_min : mg "min" = none
  b_range : mg "range" = none
  b_repr : mg "repr" = none
  b_str : mg "str" = none
  b_tuple : mg "tuple" = none
  e_InvalidOperation : ExcF K mg "InvalidOperation" A.EInvalidOperation
  e_ParseError : ExI K mg "ParseError" A.EParseError A.ParseError_init
  n_ParseErrorspot : PySem.W.findIn K (.ref A.EParseError) "spot" = some none
  m_InvalidOperation_ParseError : PySem.W.exmOne K (.ref A.EInvalidOperation) (.ref A.EParseError) = some false
  m_ParseError_ParseError : PySem.W.exmOne K (.ref A.EParseError) (.ref A.EParseError) = some true
/-! ### values as data -/
inductive D where
  | non | bl (b : Bool) | int (i : Int) | str (s : Str) | tup (ds : List D) | oth
mutual
inductive Rp (K : PySem.W.Frag) (H : Hp) : V → D → Prop where
  | non : Rp K H .non .non
  | bl (b : Bool) : Rp K H (.bl b) (.bl b)
  | int (i : Int) : Rp K H (.int i) (.int i)
  | str (s : Str) : Rp K H (.str s) (.str s)
  | tup {a : Addr} {xs : List V} {ds : List D} : SqT K H a xs → RpAll K H xs ds → Rp K H (.ref a) (.tup ds)
  | lst {a : Addr} {xs : List V} : H a = some (.lst xs) → Rp K H (.ref a) .oth
  | dct {a : Addr} {kvs : List (Key × V)} : H a = some (.dK kvs) → Rp K H (.ref a) .oth
inductive RpAll (K : PySem.W.Frag) (H : Hp) : List V → List D → Prop where
  | nil : RpAll K H [] []
  | cons {v : V} {vs : List V} {d : D} {ds : List D} : Rp K H v d → RpAll K H vs ds → RpAll K H (v :: vs) (d :: ds)
end
section
variable {K : PySem.W.Frag} {H H' : Hp}
mutual
theorem Rp.ex {v : V} {d : D} (e : Ex H H') : Rp K H v d → Rp K H' v d
  | .non => .non
  | .bl b => .bl b
  | .int i => .int i
  | .str s => .str s
  | .tup h r => .tup (ex_t e h) (RpAll.ex e r)
  | .lst h => .lst (e _ _ h)
  | .dct h => .dct (e _ _ h)
theorem RpAll.ex {vs : List V} {ds : List D} (e : Ex H H') : RpAll K H vs ds → RpAll K H' vs ds
  | .nil => .nil
  | .cons h r => .cons (Rp.ex e h) (RpAll.ex e r)
end
theorem RpAll.len {vs : List V} {ds : List D} : RpAll K H vs ds → vs.length = ds.length
  | .nil => rfl
  | .cons _ r => by rw [List.length_cons, List.length_cons, RpAll.len r]
theorem RpAll.inv {v : V} {vs : List V} {ds : List D} (h : RpAll K H (v :: vs) ds) : ∃ d es, ds = d :: es ∧ Rp K H v d ∧ RpAll K H vs es := by
  cases h with
  | cons h r => exact ⟨_, _, rfl, h, r⟩
theorem RpAll.get : ∀ (vs : List V) (ds : List D) (i : Nat) (v : V), RpAll K H vs ds → vs[i]? = some v → ∃ d, ds[i]? = some d ∧ Rp K H v d
  | [], _, _, _, _, h => by simp at h
  | u :: us, ds, 0, v, h, e => by
    have e' := Option.some.inj e
    subst e'
    obtain ⟨d, es, rfl, h1, _⟩ := h.inv
    exact ⟨d, rfl, h1⟩
  | u :: us, ds, i + 1, v, h, e => by
    obtain ⟨d, es, rfl, _, h2⟩ := h.inv
    obtain ⟨c, h3, h4⟩ := RpAll.get us es i v h2 (by simpa using e)
    exact ⟨c, by simpa using h3, h4⟩
theorem RpAll.app {vs ws : List V} {ds es : List D} : RpAll K H vs ds → RpAll K H ws es → RpAll K H (vs ++ ws) (ds ++ es)
  | .nil, s => s
  | .cons h r, s => .cons h (RpAll.app r s)
/-! ### kinds -/
def D.isInt : D → Bool
  | .int _ => true | .bl _ => true | _ => false
def D.isBl : D → Bool
  | .bl _ => true | _ => false
def D.isStr : D → Bool
  | .str _ => true | _ => false
def D.isTup : D → Bool
  | .tup _ => true | _ => false
theorem ty_tup {a : Addr} {xs : List V} (h : SqT K H a xs) : TyX K H (.ref a) (.type "tuple") := by
  rcases h with (h | ⟨o, h⟩) | ⟨o, its, n, lk, c, _⟩
  · exact .base (.tup h)
  · exact .fTuple h
  · exact .kTuple lk c
theorem rc_isi {n : String} {f : D → Bool} (hn : kitB "NoneType" n = some (f .non)) (hb : ∀ b, kitB "bool" n = some (f (.bl b))) (hi : ∀ i, kitB "int" n = some (f (.int i))) (hs : ∀ s, kitB "str" n = some (f (.str s)))
    (ht : ∀ ds, kitB "tuple" n = some (f (.tup ds))) (hl : kitB "list" n = some (f .oth)) (hd : kitB "dict" n = some (f .oth)) {x : V} {d : D} (h : Rp K H x d) : RC (rIsi K) [x, .ty n] H (.bl (f d)) := fun H1 e Q q => by
  have h1 := Rp.ex e h
  cases h1 with
  | non => exact ⟨_, _, _, _, _, rfl, .ty _, .base .non, kit_ty hn, q H1 (Ex.refl _)⟩
  | bl b => exact ⟨_, _, _, _, _, rfl, .ty _, .base (.bl _), kit_ty (hb b), q H1 (Ex.refl _)⟩
  | int i => exact ⟨_, _, _, _, _, rfl, .ty _, .base (.int _), kit_ty (hi i), q H1 (Ex.refl _)⟩
  | str s => exact ⟨_, _, _, _, _, rfl, .ty _, .base (.str _), kit_ty (hs s), q H1 (Ex.refl _)⟩
  | tup h2 _ => exact ⟨_, _, _, _, _, rfl, .ty _, ty_tup h2, kit_ty (ht _), q H1 (Ex.refl _)⟩
  | lst h2 => exact ⟨_, _, _, _, _, rfl, .ty _, .base (.lst h2), kit_ty hl, q H1 (Ex.refl _)⟩
  | dct h2 => exact ⟨_, _, _, _, _, rfl, .ty _, .base (.dK h2), kit_ty hd, q H1 (Ex.refl _)⟩
theorem rc_int {x : V} {d : D} (h : Rp K H x d) : RC (rIsi K) [x, .ty "int"] H (.bl d.isInt) :=
  rc_isi (f := D.isInt) (show kitB "NoneType" "int" = some false by decide +kernel) (fun _ => show kitB "bool" "int" = some true by decide +kernel) (fun _ => show kitB "int" "int" = some true by decide +kernel) (fun _ => show kitB "str" "int" = some false by decide +kernel)
    (fun _ => show kitB "tuple" "int" = some false by decide +kernel) (show kitB "list" "int" = some false by decide +kernel) (show kitB "dict" "int" = some false by decide +kernel) h
theorem rc_bool {x : V} {d : D} (h : Rp K H x d) : RC (rIsi K) [x, .ty "bool"] H (.bl d.isBl) :=
  rc_isi (f := D.isBl) (show kitB "NoneType" "bool" = some false by decide +kernel) (fun _ => show kitB "bool" "bool" = some true by decide +kernel) (fun _ => show kitB "int" "bool" = some false by decide +kernel) (fun _ => show kitB "str" "bool" = some false by decide +kernel)
    (fun _ => show kitB "tuple" "bool" = some false by decide +kernel) (show kitB "list" "bool" = some false by decide +kernel) (show kitB "dict" "bool" = some false by decide +kernel) h
theorem rc_str {x : V} {d : D} (h : Rp K H x d) : RC (rIsi K) [x, .ty "str"] H (.bl d.isStr) :=
  rc_isi (f := D.isStr) (show kitB "NoneType" "str" = some false by decide +kernel) (fun _ => show kitB "bool" "str" = some false by decide +kernel) (fun _ => show kitB "int" "str" = some false by decide +kernel) (fun _ => show kitB "str" "str" = some true by decide +kernel)
    (fun _ => show kitB "tuple" "str" = some false by decide +kernel) (show kitB "list" "str" = some false by decide +kernel) (show kitB "dict" "str" = some false by decide +kernel) h
theorem rc_tup {x : V} {d : D} (h : Rp K H x d) : RC (rIsi K) [x, .ty "tuple"] H (.bl d.isTup) :=
  rc_isi (f := D.isTup) (show kitB "NoneType" "tuple" = some false by decide +kernel) (fun _ => show kitB "bool" "tuple" = some false by decide +kernel) (fun _ => show kitB "int" "tuple" = some false by decide +kernel) (fun _ => show kitB "str" "tuple" = some false by decide +kernel)
    (fun _ => show kitB "tuple" "tuple" = some true by decide +kernel) (show kitB "list" "tuple" = some false by decide +kernel) (show kitB "dict" "tuple" = some false by decide +kernel) h
theorem Rp.isI {x : V} {d : D} (h : Rp K H x d) (h1 : d.isInt = true) (h2 : d.isBl = false) : ∃ i, d = .int i ∧ x = .int i := by
  cases h <;> first | exact ⟨_, rfl, rfl⟩ | (simp [D.isInt] at h1; done) | (simp [D.isBl] at h2; done)
theorem Rp.isS {x : V} {d : D} (h : Rp K H x d) (h1 : d.isStr = true) : ∃ s, d = .str s ∧ x = .str s := by
  cases h <;> first | exact ⟨_, rfl, rfl⟩ | cases h1
theorem Rp.isT {x : V} {d : D} (h : Rp K H x d) (h1 : d.isTup = true) : ∃ a xs ds, d = .tup ds ∧ x = .ref a ∧ SqT K H a xs ∧ RpAll K H xs ds := by
  cases h <;> first | exact ⟨_, _, _, rfl, rfl, by assumption, by assumption⟩ | cases h1
end
/-! ### the promises of pure judges -/
def sp1 (f : D → Bool) (K : PySem.W.Frag) : Sp := fun vs H Q _ => ∃ x d, vs = [x] ∧ Rp K H x d ∧ RetV (.bl (f d)) H Q
theorem sp1_len {f : D → Bool} {K : PySem.W.Frag} {vs : List V} {H : Hp} {Q : VK} {E : XK} (h : sp1 f K vs H Q E) : vs.length = 1 := by
  obtain ⟨x, d, rfl, _⟩ := h
  rfl
theorem sv1 {f : D → Bool} {K : PySem.W.Frag} {H : Hp} {x : V} {d : D} (h : Rp K H x d) : SpV (sp1 f K) [x] H (.bl (f d)) := fun H1 e Q q E => ⟨x, d, rfl, h.ex e, q⟩
abbrev big : Int := 10 ^ 60 - 1
def numB (i : Int) : Bool := decide (-big ≤ i) && decide (i ≤ big)
def D.num : D → Bool
  | .int i => numB i | _ => false
section
variable {P : Program} {w : World} {K : PySem.W.Frag} {mg : Str → Option Value} {base : Heap} {A : Ad} {D : Fd}
abbrev sp_is_number (K : PySem.W.Frag) : Sp := sp1 K0.D.num K
theorem len_is_number {vs : List V} {H : Hp} {Q : VK} {E : XK} (h : sp_is_number K vs H Q E) : vs.length = 1 := sp1_len h
/-- a chain a <= b <= c of ints -/
theorem ev_chain_le {σ : L2.St} {H : Hp} {ta tb tc : TE} {i j k : Int} (ha : Ev ta σ H (.int i)) (hb : Ev tb σ H (.int j)) (hc : Ev tc σ H (.int k)) :
    Ev (tChain (rI0 fun i j => .bl (decide (i ≤ j))) (rI0 fun i j => .bl (decide (i ≤ j))) ta tb tc) σ H (.bl (decide (i ≤ j) && decide (j ≤ k))) := fun H1 e Q q =>
  ha H1 e _ fun H2 e2 => hb H2 (e.trans e2) _ fun H3 e3 => ⟨i, j, rfl, rfl, _, rfl, by
    by_cases c : i ≤ j
    · rw [if_pos (decide_eq_true c)]
      refine hc H3 ((e.trans e2).trans e3) _ fun H4 e4 => ⟨j, k, rfl, rfl, ?_⟩
      have := q H4 ((e2.trans e3).trans e4)
      rw [decide_eq_true c, Bool.true_and] at this
      exact this
    · rw [if_neg (by rw [decide_eq_false c]; decide)]
      have := q H3 (e2.trans e3)
      rw [decide_eq_false c, Bool.false_and] at this
      exact this⟩
theorem ok_is_number (T : Txt K mg A D) : FnOk P w K mg base CX0 1 A.is_number D.is_number ["value"] (sp_is_number K) := by
  obtain ⟨t_MAX_NUMBER, c_MAX_NUMBER⟩ := T.c_MAX_NUMBER
  refine T.F_is_number.ok sc_is_number (fun vs H Q E h => len_is_number h) (fun cdv A0 outer s H vs Q E hr h => ?_)
  refine ⟨_, (pss_cons (ps_if (PW.pt (pw_or (pt_not (pt_val (pe_callB call_isi (by rfl) T.b_isinstance (by decide +kernel) (pa_cons (pv 0) (pa_cons (pe_bltn (v := .ty "int") (u := .type "int") (by rfl) T.b_int (by decide +kernel) rfl) pa_nil))))) (pw_or1 (pt_val (pe_callB call_isi (by rfl) T.b_isinstance (by decide +kernel) (pa_cons (pv 0) (pa_cons (pe_bltn (v := .ty "bool") (u := .type "bool") (by rfl) T.b_bool (by decide +kernel) rfl) pa_nil))))))) (pss_one (ps_ret pe_bl)) pss_nil)
  (pss_one (ps_ret (pe_chain op_le op_le (pe_un un_neg (pe_glob (v := .int (999999999999999999999999999999999999999999999999999999999999)) rfl c_MAX_NUMBER ⟨_, rfl⟩)) (pv 0) (pe_glob (v := .int (999999999999999999999999999999999999999999999999999999999999)) rfl c_MAX_NUMBER ⟨_, rfl⟩))))), ?_⟩
  obtain ⟨x, d, rfl, hx, k⟩ := h
  refine q_when (et_or (et_not (et_B (ev_cb (ea_cons (ev_var rfl) (ea_cons ev_c ea_nil)) (rc_int hx)))) fun _ => et_B (ev_cb (ea_cons (ev_var rfl) (ea_cons ev_c ea_nil)) (rc_bool hx))) (fun hb H1 e1 => ?_) (fun hb H1 e1 => ?_)
  · refine s_ret ev_c fun H2 e2 => ?_
    have hf : K0.D.num d = false := by cases d <;> first | rfl | simp [K0.D.isInt, K0.D.isBl] at hb
    have := k H2 (e1.trans e2)
    rw [hf] at this
    exact this
  · have h1 : K0.D.isInt d = true := by cases z : K0.D.isInt d <;> rw [z] at hb <;> simp at hb <;> rfl
    have h2 : K0.D.isBl d = false := by cases z : K0.D.isBl d <;> rw [z] at hb <;> simp at hb <;> rfl
    obtain ⟨i, rfl, rfl⟩ := hx.isI h1 h2
    refine s_ret (ev_chain_le (i := -big) (j := i) (k := big) (ev_un ev_c ru_neg) (ev_var rfl) ev_c) fun H2 e2 => ?_
    exact k H2 (e1.trans e2)
end
end K0

namespace K0
open PySem L2 Evl
open PySem.Builtin.Str (strSub)
/-! ### texts -/
theorem takeWhile_le {α : Type} (p : α → Bool) : ∀ l : List α, (l.takeWhile p).length ≤ l.length
  | [] => Nat.le_refl _
  | a :: l => by
    rw [List.takeWhile_cons]
    split
    · simp only [List.length_cons]
      have := takeWhile_le p l
      omega
    · simp
theorem takeWhile_all {α : Type} (p : α → Bool) : ∀ l : List α, (l.takeWhile p).length = l.length → l.all p = true
  | [], _ => rfl
  | a :: l, h => by
    rw [List.takeWhile_cons] at h
    split at h
    · rename_i ha
      simp only [List.length_cons] at h
      rw [List.all_cons, ha, takeWhile_all p l (by omega)]
      rfl
    · simp at h
theorem all_takeWhile {α : Type} (p : α → Bool) : ∀ l : List α, l.all p = true → l.takeWhile p = l
  | [], _ => rfl
  | a :: l, h => by
    rw [List.all_cons, Bool.and_eq_true] at h
    rw [List.takeWhile_cons, if_pos h.1, all_takeWhile p l h.2]
theorem drop_takeWhile {α : Type} (p : α → Bool) : ∀ l : List α, (l.drop (l.takeWhile p).length).all p = true → l.all p = true
  | [], _ => rfl
  | a :: l, h => by
    rw [List.takeWhile_cons] at h
    split at h
    · rename_i ha
      rw [List.all_cons, ha, drop_takeWhile p l (by simpa using h)]
      rfl
    · simpa using h
theorem str_nil {x : Str} : x = ("" : Str) ↔ x.cps.toList.length = 0 := by
  constructor
  · intro h
    subst h
    decide +kernel
  · intro h
    obtain ⟨⟨l⟩⟩ := x
    cases l with
    | nil => decide +kernel
    | cons a l => simp at h
theorem strip_all (x y : Str) : decide (V.str (Txt.stripChars x y) = V.str "") = x.cps.toList.all y.cps.contains := by
  have key : (Txt.stripChars x y = ("" : Str)) ↔ x.cps.toList.all y.cps.contains = true := by
    unfold Txt.stripChars
    rw [PySem.W.stripBy_eq]
    show strSub x (stripLo y.cps.contains true x) (stripHi y.cps.contains true x (stripLo y.cps.contains true x)) = ("" : Str) ↔ _
    rw [str_nil]
    have e1 : stripLo y.cps.contains true x = (x.cps.toList.takeWhile y.cps.contains).length := rfl
    have e2 : stripHi y.cps.contains true x (stripLo y.cps.contains true x) = x.cps.toList.length - ((x.cps.toList.drop (stripLo y.cps.contains true x)).reverse.takeWhile y.cps.contains).length := by
      show x.cps.size - _ = _
      rw [Array.length_toList] <;> rfl
    have e3 : (strSub x (stripLo y.cps.contains true x) (stripHi y.cps.contains true x (stripLo y.cps.contains true x))).cps.toList.length = min (stripHi y.cps.contains true x (stripLo y.cps.contains true x)) x.cps.toList.length - stripLo y.cps.contains true x := by
      show (x.cps.extract _ _).toList.length = _
      rw [Array.length_toList, Array.size_extract, Array.length_toList]
    rw [e3, e2, e1]
    generalize x.cps.toList = l
    generalize y.cps.contains = p
    have h1 := takeWhile_le p l
    have h2 := takeWhile_le p (l.drop (l.takeWhile p).length).reverse
    rw [List.length_reverse, List.length_drop] at h2
    constructor
    · intro h
      have h3 : ((l.drop (l.takeWhile p).length).reverse.takeWhile p).length = (l.drop (l.takeWhile p).length).reverse.length := by
        rw [List.length_reverse, List.length_drop]
        omega
      have h4 := takeWhile_all p _ h3
      rw [List.all_reverse] at h4
      exact drop_takeWhile p l h4
    · intro h
      have h3 := all_takeWhile p l h
      rw [h3, List.drop_length]
      simp
  by_cases c : x.cps.toList.all y.cps.contains = true
  · rw [c]
    exact decide_eq_true (congrArg V.str (key.mpr c))
  · rw [Bool.not_eq_true] at c
    rw [c]
    refine decide_eq_false fun q => ?_
    have := key.mp (V.str.inj q)
    rw [c] at this
    cases this
/-! ### more of what evaluates to what -/
section
variable {K : PySem.W.Frag} {σ : L2.St} {H H' : Hp} {ta tb te tx : TE} {t u : TT} {x y z v : V}
/-- a tuple with these items, new or not -/
def EvW (K : PySem.W.Frag) (te : TE) (σ : L2.St) (H : Hp) (xs : List V) : Prop := ∀ H1, Ex H H1 → ∀ Q : VK, (∀ p H2, Ex H1 H2 → SqT K H2 p xs → Q (.ref p) H2) → te σ H1 Q
theorem ew_sl {tl th : TO} {a : Addr} {xs : List V} {lo hi : Option Int} (h : Ev te σ H (.ref a)) (h1 : EvO tl σ H lo) (h2 : EvO th σ H hi) (hs : SqT K H a xs) : EvW K (tSl (rSlA K) te tl th) σ H (cutV xs lo hi) := fun H1 e Q q =>
  h H1 e _ fun H2 e2 => h1 H2 (e.trans e2) _ fun H3 e3 => h2 H3 ((e.trans e2).trans e3) _ fun H4 e4 => by
    have hx := ex_t (((e.trans e2).trans e3).trans e4) hs
    refine ⟨a, xs, rfl, hx, fun hw => ?_, fun _ p hp => ?_⟩
    · refine q a H4 ((e2.trans e3).trans e4) ?_
      have : cutV xs lo hi = xs := by
        unfold cutV
        rw [hw.1, hw.2]
        simp
      rw [this]
      exact hx
    · exact q p _ (((e2.trans e3).trans e4).trans (Ex.new hp)) (st_of upd_same)
/-- comprehensions over a tuple, over zip of two tuples -/
theorem el_lcT {a : Addr} {xs : List V} {tl : TE} {j : Nat} {vs : List Nat} (f : Nat → Bool) (v : Nat → V) (h : Ev tl σ H (.ref a)) (hx : SqT K H a xs) (hz : xs.length ≤ 40000) (hw : ∀ x, wipe ((wipe σ vs).set j (some x)) vs = wipe σ vs)
    (ht : ∀ (i : Nat) (x : V) H1, Ex H H1 → xs[i]? = some x → EvT t ((wipe σ vs).set j (some x)) H1 (f i)) (he : ∀ (i : Nat) (x : V) H1, Ex H H1 → xs[i]? = some x → f i = true → Ev te ((wipe σ vs).set j (some x)) H1 (v i)) :
    EvL (tLc (iTup K tl) (gName j) t te vs) σ H (given xs.length f v) := fun H0 e Q q => h H0 e _ fun H1 e1 => ⟨a, rfl, ⟨xs, ex_t (e.trans e1) hx⟩, fun Dl hD =>
  lc_tup (xs := xs) (Cw H1 f v Dl) ⟨hD, Ex.new hD, upd_same⟩ (fun i H' _ p => ex_t ((e.trans e1).trans p.2.1) hx)
    (fun i x H' hi p => ⟨hw x, cw_turn p (by have := (List.getElem?_eq_some_iff.mp hi).1; omega) (ht i x H1 (e.trans e1) hi) (fun hf => he i x H1 (e.trans e1) hi hf)⟩)
    (fun H' p => q Dl H' (fresh_back e1 p.1) (e1.trans p.2.1) p.2.2)⟩
theorem walk_zipT {a b : Addr} {xs ys : List V} {n : Nat} (hn : n = min xs.length ys.length) : Walk (RZ.ItzT K a b) n (fun H => SqT K H a xs ∧ SqT K H b ys) (YPair (fun i => xs[i]?) (fun i => ys[i]?)) := by
  subst hn
  refine ⟨fun i _ hi g => ?_, fun _ g => ⟨xs, ys, g.1, g.2, by omega⟩, fun i H v H' _ g yy => ?_⟩
  · have l1 : i < xs.length := by omega
    have l2 : i < ys.length := by omega
    exact ⟨xs, ys, xs[i], ys[i], g.1, g.2, List.getElem?_eq_getElem l1, List.getElem?_eq_getElem l2⟩
  · obtain ⟨T, x, z, e1, e2, e3, e4, e5⟩ := yy
    exact ⟨T, x, z, e1, e2, e3, e4 xs g.1, e5 ys g.2⟩
theorem given_map {n : Nat} {f : Nat → Bool} {v : Nat → V} (hf : ∀ i, f i = true) : given n f v = (List.range n).map v := by
  unfold given
  rw [List.filter_eq_self.mpr (fun a _ => hf a)]
theorem rc_all {a : Addr} {bs : List Bool} (h : SqL K H a (bs.map V.bl)) : RC (rAll K) [.ref a] H (.bl (bs.all id)) := fun H1 e Q q => ⟨a, bs, rfl, ex_l e h, q H1 (Ex.refl _)⟩
/-- all([..]) of a new list of truths -/
theorem ev_all {bs : List Bool} (h : EvL te σ H (bs.map V.bl)) : Ev (tCB (rAll K) (tCons te tNil)) σ H (.bl (bs.all id)) := fun H1 e Q q =>
  h H1 e _ fun p H2 _ e2 h2 => ⟨p, bs, rfl, sq_of h2, q H2 e2⟩
theorem et_yes : EvT tYes σ H true := fun H1 _ _ q => q H1 (Ex.refl _)
end
end K0

namespace K0
open PySem L2 Evl
section
variable {K : PySem.W.Frag} {σ : L2.St} {H H' : Hp} {ta tb te tx : TE} {t u : TT} {x y z v : V}
theorem ev_chain_of {σ : L2.St} {H : Hp} {ta tb tc : TE} {r r' : R2} {x y z : V} {a b : Bool} (ha : Ev ta σ H x) (hb : Ev tb σ H y) (hr : RV r x y H (.bl a)) (hc : Ev tc σ H z) (hr' : RV r' y z H (.bl b)) :
    Ev (tChain r r' ta tb tc) σ H (.bl (a && b)) := fun H1 e Q q =>
  ha H1 e _ fun H2 e2 => hb H2 (e.trans e2) _ fun H3 e3 => hr H3 ((e.trans e2).trans e3) _ fun H4 e4 => ⟨a, rfl, by
    cases a with
    | true => exact hc H4 (((e.trans e2).trans e3).trans e4) _ fun H5 e5 => hr' H5 ((((e.trans e2).trans e3).trans e4).trans e5) Q fun H6 e6 => q H6 ((((e2.trans e3).trans e4).trans e5).trans e6)
    | false => exact q H4 ((e2.trans e3).trans e4)⟩
theorem ev_one (h : Ev te σ H v) : Ev te σ H v := h
theorem rc_lenT {a : Addr} {xs : List V} (h : SqT K H a xs) : RC (fun xs H Q => ∃ x n, xs = [x] ∧ LenV K x H n ∧ Q (.int n) H) [.ref a] H (.int (xs.length : Nat)) := fun H1 e Q q =>
  ⟨_, xs.length, rfl, Or.inr ⟨xs, ex_t e h, rfl⟩, q H1 (Ex.refl _)⟩
theorem rc_lenL {a : Addr} {xs : List V} (h : SqL K H a xs) : RC (fun xs H Q => ∃ x n, xs = [x] ∧ LenV K x H n ∧ Q (.int n) H) [.ref a] H (.int (xs.length : Nat)) := fun H1 e Q q =>
  ⟨_, xs.length, rfl, Or.inl ⟨xs, ex_l e h, rfl⟩, q H1 (Ex.refl _)⟩
theorem rc_lenS {s : Str} (h : s.length ≤ sizeLine) : RC (fun xs H Q => ∃ x n, xs = [x] ∧ LenV K x H n ∧ Q (.int n) H) [.str s] H (.int (s.length : Nat)) := fun H1 e Q q =>
  ⟨_, s.length, rfl, ⟨h, rfl⟩, q H1 (Ex.refl _)⟩
/-- a comprehension over zip of two tuples, no test -/
theorem el_lcZ {a : Addr} {xs ys : List V} {t1 t2 : TE} {g : TG} {vs : List Nat} {n : Nat} (v : Nat → V) (h1 : Ev t1 σ H (.ref a)) (hx : SqT K H a xs) (h2 : EvW K t2 σ H ys) (hn : n = min xs.length ys.length) (hz : n ≤ 40000)
    (hg : ∀ i x y T H', xs[i]? = some x → ys[i]? = some y → H' T = some (.tup [x, y]) → ∃ σ2, (∀ k : L2.St → Hp → Prop, k σ2 H' → g (.ref T) (wipe σ vs) H' k) ∧ wipe σ2 vs = wipe σ vs ∧ Ev te σ2 H (v i)) :
    EvL (tLc (RZ.iZipA K (tCons t1 (tCons t2 tNil))) g tYes te vs) σ H ((List.range n).map v) := fun H0 e Q q =>
  h1 H0 e _ fun H1 e1 => h2 H1 (e.trans e1) _ fun b H2 e2 hy => ⟨a, b, xs, ys, rfl, Or.inr ⟨ex_t ((e.trans e1).trans e2) hx, hy, fun Dl hD => by
    have e02 := (e.trans e1).trans e2
    refine lc_it (walk_zipT hn) (Cw H2 (fun _ => true) v Dl) ⟨hD, Ex.new hD, upd_same⟩ (fun i H' _ p => ⟨ex_t p.2.1 (ex_t e02 hx), ex_t p.2.1 hy⟩) (fun i w H' H'' hi p yp => ?_) (fun H' p => ?_)
    · obtain ⟨T, x, y, rfl, hT, rfl, ex, ey⟩ := yp
      obtain ⟨σ2, k1, k2, k3⟩ := hg i x y T (upd H' T (.tup [x, y])) ex ey upd_same
      have hne : Dl ≠ T := ne_of_none p.2.2 hT
      have p' : Cw H2 (fun _ => true) v Dl i (upd H' T (.tup [x, y])) := ⟨p.1, p.2.1.trans (Ex.new hT), by rw [upd_ne hne]; exact p.2.2⟩
      exact k1 _ ⟨k2, cw_turn p' (by omega) et_yes (fun _ => k3.mono e02)⟩
    · have := p.2.2
      rw [given_map (fun _ => rfl)] at this
      exact q Dl H' (fresh_back (e1.trans e2) p.1) ((e1.trans e2).trans p.2.1) this⟩⟩
theorem rv_le {i j : Int} : RV (rI0 fun i j => .bl (decide (i ≤ j))) (.int i) (.int j) H (.bl (decide (i ≤ j))) := rv_I0
theorem rv_lt {i j : Int} : RV (rI0 fun i j => .bl (decide (i < j))) (.int i) (.int j) H (.bl (decide (i < j))) := rv_I0
theorem rv_isN : RV (fun x y H Q => y = .non ∧ Q (.bl (decide (x = .non))) H) x .non H (.bl (decide (x = .non))) := fun H1 _ _ q => ⟨rfl, q H1 (Ex.refl _)⟩
theorem rc_strip {a b : Str} (h : a.length ≤ sizeLine) : ∀ H1, Ex H H1 → ∀ Q : VK, (∀ H2, Ex H1 H2 → Q (.str (Txt.stripChars a b)) H2) → (fun (x : V) (xs : List V) (H : Hp) (Q : VK) => ∃ a b, x = .str a ∧ xs = [.str b] ∧ a.length ≤ sizeLine ∧ Q (.str (Txt.stripChars a b)) H) (.str a) [.str b] H1 Q :=
  fun H1 _ _ q => ⟨a, b, rfl, rfl, h, q H1 (Ex.refl _)⟩
end
/-! ### the judges of stage 1 as functions of data -/
def D.within (lo hi : Int) : D → Bool
  | .int i => numB i && (decide (lo ≤ i) && decide (i ≤ hi)) | _ => false
def D.toInt : D → Int
  | .int i => i | _ => 0
def ascB : List Int → Bool
  | a :: b :: r => decide (a < b) && ascB (b :: r)
  | _ => true
def D.indices (m : Int) : D → Bool
  | .tup ds => ds.all (D.within 0 (m - 1)) && ascB (ds.map D.toInt) | _ => false
def D.circle : D → Bool
  | .tup ds => D.indices 9 (.tup ds) && (decide (1 ≤ ds.length) && decide (ds.length ≤ 7)) | _ => false
def D.word (signs : Str) (most : Int) : D → Bool
  | .str s => decide ((s.length : Int) ≤ most) && s.cps.toList.all signs.cps.contains | _ => false
def D.nonEmpty : D → Bool
  | .str s => decide (0 < s.length) | _ => false
abbrev letters : Str := "abcdefghijklmnopqrstuvwxyz"
abbrev signs37 : Str := "abcdefghijklmnopqrstuvwxyz0123456789 "
def D.key (d : D) : Bool := d.word letters 8 && d.nonEmpty
def D.short (d : D) : Bool := d.within (-(999999999999)) 999999999999
def D.value (d : D) : Bool := d.short || d.word signs37 12
def D.single : D → Bool
  | .non => true
  | .int i => numB i
  | .str s => D.word signs37 3000 (.str s)
  | _ => false
/-- plain, at most n deep -/
def D.plain : Nat → D → Bool
  | 0, d => d.single
  | n + 1, .tup ds => ds.all (D.plain n)
  | _ + 1, d => d.single
def D.small : D → Prop
  | .tup ds => ds.length ≤ 40000 | _ => True
theorem all_getD (ds : List D) (f : D → Bool) : ((List.range ds.length).all fun i => f (ds.getD i .non)) = ds.all f := by
  induction ds with
  | nil => rfl
  | cons d ds ih =>
    rw [List.length_cons, List.range_succ_eq_map, List.all_cons, List.all_cons, List.all_map, ← ih]
    rfl
theorem ints_of {K : PySem.W.Frag} {H : Hp} {lo hi : Int} : ∀ (xs : List V) (ds : List D), RpAll K H xs ds → ds.all (D.within lo hi) = true → xs = (ds.map D.toInt).map V.int
  | _, _, .nil, _ => rfl
  | _, _, .cons (d := d) h r, e => by
    rw [List.all_cons, Bool.and_eq_true] at e
    rw [List.map_cons, List.map_cons, ← ints_of _ _ r e.2]
    cases h with
    | int i => rfl
    | _ => exact absurd e.1 (by simp [D.within])
section
variable {P : Program} {w : World} {K : PySem.W.Frag} {mg : Str → Option Value} {base : Heap} {A : Ad} {D : Fd}
def sp_is_within (K : PySem.W.Frag) : Sp := fun vs H Q _ => ∃ x d lo hi, vs = [x, .int lo, .int hi] ∧ Rp K H x d ∧ RetV (.bl (d.within lo hi)) H Q
theorem len_is_within {vs : List V} {H : Hp} {Q : VK} {E : XK} (h : sp_is_within K vs H Q E) : vs.length = 3 := by
  obtain ⟨x, d, lo, hi, rfl, _⟩ := h
  rfl
theorem sv_within {H : Hp} {x : V} {d : K0.D} {lo hi : Int} (h : Rp K H x d) : SpV (sp_is_within K) [x, .int lo, .int hi] H (.bl (d.within lo hi)) := fun H1 e Q q E => ⟨x, d, lo, hi, rfl, h.ex e, q⟩
/-- row: a tuple of ints -/
def sp_are_ascending (K : PySem.W.Frag) : Sp := fun vs H Q _ => ∃ a ns, vs = [.ref a] ∧ SqT K H a (ns.map V.int) ∧ ns.length ≤ 40000 ∧ RetV (.bl (ascB ns)) H Q
theorem len_are_ascending {vs : List V} {H : Hp} {Q : VK} {E : XK} (h : sp_are_ascending K vs H Q E) : vs.length = 1 := by
  obtain ⟨a, ns, rfl, _⟩ := h
  rfl
theorem sv_asc {H : Hp} {a : Addr} {ns : List Int} (h : SqT K H a (ns.map V.int)) (hl : ns.length ≤ 40000) : SpV (sp_are_ascending K) [.ref a] H (.bl (ascB ns)) := fun H1 e Q q E => ⟨a, ns, rfl, ex_t e h, hl, q⟩
theorem cut1 (xs : List V) : cutV xs (some 1) none = xs.drop 1 := by
  unfold cutV
  have h1 : HT.sIx xs.length 0 (some 1) = min 1 xs.length := HT.sIx_nat _ _ 1
  have h2 : HT.sIx xs.length xs.length none = xs.length := rfl
  rw [h1, h2]
  cases xs with
  | nil => rfl
  | cons x xs =>
    have : min 1 (x :: xs).length = 1 := by simp
    rw [this]
    exact List.take_of_length_le (by simp)
theorem asc_all : ∀ ns : List Int, ((List.range (ns.length - 1)).map fun i => decide (ns.getD i 0 < ns.getD (i + 1) 0)).all id = ascB ns
  | [] => rfl
  | [a] => rfl
  | a :: b :: r => by
    have ih := asc_all (b :: r)
    have e1 : (a :: b :: r).length - 1 = ((b :: r).length - 1) + 1 := by simp
    rw [e1, List.range_succ_eq_map, List.map_cons, List.all_cons, List.map_map]
    show (decide (a < b) && _) = (decide (a < b) && ascB (b :: r))
    rw [← ih]
    rfl
def sp_are_indices (K : PySem.W.Frag) : Sp := fun vs H Q _ => ∃ x d m, vs = [x, .int m] ∧ Rp K H x d ∧ d.small ∧ RetV (.bl (d.indices m)) H Q
theorem len_are_indices {vs : List V} {H : Hp} {Q : VK} {E : XK} (h : sp_are_indices K vs H Q E) : vs.length = 2 := by
  obtain ⟨x, d, m, rfl, _⟩ := h
  rfl
theorem sv_indices {H : Hp} {x : V} {d : K0.D} {m : Int} (h : Rp K H x d) (hs : d.small) : SpV (sp_are_indices K) [x, .int m] H (.bl (d.indices m)) := fun H1 e Q q E => ⟨x, d, m, rfl, h.ex e, hs, q⟩
end
end K0

namespace K0
open PySem L2 Evl
section
variable {K : PySem.W.Frag} {σ : L2.St} {H H' : Hp} {ta tb te tx : TE} {t u : TT} {x y z v : V}
theorem et_truL {a : Addr} {xs : List V} (h : Ev te σ H (.ref a)) (hx : SqL K H a xs) : EvT (fun σ H Q => te σ H fun x H' => ∃ k, TruV K x H' k ∧ Q k H') σ H (!xs.isEmpty) := fun H1 e Q q =>
  h H1 e _ fun H2 e2 => ⟨_, Or.inl ⟨xs, ex_l (e.trans e2) hx, rfl⟩, q H2 e2⟩
/-- [y for row in rows for y in row]: rows a list of tuples -/
theorem el_flat {a : Addr} {rs : List Addr} {rows : List (List V)} {tl : TE} {j j1 : Nat} {vs vs1 : List Nat} (h : Ev tl σ H (.ref a)) (hx : SqL K H a (rs.map V.ref)) (hl : rs.length = rows.length)
    (hr : ∀ (i : Nat) r row, rs[i]? = some r → rows[i]? = some row → SqT K H r row) (hz : rows.flatten.length ≤ 40000)
    (hw : ∀ x, wipe ((wipe σ vs).set j (some x)) vs = wipe σ vs) (hj : ∀ x, ((wipe σ vs).set j (some x))[j]? = some (some x))
    (hw1 : ∀ x y, wipe ((wipe ((wipe σ vs).set j (some x)) vs1).set j1 (some y)) vs1 = wipe ((wipe σ vs).set j (some x)) vs1) (hj1 : ∀ x y, ((wipe ((wipe σ vs).set j (some x)) vs1).set j1 (some y))[j1]? = some (some y)) :
    EvL (tLc2 (iList K tl) (gName j) tYes (iTup K (tVar j)) (gName j1) tYes (tVar j1) vs vs1) σ H rows.flatten := fun H0 e Q q =>
  h H0 e _ fun H1 e1 => ⟨a, rfl, ⟨_, ex_l (e.trans e1) hx⟩, fun Dl hD => by
    refine ⟨fun i m H' => m = rs.length - i ∧ i ≤ rs.length ∧ Ex H1 H' ∧ H' Dl = some (.lst (rows.take i).flatten), ⟨rs.length, by simp, Nat.zero_le _, Ex.new hD, upd_same⟩, ?_⟩
    rintro i m H' ⟨rfl, hi, p1, p2⟩
    have hxl := ex_l ((e.trans e1).trans p1) hx
    by_cases hlt : i < rs.length
    · have hlt2 : i < rows.length := by omega
      have g1 : rs[i]? = some rs[i] := List.getElem?_eq_getElem hlt
      have g2 : rows[i]? = some rows[i] := List.getElem?_eq_getElem hlt2
      have et : rows.take (i + 1) = rows.take i ++ [rows[i]] := by rw [List.take_succ, g2] <;> rfl
      have efl : ((rows.take (i + 1)).flatten).length ≤ rows.flatten.length := by
        have : rows.flatten = (rows.take (i + 1)).flatten ++ (rows.drop (i + 1)).flatten := by rw [← List.flatten_append, List.take_append_drop]
        rw [this, List.length_append]
        omega
      have efl2 : ((rows.take (i + 1)).flatten).length = ((rows.take i).flatten).length + rows[i].length := by rw [et, List.flatten_append]; simp
      have hrow := hr i _ _ g1 g2
      refine .inr ⟨⟨rs.map V.ref, .ref rs[i], hxl, by rw [List.getElem?_map, g1]; rfl⟩, fun H2 => Ex H1 H2 ∧ H2 Dl = some (.lst (rows.take (i + 1)).flatten), fun H2 k => ⟨rs.length - (i + 1), by omega, rfl, hlt, k⟩, fun y H2 yy => ?_⟩
      obtain ⟨rfl, yy⟩ := yy
      have ey := yy _ hxl
      rw [List.getElem?_map, g1] at ey
      have ey : V.ref rs[i] = y := Option.some.inj ey
      subst ey
      refine ⟨hw _, ?_⟩
      refine ⟨_, hj _, rs[i], rfl, ⟨_, ex_t ((e.trans e1).trans p1) hrow⟩, fun jj kk H3 => kk = rows[i].length - jj ∧ jj ≤ rows[i].length ∧ Ex H1 H3 ∧ H3 Dl = some (.lst ((rows.take i).flatten ++ rows[i].take jj)), ⟨_, rfl, Nat.zero_le _, p1, by rw [p2]; simp⟩, ?_⟩
      rintro jj kk H3 ⟨rfl, hjj, q1, q2⟩
      have hrow3 := ex_t ((e.trans e1).trans q1) hrow
      by_cases hlj : jj < rows[i].length
      · have g3 : rows[i][jj]? = some rows[i][jj] := List.getElem?_eq_getElem hlj
        refine .inr ⟨⟨rows[i], rows[i][jj], hrow3, g3⟩, fun H4 => Ex H1 H4 ∧ H4 Dl = some (.lst ((rows.take i).flatten ++ rows[i].take (jj + 1))), fun H4 k => ⟨rows[i].length - (jj + 1), by omega, rfl, hlj, k⟩, fun y H4 yy => ?_⟩
        obtain ⟨rfl, yy⟩ := yy
        have ey := yy _ hrow3
        rw [g3] at ey
        have ey : rows[i][jj] = y := Option.some.inj ey
        subst ey
        refine ⟨hw1 _ _, _, hj1 _ _, _, q2, ?_, ?_, ?_⟩
        · have : ((rows.take i).flatten ++ rows[i].take jj).length ≤ 40000 := by rw [List.length_append, List.length_take]; omega
          exact sz_lt (by omega)
        · exact Ex.mut q1 hD
        · rw [upd_same, List.append_assoc, List.take_succ, g3]
          rfl
      · have : jj = rows[i].length := by omega
        subst this
        refine .inl ⟨⟨rows[i], hrow3, Nat.le_refl _⟩, q1, ?_⟩
        rw [q2, et, List.flatten_append, List.take_length]
        simp
    · have : i = rs.length := by omega
      subst this
      refine .inl ⟨⟨_, hxl, by rw [List.length_map]; exact Nat.le_refl _⟩, q Dl H' (fresh_back e1 hD) (e1.trans p1) ?_⟩
      rw [p2, hl, List.take_length]⟩
end
mutual
/-- how much of a value there is: signs and members -/
def D.size : D → Nat
  | .str s => 1 + s.length / 100
  | .tup ds => 1 + D.sizeL ds
  | _ => 1
def D.sizeL : List D → Nat
  | [] => 0
  | d :: ds => d.size + D.sizeL ds
end
theorem sizeL_len : ∀ ds : List D, ds.length ≤ D.sizeL ds
  | [] => Nat.le_refl _
  | d :: ds => by
    have := sizeL_len ds
    have h1 : 1 ≤ d.size := by cases d <;> simp [D.size]
    simp only [List.length_cons, D.sizeL]
    omega
theorem sizeL_app : ∀ ds es : List D, D.sizeL (ds ++ es) = D.sizeL ds + D.sizeL es
  | [], es => by simp [D.sizeL]
  | d :: ds, es => by
    show d.size + D.sizeL (ds ++ es) = d.size + D.sizeL ds + D.sizeL es
    rw [sizeL_app ds es]
    omega
theorem size_mem : ∀ {ds : List D} {d : D}, d ∈ ds → d.size ≤ D.sizeL ds
  | a :: ds, d, h => by
    rcases List.mem_cons.mp h with h | h
    · subst h
      simp only [D.sizeL]
      omega
    · have := size_mem h
      simp only [D.sizeL]
      omega
def D.kids : D → List D
  | .tup ds => ds | _ => []
end K0

namespace K0
open PySem L2 Evl
section
variable {P : Program} {w : World} {K : PySem.W.Frag} {mg : Str → Option Value} {base : Heap} {A : Ad} {D : Fd}
/-- a judge of values that are not too great -/
def spS (f : K0.D → Bool) (K : PySem.W.Frag) : Sp := fun vs H Q _ => ∃ x d, vs = [x] ∧ Rp K H x d ∧ d.size ≤ 30000 ∧ RetV (.bl (f d)) H Q
theorem spS_len {f : K0.D → Bool} {vs : List V} {H : Hp} {Q : VK} {E : XK} (h : spS f K vs H Q E) : vs.length = 1 := by
  obtain ⟨x, d, rfl, _⟩ := h
  rfl
theorem svS {f : K0.D → Bool} {H : Hp} {x : V} {d : K0.D} (h : Rp K H x d) (hs : d.size ≤ 30000) : SpV (spS f K) [x] H (.bl (f d)) := fun H1 e Q q E => ⟨x, d, rfl, h.ex e, hs, q⟩
theorem small_of {d : K0.D} (h : d.size ≤ 30000) : d.small := by
  cases d with
  | tup ds =>
    have := sizeL_len ds
    simp only [K0.D.size] at h
    show ds.length ≤ 40000
    omega
  | _ => trivial
theorem sline {n : Nat} (h : n ≤ 3000000) : n ≤ sizeLine := by rw [sizeLine_eq]; omega
def sp_is_made_of (K : PySem.W.Frag) : Sp := fun vs H Q _ => ∃ x d sg m, vs = [x, .str sg, .int m] ∧ Rp K H x d ∧ d.size ≤ 30000 ∧ RetV (.bl (d.word sg m)) H Q
theorem len_is_made_of {vs : List V} {H : Hp} {Q : VK} {E : XK} (h : sp_is_made_of K vs H Q E) : vs.length = 3 := by
  obtain ⟨x, d, sg, m, rfl, _⟩ := h
  rfl
theorem sv_made {H : Hp} {x : V} {d : K0.D} {sg : Str} {m : Int} (h : Rp K H x d) (hs : d.size ≤ 30000) : SpV (sp_is_made_of K) [x, .str sg, .int m] H (.bl (d.word sg m)) := fun H1 e Q q E => ⟨x, d, sg, m, rfl, h.ex e, hs, q⟩
/-- s.strip(t) -/
theorem ev_strip {σ : L2.St} {H : Hp} {ta tb : TE} {a b : Str} (ha : Ev ta σ H (.str a)) (hb : Ev tb σ H (.str b)) (h : a.length ≤ sizeLine) :
    Ev (tBM K "str" (fun (x : V) (xs : List V) (H : Hp) (Q : VK) => ∃ a b, x = .str a ∧ xs = [.str b] ∧ a.length ≤ sizeLine ∧ Q (.str (Txt.stripChars a b)) H) ta (tCons tb tNil)) σ H (.str (Txt.stripChars a b)) := fun H1 e Q q =>
  ha H1 e _ fun H2 e2 => ⟨rfl, hb H2 (e.trans e2) _ fun H3 e3 => ⟨a, b, rfl, rfl, h, q H3 (e2.trans e3)⟩⟩
theorem ok_is_made_of (T : Txt K mg A D) : FnOk P w K mg base CX0 1 A.is_made_of D.is_made_of ["value", "signs", "most"] (sp_is_made_of K) := by
  refine T.F_is_made_of.ok sc_is_made_of (fun vs H Q E h => len_is_made_of h) (fun cdv A0 outer s H vs Q E hr h => ?_)
  refine ⟨_, (pss_one (ps_ret (pe_and (pe_callB call_isi (by rfl) T.b_isinstance (by decide +kernel) (pa_cons (pv 0) (pa_cons (pe_bltn (v := .ty "str") (u := .type "str") (by rfl) T.b_str (by decide +kernel) rfl) pa_nil))) (pe_and (pe_cmpR op_le (pe_callB call_len (by rfl) T.b_len (by decide +kernel) (pa_cons (pv 0) pa_nil)) (pv 2) (nomark _)) (pe_one (pe_cmpR op_eq (pe_bm PySem.F.plainAttrs_str PySem.F.slot_str_strip PySem.F.type_str_strip mt_stripChars (pv 0) (pa_cons (pv 1) pa_nil)) pe_str (nomark _))))))), ?_⟩
  obtain ⟨x, d, sg, m, rfl, hx, hs, k⟩ := h
  refine s_ret (ev_is (ev_andV (a := d.isStr) (b := d.word sg m) (ev_cb (ea_cons (ev_var rfl) (ea_cons ev_c ea_nil)) (rc_str hx)) fun hb => ?_) ?_) fun H2 e2 => k H2 e2
  · obtain ⟨s, rfl, rfl⟩ := hx.isS hb
    have hl : s.length ≤ sizeLine := sline (by simp only [K0.D.size] at hs; omega)
    refine ev_andV (a := decide ((s.length : Int) ≤ m)) (ev_op (ev_cb (ea_cons (ev_var rfl) ea_nil) (rc_lenS hl)) (ev_var rfl) rv_I0) fun _ => ?_
    refine ev_is (ev_op (ev_strip (ev_var rfl) (ev_var rfl) hl) ev_c (rv_eq rfl)) ?_
    exact congrArg V.bl (strip_all _ _)
  · cases d <;> rfl
def D.isNon : K0.D → Bool
  | .non => true | _ => false
theorem Rp.isN {H : Hp} {x : V} {d : K0.D} (h : Rp K H x d) : decide (x = V.non) = d.isNon := by cases h <;> rfl
def sp_is_single (K : PySem.W.Frag) : Sp := spS K0.D.single K
theorem len_is_single {vs : List V} {H : Hp} {Q : VK} {E : XK} (h : sp_is_single K vs H Q E) : vs.length = 1 := spS_len h
theorem ok_is_single (T : Txt K mg A D) : FnOk P w K mg base CX0 2 A.is_single D.is_single ["value"] (sp_is_single K) := by
  have G_is_number : FnOk P w K mg base CX0 1 A.is_number D.is_number ["value"] (sp_is_number K) := ok_is_number T
  have G_is_made_of : FnOk P w K mg base CX0 1 A.is_made_of D.is_made_of ["value", "signs", "most"] (sp_is_made_of K) := ok_is_made_of T
  obtain ⟨t_MAX_STRING, c_MAX_STRING⟩ := T.c_MAX_STRING
  obtain ⟨t_SIGNS, c_SIGNS⟩ := T.c_SIGNS
  refine T.F_is_single.ok sc_is_single (fun vs H Q E h => len_is_single h) (fun cdv A0 outer s H vs Q E hr h => ?_)
  refine ⟨_, (pss_one (ps_ret (pe_or (pe_cmpR op_isN (pv 0) pe_non (nomark _)) (pe_or (pe_call G_is_number (hr.mono (by decide)) rfl T.g_is_number T.F_is_number.kp T.b_is_number .nil pass0 (pa_cons (pv 0) pa_nil)) (pe_one (pe_call G_is_made_of (hr.mono (by decide)) rfl T.g_is_made_of T.F_is_made_of.kp T.b_is_made_of .nil pass0 (pa_cons (pv 0) (pa_cons (pe_glob (v := .str "abcdefghijklmnopqrstuvwxyz0123456789 ") rfl c_SIGNS ⟨_, rfl⟩) (pa_cons (pe_glob (v := .int (3000)) rfl c_MAX_STRING ⟨_, rfl⟩) pa_nil))))))))), ?_⟩
  obtain ⟨x, d, rfl, hx, hs, k⟩ := h
  refine s_ret (ev_is (ev_orV (a := d.isNon) (b := d.num || d.word signs37 3000) (ev_is (ev_op (ev_var rfl) ev_c rv_isN) (congrArg V.bl hx.isN)) fun _ => ?_) ?_) fun H2 e2 => k H2 e2
  · exact ev_orV (ev_call (ea_cons (ev_var rfl) ea_nil) (sv1 hx)) fun _ => ev_call (ea_cons (ev_var rfl) (ea_cons ev_c (ea_cons ev_c ea_nil))) (sv_made hx hs)
  · cases d with
    | int i =>
      show V.bl (false || (numB i || false)) = V.bl (numB i)
      cases numB i <;> rfl
    | _ => rfl
end
end K0

namespace K0
open PySem L2 Evl
def tupsL : List D → List (List D)
  | [] => []
  | .tup es :: r => es :: tupsL r
  | _ :: r => tupsL r
theorem tupsL_app : ∀ a b : List D, tupsL (a ++ b) = tupsL a ++ tupsL b
  | [], _ => rfl
  | d :: r, b => by
    cases d <;> first | exact congrArg _ (tupsL_app r b) | exact tupsL_app r b
def okTop (d : D) : Bool := d.isTup || d.single
theorem plain_flat {j : Nat} : ∀ ds : List D, ds.all okTop = true → ds.all (D.plain (j + 1)) = (tupsL ds).flatten.all (D.plain j)
  | [], _ => rfl
  | d :: r, h => by
    rw [List.all_cons, Bool.and_eq_true] at h
    have ih := plain_flat (j := j) r h.2
    rw [List.all_cons, ih]
    cases d with
    | tup es =>
      show (es.all (D.plain j) && _) = ((es :: tupsL r).flatten).all _
      rw [List.flatten_cons, List.all_append]
    | non => rfl
    | bl b => exact absurd h.1 (by simp [okTop, D.isTup, D.single])
    | int i =>
      have hs : D.single (.int i) = true := h.1
      show (D.single (.int i) && _) = _
      rw [hs, Bool.true_and]
      rfl
    | str s =>
      have hs : D.single (.str s) = true := h.1
      show (D.single (.str s) && _) = _
      rw [hs, Bool.true_and]
      rfl
    | oth => exact absurd h.1 (by simp [okTop, D.isTup, D.single])
theorem plain_single {n : Nat} {d : D} (h : d.isTup = false) : d.plain n = d.single := by
  cases n <;> cases d <;> first | rfl | cases h
theorem plain_none : ∀ {ds : List D} {n : Nat}, ds.all okTop = true → tupsL ds = [] → ds.all (D.plain n) = true
  | [], _, _, _ => rfl
  | d :: r, n, h, e => by
    rw [List.all_cons, Bool.and_eq_true] at h
    cases ht : d.isTup with
    | true =>
      cases d with
      | tup es => exact absurd e (by simp [tupsL])
      | _ => cases ht
    | false =>
      have h1 : d.single = true := by
        have := h.1
        unfold okTop at this
        rw [ht, Bool.false_or] at this
        exact this
      have e' : tupsL r = [] := by cases d <;> first | exact e | cases ht
      rw [List.all_cons, plain_single ht, h1, Bool.true_and]
      exact plain_none h.2 e'
theorem plain_deep : ∀ {ds : List D}, tupsL ds ≠ [] → ds.all (D.plain 0) = false
  | [], h => absurd rfl h
  | d :: r, h => by
    cases ht : d.isTup with
    | true =>
      cases d with
      | tup es => rfl
      | _ => cases ht
    | false =>
      have h' : tupsL r ≠ [] := by cases d <;> first | exact h | cases ht
      rw [List.all_cons, plain_deep h', Bool.and_false]
theorem size_flat : ∀ ds : List D, D.sizeL (tupsL ds).flatten + (tupsL ds).length ≤ D.sizeL ds
  | [] => Nat.le_refl _
  | d :: r => by
    have ih := size_flat r
    cases d with
    | tup es =>
      show D.sizeL (es :: tupsL r).flatten + (tupsL r).length.succ ≤ D.size (.tup es) + D.sizeL r
      rw [List.flatten_cons, sizeL_app]
      simp only [D.size]
      omega
    | _ =>
      simp only [D.sizeL]
      show D.sizeL (tupsL r).flatten + (tupsL r).length ≤ _
      omega
theorem tups_nil_empty : D.sizeL ([] : List D) = 0 := rfl
inductive Rows (K : PySem.W.Frag) (H : Hp) : List Addr → List (List V) → List (List D) → Prop where
  | nil : Rows K H [] [] []
  | cons {r : Addr} {row : List V} {es : List D} {rs : List Addr} {rows : List (List V)} {ess : List (List D)} : SqT K H r row → RpAll K H row es → Rows K H rs rows ess → Rows K H (r :: rs) (row :: rows) (es :: ess)
section
variable {K : PySem.W.Frag} {H H' : Hp}
theorem Rows.snoc {r : Addr} {row : List V} {es : List D} (h : SqT K H r row) (hr : RpAll K H row es) : ∀ {rs : List Addr} {rows : List (List V)} {ess : List (List D)}, Rows K H rs rows ess → Rows K H (rs ++ [r]) (rows ++ [row]) (ess ++ [es])
  | _, _, _, .nil => .cons h hr .nil
  | _, _, _, .cons a b c => .cons a b (Rows.snoc h hr c)
theorem Rows.len : ∀ {rs : List Addr} {rows : List (List V)} {ess : List (List D)}, Rows K H rs rows ess → rs.length = rows.length ∧ rs.length = ess.length
  | _, _, _, .nil => ⟨rfl, rfl⟩
  | _, _, _, .cons _ _ c => ⟨by rw [List.length_cons, List.length_cons, c.len.1], by rw [List.length_cons, List.length_cons, c.len.2]⟩
theorem Rows.get : ∀ {rs : List Addr} {rows : List (List V)} {ess : List (List D)}, Rows K H rs rows ess → ∀ (i : Nat) r row, rs[i]? = some r → rows[i]? = some row → SqT K H r row
  | _, _, _, .nil, i, r, row, h, _ => by simp at h
  | _, _, _, .cons a _ c, 0, r, row, h, h' => by
    have e1 := Option.some.inj h
    have e2 := Option.some.inj h'
    subst e1 e2
    exact a
  | _, _, _, .cons _ _ c, i + 1, r, row, h, h' => Rows.get c i r row (by simpa using h) (by simpa using h')
theorem Rows.flat : ∀ {rs : List Addr} {rows : List (List V)} {ess : List (List D)}, Rows K H rs rows ess → RpAll K H rows.flatten ess.flatten
  | _, _, _, .nil => .nil
  | _, _, _, .cons _ b c => by
    rw [List.flatten_cons, List.flatten_cons]
    exact RpAll.app b (Rows.flat c)
end
section
variable {P : Program} {w : World} {K : PySem.W.Frag} {mg : Str → Option Value} {base : Heap} {A : Ad} {D : Fd}
def sp_is_plain_within (K : PySem.W.Frag) : Sp := fun vs H Q _ => ∃ x d, ∃ n : Nat, vs = [x, .int (n : Int)] ∧ Rp K H x d ∧ d.size ≤ 30000 ∧ RetV (.bl (d.plain n)) H Q
theorem len_is_plain_within {vs : List V} {H : Hp} {Q : VK} {E : XK} (h : sp_is_plain_within K vs H Q E) : vs.length = 2 := by
  obtain ⟨x, d, n, rfl, _⟩ := h
  rfl
theorem sv_within_plain {H : Hp} {x : V} {d : K0.D} {n : Nat} (h : Rp K H x d) (hs : d.size ≤ 30000) : SpV (sp_is_plain_within K) [x, .int (n : Int)] H (.bl (d.plain n)) := fun H1 e Q q E => ⟨x, d, n, rfl, h.ex e, hs, q⟩
def PlainW (K : PySem.W.Frag) (H : Hp) (x : V) (d : K0.D) (n : Nat) (m : Nat) (σ : L2.St) (H' : Hp) : Prop :=
  ∃ (lv : Addr) (xs : List V) (ds : List K0.D) (k : Nat) (v4 v5 : Option V), σ = [some x, some (.int (n : Int)), some (.ref lv), some (.int (k : Int)), v4, v5, none, none] ∧ H' lv = some (.lst xs) ∧ RpAll K H' xs ds ∧ Ex H H' ∧
    K0.D.sizeL ds = m ∧ m ≤ 30000 ∧ k ≤ n ∧ d.plain n = ds.all (K0.D.plain (n - k))
def PlainP (K : PySem.W.Frag) (H1 : Hp) (x : V) (n k : Nat) (lv p : Addr) (ds : List K0.D) (i : Nat) (σ : L2.St) (H' : Hp) : Prop :=
  ∃ (ys : List Addr) (rows : List (List V)) (v5 : Option V), σ = [some x, some (.int (n : Int)), some (.ref lv), some (.int (k : Int)), some (.ref p), v5, none, none] ∧ Ex H1 H' ∧ H' p = some (.lst (ys.map V.ref)) ∧
    Rows K H1 ys rows (tupsL (ds.take i)) ∧ (ds.take i).all okTop = true ∧ ys.length ≤ i
theorem ok_is_plain_within (T : Txt K mg A D) : FnOk P w K mg base CX0 3 A.is_plain_within D.is_plain_within ["value", "most"] (sp_is_plain_within K) := by
  have G_is_single : FnOk P w K mg base CX0 2 A.is_single D.is_single ["value"] (sp_is_single K) := ok_is_single T
  refine T.F_is_plain_within.ok sc_is_plain_within (fun vs H Q E h => len_is_plain_within h) (fun cdv A0 outer s H vs Q E hr h => ?_)
  refine ⟨_, (pss_cons (ps_set (i := 2) sc_is_plain_within.nd rfl (Or.inl rfl) (pe_lst (pa_cons (pv 0) pa_nil)))
  (pss_cons (ps_set (i := 3) sc_is_plain_within.nd rfl (Or.inl rfl) pe_int)
  (pss_cons (ps_while PassesOwn.never (pt_truth (pv 2) (by intro _; rfl)) (pss_cons (ps_set (i := 4) sc_is_plain_within.nd rfl (Or.inl rfl) (pe_lst pa_nil))
  (pss_cons (ps_for PassesOwn.never rfl (pi_list (pv 2)) (pg_name (i := 5) sc_is_plain_within.nd rfl (Or.inl rfl)) (pss_one (ps_if (pt_val (pe_callB call_isi (by rfl) T.b_isinstance (by decide +kernel) (pa_cons (pv 5) (pa_cons (pe_bltn (v := .ty "tuple") (u := .type "tuple") (by rfl) T.b_tuple (by decide +kernel) rfl) pa_nil)))) (pss_one (ps_expr (pe_bm PySem.F.plainAttrs_list PySem.F.slot_list_append PySem.F.type_list_append mt_append (pv 4) (pa_cons (pv 5) pa_nil)))) (pss_one (ps_if (pt_not (pt_val (pe_call G_is_single (hr.mono (by decide)) rfl T.g_is_single T.F_is_single.kp T.b_is_single .nil pass0 (pa_cons (pv 5) pa_nil)))) (pss_one (ps_ret pe_bl)) pss_nil)))))
  (pss_cons (ps_if (pt_truth (pv 4) (by intro _; rfl)) (pss_one (ps_aug (i := 3) sc_is_plain_within.nd rfl (Or.inl rfl) pe_int ip_add)) pss_nil)
  (pss_cons (ps_if (pt_cmpR op_gt (pv 3) (pv 1) (nomark _)) (pss_one (ps_ret pe_bl)) pss_nil)
  (pss_one (ps_setLc2 (i := 2) (wi1 := iTup K (tVar 6)) (own := [("row", 6), ("member", 7)]) (vs1 := [7]) (g := gName 6) (g1 := gName 7) (tt := tYes) (tt1 := tYes) rfl sc_is_plain_within.nd rfl rfl (sw_true rfl rfl rfl (by decide +kernel)) (pi_list (pv 4)) (blkOk_by (own := [("row", 6), ("member", 7)]) (N := N_is_plain_within) (sc := defScope s_is_plain_within) (by decide +kernel)) (by decide) (fun _ _ _ _ _ => by exact pg_name (i := 6) sc_is_plain_within.nd rfl (Or.inl rfl)) (fun _ _ _ _ _ => pts_nil) (fun _ _ _ _ _ => by exact (pi_tup (pv 6))) (fun _ _ _ _ _ => by exact pg_name (i := 7) sc_is_plain_within.nd rfl (Or.inl rfl)) (fun _ _ _ _ _ => pts_nil) (fun _ _ _ _ _ => by exact (pv 7)))))))))
  (pss_one (ps_ret pe_bl))))), ?_⟩
  obtain ⟨x, d, n, rfl, hx, hs, k⟩ := h
  have wl : ∀ (lv : Addr) (xs : List V), xs.length = 1 → True := fun _ _ _ => trivial
  refine q_asgL (el_lst (ea_cons (ev_var rfl) ea_nil) (by simp)) fun lv H1 hlv e1 h1 => ?_
  refine q_asg ev_c fun H2 e2 => ?_
  refine q_while (PlainW K H x d n) _ ⟨lv, [x], [d], 0, none, none, rfl, e2 _ _ h1, .cons (hx.ex (e1.trans e2)) .nil, e1.trans e2, rfl, ?_, Nat.zero_le _, ?_⟩ ?_
  · simp only [K0.D.sizeL]
    omega
  · simp
  rintro m σ' H' ⟨lv, xs, ds, kk, v4, v5, rfl, hl, hr0, e0, hm, hm2, hk, hp⟩
  have hlen := hr0.len
  have hsl := sizeL_len ds
  refine ⟨!xs.isEmpty, et_truL (ev_var rfl) (sq_of hl), fun hb H3 e3 => ⟨fun σ2 H2 => ∃ m', m' < m ∧ PlainW K H x d n m' σ2 H2, fun σ2 H2 z => z, ?_⟩, fun hb H3 e3 => ?_⟩
  · -- a turn
    have hr3 := hr0.ex e3
    refine q_asgL (el_lst ea_nil (by decide)) fun p H4 hp4 e4 h4 => ?_
    refine q_forLn (xs := xs) (ev_var rfl) (sq_of (e4 _ _ (e3 _ _ hl))) (PlainP K H3 x n kk lv p ds) (fun H5 e5 => ?_) (fun i σ5 H5 hi q5 => ?_) (fun i y σ5 H5 hy q5 => ?_) (fun σ5 H5 q5 => ?_)
    · exact ⟨[], [], v5, rfl, e4.trans e5, e5 _ _ h4, .nil, rfl, Nat.le_refl _⟩
    · obtain ⟨ys, rows, w5, rfl, q1, _⟩ := q5
      exact sq_of (q1 _ _ (e3 _ _ hl))
    · obtain ⟨ys, rows, w5, rfl, q1, q2, q3, q4, q6⟩ := q5
      obtain ⟨di, hdi, hrp⟩ := RpAll.get _ _ _ _ hr3 hy
      have hmem : di ∈ ds := List.mem_of_getElem? hdi
      have hsz : di.size ≤ 30000 := by have := size_mem hmem; omega
      have hilt : i < xs.length := (List.getElem?_eq_some_iff.mp hy).1
      have etk : ds.take (i + 1) = ds.take i ++ [di] := by rw [List.take_succ, hdi]; rfl
      refine s_if (et_B (ev_cb (ea_cons (ev_var rfl) (ea_cons ev_c ea_nil)) (rc_tup (hrp.ex q1)))) (fun hb H6 e6 => ?_) (fun hb H6 e6 => ?_)
      · obtain ⟨r, row, es, rfl, rfl, hq, hra⟩ := hrp.isT hb
        refine s_app (e6 _ _ q2) (ev_var rfl) (ev_var rfl) (by rw [List.length_map]; omega) fun H7 e7 => ?_
        refine ⟨ys ++ [r], rows ++ [row], _, rfl, Ex.mut ((q1.trans e6).trans e7) hp4, ?_, ?_, ?_, ?_⟩
        · rw [upd_same, List.map_append]
          rfl
        · rw [etk, tupsL_app]
          exact Rows.snoc hq hra q3
        · rw [etk, List.all_append, q4]
          rfl
        · rw [List.length_append]
          simp
          omega
      · refine s_if (et_not (et_B (ev_call (ea_cons (ev_var rfl) ea_nil) (svS (hrp.ex (q1.trans e6)) hsz)))) (fun hb2 H7 e7 => ?_) (fun hb2 H7 e7 => ?_)
        · refine s_ret ev_c fun H8 e8 => ?_
          have := k H8 ((((e0.trans e3).trans q1).trans e6).trans (e7.trans e8))
          have hf : ds.all (K0.D.plain (n - kk)) = false := by
            have hdf : di.plain (n - kk) = false := by
              rw [plain_single hb]
              cases z : di.single with
              | true => rw [z] at hb2; cases hb2
              | false => rfl
            rw [List.all_eq_false]
            exact ⟨di, hmem, by rw [hdf]; decide⟩
          rw [hp, hf] at this
          exact this
        · have hsi : di.single = true := by
            cases z : di.single with
            | true => rfl
            | false => rw [z] at hb2; cases hb2
          refine ⟨ys, rows, _, rfl, (q1.trans e6).trans e7, e7 _ _ (e6 _ _ q2), ?_, ?_, by omega⟩
          · rw [etk, tupsL_app]
            have : tupsL [di] = [] := by cases di <;> first | rfl | cases hb
            rw [this, List.append_nil]
            exact q3
          · rw [etk, List.all_append, q4]
            show (true && ((di.isTup || di.single) && true)) = true
            rw [hsi]
            cases di.isTup <;> rfl
    · obtain ⟨ys, rows, w5, rfl, q1, q2, q3, q4, q6⟩ := q5
      rw [hlen, List.take_length] at q3 q4
      have hrl := q3.len
      have hszf := size_flat ds
      have hflen : rows.flatten.length ≤ 40000 := by
        have h1 := q3.flat.len
        have h2 := sizeL_len (tupsL ds).flatten
        omega
      have fin : ∀ (k' : Nat) (H8 : Hp), Ex H5 H8 → k' ≤ n → d.plain n = (tupsL ds).flatten.all (K0.D.plain (n - k')) → K0.D.sizeL (tupsL ds).flatten < m →
          tAsg (tLc2 (iList K (tVar 4)) (gName 6) tYes (iTup K (tVar 6)) (gName 7) tYes (tVar 7) [6, 7] [7]) (gName 2) { nx := fun σ2 H2 => ∃ m', m' < m ∧ PlainW K H x d n m' σ2 H2, rt := Q, bk := fun _ _ => False, ct := fun _ _ => False }
            [some x, some (.int (n : Int)), some (.ref lv), some (.int (k' : Int)), some (.ref p), w5, none, none] H8 := fun k' H8 e8 hk' hpl hlt => by
        refine s_asgL (el_flat (a := p) (ev_var rfl) (sq_of (e8 _ _ q2)) hrl.1 (fun i r row h1 h2 => ex_t (q1.trans e8) (q3.get i r row h1 h2)) hflen (fun _ => rfl) (fun _ => rfl) (fun _ _ => rfl) (fun _ _ => rfl)) fun lv2 H9 hlv2 e9 h9 => ?_
        exact ⟨_, hlt, lv2, rows.flatten, (tupsL ds).flatten, k', _, _, rfl, h9, q3.flat.ex ((q1.trans e8).trans e9), ((e0.trans e3).trans q1).trans (e8.trans e9), rfl, by omega, hk', hpl⟩
      have hne : ds ≠ [] := by
        intro z
        subst z
        have : xs = [] := by
          cases xs with
          | nil => rfl
          | cons a b => cases hr0
        subst this
        cases hb
      refine q_when (et_truL (ev_var rfl) (sq_of q2)) (fun hb6 H6 e6 => ?_) (fun hb6 H6 e6 => ?_)
      · have hys : tupsL ds ≠ [] := by
          intro z
          have h1 := hrl.2
          rw [z] at h1
          have h2 : ys = [] := List.length_eq_zero_iff.mp h1
          subst h2
          cases hb6
        have hpos : 0 < (tupsL ds).length := List.length_pos_iff.mpr hys
        refine s_aug (a := (kk : Int)) (b := 1) rfl ev_c fun H7 e7 => ?_
        refine q_when (b := decide ((n : Int) < (kk : Int) + 1)) (et_test (ev_op (ev_var rfl) (ev_var rfl) rv_I0)) (fun hb7 H8 e8 => ?_) (fun hb7 H8 e8 => ?_)
        · refine s_ret ev_c fun H9 e9 => ?_
          have := k H9 ((((e0.trans e3).trans q1).trans e6).trans ((e7.trans e8).trans e9))
          have hkn : n - kk = 0 := by
            have := of_decide_eq_true hb7
            omega
          rw [hp, hkn, plain_deep hys] at this
          exact this
        · have hkn : kk + 1 ≤ n := by
            have := of_decide_eq_false hb7
            omega
          refine fin (kk + 1) H8 ((e6.trans e7).trans e8) hkn ?_ (by omega)
          have e1 : n - kk = (n - (kk + 1)) + 1 := by omega
          rw [hp, e1]
          exact plain_flat ds q4
      · have hys : tupsL ds = [] := by
          have h1 : ys = [] := by
            cases ys with
            | nil => rfl
            | cons a b => cases hb6
          subst h1
          exact List.length_eq_zero_iff.mp hrl.2.symm
        refine q_when (b := decide ((n : Int) < (kk : Int))) (et_test (ev_op (ev_var rfl) (ev_var rfl) rv_I0)) (fun hb7 H8 e8 => ?_) (fun hb7 H8 e8 => ?_)
        · have := of_decide_eq_true hb7
          omega
        · have hpos : 0 < ds.length := List.length_pos_iff.mpr hne
          refine fin kk H8 (e6.trans e8) hk ?_ ?_
          · rw [hp, hys, plain_none q4 hys]
            rfl
          · rw [hys]
            show 0 < m
            omega
  · have : xs = [] := by
      cases xs with
      | nil => rfl
      | cons a b => cases hb
    subst this
    have hd : ds = [] := by
      cases ds with
      | nil => rfl
      | cons a b => cases hr0
    subst hd
    refine s_ret ev_c fun H4 e4 => ?_
    have := k H4 ((e0.trans e3).trans e4)
    rw [hp] at this
    exact this
def sp_is_plain (K : PySem.W.Frag) : Sp := spS (K0.D.plain 12) K
theorem len_is_plain {vs : List V} {H : Hp} {Q : VK} {E : XK} (h : sp_is_plain K vs H Q E) : vs.length = 1 := spS_len h
theorem ok_is_plain (T : Txt K mg A D) : FnOk P w K mg base CX0 4 A.is_plain D.is_plain ["value"] (sp_is_plain K) := by
  have G_is_plain_within : FnOk P w K mg base CX0 3 A.is_plain_within D.is_plain_within ["value", "most"] (sp_is_plain_within K) := ok_is_plain_within T
  obtain ⟨t_MAX_NEST, c_MAX_NEST⟩ := T.c_MAX_NEST
  refine T.F_is_plain.ok sc_is_plain (fun vs H Q E h => len_is_plain h) (fun cdv A0 outer s H vs Q E hr h => ?_)
  refine ⟨_, (pss_one (ps_ret (pe_call G_is_plain_within (hr.mono (by decide)) rfl T.g_is_plain_within T.F_is_plain_within.kp T.b_is_plain_within .nil pass0 (pa_cons (pv 0) (pa_cons (pe_glob (v := .int (12)) rfl c_MAX_NEST ⟨_, rfl⟩) pa_nil))))), ?_⟩
  obtain ⟨x, d, rfl, hx, hs, k⟩ := h
  exact s_ret (ev_call (ea_cons (ev_var rfl) (ea_cons ev_c ea_nil)) (sv_within_plain (n := 12) hx hs)) fun H2 e2 => k H2 e2
end
end K0

namespace K0
open PySem PySem.Spec PyProof.Rows L2 Evl
/-! ### more rules -/
section
variable {X : Cx}
/-- xs == [] for two lists of which one is empty -/
theorem op_eqNil (hu : X.A.units < cLine) : OpR X (compareOp .Eq) (fun x y H Q => ∃ a b xs, x = V.ref a ∧ y = V.ref b ∧ SqL X.K H a xs ∧ SqL X.K H b [] ∧ Q (.bl xs.isEmpty) H) := by
  intro pins s σ H x y v u Q I rx ry h
  obtain ⟨a, b, xs, rfl, rfl, ha, hb, q⟩ := h
  cases rx
  cases ry
  obtain ⟨its, r, p, _⟩ := I.list ha
  obtain ⟨its2, r2, p2, _⟩ := I.list hb
  cases r2
  cases xs with
  | nil =>
    cases r
    exact SeqAt.eq_listAt (e := fun _ => true) p.isList p2.isList rfl hu (fun j h1 _ => absurd h1 (by simp)) ⟨.bl true, H, I, rfl, q⟩
  | cons y ys =>
    refine SeqAt.eq_list_lengthsAt p.isList p2.isList ?_ hu ⟨.bl false, H, I, rfl, q⟩
    cases r with
    | cons r1 r2 => simp
theorem fold_size (x : Array Nat) : ∀ (n : Nat) (acc : Array Nat), ((List.replicate n x).foldl (· ++ ·) acc).size = acc.size + n * x.size
  | 0, acc => by simp
  | n + 1, acc => by
    rw [List.replicate_succ, List.foldl_cons, fold_size x n, Array.size_append, Nat.succ_mul]
    omega
/-- a text times a number: some text of that length -/
theorem op_mulS : OpR X (binaryOp .Mult) (fun x y H Q => ∃ (s : Str) (n : Nat), x = V.str s ∧ y = V.int (n : Int) ∧ 1 < n ∧ n ≤ 5000 ∧ s.length = 1 ∧ ∀ z : Str, z.length = n → Q (.str z) H) := by
  intro pins s σ H x y v u Q I rx ry h
  obtain ⟨a, n, rfl, rfl, h1, h2, hl, q⟩ := h
  obtain ⟨t, rfl⟩ := rx
  obtain ⟨t', rfl⟩ := ry
  have hs : sizeLine = 16777216 := sizeLine_eq
  have hn : ¬ ((n : Int) < 1) := by omega
  have hb : ((n : Int) == 1 || a.length == 0) = false := by
    rw [hl]
    simp
    omega
  have e : (⟨(List.replicate ((n : Int)).toNat a.cps).foldl (· ++ ·) #[]⟩ : Str).length = n := by
    show ((List.replicate ((n : Int)).toNat a.cps).foldl (· ++ ·) #[]).size = n
    rw [fold_size]
    show 0 + ((n : Int)).toNat * a.length = n
    rw [hl]
    omega
  refine PySem.P.mul_str ?_ (fun _ _ => ?_) (fun _ _ => ?_) ?_
  · have c1 : ¬ ((n : Int) < -(2 ^ 63 : Int)) := by omega
    have c2 : ¬ ((n : Int) ≥ 2 ^ 63) := by omega
    rw [decide_eq_false c1, decide_eq_false c2]
    rfl
  · rw [hl]
    have h3 : 1 ≤ (2 ^ 63 - 1 : Int) / (n : Int) := by
      rw [Int.le_ediv_iff_mul_le (by omega)]
      omega
    omega
  · rw [hl]
    unfold Builtin.Str.tooLong
    exact decide_eq_false (by omega)
  · rw [if_neg hn, if_neg (by rw [hb]; decide)]
    exact ⟨by rw [e, hs]; omega, ⟨.str _, H, I.tok _, ⟨_, rfl⟩, q _ e⟩⟩
/-- set(t), t a tuple of ints -/
def rSetT (K : PySem.W.Frag) (w : World) : List V → Hp → VK → Prop := fun vs H Q => ∃ (a : Addr) (ns : List Int), vs = [V.ref a] ∧ SqT K H a (ns.map V.int) ∧ ns.length ≤ 60 ∧
  ∀ (p : Addr) (c : Nat), c ≤ ns.length → H p = none → Q (.ref p) (upd H p (SetO w p (fun j => decide (j ∈ ns)) c))
theorem cr_setT (hc : X.calm = true) : CallR X (.type "set") (rSetT X.K X.w) := by
  intro pins s σ H xs us Q I r h
  obtain ⟨a, ns, rfl, ha, hl, q⟩ := h
  obtain ⟨u, rfl, rx⟩ := vals1 r
  cases rx
  obtain ⟨its, ri, p, _⟩ := I.tuple ha
  have hb : ns.length + 1 < scanBound := Nat.lt_of_le_of_lt (Nat.succ_le_succ hl) (by decide)
  refine L2.call_set_tupI ns (I.ok.hd hc) p (by simpa using intsAre_of ri) hb fun h' tk c R hcl hk => ?_
  exact ⟨.ref _, upd H s.heap.objs.size (SetO X.w s.heap.objs.size (fun j => decide (j ∈ ns)) c), I.laid (t' := tk) hk (Nat.le_refl _) (setO_new R), rfl, q _ c hcl (I.hok.fresh (Nat.le_refl _))⟩
/-- repr of data (where no repr is under way) -/
def rRepr (K : PySem.W.Frag) : List V → Hp → VK → Prop := fun vs H Q => ∃ x d, vs = [V.ref x] ∧ Dp K H (.ref x) d ∧ d.showable = true ∧ d.hasDict = false ∧ d.depth ≤ 60 ∧ d.shown.length ≤ sizeLine ∧ Q (.str d.shown) H
theorem cr_repr (hg : X.A.guards = some []) (hu : X.A.units + 64 < cLine) : CallR X (.builtin "repr") (rRepr X.K) := by
  intro pins s σ H xs us Q I r h
  obtain ⟨a, d, rfl, hd, h1, h2, h3, h4, q⟩ := h
  obtain ⟨u, rfl, rx⟩ := vals1 r
  cases rx
  obtain ⟨as, rr⟩ := Dp.reads I d _ _ hd rfl
  refine repr_of_reads' rr h1 (fun z => by rw [h2] at z; cases z) hg (by omega) (fun b o e => e) (fun h' u tk hk => ?_) h4
  exact ⟨.str d.shown, H, I.kept hk, ⟨_, rfl⟩, q⟩
end
end K0

namespace K0
open PySem L2 Evl
/-! ### the heap but for one list -/
def hid (o : Option Addr) (H : Hp) : Hp := fun b => if o = some b then none else H b
section
variable {o : Option Addr} {a : Addr} {H H' H'' : Hp}
theorem hid_ex (e : Ex H H') : Ex (hid o H) (hid o H') := fun b u h => by
  unfold hid at h ⊢
  split at h
  · cases h
  · rename_i n
    rw [if_neg n]
    exact e b u h
theorem hid_le : Ex (hid o H) H := fun b u h => by
  unfold hid at h
  split at h
  · cases h
  · exact h
theorem hid_none : hid none H = H := by
  funext b
  unfold hid
  rw [if_neg (by simp)]
theorem hid_at {b : Addr} {u : HO} (h : H b = some u) (n : b ≠ a) : hid (some a) H b = some u := by
  unfold hid
  rw [if_neg (by simpa using fun z => n z.symm)]
  exact h
/-- all but what stands at a is as it was -/
def Bt (a : Addr) (H H' : Hp) : Prop := Ex (hid (some a) H) (hid (some a) H')
theorem Bt.refl : Bt a H H := Ex.refl _
theorem Bt.trans (h : Bt a H H') (h' : Bt a H' H'') : Bt a H H'' := Ex.trans h h'
theorem Bt.of (e : Ex H H') : Bt a H H' := hid_ex e
theorem Bt.upd {u : HO} : Bt a H (L2.upd H a u) := fun b v h => by
  unfold hid at h ⊢
  split at h
  · cases h
  · rename_i n
    have n' : b ≠ a := fun z => n (by rw [z])
    rw [if_neg n, upd_ne n']
    exact h
theorem Bt.at {b : Addr} {u : HO} (e : Bt a H H') (n : b ≠ a) (h : H b = some u) : H' b = some u := hid_le _ _ (e _ _ (hid_at h n))
theorem Bt.sqL {K : PySem.W.Frag} {b : Addr} {xs : List V} (e : Bt a H H') (n : b ≠ a) (h : SqL K H b xs) : SqL K H' b xs := by
  rcases h with (h | ⟨o, h⟩) | h
  · exact .inl (.inl (e.at n h))
  · exact .inl (.inr ⟨o, e.at n h⟩)
  · exact .inr h
theorem Bt.sqT {K : PySem.W.Frag} {b : Addr} {xs : List V} (e : Bt a H H') (n : b ≠ a) (h : SqT K H b xs) : SqT K H' b xs := by
  rcases h with (h | ⟨o, h⟩) | h
  · exact .inl (.inl (e.at n h))
  · exact .inl (.inr ⟨o, e.at n h⟩)
  · exact .inr h
theorem Bt.free {b : Addr} (e : Bt a H H') (n : b ≠ a) (h : H' b = none) : H b = none := by
  cases z : H b with
  | none => rfl
  | some u =>
    rw [e.at n z] at h
    cases h
end
def DiceAt (H : Hp) (a : Addr) : Prop := ∃ d0 d1 d2 : Int, H a = some (.lst [.int d0, .int d1, .int d2])
theorem DiceAt.ex {H H' : Hp} {a : Addr} (e : Ex H H') (h : DiceAt H a) : DiceAt H' a := by
  obtain ⟨x, y, z, h⟩ := h
  exact ⟨x, y, z, e _ _ h⟩
theorem DiceAt.ne {H : Hp} {a p : Addr} (h : DiceAt H a) (hp : H p = none) : p ≠ a := by
  obtain ⟨x, y, z, h⟩ := h
  exact (ne_of_none h hp).symm
section
variable {K : PySem.W.Frag} {σ : L2.St} {H H' : Hp} {ta tb te tx : TE} {t u : TT} {x y z v : V}
theorem rc_abs {i : Int} : RC (fun xs H Q => ∃ i, xs = [.int i] ∧ Q (.int (if i < 0 then -i else i)) H) [.int i] H (.int (if i < 0 then -i else i)) := fun H1 _ _ q => ⟨i, rfl, q H1 (Ex.refl _)⟩
theorem rc_max2 {i j : Int} : RC (fun xs H Q => ∃ i j, xs = [.int i, .int j] ∧ Q (.int (if j > i then j else i)) H) [.int i, .int j] H (.int (if j > i then j else i)) := fun H1 _ _ q => ⟨i, j, rfl, q H1 (Ex.refl _)⟩
theorem rc_min2 {i j : Int} : RC (fun xs H Q => ∃ i j, xs = [.int i, .int j] ∧ Q (.int (if j < i then j else i)) H) [.int i, .int j] H (.int (if j < i then j else i)) := fun H1 _ _ q => ⟨i, j, rfl, q H1 (Ex.refl _)⟩
theorem rc_int1 {i : Int} : RC (fun xs H Q => (∃ i, xs = [.int i] ∧ Q (.int i) H) ∨ ∃ k, xs = [.bl k] ∧ Q (.int (if k then 1 else 0)) H) [.int i] H (.int i) := fun H1 _ _ q => Or.inl ⟨i, rfl, q H1 (Ex.refl _)⟩
theorem rc_intB {b : Bool} : RC (fun xs H Q => (∃ i, xs = [.int i] ∧ Q (.int i) H) ∨ ∃ k, xs = [.bl k] ∧ Q (.int (if k then 1 else 0)) H) [.bl b] H (.int (if b then 1 else 0)) := fun H1 _ _ q => Or.inr ⟨b, rfl, q H1 (Ex.refl _)⟩
theorem rv_pow {i : Int} {n : Nat} (h : n ≤ 1000000) (hi : i.natAbs < 2 ^ 64) : RV (rI CPow fun i j => .int (i ^ j.toNat)) (.int i) (.int (n : Int)) H (.int (i ^ n)) := rv_I (by exact ⟨by omega, by omega, hi⟩)
/-- a chosen value -/
theorem ev_ifv {b : Bool} {v w : V} (h : EvT t σ H b) (h1 : b = true → Ev ta σ H v) (h2 : b = false → Ev tb σ H w) : Ev (tIf t ta tb) σ H (if b then v else w) := by
  cases b with
  | true => exact ev_if h (fun _ => h1 rfl) (fun z => by cases z)
  | false => exact ev_if h (fun z => by cases z) (fun _ => h2 rfl)
end
section
variable {P : Program} {w : World} {K : PySem.W.Frag} {mg : Str → Option Value} {base : Heap} {A : Ad} {D : Fd}
def sp_law_dice (K : PySem.W.Frag) : Sp := fun vs H Q _ => ∃ (a : Addr) (ns : List Int) (i : Nat), vs = [.ref a, .int (i : Int)] ∧ SqL K H a (ns.map V.int) ∧ ∀ p H', H p = none → Ex H H' → DiceAt H' p → Q (.ref p) H'
theorem len_law_dice {vs : List V} {H : Hp} {Q : VK} {E : XK} (h : sp_law_dice K vs H Q E) : vs.length = 2 := by
  obtain ⟨a, ns, i, rfl, _⟩ := h
  rfl
theorem ok_law_dice (T : Txt K mg A D) : FnOk P w K mg base CX0 1 A.law_dice D.law_dice ["script", "spot"] (sp_law_dice K) := by
  refine T.F_law_dice.ok sc_law_dice (fun vs H Q E h => len_law_dice h) (fun cdv A0 outer s H vs Q E hr h => ?_)
  refine ⟨_, (pss_cons (ps_set (i := 2) sc_law_dice.nd rfl (Or.inl rfl) (pe_ifExp (pt_cmpR op_lt (pv 1) (pe_callB call_len (by rfl) T.b_len (by decide +kernel) (pa_cons (pv 0) pa_nil)) (nomark _)) (pe_callTy call_int1 (by rfl) T.b_int (by decide +kernel) (pa_cons (pe_ix ix_list (pv 0) (pv 1) (fun _ _ => rfl)) pa_nil)) (pe_op op_add (pe_op op_mul pe_int (pv 1)) pe_int)))
  (pss_cons (ps_set (i := 3) sc_law_dice.nd rfl (Or.inl rfl) (pe_op op_mod (pe_callB (call_max2 rfl) (by rfl) T.b_max (by decide +kernel) (pa_cons pe_int (pa_cons (pe_op op_sub (pe_callB call_abs (by rfl) T.b_abs (by decide +kernel) (pa_cons (pv 2) pa_nil)) (pe_op op_pow pe_int pe_int)) pa_nil))) (pe_op op_mulW (pe_op op_pow pe_int pe_int) (pe_op op_pow pe_int pe_int))))
  (pss_one (ps_ret (pe_lst (pa_cons (pv 3) (pa_cons (pe_op op_add (pe_op op_add (pe_op op_add (pe_op op_mul (pe_op op_mod (pe_callB call_abs (by rfl) T.b_abs (by decide +kernel) (pa_cons (pv 2) pa_nil)) pe_int) pe_int) (pe_op op_mul pe_int (pv 1))) (pe_op op_mul pe_int (pe_callTy call_int1 (by rfl) T.b_int (by decide +kernel) (pa_cons (pe_cmpR op_lt (pv 2) pe_int (nomark _)) pa_nil)))) pe_int) (pa_cons pe_int pa_nil)))))))), ?_⟩
  obtain ⟨a, ns, i, rfl, ha, k⟩ := h
  refine q_asg (v := .int (if i < ns.length then ns.getD i 0 else 97 * (i : Int) + 61)) ?_ fun H1 e1 => ?_
  · refine ev_is (ev_ifv (b := decide ((i : Int) < (ns.length : Int))) (v := .int (ns.getD i 0)) (w := .int (97 * (i : Int) + 61)) (et_test (ev_is (ev_op (ev_var rfl) (ev_cb (ea_cons (ev_var rfl) ea_nil) (rc_lenL ha)) rv_I0) (by rw [List.length_map]))) (fun hb => ?_) (fun hb => ?_)) ?_
    · have hi : i < ns.length := by have := of_decide_eq_true hb; omega
      refine ev_cb (ea_cons (ev_op (ev_var rfl) (ev_var rfl) (rv_ixL ha (at_of (j := i) rfl ?_))) ea_nil) rc_int1
      rw [List.getElem?_map, List.getD_eq_getElem?_getD, List.getElem?_eq_getElem hi]
      rfl
    · exact ev_op (ev_op ev_c (ev_var rfl) (rv_I (.inl ⟨by decide, by decide⟩))) ev_c rv_I0
    · by_cases c : i < ns.length
      · rw [if_pos c, if_pos (decide_eq_true (by omega))]
      · rw [if_neg c, if_neg (by rw [decide_eq_false (by omega)]; decide)]
  generalize (if i < ns.length then ns.getD i 0 else 97 * (i : Int) + 61) = c
  refine q_asg (ev_op (ev_cb (ea_cons ev_c (ea_cons (ev_op (ev_cb (ea_cons (ev_var rfl) ea_nil) rc_abs) (ev_op ev_c ev_c (rv_pow (n := 16) (by decide) (by decide))) rv_I0) ea_nil)) rc_max2)
    (ev_op (ev_op ev_c ev_c (rv_pow (n := 57) (by decide) (by decide))) (ev_op ev_c ev_c (rv_pow (n := 60) (by decide) (by decide))) (rv_I (by show _ < _; decide +kernel))) (rv_I (by decide +kernel))) fun H2 e2 => ?_
  refine s_retL (el_lst (ea_cons (ev_var rfl) (ea_cons (ev_op (ev_op (ev_op (ev_op (ev_op (ev_cb (ea_cons (ev_var rfl) ea_nil) rc_abs) ev_c (rv_I (by decide))) ev_c (rv_I (.inr ⟨by decide, by decide⟩)))
    (ev_op ev_c (ev_var rfl) (rv_I (.inl ⟨by decide, by decide⟩))) rv_I0) (ev_op ev_c (ev_cb (ea_cons (ev_op (ev_var rfl) ev_c rv_I0) ea_nil) rc_intB) (rv_I (.inl ⟨by decide, by decide⟩))) rv_I0) ev_c rv_I0) (ea_cons ev_c ea_nil))) (by simp)) fun p H3 hp e3 h3 => ?_
  exact k p H3 (fresh_back (e1.trans e2) hp) ((e1.trans e2).trans e3) ⟨_, _, _, h3⟩
def sp_law_roll (K : PySem.W.Frag) : Sp := fun vs H Q _ => ∃ (a : Addr) (m : Int), vs = [.ref a, .int m] ∧ DiceAt H a ∧ 0 < m ∧ m < 1000000 ∧ ∀ r H', 0 ≤ r → r < m → Bt a H H' → DiceAt H' a → Q (.int r) H'
theorem len_law_roll {vs : List V} {H : Hp} {Q : VK} {E : XK} (h : sp_law_roll K vs H Q E) : vs.length = 2 := by
  obtain ⟨a, m, rfl, _⟩ := h
  rfl
theorem ok_law_roll (T : Txt K mg A D) : FnOk P w K mg base CX0 1 A.law_roll D.law_roll ["dice", "most"] (sp_law_roll K) := by
  refine T.F_law_roll.ok sc_law_roll (fun vs H Q E h => len_law_roll h) (fun cdv A0 outer s H vs Q E hr h => ?_)
  refine ⟨_, (pss_cons (ps_if (pt_cmpR op_gt (pe_ix ix_list (pv 0) pe_int (fun _ _ => rfl)) pe_int (nomark _)) (pss_cons (ps_set (i := 2) sc_law_roll.nd rfl (Or.inl rfl) (pe_op op_mod (pe_callTy call_int1 (by rfl) T.b_int (by decide +kernel) (pa_cons (pe_ix ix_list (pv 0) pe_int (fun _ _ => rfl)) pa_nil)) (pv 1)))
  (pss_cons (ps_asg (pe_op op_fdiv (pe_ix ix_list (pv 0) pe_int (fun _ _ => rfl)) (pv 1)) (pg_sub (pv 0) pe_int set_list))
  (pss_one (ps_ret (pv 2))))) pss_nil)
  (pss_cons (ps_asg (pe_op op_add (pe_ix ix_list (pv 0) pe_int (fun _ _ => rfl)) pe_int) (pg_sub (pv 0) pe_int set_list))
  (pss_cons (ps_set (i := 3) sc_law_roll.nd rfl (Or.inl rfl) (pe_op op_mod (pe_callTy call_int1 (by rfl) T.b_int (by decide +kernel) (pa_cons (pe_op op_add (pe_ix ix_list (pv 0) pe_int (fun _ _ => rfl)) (pe_op op_mul pe_int (pe_ix ix_list (pv 0) pe_int (fun _ _ => rfl)))) pa_nil)) pe_int))
  (pss_cons (ps_set (i := 4) sc_law_roll.nd rfl (Or.inl rfl) (pe_op op_add (pe_op op_mul (pe_op op_mod (pe_callTy call_int1 (by rfl) T.b_int (by decide +kernel) (pa_cons (pe_op op_add (pe_op op_mul (pv 3) (pv 3)) (pe_op op_mul pe_int (pe_ix ix_list (pv 0) pe_int (fun _ _ => rfl)))) pa_nil)) pe_int) pe_int) (pv 3)))
  (pss_one (ps_ret (pe_op op_mod (pe_callTy call_int1 (by rfl) T.b_int (by decide +kernel) (pa_cons (pe_op op_fdiv (pv 4) pe_int) pa_nil)) (pv 1)))))))), ?_⟩
  obtain ⟨a, m, rfl, ⟨d0, d1, d2, ha⟩, hm, hm2, k⟩ := h
  have hmod : ∀ x : Int, 0 ≤ x % m ∧ x % m < m := fun x => ⟨Int.emod_nonneg _ (by omega), Int.emod_lt_of_pos _ hm⟩
  refine q_when (b := decide (0 < d0)) (et_test (ev_op (ev_op (ev_var rfl) ev_c (rv_ixL (sq_of ha) (at_of (j := 0) rfl rfl))) ev_c rv_I0)) (fun hb H1 e1 => ?_) (fun hb H1 e1 => ?_)
  · have h1 := e1 _ _ ha
    refine q_asg (ev_op (ev_cb (ea_cons (ev_op (ev_var rfl) ev_c (rv_ixL (sq_of h1) (at_of (j := 0) rfl rfl))) ea_nil) rc_int1) (ev_var rfl) (rv_I hm)) fun H2 e2 => ?_
    have h2 := e2 _ _ h1
    refine q_setL (j := 0) h2 (ev_op (ev_op (ev_var rfl) ev_c (rv_ixL (sq_of h2) (at_of (j := 0) rfl rfl))) (ev_var rfl) (rv_I ⟨hm, by omega⟩)) (ev_var rfl) ev_c (by simp) fun H3 e3 => ?_
    refine s_ret (ev_var rfl) fun H4 e4 => ?_
    exact k _ H4 (hmod _).1 (hmod _).2 ((Bt.of ((e1.trans e2).trans e3)).trans (Bt.upd.trans (Bt.of e4))) ⟨_, _, _, e4 _ _ upd_same⟩
  · have h1 := e1 _ _ ha
    refine q_setL (j := 2) h1 (ev_op (ev_op (ev_var rfl) ev_c (rv_ixL (sq_of h1) (at_of (j := 2) rfl rfl))) ev_c rv_I0) (ev_var rfl) ev_c (by simp) fun H2 e2 => ?_
    have h2 : (L2.upd H2 a (.lst [.int d0, .int d1, .int (d2 + 1)])) a = some (.lst [.int d0, .int d1, .int (d2 + 1)]) := upd_same
    refine q_asg (v := .int ((d1 + 71593063 * (d2 + 1)) % 2305843009213693487)) (ev_op (ev_cb (ea_cons (ev_op (ev_op (ev_var rfl) ev_c (rv_ixL (sq_of h2) (at_of (j := 1) rfl rfl))) (ev_op ev_c (ev_op (ev_var rfl) ev_c (rv_ixL (sq_of h2) (at_of (j := 2) rfl rfl))) (rv_I (.inl ⟨by decide, by decide⟩))) rv_I0) ea_nil) rc_int1) ev_c (rv_I (by decide))) fun H3 e3 => ?_
    have h3 := e3 _ _ h2
    have hone : 0 ≤ (d1 + 71593063 * (d2 + 1)) % 2305843009213693487 ∧ (d1 + 71593063 * (d2 + 1)) % 2305843009213693487 < 2305843009213693487 := ⟨Int.emod_nonneg _ (by decide), Int.emod_lt_of_pos _ (by decide)⟩
    generalize (d1 + 71593063 * (d2 + 1)) % 2305843009213693487 = one at hone ⊢
    refine q_asg (v := .int ((one * one + 89 * (d2 + 1)) % 2305843009213693253 * 6700417 + one)) (ev_op (ev_op (ev_op (ev_cb (ea_cons (ev_op (ev_op (ev_var rfl) (ev_var rfl) (rv_I (.inl ⟨by omega, by omega⟩))) (ev_op ev_c (ev_op (ev_var rfl) ev_c (rv_ixL (sq_of h3) (at_of (j := 2) rfl rfl))) (rv_I (.inl ⟨by decide, by decide⟩))) rv_I0) ea_nil) rc_int1) ev_c (rv_I (by decide))) ev_c (rv_I (.inr ⟨by decide, by decide⟩))) (ev_var rfl) rv_I0) fun H4 e4 => ?_
    refine s_ret (ev_op (ev_cb (ea_cons (ev_op (ev_var rfl) ev_c (rv_I ⟨by decide, by decide⟩)) ea_nil) rc_int1) (ev_var rfl) (rv_I hm)) fun H5 e5 => ?_
    exact k _ H5 (hmod _).1 (hmod _).2 ((Bt.of (e1.trans e2)).trans (Bt.upd.trans (Bt.of ((e3.trans e4).trans e5)))) ⟨_, _, _, ((e3.trans e4).trans e5) _ _ h2⟩
def sp_law_pick (K : PySem.W.Frag) : Sp := fun vs H Q _ => ∃ (a p : Addr) (xs : List V), vs = [.ref a, .ref p] ∧ DiceAt H a ∧ p ≠ a ∧ SqL K H p xs ∧ xs ≠ [] ∧ xs.length < 1000000 ∧ ∀ x H', x ∈ xs → Bt a H H' → DiceAt H' a → Q x H'
theorem len_law_pick {vs : List V} {H : Hp} {Q : VK} {E : XK} (h : sp_law_pick K vs H Q E) : vs.length = 2 := by
  obtain ⟨a, p, xs, rfl, _⟩ := h
  rfl
theorem ok_law_pick (T : Txt K mg A D) : FnOk P w K mg base CX0 2 A.law_pick D.law_pick ["dice", "items"] (sp_law_pick K) := by
  have G_law_roll : FnOk P w K mg base CX0 1 A.law_roll D.law_roll ["dice", "most"] (sp_law_roll K) := ok_law_roll T
  refine T.F_law_pick.ok sc_law_pick (fun vs H Q E h => len_law_pick h) (fun cdv A0 outer s H vs Q E hr h => ?_)
  refine ⟨_, (pss_one (ps_ret (pe_ix ix_list (pv 1) (pe_call G_law_roll (hr.mono (by decide)) rfl T.g_law_roll T.F_law_roll.kp T.b_law_roll .nil pass0 (pa_cons (pv 0) (pa_cons (pe_callB call_len (by rfl) T.b_len (by decide +kernel) (pa_cons (pv 1) pa_nil)) pa_nil))) (fun _ _ => rfl)))), ?_⟩
  obtain ⟨a, p, xs, rfl, ha, hne, hp, hx, hx2, k⟩ := h
  have hpos : 0 < xs.length := List.length_pos_iff.mpr hx
  refine ⟨_, rfl, ?_⟩
  refine (ea_cons (ev_var rfl) (ea_cons (ev_cb (ea_cons (ev_var rfl) ea_nil) (rc_lenL hp)) ea_nil) : EvA _ _ H [.ref a, .int (xs.length : Nat)]) H (Ex.refl _) _ fun H1 e1 => ?_
  refine ⟨a, _, rfl, ha.ex e1, by omega, by omega, fun r H2 h0 h1 hb hd => ?_⟩
  have hbt := (Bt.of e1).trans hb
  have hj : r.toNat < xs.length := by omega
  refine ⟨p, xs, r, xs[r.toNat], rfl, rfl, hbt.sqL hne hp, at_of (j := r.toNat) (by omega) (List.getElem?_eq_getElem hj), ?_⟩
  exact k _ H2 (List.getElem_mem hj) hbt hd
end
end K0

namespace K0
open PySem L2 Evl
/-! ### what evaluates to some value of which R holds -/
def Mono (R : V → Hp → Prop) : Prop := ∀ v H H', Ex H H' → R v H → R v H'
def EvR (te : TE) (σ : L2.St) (H : Hp) (R : V → Hp → Prop) : Prop := ∀ H1, Ex H H1 → ∀ Q : VK, (∀ v H2, Ex H1 H2 → R v H2 → Q v H2) → te σ H1 Q
def EvAR (ta : TA) (σ : L2.St) (H : Hp) (n : Nat) (R : V → Hp → Prop) : Prop := ∀ H1, Ex H H1 → ∀ Q : List V → Hp → Prop, (∀ vs H2, Ex H1 H2 → vs.length = n → (∀ v ∈ vs, R v H2) → Q vs H2) → ta σ H1 Q
/-- a value of which the part of the heap but for o tells data of at most this size -/
def Rz (K : PySem.W.Frag) (o : Option Addr) (s : Nat) : V → Hp → Prop := fun v H => ∃ d, Rp K (hid o H) v d ∧ d.size ≤ s
def live (o : Option Addr) (H : Hp) : Prop := ∀ a, o = some a → H a ≠ none
section
variable {K : PySem.W.Frag} {σ : L2.St} {H H' : Hp} {ta tb te tx : TE} {tr : TA} {t u : TT} {x y z v : V} {R : V → Hp → Prop} {n s s' : Nat} {o : Option Addr}
theorem mono_Rz : Mono (Rz K o s) := fun v H H' e ⟨d, h, hs⟩ => ⟨d, h.ex (hid_ex e), hs⟩
theorem Rz.le (h : Rz K o s v H) (hs : s ≤ s') : Rz K o s' v H := let ⟨d, r, z⟩ := h; ⟨d, r, Nat.le_trans z hs⟩
theorem live.ex (h : live o H) (e : Ex H H') : live o H' := fun a ha => by
  cases z : H a with
  | none => exact absurd z (h a ha)
  | some u =>
    rw [e a u z]
    simp
theorem live.new {p : Addr} {u : HO} (h : live o H) (hp : H p = none) : hid o (upd H p u) p = some u := by
  unfold hid
  rw [if_neg, upd_same]
  intro z
  exact h p z hp
theorem live_of {a : Addr} (h : DiceAt H a) : live (some a) H := fun b hb => by
  obtain ⟨d0, d1, d2, h⟩ := h
  have e := Option.some.inj hb
  subst e
  rw [h]
  simp
theorem live_none : live none H := fun b hb => by cases hb
theorem er_ev (h : Ev te σ H v) (hr : ∀ H', R v H') : EvR te σ H R := fun H1 e Q q => h H1 e Q fun H2 e2 => q v H2 e2 (hr H2)
theorem ear_nil : EvAR tNil σ H 0 R := fun H1 _ _ q => q [] H1 (Ex.refl _) rfl (fun v h => by cases h)
theorem ear_cons (hm : Mono R) (h : EvR te σ H R) (hr : EvAR tr σ H n R) : EvAR (tCons te tr) σ H (n + 1) R := fun H1 e Q q =>
  h H1 e _ fun v H2 e2 hv => hr H2 (e.trans e2) _ fun vs H3 e3 hl hvs => q (v :: vs) H3 (e2.trans e3) (by rw [List.length_cons, hl]) fun w hw => by
    rcases List.mem_cons.mp hw with hw | hw
    · rw [hw]
      exact hm _ _ _ e3 hv
    · exact hvs w hw
def EvAL (ta : TA) (σ : L2.St) (H : Hp) (n : Nat) (R : V → Hp → Prop) : Prop := ∀ H1, Ex H H1 → ∀ Q : List V → Hp → Prop, (∀ vs H2, Ex H1 H2 → vs.length ≤ n → (∀ v ∈ vs, R v H2) → Q vs H2) → ta σ H1 Q
theorem eal_nil : EvAL tNil σ H n R := fun H1 _ _ q => q [] H1 (Ex.refl _) (Nat.zero_le _) (fun v h => by cases h)
theorem eal_cons (hm : Mono R) (h : EvR te σ H R) (hr : EvAL tr σ H n R) : EvAL (tCons te tr) σ H (n + 1) R := fun H1 e Q q =>
  h H1 e _ fun v H2 e2 hv => hr H2 (e.trans e2) _ fun vs H3 e3 hl hvs => q (v :: vs) H3 (e2.trans e3) (by rw [List.length_cons]; omega) fun w hw => by
    rcases List.mem_cons.mp hw with hw | hw
    · rw [hw]
      exact hm _ _ _ e3 hv
    · exact hvs w hw
theorem rpAll_of {G : Hp} : ∀ {vs : List V}, (∀ v ∈ vs, ∃ d, Rp K G v d ∧ d.size ≤ s) → ∃ ds, RpAll K G vs ds ∧ D.sizeL ds ≤ vs.length * s
  | [], _ => ⟨[], .nil, Nat.zero_le _⟩
  | v :: vs, h => by
    obtain ⟨d, h1, h2⟩ := h v List.mem_cons_self
    obtain ⟨ds, h3, h4⟩ := rpAll_of (vs := vs) fun w hw => h w (List.mem_cons_of_mem _ hw)
    refine ⟨d :: ds, .cons h1 h3, ?_⟩
    rw [List.length_cons, Nat.succ_mul]
    simp only [D.sizeL]
    omega
theorem er_tup (hl : live o H) (h : EvAL tr σ H n (Rz K o s)) (hn : n ≤ 1000) (hs : 1 + n * s ≤ s') : EvR (tTup tr) σ H (Rz K o s') := fun H1 e Q q =>
  h H1 e _ fun vs H2 e2 hlen hvs => ⟨sz_of (by omega), fun p hp => by
    have hl2 := hl.ex (e.trans e2)
    refine q (.ref p) _ (e2.trans (Ex.new hp)) ?_
    obtain ⟨ds, h1, h2⟩ := rpAll_of hvs
    refine ⟨.tup ds, .tup (st_of (hl2.new hp)) (h1.ex (hid_ex (Ex.new hp))), ?_⟩
    have h5 : vs.length * s ≤ n * s := Nat.mul_le_mul_right s hlen
    simp only [D.size]
    omega⟩
theorem er_lst (hl : live o H) (h : EvAL tr σ H n R) (hn : n ≤ 1000) (hs : 1 ≤ s') : EvR (tLst tr) σ H (Rz K o s') := fun H1 e Q q =>
  h H1 e _ fun vs H2 e2 hlen hvs => ⟨sz_of (by omega), fun p hp => q (.ref p) _ (e2.trans (Ex.new hp)) ⟨.oth, .lst ((hl.ex (e.trans e2)).new hp), hs⟩⟩
theorem er_dict (hl : live o H) (hs : 1 ≤ s') : EvR tDNewK σ H (Rz K o s') := fun H1 e Q q => fun p hp => q (.ref p) _ (Ex.new hp) ⟨.oth, .dct ((hl.ex e).new hp), hs⟩
theorem rz_non (h : 1 ≤ s) : Rz K o s .non H := ⟨.non, .non, h⟩
theorem rz_bl {b : Bool} (h : 1 ≤ s) : Rz K o s (.bl b) H := ⟨.bl b, .bl b, h⟩
theorem rz_int {i : Int} (h : 1 ≤ s) : Rz K o s (.int i) H := ⟨.int i, .int i, h⟩
theorem rz_str {z : Str} (h : 1 + z.length / 100 ≤ s) : Rz K o s (.str z) H := ⟨.str z, .str z, h⟩
theorem rv_pw {i j : Int} (h : 0 ≤ j ∧ j ≤ 1000000 ∧ i.natAbs < 2 ^ 64) : RV (rI CPow fun i j => .int (i ^ j.toNat)) (.int i) (.int j) H (.int (i ^ j.toNat)) := rv_I h
theorem er_mulS {a : Str} {n : Nat} (ha : Ev ta σ H (.str a)) (hb : Ev tb σ H (.int (n : Int))) (h1 : 1 < n) (h2 : n ≤ 5000) (hl : a.length = 1) (hs : 1 + n / 100 ≤ s) :
    EvR (tOp (fun x y H Q => ∃ (s : Str) (n : Nat), x = V.str s ∧ y = V.int (n : Int) ∧ 1 < n ∧ n ≤ 5000 ∧ s.length = 1 ∧ ∀ z : Str, z.length = n → Q (.str z) H) ta tb) σ H (Rz K o s) := fun H1 e Q q =>
  ha H1 e _ fun H2 e2 => hb H2 (e.trans e2) _ fun H3 e3 => ⟨a, n, rfl, rfl, h1, h2, hl, fun z hz => q (.str z) H3 (e2.trans e3) ⟨.str z, .str z, by simp only [D.size]; omega⟩⟩
/-- a call in a def that changes the heap -/
theorem c_call {sp : Sp} {dvs vs : List V} {E : XK} {ta : TA} {Q : VK} (h : EvA ta σ H vs) (k : ∀ H1, Ex H H1 → sp (vs ++ dvs) H1 Q E) : tCall sp dvs E ta σ H Q := h H (Ex.refl H) _ k
theorem s_retC {D : Ends} {sp : Sp} {dvs vs : List V} {E : XK} {ta : TA} (h : EvA ta σ H vs) (k : ∀ H1, Ex H H1 → sp (vs ++ dvs) H1 D.rt E) : tRet (tCall sp dvs E ta) D σ H := h H (Ex.refl H) _ k
theorem s_asgC {D : Ends} {sp : Sp} {dvs vs : List V} {E : XK} {ta : TA} {i : Nat} (h : EvA ta σ H vs) (k : ∀ H1, Ex H H1 → sp (vs ++ dvs) H1 (fun v H2 => D.nx (σ.set i (some v)) H2) E) : tAsg (tCall sp dvs E ta) (gName i) D σ H := h H (Ex.refl H) _ k
theorem q_asgC {D : Ends} {tz : TS} {sp : Sp} {dvs vs : List V} {E : XK} {ta : TA} {i : Nat} (h : EvA ta σ H vs) (k : ∀ H1, Ex H H1 → sp (vs ++ dvs) H1 (fun v H2 => tz D (σ.set i (some v)) H2) E) : tSeq (tAsg (tCall sp dvs E ta) (gName i)) tz D σ H := h H (Ex.refl H) _ k
/-- some = [..], some = some + [..] -/
theorem q_asgLR {D : Ends} {tz : TS} {i : Nat} (hm : Mono R) (h : EvAR tr σ H n R) (hn : n ≤ 1000) (k : ∀ p xs H1, H p = none → Ex H H1 → H1 p = some (.lst xs) → xs.length = n → (∀ v ∈ xs, R v H1) → tz D (σ.set i (some (.ref p))) H1) :
    tSeq (tAsg (tLst tr) (gName i)) tz D σ H :=
  h H (Ex.refl H) _ fun vs H1 e1 hl hvs => ⟨sz_of (by omega), fun p hp => k p vs _ (fresh_back e1 hp) (e1.trans (Ex.new hp)) upd_same hl fun v hv => hm _ _ _ (Ex.new hp) (hvs v hv)⟩
theorem q_asgCR {D : Ends} {tz : TS} {i : Nat} {q0 : Addr} {ys : List V} (hm : Mono R) (ha : Ev ta σ H (.ref q0)) (h0 : H q0 = some (.lst ys)) (hy : ∀ v ∈ ys, R v H) (h : EvAR tr σ H n R) (hn : n + ys.length ≤ 1000)
    (k : ∀ p xs H1, H p = none → Ex H H1 → H1 p = some (.lst xs) → xs.length = ys.length + n → (∀ v ∈ xs, R v H1) → tz D (σ.set i (some (.ref p))) H1) :
    tSeq (tAsg (tOp rCat ta (tLst tr)) (gName i)) tz D σ H :=
  ha H (Ex.refl H) _ fun H1 e1 => h H1 e1 _ fun vs H2 e2 hl hvs => ⟨sz_of (by omega), fun p hp => by
    have hq : q0 ≠ p := ne_of_none (e2 _ _ (e1 _ _ h0)) hp
    refine ⟨q0, p, ys, vs, rfl, rfl, by rw [upd_ne hq]; exact e2 _ _ (e1 _ _ h0), upd_same, sz_of (by omega), fun p2 hp2 => ?_⟩
    have e3 : Ex H2 (upd H2 p (.lst vs)) := Ex.new hp
    have e4 : Ex (upd H2 p (.lst vs)) (upd (upd H2 p (.lst vs)) p2 (.lst (ys ++ vs))) := Ex.new hp2
    refine k p2 (ys ++ vs) _ (fresh_back ((e1.trans e2).trans e3) hp2) (((e1.trans e2).trans e3).trans e4) upd_same (by rw [List.length_append, hl]) fun v hv => ?_
    rcases List.mem_append.mp hv with hv | hv
    · exact hm _ _ _ (((e1.trans e2).trans e3).trans e4) (hy v hv)
    · exact hm _ _ _ (e3.trans e4) (hvs v hv)⟩
end
end K0

namespace K0
open PySem L2 Evl
/-! ### lists may change, nothing else -/
def ExL (G G' : Hp) : Prop := ∀ b u, G b = some u → G' b = some u ∨ ∃ xs ys, u = .lst xs ∧ G' b = some (.lst ys)
theorem ExL.of {G G' : Hp} (e : Ex G G') : ExL G G' := fun b u h => .inl (e b u h)
theorem ExL.upd {G : Hp} {p : Addr} {xs ys : List V} (h : G p = some (.lst xs)) : ExL G (L2.upd G p (.lst ys)) := fun b u hb => by
  by_cases c : b = p
  · subst c
    rw [h] at hb
    exact .inr ⟨xs, ys, (Option.some.inj hb).symm, upd_same⟩
  · exact .inl (by rw [upd_ne c]; exact hb)
theorem ExL.trans {G G' G'' : Hp} (a : ExL G G') (b : ExL G' G'') : ExL G G'' := fun c u h => by
  rcases a c u h with h1 | ⟨xs, ys, rfl, h1⟩
  · exact b c u h1
  · rcases b c _ h1 with h2 | ⟨_, zs, _, h2⟩
    · exact .inr ⟨xs, ys, rfl, h2⟩
    · exact .inr ⟨xs, zs, rfl, h2⟩
theorem ExL.sqT {K : PySem.W.Frag} {G G' : Hp} {a : Addr} {xs : List V} (e : ExL G G') (h : SqT K G a xs) : SqT K G' a xs := by
  rcases h with (h | ⟨o, h⟩) | h
  · rcases e a _ h with h1 | ⟨_, _, z, _⟩
    · exact .inl (.inl h1)
    · cases z
  · rcases e a _ h with h1 | ⟨_, _, z, _⟩
    · exact .inl (.inr ⟨o, h1⟩)
    · cases z
  · exact .inr h
section
variable {K : PySem.W.Frag} {H H' : Hp}
mutual
theorem Rp.exL {v : V} {d : D} (e : ExL H H') : Rp K H v d → Rp K H' v d
  | .non => .non
  | .bl b => .bl b
  | .int i => .int i
  | .str s => .str s
  | .tup h r => .tup (e.sqT h) (RpAll.exL e r)
  | .lst h => by
    rcases e _ _ h with h1 | ⟨_, ys, _, h1⟩
    · exact .lst h1
    · exact .lst h1
  | .dct h => by
    rcases e _ _ h with h1 | ⟨_, _, z, _⟩
    · exact .dct h1
    · cases z
theorem RpAll.exL {vs : List V} {ds : List D} (e : ExL H H') : RpAll K H vs ds → RpAll K H' vs ds
  | .nil => .nil
  | .cons h r => .cons (Rp.exL e h) (RpAll.exL e r)
end
end
theorem hid_upd {a p : Addr} {H : Hp} {u : HO} (h : p ≠ a) : hid (some a) (upd H p u) = upd (hid (some a) H) p u := by
  funext b
  unfold hid upd
  by_cases c : b = p
  · subst c
    rw [if_neg (by simpa using fun z => h z.symm), if_pos rfl, if_pos rfl]
  · rw [if_neg c, if_neg c]
/-- a comprehension over a range whose elements are drawn -/
theorem lc_draws {te : TE} {vs : List Nat} {σ : L2.St} {j : Nat} {a : Addr} {n : Nat} {H1 : Hp} {R : V → Hp → Prop} {Q : VK} (hR : ∀ v H H', ExL (hid (some a) H) (hid (some a) H') → R v H → R v H') (hd : DiceAt H1 a) (hn : n ≤ 1000)
    (hw : ∀ x, wipe ((wipe σ vs).set j (some x)) vs = wipe σ vs)
    (turn : ∀ (i : Nat) H', i < n → Bt a H1 H' → DiceAt H' a → ∀ Q : VK, (∀ x H'', Bt a H' H'' → DiceAt H'' a → R x H'' → Q x H'') → te ((wipe σ vs).set j (some (.int ((0 : Int) + (i : Int))))) H' Q)
    (k : ∀ D xs H', H1 D = none → Bt a H1 H' → DiceAt H' a → H' D = some (.lst xs) → xs.length = n → (∀ x ∈ xs, R x H') → Q (.ref D) H') :
    ∀ D, H1 D = none → ∃ W : Nat → Nat → Hp → Prop, (∃ m, W 0 m (upd H1 D (.lst []))) ∧ ∀ i m H, W i m H →
      ((Itr 0 n).stop i H ∧ Q (.ref D) H) ∨ ((Itr 0 n).go i H ∧ ∃ Nx : Hp → Prop, (∀ H', Nx H' → ∃ m', m' < m ∧ W (i + 1) m' H') ∧ ∀ x H', (Itr 0 n).yld i H x H' → gName j x (wipe σ vs) H' fun σ2 H2 => wipe σ2 vs = wipe σ vs ∧ tYes σ2 H2 fun b H3 =>
        if b = true then te σ2 H3 fun y H4 => ∃ acc, H4 D = some (.lst acc) ∧ acc.length < sizeLine ∧ Nx (upd H4 D (.lst (acc ++ [y]))) else Nx H3) := fun D hD => by
  have hne : D ≠ a := hd.ne hD
  refine lc_range (lo := 0) (n := n) (fun i H' => i ≤ n ∧ ∃ acc, H' D = some (.lst acc) ∧ acc.length = i ∧ (∀ x ∈ acc, R x H') ∧ Bt a H1 H' ∧ DiceAt H' a) ⟨Nat.zero_le _, [], upd_same, rfl, fun x h => (by cases h), Bt.of (Ex.new hD), hd.ex (Ex.new hD)⟩ (fun i H' hi p => ?_) (fun H' p => ?_)
  · obtain ⟨_, acc, p1, p2, p3, p4, p5⟩ := p
    refine ⟨hw _, turn i H' hi p4 p5 _ fun x H'' hb hd2 hx => ?_⟩
    have h2 : H'' D = some (.lst acc) := hb.at hne p1
    have eL : ExL (hid (some a) H'') (hid (some a) (upd H'' D (.lst (acc ++ [x])))) := by
      rw [hid_upd hne]
      exact ExL.upd (hid_at h2 hne)
    refine ⟨acc, h2, sz_lt (by omega), hi, acc ++ [x], upd_same, by rw [List.length_append, p2]; rfl, fun y hy => ?_, ?_, ?_⟩
    · rcases List.mem_append.mp hy with hy | hy
      · exact hR _ _ _ ((ExL.of hb).trans eL) (p3 y hy)
      · rw [List.mem_singleton.mp hy]
        exact hR _ _ _ eL hx
    · have h3 := p4.trans hb
      intro b u hbu
      have := h3 b u hbu
      rw [hid_upd hne]
      have hbD : b ≠ D := fun z => by
        subst z
        have := hid_le _ _ hbu
        rw [hD] at this
        cases this
      rw [upd_ne hbD]
      exact this
    · obtain ⟨x0, x1, x2, h⟩ := hd2
      exact ⟨x0, x1, x2, by rw [upd_ne hne.symm]; exact h⟩
  · obtain ⟨_, acc, p1, p2, p3, p4, p5⟩ := p
    exact k D acc H' hD p4 p5 p1 p2 p3
/-- tuple(xs) -/
def rTupOf (K : PySem.W.Frag) : List V → Hp → VK → Prop := fun xs H Q => ∃ p ys, xs = [.ref p] ∧ ((SqL K H p ys ∧ ∀ l, H l = none → Q (.ref l) (upd H l (.tup ys))) ∨ (SqT K H p ys ∧ Q (.ref p) H))
theorem n_next {D : Ends} {σ : L2.St} {H : Hp} (h : D.nx σ H) : tNext D σ H := h
theorem n_ret {D : Ends} {σ : L2.St} {H : Hp} {te : TE} (h : te σ H D.rt) : tRet te D σ H := h
theorem n_cb {r : List V → Hp → VK → Prop} {t : TA} {σ : L2.St} {H : Hp} {Q : VK} (h : t σ H fun vs H1 => r vs H1 Q) : tCB r t σ H Q := h
theorem n_cons {te : TE} {t : TA} {σ : L2.St} {H : Hp} {Q : List V → Hp → Prop} (h : te σ H fun v H1 => t σ H1 fun vs H2 => Q (v :: vs) H2) : tCons te t σ H Q := h
theorem n_rng1 {ta : TA} {σ : L2.St} {H : Hp} {R : It → Hp → Prop} (h : ta σ H fun vs H1 => ∃ j : Int, vs = [.int j] ∧ -(2 ^ 62) ≤ j ∧ j < 2 ^ 62 ∧ R (Itr 0 j.toNat) H1) : iRng1 ta σ H R := h
end K0

namespace K0
open PySem PySem.Spec PyProof.Rows L2
/-! ### try with several clauses, of which some name the exception -/
/-- a clause: its class, the slot of its name, what its suite reads as -/
structure Clause where
  cls : Value
  at_ : Option Nat
  ts : Addr → Value → Option Addr → TS
def endsC (o : Option Nat) (D : Ends) : Ends := match o with
  | none => D
  | some i => { nx := fun u G => D.nx (u.set i none) G, rt := D.rt, bk := fun u G => D.bk (u.set i none) G, ct := fun u G => D.ct (u.set i none) G }
def slotC (o : Option Nat) (σ : L2.St) (a : Addr) : L2.St := match o with
  | none => σ
  | some i => σ.set i (some (.ref a))
def wClauses (K : PySem.W.Frag) (n : Nat) (Wz : WX) (D : Ends) : List Clause → WX
  | [] => Wz
  | q :: r => fun cls d σ H => ∃ b, PySem.W.exmOne K cls q.cls = some b ∧ (b = true → ∀ a, H a = none → σ.length = n → q.ts a cls d (endsC q.at_ D) (slotC q.at_ σ a) H) ∧ (b = false → wClauses K n Wz D r cls d σ H)
def SuiteOk (X : Cx) (sts : List Stmt) (ts : Addr → Value → Option Addr → TS) : Prop :=
  ∀ (a : Addr) (oe : Obj) (cls : Value) (d : Option Addr) (pn : List (Addr × Obj)), Zc cls d oe → (∃ vs, oe.data = .fields vs) → PSs (X.suite a ((a, oe) :: pn)) sts (ts a cls d)
inductive ClausesOk (X : Cx) : List ExceptHandler → List Clause → Prop
  | nil : ClausesOk X [] []
  | bare {x : Str} {c : Value} {ts : Addr → Value → Option Addr → TS} {s0 : Stmt} {sts : List Stmt} {p1 p2 : Pos} {es : List ExceptHandler} {l : List Clause} (hc : Names X x c) (hs : SuiteOk X (s0 :: sts) ts) (r : ClausesOk X es l) :
      ClausesOk X (.ExceptHandler (some (.Name x p1)) none (s0 :: sts) p2 :: es) (⟨c, none, ts⟩ :: l)
  | named {x n : Str} {c : Value} {i : Nat} {ts : Addr → Value → Option Addr → TS} {s0 : Stmt} {sts : List Stmt} {p1 p2 : Pos} {es : List ExceptHandler} {l : List Clause} (hc : Names X x c) (hN : X.N.Nodup) (hi : X.N[i]? = some n) (hl : X.env.kindOf n = some .local) (hs : SuiteOk X (s0 :: sts) ts) (r : ClausesOk X es l) :
      ClausesOk X (.ExceptHandler (some (.Name x p1)) (some n) (s0 :: sts) p2 :: es) (⟨c, some i, ts⟩ :: l)
section
variable {X : Cx} {body : List Stmt} {e0 : ExceptHandler} {es : List ExceptHandler} {l : List Clause} {pos : Pos} {tb : WX → TS} {Wz : WX}
theorem ps_clauses (st : X.stack = X.env :: X.outer) (fr : X.env.frame = some X.env.locals) (tk : Takes X Wz)
    (hb : ∀ (W : WX) (pn : List (Addr × Obj)) (xe : Value → Shared → Prop), Takes (X.tr pn xe) W → PassesOwn (model X.prog X.w) X.A X.env xe → PSs (X.tr pn xe) body (tb W))
    (hk : ClausesOk X (e0 :: es) l) : PS X (.Try body (e0 :: es) [] [] pos) (fun D σ H => tb (wClauses X.K X.N.length Wz D l) D σ H) := by
  refine ⟨fun pins s σ H D I h => ?_⟩
  have okX := I.ok
  have frs_ : X.A.frames = some (X.env :: X.outer) := by rw [okX.frames, st]
  refine wpAny_Try_except ?_
  have run_ := (hb (wClauses X.K X.N.length Wz D l) (X.pn ++ pins) (fun e t1 => wpAny (model X.prog X.w) X.A (noteFrame e X.env) (fun _ t2 => wpAny (model X.prog X.w) X.A (setFlight e none) (fun _ t3 => wpAny (model X.prog X.w) X.A (handleBy e X.env (e0 :: es)) (SP X pins D) X.xe t3) X.xe t2) X.xe t1)
    (fun u t xx => ?_) PassesOwn.looking).run [] s σ H D (I.toTry _) h
  · refine wpAny_mono run_ (fun f t z => ?_) (fun e t z => z)
    cases f with
    | next => exact let ⟨u, G, J, q⟩ := z; wpAny_execs_nil ⟨u, G, J.ofTry okX, q⟩
    | brk => exact let ⟨u, G, J, q⟩ := z; ⟨u, G, J.ofTry okX, q⟩
    | cont => exact let ⟨u, G, J, q⟩ := z; ⟨u, G, J.ofTry okX, q⟩
    | ret v => exact let ⟨y, u, G, J, r, q⟩ := z; ⟨y, u, G, J.ofTry okX, r, q⟩
  · obtain ⟨a, B, sI, pz, u1, G, cls, d, rfl, Jt, nb, up, sky, na, os, ag, w⟩ := xx
    have J : Inv X pins u1 G sI := Jt.ofTry okX
    rw [show (X.tr (X.pn ++ pins) _).stack = X.env :: X.outer from st] at sky
    show wpAny (model X.prog X.w) X.A (noteFrame (.ref a) X.env) _ _ _
    refine Sky.land Zc.steady frs_ fr sky fun h3 fl3 up3 => ?_
    have J3 : Inv X pins u1 G { t with heap := h3 } := J.landed nb fl3.1 (up.trans up3) os ag
    obtain ⟨o3, w3, at3, z3, f3⟩ := fl3.there
    have off : a ∉ frs (X.env :: X.outer) := fun hm => by
      obtain ⟨_, o', at', hnf⟩ := fl3.2.2.1.mem hm
      rw [at3] at at'
      cases at'
      exact hnf _ f3
    have offL : a ≠ X.env.locals := fun z => off (List.mem_filterMap.mpr ⟨X.env, List.mem_cons_self, by rw [fr, z]⟩)
    have offF : a ∉ X.fs := fun hm => by
      obtain ⟨e, he, q⟩ := List.mem_filterMap.mp hm
      exact off (List.mem_filterMap.mpr ⟨e, List.mem_cons_of_mem _ he, q⟩)
    have S3 := J3.suite at3 f3 na offL offF
    have name_ : ∀ {x : Str} {c : Value} {p1 : Pos} {Q E : Value → Shared → Prop}, Names X x c → Q c { t with heap := h3 } → wpAny (model X.prog X.w) (X.A.mark (some (.ref a))) (eval (.Name x p1) X.env) (fun v s => Q v s) E { t with heap := h3 } := fun {x c p1 Q E} hc q => by
      rcases hc with ⟨g, dbg, m | ⟨m, bb, nn⟩⟩
      · exact ld_glob (X := X.suite a ((a, o3) :: (X.pn ++ pins))) S3 g m q dbg
      · exact ld_blt (X := X.suite a ((a, o3) :: (X.pn ++ pins))) S3 g m bb q nn dbg
    have looks_ : PySem.W.Looks (model X.prog X.w) h3 (typeOf (.ref a)) cls := fun A Q E s k q => wpAny_typeOf_ref (k _ _ at3) (by rw [z3.1]; exact q)
    have go : ∀ {hs : List ExceptHandler} {l : List Clause}, ClausesOk X hs l → wClauses X.K X.N.length Wz D l cls d u1 G → wpAny (model X.prog X.w) X.A (handleBy (.ref a) X.env hs) (SP X pins D) X.xe { t with heap := h3 } := by
      intro hs l ck
      induction ck with
      | nil =>
        intro w
        refine wpAny_handleBy_nil ?_
        obtain ⟨_, _, _, oe, vs, T, oT, ts', he, hz, hd, h1, hr⟩ := id fl3
        unfold PySem.passOn
        refine wpAny_bind (wpAny_field he hd h1 ?_)
        rw [if_neg (show ¬ ((Value.ref T == Value.none) = true) by simp)]
        have out_ : wpAny (model X.prog X.w) X.A (setFlight (.ref a) X.env.frame) (fun _ t4 => wpAny (model X.prog X.w) X.A (throw (.ref a) : Sem Flow) (SP X pins D) X.xe t4) X.xe { t with heap := h3 } := by
          rw [fr]
          exact HandSPX.setFlight_upZ fl3 fun h4 hh4 up4 => wpAny_throw (tk _ _ ⟨a, B, sI, pins, u1, G, cls, d, rfl, J, nb, (up.trans up3).trans up4, .inr (.inr (by rw [st]; exact hh4)), na, os, ag, w⟩)
        first
          | exact wpAny_bind (wpAny_pure (wpAny_bind out_))
          | exact wpAny_bind out_
      | bare hc hsu r ih =>
        intro w
        obtain ⟨b, eb, yes, no⟩ := w
        refine wpAny_handleBy_cons (codeAny_handlers_test ?_) (fun q => by cases q)
        refine name_ hc ((PySem.W.exm_one (M := model X.prog X.w) J3.kIn looks_ eb).here ?_)
        cases b with
        | false =>
          show wpAny _ X.A (handleBy (.ref a) X.env _) _ _ _
          exact ih (no rfl)
        | true =>
          refine codeAny_handlers_suite (HandSPX.lands_againZ fl3 fun h4 fl4 up4 => ?_)
          have J4 : Inv X pins u1 G { t with heap := h4 } := J.landed nb fl4.1 ((up.trans up3).trans up4) os ag
          obtain ⟨o4, w4, at4, z4, f4⟩ := fl4.there
          refine wpAny_mono ((hsu a o4 cls d (X.pn ++ pins) z4 ⟨_, f4⟩).run [] _ _ G _ (J4.suite at4 f4 na offL offF) (yes rfl a na J.len)) (fun f s6 hq => ?_) (fun _ _ z => z.elim)
          cases f with
          | next => exact let ⟨u, G6, S, q⟩ := hq; ⟨u, G6, S.unsuite okX, q⟩
          | brk => exact let ⟨u, G6, S, q⟩ := hq; ⟨u, G6, S.unsuite okX, q⟩
          | cont => exact let ⟨u, G6, S, q⟩ := hq; ⟨u, G6, S.unsuite okX, q⟩
          | ret v => exact let ⟨y, u, G6, S, r, q⟩ := hq; ⟨y, u, G6, S.unsuite okX, r, q⟩
      | @named x n c i ts s0 sts p1 p2 es l hc hN hi hl hsu r ih =>
        intro w
        obtain ⟨b, eb, yes, no⟩ := w
        refine wpAny_handleBy_cons (codeAny_handlers_test ?_) (fun q => by cases q)
        refine name_ hc ((PySem.W.exm_one (M := model X.prog X.w) J3.kIn looks_ eb).here ?_)
        cases b with
        | false =>
          show wpAny _ X.A (handleBy (.ref a) X.env _) _ _ _
          exact ih (no rfl)
        | true =>
          refine codeAny_handlers_suite_as (HandSPX.lands_againZ fl3 fun h4 fl4 up4 => ?_)
          have J4 : Inv X pins u1 G { t with heap := h4 } := J.landed nb fl4.1 ((up.trans up3).trans up4) os ag
          obtain ⟨o4, w4, at4, z4, f4⟩ := fl4.there
          refine store_ok (X := X.suite a ((a, o4) :: (X.pn ++ pins))) (v := .ref a) (J4.suite at4 f4 na offL offF) hN hi (show Loc X.env.scope n from .inl hl) rfl (fun s5 S5 => ?_) (.inr hl)
          refine wpAny_mono ((hsu a o4 cls d (X.pn ++ pins) z4 ⟨_, f4⟩).run [] s5 _ G _ S5 (yes rfl a na J.len)) (fun f s6 hq => ?_) (fun _ _ z => z.elim)
          have gone : ∀ {u : L2.St} {G6 : Hp} {Q : Shared → Prop}, Inv (X.suite a ((a, o4) :: (X.pn ++ pins))) [] u G6 s6 → (∀ s7, Inv X pins (u.set i none) G6 s7 → Q s7) → wpAny (model X.prog X.w) X.A (do bindName X.env n .none; unbindBehindTheSuite X.env n p2) (fun _ s7 => Q s7) X.xe s6 :=
            fun S hq => gone_ok (S.unsuite okX) hN hi hl hq
          cases f with
          | next => exact let ⟨u, G6, S, q⟩ := hq; gone S fun s7 J7 => ⟨_, _, J7, q⟩
          | brk => exact let ⟨u, G6, S, q⟩ := hq; gone S fun s7 J7 => ⟨_, _, J7, q⟩
          | cont => exact let ⟨u, G6, S, q⟩ := hq; gone S fun s7 J7 => ⟨_, _, J7, q⟩
          | ret v => exact let ⟨y, u, G6, S, r, q⟩ := hq; gone S fun s7 J7 => ⟨_, _, _, J7, r, q⟩
    exact go hk w
end
end K0

namespace K0
open PySem L2 Evl
/-! ### data: what can be compared -/
mutual
def D.clean : D → Bool
  | .oth => false
  | .tup ds => D.cleanL ds
  | _ => true
def D.cleanL : List D → Bool
  | [] => true
  | d :: ds => d.clean && D.cleanL ds
end
mutual
def D.py : D → PyData
  | .non => .none
  | .bl b => .bool b
  | .int i => .int i
  | .str s => .str s
  | .tup ds => .tuple (D.pyL ds)
  | .oth => .none
def D.pyL : List D → List PyData
  | [] => []
  | d :: ds => d.py :: D.pyL ds
end
theorem pyL_map : ∀ ds : List D, D.pyL ds = ds.map D.py
  | [] => rfl
  | d :: ds => by
    show d.py :: D.pyL ds = _
    rw [pyL_map ds]
    rfl
theorem cleanL_all : ∀ ds : List D, D.cleanL ds = ds.all D.clean
  | [] => rfl
  | d :: ds => by
    show (d.clean && D.cleanL ds) = _
    rw [cleanL_all ds]
    rfl
section
variable {K : PySem.W.Frag} {H : Hp}
mutual
theorem Rp.dp {v : V} {d : D} (c : d.clean = true) : Rp K H v d → Dp K H v d.py
  | .non => .non
  | .bl b => .bl b
  | .int i => .int i
  | .str s => .str s
  | .tup h r => .tup h (RpAll.dp c r)
  | .lst h => by cases c
  | .dct h => by cases c
theorem RpAll.dp {vs : List V} {ds : List D} (c : D.cleanL ds = true) : RpAll K H vs ds → DpAll K H vs (D.pyL ds)
  | .nil => .nil
  | .cons h r => by
    have c' := Bool.and_eq_true_iff.mp c
    exact .cons (Rp.dp c'.1 h) (RpAll.dp c'.2 r)
end
end
mutual
theorem eqv_self : ∀ d : D, d.clean = true → PyData.eqv d.py d.py = true
  | .non, _ => rfl
  | .bl b, _ => by simp [D.py, PyData.eqv]
  | .int i, _ => by simp [D.py, PyData.eqv]
  | .str s, _ => by simp [D.py, PyData.eqv]
  | .tup ds, c => by
    simp only [D.py, PyData.eqv]
    exact eqvAll_self ds c
  | .oth, c => by cases c
theorem eqvAll_self : ∀ ds : List D, D.cleanL ds = true → PyData.eqvAll (D.pyL ds) (D.pyL ds) = true
  | [], _ => rfl
  | d :: ds, c => by
    have c' := Bool.and_eq_true_iff.mp c
    simp only [D.pyL, PyData.eqvAll]
    rw [eqv_self d c'.1, eqvAll_self ds c'.2]
    rfl
end
/-- clean, of texts that can lie there, not deep -/
def D.fine (n : Nat) (d : D) : Bool := d.clean && d.py.canLay0 && decide (d.py.depth ≤ n)
theorem fine_c {n : Nat} {d : D} (h : d.fine n = true) : d.clean = true := (Bool.and_eq_true_iff.mp (Bool.and_eq_true_iff.mp h).1).1
theorem fine_l {n : Nat} {d : D} (h : d.fine n = true) : d.py.canLay0 = true := (Bool.and_eq_true_iff.mp (Bool.and_eq_true_iff.mp h).1).2
theorem fine_d {n : Nat} {d : D} (h : d.fine n = true) : d.py.depth ≤ n := of_decide_eq_true (Bool.and_eq_true_iff.mp h).2
theorem fine_all {n : Nat} : ∀ ds : List D, (∀ d ∈ ds, d.fine n = true) → D.cleanL ds = true ∧ PyData.canLayAll0 (D.pyL ds) = true ∧ PyData.depthAll (D.pyL ds) ≤ n
  | [], _ => ⟨rfl, rfl, Nat.zero_le _⟩
  | d :: ds, h => by
    have h1 := h d (List.mem_cons_self ..)
    obtain ⟨a, b, c⟩ := fine_all ds fun e he => h e (List.mem_cons_of_mem _ he)
    refine ⟨Bool.and_eq_true_iff.mpr ⟨fine_c h1, a⟩, ?_, ?_⟩
    · simp only [D.pyL, PyData.canLayAll0]
      rw [fine_l h1, b]
      rfl
    · simp only [D.pyL, PyData.depthAll]
      exact Nat.max_le.mpr ⟨fine_d h1, c⟩
theorem fine_tup {n : Nat} {ds : List D} (h : ∀ d ∈ ds, d.fine n = true) : (D.tup ds).fine (n + 1) = true := by
  obtain ⟨a, b, c⟩ := fine_all ds h
  refine Bool.and_eq_true_iff.mpr ⟨Bool.and_eq_true_iff.mpr ⟨a, ?_⟩, decide_eq_true ?_⟩
  · simp only [D.py, PyData.canLay0]
    exact b
  · simp only [D.py, PyData.depth]
    omega
theorem fine_le {n m : Nat} {d : D} (h : d.fine n = true) (l : n ≤ m) : d.fine m = true :=
  Bool.and_eq_true_iff.mpr ⟨Bool.and_eq_true_iff.mpr ⟨fine_c h, fine_l h⟩, decide_eq_true (Nat.le_trans (fine_d h) l)⟩
theorem shaped_of {n : Nat} {d : D} (h : d.fine n = true) (l : n ≤ 64) : SeqAt.shaped d.py = true :=
  Bool.and_eq_true_iff.mpr ⟨fine_l h, decide_eq_true (Nat.le_trans (fine_d h) l)⟩
theorem shapedL_of {n : Nat} {ds : List D} (h : ∀ d ∈ ds, d.fine n = true) (l : n + 1 ≤ 64) : SeqAt.shaped (.list (D.pyL ds)) = true := by
  obtain ⟨a, b, c⟩ := fine_all ds h
  refine Bool.and_eq_true_iff.mpr ⟨?_, decide_eq_true ?_⟩
  · simp only [PyData.canLay0]
    exact b
  · simp only [PyData.depth]
    omega
theorem Rp.tupI {K : PySem.W.Frag} {H : Hp} {v : V} {ds : List D} (h : Rp K H v (.tup ds)) : ∃ a xs, v = .ref a ∧ SqT K H a xs ∧ RpAll K H xs ds := by
  cases h with
  | tup h r => exact ⟨_, _, rfl, h, r⟩
theorem RpAll.setI {K : PySem.W.Frag} {H : Hp} : ∀ {vs : List V} {ds : List D} (i : Nat) {v : V} {d : D}, RpAll K H vs ds → Rp K H v d → RpAll K H (vs.set i v) (ds.set i d)
  | _, _, i, _, _, .nil, _ => by cases i <;> exact .nil
  | _, _, 0, _, _, .cons h r, g => .cons g r
  | _, _, i + 1, _, _, .cons h r, g => .cons h (RpAll.setI i r g)
/-! ### readings -/
section
variable {K : PySem.W.Frag} {σ : L2.St} {H H' : Hp} {ta tb te tv : TE} {x y z v : V} {C a dx : Addr} {fs : List (Str × V)} {f : Str} {D : Ends} {tz : TS}
theorem ev_fld (h : Ev ta σ H (.ref a)) (ha : H a = some (.ins C dx fs)) (c : Cls K C) (n : NoAttr K C f) (l : fs.lookup f = some v) : Ev (tFld K ta f) σ H v := fun H1 e Q q =>
  h H1 e _ fun H2 e2 => ⟨a, C, dx, fs, v, rfl, (e.trans e2) _ _ ha, c, n, l, q H2 e2⟩
theorem q_fld (hv : Ev tv σ H v) (ho : Ev ta σ H (.ref a)) (ha : H a = some (.ins C dx fs)) (c : Cls K C) (n : NoAttr K C f) (hl : fs.length < 1000) (k : ∀ H1, Ex H H1 → tz D σ (upd H1 a (.ins C dx (putF f v fs)))) :
    tSeq (sFld K ta tv f) tz D σ H := hv H (Ex.refl H) _ fun H1 e1 => ho H1 e1 _ fun H2 e2 => ⟨a, C, dx, fs, rfl, (e1.trans e2) _ _ ha, c, n, hl, k H2 (e1.trans e2)⟩
theorem s_fldU {xs : List V} (hv : EvU tv σ H xs) (ho : Ev ta σ H (.ref a)) (ha : H a = some (.ins C dx fs)) (c : Cls K C) (n : NoAttr K C f) (hl : fs.length < 1000)
    (k : ∀ p H1, H p = none → Ex H H1 → H1 p = some (.tup xs) → D.nx σ (upd H1 a (.ins C dx (putF f (.ref p) fs)))) :
    sFld K ta tv f D σ H := hv H (Ex.refl H) _ fun p H1 hp e1 h1 => ho H1 e1 _ fun H2 e2 => ⟨a, C, dx, fs, rfl, (e1.trans e2) _ _ ha, c, n, hl, k p H2 hp (e1.trans e2) (e2 _ _ h1)⟩
theorem q_asgMk {sp : Sp} {E : XK} {i : Nat} {xs : List V} (h : EvU te σ H xs)
    (k : ∀ p H1, H p = none → Ex H H1 → H1 p = some (.tup xs) → ∀ x dx, H1 x = none → H1 dx = none → dx ≠ x → sp [.ref x, .ref p] (upd (upd H1 dx (.own x)) x (.ins C dx [])) (fun v H2 => v = .non ∧ tz D (σ.set i (some (.ref x))) H2) E) :
    tSeq (tAsg (tMake C sp [] E (tCons te tNil)) (gName i)) tz D σ H := h H (Ex.refl H) _ fun p H1 hp e h1 => k p H1 hp e h1
theorem eu_tupOf {p : Addr} {xs : List V} (h : Ev ta σ H (.ref p)) (hx : SqL K H p xs) : EvU (tCB (rTupOf K) (tCons ta tNil)) σ H xs := fun H1 e Q q =>
  h H1 e _ fun H2 e2 => ⟨p, xs, rfl, .inl ⟨ex_l (e.trans e2) hx, fun l hl => q l _ (fresh_back e2 hl) (e2.trans (Ex.new hl)) upd_same⟩⟩
theorem el_listT {p : Addr} {xs : List V} (h : Ev ta σ H (.ref p)) (hx : SqT K H p xs) : EvL (tCB (rListS K) (tCons ta tNil)) σ H xs := fun H1 e Q q =>
  h H1 e _ fun H2 e2 => ⟨p, xs, rfl, .inr (ex_t (e.trans e2) hx), fun l hl => q l _ (fresh_back e2 hl) (e2.trans (Ex.new hl)) upd_same⟩
theorem rc_kitI {P : V → Prop} {n : String} {b : Bool} {dy : Addr} {gs : List (Str × V)} {p : Addr} (o : ObjC K C) (cl : Cls K C) (hp : H p = some (.ins C dy gs)) : RC (rIsi K) [.ref p, .ref C] H (.bl true) := fun H1 e Q q =>
  ⟨_, _, _, _, _, rfl, .own C, .base (.ins (e _ _ hp) cl o.ca o.cg o.ct o.co), by unfold PySem.W.kitOne; rw [if_pos (by simp)], q H1 (Ex.refl _)⟩
end
/-- the promise of a value, by what it is -/
def RetR (K : PySem.W.Frag) (d : D) (H : Hp) (Q : VK) : Prop := ∀ v H', Ex H H' → Rp K H' v d → Q v H'
/-! ### what evaluates to data -/
section
variable {K : PySem.W.Frag} {σ : L2.St} {H H' : Hp} {ta tb te : TE} {tr : TA} {x y z v : V} {d e : D} {ds es : List D}
def EvD (K : PySem.W.Frag) (te : TE) (σ : L2.St) (H : Hp) (d : D) : Prop := ∀ H1, Ex H H1 → ∀ Q : VK, (∀ v H2, Ex H1 H2 → Rp K H2 v d → Q v H2) → te σ H1 Q
def EvDA (K : PySem.W.Frag) (ta : TA) (σ : L2.St) (H : Hp) (ds : List D) : Prop := ∀ H1, Ex H H1 → ∀ Q : List V → Hp → Prop, (∀ vs H2, Ex H1 H2 → RpAll K H2 vs ds → Q vs H2) → ta σ H1 Q
theorem EvD.mono (a : Ex H H') (h : EvD K te σ H d) : EvD K te σ H' d := fun H1 e Q q => h H1 (a.trans e) Q q
theorem ed_ev (h : Ev te σ H v) (r : Rp K H v d) : EvD K te σ H d := fun H1 a Q q => h H1 a Q fun H2 b => q v H2 b (r.ex (a.trans b))
theorem ed_int {i : Int} : EvD K (tC (.int i)) σ H (.int i) := ed_ev ev_c (.int i)
theorem ed_non : EvD K (tC .non) σ H .non := ed_ev ev_c .non
theorem ed_str {s : Str} : EvD K (tC (.str s)) σ H (.str s) := ed_ev ev_c (.str s)
theorem eda_nil : EvDA K tNil σ H [] := fun H1 _ Q q => q [] H1 (Ex.refl _) .nil
theorem eda_cons (h : EvD K te σ H d) (r : EvDA K tr σ H ds) : EvDA K (tCons te tr) σ H (d :: ds) := fun H1 a Q q =>
  h H1 a _ fun v H2 b hv => r H2 (a.trans b) _ fun vs H3 c hs => q (v :: vs) H3 (b.trans c) (.cons (hv.ex c) hs)
theorem ed_tup (h : EvDA K tr σ H ds) (l : ds.length ≤ 100000) : EvD K (tTup tr) σ H (.tup ds) := fun H1 a Q q =>
  h H1 a _ fun vs H2 b hs => ⟨by rw [hs.len]; exact sz_of l, fun p hp => q (.ref p) _ (b.trans (Ex.new hp)) (.tup (st_of upd_same) (hs.ex (Ex.new hp)))⟩
theorem ed_cat (h1 : EvD K ta σ H (.tup ds)) (h2 : EvD K tb σ H (.tup es)) (l : ds.length + es.length ≤ 100000) : EvD K (tOp (rCatA K) ta tb) σ H (.tup (ds ++ es)) := fun H1 a Q q =>
  h1 H1 a _ fun v H2 b hv => h2 H2 (a.trans b) _ fun w H3 c hw => by
    obtain ⟨p, xs, rfl, sp, rp⟩ := (hv.ex c).tupI
    obtain ⟨r, ys, rfl, sr, rr⟩ := hw.tupI
    refine ⟨p, r, xs, ys, rfl, rfl, sp, sr, by rw [rp.len, rr.len]; exact sz_of l, fun h => ?_, fun _ h => ?_, fun _ _ n hn => ?_⟩
    · subst h
      cases rp
      exact q _ _ (b.trans c) (.tup sr rr)
    · subst h
      cases rr
      rw [List.append_nil] at q
      exact q _ _ (b.trans c) (.tup sp rp)
    · exact q _ _ ((b.trans c).trans (Ex.new hn)) (.tup (st_of upd_same) ((rp.app rr).ex (Ex.new hn)))
theorem ed_ix {i : Nat} (h : EvD K ta σ H (.tup ds)) (hb : ∀ H1, Ex H H1 → Ev tb σ H1 (.int (i : Int))) (hi : ds[i]? = some d) : EvD K (tOp (rIxT K) ta tb) σ H d := fun H1 a Q q =>
  h H1 a _ fun v H2 b hv => hb H2 (a.trans b) H2 (Ex.refl _) _ fun H3 c => by
    obtain ⟨p, xs, rfl, sp, rp⟩ := (hv.ex c).tupI
    have hlt : i < ds.length := by
      rcases Nat.lt_or_ge i ds.length with h | h
      · exact h
      · rw [List.getElem?_eq_none h] at hi
        cases hi
    have hxl : i < xs.length := by
      rw [rp.len]
      exact hlt
    have hx : xs[i]? = some xs[i] := List.getElem?_eq_getElem hxl
    obtain ⟨d', hd', hr'⟩ := RpAll.get _ _ _ _ rp hx
    rw [hi] at hd'
    cases hd'
    refine ⟨p, xs, (i : Int), xs[i], rfl, rfl, sp, ?_, q _ _ (b.trans c) hr'⟩
    unfold atI
    rw [ixN_nat (by rw [rp.len]; exact hlt)]
    exact hx
theorem d_call {sp : Sp} {E : XK} {Q : VK} (h : EvDA K tr σ H ds) (k : ∀ vs H1, Ex H H1 → RpAll K H1 vs ds → sp vs H1 Q E) : tCall sp [] E tr σ H Q := h H (Ex.refl H) _ fun vs H1 a r => by
  show sp (vs ++ []) H1 Q E
  rw [List.append_nil]
  exact k vs H1 a r
theorem d_ret {D : Ends} (h : EvD K te σ H d) (k : ∀ v H1, Ex H H1 → Rp K H1 v d → D.rt v H1) : tRet te D σ H := h H (Ex.refl H) _ k
/-- a method without arguments that gives data -/
theorem ed_meth0 {C a dx : Addr} {fs : List (Str × V)} {m : Str} {sp : Sp} {E : XK} (h : Ev ta σ H (.ref a)) (ha : H a = some (.ins C dx fs)) (l : fs.lookup m = none) (k : ∀ H1, Ex H H1 → ∀ Q : VK, RetR K d H1 Q → sp [.ref a] H1 Q E) :
    EvD K (tMeth C m sp [] E ta tNil) σ H d := fun H1 a1 Q q => h H1 a1 _ fun H2 b => ⟨a, dx, fs, rfl, (a1.trans b) _ _ ha, l, k H2 (a1.trans b) Q fun v H3 c hv => q v H3 (b.trans c) hv⟩
theorem ed_call {sp : Sp} {E : XK} (h : EvDA K tr σ H ds) (k : ∀ vs H1, Ex H H1 → RpAll K H1 vs ds → ∀ Q : VK, RetR K d H1 Q → sp vs H1 Q E) : EvD K (tCall sp [] E tr) σ H d := fun H1 a Q q => h H1 a _ fun vs H2 b r => by
  show sp (vs ++ []) H2 Q E
  rw [List.append_nil]
  exact k vs H2 (a.trans b) r Q fun v H3 c hv => q v H3 (b.trans c) hv
theorem rv_eqD (hx : Rp K H x d) (hy : Rp K H y e) {n : Nat} (fd : d.fine n = true) (fe : e.fine n = true) (hn : n ≤ 64) : RV (rEqD K) x y H (.bl (PyData.eqv d.py e.py)) := fun H1 a Q q =>
  ⟨d.py, e.py, (hx.ex a).dp (fine_c fd), (hy.ex a).dp (fine_c fe), shaped_of fd hn, shaped_of fe hn, q H1 (Ex.refl _)⟩
theorem rv_neD (hx : Rp K H x d) (hy : Rp K H y e) {n : Nat} (fd : d.fine n = true) (fe : e.fine n = true) (hn : n ≤ 64) : RV (rNeD K) x y H (.bl (!PyData.eqv d.py e.py)) := fun H1 a Q q =>
  ⟨d.py, e.py, (hx.ex a).dp (fine_c fd), (hy.ex a).dp (fine_c fe), shaped_of fd hn, shaped_of fe hn, q H1 (Ex.refl _)⟩
/-- compared as data -/
theorem ev_neD (h1 : EvD K ta σ H d) (h2 : EvD K tb σ H e) {n : Nat} (fd : d.fine n = true) (fe : e.fine n = true) (hn : n ≤ 64) : Ev (tOp (rNeD K) ta tb) σ H (.bl (!PyData.eqv d.py e.py)) := fun H1 a Q q =>
  h1 H1 a _ fun v H2 b hv => h2 H2 (a.trans b) _ fun w H3 c hw => rv_neD (hv.ex c) hw fd fe hn H3 (Ex.refl _) Q fun H4 g => q H4 ((b.trans c).trans g)
theorem ev_eqD (h1 : EvD K ta σ H d) (h2 : EvD K tb σ H e) {n : Nat} (fd : d.fine n = true) (fe : e.fine n = true) (hn : n ≤ 64) : Ev (tOp (rEqD K) ta tb) σ H (.bl (PyData.eqv d.py e.py)) := fun H1 a Q q =>
  h1 H1 a _ fun v H2 b hv => h2 H2 (a.trans b) _ fun w H3 c hw => rv_eqD (hv.ex c) hw fd fe hn H3 (Ex.refl _) Q fun H4 g => q H4 ((b.trans c).trans g)
theorem Rp.tupR {a : Addr} (h : Rp K H (.ref a) (.tup ds)) : ∃ xs, SqT K H a xs ∧ RpAll K H xs ds := by
  cases h with
  | tup h r => exact ⟨_, h, r⟩
/-! ### f-strings -/
def EvJ (ts : List TE) (acc : Str) (σ : L2.St) (H : Hp) (out : Str) : Prop := ∀ H1, Ex H H1 → ∀ Q : Str → Hp → Prop, (∀ H2, Ex H1 H2 → Q out H2) → tJs ts acc σ H1 Q
theorem ej_nil {acc : Str} : EvJ [] acc σ H acc := fun H1 _ Q q => q H1 (Ex.refl _)
theorem ej_cons {t : TE} {ts : List TE} {acc s out : Str} (h : Ev t σ H (.str s)) (l : (acc ++ s).length ≤ 100000) (r : EvJ ts (acc ++ s) σ H out) : EvJ (t :: ts) acc σ H out := fun H1 a Q q =>
  h H1 a _ fun H2 b => ⟨s, rfl, sz_of l, r H2 (a.trans b) Q fun H3 c => q H3 (b.trans c)⟩
theorem ev_js {ts : List TE} {out : Str} (h : EvJ ts Str.empty σ H out) : Ev (fun σ H Q => tJs ts Str.empty σ H fun out H1 => Q (.str out) H1) σ H (.str out) := fun H1 a Q q => h H1 a _ fun H2 b => q H2 b
theorem ev_fmt {i : Int} (h : Ev te σ H (.int i)) (l : i.natAbs.log2 < 1920) : Ev (tFmt te) σ H (.str (toString i)) := fun H1 a Q q => h H1 a _ fun H2 b => .inr ⟨i, rfl, l, q H2 b⟩
end
/-- the text of a small number -/
def tos (n : Nat) : Str := toString (n : Int)
theorem tos_len {n : Nat} (h : n ≤ 400) : (tos n).length ≤ 8 := by
  have z : ∀ i : Fin 401, (tos i.val).length ≤ 8 := by decide +kernel
  exact z ⟨n, by omega⟩
theorem log_small {n : Nat} (h : n ≤ 400) : (n : Int).natAbs.log2 < 1920 := by
  have z : ∀ i : Fin 401, (i.val : Int).natAbs.log2 < 1920 := by decide +kernel
  exact z ⟨n, by omega⟩
theorem app_len (a b : Str) : (a ++ b).length = a.length + b.length := by
  show (a.cps ++ b.cps).size = _
  rw [Array.size_append]
  rfl
theorem numB_small {n : Nat} (h : n ≤ 1000) : numB (n : Int) = true := by
  unfold numB big
  rw [decide_eq_true (by omega), decide_eq_true (by omega)]
  rfl
theorem within_ok {n : Nat} {lo hi : Int} (h : n ≤ 1000) (h1 : lo ≤ (n : Int)) (h2 : (n : Int) ≤ hi) : (D.int (n : Int)).within lo hi = true := by
  show (numB (n : Int) && (decide (lo ≤ (n : Int)) && decide ((n : Int) ≤ hi))) = true
  rw [numB_small h, decide_eq_true h1, decide_eq_true h2]
  rfl
end K0

namespace K0
open PySem L2 Evl
theorem ix_tupK {X : Cx} {K : PySem.W.Frag} (h : X.K = K) : IxR X (rIxT K) := h ▸ ix_tup
theorem pe_fldK {X : Cx} {K : PySem.W.Frag} {e : Expr} {f : Str} {pos : Pos} {ta : TE} (he : PE X e ta) (hb : attributeBase e f X.env (eval e X.env) = eval e X.env) (h : X.K = K) : PE X (.Attribute e f pos) (tFld K ta f) := h ▸ pe_fld he hb
section
variable {K : PySem.W.Frag} {A : Ad}
theorem d_raw {σ : L2.St} {H : Hp} {tr : TA} {sp : Sp} {E : XK} {Q : VK} (h : tr σ H fun vs H1 => sp vs H1 Q E) : tCall sp [] E tr σ H Q := by
  have e : (fun (vs : List V) H1 => sp (vs ++ []) H1 Q E) = fun vs H1 => sp vs H1 Q E := by
    funext vs H1
    rw [List.append_nil]
  show tr σ H fun vs H1 => sp (vs ++ []) H1 Q E
  rw [e]
  exact h
theorem gd_some {α : Type} {l : List α} {i : Nat} {x y : α} (h : l[i]? = some x) : l.getD i y = x := by
  rw [List.getD_eq_getElem?_getD, h]
  rfl
theorem getD_mem {α : Type} {l : List α} {i : Nat} {x : α} (h : i < l.length) : l.getD i x ∈ l := by
  rw [List.getD_eq_getElem?_getD, List.getElem?_eq_getElem h]
  exact List.getElem_mem h
theorem rp_maps {H : Hp} {α : Type} {v : α → V} {f : α → K0.D} : ∀ (l : List α), (∀ i ∈ l, Rp K H (v i) (f i)) → RpAll K H (l.map v) (l.map f)
  | [], _ => .nil
  | a :: l, h => .cons (h a (List.mem_cons_self ..)) (rp_maps l fun i hi => h i (List.mem_cons_of_mem _ hi))
theorem map_rangeD {α β : Type} (g : α → β) (x : α) : ∀ l : List α, (List.range l.length).map (fun i => g (l.getD i x)) = l.map g
  | [] => rfl
  | a :: l => by
    rw [List.length_cons, List.range_succ_eq_map, List.map_cons, List.map_cons, List.map_map, ← map_rangeD g x l]
    rfl
end
/-! ### all but lists stays -/
def ExT (H H' : Hp) : Prop := ∀ b u, H b = some u → (∀ xs, u ≠ HO.lst xs) → H' b = some u
section
variable {K : PySem.W.Frag} {H H' : Hp}
theorem ExT.of (e : Ex H H') : ExT H H' := fun b u h _ => e b u h
theorem ExT.trans {H'' : Hp} (a : ExT H H') (b : ExT H' H'') : ExT H H'' := fun c u h n => b c u (a c u h n) n
theorem ExT.sqT {a : Addr} {xs : List V} (e : ExT H H') (h : SqT K H a xs) : SqT K H' a xs := by
  rcases h with (h | ⟨o, h⟩) | h
  · exact .inl (.inl (e _ _ h fun _ z => by cases z))
  · exact .inl (.inr ⟨o, e _ _ h fun _ z => by cases z⟩)
  · exact .inr h
mutual
theorem Rp.exT {v : V} {d : D} (c : d.clean = true) (e : ExT H H') : Rp K H v d → Rp K H' v d
  | .non => .non
  | .bl b => .bl b
  | .int i => .int i
  | .str s => .str s
  | .tup h r => .tup (e.sqT h) (RpAll.exT c e r)
  | .lst h => by cases c
  | .dct h => by cases c
theorem RpAll.exT {vs : List V} {ds : List D} (c : D.cleanL ds = true) (e : ExT H H') : RpAll K H vs ds → RpAll K H' vs ds
  | .nil => .nil
  | .cons h r => by
    have c' := Bool.and_eq_true_iff.mp c
    exact .cons (Rp.exT c'.1 e h) (RpAll.exT c'.2 e r)
end
/-- what is hidden is a list -/
def hidL (o : Option Addr) (H : Hp) : Prop := ∀ a, o = some a → ∃ xs, H a = some (.lst xs)
theorem exT_hid {o : Option Addr} (h : hidL o H) : ExT H (hid o H) := fun b u hb n => by
  unfold hid
  by_cases c : o = some b
  · obtain ⟨xs, hx⟩ := h b c
    rw [hb] at hx
    exact absurd (Option.some.inj hx) (n xs)
  · rw [if_neg c]
    exact hb
theorem DiceAt.hidL {a : Addr} (h : DiceAt H a) : hidL (some a) H := fun b e => by
  obtain ⟨x, y, z, h⟩ := h
  cases e
  exact ⟨_, h⟩
theorem Bt.exT {a : Addr} (h : DiceAt H a) (b : Bt a H H') : ExT H H' := ((exT_hid h.hidL).trans (ExT.of b)).trans (ExT.of hid_le)
theorem RpAll.memI : ∀ {vs : List V} {ds : List D}, RpAll K H vs ds → ∀ v ∈ vs, ∃ d ∈ ds, Rp K H v d
  | _, _, .nil, v, h => by cases h
  | _, _, .cons h r, v, hv => by
    rcases List.mem_cons.mp hv with rfl | hv
    · exact ⟨_, List.mem_cons_self .., h⟩
    · obtain ⟨d, hd, hr⟩ := RpAll.memI r v hv
      exact ⟨d, List.mem_cons_of_mem _ hd, hr⟩
end
section
variable {K : PySem.W.Frag} {σ : L2.St} {H H' : Hp} {ta tb te tn : TE} {tr : TA} {ds : List D} {d : D}
theorem l_lst {Q : VK} (h : EvDA K tr σ H ds) (l : ds.length ≤ 100000) (k : ∀ p xs H1, H p = none → Ex H H1 → H1 p = some (.lst xs) → RpAll K H1 xs ds → Q (.ref p) H1) : tLst tr σ H Q := h H (Ex.refl H) _ fun vs H1 e r =>
  ⟨by rw [r.len]; exact sz_of l, fun p hp => k p vs _ (fresh_back e hp) (e.trans (Ex.new hp)) upd_same (r.ex (Ex.new hp))⟩
/-- a new list of data -/
def EvDL (K : PySem.W.Frag) (te : TE) (σ : L2.St) (H : Hp) (ds : List D) : Prop := ∀ H1, Ex H H1 → ∀ Q : VK, (∀ p xs H2, H1 p = none → Ex H1 H2 → H2 p = some (.lst xs) → RpAll K H2 xs ds → Q (.ref p) H2) → te σ H1 Q
/-- [e for j in range(n)], each e data -/
theorem edl_range {n j : Nat} {vs : List Nat} {f : Nat → D} (hn : ∀ H1, Ex H H1 → Ev tn σ H1 (.int (n : Int))) (hz : n ≤ 1000) (hw : ∀ x, wipe ((wipe σ vs).set j (some x)) vs = wipe σ vs)
    (he : ∀ i H1, Ex H H1 → i < n → EvD K te ((wipe σ vs).set j (some (.int (i : Int)))) H1 (f i)) : EvDL K (tLc (iRng1 (tCons tn tNil)) (gName j) tYes te vs) σ H ((List.range n).map f) := fun H0 e0 Q q => by
  unfold tLc
  refine n_rng1 (n_cons (hn H0 e0 H0 (Ex.refl _) _ fun H1 e1 => ⟨(n : Int), rfl, by omega, by omega, fun Dl hD => ?_⟩))
  refine lc_range (lo := 0) (n := (n : Int).toNat) (fun i H' => i ≤ n ∧ ∃ acc, H' Dl = some (.lst acc) ∧ RpAll K H' acc ((List.range i).map f) ∧ Ex H1 H') ⟨Nat.zero_le _, [], upd_same, .nil, Ex.new hD⟩ (fun i H' hi p => ?_) (fun H' p => ?_)
  · obtain ⟨_, acc, p1, p2, p3⟩ := p
    rw [Int.toNat_natCast] at hi
    have ez : (0 : Int) + (i : Int) = (i : Int) := Int.zero_add _
    rw [ez]
    refine ⟨hw _, he i H' ((e0.trans e1).trans p3) hi H' (Ex.refl _) _ fun v H'' e2 hv => ?_⟩
    have h2 := e2 _ _ p1
    have hl : acc.length = i := by rw [p2.len, List.length_map, List.length_range]
    refine ⟨acc, h2, sz_lt (by omega), hi, acc ++ [v], upd_same, ?_, Ex.mut (p3.trans e2) hD⟩
    rw [List.range_succ, List.map_append]
    exact ((p2.ex e2).app (.cons hv .nil)).exL (ExL.upd h2)
  · obtain ⟨_, acc, p1, p2, p3⟩ := p
    rw [Int.toNat_natCast] at p2
    exact q Dl acc H' (fresh_back e1 hD) (e1.trans p3) p1 p2
theorem dpL {a : Addr} {xs : List V} (h : H a = some (.lst xs)) (r : RpAll K H xs ds) (c : D.cleanL ds = true) : Dp K H (.ref a) (.list (D.pyL ds)) := .lst (sq_of h) (r.dp c)
/-- two lists compared as data -/
theorem ev_neLL {es : List D} {n : Nat} (h1 : EvDL K ta σ H ds) (h2 : ∀ H1, Ex H H1 → ∃ b ys, Ev tb σ H1 (.ref b) ∧ H1 b = some (.lst ys) ∧ RpAll K H1 ys es) (fd : ∀ d ∈ ds, d.fine n = true) (fe : ∀ d ∈ es, d.fine n = true) (hn : n + 1 ≤ 64) :
    Ev (tOp (rNeD K) ta tb) σ H (.bl (!PyData.eqvAll (D.pyL ds) (D.pyL es))) := fun H1 a Q q =>
  h1 H1 a _ fun p xs H2 hp b hx rx => by
    obtain ⟨r, ys, ev, hy, ry⟩ := h2 H2 (a.trans b)
    refine ev H2 (Ex.refl _) _ fun H3 c => ?_
    refine ⟨.list (D.pyL ds), .list (D.pyL es), dpL (c _ _ hx) (rx.ex c) (fine_all ds fd).1, dpL (c _ _ hy) (ry.ex c) (fine_all es fe).1, shapedL_of fd hn, shapedL_of fe hn, ?_⟩
    show Q (.bl (!PyData.eqvAll (D.pyL ds) (D.pyL es))) H3
    exact q H3 (b.trans c)
/-- two lists that stand -/
theorem ev_eqLs {a b : Addr} {xs ys : List V} {es : List D} {n : Nat} (h1 : Ev ta σ H (.ref a)) (h2 : Ev tb σ H (.ref b)) (hx : H a = some (.lst xs)) (hy : H b = some (.lst ys)) (rx : RpAll K H xs ds) (ry : RpAll K H ys es) (fd : ∀ d ∈ ds, d.fine n = true) (fe : ∀ d ∈ es, d.fine n = true) (hn : n + 1 ≤ 64) :
    Ev (tOp (rEqD K) ta tb) σ H (.bl (PyData.eqvAll (D.pyL ds) (D.pyL es))) := ev_op h1 h2 fun H1 e Q q => ⟨.list (D.pyL ds), .list (D.pyL es), dpL (e _ _ hx) (rx.ex e) (fine_all ds fd).1, dpL (e _ _ hy) (ry.ex e) (fine_all es fe).1, shapedL_of fd hn, shapedL_of fe hn, q H1 (Ex.refl _)⟩
/-- tuple(xs), xs a list of data -/
theorem ed_tupOf {a : Addr} {xs : List V} (h : Ev ta σ H (.ref a)) (hx : H a = some (.lst xs)) (r : RpAll K H xs ds) : EvD K (tCB (rTupOf K) (tCons ta tNil)) σ H (.tup ds) := fun H1 e Q q =>
  eu_tupOf h (sq_of hx) H1 e Q fun p H2 hp e2 h2 => q (.ref p) H2 e2 (.tup (st_of h2) (r.ex (e.trans e2)))
/-- a property that gives data -/
theorem ed_prop {C a dx : Addr} {fs : List (Str × V)} {sp : Sp} {E : XK} (h : Ev ta σ H (.ref a)) (ha : H a = some (.ins C dx fs)) (k : ∀ H1, Ex H H1 → ∀ Q : VK, RetR K d H1 Q → sp [.ref a] H1 Q E) :
    EvD K (tProp C sp [] E ta) σ H d := fun H1 a1 Q q => h H1 a1 _ fun H2 b => ⟨a, dx, fs, rfl, (a1.trans b) _ _ ha, k H2 (a1.trans b) Q fun v H3 c hv => q v H3 (b.trans c) hv⟩
/-- a method with one argument that gives data -/
theorem ed_meth1 {C a dx : Addr} {fs : List (Str × V)} {m : Str} {sp : Sp} {E : XK} {y : V} (h : Ev ta σ H (.ref a)) (ha : H a = some (.ins C dx fs)) (l : fs.lookup m = none) (hb : ∀ H1, Ex H H1 → Ev tb σ H1 y) (k : ∀ H1, Ex H H1 → ∀ Q : VK, RetR K d H1 Q → sp [.ref a, y] H1 Q E) :
    EvD K (tMeth C m sp [] E ta (tCons tb tNil)) σ H d := fun H1 a1 Q q => h H1 a1 _ fun H2 b => ⟨a, dx, fs, rfl, (a1.trans b) _ _ ha, l, hb H2 (a1.trans b) H2 (Ex.refl _) _ fun H3 c => k H3 ((a1.trans b).trans c) Q fun v H4 g hv => q v H4 ((b.trans c).trans g) hv⟩
theorem rv_addS {a b : Str} (h : a.length + b.length ≤ 100000) : RV (fun x y H Q => ∃ i j, x = .str i ∧ y = .str j ∧ i.length + j.length ≤ sizeLine ∧ Q (.str (i ++ j)) H) (.str a) (.str b) H (.str (a ++ b)) := fun H1 _ Q q => ⟨a, b, rfl, rfl, sz_of h, q H1 (Ex.refl _)⟩
theorem rc_strI {i : Int} (h : i.natAbs.log2 < 1920) : RC (fun xs H Q => ∃ i, xs = [.int i] ∧ i.natAbs.log2 < 1920 ∧ Q (.str (toString i)) H) [.int i] H (.str (toString i)) := fun H1 _ Q q => ⟨i, rfl, h, q H1 (Ex.refl _)⟩
end
theorem range_all {α : Type} (x : α) (l : List α) {n : Nat} (h : l.length = n) : (List.range n).map (fun i => l.getD i x) = l := by
  subst h
  have := map_rangeD (fun y : α => y) x l
  rw [List.map_id''] at this
  · exact this
  · intro y
    rfl
section
variable {K : PySem.W.Frag}
theorem et_neD {σ : L2.St} {H : Hp} {ta tb : TE} {d : K0.D} {n : Nat} (h1 : EvD K ta σ H d) (h2 : EvD K tb σ H d) (fd : d.fine n = true) (hn : n ≤ 64) : EvT (tTest (tOp (rNeD K) ta tb)) σ H false := et_is (et_test (ev_neD h1 h2 fd fd hn)) (by
  rw [eqv_self d (fine_c fd)]
  rfl)
end
section
variable {σ : L2.St} {H H' : Hp} {ta tb te tx : TE} {t u : TT} {tr : TA} {Q : VK} {D : Ends} {tz : TS}
theorem q_par {i j : Nat} (h : tr σ H fun vs H1 => ∃ v w, vs = [v, w] ∧ tz D ((σ.set i (some v)).set j (some w)) H1) : tSeq (tPar i j tr) tz D σ H := h
theorem q_asgX {i : Nat} (h : te σ H fun v H1 => tz D (σ.set i (some v)) H1) : tSeq (tAsg te (gName i)) tz D σ H := h
theorem n_tup (h : tr σ H fun xs H1 => xs.length ≤ sizeLine ∧ ∀ p, H1 p = none → Q (.ref p) (upd H1 p (.tup xs))) : tTup tr σ H Q := h
theorem n_var {i : Nat} {v : V} (h : σ[i]? = some (some v)) (k : Q v H) : tVar i σ H Q := ⟨v, h, k⟩
theorem n_op {r : R2} (h : ta σ H fun x H1 => tb σ H1 fun y H2 => r x y H2 Q) : tOp r ta tb σ H Q := h
theorem n_nil {k : List V → Hp → Prop} (h : k [] H) : tNil σ H k := h
theorem n_if {b : Bool} (h : EvT t σ H b) (h1 : b = true → ∀ H1, Ex H H1 → ta σ H1 Q) (h2 : b = false → ∀ H1, Ex H H1 → tb σ H1 Q) : tIf t ta tb σ H Q := h H (Ex.refl H) _ fun H1 e => by
  cases b with
  | true => exact h1 rfl H1 e
  | false => exact h2 rfl H1 e
theorem c_meth {C p dx : Addr} {fs : List (Str × V)} {m : Str} {sp : Sp} {E : XK} {vs : List V} (h : Ev ta σ H (.ref p)) (hp : H p = some (.ins C dx fs)) (l : fs.lookup m = none) (ha : ∀ H1, Ex H H1 → EvA tr σ H1 vs) (k : ∀ H1, Ex H H1 → sp (.ref p :: vs) H1 Q E) :
    tMeth C m sp [] E ta tr σ H Q := h H (Ex.refl H) _ fun H1 e1 => ⟨p, dx, fs, rfl, e1 _ _ hp, l, ha H1 e1 H1 (Ex.refl _) _ fun H2 e2 => by
  show sp (.ref p :: (vs ++ [])) H2 Q E
  rw [List.append_nil]
  exact k H2 (e1.trans e2)⟩
theorem c_methD {K : PySem.W.Frag} {C p dx : Addr} {fs : List (Str × V)} {m : Str} {sp : Sp} {E : XK} {d : K0.D} (h : Ev ta σ H (.ref p)) (hp : H p = some (.ins C dx fs)) (l : fs.lookup m = none) (ha : ∀ H1, Ex H H1 → EvD K tb σ H1 d) (k : ∀ v H1, Ex H H1 → Rp K H1 v d → sp [.ref p, v] H1 Q E) :
    tMeth C m sp [] E ta (tCons tb tNil) σ H Q := h H (Ex.refl H) _ fun H1 e1 => ⟨p, dx, fs, rfl, e1 _ _ hp, l, ha H1 e1 H1 (Ex.refl _) _ fun v H2 e2 hv => k v H2 (e1.trans e2) hv⟩
end
theorem asc_snoc : ∀ (l : List Int) (y : Int), ascB l = true → (∀ x ∈ l, x < y) → ascB (l ++ [y]) = true
  | [], y, _, _ => rfl
  | [x], y, _, h => by
    show (decide (x < y) && ascB [y]) = true
    rw [decide_eq_true (h x (List.mem_cons_self ..))]
    rfl
  | x :: z :: r, y, h, g => by
    have h' : (decide (x < z) && ascB (z :: r)) = true := h
    have h1 := Bool.and_eq_true_iff.mp h'
    show (decide (x < z) && ascB ((z :: r) ++ [y])) = true
    rw [h1.1, asc_snoc (z :: r) y h1.2 fun w hw => g w (List.mem_cons_of_mem _ hw)]
    rfl
section
variable {K : PySem.W.Frag} {σ : L2.St} {H H' : Hp} {ta tb te tx tn : TE} {t u : TT} {tr : TA} {Q : VK} {D : Ends} {tz : TS} {g : TG}
theorem q_asgG (h : te σ H fun v H1 => g v σ H1 fun σ2 H2 => tz D σ2 H2) : tSeq (tAsg te g) tz D σ H := h
end
section
variable {K : PySem.W.Frag} {σ : L2.St} {H H' : Hp} {ta tb te tx tn : TE} {t u : TT} {tr : TA} {Q : VK} {D : Ends} {tz tu tw : TS}
theorem n_ifS (h : t σ H fun b H1 => if b = true then tu D σ H1 else tw D σ H1) : tIfS t tu tw D σ H := h
theorem n_or {Q : Bool → Hp → Prop} (h : t σ H fun b H1 => if b = true then Q true H1 else u σ H1 Q) : tOr t u σ H Q := h
theorem n_not {Q : Bool → Hp → Prop} (h : t σ H fun b H1 => Q (!b) H1) : tNot t σ H Q := h
theorem n_B {Q : Bool → Hp → Prop} (h : te σ H fun v H1 => ∃ b, v = .bl b ∧ Q b H1) : tB te σ H Q := h
theorem sq_btF {p a : Addr} {xs : List V} {H1 H2 : Hp} (hp : H p = none) (h : SqL K H a xs) (e : Ex H H1) (b : Bt p H1 H2) : SqL K H2 a xs := by
  rcases h with (h | ⟨o, h⟩) | h
  · exact .inl (.inl (b.at (ne_of_none h hp) (e _ _ h)))
  · exact .inl (.inr ⟨o, b.at (ne_of_none h hp) (e _ _ h)⟩)
  · exact .inr h
theorem ev_neVL {a : Addr} {xs : List V} {ds es : List K0.D} {n : Nat} (h1 : Ev ta σ H (.ref a)) (hx : H a = some (.lst xs)) (rx : RpAll K H xs ds) (h2 : EvDA K tr σ H es) (l : es.length ≤ 1000) (fd : ∀ d ∈ ds, d.fine n = true) (fe : ∀ d ∈ es, d.fine n = true) (hn : n + 1 ≤ 64) :
    Ev (tOp (rNeD K) ta (tLst tr)) σ H (.bl (!PyData.eqvAll (K0.D.pyL ds) (K0.D.pyL es))) := fun H1 e Q q =>
  h1 H1 e _ fun H2 e2 => h2 H2 (e.trans e2) _ fun vs H3 e3 r => ⟨by rw [r.len]; exact sz_of (by omega), fun p hp => by
    have e4 := (e.trans e2).trans e3
    refine ⟨.list (K0.D.pyL ds), .list (K0.D.pyL es), dpL ((e4.trans (Ex.new hp)) _ _ hx) (rx.ex (e4.trans (Ex.new hp))) (fine_all ds fd).1, dpL upd_same (r.ex (Ex.new hp)) (fine_all es fe).1, shapedL_of fd hn, shapedL_of fe hn, ?_⟩
    exact q _ ((e2.trans e3).trans (Ex.new hp))⟩
end
section
variable {l : Addr} {H : Hp}
theorem ExT.upd {xs ys : List V} (h : H l = some (.lst xs)) : ExT H (L2.upd H l (.lst ys)) := fun b u hb n => by
  by_cases c : b = l
  · subst c
    rw [h] at hb
    exact absurd (Option.some.inj hb).symm (n xs)
  · rw [upd_ne c]
    exact hb
end
end K0

namespace K0
open PySem PySem.Spec PyProof.Rows L2 Evl
/-! ### own exceptions with a field; repr of None and of numbers -/
/-- what is raised: an exception of the class at C whose one field is f = v -/
def RaF (C : Addr) (f : Str) (v : V) (H : Hp) (E : XK) : Prop := ∀ dd H', Ex H H' → H' dd = some (.xd [(f, v)]) → E (.ref C) (some dd) H'
theorem RaF.ex {C : Addr} {f : Str} {v : V} {H H' : Hp} {E : XK} (e : Ex H H') (h : RaF C f v H E) : RaF C f v H' E := fun dd H2 e2 => h dd H2 (e.trans e2)
/-- the promise of an __init__ that keeps one field -/
def spXI (C : Addr) (f : Str) : Sp := fun vs H Q _ => ∃ a x, vs = [.ref a, x] ∧ H a = some (exo a C none) ∧ ∀ dx, H dx = none → dx ≠ a → Q .non (upd (upd H dx (exd dx [(f, x)])) a (exo a C (some dx)))
section
variable {C : Addr} {f : Str} {ta : TE} {σ : L2.St} {H : Hp} {Q : XK} {v : V}
theorem n_mkO (h : Ev ta σ H v) (k : ∀ H1, Ex H H1 → ∀ dd H2, Ex H1 H2 → H2 dd = some (.xd [(f, v)]) → Q (.ref C) (some dd) H2) : tMkO C (spXI C f) [] (tCons ta tNil) σ H Q :=
  h H (Ex.refl H) _ fun H1 e1 => ⟨by simp, fun a ha => ⟨a, v, rfl, upd_same, fun dx hx ne => ⟨rfl, dx, [(f, v)], upd_same, by rw [upd_ne ne]; exact upd_same, (by rw [upd_ne ne] at hx; exact hx), k H1 e1 dx _ (fun b o hb => by
    have nb : b ≠ a := ne_of_none hb ha
    have hx' : H1 dx = none := by rw [upd_ne ne] at hx; exact hx
    have nd : b ≠ dx := ne_of_none hb hx'
    rw [upd_ne nd, del_ne nb, upd_ne nb, upd_ne nd, upd_ne nb]
    exact hb) upd_same⟩⟩⟩
theorem s_raiseO {D : Ends} {W : WX} (h : Ev ta σ H v) (k : ∀ dd H2, Ex H H2 → H2 dd = some (.xd [(f, v)]) → W (.ref C) (some dd) σ H2) : (fun (_ : Ends) (σ : L2.St) (H : Hp) => tMkO C (spXI C f) [] (tCons ta tNil) σ H fun cls d H' => W cls d σ H') D σ H :=
  n_mkO h fun H1 e1 dd H2 e2 h2 => k dd H2 (e1.trans e2) h2
end
section
variable {X : Cx}
def rReprI : List V → Hp → VK → Prop := fun xs H Q => (xs = [.non] ∧ Q (.str "None") H) ∨ ∃ i, xs = [.int i] ∧ i.natAbs.log2 < 1920 ∧ Q (.str (toString i)) H
theorem cr_reprI : CallR X (.builtin "repr") rReprI := by
  intro pins s σ H xs us Q I r h
  rcases h with ⟨rfl, q⟩ | ⟨i, rfl, hz, q⟩
  · obtain ⟨u, rfl, rx⟩ := vals1 r
    cases rx
    exact PySem.P.repr_of_none ⟨.str "None", H, I.tok _, ⟨_, rfl⟩, q⟩
  · obtain ⟨u, rfl, t, rfl⟩ := vals1 r
    exact PySem.P.repr_of_int hz ⟨.str _, H, I.tok _, ⟨_, rfl⟩, q⟩
end
end K0

namespace K0
open PySem L2 Evl
section
variable {K : PySem.W.Frag} {H H' : Hp} {l : Addr}
mutual
/-- clean data stays where tuples stay -/
theorem Rp.byT {v : V} {d : D} (c : d.clean = true) (h : ∀ a xs, SqT K H a xs → SqT K H' a xs) : Rp K H v d → Rp K H' v d
  | .non => .non
  | .bl b => .bl b
  | .int i => .int i
  | .str s => .str s
  | .tup g r => .tup (h _ _ g) (RpAll.byT c h r)
  | .lst g => by cases c
  | .dct g => by cases c
theorem RpAll.byT {vs : List V} {ds : List D} (c : D.cleanL ds = true) (h : ∀ a xs, SqT K H a xs → SqT K H' a xs) : RpAll K H vs ds → RpAll K H' vs ds
  | .nil => .nil
  | .cons g r => by
    have c' := Bool.and_eq_true_iff.mp c
    exact .cons (Rp.byT c'.1 h g) (RpAll.byT c'.2 h r)
end
theorem sqT_lst {b : Addr} {xs ys zs : List V} (hl : H l = some (.lst xs)) (h : SqT K H b zs) : SqT K (L2.upd H l (.lst ys)) b zs := by
  have ne : ∀ {b : Addr} {o : HO}, H b = some o → (∀ zs, o ≠ .lst zs) → b ≠ l := fun g n z => by
    rw [z, hl] at g
    exact n _ (Option.some.inj g).symm
  rcases h with (h | ⟨o, h⟩) | h
  · exact .inl (.inl (by rw [upd_ne (ne h fun zs z => by cases z)]; exact h))
  · exact .inl (.inr ⟨o, by rw [upd_ne (ne h fun zs z => by cases z)]; exact h⟩)
  · exact .inr h
end
end K0

namespace K0
open PySem L2 Evl
/-! ### reading a text: what is found (mathematics) -/
def inS (z : Str) (c : Nat) : Bool := decide (c ∈ z.cps.toList)
abbrev digits10 : Str := "0123456789"
abbrev digits9 : Str := "123456789"
def runTo (p : Nat → Bool) : Nat → List Nat → Nat
  | 0, _ => 0
  | _, [] => 0
  | m + 1, c :: r => if p c then 1 + runTo p m r else 0
def stp (p : Nat → Bool) (l : List Nat) (s M e : Nat) : Bool := match l[e]? with
  | some c => p c && decide (e - s < M)
  | none => false
def chS : Option Nat → Str
  | some c => ⟨#[c]⟩ | none => ⟨#[]⟩
def midS (l : List Nat) (a b : Nat) : List Nat := (l.drop a).take (b - a)
abbrev RdR := Except Nat (K0.D × Nat)
def rdS (l : List Nat) (s : Nat) : RdR :=
  let e := s + runTo (inS signs37) 3000 (l.drop s)
  if l[e]? = some 39 then .ok (.str ⟨(midS l s e).toArray⟩, e + 1) else .error e
def rdNe (l : List Nat) (s c : Nat) : Nat := if c = 48 then s + 1 else s + 1 + runTo (inS digits10) 59 (l.drop (s + 1))
def rdN (l : List Nat) (f : Str) (s : Nat) : Except Nat (Nat × Nat) := match l[s]? with
  | none => .error s
  | some c => if inS f c then .ok (PySem.NumText.digitsVal (midS l s (rdNe l s c)), rdNe l s c) else .error s
def rdI (g : Nat → Int) : Except Nat (Nat × Nat) → RdR
  | .ok (n, e) => .ok (.int (g n), e)
  | .error e => .error e
def rdLoop (rv : Nat → RdR) (l : List Nat) : Nat → Nat → List K0.D → RdR
  | 0, e, _ => .error e
  | f + 1, e, acc => match rv e with
    | .error x => .error x
    | .ok (d, e') => if l[e']? = some 44 then rdLoop rv l f (e' + 1) (acc ++ [d]) else if l[e']? = some 41 then .ok (.tup (acc ++ [d]), e' + 1) else .error e'
def rdTup (rv : Nat → RdR) (l : List Nat) (s : Nat) : RdR := if l[s]? = some 41 then .ok (.tup [], s + 1) else rdLoop rv l (l.length + 2) s []
def rdOther (l : List Nat) (s : Nat) : RdR :=
  if l[s]? = some 45 then rdI (fun n => -(n : Int)) (rdN l digits9 (s + 1)) else rdI (fun n => (n : Int)) (rdN l digits10 s)
def rdV (l : List Nat) : Nat → Nat → RdR
  | 0, s => if l[s]? = some 46 then .ok (.non, s + 1) else if l[s]? = some 39 then rdS l (s + 1) else rdOther l s
  | m + 1, s => if l[s]? = some 46 then .ok (.non, s + 1) else if l[s]? = some 39 then rdS l (s + 1) else if l[s]? = some 40 then rdTup (rdV l m) l (s + 1) else rdOther l s
/-- the whole text -/
def rdAll (l : List Nat) : Except Nat K0.D := match rdV l 12 0 with
  | .error e => .error e
  | .ok (d, e) => if e < l.length then .error e else .ok d
section
variable {p : Nat → Bool} {l : List Nat} {s M e m c : Nat}
theorem get_lt (h : l[e]? = some c) : e < l.length := (List.getElem?_eq_some_iff.mp h).1
theorem drop_cons (h : l[e]? = some c) : l.drop e = c :: l.drop (e + 1) := by
  obtain ⟨h1, h2⟩ := List.getElem?_eq_some_iff.mp h
  rw [← h2]
  exact List.drop_eq_getElem_cons h1
theorem runTo_le : ∀ (m : Nat) (r : List Nat), runTo p m r ≤ r.length ∧ runTo p m r ≤ m
  | 0, r => by cases r <;> exact ⟨Nat.zero_le _, Nat.le_refl _⟩
  | m + 1, [] => ⟨Nat.le_refl _, Nat.zero_le _⟩
  | m + 1, c :: r => by
    have ih := runTo_le m r
    unfold runTo
    split
    · rw [List.length_cons]
      omega
    · exact ⟨Nat.zero_le _, Nat.zero_le _⟩
theorem run_all : ∀ (m : Nat) (r : List Nat), (r.take (runTo p m r)).all p = true
  | 0, r => by cases r <;> rfl
  | m + 1, [] => rfl
  | m + 1, c :: r => by
    unfold runTo
    split
    · rename_i h
      rw [Nat.add_comm 1, List.take_succ_cons, List.all_cons, h, run_all m r]
      rfl
    · rfl
theorem run_yes (h : stp p l s M e = true) (hs : s ≤ e) : runTo p (M - (e - s)) (l.drop e) = 1 + runTo p (M - (e + 1 - s)) (l.drop (e + 1)) ∧ e < l.length := by
  unfold stp at h
  cases hc : l[e]? with
  | none => rw [hc] at h; cases h
  | some c =>
    rw [hc] at h
    have h2 := Bool.and_eq_true_iff.mp h
    have h3 := of_decide_eq_true h2.2
    refine ⟨?_, get_lt hc⟩
    rw [drop_cons hc, show M - (e - s) = (M - (e + 1 - s)) + 1 by omega]
    show (if p c then _ else _) = _
    rw [if_pos h2.1]
theorem run_no (h : stp p l s M e = false) : runTo p (M - (e - s)) (l.drop e) = 0 := by
  unfold stp at h
  cases hc : l[e]? with
  | none =>
    have : l.drop e = [] := List.drop_eq_nil_of_le (List.getElem?_eq_none_iff.mp hc)
    rw [this]
    cases M - (e - s) <;> rfl
  | some c =>
    rw [hc] at h
    rw [drop_cons hc]
    cases hm : M - (e - s) with
    | zero => rfl
    | succ k =>
      have h3 : decide (e - s < M) = true := decide_eq_true (by omega)
      have h4 : (p c && decide (e - s < M)) = false := h
      rw [h3, Bool.and_true] at h4
      show (if p c then _ else _) = 0
      rw [if_neg (by rw [h4]; decide)]
theorem rdNe_le (h : l[s]? = some c) : s < rdNe l s c ∧ rdNe l s c ≤ l.length ∧ rdNe l s c ≤ s + 60 := by
  have h1 := get_lt h
  have h2 := runTo_le (p := inS digits10) 59 (l.drop (s + 1))
  rw [List.length_drop] at h2
  unfold rdNe
  split <;> omega
theorem rdN_lt {f : Str} {n e : Nat} (h : rdN l f s = .ok (n, e)) : s < e ∧ e ≤ l.length := by
  unfold rdN at h
  split at h
  · cases h
  · rename_i c hc
    split at h
    · cases h
      exact ⟨(rdNe_le hc).1, (rdNe_le hc).2.1⟩
    · cases h
theorem rdS_lt {d : K0.D} {e : Nat} (h : rdS l s = .ok (d, e)) : s < e ∧ e ≤ l.length := by
  unfold rdS at h
  simp only at h
  split at h
  · rename_i hc
    cases h
    have := get_lt hc
    omega
  · cases h
theorem rdI_ok {g : Nat → Int} {r : Except Nat (Nat × Nat)} {d : K0.D} {e : Nat} (h : rdI g r = .ok (d, e)) : ∃ n, r = .ok (n, e) ∧ d = .int (g n) := by
  cases r with
  | error x => cases h
  | ok q =>
    obtain ⟨n, e'⟩ := q
    cases h
    exact ⟨n, rfl, rfl⟩
theorem rdOther_lt {d : K0.D} {e : Nat} (h : rdOther l s = .ok (d, e)) : s < e ∧ e ≤ l.length ∧ d.clean = true := by
  unfold rdOther at h
  split at h
  · obtain ⟨n, h1, rfl⟩ := rdI_ok h
    have := rdN_lt h1
    exact ⟨by omega, this.2, rfl⟩
  · obtain ⟨n, h1, rfl⟩ := rdI_ok h
    have := rdN_lt h1
    exact ⟨this.1, this.2, rfl⟩
def RvOk (rv : Nat → RdR) (l : List Nat) : Prop := ∀ s d e, rv s = .ok (d, e) → s < e ∧ e ≤ l.length ∧ d.clean = true
theorem cleanL_snoc {acc : List K0.D} {d : K0.D} (h : K0.D.cleanL acc = true) (hd : d.clean = true) : K0.D.cleanL (acc ++ [d]) = true := by
  induction acc with
  | nil => simp [K0.D.cleanL, hd]
  | cons a r ih =>
    have h' := Bool.and_eq_true_iff.mp h
    simp [K0.D.cleanL, h'.1, ih h'.2]
theorem rdLoop_ok {rv : Nat → RdR} (hv : RvOk rv l) : ∀ (f e : Nat) (acc : List K0.D) (d : K0.D) (e2 : Nat), K0.D.cleanL acc = true → rdLoop rv l f e acc = .ok (d, e2) → e < e2 ∧ e2 ≤ l.length ∧ d.clean = true
  | 0, _, _, _, _, _, h => by cases h
  | f + 1, e, acc, d, e2, hc, h => by
    unfold rdLoop at h
    split at h
    · cases h
    · rename_i d1 e1 h1
      have hv1 := hv _ _ _ h1
      split at h
      · have := rdLoop_ok hv f (e1 + 1) (acc ++ [d1]) d e2 (cleanL_snoc hc hv1.2.2) h
        exact ⟨by omega, this.2⟩
      · split at h
        · rename_i h41
          cases h
          have := get_lt h41
          exact ⟨by omega, by omega, cleanL_snoc hc hv1.2.2⟩
        · cases h
theorem rdTup_ok {rv : Nat → RdR} (hv : RvOk rv l) : RvOk (rdTup rv l) l := fun s d e h => by
  unfold rdTup at h
  split at h
  · rename_i h41
    cases h
    have := get_lt h41
    exact ⟨by omega, by omega, rfl⟩
  · exact rdLoop_ok hv _ _ _ _ _ rfl h
theorem rdS_clean {d : K0.D} {e : Nat} (h : rdS l s = .ok (d, e)) : d.clean = true := by
  unfold rdS at h
  simp only at h
  split at h
  · cases h
    rfl
  · cases h
theorem rdV_ok : ∀ m, RvOk (rdV l m) l
  | 0 => fun s d e h => by
    unfold rdV at h
    split at h
    · rename_i h1
      cases h
      have := get_lt h1
      exact ⟨by omega, by omega, rfl⟩
    · split at h
      · have := rdS_lt h
        exact ⟨by omega, this.2, rdS_clean h⟩
      · exact rdOther_lt h
  | m + 1 => fun s d e h => by
    unfold rdV at h
    split at h
    · rename_i h1
      cases h
      have := get_lt h1
      exact ⟨by omega, by omega, rfl⟩
    · split at h
      · have := rdS_lt h
        exact ⟨by omega, this.2, rdS_clean h⟩
      · split at h
        · have := rdTup_ok (rdV_ok m) _ _ _ h
          exact ⟨by omega, this.2⟩
        · exact rdOther_lt h
end
/-! ### signs and slices of a text -/
theorem cut_ab (z : Str) (a b : Nat) : cutS z (some (a : Int)) (some (b : Int)) = ⟨(midS z.cps.toList a b).toArray⟩ := by
  unfold cutS midS
  have h1 : HT.sIx z.length 0 (some (a : Int)) = min a z.length := HT.sIx_nat _ _ a
  have h2 : HT.sIx z.length z.length (some (b : Int)) = min b z.length := HT.sIx_nat _ _ b
  rw [h1, h2]
  have hl : z.length = z.cps.toList.length := by simp [Str.length]
  rw [hl]
  congr 2
  by_cases ha : a ≤ z.cps.toList.length
  · rw [Nat.min_eq_left ha]
    by_cases hb : b ≤ z.cps.toList.length
    · rw [Nat.min_eq_left hb]
    · rw [Nat.min_eq_right (by omega), List.take_of_length_le (by rw [List.length_drop]; omega), List.take_of_length_le (by rw [List.length_drop]; omega)]
  · rw [show min a z.cps.toList.length = z.cps.toList.length from Nat.min_eq_right (by omega), List.drop_eq_nil_of_le (Nat.le_refl _), List.drop_eq_nil_of_le (by omega)]
    simp
theorem mid_one (l : List Nat) (a : Nat) : (⟨(midS l a (a + 1)).toArray⟩ : Str) = chS l[a]? := by
  unfold midS
  rw [Nat.add_sub_cancel_left]
  cases h : l[a]? with
  | none =>
    rw [List.drop_eq_nil_of_le (List.getElem?_eq_none_iff.mp h)]
    rfl
  | some c =>
    rw [drop_cons h]
    rfl
theorem ch_eq (o : Option Nat) (c : Nat) : decide (V.str (chS o) = V.str ⟨#[c]⟩) = decide (o = some c) := by
  cases o with
  | none =>
    rw [decide_eq_false (by intro h; cases h), decide_eq_false (by simp)]
  | some a =>
    by_cases h : a = c
    · subst h
      exact (decide_eq_true (p := V.str (chS (some a)) = V.str ⟨#[a]⟩) rfl).trans (decide_eq_true (p := some a = some a) rfl).symm
    · rw [decide_eq_false (by intro z; injection z with z; exact h (by simpa [chS] using congrArg (fun s : Str => s.cps) z)), decide_eq_false (by simpa using h)]
section
variable {K : PySem.W.Frag} {σ : L2.St} {H : Hp} {ta tb te : TE} {tl th : TO} {z w : Str} {a b e c : Nat}
theorem ev_slS (h : Ev te σ H (.str z)) (h1 : EvO tl σ H (some (a : Int))) (h2 : EvO th σ H (some (b : Int))) (hz : z.length ≤ 100000) : Ev (tSl rSlS te tl th) σ H (.str ⟨(midS z.cps.toList a b).toArray⟩) := fun H1 e Q q =>
  h H1 e _ fun H2 e2 => h1 H2 (e.trans e2) _ fun H3 e3 => h2 H3 ((e.trans e2).trans e3) _ fun H4 e4 => ⟨z, rfl, sz_of hz, by rw [cut_ab]; exact q H4 ((e2.trans e3).trans e4)⟩
theorem rv_inSg : RV (fun x y H Q => ∃ (c : Nat) (z : Str), x = .str ⟨#[c]⟩ ∧ y = .str z ∧ Q (.bl (decide (c ∈ z.cps.toList))) H) (.str ⟨#[c]⟩) (.str z) H (.bl (inS z c)) := fun H1 _ Q q => ⟨c, z, rfl, rfl, q H1 (Ex.refl _)⟩
theorem rv_niSg : RV (fun x y H Q => ∃ (c : Nat) (z : Str), x = .str ⟨#[c]⟩ ∧ y = .str z ∧ Q (.bl (!decide (c ∈ z.cps.toList))) H) (.str ⟨#[c]⟩) (.str z) H (.bl (!inS z c)) := fun H1 _ Q q => ⟨c, z, rfl, rfl, q H1 (Ex.refl _)⟩
theorem at_sg (h : z.cps.toList[e]? = some c) : atI z.cps.toList ((e : Nat) : Int) = some c := by
  unfold atI
  rw [Evl.ixN_nat (get_lt h)]
  exact h
theorem rc_lenSg (h : z.length ≤ 100000) : RC (fun xs H Q => ∃ x n, xs = [x] ∧ LenV K x H n ∧ Q (.int n) H) [.str z] H (.int ((z.cps.toList.length : Nat) : Int)) := fun H1 e Q q =>
  ⟨_, z.length, rfl, ⟨sz_of h, rfl⟩, by have := q H1 (Ex.refl _); rw [show z.cps.toList.length = z.length by simp [Str.length]] at this; exact this⟩
end
end K0

namespace K0
open PySem L2 Evl
/-! ### the defs that read -/
section
variable {K : PySem.W.Frag} {σ : L2.St} {H : Hp} {t1 t2 t3 : TT} {p : Nat → Bool} {l : List Nat} {e s M : Nat}
theorem et_run (h1 : EvT t1 σ H (decide ((e : Int) < (l.length : Int)))) (h2 : ∀ c, l[e]? = some c → EvT t2 σ H (p c)) (h3 : EvT t3 σ H (decide ((e : Int) - (s : Int) < (M : Int)))) (hs : s ≤ e) : EvT (tAnd t1 (tAnd t2 t3)) σ H (stp p l s M e) := by
  cases hc : l[e]? with
  | none =>
    have hl := List.getElem?_eq_none_iff.mp hc
    refine et_is (et_and (a := false) (b := false) (et_is h1 (decide_eq_false (by omega))) fun z => by cases z) ?_
    unfold stp
    rw [hc]
    rfl
  | some c =>
    have hl := get_lt hc
    refine et_is (et_and (a := true) (b := p c && decide ((e : Int) - (s : Int) < (M : Int))) (et_is h1 (decide_eq_true (by omega))) fun _ => et_and (h2 c hc) fun _ => h3) ?_
    unfold stp
    rw [hc]
    show (true && (p c && _)) = (p c && _)
    rw [Bool.true_and]
    congr 1
    by_cases q : e - s < M
    · rw [decide_eq_true q, decide_eq_true (by omega)]
    · rw [decide_eq_false q, decide_eq_false (by omega)]
end
def RdQ (K : PySem.W.Frag) (A : Ad) (r : RdR) (H : Hp) (Q : VK) (E : XK) : Prop := match r with
  | .ok (d, e) => RetR K (.tup [d, .int (e : Int)]) H Q
  | .error e => RaF A.EParseError "spot" (.int (e : Int)) H E
def RdNQ (K : PySem.W.Frag) (A : Ad) (r : Except Nat (Nat × Nat)) (H : Hp) (Q : VK) (E : XK) : Prop := match r with
  | .ok (n, e) => RetR K (.tup [.int (n : Int), .int (e : Int)]) H Q
  | .error e => RaF A.EParseError "spot" (.int (e : Int)) H E
theorem RdQ.ex {K : PySem.W.Frag} {A : Ad} {r : RdR} {H H' : Hp} {Q : VK} {E : XK} (e : Ex H H') (h : RdQ K A r H Q E) : RdQ K A r H' Q E := by
  cases r with
  | error x => exact RaF.ex e h
  | ok q =>
    obtain ⟨d, n⟩ := q
    exact fun v H2 e2 => h v H2 (e.trans e2)
theorem RdNQ.ex {K : PySem.W.Frag} {A : Ad} {r : Except Nat (Nat × Nat)} {H H' : Hp} {Q : VK} {E : XK} (e : Ex H H') (h : RdNQ K A r H Q E) : RdNQ K A r H' Q E := by
  cases r with
  | error x => exact RaF.ex e h
  | ok q =>
    obtain ⟨d, n⟩ := q
    exact fun v H2 e2 => h v H2 (e.trans e2)
theorem s_retR {K : PySem.W.Frag} {te : TE} {σ : L2.St} {H : Hp} {D : Ends} {d : K0.D} (h : EvD K te σ H d) (k : RetR K d H D.rt) : tRet te D σ H := h H (Ex.refl H) _ k
theorem RetR.ex {K : PySem.W.Frag} {H H' : Hp} {Q : VK} {d : K0.D} (e : Ex H H') (k : RetR K d H Q) : RetR K d H' Q := fun v H2 e2 => k v H2 (e.trans e2)
theorem Rp.pair {K : PySem.W.Frag} {H : Hp} {v : V} {d : K0.D} {e : Int} (h : Rp K H v (.tup [d, .int e])) : ∃ p x, v = .ref p ∧ SqT K H p [x, .int e] ∧ Rp K H x d := by
  cases h with
  | tup hs r =>
    cases r with
    | cons h1 r1 =>
      cases r1 with
      | cons h2 r2 =>
        cases h2
        cases r2
        exact ⟨_, _, rfl, hs, h1⟩
section
variable {P : Program} {w : World} {K : PySem.W.Frag} {mg : Str → Option Value} {base : Heap} {A : Ad} {D : Fd}
theorem ok_ParseError_init (T : Txt K mg A D) : FnOk P w K mg base CX0 1 A.ParseError_init D.ParseError_init ["self", "spot"] (spXI A.EParseError "spot") := by
  refine T.F_ParseError_init.ok sc_ParseError_init (fun vs H Q E h => by obtain ⟨a, x, rfl, _⟩ := h; rfl) (fun cdv A0 outer s H vs Q E hr h => ?_)
  refine ⟨_, (pss_one (ps_ost (pv 0) (pv 1))), ?_⟩
  obtain ⟨a, x, rfl, ha, k⟩ := h
  exact n_var rfl (n_var rfl ⟨a, A.EParseError, rfl, T.e_ParseError.o, T.n_ParseErrorspot, .inl ⟨ha, k⟩⟩)
def sp_read_string (K : PySem.W.Frag) (A : Ad) : Sp := fun vs H Q E => ∃ (z : Str) (s : Nat), vs = [.str z, .int (s : Int)] ∧ z.length ≤ 100000 ∧ RdQ K A (rdS z.cps.toList s) H Q E
theorem ok_read_string (T : Txt K mg A D) : FnOk P w K mg base (L2.CX P w) 4 A.read_string D.read_string ["text", "start"] (sp_read_string K A) := by
  have G_ParseError_init := ok_ParseError_init (P := P) (w := w) (base := base) T
  obtain ⟨t_SIGNS, c_SIGNS⟩ := T.c_SIGNS
  obtain ⟨t_MAX_STRING, c_MAX_STRING⟩ := T.c_MAX_STRING
  refine T.F_read_string.okX sc_read_string (fun vs H Q E h => by obtain ⟨z, s, rfl, _⟩ := h; rfl) (fun cdv A0 outer s H vs Q E hr h => ?_)
  refine ⟨_, (pss_cons (ps_set (i := 2) sc_read_string.nd rfl (Or.inl rfl) (pv 1))
  (pss_cons (ps_while (passes_of rfl) (PW.pt (pw_and (pt_cmpR op_lt (pv 2) (pe_callB call_len (by rfl) T.b_len (by decide +kernel) (pa_cons (pv 0) pa_nil)) (nomark _)) (pw_and (pt_cmpR op_in_sign (pe_ix ix_str (pv 0) (pv 2) (fun _ _ => rfl)) (pe_glob (v := .str "abcdefghijklmnopqrstuvwxyz0123456789 ") rfl c_SIGNS ⟨_, rfl⟩) (by rfl)) (pw_and1 (pt_cmpR op_lt (pe_op op_sub (pv 2) (pv 1)) (pe_glob (v := .int (3000)) rfl c_MAX_STRING ⟨_, rfl⟩) (nomark _)))))) (pss_one (ps_aug (i := 2) sc_read_string.nd rfl (Or.inl rfl) pe_int ip_add)))
  (pss_cons (ps_if (pt_cmpR op_ne (pe_slice sl_str (pv 0) (po_some (pv 2)) (po_some (pe_op op_add (pv 2) pe_int))) pe_str (nomark _)) (pss_one (ps_raise rfl (takes_of rfl rfl rfl rfl) (pmk_oex T.e_ParseError.o T.e_ParseError.i T.e_ParseError.t G_ParseError_init (hr.mono (by decide)) T.b_ParseError_init .nil pass0 (by exact rfl) T.e_ParseError.g (pa_cons (pv 2) pa_nil)))) pss_nil)
  (pss_one (ps_ret (pe_tup (pa_cons (pe_slice sl_str (pv 0) (po_some (pv 1)) (po_some (pv 2))) (pa_cons (pe_op op_add (pv 2) pe_int) pa_nil)))))))), ?_⟩
  obtain ⟨z, s, rfl, hz, k⟩ := h
  refine q_asg (ev_var rfl) fun H1 e1 => ?_
  refine q_while (fun m σ' H' => ∃ e : Nat, σ' = [some (.str z), some (.int (s : Int)), some (.int (e : Int))] ∧ Ex H H' ∧ s ≤ e ∧ e + runTo (inS signs37) (3000 - (e - s)) (z.cps.toList.drop e) = s + runTo (inS signs37) 3000 (z.cps.toList.drop s) ∧ m = z.cps.toList.length - e) _
    ⟨s, rfl, e1, Nat.le_refl _, by rw [Nat.sub_self], rfl⟩ ?_
  rintro m σ' H' ⟨e, rfl, e0, hs, he, rfl⟩
  refine ⟨stp (inS signs37) z.cps.toList s 3000 e, et_run (et_test (ev_op (ev_var rfl) (ev_cb (ea_cons (ev_var rfl) ea_nil) (rc_lenSg hz)) rv_I0)) (fun c hc => et_test (ev_op (ev_op (ev_var rfl) (ev_var rfl) (rv_ixS hz (at_sg hc))) ev_c rv_inSg)) (et_test (ev_op (ev_op (ev_var rfl) (ev_var rfl) rv_I0) ev_c rv_I0)) hs, fun hb H2 e2 => ?_, fun hb H2 e2 => ?_⟩
  · obtain ⟨r1, r2⟩ := run_yes hb hs
    refine ⟨_, fun σ2 H3 zz => zz, s_aug (a := (e : Int)) (b := 1) rfl ev_c fun H3 e3 => ⟨_, ?_, e + 1, rfl, (e0.trans e2).trans e3, by omega, by omega, rfl⟩⟩
    omega
  · have r0 := run_no hb
    have hE : e = s + runTo (inS signs37) 3000 (z.cps.toList.drop s) := by omega
    have e02 := e0.trans e2
    refine q_when (b := !decide (z.cps.toList[e]? = some 39)) (et_is (et_test (ev_op (ev_slS (a := e) (b := e + 1) (ev_var rfl) (eo_some (ev_var rfl)) (eo_some (ev_op (ev_var rfl) ev_c rv_I0)) hz) ev_c (rv_ne rfl))) ?_) (fun hb3 H3 e3 => ?_) (fun hb3 H3 e3 => ?_)
    · rw [mid_one, show ("'" : Str) = ⟨#[39]⟩ by decide +kernel, ch_eq]
    · have hne : ¬ (z.cps.toList[e]? = some 39) := by simpa using hb3
      have k' := (show RdQ K A (rdS z.cps.toList s) H Q E from k)
      unfold rdS at k'
      simp only [← hE] at k'
      rw [if_neg hne] at k'
      exact s_raiseO (D := ⟨fun _ _ => True, fun _ _ => True, fun _ _ => True, fun _ _ => True⟩) (W := fun cls d _ H => E cls d H) (ev_var rfl) fun dd H4 e4 h4 => k' dd H4 ((e02.trans e3).trans e4) h4
    · have hq : z.cps.toList[e]? = some 39 := by simpa using hb3
      have k' := (show RdQ K A (rdS z.cps.toList s) H Q E from k)
      unfold rdS at k'
      simp only [← hE] at k'
      rw [if_pos hq] at k'
      exact s_retR (ed_tup (eda_cons (ed_ev (ev_slS (a := s) (b := e) (ev_var rfl) (eo_some (ev_var rfl)) (eo_some (ev_var rfl)) hz) (.str _)) (eda_cons (ed_ev (ev_op (ev_var rfl) ev_c rv_I0) (.int _)) eda_nil)) (by simp)) (RetR.ex (e02.trans e3) k')
def sp_read_digits (K : PySem.W.Frag) (A : Ad) : Sp := fun vs H Q E => ∃ (z f : Str) (s : Nat), vs = [.str z, .int (s : Int), .str f] ∧ z.length ≤ 100000 ∧ s ≤ z.cps.toList.length ∧ (∀ c, inS f c = true → inS digits10 c = true) ∧ RdNQ K A (rdN z.cps.toList f s) H Q E
theorem dig_of {c : Nat} (h : inS digits10 c = true) : (decide (48 ≤ c) && decide (c ≤ 57)) = true := by
  have h1 : c ∈ digits10.cps.toList := of_decide_eq_true h
  exact List.all_eq_true.mp (show digits10.cps.toList.all (fun c => decide (48 ≤ c) && decide (c ≤ 57)) = true by decide +kernel) c h1
theorem ok_read_digits (T : Txt K mg A D) : FnOk P w K mg base (L2.CX P w) 4 A.read_digits D.read_digits ["text", "start", "firsts"] (sp_read_digits K A) := by
  have G_ParseError_init := ok_ParseError_init (P := P) (w := w) (base := base) T
  obtain ⟨t_DIGITS, c_DIGITS⟩ := T.c_DIGITS
  obtain ⟨t_MAX_DIGITS, c_MAX_DIGITS⟩ := T.c_MAX_DIGITS
  refine T.F_read_digits.okX sc_read_digits (fun vs H Q E h => by obtain ⟨z, f, s, rfl, _⟩ := h; rfl) (fun cdv A0 outer s H vs Q E hr h => ?_)
  refine ⟨_, (pss_cons (ps_if (PW.pt (pw_or (pt_cmpR op_eq (pv 1) (pe_callB call_len (by rfl) T.b_len (by decide +kernel) (pa_cons (pv 0) pa_nil)) (nomark _)) (pw_or1 (pt_cmpR op_notIn_sign (pe_ix ix_str (pv 0) (pv 1) (fun _ _ => rfl)) (pv 2) (by rfl))))) (pss_one (ps_raise rfl (takes_of rfl rfl rfl rfl) (pmk_oex T.e_ParseError.o T.e_ParseError.i T.e_ParseError.t G_ParseError_init (hr.mono (by decide)) T.b_ParseError_init .nil pass0 (by exact rfl) T.e_ParseError.g (pa_cons (pv 1) pa_nil)))) pss_nil)
  (pss_cons (ps_set (i := 3) sc_read_digits.nd rfl (Or.inl rfl) (pe_op op_add (pv 1) pe_int))
  (pss_cons (ps_if (pt_cmpR op_ne (pe_ix ix_str (pv 0) (pv 1) (fun _ _ => rfl)) pe_str (nomark _)) (pss_one (ps_while (passes_of rfl) (PW.pt (pw_and (pt_cmpR op_lt (pv 3) (pe_callB call_len (by rfl) T.b_len (by decide +kernel) (pa_cons (pv 0) pa_nil)) (nomark _)) (pw_and (pt_cmpR op_in_sign (pe_ix ix_str (pv 0) (pv 3) (fun _ _ => rfl)) (pe_glob (v := .str "0123456789") rfl c_DIGITS ⟨_, rfl⟩) (by rfl)) (pw_and1 (pt_cmpR op_lt (pe_op op_sub (pv 3) (pv 1)) (pe_glob (v := .int (60)) rfl c_MAX_DIGITS ⟨_, rfl⟩) (nomark _)))))) (pss_one (ps_aug (i := 3) sc_read_digits.nd rfl (Or.inl rfl) pe_int ip_add)))) pss_nil)
  (pss_one (ps_ret (pe_tup (pa_cons (pe_callTy call_int_str (by rfl) T.b_int (by decide +kernel) (pa_cons (pe_slice sl_str (pv 0) (po_some (pv 1)) (po_some (pv 3))) pa_nil)) (pa_cons (pv 3) pa_nil)))))))), ?_⟩
  obtain ⟨z, f, s, rfl, hz, hs, hf, k⟩ := h
  cases hc : z.cps.toList[s]? with
  | none =>
    have hl := List.getElem?_eq_none_iff.mp hc
    unfold rdN at k
    rw [hc] at k
    refine q_when (b := true) (et_is (et_or (a := true) (b := false) (et_is (et_test (ev_op (ev_var rfl) (ev_cb (ea_cons (ev_var rfl) ea_nil) (rc_lenSg hz)) (rv_eq rfl))) (decide_eq_true (by rw [show s = z.cps.toList.length by omega]))) fun zz => by cases zz) rfl) (fun _ H3 e3 => ?_) fun zz => by cases zz
    exact s_raiseO (D := ⟨fun _ _ => True, fun _ _ => True, fun _ _ => True, fun _ _ => True⟩) (W := fun cls d _ H => E cls d H) (ev_var rfl) fun dd H4 e4 h4 => k dd H4 (e3.trans e4) h4
  | some c =>
    have hl := get_lt hc
    unfold rdN at k
    rw [hc] at k
    dsimp only at k
    refine q_when (b := !inS f c) (et_is (et_or (a := false) (b := !inS f c) (et_is (et_test (ev_op (ev_var rfl) (ev_cb (ea_cons (ev_var rfl) ea_nil) (rc_lenSg hz)) (rv_eq rfl))) (decide_eq_false (by intro q; injection q with q; omega))) fun zz => et_test (ev_op (ev_op (ev_var rfl) (ev_var rfl) (rv_ixS hz (at_sg hc))) (ev_var rfl) rv_niSg)) (Bool.false_or _)) (fun hb H3 e3 => ?_) fun hb H3 e3 => ?_
    · rw [show inS f c = false by simpa using hb, if_neg (by decide)] at k
      exact s_raiseO (D := ⟨fun _ _ => True, fun _ _ => True, fun _ _ => True, fun _ _ => True⟩) (W := fun cls d _ H => E cls d H) (ev_var rfl) fun dd H4 e4 h4 => k dd H4 (e3.trans e4) h4
    · have hin : inS f c = true := by simpa using hb
      simp only [hin] at k
      rw [if_pos trivial] at k
      refine q_asg (ev_op (ev_var rfl) ev_c rv_I0) fun H4 e4 => ?_
      have fin : ∀ (H5 : Hp), Ex H H5 → tRet (tTup (tCons (tCB (fun xs H Q => ∃ a n, xs = [.str a] ∧ PySem.intText? a = some n ∧ a.length ≤ 640 ∧ Q (.int n) H) (tCons (tSl rSlS (tVar 0) (tPart (tVar 1)) (tPart (tVar 3))) tNil)) (tCons (tVar 3) tNil)))
          { nx := fun _ H' => Q .non H', rt := Q } [some (.str z), some (.int (s : Int)), some (.str f), some (.int ((rdNe z.cps.toList s c : Nat) : Int))] H5 := fun H5 e5 => by
        have hE := rdNe_le hc
        have hm : (midS z.cps.toList s (rdNe z.cps.toList s c)).length = rdNe z.cps.toList s c - s := by
          unfold midS
          rw [List.length_take, List.length_drop]
          omega
        have hd : (midS z.cps.toList s (rdNe z.cps.toList s c)).all (fun c => decide (48 ≤ c) && decide (c ≤ 57)) = true := by
          refine List.all_eq_true.mpr fun x hx => dig_of ?_
          unfold midS at hx
          rw [drop_cons hc] at hx
          unfold rdNe at hx
          split at hx
          · rw [show s + 1 - s = 0 + 1 by omega, List.take_succ_cons, List.take_zero] at hx
            rw [List.mem_singleton.mp hx]
            exact hf c hin
          · rw [show s + 1 + runTo (inS digits10) 59 (z.cps.toList.drop (s + 1)) - s = runTo (inS digits10) 59 (z.cps.toList.drop (s + 1)) + 1 by omega, List.take_succ_cons] at hx
            rcases List.mem_cons.mp hx with rfl | hx
            · exact hf _ hin
            · exact List.all_eq_true.mp (run_all 59 _) x hx
        refine s_retR (ed_tup (eda_cons (ed_ev (ev_cb (z := .int ((PySem.NumText.digitsVal (midS z.cps.toList s (rdNe z.cps.toList s c)) : Nat) : Int)) (ea_cons (ev_slS (a := s) (b := rdNe z.cps.toList s c) (ev_var rfl) (eo_some (ev_var rfl)) (eo_some (ev_var rfl)) hz) ea_nil) fun H6 _ Q q =>
          ⟨_, _, rfl, SX.int_S hd (by intro zz; rw [zz] at hm; simp at hm; omega) (by rw [hm]; omega), by show (midS z.cps.toList s (rdNe z.cps.toList s c)).toArray.size ≤ 640; rw [List.size_toArray, hm]; omega, q H6 (Ex.refl _)⟩) (.int _)) (eda_cons (ed_ev (ev_var rfl) (.int _)) eda_nil)) (by simp)) (RetR.ex e5 k)
      refine q_when (b := !decide (c = 48)) (et_is (et_test (ev_op (ev_op (ev_var rfl) (ev_var rfl) (rv_ixS hz (at_sg hc))) ev_c (rv_ne rfl))) ?_) (fun hb5 H5 e5 => ?_) fun hb5 H5 e5 => ?_
      · rw [show ("0" : Str) = ⟨#[48]⟩ by decide +kernel, show (⟨#[c]⟩ : Str) = chS (some c) from rfl, ch_eq]
        simp
      · have hne : ¬ c = 48 := by simpa using hb5
        refine s_while (fun m σ' H' => ∃ e : Nat, σ' = [some (.str z), some (.int (s : Int)), some (.str f), some (.int (e : Int))] ∧ Ex H H' ∧ s ≤ e ∧ e + runTo (inS digits10) (60 - (e - s)) (z.cps.toList.drop e) = rdNe z.cps.toList s c ∧ m = z.cps.toList.length - e) _
          ⟨s + 1, rfl, (e3.trans e4).trans e5, by omega, by rw [show 60 - (s + 1 - s) = 59 by omega]; unfold rdNe; rw [if_neg hne], rfl⟩ ?_
        rintro m σ' H' ⟨e, rfl, e0, hse, he, rfl⟩
        refine ⟨stp (inS digits10) z.cps.toList s 60 e, et_run (et_test (ev_op (ev_var rfl) (ev_cb (ea_cons (ev_var rfl) ea_nil) (rc_lenSg hz)) rv_I0)) (fun c hc => et_test (ev_op (ev_op (ev_var rfl) (ev_var rfl) (rv_ixS hz (at_sg hc))) ev_c rv_inSg)) (et_test (ev_op (ev_op (ev_var rfl) (ev_var rfl) rv_I0) ev_c rv_I0)) hse, fun hb H2 e2 => ?_, fun hb H2 e2 => ?_⟩
        · obtain ⟨r1, r2⟩ := run_yes hb hse
          refine ⟨_, fun σ2 H3 zz => zz, s_aug (a := (e : Int)) (b := 1) rfl ev_c fun H3 e3 => ⟨_, ?_, e + 1, rfl, (e0.trans e2).trans e3, by omega, by omega, rfl⟩⟩
          omega
        · have r0 := run_no hb
          have hE : e = rdNe z.cps.toList s c := by omega
          subst hE
          exact fin H2 (e0.trans e2)
      · have hq : c = 48 := by simpa using hb5
        have hE : s + 1 = rdNe z.cps.toList s c := by unfold rdNe; rw [if_pos hq]
        have := fin H5 ((e3.trans e4).trans e5)
        rw [← hE] at this
        exact this
end
end K0

namespace K0
open PySem L2 Evl
/-! ### a value, a tuple, the whole text -/
def noFn : Sp := fun _ _ _ _ => False
section
variable {K : PySem.W.Frag} {σ : L2.St} {H : Hp} {o : Option Nat} {c i : Nat} {w : Str}
theorem et_sg (h : σ[i]? = some (some (.str (chS o)))) (hw : w = ⟨#[c]⟩) : EvT (tTest (tOp rEq (tVar i) (tC (.str w)))) σ H (decide (o = some c)) :=
  et_is (et_test (ev_op (ev_var h) ev_c (rv_eq rfl))) (by rw [hw, ch_eq])
theorem et_sgN (h : σ[i]? = some (some (.str (chS o)))) (hw : w = ⟨#[c]⟩) : EvT (tTest (tOp rNe (tVar i) (tC (.str w)))) σ H (!decide (o = some c)) :=
  et_is (et_test (ev_op (ev_var h) ev_c (rv_ne rfl))) (by rw [hw, ch_eq])
end
theorem rdV_eq (l : List Nat) (m s : Nat) : rdV l m s = if l[s]? = some 46 then .ok (.non, s + 1) else if l[s]? = some 39 then rdS l (s + 1) else if l[s]? = some 40 ∧ 0 < m then rdTup (rdV l (m - 1)) l (s + 1) else rdOther l s := by
  cases m with
  | zero =>
    rw [if_neg (show ¬ (l[s]? = some 40 ∧ 0 < 0) by simp)]
    rfl
  | succ m =>
    rw [show rdV l (m + 1) s = (if l[s]? = some 46 then (.ok (.non, s + 1) : RdR) else if l[s]? = some 39 then rdS l (s + 1) else if l[s]? = some 40 then rdTup (rdV l m) l (s + 1) else rdOther l s) from rfl]
    by_cases h : l[s]? = some 40
    · rw [if_pos h, if_pos (⟨h, by omega⟩ : l[s]? = some 40 ∧ 0 < m + 1)]
      rfl
    · rw [if_neg h, if_neg (show ¬ (l[s]? = some 40 ∧ 0 < m + 1) from fun q => h q.1)]
theorem RdQ.num {K : PySem.W.Frag} {A : Ad} {g : Nat → Int} {r : Except Nat (Nat × Nat)} {H : Hp} {Q Q2 : VK} {E : XK} (h : RdQ K A (rdI g r) H Q E) (k : ∀ n e v H', r = .ok (n, e) → Ex H H' → Rp K H' v (.tup [.int (n : Int), .int (e : Int)]) → RetR K (.tup [.int (g n), .int (e : Int)]) H' Q → Q2 v H') : RdNQ K A r H Q2 E := by
  cases r with
  | error x => exact h
  | ok q =>
    obtain ⟨n, e⟩ := q
    exact fun v H' e' hv => k n e v H' rfl e' hv (RetR.ex e' h)
section
variable {P : Program} {w : World} {K : PySem.W.Frag} {mg : Str → Option Value} {base : Heap} {A : Ad} {D : Fd}
def sp_read_value (K : PySem.W.Frag) (A : Ad) (m : Nat) : Sp := fun vs H Q E => ∃ (z : Str) (s : Nat) (n : Int), vs = [.str z, .int (s : Int), .int n] ∧ n = 12 - (m : Int) ∧ m ≤ 12 ∧ z.length ≤ 90000 ∧ s ≤ z.cps.toList.length ∧ RdQ K A (rdV z.cps.toList m s) H Q E
def sp_read_tuple (K : PySem.W.Frag) (A : Ad) (m : Nat) : Sp := fun vs H Q E => ∃ (z : Str) (s : Nat) (n : Int), vs = [.str z, .int (s : Int), .int n] ∧ n = 12 - (m : Int) ∧ m ≤ 12 ∧ z.length ≤ 90000 ∧ s ≤ z.cps.toList.length ∧ RdQ K A (rdTup (rdV z.cps.toList m) z.cps.toList s) H Q E
def LpI (K : PySem.W.Frag) (H : Hp) (z : Str) (s : Nat) (n : Int) (rv : Nat → RdR) (R : RdR) (lp : Addr) (m : Nat) (σ' : L2.St) (H' : Hp) : Prop :=
  ∃ (e f : Nat) (o : Option Nat) (acc : List K0.D) (xs : List V) (v6 : Option V), σ' = [some (.str z), some (.int (s : Int)), some (.int n), some (.ref lp), some (.int (e : Int)), some (.str (chS o)), v6] ∧ Ex H H' ∧ H lp = none ∧ H' lp = some (.lst xs) ∧ RpAll K H' xs acc ∧ K0.D.cleanL acc = true ∧ acc.length ≤ e ∧
    ((o = some 44 ∧ e ≤ z.cps.toList.length ∧ z.cps.toList.length + 2 ≤ f + e ∧ rdLoop rv z.cps.toList f e acc = R ∧ m = f + 1) ∨ (o ≠ some 44 ∧ 0 < e ∧ m = 0 ∧ R = if o = some 41 then .ok (.tup acc, e) else .error (e - 1)))
theorem ok_read_tuple {m : Nat} (T : Txt K mg A D) (G_read_value : FnOk P w K mg base (L2.CX P w) (6 + 2 * m) A.read_value D.read_value ["text", "start", "nest"] (sp_read_value K A m)) :
    FnOk P w K mg base (L2.CX P w) (7 + 2 * m) A.read_tuple D.read_tuple ["text", "start", "nest"] (sp_read_tuple K A m) := by
  have G_ParseError_init := ok_ParseError_init (P := P) (w := w) (base := base) T
  rw [show 7 + 2 * m = (6 + 2 * m) + 1 by omega]
  refine T.F_read_tuple.okX sc_read_tuple (fun vs H Q E h => by obtain ⟨z, s, n, rfl, _⟩ := h; rfl) (fun cdv A0 outer s H vs Q E hr h => ?_)
  refine ⟨_, (pss_cons (ps_if (pt_cmpR op_eq (pe_slice sl_str (pv 0) (po_some (pv 1)) (po_some (pe_op op_add (pv 1) pe_int))) pe_str (nomark _)) (pss_one (ps_ret (pe_tup (pa_cons (pe_tup pa_nil) (pa_cons (pe_op op_add (pv 1) pe_int) pa_nil))))) pss_nil)
  (pss_cons (ps_set (i := 3) sc_read_tuple.nd rfl (Or.inl rfl) (pe_lst pa_nil))
  (pss_cons (ps_set (i := 4) sc_read_tuple.nd rfl (Or.inl rfl) (pv 1))
  (pss_cons (ps_set (i := 5) sc_read_tuple.nd rfl (Or.inl rfl) pe_str)
  (pss_cons (ps_while (passes_of rfl) (pt_cmpR op_eq (pv 5) pe_str (nomark _)) (pss_cons (ps_asg (pe_call G_read_value (hr.mono (by omega)) rfl T.g_read_value T.F_read_value.kp T.b_read_value .nil (passes_call (takes_of rfl rfl rfl rfl) (fun _ _ _ _ z => z)) (pa_cons (pv 0) (pa_cons (pv 4) (pa_cons (pv 2) pa_nil)))) (pg_tup rfl (pgs_cons (pg_name (i := 6) sc_read_tuple.nd rfl (Or.inl rfl)) (pgs_cons (pg_name (i := 4) sc_read_tuple.nd rfl (Or.inl rfl)) pgs_nil))))
  (pss_cons (ps_expr (pe_bm PySem.F.plainAttrs_list PySem.F.slot_list_append PySem.F.type_list_append mt_append (pv 3) (pa_cons (pv 6) pa_nil)))
  (pss_cons (ps_set (i := 5) sc_read_tuple.nd rfl (Or.inl rfl) (pe_slice sl_str (pv 0) (po_some (pv 4)) (po_some (pe_op op_add (pv 4) pe_int))))
  (pss_one (ps_aug (i := 4) sc_read_tuple.nd rfl (Or.inl rfl) pe_int ip_add))))))
  (pss_cons (ps_if (pt_cmpR op_ne (pv 5) pe_str (nomark _)) (pss_one (ps_raise rfl (takes_of rfl rfl rfl rfl) (pmk_oex T.e_ParseError.o T.e_ParseError.i T.e_ParseError.t G_ParseError_init (hr.mono (by omega)) T.b_ParseError_init .nil pass0 (by exact rfl) T.e_ParseError.g (pa_cons (pe_op op_sub (pv 4) pe_int) pa_nil)))) pss_nil)
  (pss_one (ps_ret (pe_tup (pa_cons (pe_callTy call_tuple_of (by rfl) T.b_tuple (by decide +kernel) (pa_cons (pv 3) pa_nil)) (pa_cons (pv 4) pa_nil))))))))))), ?_⟩
  obtain ⟨z, s, n, rfl, hn, hm, hz, hs, k⟩ := h
  have hzl : z.cps.toList.length = z.length := by simp [Str.length]
  refine q_when (b := decide (z.cps.toList[s]? = some 41)) (et_is (et_test (ev_op (ev_slS (a := s) (b := s + 1) (ev_var rfl) (eo_some (ev_var rfl)) (eo_some (ev_op (ev_var rfl) ev_c rv_I0)) (by omega)) ev_c (rv_eq rfl))) (by rw [mid_one, show (")" : Str) = ⟨#[41]⟩ by decide +kernel, ch_eq])) (fun hb H1 e1 => ?_) (fun hb H1 e1 => ?_)
  · have hq := of_decide_eq_true hb
    unfold rdTup at k
    rw [if_pos hq] at k
    exact s_retR (ed_tup (eda_cons (ed_tup eda_nil (by simp)) (eda_cons (ed_ev (ev_op (ev_var rfl) ev_c rv_I0) (.int _)) eda_nil)) (by simp)) (RetR.ex e1 k)
  · have hq := of_decide_eq_false hb
    unfold rdTup at k
    rw [if_neg hq] at k
    generalize hR : rdLoop (rdV z.cps.toList m) z.cps.toList (z.cps.toList.length + 2) s [] = R at k
    refine q_asgL (el_lst ea_nil (by decide)) fun lp H2 hlp e2 h2 => ?_
    refine q_asg (ev_var rfl) fun H3 e3 => ?_
    refine q_asg ev_c fun H4 e4 => ?_
    refine q_while (LpI K H z s n (rdV z.cps.toList m) R lp) _ ⟨s, z.cps.toList.length + 2, some 44, [], [], none, by rw [show (chS (some 44)) = (("," : String) : Str) by decide +kernel]; rfl, ((e1.trans e2).trans e3).trans e4, fresh_back e1 hlp, (e3.trans e4) _ _ h2, .nil, rfl, Nat.zero_le _, .inl ⟨rfl, hs, by omega, hR, rfl⟩⟩ ?_
    rintro mm σ' H' ⟨e, f, o, acc, xs, v6, rfl, e0, hlp0, hl, hra, hca, hla, hh⟩
    refine ⟨decide (o = some 44), et_sg rfl (by decide +kernel), fun hb H5 e5 => ?_, fun hb H5 e5 => ?_⟩
    · have ho := of_decide_eq_true hb
      obtain ⟨_, he, hf, hLoop, rfl⟩ := hh.resolve_right fun q => q.1 ho
      refine ⟨fun σ2 H2 => ∃ m', m' < f + 1 ∧ LpI K H z s n (rdV z.cps.toList m) R lp m' σ2 H2, fun σ2 H2 zz => zz, ?_⟩
      obtain ⟨f, rfl⟩ : ∃ g, f = g + 1 := ⟨f - 1, by omega⟩
      refine q_asgG (c_call (ea_cons (ev_var rfl) (ea_cons (ev_var rfl) (ea_cons (ev_var rfl) ea_nil))) fun H6 e6 => ⟨z, e, n, rfl, hn, hm, hz, he, ?_⟩)
      unfold rdLoop at hLoop
      cases hv : rdV z.cps.toList m e with
      | error x =>
        rw [hv] at hLoop
        subst hLoop
        exact RaF.ex ((e0.trans e5).trans e6) k
      | ok q =>
        obtain ⟨d, e7⟩ := q
        rw [hv] at hLoop
        simp only at hLoop
        obtain ⟨hlt, hle, hcl⟩ := rdV_ok m _ _ _ hv
        intro v H7 e7' hv7
        obtain ⟨p, x, rfl, hp, hx⟩ := hv7.pair
        have hl7 : H7 lp = some (.lst xs) := (e6.trans e7') _ _ (e5 _ _ hl)
        have hr7 := hra.ex ((e5.trans e6).trans e7')
        have hlen := hra.len
        refine ⟨p, _, rfl, hp, rfl, _, _, rfl, _, _, rfl, rfl, ?_⟩
        refine q_app hl7 (ev_var rfl) (ev_var rfl) (by omega) fun H8 e8 => ?_
        have hl8 := e8 _ _ hl7
        refine q_asg (ev_is (ev_slS (a := e7) (b := e7 + 1) (ev_var rfl) (eo_some (ev_var rfl)) (eo_some (ev_op (ev_var rfl) ev_c rv_I0)) (by omega)) (by rw [mid_one])) fun H9 e9 => ?_
        refine s_aug (a := (e7 : Int)) (b := 1) rfl ev_c fun H10 e10 => ?_
        have e810 := e9.trans e10
        have hR8 : RpAll K H10 (xs ++ [x]) (acc ++ [d]) := RpAll.ex e810 (((hr7.ex e8).byT hca fun _ _ g => sqT_lst hl8 g).app (.cons ((hx.ex e8).byT hcl fun _ _ g => sqT_lst hl8 g) .nil))
        have hE : Ex H H10 := (((((e0.trans e5).trans e6).trans e7').trans e8).mut hlp0).trans e810
        refine ⟨if z.cps.toList[e7]? = some 44 then f + 1 else 0, ?_, e7 + 1, f, z.cps.toList[e7]?, acc ++ [d], xs ++ [x], _, rfl, hE, hlp0, e810 _ _ upd_same, hR8, cleanL_snoc hca hcl, by rw [List.length_append]; simp; omega, ?_⟩
        · split <;> omega
        · by_cases h44 : z.cps.toList[e7]? = some 44
          · rw [if_pos h44] at hLoop
            have := get_lt h44
            exact .inl ⟨h44, by omega, by omega, hLoop, by rw [if_pos h44]⟩
          · rw [if_neg h44] at hLoop
            exact .inr ⟨h44, by omega, by rw [if_neg h44], by rw [← hLoop]; rfl⟩
    · have ho := of_decide_eq_false hb
      obtain ⟨_, he, rfl, rfl⟩ := hh.resolve_left fun q => ho q.1
      refine q_when (et_sgN (c := 41) rfl (by decide +kernel)) (fun hb6 H6 e6 => ?_) fun hb6 H6 e6 => ?_
      · have h41 : ¬ o = some 41 := by simpa using hb6
        rw [if_neg h41] at k
        exact s_raiseO (D := ⟨fun _ _ => True, fun _ _ => True, fun _ _ => True, fun _ _ => True⟩) (W := fun cls d _ H => E cls d H) (ev_is (ev_op (ev_var rfl) ev_c rv_I0) (show V.int ((e : Int) - 1) = V.int ((e - 1 : Nat) : Int) by congr 1; omega)) fun dd H4 e4 h4 => k dd H4 (((e0.trans e5).trans e6).trans e4) h4
      · have h41 : o = some 41 := by simpa using hb6
        rw [if_pos h41] at k
        exact s_retR (ed_tup (eda_cons (ed_tupOf (ev_var rfl) ((e5.trans e6) _ _ hl) (hra.ex (e5.trans e6))) (eda_cons (ed_ev (ev_var rfl) (.int _)) eda_nil)) (by simp)) (RetR.ex ((e0.trans e5).trans e6) k)
theorem rv_core {m n : Nat} {spT : Sp} (T : Txt K mg A D) (hn : 4 ≤ n) (G_read_tuple : FnOk P w K mg base (L2.CX P w) n A.read_tuple D.read_tuple ["text", "start", "nest"] spT)
    (hT : 0 < m → ∀ vs H Q E, sp_read_tuple K A (m - 1) vs H Q E → spT vs H Q E) : FnOk P w K mg base (L2.CX P w) (n + 1) A.read_value D.read_value ["text", "start", "nest"] (sp_read_value K A m) := by
  have G_read_string := ok_read_string (P := P) (w := w) (base := base) T
  have G_read_digits := ok_read_digits (P := P) (w := w) (base := base) T
  obtain ⟨t_DIGITS, c_DIGITS⟩ := T.c_DIGITS
  obtain ⟨t_MAX_NEST, c_MAX_NEST⟩ := T.c_MAX_NEST
  refine T.F_read_value.okX sc_read_value (fun vs H Q E h => by obtain ⟨z, s, n, rfl, _⟩ := h; rfl) (fun cdv A0 outer s H vs Q E hr h => ?_)
  refine ⟨_, (pss_cons (ps_set (i := 3) sc_read_value.nd rfl (Or.inl rfl) (pe_slice sl_str (pv 0) (po_some (pv 1)) (po_some (pe_op op_add (pv 1) pe_int))))
  (pss_cons (ps_if (pt_cmpR op_eq (pv 3) pe_str (nomark _)) (pss_one (ps_ret (pe_tup (pa_cons pe_non (pa_cons (pe_op op_add (pv 1) pe_int) pa_nil))))) pss_nil)
  (pss_cons (ps_if (pt_cmpR op_eq (pv 3) pe_str (nomark _)) (pss_one (ps_ret (pe_call G_read_string (hr.mono (by omega)) rfl T.g_read_string T.F_read_string.kp T.b_read_string .nil (passes_call (takes_of rfl rfl rfl rfl) (fun _ _ _ _ z => z)) (pa_cons (pv 0) (pa_cons (pe_op op_add (pv 1) pe_int) pa_nil))))) pss_nil)
  (pss_cons (ps_if (PW.pt (pw_and (pt_cmpR op_eq (pv 3) pe_str (nomark _)) (pw_and1 (pt_cmpR op_lt (pv 2) (pe_glob (v := .int (12)) rfl c_MAX_NEST ⟨_, rfl⟩) (nomark _))))) (pss_one (ps_ret (pe_call G_read_tuple (hr.mono (by omega)) rfl T.g_read_tuple T.F_read_tuple.kp T.b_read_tuple .nil (passes_call (takes_of rfl rfl rfl rfl) (fun _ _ _ _ z => z)) (pa_cons (pv 0) (pa_cons (pe_op op_add (pv 1) pe_int) (pa_cons (pe_op op_add (pv 2) pe_int) pa_nil)))))) pss_nil)
  (pss_cons (ps_if (pt_cmpR op_eq (pv 3) pe_str (nomark _)) (pss_cons (ps_asg (pe_call G_read_digits (hr.mono (by omega)) rfl T.g_read_digits T.F_read_digits.kp T.b_read_digits .nil (passes_call (takes_of rfl rfl rfl rfl) (fun _ _ _ _ z => z)) (pa_cons (pv 0) (pa_cons (pe_op op_add (pv 1) pe_int) (pa_cons pe_str pa_nil)))) (pg_tup rfl (pgs_cons (pg_name (i := 4) sc_read_value.nd rfl (Or.inl rfl)) (pgs_cons (pg_name (i := 5) sc_read_value.nd rfl (Or.inl rfl)) pgs_nil))))
  (pss_one (ps_ret (pe_tup (pa_cons (pe_un un_neg (pv 4)) (pa_cons (pv 5) pa_nil)))))) pss_nil)
  (pss_one (ps_ret (pe_call G_read_digits (hr.mono (by omega)) rfl T.g_read_digits T.F_read_digits.kp T.b_read_digits .nil (passes_call (takes_of rfl rfl rfl rfl) (fun _ _ _ _ z => z)) (pa_cons (pv 0) (pa_cons (pv 1) (pa_cons (pe_glob (v := .str "0123456789") rfl c_DIGITS ⟨_, rfl⟩) pa_nil))))))))))), ?_⟩
  obtain ⟨z, s, n, rfl, hnn, hm, hz, hs, k⟩ := h
  have hzl : z.cps.toList.length = z.length := by simp [Str.length]
  rw [rdV_eq] at k
  refine q_asg (ev_is (ev_slS (a := s) (b := s + 1) (ev_var rfl) (eo_some (ev_var rfl)) (eo_some (ev_op (ev_var rfl) ev_c rv_I0)) (by omega)) (by rw [mid_one])) fun H1 e1 => ?_
  refine q_when (et_sg (c := 46) rfl (by decide +kernel)) (fun hb H2 e2 => ?_) (fun hb H2 e2 => ?_)
  · rw [if_pos (of_decide_eq_true hb)] at k
    exact s_retR (ed_tup (eda_cons (ed_ev ev_c .non) (eda_cons (ed_ev (ev_op (ev_var rfl) ev_c rv_I0) (.int _)) eda_nil)) (by simp)) (RetR.ex (e1.trans e2) k)
  rw [if_neg (of_decide_eq_false hb)] at k
  refine q_when (et_sg (c := 39) rfl (by decide +kernel)) (fun hb H3 e3 => ?_) (fun hb H3 e3 => ?_)
  · have hq := of_decide_eq_true hb
    rw [if_pos hq] at k
    have := get_lt hq
    exact s_retC (ea_cons (ev_var rfl) (ea_cons (ev_op (ev_var rfl) ev_c rv_I0) ea_nil)) fun H4 e4 => ⟨z, s + 1, rfl, by omega, RdQ.ex (((e1.trans e2).trans e3).trans e4) k⟩
  rw [if_neg (of_decide_eq_false hb)] at k
  have e13 := (e1.trans e2).trans e3
  refine q_when (b := decide (z.cps.toList[s]? = some 40 ∧ 0 < m)) (et_is (et_and (et_sg (c := 40) rfl (by decide +kernel)) fun _ => et_test (ev_op (ev_var rfl) ev_c rv_I0)) ?_) (fun hb H4 e4 => ?_) (fun hb H4 e4 => ?_)
  · rw [hnn, Bool.decide_and]
    congr 1
    by_cases q : 0 < m
    · rw [decide_eq_true q, decide_eq_true (by omega)]
    · rw [decide_eq_false q, decide_eq_false (by omega)]
  · have hq := of_decide_eq_true hb
    rw [if_pos hq] at k
    have := get_lt hq.1
    exact s_retC (ea_cons (ev_var rfl) (ea_cons (ev_op (ev_var rfl) ev_c rv_I0) (ea_cons (ev_op (ev_var rfl) ev_c rv_I0) ea_nil))) fun H5 e5 => hT hq.2 _ _ _ _ ⟨z, s + 1, n + 1, rfl, by omega, by omega, hz, by omega, RdQ.ex ((e13.trans e4).trans e5) k⟩
  rw [if_neg (of_decide_eq_false hb)] at k
  have e14 := e13.trans e4
  unfold rdOther at k
  refine q_when (et_sg (c := 45) rfl (by decide +kernel)) (fun hb H5 e5 => ?_) (fun hb H5 e5 => ?_)
  · have hq := of_decide_eq_true hb
    rw [if_pos hq] at k
    have := get_lt hq
    refine q_asgG (c_call (ea_cons (ev_var rfl) (ea_cons (ev_op (ev_var rfl) ev_c rv_I0) (ea_cons ev_c ea_nil))) fun H6 e6 => ⟨z, digits9, s + 1, rfl, by omega, by omega, ?_, RdQ.num (RdQ.ex ((e14.trans e5).trans e6) k) fun nn e v H7 hr e7 hv kk => ?_⟩)
    · intro c hc
      have h1 : c ∈ digits9.cps.toList := of_decide_eq_true hc
      exact List.all_eq_true.mp (show digits9.cps.toList.all (inS digits10) = true by decide +kernel) c h1
    · obtain ⟨p, x, rfl, hp, hx⟩ := hv.pair
      cases hx
      refine ⟨p, _, rfl, hp, rfl, _, _, rfl, _, _, rfl, rfl, ?_⟩
      exact s_retR (ed_tup (eda_cons (ed_ev (ev_un (ev_var rfl) ru_neg) (.int _)) (eda_cons (ed_ev (ev_var rfl) (.int _)) eda_nil)) (by simp)) kk
  · rw [if_neg (of_decide_eq_false hb)] at k
    exact s_retC (ea_cons (ev_var rfl) (ea_cons (ev_var rfl) (ea_cons ev_c ea_nil))) fun H6 e6 => ⟨z, digits10, s, rfl, by omega, by omega, fun c hc => hc, RdQ.num (RdQ.ex ((e14.trans e5).trans e6) k) fun nn e v H7 hr e7 hv kk => kk v H7 (Ex.refl _) hv⟩
theorem ok_read_value (T : Txt K mg A D) : ∀ m, FnOk P w K mg base (L2.CX P w) (6 + 2 * m) A.read_value D.read_value ["text", "start", "nest"] (sp_read_value K A m)
  | 0 => rv_core (n := 5) (spT := noFn) T (by omega) ⟨fun _ _ _ _ h => h.elim, fun _ _ _ _ _ _ _ _ _ _ _ _ _ h => h.elim⟩ fun h => by omega
  | m + 1 => by
    have := rv_core (m := m + 1) (n := 7 + 2 * m) T (by omega) (ok_read_tuple T (ok_read_value T m)) fun _ vs H Q E h => h
    rw [show 7 + 2 * m + 1 = 6 + 2 * (m + 1) by omega] at this
    exact this
def sp_read_plain (K : PySem.W.Frag) (A : Ad) : Sp := fun vs H Q E => ∃ x d, vs = [x] ∧ Rp K H x d ∧ ((d.isStr = false ∧ RaF A.EParseError "spot" .non H E) ∨ ∃ z : Str, d = .str z ∧ z.length ≤ 90000 ∧ match rdAll z.cps.toList with
  | .ok d => RetR K d H Q
  | .error e => RaF A.EParseError "spot" (.int (e : Int)) H E)
theorem ok_read_plain (T : Txt K mg A D) : FnOk P w K mg base (L2.CX P w) 40 A.read_plain D.read_plain ["text"] (sp_read_plain K A) := by
  have G_ParseError_init := ok_ParseError_init (P := P) (w := w) (base := base) T
  have G_read_value := ok_read_value (P := P) (w := w) (base := base) T 12
  refine T.F_read_plain.okX sc_read_plain (fun vs H Q E h => by obtain ⟨x, d, rfl, _⟩ := h; rfl) (fun cdv A0 outer s H vs Q E hr h => ?_)
  refine ⟨_, (pss_cons (ps_if (pt_not (pt_val (pe_callB call_isi (by rfl) T.b_isinstance (by decide +kernel) (pa_cons (pv 0) (pa_cons (pe_bltn (v := .ty "str") (u := .type "str") (by rfl) T.b_str (by decide +kernel) rfl) pa_nil))))) (pss_one (ps_raise rfl (takes_of rfl rfl rfl rfl) (pmk_oex T.e_ParseError.o T.e_ParseError.i T.e_ParseError.t G_ParseError_init (hr.mono (by decide)) T.b_ParseError_init .nil pass0 (by exact rfl) T.e_ParseError.g (pa_cons pe_non pa_nil)))) pss_nil)
  (pss_cons (ps_asg (pe_call G_read_value (hr.mono (by decide)) rfl T.g_read_value T.F_read_value.kp T.b_read_value .nil (passes_call (takes_of rfl rfl rfl rfl) (fun _ _ _ _ z => z)) (pa_cons (pv 0) (pa_cons pe_int (pa_cons pe_int pa_nil)))) (pg_tup rfl (pgs_cons (pg_name (i := 1) sc_read_plain.nd rfl (Or.inl rfl)) (pgs_cons (pg_name (i := 2) sc_read_plain.nd rfl (Or.inl rfl)) pgs_nil))))
  (pss_cons (ps_if (pt_cmpR op_lt (pv 2) (pe_callB call_len (by rfl) T.b_len (by decide +kernel) (pa_cons (pv 0) pa_nil)) (nomark _)) (pss_one (ps_raise rfl (takes_of rfl rfl rfl rfl) (pmk_oex T.e_ParseError.o T.e_ParseError.i T.e_ParseError.t G_ParseError_init (hr.mono (by decide)) T.b_ParseError_init .nil pass0 (by exact rfl) T.e_ParseError.g (pa_cons (pv 2) pa_nil)))) pss_nil)
  (pss_one (ps_ret (pv 1)))))), ?_⟩
  obtain ⟨x, d, rfl, hx, ⟨hd, k⟩ | ⟨z, rfl, hz, k⟩⟩ := h
  · refine q_when (b := true) (et_is (et_not (et_B (ev_cb (ea_cons (ev_var rfl) (ea_cons ev_c ea_nil)) (rc_str hx)))) (by rw [hd]; rfl)) (fun _ H1 e1 => ?_) fun zz => by cases zz
    exact s_raiseO (D := ⟨fun _ _ => True, fun _ _ => True, fun _ _ => True, fun _ _ => True⟩) (W := fun cls d _ H => E cls d H) ev_c fun dd H4 e4 h4 => k dd H4 (e1.trans e4) h4
  · cases hx
    refine q_when (b := false) (et_is (et_not (et_B (ev_cb (ea_cons (ev_var rfl) (ea_cons ev_c ea_nil)) (rc_str (.str z))))) rfl) (fun zz => by cases zz) fun _ H1 e1 => ?_
    refine q_asgG (c_call (ea_cons (ev_var rfl) (ea_cons ev_c (ea_cons ev_c ea_nil))) fun H2 e2 => ⟨z, 0, 0, rfl, rfl, by omega, hz, Nat.zero_le _, ?_⟩)
    unfold rdAll at k
    cases hv : rdV z.cps.toList 12 0 with
    | error e =>
      rw [hv] at k
      exact RaF.ex (e1.trans e2) k
    | ok q =>
      obtain ⟨d, e⟩ := q
      rw [hv] at k
      simp only at k
      intro v H3 e3 hv3
      obtain ⟨p, x, rfl, hp, hx⟩ := hv3.pair
      refine ⟨p, _, rfl, hp, rfl, _, _, rfl, _, _, rfl, rfl, ?_⟩
      refine q_when (b := decide ((e : Int) < (z.cps.toList.length : Int))) (et_test (ev_op (ev_var rfl) (ev_cb (ea_cons (ev_var rfl) ea_nil) (rc_lenSg (by omega))) rv_I0)) (fun hb H4 e4 => ?_) fun hb H4 e4 => ?_
      · have hb' := of_decide_eq_true hb
        rw [if_pos (by omega)] at k
        exact s_raiseO (D := ⟨fun _ _ => True, fun _ _ => True, fun _ _ => True, fun _ _ => True⟩) (W := fun cls d _ H => E cls d H) (ev_var rfl) fun dd H5 e5 h5 => k dd H5 ((((e1.trans e2).trans e3).trans e4).trans e5) h5
      · have hb' := of_decide_eq_false hb
        rw [if_neg (by omega)] at k
        exact s_retR (ed_ev (ev_var rfl) (hx.ex e4)) (RetR.ex (((e1.trans e2).trans e3).trans e4) k)
end
end K0

namespace K0
open PySem L2 Evl
/-! ### texts of plain values; what is refused -/
mutual
def textD : K0.D → Str
  | .non => "."
  | .int i => Str.ofString (toString i)
  | .str s => "'" ++ s ++ "'"
  | .tup ds => "(" ++ Txt.join "," (textDs ds) ++ ")"
  | _ => ""
def textDs : List K0.D → List Str
  | [] => []
  | d :: ds => textD d :: textDs ds
end
theorem textDs_map : ∀ ds : List K0.D, textDs ds = ds.map textD
  | [] => rfl
  | d :: ds => by rw [textDs, textDs_map ds, List.map_cons]
theorem str_app (a b : Str) : (a ++ b).length = a.length + b.length := by
  show (a.cps ++ b.cps).size = _
  rw [Array.size_append]
  rfl
theorem join_len (y : Str) : ∀ parts : List Str, (Txt.join y parts).length ≤ (parts.map (·.length)).sum + parts.length * y.length := fun parts => by
  rw [TL.join_eq]
  induction parts with
  | nil => exact Nat.zero_le _
  | cons x r ih =>
    cases r with
    | nil =>
      show x.length ≤ x.length + 0 + 1 * y.length
      omega
    | cons z r =>
      show (x ++ y ++ Str.join y (z :: r)).length ≤ _
      rw [str_app, str_app, List.map_cons, List.sum_cons, List.length_cons, Nat.succ_mul]
      omega
theorem num_len {i : Int} (h : numB i = true) : (Str.ofString (toString i)).length ≤ 61 ∧ i.natAbs.log2 < 1920 := by
  have h2 := Bool.and_eq_true_iff.mp h
  have h3 := of_decide_eq_true h2.1
  have h4 := of_decide_eq_true h2.2
  have hb : i.natAbs < 10 ^ 60 := by unfold big at h3 h4; omega
  constructor
  · rw [ofString_length]
    exact int_text_length_le10 (k := 60) (by decide) hb
  · by_cases h0 : i.natAbs = 0
    · rw [h0]; decide
    · exact (Nat.log2_lt h0).mpr (Nat.lt_of_lt_of_le hb (Nat.le_trans (Nat.pow_le_pow_left (by decide : 10 ≤ 2 ^ 4) 60) (by rw [← Nat.pow_mul]; exact Nat.pow_le_pow_right (by decide) (by decide))))
mutual
theorem text_len : ∀ (d : K0.D) (n : Nat), d.plain n = true → (textD d).length + 1 ≤ 103 * d.size
  | .non, n, _ => by show (1 : Nat) + 1 ≤ 103 * 1; omega
  | .bl b, n, h => by cases n <;> cases h
  | .int i, n, h => by
    have h1 : numB i = true := by cases n <;> exact h
    have := (num_len h1).1
    show (Str.ofString (toString i)).length + 1 ≤ 103 * 1
    omega
  | .str s, n, h => by
    show (("'" : Str) ++ s ++ ("'" : Str)).length + 1 ≤ 103 * (1 + s.length / 100)
    rw [str_app, str_app, show ("'" : Str).length = 1 from rfl]
    omega
  | .tup ds, n, h => by
    cases n with
    | zero => cases h
    | succ n =>
      have h1 := texts_len ds n h
      have h2 := join_len "," (textDs ds)
      show (("(" : Str) ++ Txt.join "," (textDs ds) ++ (")" : Str)).length + 1 ≤ 103 * (K0.D.tup ds).size
      rw [str_app, str_app, show ("(" : Str).length = 1 from rfl, show (")" : Str).length = 1 from rfl]
      rw [show ("," : Str).length = 1 from rfl, Nat.mul_one] at h2
      simp only [K0.D.size]
      omega
  | .oth, n, h => by cases n <;> cases h
theorem texts_len : ∀ (ds : List K0.D) (n : Nat), ds.all (K0.D.plain n) = true → ((textDs ds).map (·.length)).sum + (textDs ds).length ≤ 103 * K0.D.sizeL ds
  | [], _, _ => Nat.zero_le _
  | d :: ds, n, h => by
    rw [List.all_cons, Bool.and_eq_true] at h
    have h1 := text_len d n h.1
    have h2 := texts_len ds n h.2
    simp only [textDs, List.map_cons, List.sum_cons, List.length_cons, K0.D.sizeL]
    omega
end
section
variable {P : Program} {w : World} {K : PySem.W.Frag} {mg : Str → Option Value} {base : Heap} {A : Ad} {D : Fd}
def sp_text_of (K : PySem.W.Frag) (n : Nat) : Sp := fun vs H Q _ => ∃ x d, vs = [x] ∧ Rp K H x d ∧ d.size ≤ 30000 ∧ d.plain n = true ∧ RetV (.str (textD d)) H Q
theorem rv_addL {H : Hp} {a b : Str} (h : a.length + b.length ≤ 16000000) : RV (fun x y H Q => ∃ i j, x = .str i ∧ y = .str j ∧ i.length + j.length ≤ sizeLine ∧ Q (.str (i ++ j)) H) (.str a) (.str b) H (.str (a ++ b)) := fun H1 _ Q q => ⟨a, b, rfl, rfl, by rw [sizeLine_eq]; omega, q H1 (Ex.refl _)⟩
theorem text_core {n m : Nat} {spT : Sp} (T : Txt K mg A D) (G_text_of : FnOk P w K mg base CX0 n A.text_of D.text_of ["value"] spT) (hT : 0 < m → ∀ vs H Q E, sp_text_of K (m - 1) vs H Q E → spT vs H Q E) :
    FnOk P w K mg base CX0 (n + 1) A.text_of D.text_of ["value"] (sp_text_of K m) := by
  refine T.F_text_of.ok sc_text_of (fun vs H Q E h => by obtain ⟨x, d, rfl, _⟩ := h; rfl) (fun cdv A0 outer s H vs Q E hr h => ?_)
  refine ⟨_, (pss_cons (ps_if (pt_cmpR op_isN (pv 0) pe_non (nomark _)) (pss_one (ps_ret pe_str)) pss_nil)
  (pss_cons (ps_if (pt_val (pe_callB call_isi (by rfl) T.b_isinstance (by decide +kernel) (pa_cons (pv 0) (pa_cons (pe_bltn (v := .ty "int") (u := .type "int") (by rfl) T.b_int (by decide +kernel) rfl) pa_nil)))) (pss_one (ps_ret (pe_callTy call_str_int (by rfl) T.b_str (by decide +kernel) (pa_cons (pv 0) pa_nil)))) pss_nil)
  (pss_cons (ps_if (pt_val (pe_callB call_isi (by rfl) T.b_isinstance (by decide +kernel) (pa_cons (pv 0) (pa_cons (pe_bltn (v := .ty "str") (u := .type "str") (by rfl) T.b_str (by decide +kernel) rfl) pa_nil)))) (pss_one (ps_ret (pe_op op_add_str (pe_op op_add_str pe_str (pv 0)) pe_str))) pss_nil)
  (pss_one (ps_ret (pe_op op_add_str (pe_op op_add_str pe_str (pe_bm PySem.F.plainAttrs_str PySem.F.slot_str_join PySem.F.type_str_join mt_join pe_str (pa_cons (pe_lc (own := [("member", 1)]) (g := gName 1) (tt := tYes) rfl sc_text_of.nd (pi_tup (pv 0)) (blkOk_by (own := [("member", 1)]) (N := N_text_of) (sc := defScope s_text_of) (by decide +kernel)) (fun _ _ _ _ _ => by exact pg_name (i := 1) sc_text_of.nd rfl (Or.inl rfl)) (fun _ _ _ _ _ => by exact pts_nil) (fun _ _ _ _ _ => by exact (pe_call G_text_of (hr.mono (by omega)) rfl T.g_text_of T.F_text_of.kp T.b_text_of .nil pass0 (pa_cons (pv 1) pa_nil)))) pa_nil))) pe_str)))))), ?_⟩
  obtain ⟨x, d, rfl, hx, hs, hp, k⟩ := h
  refine q_when (et_test (ev_op (ev_var rfl) ev_c rv_isN)) (fun hb H1 e1 => ?_) (fun hb H1 e1 => ?_)
  · have hn := of_decide_eq_true hb
    subst hn
    cases hx
    exact s_ret ev_c fun H2 e2 => k H2 (e1.trans e2)
  have hx1 := hx.ex e1
  refine q_when (et_B (ev_cb (ea_cons (ev_var rfl) (ea_cons ev_c ea_nil)) (rc_int hx1))) (fun hb H2 e2 => ?_) (fun hb H2 e2 => ?_)
  · cases hx with
    | int i =>
      have h1 : numB i = true := by cases m <;> exact hp
      exact s_ret (ev_cb (ea_cons (ev_var rfl) ea_nil) fun H3 _ Q q => ⟨i, rfl, (num_len h1).2, q H3 (Ex.refl _)⟩) fun H3 e3 => k H3 ((e1.trans e2).trans e3)
    | bl b => cases m <;> cases hp
    | _ => cases hb
  refine q_when (et_B (ev_cb (ea_cons (ev_var rfl) (ea_cons ev_c ea_nil)) (rc_str (hx1.ex e2)))) (fun hb3 H3 e3 => ?_) (fun hb3 H3 e3 => ?_)
  · obtain ⟨z, rfl, rfl⟩ := hx.isS hb3
    have hz : 1 + z.length / 100 ≤ 30000 := hs
    exact s_ret (ev_op (ev_op ev_c (ev_var rfl) (rv_addL (by show 1 + z.length ≤ _; omega))) ev_c (rv_addL (by rw [str_app]; show 1 + z.length + 1 ≤ _; omega))) fun H4 e4 => k H4 (((e1.trans e2).trans e3).trans e4)
  · cases hx with
    | @tup a xs ds hq hr0 =>
      have e03 := (e1.trans e2).trans e3
      cases m with
      | zero => cases hp
      | succ m =>
        have hpl : ds.all (K0.D.plain m) = true := hp
        have hlen := hr0.len
        have hsl := sizeL_len ds
        have hsz : 1 + K0.D.sizeL ds ≤ 30000 := by have := hs; simp only [K0.D.size] at this; exact this
        have hL := texts_len ds m hpl
        have hJ := join_len "," (textDs ds)
        rw [show ("," : Str).length = 1 from rfl, Nat.mul_one] at hJ
        have hl : EvL (tLc (iTup K (tVar 0)) (gName 1) tYes (tCall spT [] (fun _ _ _ => False) (tCons (tVar 1) tNil)) [1]) (L2.start N_text_of [V.ref a]) H3 ((textDs ds).map V.str) := by
          have := el_lcT (K := K) (tl := tVar 0) (t := tYes) (σ := L2.start N_text_of [V.ref a]) (H := H3) (j := 1) (vs := [1]) (te := tCall spT [] (fun _ _ _ => False) (tCons (tVar 1) tNil)) (fun _ => true) (fun i => V.str (textD ((ds.getD i .non)))) (ev_var rfl) (ex_t e03 hq) (by omega) (fun _ => rfl) (fun i y H5 e5 hy => et_yes) (fun i y H5 e5 hy _ => by
            obtain ⟨d, hd, hrp⟩ := RpAll.get _ _ _ _ (hr0.ex (e03.trans e5)) hy
            have hmem := List.mem_of_getElem? hd
            have e : (ds.getD i .non) = d := by rw [List.getD_eq_getElem?_getD, hd]; rfl
            have hz := size_mem hmem
            refine ev_call (ea_cons (ev_var rfl) ea_nil) fun H6 e6 Q q E => hT (by omega) _ _ _ _ ⟨y, d, rfl, hrp.ex e6, by omega, List.all_eq_true.mp hpl d hmem, by rw [e] at q; exact q⟩)
          rw [given_map (fun _ => rfl)] at this
          have hm : ((List.range xs.length).map fun i => V.str (textD ((ds.getD i .non)))) = (textDs ds).map V.str := by
            rw [textDs_map, List.map_map, hlen]
            refine List.ext_getElem? fun i => ?_
            rw [List.getElem?_map, List.getElem?_map]
            by_cases hi : i < ds.length
            · rw [List.getElem?_range hi, List.getElem?_eq_getElem hi]
              show some (V.str (textD ((ds.getD i .non)))) = some (V.str (textD ds[i]))
              congr 3
              rw [List.getD_eq_getElem?_getD, List.getElem?_eq_getElem hi]
              rfl
            · rw [List.getElem?_eq_none_iff.mpr (by rw [List.length_range]; omega), List.getElem?_eq_none_iff.mpr (by omega)]
              rfl
          rw [hm] at this
          exact this
        have hj : Ev (tBM K "str" (fun x xs H Q => ∃ a p, ∃ ys : List Str, x = .str a ∧ xs = [.ref p] ∧ (SqL K H p (ys.map V.str) ∨ SqT K H p (ys.map V.str)) ∧ (ys.map (·.length)).sum + ys.length * a.length ≤ 16777216 ∧ Q (.str (Txt.join a ys)) H) (tC (.str ",")) (tCons (tLc (iTup K (tVar 0)) (gName 1) tYes (tCall spT [] (fun _ _ _ => False) (tCons (tVar 1) tNil)) [1]) tNil)) (L2.start N_text_of [V.ref a]) H3 (.str (Txt.join "," (textDs ds))) := fun H4 e4 Q q =>
          ⟨rfl, hl H4 e4 _ fun p H5 hp e5 h5 => ⟨",", p, textDs ds, rfl, rfl, .inl (sq_of h5), by rw [show ("," : Str).length = 1 from rfl]; omega, q H5 e5⟩⟩
        exact s_ret (ev_op (ev_op ev_c hj (rv_addL (by show 1 + _ ≤ _; omega))) ev_c (rv_addL (by rw [str_app]; show 1 + _ + 1 ≤ _; omega))) fun H4 e4 => k H4 (e03.trans e4)
    | int i => cases hb
    | str s => cases hb3
    | bl b => cases hb
    | non => exact absurd rfl (of_decide_eq_false ‹_›)
    | lst h => cases m <;> cases hp
    | dct h => cases m <;> cases hp
theorem ok_text_of (T : Txt K mg A D) : ∀ m, FnOk P w K mg base CX0 (m + 2) A.text_of D.text_of ["value"] (sp_text_of K m)
  | 0 => text_core (n := 1) (spT := noFn) T ⟨fun _ _ _ _ h => h.elim, fun _ _ _ _ _ _ _ _ _ _ _ _ _ h => h.elim⟩ fun h => by omega
  | m + 1 => text_core T (ok_text_of T m) fun _ vs H Q E h => h
def sp_check_plain (K : PySem.W.Frag) (A : Ad) : Sp := fun vs H Q E => ∃ x d, vs = [x] ∧ Rp K H x d ∧ d.size ≤ 29000 ∧ (d.plain 12 = true → RetV .non H Q) ∧ (d.plain 12 = false → ∀ H', Ex H H' → E (.ref A.EInvalidOperation) none H')
theorem ok_check_plain (T : Txt K mg A D) : FnOk P w K mg base (L2.CX P w) 30 A.check_plain D.check_plain ["value"] (sp_check_plain K A) := by
  have G_is_plain : FnOk P w K mg base CX0 4 A.is_plain D.is_plain ["value"] (sp_is_plain K) := ok_is_plain T
  refine T.F_check_plain.okX sc_check_plain (fun vs H Q E h => by obtain ⟨x, d, rfl, _⟩ := h; rfl) (fun cdv A0 outer s H vs Q E hr h => ?_)
  refine ⟨_, (pss_one (ps_if (pt_not (pt_val (pe_call G_is_plain (hr.mono (by decide)) rfl T.g_is_plain T.F_is_plain.kp T.b_is_plain .nil pass0 (pa_cons (pv 0) pa_nil)))) (pss_one (ps_raise rfl (takes_of rfl rfl rfl rfl) (pmk_own PySem.F.excBase_ValueError T.e_InvalidOperation.q T.e_InvalidOperation.g T.e_InvalidOperation.k (raises_own T.e_InvalidOperation.b T.e_InvalidOperation.t) (by exact rfl)))) pss_nil)), ?_⟩
  obtain ⟨x, d, rfl, hx, hs, k1, k2⟩ := h
  refine s_when (et_not (et_B (ev_call (ea_cons (ev_var rfl) ea_nil) (svS hx (by omega))))) (fun hb H1 e1 => ?_) fun hb H1 e1 => k1 (by simpa using hb) H1 e1
  exact k2 (by simpa using hb) H1 e1
def sp_is_lessR (K : PySem.W.Frag) (A : Ad) : Sp := fun vs H Q E => ∃ x d y e, vs = [x, y] ∧ Rp K H x d ∧ d.size ≤ 29000 ∧ Rp K H y e ∧ e.size ≤ 29000 ∧ (d.plain 12 && e.plain 12) = false ∧ ∀ H', Ex H H' → E (.ref A.EInvalidOperation) none H'
def sp_orderedR (K : PySem.W.Frag) (A : Ad) : Sp := fun vs H Q E => ∃ x d, vs = [x] ∧ Rp K H x d ∧ d.size ≤ 29000 ∧ (d.plain 12 && d.isTup) = false ∧ ∀ H', Ex H H' → E (.ref A.EInvalidOperation) none H'
def sp_write_plain (K : PySem.W.Frag) (A : Ad) : Sp := fun vs H Q E => ∃ x d, vs = [x] ∧ Rp K H x d ∧ d.size ≤ 29000 ∧ (d.plain 12 = true → RetV (.str (textD d)) H Q) ∧ (d.plain 12 = false → ∀ H', Ex H H' → E (.ref A.EInvalidOperation) none H')
theorem ok_write_plain (T : Txt K mg A D) : FnOk P w K mg base (L2.CX P w) 31 A.write_plain D.write_plain ["value"] (sp_write_plain K A) := by
  have G_check_plain := ok_check_plain (P := P) (w := w) (base := base) T
  have G_text_of := ok_text_of (P := P) (w := w) (base := base) T 12
  refine T.F_write_plain.okX sc_write_plain (fun vs H Q E h => by obtain ⟨x, d, rfl, _⟩ := h; rfl) (fun cdv A0 outer s H vs Q E hr h => ?_)
  refine ⟨_, (pss_cons (ps_expr (pe_call G_check_plain (hr.mono (by decide)) rfl T.g_check_plain T.F_check_plain.kp T.b_check_plain .nil (passes_call (takes_of rfl rfl rfl rfl) (fun _ _ _ _ z => z)) (pa_cons (pv 0) pa_nil)))
  (pss_one (ps_ret (pe_call G_text_of (hr.mono (by decide)) rfl T.g_text_of T.F_text_of.kp T.b_text_of .nil pass0 (pa_cons (pv 0) pa_nil))))), ?_⟩
  obtain ⟨x, d, rfl, hx, hd, k1, k2⟩ := h
  refine c_call (ea_cons (ev_var rfl) ea_nil) fun H1 e1 => ⟨x, d, rfl, hx.ex e1, hd, fun p1 H2 e2 => ?_, fun p1 H2 e2 => k2 p1 H2 (e1.trans e2)⟩
  exact s_ret (ev_call (ea_cons (ev_var rfl) ea_nil) fun H3 e3 Q q E => ⟨x, d, rfl, hx.ex ((e1.trans e2).trans e3), by omega, p1, q⟩) fun H4 e4 => k1 p1 H4 ((e1.trans e2).trans e4)
end
end K0

namespace K0
open PySem L2 Evl
/-! ### write_plain of what is plain, called where nothing is raised -/
section
variable {P : Program} {w : World} {K : PySem.W.Frag} {mg : Str → Option Value} {base : Heap} {A : Ad} {D : Fd}
def sp_check_plainG (K : PySem.W.Frag) : Sp := fun vs H Q _ => ∃ x d, vs = [x] ∧ Rp K H x d ∧ d.size ≤ 29000 ∧ d.plain 12 = true ∧ RetV .non H Q
theorem ok_check_plainG (T : Txt K mg A D) : FnOk P w K mg base CX0 30 A.check_plain D.check_plain ["value"] (sp_check_plainG K) := by
  have G_is_plain : FnOk P w K mg base CX0 4 A.is_plain D.is_plain ["value"] (sp_is_plain K) := ok_is_plain T
  refine T.F_check_plain.ok sc_check_plain (fun vs H Q E h => by obtain ⟨x, d, rfl, _⟩ := h; rfl) (fun cdv A0 outer s H vs Q E hr h => ?_)
  refine ⟨_, (pss_one (ps_if (pt_not (pt_val (pe_call G_is_plain (hr.mono (by decide)) rfl T.g_is_plain T.F_is_plain.kp T.b_is_plain .nil pass0 (pa_cons (pv 0) pa_nil)))) (pss_one ps_never) pss_nil)), ?_⟩
  obtain ⟨x, d, rfl, hx, hs, hp, k⟩ := h
  exact s_when (b := false) (et_is (et_not (et_B (ev_call (ea_cons (ev_var rfl) ea_nil) (svS hx (by omega))))) (by rw [hp]; rfl)) (fun zz => by cases zz) fun _ H1 e1 => k H1 e1
def sp_write_plainG (K : PySem.W.Frag) : Sp := fun vs H Q _ => ∃ x d, vs = [x] ∧ Rp K H x d ∧ d.size ≤ 29000 ∧ d.plain 12 = true ∧ RetV (.str (textD d)) H Q
theorem ok_write_plainG (T : Txt K mg A D) : FnOk P w K mg base CX0 31 A.write_plain D.write_plain ["value"] (sp_write_plainG K) := by
  have G_check_plain := ok_check_plainG (P := P) (w := w) (base := base) T
  have G_text_of := ok_text_of (P := P) (w := w) (base := base) T 12
  refine T.F_write_plain.ok sc_write_plain (fun vs H Q E h => by obtain ⟨x, d, rfl, _⟩ := h; rfl) (fun cdv A0 outer s H vs Q E hr h => ?_)
  refine ⟨_, (pss_cons (ps_expr (pe_call G_check_plain (hr.mono (by decide)) rfl T.g_check_plain T.F_check_plain.kp T.b_check_plain .nil pass0 (pa_cons (pv 0) pa_nil)))
  (pss_one (ps_ret (pe_call G_text_of (hr.mono (by decide)) rfl T.g_text_of T.F_text_of.kp T.b_text_of .nil pass0 (pa_cons (pv 0) pa_nil))))), ?_⟩
  obtain ⟨x, d, rfl, hx, hd, hp, k⟩ := h
  refine c_call (ea_cons (ev_var rfl) ea_nil) fun H1 e1 => ⟨x, d, rfl, hx.ex e1, hd, hp, fun H2 e2 => ?_⟩
  exact s_ret (ev_call (ea_cons (ev_var rfl) ea_nil) fun H3 e3 Q q E => ⟨x, d, rfl, hx.ex ((e1.trans e2).trans e3), by omega, hp, q⟩) fun H4 e4 => k H4 ((e1.trans e2).trans e4)
end
end K0

namespace K0
open PySem PySem.Spec PyProof.Rows L2 Evl
/-! ### promises of defs where no repr is under way; the law's end for such -/
structure FnG (P : Program) (w : World) (K : PySem.W.Frag) (mg : Str → Option Value) (base : Heap) (CXr : CXT) (k : Nat) (f : Addr) (fd : FuncData) (ps : List Str) (sp : Sp) : Prop where
  len : ∀ vs H Q E, sp vs H Q E → vs.length = ps.length
  run : ∀ (A : Around) (out : List Env) (t0 : Shared) (H : Hp) (ar : Args) (ws : List Value) (vs : List V) (Q : VK) (E : XK), A.guards = some [] → Room k A → Env0 P w K mg base A out t0 H → BindsTo t0 fd ar (ps.zip ws) → Vals vs ws → sp vs H Q E → codeAny (model P w) A (.call (.ref f) ar) (CR CXr out P w H t0 Q E) t0
section
variable {P : Program} {w : World} {K : PySem.W.Frag} {mg : Str → Option Value} {base : Heap} {CXr : CXT} {k : Nat} {f : Addr} {fd : FuncData} {ps : List Str} {sp : Sp}
theorem FnG.of (F : FnOk P w K mg base CXr k f fd ps sp) : FnG P w K mg base CXr k f fd ps sp := ⟨F.len, fun A out t0 H ar ws vs Q E _ => F.run A out t0 H ar ws vs Q E⟩
/-- by its body; the code object may be known -/
theorem okG {x qual : Str} {st : Stmt} {N : List Str} (F : Fun K x qual st f fd) (S : FnScope N ps (defScope st)) (len : ∀ vs H Q E, sp vs H Q E → vs.length = ps.length)
    (body : ∀ (cdv : Value) (A : Around) (out : List Env) (t0 : Shared) (H : Hp) (vs : List V) (Q : VK) (E : XK), fd.code = cdv → A.guards = some [] → Room k (A.deeper (envOfC qual (defScope st) t0.heap.objs.size f cdv)) → sp vs H Q E →
      ∃ t, PSs (cxOf CXr P w K mg base N qual (defScope st) f cdv A out t0 H E) (defBody st) t ∧ t { nx := fun _ H' => Q .non H', rt := Q } (start N vs) H) : FnG P w K mg base CXr (k + 1) f fd ps sp := by
  obtain ⟨oc, od, kV, doc, pm, an, cdv, ct, osl, rfl, lk, hcd⟩ := F.ex
  refine ⟨len, fun A out t0 H ar ws vs Q E gd rm env bnd rel prm => ?_⟩
  have kin : K.In t0.heap := env.mod.kin.keeps fun b u ee => (env.bs b u ee).1
  have pk : ∀ y ∈ ps.zip ws, (defScope st).names.lookup y.1 = some .local ∨ ((defScope st).names.lookup y.1 = some .cell ∧ ((cellsFrom (t0.heap.objs.size + 1) (defScope st).names []).lookup y.1).isSome = true) := fun ⟨n, v⟩ hy =>
    (S.par n (List.of_mem_zip hy).1).imp (fun q => q) fun q => ⟨q, PySem.W.cellsFrom_some _ _ _ (.inl q)⟩
  refine codeAny_call_function rm.depth (kin _ _ lk) rfl S.co S.gen rfl (PySem.W.codeRec_of kin hcd) (bnd _ _ _ _ ?_)
  refine wpAny_newFunctionEnv_cells S.kind pk fun ev he t1 xx => ?_
  subst he
  refine ⟨(env.mod.nolimit.keeps fun b u ee => (env.bs b u ee).1).keeps xx.toInCall.keep, codeAny_func ?_⟩
  obtain ⟨t, tt, tq⟩ := body cdv A out t0 H vs Q E rfl gd (rm.deeper _) prm
  refine wpAny_mono (tt.run [] t1 (start N vs) H _ (inv_start S rm.hd env (len _ _ _ _ prm) rel xx) tq) (fun fl t2 z => ?_) fun _ _ z => z
  cases fl with
  | ret u => exact let ⟨v, _, H', J, rv, q⟩ := z; ⟨v, H', J.os, J.bare, J.base, J.hok, rv, q⟩
  | next => exact let ⟨_, H', J, q⟩ := z; ⟨.non, H', J.os, J.bare, J.base, J.hok, rfl, q⟩
  | brk => exact let ⟨_, _, _, q⟩ := z; q.elim
  | cont => exact let ⟨_, _, _, q⟩ := z; q.elim
end
section
variable {X : Cx} {CXr : CXT} {k : Nat} {f : Addr} {fd : FuncData} {ps : List Str} {sp : Sp} {E : XK} {x : Str} {p pos : Pos} {e : Expr} {es : List Expr} {t : TA}
/-- f(e, ..) of such a def -/
theorem pe_callG (F : FnG X.prog X.w X.K X.mg X.base CXr k f fd ps sp) (gd : X.A.guards = some []) (rm : Room k X.A) (gl : Gl X x) (at_ : X.mg x = some (.ref f)) (kp : PySem.W.keepIn X.K (.ref f) = true) (bnd : Binds X.K fd ps []) (px : Passes CXr X E) (ha : PA X (e :: es) t)
    (nd : (x == ("__debug__" : Str)) = false := by decide) (h1 : starEach (e :: es) X.env = (false, eval e X.env) :: starEach es X.env := by rfl) (h2 : (backTo pos (starEach es X.env)).any (·.1) = false := by rfl) :
    PE X (.Call (.Name x p) (e :: es) [] pos) (tCall sp [] E t) := ⟨fun pins s σ H Q I h => by
  refine wpAny_Call_Name_kw (ld_glob I gl at_ ?_ nd)
  refine PySem.W.callWith_K (h₀ := X.base) I.ok.mod.kin kp (thn (ha.run pos pins s σ H _ I h) fun us s1 z => ?_) h1 h2
  obtain ⟨vs, H1, I1, rel, q⟩ := z
  rw [List.append_nil] at q
  have ln : us.length = ps.length := by rw [← rel.length]; exact F.len _ _ _ _ q
  refine ⟨I1.kIn, wpAny_call (codeAny_mono (F.run X.A X.stack s1 H1 ⟨us, []⟩ us vs Q E gd rm I1.env0 (by have := bnd s1 us I1.kIn (by rw [List.append_nil]; exact ln); rw [List.append_nil] at this; exact this) rel q) fun r s2 zz => ?_)⟩
  cases r with
  | error u => exact px pins σ H1 s1 u s2 I1 zz
  | ok fl =>
    cases fl with
    | ret u => exact I1.after zz
    | _ => exact False.elim zz⟩
end
/-! ### the law's call -/
/-- what is told of the heap where the law is called: the tables, and the script (where it is not an object of the written part) -/
def lawH (K : PySem.W.Frag) (T : List Addr) (a : Addr) (so : Obj) (ns : List Int) : Hp := fun b => if b ∈ T then some (.tbl #[]) else if b = a ∧ K.lookup a = none then some (.frz so (.lst (ns.map V.int))) else none
section
variable {K : PySem.W.Frag} {T : List Addr} {a b : Addr} {so : Obj} {ns : List Int} {u : HO}
theorem lawH_tab (h : b ∈ T) : lawH K T a so ns b = some (.tbl #[]) := if_pos h
theorem lawH_cases (h : lawH K T a so ns b = some u) : (b ∈ T ∧ u = .tbl #[]) ∨ (b ∉ T ∧ b = a ∧ K.lookup a = none ∧ u = .frz so (.lst (ns.map V.int))) := by
  unfold lawH at h
  split at h
  · rename_i m
    exact .inl ⟨m, (Option.some.inj h).symm⟩
  · rename_i m
    split at h
    · rename_i m2
      exact .inr ⟨m, m2.1, m2.2, (Option.some.inj h).symm⟩
    · cases h
end
theorem law_callG {P : Program} {w : World} {K : PySem.W.Frag} {mg mb : Str → Option Value} {CXr : CXT} {k : Nat} {fa a : Addr} {cs : List (Addr × Addr)} {fd : FuncData} {x : Str} {sp : Sp} {t0 : Shared} {vs : List Value} {ns : List Int}
    (kin : K.In t0.heap) (gns : t0.heap.Ns mainGlobals mg) (bns : t0.heap.Ns builtinsNs mb) (bb : ∀ x : Str, x ≠ "__name__" → mb x = bootBuiltins x) (lim : t0.heap.NoLimit) (gen0 : t0.gens = #[])
    (tabs : ∀ p ∈ cs, t0.heap.get? p.2 = some { cls := .none, data := .fields #[] }) (tabN : ∀ p ∈ cs, K.lookup p.2 = none) (heads : ∀ p ∈ cs, PySem.W.CodeHd t0.heap p.1 p.2)
    (main : ∃ (m : Addr) (o : Obj), mg "__builtins__" = some (.ref m) ∧ m ≠ builtinsNs ∧ t0.heap.get? m = some o ∧ o.cls = .type "module" ∧ o.dict = some builtinsNs ∧ o.data = .plain)
    (scr : t0.heap.get? a = some { cls := .type "list", data := .seq vs.toArray }) (scrI : IntsAre vs ns) (few : ns.length ≤ sizeLine) (rm : Room k callerA)
    (F : ∀ base : Heap, K.In base → base.Ns mainGlobals mg → (∀ p ∈ cs, LamX.TabB base mg p.1 p.2) → FnG P w K mg base CXr k fa fd [x] sp) (bnd : ∀ (s : Shared) (u : Value), BindsTo s fd ⟨[u], []⟩ [(x, u)])
    (prm : ∀ H : Hp, (∀ p ∈ cs, H p.2 = some (.tbl #[])) → SqL K H a (ns.map V.int) → sp [.ref a] H (fun v _ => v = .bl true) fun _ _ _ => False)
    (noX : ∀ H e s', CXr [] H t0 (fun _ _ _ => False) e s' → False) :
    codeAny (model P w) callerA (.call (.ref fa) ⟨[.ref a], []⟩) (fun rr t1 => rr = .ok (.ret (.bool true)) ∧ OldK t0.heap t1.heap ∧ t1.os = t0.os ∧ AllBare t1.gens) t0 := by
  have tab_ : ∀ {b : Addr}, b ∈ cs.map (·.2) → t0.heap.get? b = some { cls := .none, data := .fields #[] } := fun hb => by
    obtain ⟨p, hp, rfl⟩ := List.mem_map.mp hb
    exact tabs p hp
  have in_ : ∀ p ∈ cs, p.2 ∈ cs.map (·.2) := fun p hp => List.mem_map.mpr ⟨p, hp, rfl⟩
  have aOut : a ∉ cs.map (·.2) := fun z => by
    have y := (tab_ z).symm.trans scr
    have y2 : Data.fields #[] = Data.seq vs.toArray _ := congrArg Obj.data (Option.some.inj y)
    cases y2
  obtain ⟨so, eso⟩ : ∃ so : Obj, so = { cls := .type "list", data := .seq vs.toArray } := ⟨_, rfl⟩
  rw [← eso] at scr
  generalize eH : lawH K (cs.map (·.2)) a so ns = H
  have rel := vals_ints scrI
  have lnV := scrI.length
  -- what is told stands in the heap, and is no part of what is written
  have what : ∀ {b : Addr} {u : HO}, H b = some u → K.lookup b = none ∧ ∃ o : Obj, t0.heap.get? b = some o ∧ ((∃ q n, o.data = .seq q n) ∨ o.data = .fields #[]) := fun {b u} h => by
    rw [← eH] at h
    rcases lawH_cases h with ⟨m, _⟩ | ⟨_, rfl, kn, _⟩
    · obtain ⟨p, hp, rfl⟩ := List.mem_map.mp m
      exact ⟨tabN p hp, _, tabs p hp, .inr rfl⟩
    · exact ⟨kn, so, scr, .inl ⟨_, _, by rw [eso]⟩⟩
  have free : ∀ {b : Addr} {o : Obj}, t0.heap.get? b = some o → (∀ q n, o.data ≠ .seq q n) → o.data ≠ .fields #[] → H b = none := fun {b o} e n1 n2 => by
    cases q : H b with
    | none => rfl
    | some u =>
      obtain ⟨_, o', e', d⟩ := what q
      cases e.symm.trans e'
      rcases d with ⟨q', n', d⟩ | d
      · exact absurd d (n1 _ _)
      · exact absurd d n2
  have low : ∀ {b : Addr} {o : Obj}, t0.heap.get? b = some o → H b = none → (hidT t0.heap H).get? b = some o := fun e n => hidT_get e n
  have lowN : ∀ {b : Addr} {m : Str → Option Value}, t0.heap.Ns b m → (hidT t0.heap H).Ns b m := fun ⟨o, es, ep, e, d, r⟩ =>
    ⟨o, es, ep, low e (free e (fun q n z => by rw [d] at z; cases z) fun z => by rw [d] at z; cases z), d, r⟩
  have lowK : K.In (hidT t0.heap H) := fun b o e => low (kin b o e) (by
    cases q : H b with
    | none => rfl
    | some u => exact absurd e (by rw [(what q).1]; simp))
  have modl : L2.Mod K mg (hidT t0.heap H) := ⟨lowK, lowN gns, ⟨mb, lowN bns, bb⟩, let ⟨mc, l1, l2⟩ := lim; ⟨mc, lowN l1, l2⟩⟩
  have hTabs : ∀ p ∈ cs, H p.2 = some (.tbl #[]) := fun p hp => by rw [← eH]; exact lawH_tab (in_ p hp)
  have okH : HOk P w H t0.heap := fun b u h => by
    rw [← eH] at h
    rcases lawH_cases h with ⟨m, rfl⟩ | ⟨_, rfl, _, rfl⟩
    · exact tab_ m
    · exact ⟨scr, by rw [List.length_map]; exact few, vs, _, rel, by rw [scr, eso]⟩
  have seqA : SqL K H a (ns.map V.int) := by
    cases kl : K.lookup a with
    | none => exact .inl (.inr ⟨so, by rw [← eH]; unfold lawH; rw [if_neg aOut, if_pos ⟨rfl, kl⟩]⟩)
    | some o =>
      have y := scr.symm.trans (kin a o kl)
      cases y
      exact .inr ⟨_, vs.toArray, _, kl, by rw [eso], by rw [eso], by rw [eso], by rw [List.size_toArray, lnV]; exact few, by simpa using rel⟩
  have lowT : ∀ p ∈ cs, LamX.TabB (hidT t0.heap H) mg p.1 p.2 := fun p hp => by
    refine ⟨?_, ?_, fun z => ?_⟩
    · obtain ⟨o, us, file, tf, flags, tg, inF, text, tt, c1, c2, c3, c4, c5, c6, c7, c8, c9, cn⟩ := heads p hp
      exact ⟨o, us, file, tf, flags, tg, inF, text, tt, low c1 (free c1 (fun q n y => by rw [c3] at y; cases y) fun y => by rw [c3] at y; cases y; simp at c4), c2, c3, c4, c5, c6, c7, c8, c9, cn⟩
    · obtain ⟨m, o, m1, m2, m3, m4, m5, m6⟩ := main
      refine ⟨m, o, m1, m2, fun y => ?_, fun y => ?_, low m3 (free m3 (fun q n y => by rw [m6] at y; cases y) fun y => by rw [m6] at y; cases y), m4, m5, m6⟩
      · obtain ⟨o', es, ep, e', d', _⟩ := gns
        rw [y, e'] at m3
        cases m3
        rw [d'] at m6
        cases m6
      · rw [y, tabs p hp] at m3
        cases m3
        cases m6
    · obtain ⟨o', es, ep, e', d', _⟩ := gns
      rw [z, tabs p hp] at e'
      cases e'
      cases d'
  have env : Env0 P w K mg (hidT t0.heap H) callerA [] t0 H := ⟨rfl, modl, fun b o e => of_hidT e, Nat.le_of_eq (hidT_size _ _), trivial, fun b hb => (List.not_mem_nil hb).elim, okH, .of_eq gen0⟩
  refine codeAny_mono ((F _ lowK (lowN gns) lowT).run callerA [] t0 H ⟨[.ref a], []⟩ [.ref a] [.ref a] _ _ rfl rm env (bnd t0 (.ref a)) (.cons rfl .nil) (prm H hTabs seqA)) fun rr t1 z => ?_
  cases rr with
  | error u => exact (noX H u t1 z).elim
  | ok fl =>
    cases fl with
    | ret u =>
      obtain ⟨v, G, os1, bare, un, ok1, rv, qv⟩ := z
      obtain rfl : v = .bl true := qv
      obtain rfl : u = Value.bool true := rv
      have kept : ∀ b o, b ∉ cs.map (·.2) → t0.heap.get? b = some o → t1.heap.get? b = some o := fun b o nb e => by
        cases q : H b with
        | none => exact un.keep b o e q (fun y => List.not_mem_nil y) (fun y => List.not_mem_nil y)
        | some u =>
          have q2 := q
          rw [← eH] at q2
          rcases lawH_cases q2 with ⟨m, _⟩ | ⟨_, rfl, _, rfl⟩
          · exact absurd m nb
          · obtain ⟨e1, _⟩ := ok1 b _ (un.frzs b so _ q)
            cases e.symm.trans scr
            exact e1
      refine ⟨rfl, ⟨fun b o e => ?_, fun b o e => ?_⟩, os1, bare⟩
      all_goals
        by_cases m : b ∈ cs.map (·.2)
      · obtain ⟨p, hp, rfl⟩ := List.mem_map.mp m
        obtain ⟨more, zz⟩ := un.tbls p.2 #[] (hTabs p hp)
        cases (tabs p hp).symm.trans e
        exact .inr (.inl ⟨((heads p hp).tab (tabs p hp)).isCodeTable, rfl, #[], more, rfl, by rw [Array.empty_append]; have := ok1 p.2 _ zz; rw [Array.empty_append] at this; exact this⟩)
      · exact .inl (kept b o m e)
      · obtain ⟨p, hp, rfl⟩ := List.mem_map.mp m
        obtain ⟨more, zz⟩ := un.tbls p.2 #[] (hTabs p hp)
        exact ⟨_, ok1 p.2 _ zz⟩
      · exact ⟨o, kept b o m e⟩
    | _ => exact False.elim z
/-- what a law's def keeps, where no repr is under way -/
def LawG (l : PySem.W.OpenLaw) (w : World) (K : PySem.W.Frag) (CXr : CXT) (k n : Nat) (x : Str) (mg : Str → Option Value) (fa : Addr) (h : Heap) : Prop :=
  ∃ (fd : FuncData) (cs : List (Addr × Addr)) (sp : Sp), (∀ p ∈ cs, h.get? p.2 = some { cls := .none, data := .fields #[] }) ∧ (∀ p ∈ cs, K.lookup p.2 = none) ∧ (∀ p ∈ cs, PySem.W.CodeHd h p.1 p.2) ∧ (∀ (s : Shared) (u : Value), BindsTo s fd ⟨[u], []⟩ [(x, u)]) ∧
    (∀ (H : Hp) (a : Addr) (ns : List Int), ns.length ≤ n → (∀ p ∈ cs, H p.2 = some (.tbl #[])) → SqL K H a (ns.map V.int) → sp [.ref a] H (fun v _ => v = .bl true) fun _ _ _ => False) ∧
    ∀ base : Heap, K.In base → base.Ns mainGlobals mg → (∀ p ∈ cs, LamX.TabB base mg p.1 p.2) → FnG l.prog w K mg base CXr k fa fd [x] sp
theorem walk_ofG {l : PySem.W.OpenLaw} {n k : Nat} {q : Program} {loose : List Str} {XP : (Str → Option Value) → Heap → Prop} {YP : World → Heap → Prop} {d : DefRec} {K : Params → PySem.W.Frag} {CXr : World → CXT} {x : Str}
    (most : l.most = some n) (few : n ≤ sizeLine) (nodef : d.params.defaults = []) (rm : Room k callerA) (kin : ∀ (w : World) (h : Heap), YP w h → (K w.params).In h)
    (F : ∀ (w : World) (mg : Str → Option Value) (fa : Addr) (h : Heap), YP w h → (K w.params).In h → h.Ns mainGlobals mg → mg d.name = some (.ref fa) → LawG l w (K w.params) (CXr w) k n x mg fa h)
    (noX : ∀ (w : World) (H : Hp) (s : Shared) (e : Value) (s' : Shared), CXr w [] H s (fun _ _ _ => False) e s' → False) :
    PySem.W.WalkO q loose XP YP l.row.toRowW d [] (fun f vs => PySem.call f vs) :=
  Att.attach_call most nodef fun w t0 t1 mg mb fa o pm cd doc a vs ns G Y ho hd hcd fnd hobj scrI hlen gen0 => by
    obtain ⟨fd, cs, sp, c1, c2, c3, bnd, prm, hF⟩ := F w mg fa _ Y (kin w _ Y) G.T.g fnd
    exact law_callG (kin w _ Y) G.T.g G.T.b G.T.builtins G.T.nolimit gen0 c1 c2 c3 G.T.bmain hobj scrI (Nat.le_trans hlen few) rm hF bnd (fun H hH hS => prm H a ns hlen hH hS) fun H e s' => noX w H t1 e s'
end K0

namespace K0
open PySem L2 Evl
/-! ### what is written is read back (mathematics) -/
theorem at0 {l : List Nat} {s c : Nat} {r : List Nat} (h : l.drop s = c :: r) : l[s]? = some c ∧ l.drop (s + 1) = r := by
  have h1 : (l.drop s)[0]? = some c := by rw [h]; rfl
  rw [List.getElem?_drop, Nat.add_zero] at h1
  refine ⟨h1, ?_⟩
  have := drop_cons h1
  rw [h] at this
  exact (List.cons.inj this).2.symm
theorem atL {l t r : List Nat} {s : Nat} (h : l.drop s = t ++ r) : l.drop (s + t.length) = r := by
  rw [← List.drop_drop, h, List.drop_left]
theorem at_none {l : List Nat} {s : Nat} (h : l.drop s = []) : l[s]? = none := List.getElem?_eq_none_iff.mpr (List.drop_eq_nil_iff.mp h)
def NoHead (p : Nat → Bool) (r : List Nat) : Prop := ∀ c q, r = c :: q → p c = false
theorem runTo_app {p : Nat → Bool} : ∀ (t : List Nat) {r : List Nat} {m : Nat}, t.all p = true → t.length ≤ m → NoHead p r → runTo p m (t ++ r) = t.length
  | [], r, m, _, _, h => by
    cases r with
    | nil => cases m <;> rfl
    | cons c q =>
      cases m with
      | zero => rfl
      | succ m =>
        show (if p c then _ else _) = 0
        rw [if_neg (by rw [h c q rfl]; decide)]
  | a :: t, r, 0, _, hl, _ => by simp at hl
  | a :: t, r, m + 1, ha, hl, h => by
    rw [List.all_cons, Bool.and_eq_true] at ha
    show (if p a then 1 + runTo p m (t ++ r) else 0) = _
    rw [if_pos ha.1, runTo_app t ha.2 (by simpa using hl) h, List.length_cons, Nat.add_comm]
theorem midS_app {l t r : List Nat} {s : Nat} (h : l.drop s = t ++ r) : midS l s (s + t.length) = t := by
  unfold midS
  rw [h, Nat.add_sub_cancel_left, List.take_left]
theorem rdS_text {l : List Nat} {s : Nat} {z : Str} {r : List Nat} (hw : D.word signs37 3000 (.str z) = true) (h : l.drop s = TL.tl z ++ 39 :: r) : rdS l s = .ok (.str z, s + (TL.tl z).length + 1) := by
  have hw' : (decide ((z.length : Int) ≤ 3000) && z.cps.toList.all signs37.cps.contains) = true := hw
  have h2 := Bool.and_eq_true_iff.mp hw'
  have hl := of_decide_eq_true h2.1
  have hall : (TL.tl z).all (inS signs37) = true := List.all_eq_true.mpr fun c hc => by
    have := List.all_eq_true.mp h2.2 c hc
    refine decide_eq_true ?_
    rw [Array.contains_iff_mem] at this
    exact Array.mem_toList_iff.mpr this
  have hlen : (TL.tl z).length = z.length := by show z.cps.toList.length = z.cps.size; simp
  have hr : runTo (inS signs37) 3000 (l.drop s) = (TL.tl z).length := by
    rw [h]
    exact runTo_app _ hall (by omega) fun c q e => by
      cases e
      decide +kernel
  unfold rdS
  simp only [hr]
  have ha := at0 (atL h)
  rw [if_pos ha.1, midS_app h]
theorem dig_in {c : Nat} (h1 : 48 ≤ c) (h2 : c ≤ 57) : inS digits10 c = true := by
  have : c = 48 ∨ c = 49 ∨ c = 50 ∨ c = 51 ∨ c = 52 ∨ c = 53 ∨ c = 54 ∨ c = 55 ∨ c = 56 ∨ c = 57 := by omega
  rcases this with rfl | rfl | rfl | rfl | rfl | rfl | rfl | rfl | rfl | rfl <;> decide +kernel
theorem dig9_in {c : Nat} (h1 : 49 ≤ c) (h2 : c ≤ 57) : inS digits9 c = true := by
  have : c = 49 ∨ c = 50 ∨ c = 51 ∨ c = 52 ∨ c = 53 ∨ c = 54 ∨ c = 55 ∨ c = 56 ∨ c = 57 := by omega
  rcases this with rfl | rfl | rfl | rfl | rfl | rfl | rfl | rfl | rfl <;> decide +kernel
theorem numL_head : ∀ n : Nat, ∃ c r, TL.numL n = c :: r ∧ 48 ≤ c ∧ c ≤ 57 ∧ (c = 48 → n = 0) := fun n => by
  induction n using Nat.strongRecOn with
  | _ n ih =>
    by_cases h : n < 10
    · exact ⟨48 + n, [], TL.numL_lt h, by omega, by omega, by omega⟩
    · obtain ⟨c, r, e, h1, h2, h3⟩ := ih (n / 10) (by omega)
      exact ⟨c, r ++ [48 + n % 10], by rw [TL.numL_step (by omega), e]; rfl, h1, h2, fun z => by have := h3 z; omega⟩
/-- a number's digits, read -/
theorem rdN_text {l : List Nat} {s n : Nat} {f : Str} {r : List Nat} (hn : n < 10 ^ 60) (h : l.drop s = TL.numL n ++ r) (hr : NoHead (inS digits10) r) (hf : ∀ c, 48 ≤ c → c ≤ 57 → (c = 48 → n = 0) → inS f c = true) : rdN l f s = .ok (n, s + (TL.numL n).length) := by
  obtain ⟨c, q, e, c1, c2, c3⟩ := numL_head n
  have hl := TL.numL_len (k := 60) (by decide) hn
  have h0 := h
  rw [e] at h0
  have ha := at0 (show l.drop s = c :: (q ++ r) from h0)
  have hne : rdNe l s c = s + (TL.numL n).length := by
    unfold rdNe
    by_cases z : c = 48
    · rw [if_pos z]
      have := c3 z
      subst this
      rw [TL.numL_lt (by decide)]
      rfl
    · rw [if_neg z]
      have hall : q.all (inS digits10) = true := List.all_eq_true.mpr fun x hx => by
        have := TL.numL_digits n x (by rw [e]; exact List.mem_cons_of_mem _ hx)
        exact dig_in this.1 this.2
      rw [e, List.length_cons] at hl
      rw [ha.2, runTo_app q hall (by omega) hr, e, List.length_cons]
      omega
  unfold rdN
  rw [ha.1]
  dsimp only
  rw [if_pos (hf c c1 c2 c3), hne, midS_app h, TL.numL_val]
theorem tl_int (i : Int) : TL.tl (Str.ofString (toString i)) = if i < 0 then 45 :: TL.numL i.natAbs else TL.numL i.natAbs := by
  cases i with
  | ofNat m =>
    rw [if_neg (by simp)]
    exact TL.tl_num m
  | negSucc m =>
    rw [if_pos (by omega)]
    have e : toString (Int.negSucc m) = "-" ++ Nat.repr (m + 1) := rfl
    rw [e]
    show (Str.ofString ("-" ++ Nat.repr (m + 1))).cps.toList = _
    rw [PyProof.Rows.signs_ofString, String.toList_append, List.map_append, Nat.toList_repr]
    rfl
theorem rdI_num {g : Nat → Int} {n e : Nat} : rdI g (.ok (n, e)) = .ok (.int (g n), e) := rfl
theorem rdOther_int {l : List Nat} {s : Nat} {i : Int} {r : List Nat} (hi : numB i = true) (h : l.drop s = TL.tl (Str.ofString (toString i)) ++ r) (hr : NoHead (inS digits10) r) :
    rdOther l s = .ok (.int i, s + (TL.tl (Str.ofString (toString i))).length) ∧ l[s]? ≠ some 46 ∧ l[s]? ≠ some 39 ∧ l[s]? ≠ some 40 := by
  have h2 := Bool.and_eq_true_iff.mp hi
  have h3 := of_decide_eq_true h2.1
  have h4 := of_decide_eq_true h2.2
  have hb : i.natAbs < 10 ^ 60 := by unfold big at h3 h4; omega
  rw [tl_int] at h ⊢
  by_cases hneg : i < 0
  · rw [if_pos hneg] at h ⊢
    have ha := at0 (show l.drop s = 45 :: (TL.numL i.natAbs ++ r) from h)
    refine ⟨?_, by rw [ha.1]; decide, by rw [ha.1]; decide, by rw [ha.1]; decide⟩
    unfold rdOther
    rw [if_pos ha.1, rdN_text hb ha.2 hr fun c c1 c2 c3 => dig9_in (by
      have : c ≠ 48 := fun z => by have := c3 z; omega
      omega) c2, rdI_num, List.length_cons]
    have e1 : -((i.natAbs : Nat) : Int) = i := by omega
    rw [e1]
    congr 2
    omega
  · rw [if_neg hneg] at h ⊢
    obtain ⟨c, q, e, c1, c2, _⟩ := numL_head i.natAbs
    have h0 := h
    rw [e] at h0
    have ha := at0 h0
    have nn : ∀ k : Nat, k < 48 → l[s]? ≠ some k := fun k hk z => by
      rw [ha.1] at z
      have := Option.some.inj z
      omega
    refine ⟨?_, nn 46 (by decide), nn 39 (by decide), nn 40 (by decide)⟩
    unfold rdOther
    rw [if_neg (nn 45 (by decide)), rdN_text hb h hr fun c c1 c2 _ => dig_in c1 c2, rdI_num]
    have e1 : ((i.natAbs : Nat) : Int) = i := by omega
    rw [e1]
theorem tl_tup (ds : List K0.D) : TL.tl (textD (.tup ds)) = 40 :: (TL.joinL [44] ((textDs ds).map TL.tl) ++ [41]) := by
  show TL.tl (("(" : Str) ++ Txt.join "," (textDs ds) ++ (")" : Str)) = _
  rw [TL.tl_append, TL.tl_append, TL.join_eq, TL.tl_join, List.append_assoc]
  rfl
theorem textDs_len : ∀ ds : List K0.D, (textDs ds).length = ds.length
  | [] => rfl
  | d :: ds => by rw [textDs, List.length_cons, List.length_cons, textDs_len ds]
mutual
theorem rd_text : ∀ (d : K0.D) (m : Nat), d.plain m = true → ∀ (l : List Nat) (s : Nat) (r : List Nat), l.drop s = TL.tl (textD d) ++ r → NoHead (inS digits10) r → rdV l m s = .ok (d, s + (TL.tl (textD d)).length) ∧ l[s]? ≠ some 41
  | .non, m, _, l, s, r, h, _ => by
    have ha := at0 (show l.drop s = 46 :: r from h)
    rw [rdV_eq, if_pos ha.1]
    exact ⟨rfl, by rw [ha.1]; decide⟩
  | .bl b, m, hp, _, _, _, _, _ => by cases m <;> cases hp
  | .oth, m, hp, _, _, _, _, _ => by cases m <;> cases hp
  | .int i, m, hp, l, s, r, h, hr => by
    have hn : numB i = true := by cases m <;> exact hp
    obtain ⟨h1, h2, h3, h4⟩ := rdOther_int hn h hr
    rw [rdV_eq, if_neg h2, if_neg h3, if_neg (fun z => h4 z.1)]
    refine ⟨h1, ?_⟩
    have h' := h
    rw [show textD (.int i) = Str.ofString (toString i) from rfl, tl_int] at h'
    split at h'
    · have ha := at0 (show l.drop s = 45 :: (TL.numL i.natAbs ++ r) from h')
      rw [ha.1]
      decide
    · obtain ⟨c, q, e, c1, c2, _⟩ := numL_head i.natAbs
      rw [e] at h'
      have ha := at0 h'
      rw [ha.1]
      intro z
      have := Option.some.inj z
      omega
  | .str z, m, hp, l, s, r, h, _ => by
    have hw : D.word signs37 3000 (.str z) = true := by cases m <;> exact hp
    have e : TL.tl (textD (.str z)) = 39 :: (TL.tl z ++ [39]) := by
      show TL.tl (("'" : Str) ++ z ++ ("'" : Str)) = _
      rw [TL.tl_append, TL.tl_append, List.append_assoc]
      rfl
    rw [e] at h ⊢
    have ha := at0 (show l.drop s = 39 :: (TL.tl z ++ [39] ++ r) from h)
    have hd : l.drop (s + 1) = TL.tl z ++ 39 :: r := by rw [ha.2, List.append_assoc]; rfl
    rw [rdV_eq, if_neg (by rw [ha.1]; decide), if_pos ha.1, rdS_text hw hd]
    refine ⟨?_, by rw [ha.1]; decide⟩
    congr 2
    simp only [List.length_cons, List.length_append, List.length_nil]
    omega
  | .tup ds, m, hp, l, s, r, h, _ => by
    cases m with
    | zero => cases hp
    | succ m =>
      have hall : ds.all (K0.D.plain m) = true := hp
      rw [tl_tup] at h ⊢
      have ha := at0 (show l.drop s = 40 :: (TL.joinL [44] ((textDs ds).map TL.tl) ++ [41] ++ r) from h)
      refine ⟨?_, by rw [ha.1]; decide⟩
      rw [rdV_eq, if_neg (by rw [ha.1]; decide), if_neg (by rw [ha.1]; decide), if_pos ⟨ha.1, Nat.succ_pos _⟩]
      show rdTup (rdV l m) l (s + 1) = _
      cases ds with
      | nil =>
        have hb := at0 (show l.drop (s + 1) = 41 :: r from ha.2)
        unfold rdTup
        rw [if_pos hb.1]
        rfl
      | cons d ds =>
        have hl := rd_texts d ds m hall l (s + 1) r (by rw [ha.2, List.append_assoc]; rfl)
        have hlen : (s + 1) + (TL.joinL [44] ((textDs (d :: ds)).map TL.tl)).length + 1 ≤ l.length := by
          have := congrArg List.length ha.2
          simp only [List.length_drop, List.length_append, List.length_cons, List.length_nil] at this
          omega
        unfold rdTup
        rw [if_neg hl.2, hl.1 (l.length + 2) [] (by
          have h1 : ds.length ≤ (TL.joinL [44] ((textDs (d :: ds)).map TL.tl)).length := joinL_ge ds (TL.tl (textD d))
          omega)]
        congr 2
        simp only [List.length_cons, List.length_append, List.length_nil]
        omega
theorem rd_texts : ∀ (d : K0.D) (ds : List K0.D) (m : Nat), (d :: ds).all (K0.D.plain m) = true → ∀ (l : List Nat) (e : Nat) (r : List Nat), l.drop e = TL.joinL [44] ((textDs (d :: ds)).map TL.tl) ++ 41 :: r →
    (∀ f acc, ds.length < f → rdLoop (rdV l m) l f e acc = .ok (.tup (acc ++ d :: ds), e + (TL.joinL [44] ((textDs (d :: ds)).map TL.tl)).length + 1)) ∧ l[e]? ≠ some 41
  | d, [], m, hp, l, e, r, h => by
    rw [List.all_cons, Bool.and_eq_true] at hp
    have h' : l.drop e = TL.tl (textD d) ++ 41 :: r := h
    obtain ⟨h1, h2⟩ := rd_text d m hp.1 l e (41 :: r) h' (fun c q z => by cases z; decide +kernel)
    refine ⟨fun f acc hf => ?_, h2⟩
    obtain ⟨f, rfl⟩ : ∃ g, f = g + 1 := ⟨f - 1, by omega⟩
    have ha := at0 (atL h')
    unfold rdLoop
    rw [h1]
    dsimp only
    rw [if_neg (by rw [ha.1]; decide), if_pos ha.1]
    rfl
  | d, d2 :: ds, m, hp, l, e, r, h => by
    rw [List.all_cons, Bool.and_eq_true] at hp
    have h' : l.drop e = TL.tl (textD d) ++ (44 :: (TL.joinL [44] ((textDs (d2 :: ds)).map TL.tl) ++ 41 :: r)) := by
      rw [h]
      show (TL.tl (textD d) ++ ([44] ++ TL.joinL [44] ((textDs (d2 :: ds)).map TL.tl))) ++ 41 :: r = _
      simp
    obtain ⟨h1, h2⟩ := rd_text d m hp.1 l e _ h' (fun c q z => by cases z; decide +kernel)
    refine ⟨fun f acc hf => ?_, h2⟩
    obtain ⟨f, rfl⟩ : ∃ g, f = g + 1 := ⟨f - 1, by omega⟩
    have ha := at0 (atL h')
    have ih := (rd_texts d2 ds m hp.2 l (e + (TL.tl (textD d)).length + 1) r ha.2).1 f (acc ++ [d]) (by simp only [List.length_cons] at hf; omega)
    unfold rdLoop
    rw [h1]
    dsimp only
    rw [if_pos ha.1, ih]
    congr 2
    · simp
    · show _ = e + (TL.tl (textD d) ++ ([44] ++ TL.joinL [44] ((textDs (d2 :: ds)).map TL.tl))).length + 1
      simp only [List.length_append, List.length_cons, List.length_nil]
      omega
theorem joinL_ge : ∀ (ds : List K0.D) (t : List Nat), ds.length ≤ (TL.joinL [44] (t :: (textDs ds).map TL.tl)).length
  | [], _ => Nat.zero_le _
  | d :: ds, t => by
    have ih := joinL_ge ds (TL.tl (textD d))
    show ds.length + 1 ≤ (t ++ ([44] ++ TL.joinL [44] (TL.tl (textD d) :: (textDs ds).map TL.tl))).length
    simp only [List.length_append, List.length_cons, List.length_nil]
    omega
end
/-- read plain, written plain -/
theorem rdAll_text {d : K0.D} (h : d.plain 12 = true) : rdAll (textD d).cps.toList = .ok d := by
  have := (rd_text d 12 h (TL.tl (textD d)) 0 [] (by simp) (fun c q z => by cases z)).1
  unfold rdAll
  rw [show rdV (textD d).cps.toList 12 0 = _ from this]
  dsimp only
  rw [Nat.zero_add, if_neg (Nat.lt_irrefl _)]
theorem text_inj {d e : K0.D} (hd : d.plain 12 = true) (he : e.plain 12 = true) (h : textD d = textD e) : d = e := by
  have h1 := rdAll_text hd
  rw [h, rdAll_text he] at h1
  cases h1
  rfl
end K0

namespace K0
open PySem L2 Evl
/-! ### k02's own reader (mathematics) -/
theorem run_full {p : Nat → Bool} : ∀ (m : Nat) (r : List Nat), runTo p m r = m → ∀ i, i < m → ∃ x, r[i]? = some x ∧ p x = true
  | 0, _, _, i, hi => by omega
  | m + 1, [], h, i, hi => by cases h
  | m + 1, c :: r, h, i, hi => by
    have h' : (if p c then 1 + runTo p m r else 0) = m + 1 := h
    split at h'
    · rename_i hc
      cases i with
      | zero => exact ⟨c, rfl, hc⟩
      | succ i =>
        obtain ⟨x, h1, h2⟩ := run_full (p := p) m r (by omega) i (by omega)
        exact ⟨x, by simpa using h1, h2⟩
    · omega
theorem run_of {p : Nat → Bool} : ∀ (m : Nat) (r : List Nat), (∀ i, i < m → ∃ x, r[i]? = some x ∧ p x = true) → runTo p m r = m
  | 0, r, _ => by cases r <;> rfl
  | m + 1, [], h => by
    obtain ⟨x, h1, _⟩ := h 0 (by omega)
    cases h1
  | m + 1, c :: r, h => by
    obtain ⟨x, h1, h2⟩ := h 0 (by omega)
    have hx : c = x := Option.some.inj h1
    subst hx
    show (if p c then 1 + runTo p m r else 0) = m + 1
    rw [if_pos h2, run_of m r fun i hi => by
      obtain ⟨y, g1, g2⟩ := h (i + 1) (by omega)
      exact ⟨y, by simpa using g1, g2⟩]
    omega
/-- where the digits begin -/
def numAt (l : List Nat) (s : Nat) : Nat := if l[s]? = some 45 then s + 1 else s
def tooMany (l : List Nat) (s : Nat) : Bool := decide (runTo (inS digits10) 61 (l.drop (numAt l s)) = 61) && !decide (l[numAt l s]? = some 48)
def lwOther (l : List Nat) (s : Nat) : RdR := if tooMany l s then .error (numAt l s + 60) else rdOther l s
def lwV (l : List Nat) : Nat → Nat → RdR
  | 0, s => if l[s]? = some 46 then .ok (.non, s + 1) else if l[s]? = some 39 then rdS l (s + 1) else if l[s]? = some 40 then .error s else lwOther l s
  | m + 1, s => if l[s]? = some 46 then .ok (.non, s + 1) else if l[s]? = some 39 then rdS l (s + 1) else if l[s]? = some 40 then rdTup (lwV l m) l (s + 1) else lwOther l s
def lwAll (l : List Nat) : Except Nat K0.D := match lwV l 12 0 with
  | .error e => .error e
  | .ok (d, e) => if e = l.length then .ok d else .error e
def Rl (l : List Nat) (a b : RdR) : Prop := a = b ∨ ∃ d e c, b = .ok (d, e) ∧ a = .error e ∧ l[e]? = some c ∧ inS digits10 c = true
theorem lwOther_rel (l : List Nat) (s : Nat) : Rl l (lwOther l s) (rdOther l s) := by
  unfold lwOther
  by_cases h : tooMany l s = true
  · rw [if_pos h]
    have h2 := Bool.and_eq_true_iff.mp h
    have hr := of_decide_eq_true h2.1
    have hn : ¬ l[numAt l s]? = some 48 := by simpa using h2.2
    have hf := run_full 61 _ hr
    have get : ∀ i, (l.drop (numAt l s))[i]? = l[numAt l s + i]? := fun i => List.getElem?_drop
    obtain ⟨c0, g0, p0⟩ := hf 0 (by omega)
    rw [get, Nat.add_zero] at g0
    obtain ⟨cE, gE, pE⟩ := hf 60 (by omega)
    rw [get] at gE
    have c48 : c0 ≠ 48 := fun z => hn (by rw [g0, z])
    have dg := dig_of p0
    have dg2 := Bool.and_eq_true_iff.mp dg
    have c1 := of_decide_eq_true dg2.1
    have c2 := of_decide_eq_true dg2.2
    have h59 : runTo (inS digits10) 59 (l.drop (numAt l s + 1)) = 59 := run_of 59 _ fun i hi => by
      obtain ⟨x, h1, h2⟩ := hf (i + 1) (by omega)
      rw [get] at h1
      exact ⟨x, by rw [List.getElem?_drop, ← h1]; congr 1; omega, h2⟩
    have hne : rdNe l (numAt l s) c0 = numAt l s + 60 := by
      unfold rdNe
      rw [if_neg c48, h59]
    have go : ∀ f : Str, inS f c0 = true → rdN l f (numAt l s) = .ok (PySem.NumText.digitsVal (midS l (numAt l s) (numAt l s + 60)), numAt l s + 60) := fun f hf => by
      unfold rdN
      rw [g0]
      dsimp only
      rw [if_pos hf, hne]
    refine .inr ?_
    unfold rdOther
    by_cases h45 : l[s]? = some 45
    · have hA : numAt l s = s + 1 := if_pos h45
      rw [if_pos h45, ← hA, go digits9 (dig9_in (by omega) c2), rdI_num]
      exact ⟨_, _, cE, rfl, rfl, gE, pE⟩
    · have hA : numAt l s = s := if_neg h45
      rw [if_neg h45]
      have e : rdN l digits10 s = .ok (PySem.NumText.digitsVal (midS l s (s + 60)), s + 60) := by
        have := go digits10 p0
        rw [hA] at this
        exact this
      rw [e, rdI_num, hA]
      rw [hA] at gE
      exact ⟨_, _, cE, rfl, rfl, gE, pE⟩
  · rw [if_neg h]
    exact .inl rfl
theorem loop_rel {f g : Nat → RdR} {l : List Nat} (h : ∀ s, Rl l (f s) (g s)) : ∀ (n e : Nat) (acc : List K0.D), rdLoop f l n e acc = rdLoop g l n e acc
  | 0, _, _ => rfl
  | n + 1, e, acc => by
    unfold rdLoop
    rcases h e with z | ⟨d, e', c, z1, z2, z3, z4⟩
    · rw [z]
      cases g e with
      | error x => rfl
      | ok q =>
        obtain ⟨d, e'⟩ := q
        dsimp only
        rw [loop_rel h n]
    · rw [z1, z2]
      dsimp only
      have n44 : ¬ l[e']? = some 44 := fun z => by
        rw [z3] at z
        cases z
        exact absurd z4 (by decide +kernel)
      have n41 : ¬ l[e']? = some 41 := fun z => by
        rw [z3] at z
        cases z
        exact absurd z4 (by decide +kernel)
      rw [if_neg n44, if_neg n41]
theorem rdOther_no {l : List Nat} {s c : Nat} (h : l[s]? = some c) (h1 : c ≠ 45) (h2 : inS digits10 c = false) : rdOther l s = .error s := by
  unfold rdOther
  rw [if_neg (by rw [h]; intro z; exact h1 (Option.some.inj z))]
  unfold rdN
  rw [h]
  dsimp only
  rw [if_neg (by rw [h2]; decide)]
  rfl
theorem lw_rel (l : List Nat) : ∀ m s, Rl l (lwV l m s) (rdV l m s)
  | 0, s => by
    unfold lwV rdV
    by_cases h1 : l[s]? = some 46
    · rw [if_pos h1, if_pos h1]; exact .inl rfl
    rw [if_neg h1, if_neg h1]
    by_cases h2 : l[s]? = some 39
    · rw [if_pos h2, if_pos h2]; exact .inl rfl
    rw [if_neg h2, if_neg h2]
    by_cases h3 : l[s]? = some 40
    · rw [if_pos h3, rdOther_no h3 (by decide) (by decide +kernel)]; exact .inl rfl
    rw [if_neg h3]
    exact lwOther_rel l s
  | m + 1, s => by
    unfold lwV rdV
    by_cases h1 : l[s]? = some 46
    · rw [if_pos h1, if_pos h1]; exact .inl rfl
    rw [if_neg h1, if_neg h1]
    by_cases h2 : l[s]? = some 39
    · rw [if_pos h2, if_pos h2]; exact .inl rfl
    rw [if_neg h2, if_neg h2]
    by_cases h3 : l[s]? = some 40
    · rw [if_pos h3, if_pos h3]
      refine .inl ?_
      unfold rdTup
      rw [loop_rel (lw_rel l m)]
    rw [if_neg h3, if_neg h3]
    exact lwOther_rel l s
theorem lwAll_eq (l : List Nat) : lwAll l = rdAll l := by
  unfold lwAll rdAll
  rcases lw_rel l 12 0 with z | ⟨d, e, c, z1, z2, z3, _⟩
  · rw [z]
    cases hr : rdV l 12 0 with
    | error x => rfl
    | ok q =>
      obtain ⟨d, e⟩ := q
      have := (rdV_ok 12 _ _ _ hr).2.1
      dsimp only
      by_cases h : e = l.length
      · rw [if_pos h, if_neg (by omega)]
      · rw [if_neg h, if_pos (by omega)]
  · rw [z1, z2]
    dsimp only
    rw [if_pos (get_lt z3)]
/-! ### what is read is plain, and not larger than its text -/
def RvP (rv : Nat → RdR) (l : List Nat) (m : Nat) : Prop := ∀ s d e, rv s = .ok (d, e) → d.plain m = true ∧ d.size + s ≤ e ∧ e ≤ l.length
theorem lt_pow_digits : ∀ (t : List Nat) (k : Nat), t.all (fun c => decide (48 ≤ c) && decide (c ≤ 57)) = true → t.length ≤ k → PySem.NumText.digitsVal t < 10 ^ k := by
  have key : ∀ (t : List Nat) (a : Nat), t.all (fun c => decide (48 ≤ c) && decide (c ≤ 57)) = true → t.foldl (fun n c => n * 10 + (c - 48)) a < (a + 1) * 10 ^ t.length := fun t => by
    induction t with
    | nil => intro a _; simp
    | cons c t ih =>
      intro a h
      rw [List.all_cons, Bool.and_eq_true] at h
      have h1 := Bool.and_eq_true_iff.mp h.1
      have c1 := of_decide_eq_true h1.1
      have c2 := of_decide_eq_true h1.2
      have := ih (a * 10 + (c - 48)) h.2
      rw [List.foldl_cons, List.length_cons, Nat.pow_succ]
      refine Nat.lt_of_lt_of_le this ?_
      rw [← Nat.mul_assoc, Nat.mul_right_comm]
      exact Nat.mul_le_mul_right _ (by omega)
  intro t k h hk
  have h1 := key t 0 h
  rw [Nat.zero_add, Nat.one_mul] at h1
  exact Nat.lt_of_lt_of_le h1 (Nat.pow_le_pow_right (by decide) hk)
theorem rdN_P {l : List Nat} {f : Str} {s n e : Nat} (hf : ∀ c, inS f c = true → inS digits10 c = true) (h : rdN l f s = .ok (n, e)) : n < 10 ^ 60 := by
  unfold rdN at h
  split at h
  · cases h
  · rename_i c hc
    split at h
    · rename_i hin
      cases h
      have hE := rdNe_le hc
      refine lt_pow_digits _ 60 (List.all_eq_true.mpr fun x hx => dig_of ?_) (by
        unfold midS
        rw [List.length_take, List.length_drop]
        omega)
      unfold midS at hx
      rw [drop_cons hc] at hx
      unfold rdNe at hx
      split at hx
      · rw [show s + 1 - s = 0 + 1 by omega, List.take_succ_cons, List.take_zero] at hx
        rw [List.mem_singleton.mp hx]
        exact hf c hin
      · rw [show s + 1 + runTo (inS digits10) 59 (l.drop (s + 1)) - s = runTo (inS digits10) 59 (l.drop (s + 1)) + 1 by omega, List.take_succ_cons] at hx
        rcases List.mem_cons.mp hx with rfl | hx
        · exact hf _ hin
        · exact List.all_eq_true.mp (run_all 59 _) x hx
    · cases h
theorem rdOther_P {l : List Nat} {s e m : Nat} {d : K0.D} (h : rdOther l s = .ok (d, e)) : d.plain m = true ∧ d.size + s ≤ e ∧ e ≤ l.length := by
  have hl := rdOther_lt h
  have num : ∀ i : Int, i.natAbs < 10 ^ 60 → (K0.D.int i).plain m = true := fun i hi => by
    have : numB i = true := by
      unfold numB
      rw [decide_eq_true (show (-(10 ^ 60 - 1) : Int) ≤ i by omega), decide_eq_true (show i ≤ (10 ^ 60 - 1 : Int) by omega)]
      rfl
    cases m <;> exact this
  unfold rdOther at h
  split at h
  · obtain ⟨n, h1, rfl⟩ := rdI_ok h
    have := rdN_P (fun c hc => List.all_eq_true.mp (show digits9.cps.toList.all (inS digits10) = true by decide +kernel) c (of_decide_eq_true hc)) h1
    exact ⟨num _ (by omega), by show 1 + s ≤ e; omega, hl.2.1⟩
  · obtain ⟨n, h1, rfl⟩ := rdI_ok h
    have := rdN_P (fun c hc => hc) h1
    exact ⟨num _ (by omega), by show 1 + s ≤ e; omega, hl.2.1⟩
theorem rdS_P {l : List Nat} {s e m : Nat} {d : K0.D} (h : rdS l s = .ok (d, e)) : d.plain m = true ∧ d.size + s ≤ e ∧ e ≤ l.length := by
  have hl := rdS_lt h
  unfold rdS at h
  simp only at h
  split at h
  · rename_i hc
    cases h
    have hr := runTo_le (p := inS signs37) 3000 (l.drop s)
    rw [List.length_drop] at hr
    have hlen : (midS l s (s + runTo (inS signs37) 3000 (l.drop s))).length = runTo (inS signs37) 3000 (l.drop s) := by
      unfold midS
      rw [List.length_take, List.length_drop]
      have := get_lt hc
      omega
    have hz : (⟨(midS l s (s + runTo (inS signs37) 3000 (l.drop s))).toArray⟩ : Str).length = runTo (inS signs37) 3000 (l.drop s) := by
      show (midS l s _).toArray.size = _
      rw [List.size_toArray, hlen]
    have hw : D.word signs37 3000 (.str ⟨(midS l s (s + runTo (inS signs37) 3000 (l.drop s))).toArray⟩) = true := by
      show (decide (((⟨(midS l s (s + runTo (inS signs37) 3000 (l.drop s))).toArray⟩ : Str).length : Int) ≤ 3000) && _) = true
      rw [decide_eq_true (by rw [hz]; omega), Bool.true_and]
      refine List.all_eq_true.mpr fun x hx => ?_
      have hx' : x ∈ midS l s (s + runTo (inS signs37) 3000 (l.drop s)) := by simpa using hx
      unfold midS at hx'
      rw [Nat.add_sub_cancel_left] at hx'
      have := List.all_eq_true.mp (run_all (p := inS signs37) 3000 (l.drop s)) x hx'
      rw [Array.contains_iff_mem]
      exact Array.mem_toList_iff.mp (of_decide_eq_true this)
    refine ⟨by cases m <;> exact hw, ?_, hl.2⟩
    show 1 + (⟨(midS l s (s + runTo (inS signs37) 3000 (l.drop s))).toArray⟩ : Str).length / 100 + s ≤ _
    rw [hz]
    omega
  · cases h
theorem rdLoop_P {rv : Nat → RdR} {l : List Nat} {m : Nat} (hv : RvP rv l m) : ∀ (f e : Nat) (acc : List K0.D) (d : K0.D) (e2 s : Nat), acc.all (K0.D.plain m) = true → K0.D.sizeL acc + s ≤ e → rdLoop rv l f e acc = .ok (d, e2) → d.plain (m + 1) = true ∧ d.size + s ≤ e2 ∧ e2 ≤ l.length
  | 0, _, _, _, _, _, _, _, h => by cases h
  | f + 1, e, acc, d, e2, s, ha, hs, h => by
    unfold rdLoop at h
    split at h
    · cases h
    · rename_i d1 e1 h1
      obtain ⟨p1, p2, p3⟩ := hv _ _ _ h1
      have ha' : (acc ++ [d1]).all (K0.D.plain m) = true := by rw [List.all_append, ha, List.all_cons, p1]; rfl
      have hsz : K0.D.sizeL (acc ++ [d1]) = K0.D.sizeL acc + d1.size := by rw [sizeL_app]; simp [K0.D.sizeL]
      split at h
      · exact rdLoop_P hv f (e1 + 1) (acc ++ [d1]) d e2 s ha' (by omega) h
      · split at h
        · rename_i h41
          cases h
          have := get_lt h41
          refine ⟨ha', ?_, by omega⟩
          simp only [K0.D.size]
          omega
        · cases h
theorem rdV_P1 {l : List Nat} {m : Nat} (ih : 0 < m → RvP (rdV l (m - 1)) l (m - 1)) : RvP (rdV l m) l m := fun s d e h => by
  rw [rdV_eq] at h
  split at h
  · rename_i h1
    cases h
    have := get_lt h1
    exact ⟨by cases m <;> rfl, by show 1 + s ≤ _; omega, by omega⟩
  · split at h
    · have := rdS_P (m := m) h
      exact ⟨this.1, by omega, this.2.2⟩
    · split at h
      · rename_i h40
        have ih' := ih h40.2
        have em : m - 1 + 1 = m := by omega
        unfold rdTup at h
        split at h
        · rename_i h41
          cases h
          have := get_lt h41
          refine ⟨?_, by show 1 + 0 + s ≤ _; omega, by omega⟩
          rw [← em]
          rfl
        · have := rdLoop_P ih' _ _ _ _ _ (s + 1) rfl (by simp [K0.D.sizeL]) h
          rw [em] at this
          exact ⟨this.1, by omega, this.2.2⟩
      · exact rdOther_P h
theorem rdV_P (l : List Nat) : ∀ m, RvP (rdV l m) l m
  | 0 => rdV_P1 fun h => absurd h (by decide)
  | m + 1 => rdV_P1 fun _ => rdV_P l m
theorem rdAll_P {l : List Nat} {d : K0.D} (h : rdAll l = .ok d) : d.plain 12 = true ∧ d.size ≤ l.length := by
  unfold rdAll at h
  split at h
  · cases h
  · rename_i d' e hr
    split at h
    · cases h
    · cases h
      obtain ⟨h1, h2, h3⟩ := rdV_P l 12 _ _ _ hr
      exact ⟨h1, by omega⟩
theorem rdAll_E {l : List Nat} {e : Nat} (h : rdAll l = .error e) : True := trivial
/-! ### plain data: how it is shown, that it is fine -/
theorem word_low {z : Str} (h : D.word signs37 3000 (.str z) = true) : ∀ c ∈ z.cps.toList, c < 128 := fun c hc => by
  have h2 := Bool.and_eq_true_iff.mp (show (decide ((z.length : Int) ≤ 3000) && z.cps.toList.all signs37.cps.contains) = true from h)
  have := List.all_eq_true.mp h2.2 c hc
  rw [Array.contains_iff_mem] at this
  exact of_decide_eq_true (List.all_eq_true.mp (show signs37.cps.toList.all (fun c => decide (c < 128)) = true by decide +kernel) c (Array.mem_toList_iff.mpr this))
mutual
theorem plain_facts : ∀ (d : K0.D) (n : Nat), d.plain n = true → d.clean = true ∧ d.py.canLay0 = true ∧ d.py.depth ≤ n + 1 ∧ d.py.showable = true ∧ d.py.shown.length + 2 ≤ 1005 * d.size
  | .non, n, _ => ⟨rfl, rfl, Nat.zero_le _, rfl, by show 4 + 2 ≤ 1005 * 1; decide⟩
  | .bl b, n, h => by cases n <;> cases h
  | .oth, n, h => by cases n <;> cases h
  | .int i, n, h => by
    have h1 : numB i = true := by cases n <;> exact h
    have hn := num_len h1
    exact ⟨rfl, rfl, Nat.zero_le _, decide_eq_true hn.2, by show (Str.ofString (toString i)).length + 2 ≤ 1005 * 1; omega⟩
  | .str z, n, h => by
    have hw : D.word signs37 3000 (.str z) = true := by cases n <;> exact h
    have hl := word_low hw
    refine ⟨rfl, ?_, Nat.zero_le _, rfl, ?_⟩
    · show z.cps.all (· < 0x110000) = true
      rw [← Array.all_toList]
      exact List.all_eq_true.mpr fun c hc => decide_eq_true (by have := hl c hc; omega)
    · have := PySem.StrLaws.reprText_len z fun c hc => by have := hl c hc; omega
      show (reprText z).length + 2 ≤ 1005 * (1 + z.length / 100)
      omega
  | .tup ds, n, h => by
    cases n with
    | zero => cases h
    | succ n =>
      obtain ⟨a, b, c, e, f⟩ := plains_facts ds n h
      refine ⟨a, b, by show PyData.depthAll (K0.D.pyL ds) + 1 ≤ n + 1 + 1; omega, e, ?_⟩
      have := tupleText_len_le (PyData.shownAll (K0.D.pyL ds))
      show (tupleText (PyData.shownAll (K0.D.pyL ds))).length + 2 ≤ 1005 * (K0.D.tup ds).size
      simp only [K0.D.size]
      omega
theorem plains_facts : ∀ (ds : List K0.D) (n : Nat), ds.all (K0.D.plain n) = true → K0.D.cleanL ds = true ∧ PyData.canLayAll0 (K0.D.pyL ds) = true ∧ PyData.depthAll (K0.D.pyL ds) ≤ n + 1 ∧ PyData.showableAll (K0.D.pyL ds) = true ∧
    ((PyData.shownAll (K0.D.pyL ds)).map (·.length)).sum + 2 * (PyData.shownAll (K0.D.pyL ds)).length ≤ 1005 * K0.D.sizeL ds
  | [], n, _ => ⟨rfl, rfl, Nat.zero_le _, rfl, Nat.zero_le _⟩
  | d :: ds, n, h => by
    rw [List.all_cons, Bool.and_eq_true] at h
    obtain ⟨a1, b1, c1, e1, f1⟩ := plain_facts d n h.1
    obtain ⟨a2, b2, c2, e2, f2⟩ := plains_facts ds n h.2
    refine ⟨Bool.and_eq_true_iff.mpr ⟨a1, a2⟩, ?_, ?_, ?_, ?_⟩
    · simp only [K0.D.pyL, PyData.canLayAll0]
      rw [b1, b2]
      rfl
    · simp only [K0.D.pyL, PyData.depthAll]
      exact Nat.max_le.mpr ⟨c1, c2⟩
    · simp only [K0.D.pyL, PyData.showableAll]
      rw [e1, e2]
      rfl
    · simp only [K0.D.pyL, PyData.shownAll, List.map_cons, List.sum_cons, List.length_cons, K0.D.sizeL]
      omega
end
theorem plain_fine {d : K0.D} {n : Nat} (h : d.plain n = true) : d.fine (n + 1) = true := by
  obtain ⟨a, b, c, _⟩ := plain_facts d n h
  unfold K0.D.fine
  rw [a, b, decide_eq_true c]
  rfl
mutual
theorem eqv_eq : ∀ (d e : K0.D) (n m : Nat), d.plain n = true → e.plain m = true → PyData.eqv d.py e.py = true → d = e
  | .bl b, _, n, _, h, _, _ => by cases n <;> cases h
  | .oth, _, n, _, h, _, _ => by cases n <;> cases h
  | _, .bl b, _, m, _, h, _ => by cases m <;> cases h
  | _, .oth, _, m, _, h, _ => by cases m <;> cases h
  | .non, .non, _, _, _, _, _ => rfl
  | .int i, .int j, _, _, _, _, h => by rw [show i = j from by simpa [K0.D.py, PyData.eqv] using h]
  | .str x, .str y, _, _, _, _, h => by rw [show x = y from by simpa [K0.D.py, PyData.eqv] using h]
  | .tup ds, .tup es, n, m, h1, h2, h => by
    cases n with
    | zero => cases h1
    | succ n =>
      cases m with
      | zero => cases h2
      | succ m => rw [eqvs_eq ds es n m h1 h2 h]
  | .non, .int _, _, _, _, _, h => by cases h
  | .non, .str _, _, _, _, _, h => by cases h
  | .non, .tup _, _, _, _, _, h => by cases h
  | .int _, .non, _, _, _, _, h => by cases h
  | .int _, .str _, _, _, _, _, h => by cases h
  | .int _, .tup _, _, _, _, _, h => by cases h
  | .str _, .non, _, _, _, _, h => by cases h
  | .str _, .int _, _, _, _, _, h => by cases h
  | .str _, .tup _, _, _, _, _, h => by cases h
  | .tup _, .non, _, _, _, _, h => by cases h
  | .tup _, .int _, _, _, _, _, h => by cases h
  | .tup _, .str _, _, _, _, _, h => by cases h
theorem eqvs_eq : ∀ (ds es : List K0.D) (n m : Nat), ds.all (K0.D.plain n) = true → es.all (K0.D.plain m) = true → PyData.eqvAll (K0.D.pyL ds) (K0.D.pyL es) = true → ds = es
  | [], [], _, _, _, _, _ => rfl
  | d :: ds, e :: es, n, m, h1, h2, h => by
    rw [List.all_cons, Bool.and_eq_true] at h1 h2
    have h' := Bool.and_eq_true_iff.mp (show (PyData.eqv d.py e.py && PyData.eqvAll (K0.D.pyL ds) (K0.D.pyL es)) = true from h)
    rw [eqv_eq d e n m h1.1 h2.1 h'.1, eqvs_eq ds es n m h1.2 h2.2 h'.2]
  | [], _ :: _, _, _, _, _, h => by cases h
  | _ :: _, [], _, _, _, _, h => by cases h
end
/-- unlike values, unlike texts -/
theorem text_eqv {d e : K0.D} (hd : d.plain 12 = true) (he : e.plain 12 = true) : decide (V.str (textD d) = V.str (textD e)) = PyData.eqv d.py e.py := by
  by_cases h : d = e
  · subst h
    rw [decide_eq_true rfl, eqv_self d (plain_facts d 12 hd).1]
  · rw [decide_eq_false (fun z => h (text_inj hd he (V.str.inj z)))]
    cases q : PyData.eqv d.py e.py with
    | true => exact absurd (eqv_eq d e 12 12 hd he q) h
    | false => rfl
end K0

namespace K0
open PySem L2 Evl
/-! ### k02's own reader of numbers (mathematics) -/
def numStop (l : List Nat) (s : Nat) : Nat := if l[numAt l s]? = some 48 then numAt l s + 1 else numAt l s + runTo (inS digits10) 61 (l.drop (numAt l s))
def neg0 (l : List Nat) (s : Nat) : Bool := decide (l[s]? = some 45) && decide (l[numAt l s]? = some 48)
def numBad (l : List Nat) (s : Nat) : Bool := decide (numStop l s = numAt l s) || (decide (numStop l s = numAt l s + 61) || neg0 l s)
theorem run_short {p : Nat → Bool} : ∀ (m : Nat) (r : List Nat), runTo p (m + 1) r ≤ m → runTo p m r = runTo p (m + 1) r
  | 0, r, h => by
    have : runTo p 1 r = 0 := Nat.le_zero.mp h
    rw [this]
    cases r <;> rfl
  | m + 1, [], _ => rfl
  | m + 1, c :: r, h => by
    have h' : (if p c then 1 + runTo p (m + 1) r else 0) ≤ m + 1 := h
    show (if p c then 1 + runTo p m r else 0) = (if p c then 1 + runTo p (m + 1) r else 0)
    split
    · rename_i hc
      rw [if_pos hc] at h'
      rw [run_short m r (by omega)]
    · rfl
theorem rdN_no {l : List Nat} {s : Nat} {f : Str} (h : ∀ c, l[s]? = some c → inS f c = false) : rdN l f s = .error s := by
  unfold rdN
  cases hc : l[s]? with
  | none => rfl
  | some c =>
    dsimp only
    rw [if_neg (by rw [h c hc]; decide)]
theorem nine_ten {c : Nat} (h : inS digits9 c = true) : inS digits10 c = true ∧ c ≠ 48 := by
  have h1 : c ∈ digits9.cps.toList := of_decide_eq_true h
  have := List.all_eq_true.mp (show digits9.cps.toList.all (fun c => inS digits10 c && !decide (c = 48)) = true by decide +kernel) c h1
  have h2 := Bool.and_eq_true_iff.mp this
  exact ⟨h2.1, by simpa using h2.2⟩
theorem dgs_of {t : List Nat} (h : t.all (inS digits10) = true) : t.all (fun c => decide (48 ≤ c) && decide (c ≤ 57)) = true := List.all_eq_true.mpr fun c hc => dig_of (List.all_eq_true.mp h c hc)
theorem str_len (t : List Nat) : (⟨t.toArray⟩ : Str).length = t.length := by
  show t.toArray.size = _
  simp
/-- what a number's digits read as, from a place on -/
theorem digits_read {l : List Nat} {a c k : Nat} {f : Str} (hc : l[a]? = some c) (h48 : c ≠ 48) (hf : inS f c = true) (h10 : inS digits10 c = true) (hk : runTo (inS digits10) 61 (l.drop a) = k) (k61 : k ≤ 60) :
    rdN l f a = .ok (PySem.NumText.digitsVal (midS l a (a + k)), a + k) ∧ 1 ≤ k ∧ a + k ≤ l.length ∧ (midS l a (a + k)).all (inS digits10) = true ∧ (midS l a (a + k)).length = k := by
  have hd := drop_cons hc
  have hk' : (if inS digits10 c then 1 + runTo (inS digits10) 60 (l.drop (a + 1)) else 0) = k := by rw [← hk, hd]; rfl
  rw [if_pos h10] at hk'
  have h59 : runTo (inS digits10) 59 (l.drop (a + 1)) = runTo (inS digits10) 60 (l.drop (a + 1)) := run_short 59 _ (by show runTo (inS digits10) 60 _ ≤ 59; omega)
  have hne : rdNe l a c = a + k := by
    unfold rdNe
    rw [if_neg h48, h59]
    omega
  have hle := rdNe_le hc
  rw [hne] at hle
  have hlen : (midS l a (a + k)).length = k := by
    unfold midS
    rw [List.length_take, List.length_drop]
    omega
  refine ⟨?_, by omega, hle.2.1, ?_, hlen⟩
  · unfold rdN
    rw [hc]
    dsimp only
    rw [if_pos hf, hne]
  · unfold midS
    rw [Nat.add_sub_cancel_left, ← hk]
    exact run_all 61 _
theorem num_bad {l : List Nat} {s : Nat} (h : numBad l s = true) : lwOther l s = .error (if decide (numStop l s = numAt l s) || neg0 l s then numAt l s else numAt l s + 60) := by
  unfold lwOther
  by_cases h48 : l[numAt l s]? = some 48
  · have hT : numStop l s = numAt l s + 1 := if_pos h48
    have hm : tooMany l s = false := by unfold tooMany; rw [decide_eq_true h48]; simp
    have hn0 : neg0 l s = true := by
      unfold numBad at h
      rw [hT, decide_eq_false (by omega), decide_eq_false (by omega), Bool.false_or, Bool.false_or] at h
      exact h
    rw [if_neg (by rw [hm]; decide), hn0, Bool.or_true, if_pos rfl]
    have h45 : l[s]? = some 45 := of_decide_eq_true (Bool.and_eq_true_iff.mp hn0).1
    have hA : numAt l s = s + 1 := if_pos h45
    unfold rdOther
    rw [if_pos h45, rdN_no (fun c hc => by rw [hA, hc] at h48; cases h48; decide +kernel), hA]
    rfl
  · have hT : numStop l s = numAt l s + runTo (inS digits10) 61 (l.drop (numAt l s)) := if_neg h48
    have hn0 : neg0 l s = false := by unfold neg0; rw [decide_eq_false h48, Bool.and_false]
    unfold numBad at h
    rw [hn0, Bool.or_false] at h
    rw [hn0, Bool.or_false]
    by_cases h0 : numStop l s = numAt l s
    · rw [decide_eq_true h0, if_pos rfl]
      have r0 : runTo (inS digits10) 61 (l.drop (numAt l s)) = 0 := by omega
      have hm : tooMany l s = false := by unfold tooMany; rw [r0, decide_eq_false (by decide), Bool.false_and]
      rw [if_neg (by rw [hm]; decide)]
      have nod : ∀ c, l[numAt l s]? = some c → inS digits10 c = false := fun c hc => by
        rw [drop_cons hc] at r0
        have r0' : (if inS digits10 c then 1 + runTo (inS digits10) 60 (l.drop (numAt l s + 1)) else 0) = 0 := r0
        cases q : inS digits10 c with
        | true => rw [q, if_pos rfl] at r0'; omega
        | false => rfl
      unfold rdOther
      by_cases h45 : l[s]? = some 45
      · have hA : numAt l s = s + 1 := if_pos h45
        rw [if_pos h45, rdN_no (fun c hc => by
          cases q : inS digits9 c with
          | true => have := nod c (by rw [hA]; exact hc); rw [(nine_ten q).1] at this; cases this
          | false => rfl), hA]
        rfl
      · have hA : numAt l s = s := if_neg h45
        rw [if_neg h45, rdN_no (fun c hc => nod c (by rw [hA]; exact hc)), hA]
        rfl
    · rw [decide_eq_false h0, Bool.false_or] at h
      have h61 := of_decide_eq_true h
      have hm : tooMany l s = true := by
        unfold tooMany
        rw [decide_eq_true (show runTo (inS digits10) 61 (l.drop (numAt l s)) = 61 by omega), decide_eq_false h48]
        rfl
      rw [if_pos hm, decide_eq_false h0, if_neg (by decide)]
theorem num_good {l : List Nat} {s : Nat} (h : numBad l s = false) : ∃ n : Int, lwOther l s = .ok (.int n, numStop l s) ∧ PySem.intText? ⟨(midS l s (numStop l s)).toArray⟩ = some n ∧ (midS l s (numStop l s)).length ≤ 61 ∧ numStop l s ≤ l.length := by
  have hb := Bool.or_eq_false_iff.mp h
  have hb2 := Bool.or_eq_false_iff.mp hb.2
  have t0 := of_decide_eq_false hb.1
  have t61 := of_decide_eq_false hb2.1
  have hm : tooMany l s = false := by
    unfold tooMany
    by_cases h48 : l[numAt l s]? = some 48
    · rw [decide_eq_true h48]; simp
    · have hT : numStop l s = numAt l s + runTo (inS digits10) 61 (l.drop (numAt l s)) := if_neg h48
      rw [decide_eq_false (by omega), Bool.false_and]
  unfold lwOther
  rw [if_neg (by rw [hm]; decide)]
  by_cases h48 : l[numAt l s]? = some 48
  · have h45 : ¬ l[s]? = some 45 := fun z => by
      have := hb2.2
      unfold neg0 at this
      rw [decide_eq_true z, decide_eq_true h48] at this
      cases this
    have hA : numAt l s = s := if_neg h45
    have hT : numStop l s = s + 1 := by rw [show numStop l s = numAt l s + 1 from if_pos h48, hA]
    rw [hA] at h48
    have hmid : midS l s (s + 1) = [48] := by
      unfold midS
      rw [Nat.add_sub_cancel_left, drop_cons h48]
      rfl
    refine ⟨0, ?_, ?_, ?_, ?_⟩
    · unfold rdOther
      rw [if_neg h45]
      unfold rdN
      rw [h48]
      dsimp only
      rw [if_pos (by decide +kernel), show rdNe l s 48 = s + 1 from if_pos rfl, hmid, hT]
      rfl
    · rw [hT, hmid]
      decide +kernel
    · rw [hT, hmid]
      decide
    · rw [hT]
      exact get_lt h48
  · have hT : numStop l s = numAt l s + runTo (inS digits10) 61 (l.drop (numAt l s)) := if_neg h48
    generalize hk : runTo (inS digits10) 61 (l.drop (numAt l s)) = k at hT
    have hk61 := (runTo_le (p := inS digits10) 61 (l.drop (numAt l s))).2
    obtain ⟨c, hc⟩ : ∃ c, l[numAt l s]? = some c := by
      cases hc : l[numAt l s]? with
      | some c => exact ⟨c, rfl⟩
      | none =>
        rw [List.drop_eq_nil_of_le (List.getElem?_eq_none_iff.mp hc)] at hk
        have : k = 0 := by rw [← hk]; rfl
        omega
    have h10 : inS digits10 c = true := by
      cases q : inS digits10 c with
      | true => rfl
      | false =>
        rw [drop_cons hc] at hk
        have hk' : (if inS digits10 c then 1 + runTo (inS digits10) 60 (l.drop (numAt l s + 1)) else 0) = k := hk
        rw [q, if_neg (by decide)] at hk'
        omega
    have c48 : c ≠ 48 := fun z => h48 (by rw [hc, z])
    have dg := Bool.and_eq_true_iff.mp (dig_of h10)
    have c1 := of_decide_eq_true dg.1
    have c2 := of_decide_eq_true dg.2
    by_cases h45 : l[s]? = some 45
    · have hA : numAt l s = s + 1 := if_pos h45
      obtain ⟨g1, g2, g3, g4, g5⟩ := digits_read hc c48 (dig9_in (by omega) c2) h10 hk (by omega)
      rw [hA] at g1 g3 g4 g5 hT
      have hmid : midS l s (numStop l s) = 45 :: midS l (s + 1) (s + 1 + k) := by
        rw [hT]
        unfold midS
        rw [drop_cons h45, show s + 1 + k - s = k + 1 by omega, List.take_succ_cons, show s + 1 + k - (s + 1) = k by omega]
      refine ⟨-((PySem.NumText.digitsVal (midS l (s + 1) (s + 1 + k)) : Nat) : Int), ?_, ?_, ?_, ?_⟩
      · unfold rdOther
        rw [if_pos h45, g1, hT]
        rfl
      · rw [hmid]
        refine PySem.intText_neg (cs := midS l (s + 1) (s + 1 + k)) rfl (fun c hc => ?_) (by intro z; rw [z] at g5; simp at g5; omega) (by rw [str_len, List.length_cons, g5]; omega)
        have z := List.all_eq_true.mp (dgs_of g4) c hc
        rw [Bool.and_eq_true, decide_eq_true_eq, decide_eq_true_eq] at z
        exact z
      · rw [hmid, List.length_cons, g5]
        omega
      · omega
    · have hA : numAt l s = s := if_neg h45
      obtain ⟨g1, g2, g3, g4, g5⟩ := digits_read (f := digits10) hc c48 h10 h10 hk (by omega)
      rw [hA] at g1 g3 g4 g5 hT
      refine ⟨((PySem.NumText.digitsVal (midS l s (s + k)) : Nat) : Int), ?_, ?_, ?_, ?_⟩
      · unfold rdOther
        rw [if_neg h45, g1, hT]
        rfl
      · rw [hT]
        exact SX.int_S (dgs_of g4) (by intro z; rw [z] at g5; simp at g5; omega) (by rw [g5]; omega)
      · rw [hT, g5]
        omega
      · omega
/-- the text of a sign and a digit -/
theorem neg_text (l : List Nat) (s : Nat) : decide (V.str ⟨(midS l s (numAt l s + 1)).toArray⟩ = V.str "-0") = neg0 l s := by
  have e0 : ("-0" : Str) = ⟨[45, 48].toArray⟩ := by decide +kernel
  rw [e0]
  have key : decide (V.str ⟨(midS l s (numAt l s + 1)).toArray⟩ = V.str ⟨[45, 48].toArray⟩) = decide (midS l s (numAt l s + 1) = [45, 48]) := by
    by_cases h : midS l s (numAt l s + 1) = [45, 48]
    · rw [h, decide_eq_true rfl, decide_eq_true rfl]
    · rw [decide_eq_false h, decide_eq_false (fun z => h (by have := congrArg (fun q : Str => q.cps.toList) (V.str.inj z); simpa using this))]
  rw [key]
  unfold neg0
  by_cases h45 : l[s]? = some 45
  · have hA : numAt l s = s + 1 := if_pos h45
    rw [decide_eq_true h45, Bool.true_and, hA]
    unfold midS
    rw [drop_cons h45, show s + 1 + 1 - s = 1 + 1 by omega, List.take_succ_cons]
    cases hc : l[s + 1]? with
    | none =>
      rw [List.drop_eq_nil_of_le (List.getElem?_eq_none_iff.mp hc)]
      rfl
    | some c =>
      rw [drop_cons hc, List.take_succ_cons, List.take_zero]
      by_cases q : c = 48
      · rw [q]; rfl
      · rw [decide_eq_false (by intro z; cases z; exact q rfl), decide_eq_false (by intro z; exact q (Option.some.inj z))]
  · have hA : numAt l s = s := if_neg h45
    rw [decide_eq_false h45, Bool.false_and, hA]
    refine decide_eq_false fun z => ?_
    have := congrArg List.length z
    unfold midS at this
    rw [List.length_take] at this
    simp only [List.length_cons, List.length_nil] at this
    omega
end K0

namespace K0
open PySem L2 Evl
/-! ### k02's own reader: the defs -/
def PairQ (K : PySem.W.Frag) (r : RdR) (H : Hp) (Q : VK) : Prop := match r with
  | .ok (d, e) => RetR K (.tup [d, .int (e : Int)]) H Q
  | .error e => RetR K (.tup [.non, .int (e : Int)]) H Q
def TripQ (K : PySem.W.Frag) (r : RdR) (H : Hp) (Q : VK) : Prop := match r with
  | .ok (d, e) => RetR K (.tup [.bl true, d, .int (e : Int)]) H Q
  | .error e => RetR K (.tup [.bl false, .non, .int (e : Int)]) H Q
section
variable {K : PySem.W.Frag} {σ : L2.St} {H H' : Hp} {t1 t2 t3 t4 : TT} {p : Nat → Bool} {l : List Nat} {e s M : Nat} {r : RdR} {Q : VK}
theorem PairQ.ex (x : Ex H H') (h : PairQ K r H Q) : PairQ K r H' Q := by
  cases r with
  | error e => exact RetR.ex x h
  | ok q => obtain ⟨d, e⟩ := q; exact RetR.ex x h
theorem TripQ.ex (x : Ex H H') (h : TripQ K r H Q) : TripQ K r H' Q := by
  cases r with
  | error e => exact RetR.ex x h
  | ok q => obtain ⟨d, e⟩ := q; exact RetR.ex x h
theorem et_run4 {b : Bool} (h1 : EvT t1 σ H (decide ((e : Int) < (l.length : Int)))) (h2 : ∀ c, l[e]? = some c → EvT t2 σ H (p c)) (h3 : EvT t3 σ H (decide ((e : Int) < (s : Int) + (M : Int)))) (hs : s ≤ e) (h4 : ∀ c, l[e]? = some c → EvT t4 σ H b) : EvT (tAnd t1 (tAnd t2 (tAnd t3 t4))) σ H (stp p l s M e && b) := by
  cases hc : l[e]? with
  | none =>
    have hl := List.getElem?_eq_none_iff.mp hc
    refine et_is (et_and (a := false) (b := false) (et_is h1 (decide_eq_false (by omega))) fun z => by cases z) ?_
    unfold stp
    rw [hc]
    rfl
  | some c =>
    have hl := get_lt hc
    refine et_is (et_and (a := true) (b := p c && (decide ((e : Int) < (s : Int) + (M : Int)) && b)) (et_is h1 (decide_eq_true (by omega))) fun _ => et_and (h2 c hc) fun _ => et_and h3 fun _ => h4 c hc) ?_
    unfold stp
    rw [hc]
    show (true && (p c && (_ && b))) = ((p c && _) && b)
    rw [Bool.true_and, Bool.and_assoc]
    congr 2
    by_cases q : e - s < M
    · rw [decide_eq_true q, decide_eq_true (by omega)]
    · rw [decide_eq_false q, decide_eq_false (by omega)]
theorem et_run3 (h1 : EvT t1 σ H (decide ((e : Int) < (l.length : Int)))) (h2 : ∀ c, l[e]? = some c → EvT t2 σ H (p c)) (h3 : EvT t3 σ H (decide ((e : Int) < (s : Int) + (M : Int)))) (hs : s ≤ e) : EvT (tAnd t1 (tAnd t2 t3)) σ H (stp p l s M e) := by
  refine et_run h1 h2 (et_is h3 ?_) hs
  by_cases q : (e : Int) < (s : Int) + (M : Int)
  · rw [decide_eq_true q, decide_eq_true (by omega)]
  · rw [decide_eq_false q, decide_eq_false (by omega)]
theorem et_truB {i : Nat} {b : Bool} (h : σ[i]? = some (some (.bl b))) : EvT (fun σ H Q => tVar i σ H fun x H' => ∃ k, TruV K x H' k ∧ Q k H') σ H b := fun H1 e Q q => n_var h ⟨b, rfl, q H1 (Ex.refl _)⟩
end
theorem Rp.trip {K : PySem.W.Frag} {H : Hp} {v : V} {b : Bool} {d : K0.D} {e : Int} (h : Rp K H v (.tup [.bl b, d, .int e])) : ∃ p x, v = .ref p ∧ SqT K H p [.bl b, x, .int e] ∧ Rp K H x d := by
  cases h with
  | tup hs r =>
    cases r with
    | cons h0 r0 =>
      cases h0
      cases r0 with
      | cons h1 r1 =>
        cases r1 with
        | cons h2 r2 =>
          cases h2
          cases r2
          exact ⟨_, _, rfl, hs, h1⟩
theorem lwOther_int {l : List Nat} {s e : Nat} {d : K0.D} (h : lwOther l s = .ok (d, e)) : d ≠ .non := by
  unfold lwOther at h
  split at h
  · cases h
  · unfold rdOther at h
    split at h
    · obtain ⟨n, _, rfl⟩ := rdI_ok h
      intro z
      cases z
    · obtain ⟨n, _, rfl⟩ := rdI_ok h
      intro z
      cases z
theorem rdS_str {l : List Nat} {s e : Nat} {d : K0.D} (h : rdS l s = .ok (d, e)) : d ≠ .non := by
  unfold rdS at h
  simp only at h
  split at h
  · cases h
    intro z
    cases z
  · cases h
section
variable {P : Program} {w : World} {K : PySem.W.Frag} {mg : Str → Option Value} {base : Heap} {A : Ad} {D : Fd}
def sp_law_va_number (K : PySem.W.Frag) : Sp := fun vs H Q _ => ∃ (z : Str) (s : Nat), vs = [.str z, .int (s : Int)] ∧ z.length ≤ 90000 ∧ PairQ K (lwOther z.cps.toList s) H Q
theorem len_law_va_number {vs : List V} {H : Hp} {Q : VK} {E : XK} (h : sp_law_va_number K vs H Q E) : vs.length = 2 := by
  obtain ⟨z, s, rfl, _⟩ := h
  rfl
theorem ok_law_va_number (T : Txt K mg A D) : FnOk P w K mg base CX0 1 A.law_va_number D.law_va_number ["text", "at"] (sp_law_va_number K) := by
  refine T.F_law_va_number.ok sc_law_va_number (fun vs H Q E h => len_law_va_number h) (fun cdv A0 outer s H vs Q E hr h => ?_)
  refine ⟨_, (pss_cons (ps_set (i := 2) sc_law_va_number.nd rfl (Or.inl rfl) (pe_op op_add (pv 1) (pe_callTy call_int1 (by rfl) T.b_int (by decide +kernel) (pa_cons (pe_cmpR op_eq (pe_slice sl_str (pv 0) (po_some (pv 1)) (po_some (pe_op op_add (pv 1) pe_int))) pe_str (nomark _)) pa_nil))))
  (pss_cons (ps_set (i := 3) sc_law_va_number.nd rfl (Or.inl rfl) (pv 2))
  (pss_cons (ps_while PassesOwn.never (PW.pt (pw_and (pt_cmpR op_lt (pv 3) (pe_callB call_len (by rfl) T.b_len (by decide +kernel) (pa_cons (pv 0) pa_nil)) (nomark _)) (pw_and (pt_cmpR op_in_sign (pe_ix ix_str (pv 0) (pv 3) (fun _ _ => rfl)) pe_str (by rfl)) (pw_and (pt_cmpR op_lt (pv 3) (pe_op op_add (pv 2) pe_int) (nomark _)) (pw_and1 (pt_not (PW.pt (pw_and (pt_cmpR op_eq (pv 3) (pe_op op_add (pv 2) pe_int) (nomark _)) (pw_and1 (pt_cmpR op_eq (pe_ix ix_str (pv 0) (pv 2) (fun _ _ => rfl)) pe_str (nomark _))))))))))) (pss_one (ps_set (i := 3) sc_law_va_number.nd rfl (Or.inl rfl) (pe_op op_add (pv 3) pe_int))))
  (pss_cons (ps_if (PW.pt (pw_or (pt_cmpR op_eq (pv 3) (pv 2) (nomark _)) (pw_or (pt_cmpR op_eq (pv 3) (pe_op op_add (pv 2) pe_int) (nomark _)) (pw_or1 (pt_cmpR op_eq (pe_slice sl_str (pv 0) (po_some (pv 1)) (po_some (pe_op op_add (pv 2) pe_int))) pe_str (nomark _)))))) (pss_one (ps_ret (pe_tup (pa_cons pe_non (pa_cons (pe_ifExp (PW.pt (pw_and (pt_cmpR op_ne (pv 3) (pv 2) (nomark _)) (pw_and1 (pt_cmpR op_ne (pe_slice sl_str (pv 0) (po_some (pv 1)) (po_some (pe_op op_add (pv 2) pe_int))) pe_str (nomark _))))) (pe_callB (call_min2 rfl) (by rfl) T.b_min (by decide +kernel) (pa_cons (pv 3) (pa_cons (pe_op op_add (pv 2) pe_int) pa_nil))) (pv 2)) pa_nil))))) pss_nil)
  (pss_one (ps_ret (pe_tup (pa_cons (pe_callTy call_int_str (by rfl) T.b_int (by decide +kernel) (pa_cons (pe_slice sl_str (pv 0) (po_some (pv 1)) (po_some (pv 3))) pa_nil)) (pa_cons (pv 3) pa_nil))))))))), ?_⟩
  obtain ⟨z, s, rfl, hz, k⟩ := h
  have hz1 : z.length ≤ 100000 := by omega
  have hA : numAt z.cps.toList s = s + (if decide (z.cps.toList[s]? = some 45) = true then 1 else 0) := by
    unfold numAt
    by_cases q : z.cps.toList[s]? = some 45
    · rw [if_pos q, if_pos (decide_eq_true q)]
    · rw [if_neg q, if_neg (by rw [decide_eq_false q]; decide)]
      rfl
  refine q_asg (v := .int (numAt z.cps.toList s : Int)) (ev_is (ev_op (ev_var rfl) (ev_cb (ea_cons (ev_is (ev_op (ev_slS (a := s) (b := s + 1) (ev_var rfl) (eo_some (ev_var rfl)) (eo_some (ev_op (ev_var rfl) ev_c rv_I0)) hz1) ev_c (rv_eq rfl)) (congrArg V.bl (by rw [mid_one, show ("-" : Str) = ⟨#[45]⟩ by decide +kernel, ch_eq] : _ = decide (z.cps.toList[s]? = some 45)))) ea_nil) rc_intB) rv_I0) ?_) fun H1 e1 => ?_
  · rw [hA]
    congr 1
    split <;> omega
  refine q_asg (ev_var rfl) fun H2 e2 => ?_
  generalize ha : numAt z.cps.toList s = a
  have hsa : s ≤ a := by rw [← ha]; unfold numAt; split <;> omega
  refine q_while (fun m σ' H' => ∃ e : Nat, σ' = [some (.str z), some (.int (s : Int)), some (.int (a : Int)), some (.int (e : Int))] ∧ Ex H H' ∧ a ≤ e ∧ m = z.cps.toList.length - e ∧
      ((z.cps.toList[a]? = some 48 ∧ e ≤ a + 1) ∨ (¬ z.cps.toList[a]? = some 48 ∧ e + runTo (inS digits10) (61 - (e - a)) (z.cps.toList.drop e) = a + runTo (inS digits10) 61 (z.cps.toList.drop a)))) _
    ⟨a, rfl, e1.trans e2, Nat.le_refl _, rfl, ?_⟩ ?_
  · by_cases q : z.cps.toList[a]? = some 48
    · exact .inl ⟨q, by omega⟩
    · exact .inr ⟨q, by rw [Nat.sub_self]⟩
  rintro m σ' H' ⟨e, rfl, e0, hae, rfl, hh⟩
  refine ⟨stp (inS digits10) z.cps.toList a 61 e && !(decide (e = a + 1) && decide (z.cps.toList[a]? = some 48)), et_run4 (et_test (ev_op (ev_var rfl) (ev_cb (ea_cons (ev_var rfl) ea_nil) (rc_lenSg hz1)) rv_I0)) (fun c hc => et_test (ev_op (ev_op (ev_var rfl) (ev_var rfl) (rv_ixS hz1 (at_sg hc))) ev_c rv_inSg)) (et_test (ev_op (ev_var rfl) (ev_op (ev_var rfl) ev_c rv_I0) rv_I0)) hae (fun c hc => et_not (et_and (et_is (et_test (ev_op (ev_var rfl) (ev_op (ev_var rfl) ev_c rv_I0) (rv_eq rfl))) ?_) fun hq => ?_)), fun hb H3 e3 => ?_, fun hb H3 e3 => ?_⟩
  · by_cases q : e = a + 1
    · rw [decide_eq_true q, q]
      exact decide_eq_true rfl
    · rw [decide_eq_false q]
      exact decide_eq_false fun zz => q (by injection zz with zz; omega)
  · have hq' := of_decide_eq_true hq
    have hl := get_lt hc
    obtain ⟨c0, hc0⟩ : ∃ c0, z.cps.toList[a]? = some c0 := ⟨_, List.getElem?_eq_getElem (by omega)⟩
    refine et_is (et_test (ev_op (ev_op (ev_var rfl) (ev_var rfl) (rv_ixS hz1 (at_sg hc0))) ev_c (rv_eq rfl))) ?_
    rw [show ("0" : Str) = ⟨#[48]⟩ by decide +kernel, show (⟨#[c0]⟩ : Str) = chS (some c0) from rfl, ch_eq, hc0]
  · have h2 := Bool.and_eq_true_iff.mp hb
    obtain ⟨r1, r2⟩ := run_yes h2.1 hae
    refine ⟨_, fun σ2 H3 zz => zz, s_asg (v := .int ((e + 1 : Nat) : Int)) (ev_op (ev_var rfl) ev_c rv_I0) fun H4 e4 => ⟨_, ?_, e + 1, rfl, (e0.trans e3).trans e4, by omega, rfl, ?_⟩⟩
    · omega
    · rcases hh with ⟨h48, he⟩ | ⟨h48, he⟩
      · refine .inl ⟨h48, ?_⟩
        have h3 := h2.2
        rw [decide_eq_true h48, Bool.and_true] at h3
        have : ¬ e = a + 1 := by simpa using h3
        omega
      · exact .inr ⟨h48, by omega⟩
  · have e03 := e0.trans e3
    have hT : e = numStop z.cps.toList s := by
      unfold numStop
      rw [ha]
      rcases hh with ⟨h48, he⟩ | ⟨h48, he⟩
      · rw [if_pos h48]
        by_cases q : e = a + 1
        · exact q
        · have hea : e = a := by omega
          subst hea
          rw [decide_eq_false (by omega), Bool.false_and, Bool.not_false, Bool.and_true] at hb
          unfold stp at hb
          rw [h48] at hb
          dsimp only at hb
          rw [show inS digits10 48 = true by decide +kernel, Nat.sub_self] at hb
          cases hb
      · rw [if_neg h48]
        rw [decide_eq_false h48, Bool.and_false, Bool.not_false, Bool.and_true] at hb
        have := run_no hb
        omega
    have eqI : ∀ x y : Nat, decide (V.int (x : Int) = V.int (y : Int)) = decide (x = y) := fun x y => by
      by_cases q : x = y
      · rw [q, decide_eq_true rfl, decide_eq_true rfl]
      · rw [decide_eq_false q, decide_eq_false fun zz => q (by injection zz with zz; omega)]
    have tNeg : ∀ H4, Ex H3 H4 → Ev (tSl rSlS (tVar 0) (tPart (tVar 1)) (tPart (tOp (rI0 fun i j => V.int (i + j)) (tVar 2) (tC (.int 1))))) [some (.str z), some (.int (s : Int)), some (.int (a : Int)), some (.int (e : Int))] H4 (.str ⟨(midS z.cps.toList s (a + 1)).toArray⟩) := fun H4 _ =>
      ev_slS (a := s) (b := a + 1) (ev_var rfl) (eo_some (ev_var rfl)) (eo_some (ev_op (ev_var rfl) ev_c rv_I0)) hz1
    have nt := neg_text z.cps.toList s
    rw [ha] at nt
    refine q_when (b := numBad z.cps.toList s) (et_is (et_or (et_test (ev_op (ev_var rfl) (ev_var rfl) (rv_eq rfl))) fun _ => et_or (et_test (ev_op (ev_var rfl) (ev_op (ev_var rfl) ev_c rv_I0) (rv_eq rfl))) fun _ => et_test (ev_op (tNeg H3 (Ex.refl _)) ev_c (rv_eq rfl))) ?_) (fun hb4 H4 e4 => ?_) (fun hb4 H4 e4 => ?_)
    · unfold numBad
      rw [nt, ha, ← hT, eqI]
      congr 2
      exact eqI e (a + 61)
    · rw [num_bad hb4] at k
      refine s_retR (d := .tup [.non, .int ((if decide (numStop z.cps.toList s = numAt z.cps.toList s) || neg0 z.cps.toList s then numAt z.cps.toList s else numAt z.cps.toList s + 60 : Nat) : Int)]) (ed_tup (eda_cons (ed_ev ev_c .non) (eda_cons (ed_ev (ev_is (ev_ifv (b := !(decide (numStop z.cps.toList s = numAt z.cps.toList s) || neg0 z.cps.toList s)) (v := .int ((a + 60 : Nat) : Int)) (w := .int (a : Int))
        (et_is (et_and (et_test (ev_op (ev_var rfl) (ev_var rfl) (rv_ne rfl))) fun _ => et_test (ev_op (tNeg H4 e4) ev_c (rv_ne rfl))) ?_) (fun hq => ev_is (ev_cb (ea_cons (ev_var rfl) (ea_cons (ev_op (ev_var rfl) ev_c rv_I0) ea_nil)) rc_min2) ?_) fun _ => ev_var rfl) ?_) (.int _)) eda_nil)) (by simp)) (RetR.ex (e03.trans e4) k)
      · rw [nt, ha, ← hT, eqI]
        cases decide (e = a) <;> cases neg0 z.cps.toList s <;> rfl
      · have hq2 : (decide (numStop z.cps.toList s = numAt z.cps.toList s) || neg0 z.cps.toList s) = false := by simpa using hq
        have hq3 := Bool.or_eq_false_iff.mp hq2
        have h61 : e = a + 61 := by
          unfold numBad at hb4
          rw [hq3.1, hq3.2, Bool.false_or, Bool.or_false, ha, ← hT] at hb4
          exact of_decide_eq_true hb4
        rw [if_pos (by omega)]
        rfl
      · rw [ha]
        cases (decide (numStop z.cps.toList s = a) || neg0 z.cps.toList s) <;> rfl
    · obtain ⟨n, g1, g2, g3, g4⟩ := num_good hb4
      rw [g1] at k
      rw [← hT] at g2 g3 k
      exact s_retR (ed_tup (eda_cons (ed_ev (ev_cb (z := .int n) (ea_cons (ev_slS (a := s) (b := e) (ev_var rfl) (eo_some (ev_var rfl)) (eo_some (ev_var rfl)) hz1) ea_nil) fun H6 _ Q q => ⟨_, n, rfl, g2, by rw [str_len]; omega, q H6 (Ex.refl _)⟩) (.int _)) (eda_cons (ed_ev (ev_var rfl) (.int _)) eda_nil)) (by simp)) (RetR.ex (e03.trans e4) k)
def sp_law_va_string (K : PySem.W.Frag) : Sp := fun vs H Q _ => ∃ (z : Str) (s : Nat), vs = [.str z, .int (s : Int)] ∧ z.length ≤ 90000 ∧ PairQ K (rdS z.cps.toList (s + 1)) H Q
theorem len_law_va_string {vs : List V} {H : Hp} {Q : VK} {E : XK} (h : sp_law_va_string K vs H Q E) : vs.length = 2 := by
  obtain ⟨z, s, rfl, _⟩ := h
  rfl
theorem ok_law_va_string (T : Txt K mg A D) : FnOk P w K mg base CX0 1 A.law_va_string D.law_va_string ["text", "at"] (sp_law_va_string K) := by
  refine T.F_law_va_string.ok sc_law_va_string (fun vs H Q E h => len_law_va_string h) (fun cdv A0 outer s H vs Q E hr h => ?_)
  refine ⟨_, (pss_cons (ps_set (i := 2) sc_law_va_string.nd rfl (Or.inl rfl) (pe_op op_add (pv 1) pe_int))
  (pss_cons (ps_while PassesOwn.never (PW.pt (pw_and (pt_cmpR op_lt (pv 2) (pe_callB call_len (by rfl) T.b_len (by decide +kernel) (pa_cons (pv 0) pa_nil)) (nomark _)) (pw_and (pt_cmpR op_in_sign (pe_ix ix_str (pv 0) (pv 2) (fun _ _ => rfl)) pe_str (by rfl)) (pw_and1 (pt_cmpR op_lt (pv 2) (pe_op op_add (pv 1) pe_int) (nomark _)))))) (pss_one (ps_set (i := 2) sc_law_va_string.nd rfl (Or.inl rfl) (pe_op op_add (pv 2) pe_int))))
  (pss_one (ps_ret (pe_ifExp (pt_cmpR op_eq (pe_slice sl_str (pv 0) (po_some (pv 2)) (po_some (pe_op op_add (pv 2) pe_int))) pe_str (nomark _)) (pe_tup (pa_cons (pe_slice sl_str (pv 0) (po_some (pe_op op_add (pv 1) pe_int)) (po_some (pv 2))) (pa_cons (pe_op op_add (pv 2) pe_int) pa_nil))) (pe_tup (pa_cons pe_non (pa_cons (pv 2) pa_nil)))))))), ?_⟩
  obtain ⟨z, s, rfl, hz, k⟩ := h
  have hz1 : z.length ≤ 100000 := by omega
  refine q_asg (v := .int ((s + 1 : Nat) : Int)) (ev_op (ev_var rfl) ev_c rv_I0) fun H1 e1 => ?_
  refine q_while (fun m σ' H' => ∃ e : Nat, σ' = [some (.str z), some (.int (s : Int)), some (.int (e : Int))] ∧ Ex H H' ∧ s + 1 ≤ e ∧ e + runTo (inS signs37) (3000 - (e - (s + 1))) (z.cps.toList.drop e) = (s + 1) + runTo (inS signs37) 3000 (z.cps.toList.drop (s + 1)) ∧ m = z.cps.toList.length - e) _
    ⟨s + 1, rfl, e1, Nat.le_refl _, by rw [Nat.sub_self], rfl⟩ ?_
  rintro m σ' H' ⟨e, rfl, e0, hs, he, rfl⟩
  refine ⟨stp (inS signs37) z.cps.toList (s + 1) 3000 e, et_run3 (et_test (ev_op (ev_var rfl) (ev_cb (ea_cons (ev_var rfl) ea_nil) (rc_lenSg hz1)) rv_I0)) (fun c hc => et_test (ev_op (ev_op (ev_var rfl) (ev_var rfl) (rv_ixS hz1 (at_sg hc))) ev_c rv_inSg)) (et_is (et_test (ev_op (ev_var rfl) (ev_op (ev_var rfl) ev_c rv_I0) rv_I0)) (by
    by_cases q : (e : Int) < ((s + 1 : Nat) : Int) + ((3000 : Nat) : Int)
    · rw [decide_eq_true q, decide_eq_true (by omega)]
    · rw [decide_eq_false q, decide_eq_false (by omega)])) hs, fun hb H2 e2 => ?_, fun hb H2 e2 => ?_⟩
  · obtain ⟨r1, r2⟩ := run_yes hb hs
    refine ⟨_, fun σ2 H3 zz => zz, s_asg (v := .int ((e + 1 : Nat) : Int)) (ev_op (ev_var rfl) ev_c rv_I0) fun H3 e3 => ⟨_, ?_, e + 1, rfl, (e0.trans e2).trans e3, by omega, by omega, rfl⟩⟩
    omega
  · have r0 := run_no hb
    have hE : e = (s + 1) + runTo (inS signs37) 3000 (z.cps.toList.drop (s + 1)) := by omega
    have e02 := e0.trans e2
    unfold rdS at k
    simp only [← hE] at k
    show tIf _ _ _ _ _ _
    refine n_if (b := decide (z.cps.toList[e]? = some 39)) (et_is (et_test (ev_op (ev_slS (a := e) (b := e + 1) (ev_var rfl) (eo_some (ev_var rfl)) (eo_some (ev_op (ev_var rfl) ev_c rv_I0)) hz1) ev_c (rv_eq rfl))) (by rw [mid_one, show ("'" : Str) = ⟨#[39]⟩ by decide +kernel, ch_eq])) (fun hb3 H3 e3 => ?_) (fun hb3 H3 e3 => ?_)
    · rw [if_pos (of_decide_eq_true hb3)] at k
      exact (ed_tup (K := K) (eda_cons (ed_ev (ev_slS (a := s + 1) (b := e) (ev_var rfl) (eo_some (ev_op (ev_var rfl) ev_c rv_I0)) (eo_some (ev_var rfl)) hz1) (.str _)) (eda_cons (ed_ev (ev_op (ev_var rfl) ev_c rv_I0) (.int _)) eda_nil)) (by simp)) H3 (Ex.refl _) Q (RetR.ex (e02.trans e3) k)
    · rw [if_neg (of_decide_eq_false hb3)] at k
      exact (ed_tup (K := K) (eda_cons (ed_ev ev_c .non) (eda_cons (ed_ev (ev_var rfl) (.int _)) eda_nil)) (by simp)) H3 (Ex.refl _) Q (RetR.ex (e02.trans e3) k)
end
end K0

namespace K0
open PySem L2 Evl
/-! ### k02's own reader: a value; the whole text; its own text -/
theorem lwV_eq (l : List Nat) (m s : Nat) : lwV l m s = if l[s]? = some 46 then .ok (.non, s + 1) else if l[s]? = some 39 then rdS l (s + 1) else if l[s]? = some 40 then (if m = 0 then .error s else rdTup (lwV l (m - 1)) l (s + 1)) else lwOther l s := by
  cases m with
  | zero => rw [if_pos (rfl : (0 : Nat) = 0)]; rfl
  | succ m => rw [if_neg (by omega : ¬ m + 1 = 0)]; rfl
theorem lwV_lt (l : List Nat) (m s : Nat) {d : K0.D} {e : Nat} (h : lwV l m s = .ok (d, e)) : s < e ∧ e ≤ l.length ∧ d.clean = true := by
  rcases lw_rel l m s with z | ⟨_, _, _, _, z, _⟩
  · rw [z] at h
    exact rdV_ok m s d e h
  · rw [z] at h
    cases h
section
variable {P : Program} {w : World} {K : PySem.W.Frag} {mg : Str → Option Value} {base : Heap} {A : Ad} {D : Fd}
def sp_law_va_read (K : PySem.W.Frag) (m : Nat) : Sp := fun vs H Q _ => ∃ (z : Str) (s : Nat), vs = [.str z, .int (s : Int), .int (m : Int)] ∧ z.length ≤ 90000 ∧ s ≤ z.cps.toList.length ∧ TripQ K (lwV z.cps.toList m s) H Q
theorem lwread_core {m n : Nat} {spT : Sp} (T : Txt K mg A D) (hn : 4 ≤ n) (G_law_va_read : FnOk P w K mg base CX0 n A.law_va_read D.law_va_read ["text", "at", "deep"] spT) (hT : 0 < m → ∀ vs H Q E, sp_law_va_read K (m - 1) vs H Q E → spT vs H Q E) :
    FnOk P w K mg base CX0 (n + 1) A.law_va_read D.law_va_read ["text", "at", "deep"] (sp_law_va_read K m) := by
  have G_law_va_string : FnOk P w K mg base CX0 1 A.law_va_string D.law_va_string ["text", "at"] (sp_law_va_string K) := ok_law_va_string T
  have G_law_va_number : FnOk P w K mg base CX0 1 A.law_va_number D.law_va_number ["text", "at"] (sp_law_va_number K) := ok_law_va_number T
  refine T.F_law_va_read.ok sc_law_va_read (fun vs H Q E h => by obtain ⟨z, s, rfl, _⟩ := h; rfl) (fun cdv A0 outer st H vs Q E hr h => ?_)
  refine ⟨_, (pss_cons (ps_set (i := 3) sc_law_va_read.nd rfl (Or.inl rfl) (pe_slice sl_str (pv 0) (po_some (pv 1)) (po_some (pe_op op_add (pv 1) pe_int))))
  (pss_cons (ps_if (pt_cmpR op_eq (pv 3) pe_str (nomark _)) (pss_one (ps_ret (pe_tup (pa_cons pe_bl (pa_cons pe_non (pa_cons (pe_op op_add (pv 1) pe_int) pa_nil)))))) pss_nil)
  (pss_cons (ps_if (pt_cmpR op_ne (pv 3) pe_str (nomark _)) (pss_cons (ps_asg (pe_ifExp (pt_cmpR op_eq (pv 3) pe_str (nomark _)) (pe_call G_law_va_string (hr.mono (by omega)) rfl T.g_law_va_string T.F_law_va_string.kp T.b_law_va_string .nil pass0 (pa_cons (pv 0) (pa_cons (pv 1) pa_nil))) (pe_call G_law_va_number (hr.mono (by omega)) rfl T.g_law_va_number T.F_law_va_number.kp T.b_law_va_number .nil pass0 (pa_cons (pv 0) (pa_cons (pv 1) pa_nil)))) (pg_tup rfl (pgs_cons (pg_name (i := 4) sc_law_va_read.nd rfl (Or.inl rfl)) (pgs_cons (pg_name (i := 5) sc_law_va_read.nd rfl (Or.inl rfl)) pgs_nil))))
  (pss_one (ps_ret (pe_tup (pa_cons (pe_cmpR op_notN (pv 4) pe_non (nomark _)) (pa_cons (pv 4) (pa_cons (pv 5) pa_nil))))))) pss_nil)
  (pss_cons (ps_if (pt_cmpR op_eq (pv 2) pe_int (nomark _)) (pss_one (ps_ret (pe_tup (pa_cons pe_bl (pa_cons pe_non (pa_cons (pv 1) pa_nil)))))) pss_nil)
  (pss_cons (ps_par (i := 6) (j := 7) (by rfl) sc_law_va_read.nd rfl rfl (by decide) rfl rfl (pa_cons (pe_lst pa_nil) (pa_cons (pe_op op_add (pv 1) pe_int) pa_nil)) (by rfl))
  (pss_cons (ps_if (pt_cmpR op_eq (pe_slice sl_str (pv 0) (po_some (pv 7)) (po_some (pe_op op_add (pv 7) pe_int))) pe_str (nomark _)) (pss_one (ps_ret (pe_tup (pa_cons pe_bl (pa_cons (pe_tup pa_nil) (pa_cons (pe_op op_add (pv 7) pe_int) pa_nil)))))) pss_nil)
  (pss_cons (ps_for PassesOwn.never rfl (pi_range1 rfl T.b_range (pa_cons (pe_callB call_len (by rfl) T.b_len (by decide +kernel) (pa_cons (pv 0) pa_nil)) pa_nil)) (pg_name (i := 8) sc_law_va_read.nd rfl (Or.inl rfl)) (pss_cons (ps_asg (pe_call G_law_va_read (hr.mono (by omega)) rfl T.g_law_va_read T.F_law_va_read.kp T.b_law_va_read .nil pass0 (pa_cons (pv 0) (pa_cons (pv 7) (pa_cons (pe_op op_sub (pv 2) pe_int) pa_nil)))) (pg_tup rfl (pgs_cons (pg_name (i := 9) sc_law_va_read.nd rfl (Or.inl rfl)) (pgs_cons (pg_name (i := 4) sc_law_va_read.nd rfl (Or.inl rfl)) (pgs_cons (pg_name (i := 7) sc_law_va_read.nd rfl (Or.inl rfl)) pgs_nil)))))
  (pss_cons (ps_if (pt_not (pt_truth (pv 9) (by intro _; rfl))) (pss_one (ps_ret (pe_tup (pa_cons pe_bl (pa_cons pe_non (pa_cons (pv 7) pa_nil)))))) pss_nil)
  (pss_cons (ps_expr (pe_bm PySem.F.plainAttrs_list PySem.F.slot_list_append PySem.F.type_list_append mt_append (pv 6) (pa_cons (pv 4) pa_nil)))
  (pss_cons (ps_if (pt_cmpR op_eq (pe_slice sl_str (pv 0) (po_some (pv 7)) (po_some (pe_op op_add (pv 7) pe_int))) pe_str (nomark _)) (pss_one (ps_ret (pe_tup (pa_cons pe_bl (pa_cons (pe_callTy call_tuple_of (by rfl) T.b_tuple (by decide +kernel) (pa_cons (pv 6) pa_nil)) (pa_cons (pe_op op_add (pv 7) pe_int) pa_nil)))))) pss_nil)
  (pss_cons (ps_if (pt_cmpR op_ne (pe_slice sl_str (pv 0) (po_some (pv 7)) (po_some (pe_op op_add (pv 7) pe_int))) pe_str (nomark _)) (pss_one (ps_ret (pe_tup (pa_cons pe_bl (pa_cons pe_non (pa_cons (pv 7) pa_nil)))))) pss_nil)
  (pss_one (ps_set (i := 7) sc_law_va_read.nd rfl (Or.inl rfl) (pe_op op_add (pv 7) pe_int)))))))))
  (pss_one (ps_ret (pe_tup (pa_cons pe_bl (pa_cons pe_non (pa_cons (pv 7) pa_nil))))))))))))), ?_⟩
  obtain ⟨z, s, rfl, hz, hs, k⟩ := h
  have hz1 : z.length ≤ 100000 := by omega
  have hzl : z.cps.toList.length = z.length := by simp [Str.length]
  rw [lwV_eq] at k
  refine q_asg (ev_is (ev_slS (a := s) (b := s + 1) (ev_var rfl) (eo_some (ev_var rfl)) (eo_some (ev_op (ev_var rfl) ev_c rv_I0)) hz1) (by rw [mid_one])) fun H1 e1 => ?_
  refine q_when (et_sg (c := 46) rfl (by decide +kernel)) (fun hb H2 e2 => ?_) (fun hb H2 e2 => ?_)
  · rw [if_pos (of_decide_eq_true hb)] at k
    exact s_retR (ed_tup (eda_cons (ed_ev ev_c (.bl _)) (eda_cons (ed_ev ev_c .non) (eda_cons (ed_ev (ev_op (ev_var rfl) ev_c rv_I0) (.int _)) eda_nil))) (by simp)) (RetR.ex (e1.trans e2) k)
  rw [if_neg (of_decide_eq_false hb)] at k
  have e02 := e1.trans e2
  refine q_when (et_sgN (c := 40) rfl (by decide +kernel)) (fun hb3 H3 e3 => ?_) (fun hb3 H3 e3 => ?_)
  · have n40 : ¬ z.cps.toList[s]? = some 40 := by simpa using hb3
    have e03 := e02.trans e3
    -- what a pair tells, as a triple
    have go : ∀ (r : RdR) (v : V) (H5 : Hp), Ex H H5 → TripQ K r H Q → (∀ d e, r = .ok (d, e) → d ≠ .non) → (∀ d e, r = .ok (d, e) → Rp K H5 v (.tup [d, .int (e : Int)])) → (∀ e, r = .error e → Rp K H5 v (.tup [.non, .int (e : Int)])) →
        gTup K 2 (gCons (gName 4) (gCons (gName 5) gNil)) v [some (.str z), some (.int (s : Int)), some (.int (m : Int)), some (.str (chS z.cps.toList[s]?)), none, none, none, none, none, none] H5 fun σ2 H6 =>
          tRet (tTup (tCons (tOp (fun x y H Q => y = .non ∧ Q (.bl (!decide (x = .non))) H) (tVar 4) (tC .non)) (tCons (tVar 4) (tCons (tVar 5) tNil)))) { nx := fun _ H' => Q .non H', rt := Q } σ2 H6 := fun r v H5 e5 k nn ho he => by
      cases r with
      | error e =>
        obtain ⟨p, x, rfl, hp, hx⟩ := (he e rfl).pair
        cases hx
        refine ⟨p, _, rfl, hp, rfl, _, _, rfl, _, _, rfl, rfl, ?_⟩
        exact s_retR (ed_tup (eda_cons (ed_ev (v := .bl false) (ev_is (ev_op (ev_var rfl) ev_c (z := .bl (!decide (V.non = V.non))) fun H1 _ Q q => ⟨rfl, q H1 (Ex.refl _)⟩) rfl) (.bl _)) (eda_cons (ed_ev (ev_var rfl) .non) (eda_cons (ed_ev (ev_var rfl) (.int _)) eda_nil))) (by simp)) (RetR.ex e5 k)
      | ok q =>
        obtain ⟨d, e⟩ := q
        obtain ⟨p, x, rfl, hp, hx⟩ := (ho d e rfl).pair
        have hd := nn d e rfl
        have hxn : x ≠ .non := fun z => by rw [z] at hx; cases hx; exact hd rfl
        refine ⟨p, _, rfl, hp, rfl, _, _, rfl, _, _, rfl, rfl, ?_⟩
        exact s_retR (ed_tup (eda_cons (ed_ev (v := .bl true) (ev_is (ev_op (ev_var rfl) ev_c (z := .bl (!decide (x = V.non))) fun H1 _ Q q => ⟨rfl, q H1 (Ex.refl _)⟩) (by rw [decide_eq_false hxn]; rfl)) (.bl _)) (eda_cons (ed_ev (ev_var rfl) hx) (eda_cons (ed_ev (ev_var rfl) (.int _)) eda_nil))) (by simp)) (RetR.ex e5 k)
    refine q_asgG (n_if (et_sg (c := 39) rfl (by decide +kernel)) (fun hb4 H4 e4 => ?_) (fun hb4 H4 e4 => ?_))
    · rw [if_pos (of_decide_eq_true hb4)] at k
      refine c_call (ea_cons (ev_var rfl) (ea_cons (ev_var rfl) ea_nil)) fun H5 e5 => ⟨z, s, rfl, hz, ?_⟩
      generalize hr : rdS z.cps.toList (s + 1) = r at k
      have nn : ∀ d e, r = .ok (d, e) → d ≠ .non := fun d e q => rdS_str (hr.trans q)
      have e05 := (e03.trans e4).trans e5
      cases r with
      | error e => exact fun v H6 e6 hv => go (.error e) v H6 (e05.trans e6) k nn (fun _ _ q => by cases q) fun _ q => by cases q; exact hv
      | ok q =>
        obtain ⟨d, e⟩ := q
        exact fun v H6 e6 hv => go (.ok (d, e)) v H6 (e05.trans e6) k nn (fun _ _ q => by cases q; exact hv) fun _ q => by cases q
    · rw [if_neg (of_decide_eq_false hb4), if_neg n40] at k
      refine c_call (ea_cons (ev_var rfl) (ea_cons (ev_var rfl) ea_nil)) fun H5 e5 => ⟨z, s, rfl, hz, ?_⟩
      generalize hr : lwOther z.cps.toList s = r at k
      have nn : ∀ d e, r = .ok (d, e) → d ≠ .non := fun d e q => lwOther_int (hr.trans q)
      have e05 := (e03.trans e4).trans e5
      cases r with
      | error e => exact fun v H6 e6 hv => go (.error e) v H6 (e05.trans e6) k nn (fun _ _ q => by cases q) fun _ q => by cases q; exact hv
      | ok q =>
        obtain ⟨d, e⟩ := q
        exact fun v H6 e6 hv => go (.ok (d, e)) v H6 (e05.trans e6) k nn (fun _ _ q => by cases q; exact hv) fun _ q => by cases q
  have h40 : z.cps.toList[s]? = some 40 := by simpa using hb3
  have hsl := get_lt h40
  have e03 := e02.trans e3
  rw [if_neg (by rw [h40]; decide), if_pos h40] at k
  refine q_when (b := decide (m = 0)) (et_is (et_test (ev_op (ev_var rfl) ev_c (rv_eq rfl))) (by
    by_cases q : m = 0
    · rw [decide_eq_true q, q]; exact decide_eq_true rfl
    · rw [decide_eq_false q]; exact decide_eq_false fun zz => q (by injection zz with zz; omega))) (fun hb4 H4 e4 => ?_) (fun hb4 H4 e4 => ?_)
  · rw [if_pos (of_decide_eq_true hb4)] at k
    exact s_retR (ed_tup (eda_cons (ed_ev ev_c (.bl _)) (eda_cons (ed_ev ev_c .non) (eda_cons (ed_ev (ev_var rfl) (.int _)) eda_nil))) (by simp)) (RetR.ex (e03.trans e4) k)
  have hm0 := of_decide_eq_false hb4
  rw [if_neg hm0] at k
  have e04 := e03.trans e4
  refine q_par (show tCons (tLst tNil) (tCons (tOp (rI0 fun i j => V.int (i + j)) (tVar 1) (tC (.int 1))) tNil) _ _ _ from ?_)
  refine n_cons (el_lst ea_nil (by decide) H4 (Ex.refl _) _ fun lp H5 hlp e5 h5 => n_cons (ev_op (z := .int ((s + 1 : Nat) : Int)) (ev_var rfl) ev_c rv_I0 H5 (Ex.refl _) _ fun H6 e6 => n_nil ⟨.ref lp, .int ((s + 1 : Nat) : Int), rfl, ?_⟩))
  have h6 := e6 _ _ h5
  have e06 := (e04.trans e5).trans e6
  refine q_when (b := decide (z.cps.toList[s + 1]? = some 41)) (et_is (et_test (ev_op (ev_slS (a := s + 1) (b := s + 1 + 1) (ev_var rfl) (eo_some (ev_var rfl)) (eo_some (ev_op (ev_var rfl) ev_c rv_I0)) hz1) ev_c (rv_eq rfl))) (by rw [mid_one, show (")" : Str) = ⟨#[41]⟩ by decide +kernel, ch_eq])) (fun hb7 H7 e7 => ?_) (fun hb7 H7 e7 => ?_)
  · unfold rdTup at k
    rw [if_pos (of_decide_eq_true hb7)] at k
    exact s_retR (ed_tup (eda_cons (ed_ev ev_c (.bl _)) (eda_cons (ed_tup eda_nil (by simp)) (eda_cons (ed_ev (ev_op (ev_var rfl) ev_c rv_I0) (.int _)) eda_nil))) (by simp)) (RetR.ex (e06.trans e7) k)
  unfold rdTup at k
  rw [if_neg (of_decide_eq_false hb7)] at k
  generalize hR : rdLoop (lwV z.cps.toList (m - 1)) z.cps.toList (z.cps.toList.length + 2) (s + 1) [] = R at k
  have e07 := e06.trans e7
  have hlpH : H lp = none := fresh_back e04 hlp
  refine q_forR1 (n := ((z.cps.toList.length : Nat) : Int)) (ea_cons (ev_cb (ea_cons (ev_var rfl) ea_nil) (rc_lenSg hz1)) ea_nil) (by omega) (fun i σ' H' => ∃ (e f : Nat) (acc : List K0.D) (xs : List V) (v4 v5 v8 v9 : Option V), σ' = [some (.str z), some (.int (s : Int)), some (.int (m : Int)), some (.str (chS z.cps.toList[s]?)), v4, v5, some (.ref lp), some (.int (e : Int)), v8, v9] ∧ Ex H H' ∧ H' lp = some (.lst xs) ∧ RpAll K H' xs acc ∧ K0.D.cleanL acc = true ∧ acc.length ≤ e ∧
      e ≤ z.cps.toList.length ∧ 1 + 2 * i ≤ e ∧ z.cps.toList.length + 2 ≤ f + e ∧ rdLoop (lwV z.cps.toList (m - 1)) z.cps.toList f e acc = R)
    (fun H8 e8 => ⟨s + 1, z.cps.toList.length + 2, [], [], _, _, _, _, rfl, e07.trans e8, (e7.trans e8) _ _ h6, .nil, rfl, Nat.zero_le _, by omega, by omega, by omega, hR⟩) (fun i σ' H' hi g => ?_) (fun σ' H' g => ?_)
  · obtain ⟨e, f, acc, xs, v4, v5, v8, v9, rfl, e0, hl, hra, hca, hla, hel, hie, hfe, hLoop⟩ := g
    obtain ⟨f, rfl⟩ : ∃ g, f = g + 1 := ⟨f - 1, by omega⟩
    refine q_asgG (c_call (ea_cons (ev_var rfl) (ea_cons (ev_var rfl) (ea_cons (ev_op (ev_var rfl) ev_c rv_I0) ea_nil))) fun H8 e8 => hT (by omega) _ _ _ _ ⟨z, e, by show [V.str z, V.int (e : Int), V.int ((m : Int) - 1)] = _; rw [show ((m : Int) - 1) = ((m - 1 : Nat) : Int) by omega], hz, hel, ?_⟩)
    unfold rdLoop at hLoop
    cases hv : lwV z.cps.toList (m - 1) e with
    | error x =>
      rw [hv] at hLoop
      subst hLoop
      intro v H9 e9 hv9
      obtain ⟨p, y, rfl, hp, hy⟩ := hv9.trip
      cases hy
      refine ⟨p, _, rfl, hp, rfl, _, _, rfl, _, _, rfl, _, _, rfl, rfl, ?_⟩
      refine q_when (b := true) (et_is (et_not (et_truB rfl)) rfl) (fun _ H10 e10 => ?_) fun zz => by cases zz
      exact s_retR (ed_tup (eda_cons (ed_ev ev_c (.bl _)) (eda_cons (ed_ev ev_c .non) (eda_cons (ed_ev (ev_var rfl) (.int _)) eda_nil))) (by simp)) (RetR.ex (((e0.trans e8).trans e9).trans e10) k)
    | ok q =>
      obtain ⟨d, e7'⟩ := q
      rw [hv] at hLoop
      simp only at hLoop
      obtain ⟨hlt, hle, hcl⟩ := lwV_lt _ _ _ hv
      intro v H9 e9 hv9
      obtain ⟨p, x, rfl, hp, hx⟩ := hv9.trip
      refine ⟨p, _, rfl, hp, rfl, _, _, rfl, _, _, rfl, _, _, rfl, rfl, ?_⟩
      refine q_when (b := false) (et_is (et_not (et_truB rfl)) rfl) (fun zz => by cases zz) fun _ H10 e10 => ?_
      have hl10 : H10 lp = some (.lst xs) := ((e8.trans e9).trans e10) _ _ hl
      have hr10 := hra.ex ((e8.trans e9).trans e10)
      have hlen := hra.len
      refine q_app hl10 (ev_var rfl) (ev_var rfl) (by omega) fun H11 e11 => ?_
      have hl11 := e11 _ _ hl10
      have hR11 : RpAll K (L2.upd H11 lp (.lst (xs ++ [x]))) (xs ++ [x]) (acc ++ [d]) := ((hr10.ex e11).byT hca fun _ _ g => sqT_lst hl11 g).app (.cons ((hx.ex (e10.trans e11)).byT hcl fun _ _ g => sqT_lst hl11 g) .nil)
      have hE : Ex H (L2.upd H11 lp (.lst (xs ++ [x]))) := ((((e0.trans e8).trans e9).trans e10).trans e11).mut hlpH
      generalize hH : L2.upd H11 lp (.lst (xs ++ [x])) = H12 at hR11 hE
      have hl12 : H12 lp = some (.lst (xs ++ [x])) := by rw [← hH]; exact upd_same
      refine q_when (b := decide (z.cps.toList[e7']? = some 41)) (et_is (et_test (ev_op (ev_slS (a := e7') (b := e7' + 1) (ev_var rfl) (eo_some (ev_var rfl)) (eo_some (ev_op (ev_var rfl) ev_c rv_I0)) hz1) ev_c (rv_eq rfl))) (by rw [mid_one, show (")" : Str) = ⟨#[41]⟩ by decide +kernel, ch_eq])) (fun hb13 H13 e13 => ?_) (fun hb13 H13 e13 => ?_)
      · have h41 := of_decide_eq_true hb13
        rw [if_neg (by rw [h41]; decide), if_pos h41] at hLoop
        subst hLoop
        exact s_retR (ed_tup (eda_cons (ed_ev ev_c (.bl _)) (eda_cons (ed_tupOf (ev_var rfl) (e13 _ _ hl12) (hR11.ex e13)) (eda_cons (ed_ev (ev_op (ev_var rfl) ev_c rv_I0) (.int _)) eda_nil))) (by simp)) (RetR.ex (hE.trans e13) k)
      have h41 := of_decide_eq_false hb13
      refine q_when (b := !decide (z.cps.toList[e7']? = some 44)) (et_is (et_test (ev_op (ev_slS (a := e7') (b := e7' + 1) (ev_var rfl) (eo_some (ev_var rfl)) (eo_some (ev_op (ev_var rfl) ev_c rv_I0)) hz1) ev_c (rv_ne rfl))) (by rw [mid_one, show ("," : Str) = ⟨#[44]⟩ by decide +kernel, ch_eq])) (fun hb14 H14 e14 => ?_) (fun hb14 H14 e14 => ?_)
      · have h44 : ¬ z.cps.toList[e7']? = some 44 := by simpa using hb14
        rw [if_neg h44, if_neg h41] at hLoop
        subst hLoop
        exact s_retR (ed_tup (eda_cons (ed_ev ev_c (.bl _)) (eda_cons (ed_ev ev_c .non) (eda_cons (ed_ev (ev_var rfl) (.int _)) eda_nil))) (by simp)) (RetR.ex ((hE.trans e13).trans e14) k)
      · have h44 : z.cps.toList[e7']? = some 44 := by simpa using hb14
        rw [if_pos h44] at hLoop
        have hlt44 := get_lt h44
        refine s_asg (v := .int ((e7' + 1 : Nat) : Int)) (ev_op (ev_var rfl) ev_c rv_I0) fun H15 e15 => ?_
        have e1215 := (e13.trans e14).trans e15
        exact ⟨e7' + 1, f, acc ++ [d], xs ++ [x], _, _, _, _, rfl, hE.trans e1215, e1215 _ _ hl12, hR11.ex e1215, cleanL_snoc hca hcl, by rw [List.length_append]; simp; omega, by omega, by omega, by omega, hLoop⟩
  · obtain ⟨e, f, acc, xs, v4, v5, v8, v9, rfl, e0, hl, hra, hca, hla, hel, hie, hfe, hLoop⟩ := g
    exfalso
    have : ((z.cps.toList.length : Nat) : Int).toNat = z.cps.toList.length := Int.toNat_natCast _
    rw [this] at hie
    omega
theorem ok_law_va_read (T : Txt K mg A D) : ∀ m, FnOk P w K mg base CX0 (6 + m) A.law_va_read D.law_va_read ["text", "at", "deep"] (sp_law_va_read K m)
  | 0 => lwread_core (n := 5) (spT := noFn) T (by omega) ⟨fun _ _ _ _ h => h.elim, fun _ _ _ _ _ _ _ _ _ _ _ _ _ h => h.elim⟩ fun h => by omega
  | m + 1 => by
    have := lwread_core (m := m + 1) (n := 6 + m) T (by omega) (ok_law_va_read T m) fun _ vs H Q E h => h
    rw [show 6 + m + 1 = 6 + (m + 1) by omega] at this
    exact this
/-- what is told of a text -/
def resD (r : Except Nat K0.D) : K0.D := match r with
  | .ok d => .tup [.str "told", d]
  | .error e => .tup [.str "wrong", .int (e : Int)]
def sp_law_due (K : PySem.W.Frag) : Sp := fun vs H Q _ => ∃ z : Str, vs = [.str z] ∧ z.length ≤ 90000 ∧ RetR K (resD (rdAll z.cps.toList)) H Q
theorem ok_law_due (T : Txt K mg A D) : FnOk P w K mg base CX0 40 A.law_due D.law_due ["text"] (sp_law_due K) := by
  have G_law_va_read := ok_law_va_read (P := P) (w := w) (base := base) T 12
  refine T.F_law_due.ok sc_law_due (fun vs H Q E h => by obtain ⟨z, rfl, _⟩ := h; rfl) (fun cdv A0 outer s H vs Q E hr h => ?_)
  refine ⟨_, (pss_cons (ps_asg (pe_call G_law_va_read (hr.mono (by decide)) rfl T.g_law_va_read T.F_law_va_read.kp T.b_law_va_read .nil pass0 (pa_cons (pv 0) (pa_cons pe_int (pa_cons pe_int pa_nil)))) (pg_tup rfl (pgs_cons (pg_name (i := 1) sc_law_due.nd rfl (Or.inl rfl)) (pgs_cons (pg_name (i := 2) sc_law_due.nd rfl (Or.inl rfl)) (pgs_cons (pg_name (i := 3) sc_law_due.nd rfl (Or.inl rfl)) pgs_nil)))))
  (pss_one (ps_ret (pe_ifExp (PW.pt (pw_and (pt_truth (pv 1) (by intro _; rfl)) (pw_and1 (pt_cmpR op_eq (pv 3) (pe_callB call_len (by rfl) T.b_len (by decide +kernel) (pa_cons (pv 0) pa_nil)) (nomark _))))) (pe_tup (pa_cons pe_str (pa_cons (pv 2) pa_nil))) (pe_tup (pa_cons pe_str (pa_cons (pv 3) pa_nil))))))), ?_⟩
  obtain ⟨z, rfl, hz, k⟩ := h
  have hz1 : z.length ≤ 100000 := by omega
  rw [← lwAll_eq] at k
  unfold lwAll at k
  refine q_asgG (c_call (ea_cons (ev_var rfl) (ea_cons ev_c (ea_cons ev_c ea_nil))) fun H1 e1 => ⟨z, 0, rfl, hz, Nat.zero_le _, ?_⟩)
  cases hv : lwV z.cps.toList 12 0 with
  | error e =>
    rw [hv] at k
    intro v H2 e2 hv2
    obtain ⟨p, y, rfl, hp, hy⟩ := hv2.trip
    cases hy
    refine ⟨p, _, rfl, hp, rfl, _, _, rfl, _, _, rfl, _, _, rfl, rfl, ?_⟩
    show tIf _ _ _ _ _ _
    refine n_if (b := false) (et_is (et_and (a := false) (b := false) (et_truB rfl) fun zz => by cases zz) rfl) (fun zz => by cases zz) fun _ H3 e3 => ?_
    exact (ed_tup (K := K) (eda_cons (ed_ev ev_c (.str _)) (eda_cons (ed_ev (ev_var rfl) (.int _)) eda_nil)) (by simp)) H3 (Ex.refl _) Q (RetR.ex ((e1.trans e2).trans e3) k)
  | ok q =>
    obtain ⟨d, e⟩ := q
    rw [hv] at k
    simp only at k
    intro v H2 e2 hv2
    obtain ⟨p, x, rfl, hp, hx⟩ := hv2.trip
    refine ⟨p, _, rfl, hp, rfl, _, _, rfl, _, _, rfl, _, _, rfl, rfl, ?_⟩
    show tIf _ _ _ _ _ _
    refine n_if (b := decide (e = z.cps.toList.length)) (et_is (et_and (a := true) (b := decide (e = z.cps.toList.length)) (et_truB rfl) fun _ => et_is (et_test (ev_op (ev_var rfl) (ev_cb (ea_cons (ev_var rfl) ea_nil) (rc_lenSg hz1)) (rv_eq rfl))) ?_) (Bool.true_and _)) (fun hb H3 e3 => ?_) fun hb H3 e3 => ?_
    · by_cases q : e = z.cps.toList.length
      · rw [decide_eq_true q, ← q]; exact decide_eq_true rfl
      · rw [decide_eq_false q]; exact decide_eq_false fun zz => q (by injection zz with zz; omega)
    · rw [if_pos (of_decide_eq_true hb)] at k
      exact (ed_tup (K := K) (eda_cons (ed_ev ev_c (.str _)) (eda_cons (ed_ev (ev_var rfl) (hx.ex e3)) eda_nil)) (by simp)) H3 (Ex.refl _) Q (RetR.ex ((e1.trans e2).trans e3) k)
    · rw [if_neg (of_decide_eq_false hb)] at k
      exact (ed_tup (K := K) (eda_cons (ed_ev ev_c (.str _)) (eda_cons (ed_ev (ev_var rfl) (.int _)) eda_nil)) (by simp)) H3 (Ex.refl _) Q (RetR.ex ((e1.trans e2).trans e3) k)
end
end K0

namespace K0
open PySem L2 Evl
/-! ### what draws data -/
def clean1 (d : D) : Prop := d.clean = true
section
variable {K : PySem.W.Frag} {σ : L2.St} {H H' : Hp} {a : Addr} {te : TE} {ta : TA} {M : D → Prop}
def EvX (K : PySem.W.Frag) (a : Addr) (te : TE) (σ : L2.St) (M : D → Prop) : Prop := ∀ H1, DiceAt H1 a → ∀ Q : VK, (∀ v d H2, Bt a H1 H2 → DiceAt H2 a → M d → d.clean = true → Rp K H2 v d → Q v H2) → te σ H1 Q
def EvXA (K : PySem.W.Frag) (a : Addr) (ta : TA) (σ : L2.St) (M : List D → Prop) : Prop := ∀ H1, DiceAt H1 a → ∀ Q : List V → Hp → Prop, (∀ vs ds H2, Bt a H1 H2 → DiceAt H2 a → M ds → D.cleanL ds = true → RpAll K H2 vs ds → Q vs H2) → ta σ H1 Q
theorem Rp.bt {v : V} {d : D} (c : d.clean = true) (h : DiceAt H a) (b : Bt a H H') (r : Rp K H v d) : Rp K H' v d := r.exT c (b.exT h)
theorem RpAll.bt {vs : List V} {ds : List D} (c : D.cleanL ds = true) (h : DiceAt H a) (b : Bt a H H') (r : RpAll K H vs ds) : RpAll K H' vs ds := r.exT c (b.exT h)
theorem x_ev {v : V} {d : D} (h : ∀ H1, Ev te σ H1 v) (r : ∀ H1, Rp K H1 v d) (m : M d) (c : d.clean = true) : EvX K a te σ M := fun H1 d1 Q q => h H1 H1 (Ex.refl _) Q fun H2 e2 => q v d H2 (Bt.of e2) (d1.ex e2) m c (r H2)
theorem x_str {s : Str} (m : M (.str s)) : EvX K a (tC (.str s)) σ M := x_ev (fun _ => ev_c) (fun _ => .str s) m rfl
theorem x_int {i : Int} (m : M (.int i)) : EvX K a (tC (.int i)) σ M := x_ev (fun _ => ev_c) (fun _ => .int i) m rfl
theorem x_neg {i : Int} (m : M (.int (-i))) : EvX K a (tUn (rU fun i => V.int (-i)) (tC (.int i))) σ M := x_ev (fun _ => ev_un ev_c ru_neg) (fun _ => .int _) m rfl
theorem x_non (m : M .non) : EvX K a (tC .non) σ M := x_ev (fun _ => ev_c) (fun _ => .non) m rfl
theorem x_imp {N : D → Prop} (h : EvX K a te σ M) (k : ∀ d, M d → N d) : EvX K a te σ N := fun H1 d1 Q q => h H1 d1 Q fun v d H2 b d2 m c r => q v d H2 b d2 (k d m) c r
theorem xa_nil : EvXA K a tNil σ fun ds => ds = [] := fun H1 d1 Q q => q [] [] H1 Bt.refl d1 rfl rfl .nil
theorem xa_cons {N : List D → Prop} (h : EvX K a te σ M) (r : EvXA K a ta σ N) : EvXA K a (tCons te ta) σ fun ds => ∃ d es, ds = d :: es ∧ M d ∧ N es := fun H1 d1 Q q =>
  h H1 d1 _ fun v d H2 b2 d2 m c hv => r H2 d2 _ fun vs ds H3 b3 d3 n c3 hs => q (v :: vs) (d :: ds) H3 (b2.trans b3) d3 ⟨d, ds, rfl, m, n⟩ (Bool.and_eq_true_iff.mpr ⟨c, c3⟩) (.cons (hv.bt c d2 b3) hs)
/-- all of one kind -/
theorem xl_nil : EvXA K a tNil σ fun ds => (∀ d ∈ ds, M d) ∧ ds.length ≤ 0 := fun H1 d1 Q q => q [] [] H1 Bt.refl d1 ⟨(fun d h => by cases h), Nat.le_refl _⟩ rfl .nil
theorem xl_cons {n : Nat} (h : EvX K a te σ M) (r : EvXA K a ta σ fun ds => (∀ d ∈ ds, M d) ∧ ds.length ≤ n) : EvXA K a (tCons te ta) σ fun ds => (∀ d ∈ ds, M d) ∧ ds.length ≤ n + 1 := fun H1 d1 Q q =>
  h H1 d1 _ fun v d H2 b2 d2 m c hv => r H2 d2 _ fun vs ds H3 b3 d3 n c3 hs => q (v :: vs) (d :: ds) H3 (b2.trans b3) d3 ⟨(fun e he => by
    rcases List.mem_cons.mp he with rfl | he
    · exact m
    · exact n.1 e he), by rw [List.length_cons]; exact Nat.succ_le_succ n.2⟩ (Bool.and_eq_true_iff.mpr ⟨c, c3⟩) (.cons (hv.bt c d2 b3) hs)
theorem x_tup {N : List D → Prop} (h : EvXA K a ta σ N) (k : ∀ ds, N ds → ds.length ≤ 1000 ∧ M (.tup ds)) : EvX K a (tTup ta) σ M := fun H1 d1 Q q =>
  h H1 d1 _ fun vs ds H2 b2 d2 n c hs => ⟨by rw [hs.len]; exact sz_of (by have := (k ds n).1; omega), fun p hp => q (.ref p) (.tup ds) _ (b2.trans (Bt.of (Ex.new hp))) (d2.ex (Ex.new hp)) (k ds n).2 c (.tup (st_of upd_same) (hs.ex (Ex.new hp)))⟩
/-- _law_pick(dice, [..]) -/
theorem x_pick {E : XK} {n : Nat} {tx : TE} (hv : σ[0]? = some (some (.ref a))) (hx : EvX K a tx σ M) (h : EvXA K a ta σ fun ds => (∀ d ∈ ds, M d) ∧ ds.length ≤ n) (hn : n ≤ 1000) : EvX K a (tCall (sp_law_pick K) [] E (tCons (tVar 0) (tCons (tLst (tCons tx ta)) tNil))) σ M := fun H1 d1 Q q => by
  refine d_raw (n_cons (n_var hv (n_cons ?_)))
  refine hx H1 d1 _ fun v d H2 b2 d2 m c hv => h H2 d2 _ fun vs ds H3 b3 d3 n3 c3 hs => ?_
  have rr : RpAll K H3 (v :: vs) (d :: ds) := .cons (hv.bt c d2 b3) hs
  have l3 := hs.len
  refine ⟨sz_of (by rw [List.length_cons]; omega), fun p hp => n_nil ⟨a, p, v :: vs, rfl, d3.ex (Ex.new hp), d3.ne hp, sq_of upd_same, by simp, by rw [List.length_cons]; omega, fun x H4 hx4 b4 d4 => ?_⟩⟩
  obtain ⟨y, hy, ry⟩ := (rr.ex (Ex.new hp)).memI x hx4
  have cy : y.clean = true := by
    rcases List.mem_cons.mp hy with rfl | hy
    · exact c
    · rw [cleanL_all] at c3
      exact List.all_eq_true.mp c3 y hy
  refine q x y H4 (((b2.trans b3).trans (Bt.of (Ex.new hp))).trans b4) d4 ?_ cy (ry.bt cy (d3.ex (Ex.new hp)) b4)
  rcases List.mem_cons.mp hy with rfl | hy
  · exact m
  · exact n3.1 y hy
/-- a def that draws -/
def spDraw (M : D → Prop) (K : PySem.W.Frag) : Sp := fun vs H Q _ => ∃ a, vs = [.ref a] ∧ DiceAt H a ∧ ∀ v d H', Bt a H H' → DiceAt H' a → M d → d.clean = true → Rp K H' v d → Q v H'
theorem spDraw_len {vs : List V} {H : Hp} {Q : VK} {E : XK} (h : spDraw M K vs H Q E) : vs.length = 1 := by
  obtain ⟨a, rfl, _⟩ := h
  rfl
theorem x_draw {E : XK} {i : Nat} (hv : σ[i]? = some (some (.ref a))) : EvX K a (tCall (spDraw M K) [] E (tCons (tVar i) tNil)) σ M := fun H1 d1 Q q => d_raw (n_cons (n_var hv (n_nil ⟨a, rfl, d1, fun v d H2 b d2 m c r => q v d H2 b d2 m c r⟩)))
theorem x_ret {D : Ends} (h : EvX K a te σ M) (hd : DiceAt H a) (k : ∀ v d H2, Bt a H H2 → DiceAt H2 a → M d → d.clean = true → Rp K H2 v d → D.rt v H2) : tRet te D σ H := h H hd _ k
theorem x_asg {D : Ends} {tz : TS} {i : Nat} (h : EvX K a te σ M) (hd : DiceAt H a) (k : ∀ v d H2, Bt a H H2 → DiceAt H2 a → M d → d.clean = true → Rp K H2 v d → tz D (σ.set i (some v)) H2) : tSeq (tAsg te (gName i)) tz D σ H := h H hd _ k
end
/-- [.. for turn in range(n)], each drawn -/
theorem l_draws {K : PySem.W.Frag} {M : D → Prop} {a : Addr} {te : TE} {vs : List Nat} {σ : L2.St} {j n : Nat} {H1 : Hp} {Q : VK} (hd : DiceAt H1 a) (hn : n ≤ 1000) (hw : ∀ x, wipe ((wipe σ vs).set j (some x)) vs = wipe σ vs) (hx : ∀ i : Int, EvX K a te ((wipe σ vs).set j (some (.int i))) M)
    (k : ∀ p xs ds H2, H1 p = none → Bt a H1 H2 → DiceAt H2 a → H2 p = some (.lst xs) → RpAll K H2 xs ds → ds.length = n → (∀ d ∈ ds, M d) → D.cleanL ds = true → Q (.ref p) H2) :
    ∀ D, H1 D = none → ∃ W : Nat → Nat → Hp → Prop, (∃ m, W 0 m (upd H1 D (.lst []))) ∧ ∀ i m H, W i m H →
      ((Itr 0 n).stop i H ∧ Q (.ref D) H) ∨ ((Itr 0 n).go i H ∧ ∃ Nx : Hp → Prop, (∀ H', Nx H' → ∃ m', m' < m ∧ W (i + 1) m' H') ∧ ∀ x H', (Itr 0 n).yld i H x H' → gName j x (wipe σ vs) H' fun σ2 H2 => wipe σ2 vs = wipe σ vs ∧ tYes σ2 H2 fun b H3 =>
        if b = true then te σ2 H3 fun y H4 => ∃ acc, H4 D = some (.lst acc) ∧ acc.length < sizeLine ∧ Nx (upd H4 D (.lst (acc ++ [y]))) else Nx H3) :=
  lc_draws (te := te) (vs := vs) (σ := σ) (j := j) (a := a) (n := n) (R := fun v H => ∃ d, (M d ∧ d.clean = true) ∧ Rp K (hid (some a) H) v d) (Q := Q) (fun v H H' e ⟨d, hm, hr⟩ => ⟨d, hm, hr.exL e⟩) hd hn hw
    (fun i H' _ b d Q q => hx _ H' d Q fun v d' H2 b2 d2 m c r => q v H2 b2 d2 ⟨d', ⟨m, c⟩, r.exT c (exT_hid d2.hidL)⟩) fun Dl xs H' hDl b d h1 h2 h3 => by
    obtain ⟨ds, rr, mm⟩ := rp_those (K := K) (H := H') (xs := xs) fun x hx => by
      obtain ⟨d, hm, hr⟩ := h3 x hx
      exact ⟨d, hm, hr.ex hid_le⟩
    exact k Dl xs ds H' hDl b d h1 rr (by rw [← rr.len, h2]) (fun d hd => (mm d hd).1) (by rw [cleanL_all]; exact List.all_eq_true.mpr fun d hd => (mm d hd).2)
where
  rp_those {K : PySem.W.Frag} {H : Hp} {M : D → Prop} : ∀ {xs : List V}, (∀ x ∈ xs, ∃ d, M d ∧ Rp K H x d) → ∃ ds, RpAll K H xs ds ∧ ∀ d ∈ ds, M d
    | [], _ => ⟨[], .nil, fun d hd => by cases hd⟩
    | x :: xs, h => by
      obtain ⟨d, hm, hr⟩ := h x (List.mem_cons_self ..)
      obtain ⟨ds, r, m⟩ := rp_those (xs := xs) fun y hy => h y (List.mem_cons_of_mem _ hy)
      refine ⟨d :: ds, .cons hr r, fun e he => ?_⟩
      rcases List.mem_cons.mp he with rfl | he
      · exact hm
      · exact m e he
end K0

namespace K0
namespace G
open PySem L2 Evl
/-! ### what draws, once more (generic) -/
section
variable {K : PySem.W.Frag} {σ : L2.St} {H : Hp} {a : Addr} {te : TE} {ta : TA} {M : D → Prop}
theorem n_c {v : V} {Q : VK} (h : Q v H) : tC v σ H Q := h
theorem x_rollOp {E : XK} {g : Int → Int → Int} {b m : Int} (hv : σ[0]? = some (some (.ref a))) (hm : 0 < m ∧ m < 1000000) (h : ∀ r, 0 ≤ r → r < m → M (.int (g b r))) :
    EvX K a (tOp (rI0 fun i j => V.int (g i j)) (tC (.int b)) (tCall (sp_law_roll K) [] E (tCons (tVar 0) (tCons (tC (.int m)) tNil)))) σ M := fun H1 d1 Q q => by
  refine n_op (n_c ?_)
  refine c_call (ea_cons (ev_var hv) (ea_cons ev_c ea_nil)) fun H2 e2 => ⟨a, m, rfl, d1.ex e2, hm.1, hm.2, fun r H3 r0 r1 b3 d3 => ⟨b, r, rfl, rfl, ?_⟩⟩
  exact q _ (.int _) H3 ((Bt.of e2).trans b3) d3 (h r r0 r1) rfl (.int _)
theorem q_forRng {g : TG} {tu tz : TS} {Dn : Ends} {W : Int → Hp → Prop} (h : ∀ Q : List V → Hp → Prop, (∀ n H1, W n H1 → Q [.int n] H1) → ta σ H Q) (k : ∀ n H1, W n H1 → tSeq (tFor (iRng1 (tCons (tC (.int n)) tNil)) g tu) tz Dn σ H1) : tSeq (tFor (iRng1 ta) g tu) tz Dn σ H :=
  h _ fun n H1 hn => k n H1 hn
/-- _law_pick(dice, some), some a list of drawn data -/
theorem x_pickV {E : XK} {i : Nat} {p : Addr} {xs : List V} {ds : List D} {H0 : Hp} {Q : VK} (hv : σ[0]? = some (some (.ref a))) (hp : σ[i]? = some (some (.ref p))) (na : p ≠ a) (hd : DiceAt H0 a) (h : H0 p = some (.lst xs)) (r : RpAll K H0 xs ds) (ne : ds ≠ []) (hl : ds.length ≤ 1000) (hm : ∀ d ∈ ds, M d) (hc : D.cleanL ds = true)
    (q : ∀ v d H2, Bt a H0 H2 → DiceAt H2 a → M d → d.clean = true → Rp K H2 v d → Q v H2) : tCall (sp_law_pick K) [] E (tCons (tVar 0) (tCons (tVar i) tNil)) σ H0 Q := by
  have l3 := r.len
  refine d_raw (n_cons (n_var hv (n_cons (n_var hp (n_nil ⟨a, p, xs, rfl, hd, na, sq_of h, (fun z => ne (by rw [z] at l3; exact List.length_eq_zero_iff.mp l3.symm)), by omega, fun x H4 hx b4 d4 => ?_⟩)))))
  obtain ⟨y, hy, ry⟩ := r.memI x hx
  have cy : y.clean = true := by
    rw [cleanL_all] at hc
    exact List.all_eq_true.mp hc y hy
  exact q x y H4 b4 d4 (hm y hy) cy (ry.bt cy hd b4)
theorem xq_list {Dn : Ends} {tz : TS} {i n : Nat} (hd : DiceAt H a) (hx : EvX K a te σ M) (h : EvXA K a ta σ fun ds => (∀ d ∈ ds, M d) ∧ ds.length ≤ n) (hn : n ≤ 900)
    (k : ∀ p xs ds H2, H p = none → p ≠ a → Bt a H H2 → DiceAt H2 a → H2 p = some (.lst xs) → RpAll K H2 xs ds → (∀ d ∈ ds, M d) → D.cleanL ds = true → ds ≠ [] → ds.length ≤ n + 1 → tz Dn (σ.set i (some (.ref p))) H2) : tSeq (tAsg (tLst (tCons te ta)) (gName i)) tz Dn σ H := by
  refine q_asgX ?_
  refine hx H hd _ fun v d H1 b1 d1 m1 c1 r1 => h H1 d1 _ fun vs ds H2 b2 d2 m c r => ⟨by rw [List.length_cons, r.len]; exact sz_of (by omega), fun p hp => ?_⟩
  have b : Bt a H (L2.upd H2 p (.lst (v :: vs))) := (b1.trans b2).trans (Bt.of (Ex.new hp))
  have np := d2.ne hp
  refine k p (v :: vs) (d :: ds) _ ((b1.trans b2).free np hp) np b (d2.ex (Ex.new hp)) upd_same ((RpAll.cons (r1.bt c1 d1 b2) r).ex (Ex.new hp)) (fun e he => ?_) (Bool.and_eq_true_iff.mpr ⟨c1, c⟩) (by simp) (by rw [List.length_cons]; omega)
  rcases List.mem_cons.mp he with rfl | he
  · exact m1
  · exact m.1 e he
theorem n_test {Q : Bool → Hp → Prop} (h : te σ H fun v H1 => ∃ b, v = .bl b ∧ Q b H1) : tTest te σ H Q := h
theorem n_when {t : TT} {tu tz : TS} {Dn : Ends} (h : t σ H fun b H1 => if b = true then tu { Dn with nx := tz Dn } σ H1 else tz Dn σ H1) : tSeq (tIfS t tu tNext) tz Dn σ H := h
theorem ev_slO {z : Str} {tl th : TO} {lo hi : Option Int} (h : Ev te σ H (.str z)) (h1 : EvO tl σ H lo) (h2 : EvO th σ H hi) (hz : z.length ≤ 100000) : Ev (tSl rSlS te tl th) σ H (.str (cutS z lo hi)) := fun H1 e Q q =>
  h H1 e _ fun H2 e2 => h1 H2 (e.trans e2) _ fun H3 e3 => h2 H3 ((e.trans e2).trans e3) _ fun H4 e4 => ⟨z, rfl, sz_of hz, q H4 ((e2.trans e3).trans e4)⟩
end
theorem cut_to (z : Str) (b : Nat) : (cutS z none (some (b : Int))).length = min b z.length := by
  unfold cutS
  rw [show HT.sIx z.length z.length (some (b : Int)) = min b z.length from HT.sIx_nat _ _ b, show HT.sIx z.length 0 none = 0 from rfl, str_len, List.length_take, List.drop_zero]
  have hl : z.cps.toList.length = z.length := by simp [Str.length]
  omega
theorem cut_from (z : Str) (b : Nat) : (cutS z (some (b : Int)) none).length = z.length - min b z.length := by
  unfold cutS
  rw [show HT.sIx z.length 0 (some (b : Int)) = min b z.length from HT.sIx_nat _ _ b, show HT.sIx z.length z.length none = z.length from rfl, str_len, List.length_take, List.length_drop]
  have hl : z.cps.toList.length = z.length := by simp [Str.length]
  omega
end G
open PySem L2 Evl
/-! ### k02: drawn plain values, spoilt texts -/
def szB : Nat → Nat
  | 0 => 1
  | m + 1 => 1 + 3 * szB m
def MPl (m : Nat) (d : D) : Prop := d.plain (m + 1) = true ∧ d.size ≤ szB m
section
variable {P : Program} {w : World} {K : PySem.W.Frag} {mg : Str → Option Value} {base : Heap} {A : Ad} {D : Fd}
def sp_law_va_plain (K : PySem.W.Frag) (m : Nat) : Sp := fun vs H Q _ => ∃ a, vs = [.ref a, .int (m : Int)] ∧ DiceAt H a ∧ ∀ v d H', Bt a H H' → DiceAt H' a → MPl m d → d.clean = true → Rp K H' v d → Q v H'
theorem plain1 {d : K0.D} {m : Nat} (h : d.plain 1 = true) (hs : d.size ≤ 1) : MPl m d := by
  have up : ∀ k, d.plain (k + 1) = true := fun k => by
    induction k with
    | zero => exact h
    | succ k ih =>
      cases d with
      | tup ds =>
        cases ds with
        | nil => rfl
        | cons x xs =>
          simp only [K0.D.size, K0.D.sizeL] at hs
          have := size_pos x
          omega
      | _ => exact ih
  refine ⟨up m, ?_⟩
  cases m with
  | zero => exact hs
  | succ m => show d.size ≤ 1 + 3 * szB m; omega
where
  size_pos : ∀ x : K0.D, 1 ≤ x.size := fun x => by cases x <;> simp [K0.D.size] <;> omega
theorem va_core {m n : Nat} {spT : Sp} (T : Txt K mg A D) (hn : 4 ≤ n) (G_law_va_plain : FnOk P w K mg base CX0 n A.law_va_plain D.law_va_plain ["dice", "deep"] spT) (hT : 0 < m → ∀ vs H Q E, sp_law_va_plain K (m - 1) vs H Q E → spT vs H Q E) :
    FnOk P w K mg base CX0 (n + 1) A.law_va_plain D.law_va_plain ["dice", "deep"] (sp_law_va_plain K m) := by
  have G_law_roll : FnOk P w K mg base CX0 1 A.law_roll D.law_roll ["dice", "most"] (sp_law_roll K) := ok_law_roll T
  have G_law_pick : FnOk P w K mg base CX0 2 A.law_pick D.law_pick ["dice", "items"] (sp_law_pick K) := ok_law_pick T
  refine T.F_law_va_plain.ok sc_law_va_plain (fun vs H Q E h => by obtain ⟨a, rfl, _⟩ := h; rfl) (fun cdv A0 outer st H vs Q E hr h => ?_)
  refine ⟨_, (pss_cons (ps_if (PW.pt (pw_or (pt_cmpR op_eq (pv 1) pe_int (nomark _)) (pw_or1 (pt_cmpR op_eq (pe_call G_law_roll (hr.mono (by omega)) rfl T.g_law_roll T.F_law_roll.kp T.b_law_roll .nil pass0 (pa_cons (pv 0) (pa_cons pe_int pa_nil))) pe_int (nomark _))))) (pss_cons (ps_set (i := 2) sc_law_va_plain.nd rfl (Or.inl rfl) (pe_lst (pa_cons pe_non (pa_cons pe_int (pa_cons pe_int (pa_cons (pe_un un_neg pe_int) (pa_cons (pe_un un_neg pe_int) (pa_cons pe_int (pa_cons (pe_op op_sub (pe_op op_pow pe_int pe_int) pe_int) (pa_cons (pe_op op_sub pe_int (pe_op op_pow pe_int pe_int)) (pa_cons pe_str (pa_cons pe_str (pa_cons pe_str (pa_cons pe_str (pa_cons pe_str (pa_cons pe_str (pa_cons (pe_tup pa_nil) (pa_cons (pe_op op_sub pe_int (pe_call G_law_roll (hr.mono (by omega)) rfl T.g_law_roll T.F_law_roll.kp T.b_law_roll .nil pass0 (pa_cons (pv 0) (pa_cons pe_int pa_nil)))) pa_nil))))))))))))))))))
  (pss_one (ps_ret (pe_call G_law_pick (hr.mono (by omega)) rfl T.g_law_pick T.F_law_pick.kp T.b_law_pick .nil pass0 (pa_cons (pv 0) (pa_cons (pv 2) pa_nil)))))) pss_nil)
  (pss_one (ps_ret (pe_callTy call_tuple_of (by rfl) T.b_tuple (by decide +kernel) (pa_cons (pe_lc (own := [("turn", 3)]) (g := gName 3) (tt := tYes) rfl sc_law_va_plain.nd (pi_range1 rfl T.b_range (pa_cons (pe_call G_law_roll (hr.mono (by omega)) rfl T.g_law_roll T.F_law_roll.kp T.b_law_roll .nil pass0 (pa_cons (pv 0) (pa_cons pe_int pa_nil))) pa_nil)) (blkOk_by (own := [("turn", 3)]) (N := N_law_va_plain) (sc := defScope s_law_va_plain) (by decide +kernel)) (fun _ _ _ _ _ => by exact pg_name (i := 3) sc_law_va_plain.nd rfl (Or.inl rfl)) (fun _ _ _ _ _ => by exact pts_nil) (fun _ _ _ _ _ => by exact (pe_call G_law_va_plain (hr.mono (by omega)) rfl T.g_law_va_plain T.F_law_va_plain.kp T.b_law_va_plain .nil pass0 (pa_cons (pv 0) (pa_cons (pe_op op_sub (pv 1) pe_int) pa_nil))))) pa_nil))))), ?_⟩
  obtain ⟨a, rfl, hd, k⟩ := h
  have then_ : ∀ H1, Bt a H H1 → DiceAt H1 a → ∀ Dn : Ends, Dn.rt = Q →
      tSeq (tAsg (tLst (tCons (tC .non) (tCons (tC (.int 0)) (tCons (tC (.int 1)) (tCons (tUn (rU fun i => V.int (-i)) (tC (.int 1))) (tCons (tUn (rU fun i => V.int (-i)) (tC (.int 20))) (tCons (tC (.int 10)) (tCons (tOp (rI0 fun i j => V.int (i - j)) (tOp (rI CPow fun i j => V.int (i ^ j.toNat)) (tC (.int 10)) (tC (.int 60))) (tC (.int 1)))
        (tCons (tOp (rI0 fun i j => V.int (i - j)) (tC (.int 1)) (tOp (rI CPow fun i j => V.int (i ^ j.toNat)) (tC (.int 10)) (tC (.int 60)))) (tCons (tC (.str "")) (tCons (tC (.str "a")) (tCons (tC (.str "a b")) (tCons (tC (.str "put")) (tCons (tC (.str "0")) (tCons (tC (.str " ")) (tCons (tTup tNil) (tCons (tOp (rI0 fun i j => V.int (i - j)) (tC (.int 7)) (tCall (sp_law_roll K) [] (fun _ _ _ => False) (tCons (tVar 0) (tCons (tC (.int 15)) tNil)))) tNil))))))))))))))))) (gName 2))
        (tRet (tCall (sp_law_pick K) [] (fun _ _ _ => False) (tCons (tVar 0) (tCons (tVar 2) tNil)))) Dn (L2.start N_law_va_plain [V.ref a, V.int (m : Int)]) H1 := fun H1 b1 d1 Dn hDn => by
    refine G.xq_list (K := K) (M := MPl m) (n := 15) d1 (x_non (plain1 rfl (by decide))) (xl_cons (x_int (plain1 (by decide +kernel) (by decide))) (xl_cons (x_int (plain1 (by decide +kernel) (by decide))) (xl_cons (x_neg (plain1 (by decide +kernel) (by decide))) (xl_cons (x_neg (plain1 (by decide +kernel) (by decide)))
      (xl_cons (x_int (plain1 (by decide +kernel) (by decide))) (xl_cons (x_ev (fun _ => ev_op (ev_op ev_c ev_c (rv_pow (n := 60) (by decide) (by decide))) ev_c rv_I0) (fun _ => .int _) (plain1 (by decide +kernel) (by decide)) rfl)
      (xl_cons (x_ev (fun _ => ev_op ev_c (ev_op ev_c ev_c (rv_pow (n := 60) (by decide) (by decide))) rv_I0) (fun _ => .int _) (plain1 (by decide +kernel) (by decide)) rfl)
      (xl_cons (x_str (plain1 (by decide +kernel) (by decide))) (xl_cons (x_str (plain1 (by decide +kernel) (by decide))) (xl_cons (x_str (plain1 (by decide +kernel) (by decide))) (xl_cons (x_str (plain1 (by decide +kernel) (by decide))) (xl_cons (x_str (plain1 (by decide +kernel) (by decide)))
      (xl_cons (x_str (plain1 (by decide +kernel) (by decide))) (xl_cons (x_tup (N := fun ds => ds = []) xa_nil fun ds hds => by subst hds; exact ⟨by simp, plain1 rfl (by decide)⟩)
      (xl_cons (G.x_rollOp (g := fun i j => i - j) rfl (by decide) fun r r0 r1 => plain1 (by
        show numB (7 - r) = true
        unfold numB
        rw [decide_eq_true (show (-(10 ^ 60 - 1) : Int) ≤ 7 - r by omega), decide_eq_true (show 7 - r ≤ (10 ^ 60 - 1 : Int) by omega)]
        rfl) (by show 1 ≤ 1; decide)) xl_nil))))))))))))))) (by decide) fun p xs ds H2 hp na b2 d2 h2 r2 hm hc ne hl => ?_
    show tRet _ _ _ _
    refine G.x_pickV (K := K) (M := MPl m) (i := 2) (xs := xs) (ds := ds) rfl rfl na d2 h2 r2 ne (by omega) hm hc fun v d H3 b3 d3 m3 c3 r3 => ?_
    rw [hDn]
    exact k v d H3 ((b1.trans b2).trans b3) d3 m3 c3 r3
  refine G.n_when (n_or ?_)
  refine (et_test (ev_op (ev_var rfl) ev_c (rv_eq rfl))) H (Ex.refl _) _ fun H1 e1 => ?_
  by_cases hm : m = 0
  · have hb : decide (V.int (m : Int) = V.int 0) = true := by rw [hm]; exact decide_eq_true rfl
    rw [if_pos hb, if_pos rfl]
    exact then_ H1 (Bt.of e1) (hd.ex e1) _ rfl
  · have hb : decide (V.int (m : Int) = V.int 0) = false := decide_eq_false fun z => hm (by injection z with z; omega)
    rw [if_neg (by rw [hb]; decide)]
    refine G.n_test (n_op (c_call (ea_cons (ev_var rfl) (ea_cons ev_c ea_nil)) fun H2 e2 => ⟨a, 3, rfl, hd.ex (e1.trans e2), by decide, by decide, fun r H3 r0 r1 b3 d3 => ⟨rfl, _, rfl, ?_⟩⟩))
    have b13 : Bt a H H3 := (Bt.of (e1.trans e2)).trans b3
    by_cases hr0 : r = 0
    · rw [if_pos (decide_eq_true (congrArg V.int hr0))]
      exact then_ H3 b13 d3 _ rfl
    · rw [if_neg (by rw [decide_eq_false fun z => hr0 (V.int.inj z)]; decide)]
      show tCB (rTupOf K) _ _ _ _
      refine n_cb (n_cons ?_)
      unfold tLc
      refine n_rng1 (n_cons (c_call (ea_cons (ev_var rfl) (ea_cons ev_c ea_nil)) fun H4 e4 => ⟨a, 4, rfl, d3.ex e4, by decide, by decide, fun r4 H5 r40 r41 b5 d5 => n_nil ⟨r4, rfl, by omega, by omega, ?_⟩⟩))
      refine l_draws (K := K) (M := MPl (m - 1)) (a := a) (σ := L2.start N_law_va_plain [V.ref a, V.int (m : Int)]) (j := 3) (vs := [3]) (n := r4.toNat) (te := tCall spT [] (fun _ _ _ => False) (tCons (tVar 0) (tCons (tOp (rI0 fun i j => V.int (i - j)) (tVar 1) (tC (.int 1))) tNil))) (Q := fun v H1 => tNil (L2.start N_law_va_plain [V.ref a, V.int (m : Int)]) H1 fun vs H2 => rTupOf K (v :: vs) H2 Q) d5 (by omega) (fun _ => rfl) (fun i H6 d6 Q' q' => ?_) fun p xs ds H6 hp b6 d6 h6 rr hl hmm hc => ?_
      · exact c_call (ea_cons (ev_var rfl) (ea_cons (ev_op (ev_var rfl) ev_c rv_I0) ea_nil)) fun H7 e7 => hT (by omega) _ _ _ _ ⟨a, by show [V.ref a, V.int ((m : Int) - 1)] = _; rw [show ((m : Int) - 1) = ((m - 1 : Nat) : Int) by omega], d6.ex e7, fun v d H8 b8 d8 m8 c8 r8 => q' v d H8 ((Bt.of e7).trans b8) d8 m8 c8 r8⟩
      · have bAll : Bt a H H6 := ((b13.trans (Bt.of e4)).trans b5).trans b6
        refine n_nil ⟨p, xs, rfl, .inl ⟨sq_of h6, fun l hl2 => k (.ref l) (.tup ds) _ (bAll.trans (Bt.of (Ex.new hl2))) (d6.ex (Ex.new hl2)) ⟨?_, ?_⟩ hc (.tup (st_of upd_same) (rr.ex (Ex.new hl2)))⟩⟩
        · show ds.all (K0.D.plain m) = true
          refine List.all_eq_true.mpr fun d hdm => ?_
          have := (hmm d hdm).1
          rw [show m - 1 + 1 = m by omega] at this
          exact this
        · obtain ⟨m', rfl⟩ : ∃ q, m = q + 1 := ⟨m - 1, by omega⟩
          have key : ∀ l : List K0.D, (∀ d ∈ l, MPl m' d) → K0.D.sizeL l ≤ l.length * szB m' := fun l => by
            induction l with
            | nil => intro _; exact Nat.zero_le _
            | cons x l ih =>
              intro h
              have h1 := (h x (List.mem_cons_self ..)).2
              have h2 := ih fun y hy => h y (List.mem_cons_of_mem _ hy)
              simp only [K0.D.sizeL, List.length_cons, Nat.succ_mul]
              omega
          have h1 := key ds hmm
          have h2 : ds.length * szB m' ≤ 3 * szB m' := Nat.mul_le_mul_right _ (by omega)
          show 1 + K0.D.sizeL ds ≤ 1 + 3 * szB m'
          omega
theorem ok_law_va_plain (T : Txt K mg A D) : ∀ m, FnOk P w K mg base CX0 (6 + m) A.law_va_plain D.law_va_plain ["dice", "deep"] (sp_law_va_plain K m)
  | 0 => va_core (n := 5) (spT := noFn) T (by omega) ⟨fun _ _ _ _ h => h.elim, fun _ _ _ _ _ _ _ _ _ _ _ _ _ h => h.elim⟩ fun h => by omega
  | m + 1 => by
    have := va_core (m := m + 1) (n := 6 + m) T (by omega) (ok_law_va_plain T m) fun _ vs H Q E h => h
    rw [show 6 + m + 1 = 6 + (m + 1) by omega] at this
    exact this
def MSt (d : K0.D) : Prop := ∃ w : Str, d = .str w ∧ w.length ≤ 2
def sp_law_spoilt (K : PySem.W.Frag) : Sp := fun vs H Q _ => ∃ (a : Addr) (z : Str), vs = [.ref a, .str z] ∧ DiceAt H a ∧ z.length ≤ 80000 ∧ ∀ (y : Str) H', Bt a H H' → DiceAt H' a → y.length ≤ z.length + 6 → Q (.str y) H'
theorem len_law_spoilt {vs : List V} {H : Hp} {Q : VK} {E : XK} (h : sp_law_spoilt K vs H Q E) : vs.length = 2 := by
  obtain ⟨a, z, rfl, _⟩ := h
  rfl
theorem ok_law_spoilt (T : Txt K mg A D) : FnOk P w K mg base CX0 3 A.law_spoilt D.law_spoilt ["dice", "text"] (sp_law_spoilt K) := by
  have G_law_roll : FnOk P w K mg base CX0 1 A.law_roll D.law_roll ["dice", "most"] (sp_law_roll K) := ok_law_roll T
  have G_law_pick : FnOk P w K mg base CX0 2 A.law_pick D.law_pick ["dice", "items"] (sp_law_pick K) := ok_law_pick T
  refine T.F_law_spoilt.ok sc_law_spoilt (fun vs H Q E h => len_law_spoilt h) (fun cdv A0 outer s H vs Q E hr h => ?_)
  refine ⟨_, (pss_cons (ps_for PassesOwn.never rfl (pi_range1 rfl T.b_range (pa_cons (pe_op op_add pe_int (pe_call G_law_roll (hr.mono (by decide)) rfl T.g_law_roll T.F_law_roll.kp T.b_law_roll .nil pass0 (pa_cons (pv 0) (pa_cons pe_int pa_nil)))) pa_nil)) (pg_name (i := 2) sc_law_spoilt.nd rfl (Or.inl rfl)) (pss_cons (ps_par (i := 3) (j := 4) (by rfl) sc_law_spoilt.nd rfl rfl (by decide) rfl rfl (pa_cons (pe_call G_law_roll (hr.mono (by decide)) rfl T.g_law_roll T.F_law_roll.kp T.b_law_roll .nil pass0 (pa_cons (pv 0) (pa_cons (pe_op op_add (pe_callB call_len (by rfl) T.b_len (by decide +kernel) (pa_cons (pv 1) pa_nil)) pe_int) pa_nil))) (pa_cons (pe_call G_law_roll (hr.mono (by decide)) rfl T.g_law_roll T.F_law_roll.kp T.b_law_roll .nil pass0 (pa_cons (pv 0) (pa_cons pe_int pa_nil))) pa_nil)) (by rfl))
  (pss_cons (ps_set (i := 5) sc_law_spoilt.nd rfl (Or.inl rfl) (pe_ifExp (pt_cmpR op_eq (pv 4) pe_int (nomark _)) pe_str (pe_call G_law_pick (hr.mono (by decide)) rfl T.g_law_pick T.F_law_pick.kp T.b_law_pick .nil pass0 (pa_cons (pv 0) (pa_cons (pe_lst (pa_cons pe_str (pa_cons pe_str (pa_cons pe_str (pa_cons pe_str (pa_cons pe_str (pa_cons pe_str (pa_cons pe_str (pa_cons pe_str (pa_cons pe_str (pa_cons pe_str (pa_cons pe_str (pa_cons pe_str (pa_cons pe_str pa_nil)))))))))))))) pa_nil)))))
  (pss_one (ps_set (i := 1) sc_law_spoilt.nd rfl (Or.inl rfl) (pe_op op_add_str (pe_op op_add_str (pe_slice sl_str (pv 1) po_none (po_some (pv 3))) (pv 5)) (pe_slice sl_str (pv 1) (po_some (pe_op op_add (pv 3) (pe_callTy call_int1 (by rfl) T.b_int (by decide +kernel) (pa_cons (pe_cmpR op_lt (pv 4) pe_int (nomark _)) pa_nil)))) po_none)))))))
  (pss_one (ps_ret (pv 1)))), ?_⟩
  obtain ⟨a, z, rfl, hd, hz, k⟩ := h
  refine G.q_forRng (W := fun n H1 => 1 ≤ n ∧ n ≤ 3 ∧ Bt a H H1 ∧ DiceAt H1 a) (fun Q' q' => ?_) fun n H1 g => ?_
  · exact n_cons (n_op (G.n_c (c_call (ea_cons (ev_var rfl) (ea_cons ev_c ea_nil)) fun H2 e2 => ⟨a, 3, rfl, hd.ex e2, by decide, by decide, fun r H3 r0 r1 b3 d3 => ⟨1, r, rfl, rfl, n_nil (q' _ H3 ⟨by omega, by omega, (Bt.of e2).trans b3, d3⟩)⟩⟩)))
  obtain ⟨n1, n3, b1, d1⟩ := g
  refine q_forR1 (n := n) (ea_cons ev_c ea_nil) (by omega) (fun i σ' H' => ∃ (y : Str) (v2 v3 v4 v5 : Option V), σ' = [some (.ref a), some (.str y), v2, v3, v4, v5] ∧ Bt a H H' ∧ DiceAt H' a ∧ y.length ≤ z.length + 2 * i)
    (fun H2 e2 => ⟨z, _, _, _, _, rfl, b1.trans (Bt.of e2), d1.ex e2, by omega⟩) (fun i σ' H' hi g => ?_) (fun σ' H' g => ?_)
  · obtain ⟨y, v2, v3, v4, v5, rfl, b0, d0, hy⟩ := g
    have hyl : y.cps.toList.length = y.length := by simp [Str.length]
    refine q_par (n_cons (c_call (ea_cons (ev_var rfl) (ea_cons (ev_op (ev_cb (ea_cons (ev_var rfl) ea_nil) (rc_lenSg (by omega))) ev_c rv_I0) ea_nil)) fun H2 e2 => ⟨a, _, rfl, d0.ex e2, by omega, by omega, fun r H3 r0 r1 b3 d3 =>
      n_cons (c_call (ea_cons (ev_var rfl) (ea_cons ev_c ea_nil)) fun H4 e4 => ⟨a, 3, rfl, d3.ex e4, by decide, by decide, fun r' H5 r0' r1' b5 d5 => n_nil ⟨.int r, .int r', rfl, ?_⟩⟩)⟩))
    have b05 : Bt a H H5 := (((b0.trans (Bt.of e2)).trans b3).trans (Bt.of e4)).trans b5
    have go : ∀ (w : Str) (H6 : Hp), Bt a H H6 → DiceAt H6 a → w.length ≤ 2 → tAsg (tOp (fun x y H Q => ∃ i j, x = .str i ∧ y = .str j ∧ i.length + j.length ≤ sizeLine ∧ Q (.str (i ++ j)) H) (tOp (fun x y H Q => ∃ i j, x = .str i ∧ y = .str j ∧ i.length + j.length ≤ sizeLine ∧ Q (.str (i ++ j)) H) (tSl rSlS (tVar 1) tNoPart (tPart (tVar 3))) (tVar 5))
        (tSl rSlS (tVar 1) (tPart (tOp (rI0 fun i j => V.int (i + j)) (tVar 3) (tCB (fun xs H Q => (∃ i, xs = [V.int i] ∧ Q (.int i) H) ∨ ∃ k, xs = [.bl k] ∧ Q (.int (if k then 1 else 0)) H) (tCons (tOp (rI0 fun i j => V.bl (decide (i < j))) (tVar 4) (tC (.int 2))) tNil)))) tNoPart)) (gName 1)
        { nx := fun σ2 H2 => ∃ (y : Str) (v2 v3 v4 v5 : Option V), σ2 = [some (.ref a), some (.str y), v2, v3, v4, v5] ∧ Bt a H H2 ∧ DiceAt H2 a ∧ y.length ≤ z.length + 2 * (i + 1), rt := Q, bk := fun _ _ => True, ct := fun _ _ => True }
        [some (.ref a), some (.str y), some (.int (i : Int)), some (.int r), some (.int r'), some (.str w)] H6 := fun w H6 b6 d6 hw => by
      obtain ⟨ra, rfl⟩ : ∃ q : Nat, r = (q : Int) := ⟨r.toNat, by omega⟩
      have l1 := G.cut_to y ra
      have l2 := G.cut_from y (ra + (if decide (r' < 2) = true then 1 else 0))
      refine s_asg (v := .str (cutS y none (some (ra : Int)) ++ w ++ cutS y (some ((ra + (if decide (r' < 2) = true then 1 else 0) : Nat) : Int)) none)) (ev_op (ev_op (G.ev_slO (ev_var rfl) eo_none (eo_some (ev_var rfl)) (by omega)) (ev_var rfl) (rv_addL (by omega))) (G.ev_slO (ev_var rfl) (eo_some (ev_is (ev_op (ev_var rfl) (ev_cb (ea_cons (ev_op (ev_var rfl) ev_c rv_I0) ea_nil) rc_intB) rv_I0) ?_)) eo_none (by omega)) (rv_addL (by rw [str_app]; omega))) fun H7 e7 => ⟨_, _, _, _, _, rfl, b6.trans (Bt.of e7), d6.ex e7, ?_⟩
      · congr 1
        split <;> omega
      · rw [str_app, str_app, l1, l2]
        omega
    refine q_asgX (n_if (et_test (ev_op (ev_var rfl) ev_c (rv_eq rfl))) (fun _ H6 e6 => ?_) fun _ H6 e6 => ?_)
    · exact go "" H6 (b05.trans (Bt.of e6)) (d5.ex e6) (by decide)
    · refine (x_pick (K := K) (a := a) (n := 12) (M := MSt) rfl (x_str ⟨_, rfl, by decide⟩) (xl_cons (x_str ⟨_, rfl, by decide⟩) (xl_cons (x_str ⟨_, rfl, by decide⟩) (xl_cons (x_str ⟨_, rfl, by decide⟩) (xl_cons (x_str ⟨_, rfl, by decide⟩) (xl_cons (x_str ⟨_, rfl, by decide⟩) (xl_cons (x_str ⟨_, rfl, by decide⟩)
        (xl_cons (x_str ⟨_, rfl, by decide⟩) (xl_cons (x_str ⟨_, rfl, by decide⟩) (xl_cons (x_str ⟨_, rfl, by decide⟩) (xl_cons (x_str ⟨_, rfl, by decide⟩) (xl_cons (x_str ⟨_, rfl, by decide⟩) (xl_cons (x_str ⟨_, rfl, by decide⟩) xl_nil)))))))))))) (by decide)) H6 (d5.ex e6) _ fun v d H7 b7 d7 m7 c7 r7 => ?_
      obtain ⟨w, rfl, hw⟩ := m7
      cases r7
      exact go w H7 ((b05.trans (Bt.of e6)).trans b7) d7 hw
  · obtain ⟨y, v2, v3, v4, v5, rfl, b0, d0, hy⟩ := g
    exact s_ret (ev_var rfl) fun H2 e2 => k y H2 (b0.trans (Bt.of e2)) (d0.ex e2) (by have : n.toNat ≤ 3 := by omega
                                                                                      omega)
end
end K0

namespace K0
open PySem L2 Evl
/-! ### k02's own text; what is told of a text -/
section
variable {P : Program} {w : World} {K : PySem.W.Frag} {mg : Str → Option Value} {base : Heap} {A : Ad} {D : Fd}
theorem va_text_core {n m : Nat} {spT : Sp} (T : Txt K mg A D) (G_law_va_text : FnOk P w K mg base CX0 n A.law_va_text D.law_va_text ["value"] spT) (hT : 0 < m → ∀ vs H Q E, sp_text_of K (m - 1) vs H Q E → spT vs H Q E) :
    FnOk P w K mg base CX0 (n + 1) A.law_va_text D.law_va_text ["value"] (sp_text_of K m) := by
  refine T.F_law_va_text.ok sc_law_va_text (fun vs H Q E h => by obtain ⟨x, d, rfl, _⟩ := h; rfl) (fun cdv A0 outer s H vs Q E hr h => ?_)
  refine ⟨_, (pss_cons (ps_if (pt_cmpR op_isN (pv 0) pe_non (nomark _)) (pss_one (ps_ret pe_str)) pss_nil)
  (pss_cons (ps_if (pt_val (pe_callB call_isi (by rfl) T.b_isinstance (by decide +kernel) (pa_cons (pv 0) (pa_cons (pe_bltn (v := .ty "str") (u := .type "str") (by rfl) T.b_str (by decide +kernel) rfl) pa_nil)))) (pss_one (ps_ret (pe_op op_add_str (pe_op op_add_str pe_str (pv 0)) pe_str))) pss_nil)
  (pss_cons (ps_if (pt_val (pe_callB call_isi (by rfl) T.b_isinstance (by decide +kernel) (pa_cons (pv 0) (pa_cons (pe_bltn (v := .ty "tuple") (u := .type "tuple") (by rfl) T.b_tuple (by decide +kernel) rfl) pa_nil)))) (pss_one (ps_ret (pe_op op_add_str (pe_op op_add_str pe_str (pe_bm PySem.F.plainAttrs_str PySem.F.slot_str_join PySem.F.type_str_join mt_join pe_str (pa_cons (pe_lc (own := [("one", 1)]) (g := gName 1) (tt := tYes) rfl sc_law_va_text.nd (pi_tup (pv 0)) (blkOk_by (own := [("one", 1)]) (N := N_law_va_text) (sc := defScope s_law_va_text) (by decide +kernel)) (fun _ _ _ _ _ => by exact pg_name (i := 1) sc_law_va_text.nd rfl (Or.inl rfl)) (fun _ _ _ _ _ => by exact pts_nil) (fun _ _ _ _ _ => by exact (pe_call G_law_va_text (hr.mono (by omega)) rfl T.g_law_va_text T.F_law_va_text.kp T.b_law_va_text .nil pass0 (pa_cons (pv 1) pa_nil)))) pa_nil))) pe_str))) pss_nil)
  (pss_one (ps_ret (pe_callTy call_str_int (by rfl) T.b_str (by decide +kernel) (pa_cons (pv 0) pa_nil))))))), ?_⟩
  obtain ⟨x, d, rfl, hx, hs, hp, k⟩ := h
  refine q_when (et_test (ev_op (ev_var rfl) ev_c rv_isN)) (fun hb H1 e1 => ?_) (fun hb H1 e1 => ?_)
  · have hn := of_decide_eq_true hb
    subst hn
    cases hx
    exact s_ret ev_c fun H2 e2 => k H2 (e1.trans e2)
  have hx1 := hx.ex e1
  refine q_when (et_B (ev_cb (ea_cons (ev_var rfl) (ea_cons ev_c ea_nil)) (rc_str hx1))) (fun hb2 H2 e2 => ?_) (fun hb2 H2 e2 => ?_)
  · obtain ⟨z, rfl, rfl⟩ := hx.isS hb2
    have hz : 1 + z.length / 100 ≤ 30000 := hs
    exact s_ret (ev_op (ev_op ev_c (ev_var rfl) (rv_addL (by show 1 + z.length ≤ _; omega))) ev_c (rv_addL (by rw [str_app]; show 1 + z.length + 1 ≤ _; omega))) fun H4 e4 => k H4 ((e1.trans e2).trans e4)
  refine q_when (et_B (ev_cb (ea_cons (ev_var rfl) (ea_cons ev_c ea_nil)) (rc_tup (hx1.ex e2)))) (fun hb3 H3 e3 => ?_) (fun hb3 H3 e3 => ?_)
  · cases hx with
    | @tup a xs ds hq hr0 =>
      have e03 := (e1.trans e2).trans e3
      cases m with
      | zero => cases hp
      | succ m =>
        have hpl : ds.all (K0.D.plain m) = true := hp
        have hlen := hr0.len
        have hsl := sizeL_len ds
        have hsz : 1 + K0.D.sizeL ds ≤ 30000 := by have := hs; simp only [K0.D.size] at this; exact this
        have hL := texts_len ds m hpl
        have hJ := join_len "," (textDs ds)
        rw [show ("," : Str).length = 1 from rfl, Nat.mul_one] at hJ
        have hl : EvL (tLc (iTup K (tVar 0)) (gName 1) tYes (tCall spT [] (fun _ _ _ => False) (tCons (tVar 1) tNil)) [1]) (L2.start N_law_va_text [V.ref a]) H3 ((textDs ds).map V.str) := by
          have := el_lcT (K := K) (tl := tVar 0) (t := tYes) (σ := L2.start N_law_va_text [V.ref a]) (H := H3) (j := 1) (vs := [1]) (te := tCall spT [] (fun _ _ _ => False) (tCons (tVar 1) tNil)) (fun _ => true) (fun i => V.str (textD ((ds.getD i .non)))) (ev_var rfl) (ex_t e03 hq) (by omega) (fun _ => rfl) (fun i y H5 e5 hy => et_yes) (fun i y H5 e5 hy _ => by
            obtain ⟨d, hd, hrp⟩ := RpAll.get _ _ _ _ (hr0.ex (e03.trans e5)) hy
            have hmem := List.mem_of_getElem? hd
            have e : (ds.getD i .non) = d := by rw [List.getD_eq_getElem?_getD, hd]; rfl
            have hz := size_mem hmem
            refine ev_call (ea_cons (ev_var rfl) ea_nil) fun H6 e6 Q q E => hT (by omega) _ _ _ _ ⟨y, d, rfl, hrp.ex e6, by omega, List.all_eq_true.mp hpl d hmem, by rw [e] at q; exact q⟩)
          rw [given_map (fun _ => rfl)] at this
          have hm : ((List.range xs.length).map fun i => V.str (textD ((ds.getD i .non)))) = (textDs ds).map V.str := by
            rw [textDs_map, List.map_map, hlen]
            refine List.ext_getElem? fun i => ?_
            rw [List.getElem?_map, List.getElem?_map]
            by_cases hi : i < ds.length
            · rw [List.getElem?_range hi, List.getElem?_eq_getElem hi]
              show some (V.str (textD ((ds.getD i .non)))) = some (V.str (textD ds[i]))
              congr 3
              rw [List.getD_eq_getElem?_getD, List.getElem?_eq_getElem hi]
              rfl
            · rw [List.getElem?_eq_none_iff.mpr (by rw [List.length_range]; omega), List.getElem?_eq_none_iff.mpr (by omega)]
              rfl
          rw [hm] at this
          exact this
        have hj : Ev (tBM K "str" (fun x xs H Q => ∃ a p, ∃ ys : List Str, x = .str a ∧ xs = [.ref p] ∧ (SqL K H p (ys.map V.str) ∨ SqT K H p (ys.map V.str)) ∧ (ys.map (·.length)).sum + ys.length * a.length ≤ 16777216 ∧ Q (.str (Txt.join a ys)) H) (tC (.str ",")) (tCons (tLc (iTup K (tVar 0)) (gName 1) tYes (tCall spT [] (fun _ _ _ => False) (tCons (tVar 1) tNil)) [1]) tNil)) (L2.start N_law_va_text [V.ref a]) H3 (.str (Txt.join "," (textDs ds))) := fun H4 e4 Q q =>
          ⟨rfl, hl H4 e4 _ fun p H5 hp e5 h5 => ⟨",", p, textDs ds, rfl, rfl, .inl (sq_of h5), by rw [show ("," : Str).length = 1 from rfl]; omega, q H5 e5⟩⟩
        exact s_ret (ev_op (ev_op ev_c hj (rv_addL (by show 1 + _ ≤ _; omega))) ev_c (rv_addL (by rw [str_app]; show 1 + _ + 1 ≤ _; omega))) fun H4 e4 => k H4 (e03.trans e4)
    | int i => cases hb3
    | str s => cases hb3
    | bl b => cases hb3
    | non => cases hb3
    | lst h => cases hb3
    | dct h => cases hb3
  · cases hx with
    | int i =>
      have h1 : numB i = true := by cases m <;> exact hp
      exact s_ret (ev_cb (ea_cons (ev_var rfl) ea_nil) fun H3 _ Q q => ⟨i, rfl, (num_len h1).2, q H3 (Ex.refl _)⟩) fun H4 e4 => k H4 (((e1.trans e2).trans e3).trans e4)
    | str s => cases hb2
    | tup hq hr0 => cases hb3
    | bl b => cases m <;> cases hp
    | non => exact absurd rfl (of_decide_eq_false hb)
    | lst h => cases m <;> cases hp
    | dct h => cases m <;> cases hp
theorem ok_law_va_text (T : Txt K mg A D) : ∀ m, FnOk P w K mg base CX0 (m + 2) A.law_va_text D.law_va_text ["value"] (sp_text_of K m)
  | 0 => va_text_core (n := 1) (spT := noFn) T ⟨fun _ _ _ _ h => h.elim, fun _ _ _ _ _ _ _ _ _ _ _ _ _ h => h.elim⟩ fun h => by omega
  | m + 1 => va_text_core T (ok_law_va_text T m) fun _ vs H Q E h => h
def sp_law_told (K : PySem.W.Frag) : Sp := fun vs H Q _ => ∃ z : Str, vs = [.str z] ∧ z.length ≤ 90000 ∧ RetR K (resD (rdAll z.cps.toList)) H Q
abbrev tWrong (A : Ad) (a : Addr) (cls : Value) (d : Option Addr) : TS := tRet (tTup (tCons (tC (.str "wrong")) (tCons (tXf a cls d A.EParseError "spot" (tVar 1)) tNil)))
theorem ok_law_told (T : Txt K mg A D) : FnOk P w K mg base CX0 42 A.law_told D.law_told ["text"] (sp_law_told K) := by
  have G_read_plain := ok_read_plain (P := P) (w := w) (base := base) T
  refine T.F_law_told.ok sc_law_told (fun vs H Q E h => by obtain ⟨z, rfl, _⟩ := h; rfl) (fun cdv A0 outer s H vs Q E hr h => ?_)
  refine ⟨_, pss_one (ps_clauses (Wz := fun _ _ _ _ => False) (l := [⟨.ref A.EParseError, some 1, fun a cls d => tWrong A a cls d⟩])
      (tb := fun W D σ H => ∃ Ech : XK, (∀ cls d σ' H', Ech cls d H' → W cls d σ' H') ∧ tRet (tTup (tCons (tC (.str "told")) (tCons (tCall (sp_read_plain K A) [] Ech (tCons (tVar 0) tNil)) tNil))) D σ H)
      rfl rfl LamX.takes0 (fun W pn xe tk _ => ?_)
      (.named ⟨rfl, rfl, .inl T.e_ParseError.g⟩ sc_law_told.nd rfl rfl (fun a oe cls d pn hz hf => pss_one (ps_ret (pe_tup (pa_cons pe_str (pa_cons (pe_xf T.e_ParseError.x T.n_ParseErrorspot hz hf (pv 1)) pa_nil))))) .nil)), ?_⟩
  · refine pss_one ⟨fun pins s' σ H' D I h' => ?_⟩
    obtain ⟨Ech, hW, h2⟩ := h'
    refine PS.run (t := tRet (tTup (tCons (tC (.str "told")) (tCons (tCall (sp_read_plain K A) [] Ech (tCons (tVar 0) tNil)) tNil)))) ?_ pins s' σ H' D I h2
    exact ps_ret (pe_tup (pa_cons pe_str (pa_cons (pe_call G_read_plain (hr.mono (by decide)) rfl T.g_read_plain T.F_read_plain.kp T.b_read_plain .nil (passes_call tk hW) (pa_cons (pv 0) pa_nil)) pa_nil)))
  · obtain ⟨z, rfl, hz, k⟩ := h
    refine ⟨fun cls dd H' => cls = .ref A.EParseError ∧ ∃ b v d, dd = some b ∧ H' b = some (.xd [("spot", v)]) ∧ Rp K H' v d ∧ RetR K (.tup [.str "wrong", d]) H' Q, fun cls d σ' H' y => ?_, ?_⟩
    · obtain ⟨rfl, b, v, d, rfl, hb, hv, kk⟩ := y
      refine ⟨true, T.m_ParseError_ParseError, fun _ a na hl => ?_, fun zz => by cases zz⟩
      have h1 : (σ'.set 1 (some (V.ref a)))[1]? = some (some (V.ref a)) := by
        rw [List.getElem?_set_self (by rw [hl]; exact (by decide : 1 < N_law_told.length))]
      show tWrong A a (.ref A.EParseError) (some b) (endsC (some 1) { nx := fun _ H' => Q .non H', rt := Q }) (σ'.set 1 (some (V.ref a))) H'
      exact s_retR (K := K) (ed_tup (eda_cons (ed_ev ev_c (.str _)) (eda_cons (ed_ev (v := v) (fun H1 e1 Q1 q1 => n_var h1 ⟨rfl, rfl, b, [("spot", v)], v, rfl, e1 _ _ hb, by simp [List.lookup], q1 H1 (Ex.refl _)⟩) hv) eda_nil)) (by simp)) kk
    · show tTup _ _ _ _
      refine n_tup (n_cons (G.n_c (n_cons (d_raw (n_cons (n_var rfl (n_nil ⟨.str z, .str z, rfl, .str z, .inr ⟨z, rfl, hz, ?_⟩⟩)))))))
      cases hr2 : rdAll z.cps.toList with
      | error e =>
        rw [hr2] at k
        exact fun dd H' e' h2 => ⟨rfl, dd, .int (e : Int), .int (e : Int), rfl, h2, .int _, RetR.ex e' k⟩
      | ok d =>
        rw [hr2] at k
        exact fun v H1 e1 rv => n_nil ⟨sz_of (by simp), fun p hp => k (.ref p) _ (e1.trans (Ex.new hp)) (.tup (st_of upd_same) (.cons (.str _) (.cons (rv.ex (Ex.new hp)) .nil)))⟩
end
end K0

namespace K0
open PySem L2 Evl
/-! ### k02: one turn -/
theorem rdS_E {l : List Nat} {s e : Nat} (hs : s ≤ l.length) (h : rdS l s = .error e) : e ≤ l.length := by
  unfold rdS at h
  simp only at h
  split at h
  · cases h
  · cases h
    have := (runTo_le (p := inS signs37) 3000 (l.drop s)).1
    rw [List.length_drop] at this
    omega
theorem rdN_E {l : List Nat} {f : Str} {s e : Nat} (h : rdN l f s = .error e) : e = s := by
  unfold rdN at h
  split at h
  · cases h; rfl
  · split at h
    · cases h
    · cases h; rfl
theorem rdI_E {g : Nat → Int} {r : Except Nat (Nat × Nat)} {e : Nat} (h : rdI g r = .error e) : r = .error e := by
  cases r with
  | error x => cases h; rfl
  | ok q => obtain ⟨n, e'⟩ := q; cases h
theorem rdOther_E {l : List Nat} {s e : Nat} (hs : s ≤ l.length) (h : rdOther l s = .error e) : e ≤ l.length := by
  unfold rdOther at h
  split at h
  · rename_i h45
    have := get_lt h45
    have := rdN_E (rdI_E h)
    omega
  · have := rdN_E (rdI_E h)
    omega
theorem rdLoop_E {rv : Nat → RdR} {l : List Nat} (hv : RvOk rv l) (hE : ∀ s e, s ≤ l.length → rv s = .error e → e ≤ l.length) : ∀ (f e : Nat) (acc : List K0.D) (x : Nat), e ≤ l.length → rdLoop rv l f e acc = .error x → x ≤ l.length
  | 0, e, acc, x, he, h => by cases h; exact he
  | f + 1, e, acc, x, he, h => by
    unfold rdLoop at h
    split at h
    · rename_i y hy
      cases h
      exact hE _ _ he hy
    · rename_i d e1 h1
      have h2 := (hv _ _ _ h1).2.1
      split at h
      · rename_i h44
        have := get_lt h44
        exact rdLoop_E hv hE f (e1 + 1) _ x (by omega) h
      · split at h
        · cases h
        · cases h
          exact h2
theorem rdV_E (l : List Nat) : ∀ m s e, s ≤ l.length → rdV l m s = .error e → e ≤ l.length
  | 0, s, e, hs, h => by
    rw [rdV_eq, if_neg (show ¬ (l[s]? = some 40 ∧ 0 < 0) by simp)] at h
    split at h
    · cases h
    · split at h
      · rename_i h39
        have := get_lt h39
        exact rdS_E (by omega) h
      · exact rdOther_E hs h
  | m + 1, s, e, hs, h => by
    rw [rdV_eq] at h
    split at h
    · cases h
    · split at h
      · rename_i h39
        have := get_lt h39
        exact rdS_E (by omega) h
      · split at h
        · rename_i h40
          have := get_lt h40.1
          have h' : rdTup (rdV l m) l (s + 1) = .error e := h
          unfold rdTup at h'
          split at h'
          · cases h'
          · exact rdLoop_E (rdV_ok m) (rdV_E l m) _ _ _ _ (by omega) h'
        · exact rdOther_E hs h
theorem rdAll_le {l : List Nat} {e : Nat} (h : rdAll l = .error e) : e ≤ l.length := by
  unfold rdAll at h
  split at h
  · rename_i y hy
    cases h
    exact rdV_E l 12 0 _ (Nat.zero_le _) hy
  · split at h
    · cases h
      omega
    · cases h
theorem plain_upH : ∀ {n : Nat} {d : K0.D}, d.plain n = true → d.plain (n + 1) = true
  | 0, d, h => by
    cases d with
    | tup ds => cases h
    | _ => exact h
  | n + 1, .tup ds, h => List.all_eq_true.mpr fun d hd => plain_upH (List.all_eq_true.mp (show ds.all (K0.D.plain n) = true from h) d hd)
  | n + 1, .non, h => h
  | n + 1, .bl _, h => h
  | n + 1, .int _, h => h
  | n + 1, .str _, h => h
  | n + 1, .oth, h => h
theorem plain4 {d : K0.D} (h : d.plain 4 = true) : d.plain 12 = true := plain_upH (plain_upH (plain_upH (plain_upH (plain_upH (plain_upH (plain_upH (plain_upH h)))))))
theorem nat_numB {e : Nat} (h : e ≤ 90000) : numB (e : Int) = true := by
  unfold numB
  rw [decide_eq_true (show (-(10 ^ 60 - 1) : Int) ≤ (e : Int) by omega), decide_eq_true (show (e : Int) ≤ (10 ^ 60 - 1 : Int) by omega)]
  rfl
/-- what is told can be shown -/
theorem res_facts {l : List Nat} (hl : l.length ≤ 9000) : (resD (rdAll l)).clean = true ∧ (resD (rdAll l)).py.showable = true ∧ (resD (rdAll l)).py.hasDict = false ∧ (resD (rdAll l)).py.depth ≤ 60 ∧ (resD (rdAll l)).py.shown.length ≤ sizeLine := by
  have pr : ∀ (z : Str) (d : K0.D) (n : Nat), (reprText z).length ≤ 100 → d.plain n = true → n ≤ 12 → d.size ≤ 9000 → (.tup [.str z, d] : K0.D).py.showable = true ∧ (.tup [.str z, d] : K0.D).py.depth ≤ 60 ∧ (.tup [.str z, d] : K0.D).py.shown.length ≤ sizeLine := fun z d n hz hp hn hs => by
    obtain ⟨_, _, c, e, f⟩ := plain_facts d n hp
    refine ⟨?_, ?_, ?_⟩
    · show (true && (d.py.showable && true)) = true
      rw [e]
      rfl
    · show max 0 (max d.py.depth 0) + 1 ≤ 60
      omega
    · have := tupleText_len_le [reprText z, d.py.shown]
      show (tupleText [reprText z, d.py.shown]).length ≤ sizeLine
      simp only [List.map_cons, List.map_nil, List.sum_cons, List.sum_nil, List.length_cons, List.length_nil] at this
      rw [sizeLine_eq]
      omega
  cases hr : rdAll l with
  | error e =>
    have he := rdAll_le hr
    have := pr "wrong" (.int (e : Int)) 0 (by decide +kernel) (nat_numB (by omega)) (by decide) (by show 1 ≤ 9000; decide)
    exact ⟨rfl, this.1, rfl, this.2.1, this.2.2⟩
  | ok d =>
    obtain ⟨hp, hs⟩ := rdAll_P hr
    have := pr "told" d 12 (by decide +kernel) hp (by decide) (by omega)
    obtain ⟨cl, cy, _⟩ := plain_facts d 12 hp
    refine ⟨?_, this.1, ?_, this.2.1, this.2.2⟩
    · show (true && (d.clean && true)) = true
      rw [cl]
      rfl
    · show (false || (d.py.hasDict || false)) = false
      rw [PyData.hasDict_of_canLay _ cy]
      rfl
theorem told_fine {d : K0.D} (h : d.plain 12 = true) : (K0.D.tup [.str "told", d]).fine 20 = true := by
  obtain ⟨a, b, c, _⟩ := plain_facts d 12 h
  show ((true && (d.clean && true)) && (PyData.canLay0 (.str "told") && (d.py.canLay0 && true)) && decide (max 0 (max d.py.depth 0) + 1 ≤ 20)) = true
  rw [a, b, decide_eq_true (by omega)]
  decide +kernel
theorem ev_reprD {K : PySem.W.Frag} {te : TE} {σ : L2.St} {H : Hp} {ds : List K0.D} (h : EvD K te σ H (.tup ds)) (c : (K0.D.tup ds).clean = true) (h1 : (K0.D.tup ds).py.showable = true) (h2 : (K0.D.tup ds).py.hasDict = false) (h3 : (K0.D.tup ds).py.depth ≤ 60) (h4 : (K0.D.tup ds).py.shown.length ≤ sizeLine) :
    Ev (tCB (rRepr K) (tCons te tNil)) σ H (.str (K0.D.tup ds).py.shown) := fun H1 e Q q => h H1 e _ fun v H2 e2 rv => by
  obtain ⟨a, xs, rfl, hs, hr⟩ := rv.tupI
  exact n_nil ⟨a, _, rfl, rv.dp c, h1, h2, h3, h4, q H2 e2⟩
theorem res_tup (r : Except Nat K0.D) : ∃ ds, resD r = .tup ds := by
  cases r with
  | error e => exact ⟨_, rfl⟩
  | ok d => exact ⟨_, rfl⟩
theorem ev_reprR {K : PySem.W.Frag} {te : TE} {σ : L2.St} {H : Hp} {l : List Nat} (h : EvD K te σ H (resD (rdAll l))) (hl : l.length ≤ 9000) : Ev (tCB (rRepr K) (tCons te tNil)) σ H (.str (resD (rdAll l)).py.shown) := by
  have f := res_facts hl
  obtain ⟨ds, e⟩ := res_tup (rdAll l)
  rw [e] at h f ⊢
  exact ev_reprD h f.1 f.2.1 f.2.2.1 f.2.2.2.1 f.2.2.2.2
section
variable {P : Program} {w : World} {K : PySem.W.Frag} {mg : Str → Option Value} {base : Heap} {A : Ad} {D : Fd}
def sp_law_right (K : PySem.W.Frag) : Sp := fun vs H Q _ => ∃ a, vs = [.ref a] ∧ DiceAt H a ∧ ∀ H', Bt a H H' → DiceAt H' a → Q (.bl true) H'
theorem ok_law_right (T : Txt K mg A D) : FnG P w K mg base CX0 51 A.law_right D.law_right ["dice"] (sp_law_right K) := by
  have G_law_va_plain := ok_law_va_plain (P := P) (w := w) (base := base) T 3
  have G_law_va_text := ok_law_va_text (P := P) (w := w) (base := base) T 12
  have G_law_told := ok_law_told (P := P) (w := w) (base := base) T
  have G_law_due := ok_law_due (P := P) (w := w) (base := base) T
  have G_write_plain := ok_write_plainG (P := P) (w := w) (base := base) T
  have G_law_spoilt : FnOk P w K mg base CX0 3 A.law_spoilt D.law_spoilt ["dice", "text"] (sp_law_spoilt K) := ok_law_spoilt T
  refine okG T.F_law_right sc_law_right (fun vs H Q E h => by obtain ⟨a, rfl, _⟩ := h; rfl) (fun cdv A0 outer s H vs Q E _ gd hr h => ?_)
  refine ⟨_, PSs.nox (pss_cons (ps_par (i := 1) (j := 2) (by rfl) sc_law_right.nd rfl rfl (by decide) rfl rfl (pa_cons (pe_call G_law_va_plain (hr.mono (by decide)) rfl T.g_law_va_plain T.F_law_va_plain.kp T.b_law_va_plain .nil pass0 (pa_cons (pv 0) (pa_cons pe_int pa_nil))) (pa_cons (pe_call G_law_va_plain (hr.mono (by decide)) rfl T.g_law_va_plain T.F_law_va_plain.kp T.b_law_va_plain .nil pass0 (pa_cons (pv 0) (pa_cons pe_int pa_nil))) pa_nil)) (by rfl))
  (pss_cons (ps_set (i := 3) sc_law_right.nd rfl (Or.inl rfl) (pe_call G_write_plain (hr.mono (by decide)) rfl T.g_write_plain T.F_write_plain.kp T.b_write_plain .nil pass0 (pa_cons (pv 1) pa_nil)))
  (pss_cons (ps_if (PW.pt (pw_or (pt_cmpR op_ne (pv 3) (pe_call G_law_va_text (hr.mono (by decide)) rfl T.g_law_va_text T.F_law_va_text.kp T.b_law_va_text .nil pass0 (pa_cons (pv 1) pa_nil)) (nomark _)) (pw_or (pt_cmpR (op_neD hr.units) (pe_call G_law_told (hr.mono (by decide)) rfl T.g_law_told T.F_law_told.kp T.b_law_told .nil pass0 (pa_cons (pv 3) pa_nil)) (pe_tup (pa_cons pe_str (pa_cons (pv 1) pa_nil))) (nomark _)) (pw_or1 (pt_cmpR op_ne (pe_cmpR op_eq (pe_call G_write_plain (hr.mono (by decide)) rfl T.g_write_plain T.F_write_plain.kp T.b_write_plain .nil pass0 (pa_cons (pv 2) pa_nil)) (pv 3) (nomark _)) (pe_cmpR (op_eqD hr.units) (pv 2) (pv 1) (nomark _)) (nomark _)))))) (pss_one (ps_ret pe_bl)) pss_nil)
  (pss_cons (ps_for PassesOwn.never rfl (pi_range1 rfl T.b_range (pa_cons pe_int pa_nil)) (pg_name (i := 4) sc_law_right.nd rfl (Or.inl rfl)) (pss_cons (ps_set (i := 5) sc_law_right.nd rfl (Or.inl rfl) (pe_call G_law_spoilt (hr.mono (by decide)) rfl T.g_law_spoilt T.F_law_spoilt.kp T.b_law_spoilt .nil pass0 (pa_cons (pv 0) (pa_cons (pv 3) pa_nil))))
  (pss_one (ps_if (pt_cmpR op_ne (pe_callB (cr_repr gd hr.units) (by rfl) T.b_repr (by decide +kernel) (pa_cons (pe_call G_law_told (hr.mono (by decide)) rfl T.g_law_told T.F_law_told.kp T.b_law_told .nil pass0 (pa_cons (pv 5) pa_nil)) pa_nil)) (pe_callB (cr_repr gd hr.units) (by rfl) T.b_repr (by decide +kernel) (pa_cons (pe_call G_law_due (hr.mono (by decide)) rfl T.g_law_due T.F_law_due.kp T.b_law_due .nil pass0 (pa_cons (pv 5) pa_nil)) pa_nil)) (nomark _)) (pss_one (ps_ret pe_bl)) pss_nil))))
  (pss_one (ps_ret pe_bl)))))), ?_⟩
  obtain ⟨a, rfl, hd, k⟩ := h
  refine q_par (n_cons (c_call (ea_cons (ev_var rfl) (ea_cons ev_c ea_nil)) fun H1 e1 => ⟨a, rfl, hd.ex e1, fun v d H2 b2 d2 m2 c2 r2 => n_cons (c_call (ea_cons (ev_var rfl) (ea_cons ev_c ea_nil)) fun H3 e3 => ⟨a, rfl, d2.ex e3, fun u e H4 b4 d4 m4 c4 r4 => n_nil ⟨v, u, rfl, ?_⟩⟩)⟩))
  have b24 : Bt a H2 H4 := (Bt.of e3).trans b4
  have rv := r2.bt c2 d2 b24
  have b04 : Bt a H H4 := ((Bt.of e1).trans b2).trans b24
  have pd := plain4 m2.1
  have pe := plain4 m4.1
  have sd : d.size ≤ 40 := m2.2
  have se : e.size ≤ 40 := m4.2
  have td := text_len d 12 pd
  have sv : ∀ {x : V} {f : K0.D} {G : Hp}, Rp K G x f → f.size ≤ 40 → f.plain 12 = true → SpV (sp_write_plainG K) [x] G (.str (textD f)) := fun r hs hp G1 e1 Q1 q1 E1 => ⟨_, _, rfl, r.ex e1, by omega, hp, q1⟩
  refine q_asg (ev_call (ea_cons (ev_var rfl) ea_nil) (sv rv sd pd)) fun H5 e5 => ?_
  have tz : (textD d).cps.toList.length = (textD d).length := by simp [Str.length]
  have ed_told : ∀ {σ : L2.St} {G : Hp} {i : Nat} {y : Str} {E : XK}, σ[i]? = some (some (.str y)) → y.length ≤ 9000 → EvD K (tCall (sp_law_told K) [] E (tCons (tVar i) tNil)) σ G (resD (rdAll y.cps.toList)) := fun h hy =>
    ed_call (eda_cons (ed_ev (ev_var h) (.str _)) eda_nil) fun vs G1 e1 r Q1 q1 => by
      cases r with
      | cons r0 r1 =>
        cases r0
        cases r1
        exact ⟨_, rfl, by omega, q1⟩
  have ed_due : ∀ {σ : L2.St} {G : Hp} {i : Nat} {y : Str} {E : XK}, σ[i]? = some (some (.str y)) → y.length ≤ 9000 → EvD K (tCall (sp_law_due K) [] E (tCons (tVar i) tNil)) σ G (resD (rdAll y.cps.toList)) := fun h hy =>
    ed_call (eda_cons (ed_ev (ev_var h) (.str _)) eda_nil) fun vs G1 e1 r Q1 q1 => by
      cases r with
      | cons r0 r1 =>
        cases r0
        cases r1
        exact ⟨_, rfl, by omega, q1⟩
  refine q_when (b := false) (et_is (et_or (a := false) (b := false) (et_is (et_test (ev_op (ev_var rfl) (ev_call (ea_cons (ev_var rfl) ea_nil) fun G1 e1 Q1 q1 E1 => ⟨v, d, rfl, (rv.ex e5).ex e1, by omega, pd, q1⟩) (rv_ne rfl))) (by rw [decide_eq_true rfl]; rfl)) fun _ =>
    et_is (et_or (a := false) (b := false) (et_is (et_test (ev_neD (n := 20) (d := .tup [.str "told", d]) (e := .tup [.str "told", d]) (by have := ed_told (σ := [some (V.ref a), some v, some u, some (V.str (textD d)), none, none]) (G := H5) (i := 3) (y := textD d) (E := fun _ _ _ => False) rfl (by omega); rw [rdAll_text pd] at this; exact this) (ed_tup (eda_cons (ed_ev ev_c (.str _)) (eda_cons (ed_ev (ev_var rfl) (rv.ex e5)) eda_nil)) (by simp)) (told_fine pd) (told_fine pd) (by decide))) (by rw [eqv_self _ (fine_c (told_fine pd))]; rfl)) fun _ =>
      et_is (et_test (ev_op (ev_op (ev_call (ea_cons (ev_var rfl) ea_nil) (sv (r4.ex e5) se pe)) (ev_var rfl) (rv_eq rfl)) (ev_eqD (n := 13) (ed_ev (ev_var rfl) (r4.ex e5)) (ed_ev (ev_var rfl) (rv.ex e5)) (plain_fine pe) (plain_fine pd) (by decide)) (rv_ne rfl))) (by rw [text_eqv pe pd, decide_eq_true rfl]; rfl)) rfl) rfl) (fun zz => by cases zz) fun _ H6 e6 => ?_
  have d6 : DiceAt H6 a := d4.ex (e5.trans e6)
  have b06 : Bt a H H6 := b04.trans (Bt.of (e5.trans e6))
  refine q_forR1 (n := 8) (ea_cons ev_c ea_nil) (by decide) (fun i σ' H' => (∃ v4 v5, σ' = [some (.ref a), some v, some u, some (.str (textD d)), v4, v5]) ∧ Bt a H6 H' ∧ DiceAt H' a) (fun H7 e7 => ⟨⟨_, _, rfl⟩, Bt.of e7, d6.ex e7⟩) (fun i σ' H' hi g => ?_) (fun σ' H' g => ?_)
  · obtain ⟨⟨v4, v5, rfl⟩, b7, d7⟩ := g
    refine q_asgX (c_call (ea_cons (ev_var rfl) (ea_cons (ev_var rfl) ea_nil)) fun H8 e8 => ⟨a, textD d, rfl, d7.ex e8, by omega, fun y H9 b9 d9 hy => ?_⟩)
    have hyl : y.cps.toList.length = y.length := by simp [Str.length]
    refine s_when (b := false) (et_is (et_test (ev_op (ev_reprR (ed_told rfl (by omega)) (by omega)) (ev_reprR (ed_due rfl (by omega)) (by omega)) (rv_ne rfl))) (by rw [decide_eq_true rfl]; rfl)) (fun zz => by cases zz) fun _ H10 e10 => ?_
    exact ⟨⟨_, _, rfl⟩, ((b7.trans (Bt.of e8)).trans b9).trans (Bt.of e10), d9.ex e10⟩
  · obtain ⟨⟨v4, v5, rfl⟩, b7, d7⟩ := g
    exact s_ret ev_c fun H8 e8 => k H8 ((b06.trans b7).trans (Bt.of e8)) (d7.ex e8)
end
end K0

namespace K0
open PySem L2 Evl LamX
/-! ### laws of errors: lambdas in the law's own defs, what they meet (for any law) -/
def wordsD (a b : Str) : K0.D := .tup [.str a, .str b]
/-- which exceptions are told as which data -/
abbrev EKT := K0.D → Value → Option Addr → Hp → Prop
def TMG (K : PySem.W.Frag) (EK : EKT) (TF : Hp → VK → Prop) : (XK → Hp → VK → Prop) → Hp → VK → Prop := fun tl H Q => tl (fun cls dd H' => ∃ r, EK r cls dd H' ∧ RetR K r H' Q) H (fun _ H' => TF H' Q)
structure Ca where
  cR : Addr
  pR : Addr
  cL : Addr
  pL : Addr
def qR : Str := ("_law_right" : Str) ++ ".<locals>." ++ "<lambda>"
def qL : Str := ("law" : Str) ++ ".<locals>." ++ "<lambda>"
def Ca.tabs (ca : Ca) : List (Addr × Str) := [(ca.pR, qR), (ca.pL, qL)]
structure LamH (base : Heap) (mg : Str → Option Value) (D : Fd) (ca : Ca) : Prop where
  c_law_right : D.law_right.code = .ref ca.cR
  t_law_right : TabB base mg ca.cR ca.pR
  c_law : D.law.code = .ref ca.cL
  t_law : TabB base mg ca.cL ca.pL
  ne : ca.pR ≠ ca.pL
section
variable {P : Program} {w : World} {K : PySem.W.Frag} {mg : Str → Option Value} {base : Heap} {A : Ad} {D : Fd} {ca : Ca}
theorem LamH.m_law_right (_ : LamH base mg D ca) : (ca.pR, ("_law_right" : Str) ++ ".<locals>." ++ "<lambda>") ∈ ca.tabs := List.mem_cons_self
theorem LamH.m_law (_ : LamH base mg D ca) : (ca.pL, ("law" : Str) ++ ".<locals>." ++ "<lambda>") ∈ ca.tabs := List.mem_cons_of_mem _ List.mem_cons_self
theorem LamH.u_law_right (h : LamH base mg D ca) : ∀ p ∈ ca.tabs, p.1 = ca.pR → p.2 = ("_law_right" : Str) ++ ".<locals>." ++ "<lambda>" := fun p hp e => by
  rcases List.mem_cons.mp hp with rfl | hp
  · rfl
  · rcases List.mem_cons.mp hp with rfl | hp
    · exact absurd e.symm h.ne
    · cases hp
theorem LamH.u_law (h : LamH base mg D ca) : ∀ p ∈ ca.tabs, p.1 = ca.pL → p.2 = ("law" : Str) ++ ".<locals>." ++ "<lambda>" := fun p hp e => by
  rcases List.mem_cons.mp hp with rfl | hp
  · exact absurd e h.ne
  · rcases List.mem_cons.mp hp with rfl | hp
    · rfl
    · cases hp
/-- a def whose code object is known -/
theorem okL {x qual : Str} {st : Stmt} {f c : Addr} {fd : FuncData} {N ps : List Str} {k : Nat} {sp : Sp} (F : Fun K x qual st f fd) (hc : fd.code = .ref c) (S : FnScope N ps (defScope st)) (len : ∀ vs H Q E, sp vs H Q E → vs.length = ps.length)
    (hbody : ∀ (A : Around) (outer : List Env) (s : Shared) (H : Hp) (vs : List V) (Q : VK) (E : XK), Room k (A.deeper (PyProof.Rows.envOfC qual (defScope st) s.heap.objs.size f (.ref c))) → sp vs H Q E →
      ∃ t, PSs (cxOf CX0 P w K mg base N qual (defScope st) f (.ref c) A outer s H E).nox (defBody st) t ∧ t { nx := fun _ H' => Q .non H', rt := Q } (start N vs) H) : FnOk P w K mg base CX0 (k + 1) f fd ps sp := by
  obtain ⟨oc, od, kV, doc, pm, an, cdv, ct, osl, rfl, lk, hcd⟩ := F.ex
  obtain rfl : cdv = .ref c := hc
  refine fn_of lk hcd S len fun A outer s H vs Q E hr hsp => ?_
  obtain ⟨t, h, q⟩ := hbody A outer s H vs Q E hr hsp
  exact ⟨t, h.nox, q⟩
/-- the def that meets: g(lambda: body) -/
theorem pe_lmG {X : Cx} {x a : Str} {st : Stmt} {g : Addr} {fd : FuncData} {N : List Str} {TM : (XK → Hp → VK → Prop) → Hp → VK → Prop} {TT : List (Addr × Str)} {c P : Addr} {k : Nat} {params : Arguments} {body : Expr} {scope : Scope} {t : XK → TE} {p lpos pos : Pos}
    (hgx : X.mg x = some (.ref g)) (F : Fun X.K x x st g fd) (hb : Binds X.K fd [a] []) (S : FnScope N [a] (defScope st)) (h0 : N[0]? = some a) (hva : Vis (defScope st) a) (M : ∀ {q : Str} {cdg : Value}, GivesTo X N x (defScope st) g cdg (defBody st) a q TM)
    (TB : TabB X.base X.mg c P) (hcode : X.env.code = .ref c) (hmT : (P, X.env.qual ++ "<lambda>") ∈ TT) (hu : ∀ p ∈ TT, p.1 = P → p.2 = X.env.qual ++ "<lambda>")
    (hr : Room (k + 2) X.A) (L : lamSB X.env.scope scope = true) (hg : Gl X x) (hdef : defaultsOf params X.env = ([], []))
    (hbind : ∀ (q : Str) (cl : List (Str × Addr)) (pm cv ctv : Value), bindArgs (PySem.W.kla_fn "<lambda>" q params body scope cl pm cv ctv) ⟨[], []⟩ = pure [])
    (hbody : ∀ (A : Around) (outer : List Env) (s : Shared) (H : Hp) (E : XK) (f c' : Addr), Room k (A.deeper (lamEnv X scope s.heap.objs.size f c')) → PE (lamCx X A outer s H E scope f c') body (t E))
    (hdb : (x == ("__debug__" : Str)) = false := by decide) (hd : (a == ("__debug__" : Str)) = false := by decide) (hcd : (a == ("__classdict__" : Str)) = false := by decide) :
    PE X (.Call (.Name x p) [.Lambda params body scope lpos] [] pos) (tLam TT TM t) := by
  obtain ⟨oc, od, kV, doc, pm, an, cdv, ct, osl, e, lk, hcod⟩ := F.ex
  rw [e] at hb lk
  exact pe_lamcall hg hgx F.kp lk hcod hb S h0 hva M TB hcode hmT hu hr (lamS_by L) hdef hbind hbody hdb hd hcd
end
/-! ### what stays: all but the tables and the dice list (if there is one) -/
def BtO (o : Option Addr) (H H' : Hp) : Prop := ExtN (hid o H) (hid o H')
def DiceO (o : Option Addr) (H : Hp) : Prop := ∀ a, o = some a → DiceAt H a
section
variable {K : PySem.W.Frag} {H H' H'' : Hp} {a l : Addr} {o : Option Addr}
theorem sqT_extN {b : Addr} {xs : List V} (e : ExtN H H') (h : SqT K H b xs) : SqT K H' b xs := by
  rcases h with (h | ⟨o, h⟩) | h
  · exact .inl (.inl (e _ _ h fun ps z => by cases z))
  · exact .inl (.inr ⟨o, e _ _ h fun ps z => by cases z⟩)
  · exact .inr h
theorem sqL_extN {b : Addr} {xs : List V} (e : ExtN H H') (h : SqL K H b xs) : SqL K H' b xs := by
  rcases h with (h | ⟨o, h⟩) | h
  · exact .inl (.inl (e _ _ h fun ps z => by cases z))
  · exact .inl (.inr ⟨o, e _ _ h fun ps z => by cases z⟩)
  · exact .inr h
mutual
theorem Rp.extN {v : V} {d : K0.D} (e : ExtN H H') : Rp K H v d → Rp K H' v d
  | .non => .non
  | .bl b => .bl b
  | .int i => .int i
  | .str s => .str s
  | .tup h r => .tup (sqT_extN e h) (RpAll.extN e r)
  | .lst h => .lst (e _ _ h fun ps z => by cases z)
  | .dct h => .dct (e _ _ h fun ps z => by cases z)
theorem RpAll.extN {vs : List V} {ds : List K0.D} (e : ExtN H H') : RpAll K H vs ds → RpAll K H' vs ds
  | .nil => .nil
  | .cons h r => .cons (Rp.extN e h) (RpAll.extN e r)
end
theorem ext_of : ExtN (hid o H) H := ExtN.of hid_le
theorem hid_extN (e : ExtN H H') : ExtN (hid o H) (hid o H') := fun b u h n => by
  unfold hid at h ⊢
  split at h
  · cases h
  · rename_i m
    rw [if_neg m]
    exact e b u h n
theorem BtO.refl : BtO o H H := ExtN.refl _
theorem BtO.trans (h : BtO o H H') (h' : BtO o H' H'') : BtO o H H'' := ExtN.trans h h'
theorem BtO.ofN (e : ExtN H H') : BtO o H H' := hid_extN e
theorem BtO.ofE (e : Ex H H') : BtO o H H' := BtO.ofN (ExtN.of e)
theorem BtO.ofB (e : Bt a H H') : BtO (some a) H H' := ExtN.of e
theorem BtO.at_ {b : Addr} {u : HO} (e : BtO o H H') (n : ∀ a, o = some a → b ≠ a) (nt : ∀ ps, u ≠ .tbl ps) (h : H b = some u) : H' b = some u := by
  have hb : hid o H b = some u := by
    unfold hid
    rw [if_neg fun z => n b z rfl]
    exact h
  exact hid_le _ _ (e _ _ hb nt)
theorem BtO.ne (hd : DiceO o H) {b : Addr} {u : HO} (h : H b = some u) (n : ∀ zs, u ≠ .lst zs) : ∀ a, o = some a → b ≠ a := fun a ha z => by
  obtain ⟨x, y, w, hz⟩ := hd a ha
  rw [z, hz] at h
  exact n _ (Option.some.inj h).symm
theorem BtO.sqT (hd : DiceO o H) (e : BtO o H H') {b : Addr} {xs : List V} (h : SqT K H b xs) : SqT K H' b xs := by
  rcases h with (h | ⟨q, h⟩) | h
  · exact .inl (.inl (e.at_ (BtO.ne hd h fun zs z => by cases z) (fun ps z => by cases z) h))
  · exact .inl (.inr ⟨q, e.at_ (BtO.ne hd h fun zs z => by cases z) (fun ps z => by cases z) h⟩)
  · exact .inr h
theorem DiceO.extN (e : ExtN H H') (h : DiceO o H) : DiceO o H' := fun a ha => by
  obtain ⟨x, y, z, h⟩ := h a ha
  exact ⟨x, y, z, e _ _ h fun ps z => by cases z⟩
theorem DiceO.ex (e : Ex H H') (h : DiceO o H) : DiceO o H' := DiceO.extN (ExtN.of e) h
theorem DiceO.of (h : DiceAt H a) : DiceO (some a) H := fun b hb => by cases hb; exact h
theorem DiceO.get (h : DiceO (some a) H) : DiceAt H a := h a rfl
theorem DiceO.none : DiceO none H := fun b hb => by cases hb
/-- nothing, or a table -/
def FreeN (H : Hp) (l : Addr) : Prop := ∀ o, H l = some o → ∃ ps, o = .tbl ps
theorem BtO.mutF {u : HO} (e : BtO o H H') (h : FreeN H l) : BtO o H (L2.upd H' l u) := fun b v g n => by
  have nl : b ≠ l := fun z => by
    have h2 := hid_le _ _ g
    rw [z] at h2
    obtain ⟨ps, hp⟩ := h v h2
    exact n ps hp
  have g2 := e b v g n
  unfold hid at g2 ⊢
  split at g2
  · cases g2
  · rename_i m
    rw [if_neg m, upd_ne nl]
    exact g2
theorem tabs_lst {T : List (Addr × Str)} {xs ys : List V} (hl : H l = some (.lst xs)) (h : Tabs T H) : Tabs T (L2.upd H l (.lst ys)) := fun p hp => by
  obtain ⟨ps, a1, a2, a3⟩ := h p hp
  have ne : ∀ {b : Addr} {o : HO}, H b = some o → (∀ zs, o ≠ .lst zs) → b ≠ l := fun g n z => by
    rw [z, hl] at g
    exact n _ (Option.some.inj g).symm
  refine ⟨ps, by rw [upd_ne (ne a1 fun zs z => by cases z)]; exact a1, a2, fun pos cv hc => ?_⟩
  obtain ⟨c, e1, e2⟩ := a3 pos cv hc
  exact ⟨c, e1, by rw [upd_ne (ne e2 fun zs z => by unfold CodeO at z; cases z)]; exact e2⟩
theorem tabs_bt {T : List (Addr × Str)} (hd : DiceAt H a) (b : Bt a H H') (h : Tabs T H) : Tabs T H' := fun p hp => by
  obtain ⟨ps, a1, a2, a3⟩ := h p hp
  obtain ⟨x, y, z, hz⟩ := hd
  have ne : ∀ {b : Addr} {o : HO}, H b = some o → (∀ zs, o ≠ .lst zs) → b ≠ a := fun g n z => by
    rw [z, hz] at g
    exact n _ (Option.some.inj g).symm
  refine ⟨ps, b.at (ne a1 fun zs z => by cases z) a1, a2, fun pos cv hc => ?_⟩
  obtain ⟨c, e1, e2⟩ := a3 pos cv hc
  exact ⟨c, e1, b.at (ne e2 fun zs z => by unfold CodeO at z; cases z) e2⟩
theorem sq_btO {p b : Addr} {xs : List V} {H1 : Hp} (hp : H p = none) (h : SqL K H b xs) (e : Ex H H1) (g : BtO (some p) H1 H') : SqL K H' b xs := by
  rcases h with (h | ⟨o, h⟩) | h
  · exact .inl (.inl (g.at_ (fun a ha => by cases ha; exact ne_of_none h hp) (fun ps z => by cases z) (e _ _ h)))
  · exact .inl (.inr ⟨o, g.at_ (fun a ha => by cases ha; exact ne_of_none h hp) (fun ps z => by cases z) (e _ _ h)⟩)
  · exact .inr h
end
/-! ### facts beside the dice list -/
structure MonoN (N : Hp → V → Prop) : Prop where
  m : ∀ {H H' : Hp} {v : V}, ExtN H H' → N H v → N H' v
/-- what is true of v where the dice list is hidden -/
def Off (o : Option Addr) (N : Hp → V → Prop) : Hp → V → Prop := fun H v => N (hid o H) v
structure MonoQ (M : Hp → V → Prop) : Prop where
  m : ∀ {H H' : Hp} {v : V}, Ex H H' → M H v → M H' v
theorem MonoN.q {N : Hp → V → Prop} (h : MonoN N) : MonoQ N := ⟨fun e m => h.m (ExtN.of e) m⟩
theorem MonoN.off {N : Hp → V → Prop} {o : Option Addr} (h : MonoN N) : MonoQ (Off o N) := ⟨fun e m => h.m (ExtN.of (hid_ex e)) m⟩
theorem Off.get {N : Hp → V → Prop} {v : V} {o : Option Addr} {H H' : Hp} (mo : MonoN N) (e : BtO o H H') (h : Off o N H v) : N H' v := mo.m ext_of (mo.m e h)
theorem Off.bt {N : Hp → V → Prop} {v : V} {o : Option Addr} {H H' : Hp} (mo : MonoN N) (e : BtO o H H') (h : Off o N H v) : Off o N H' v := mo.m e h
def EvQ (M : Hp → V → Prop) (te : TE) (σ : L2.St) (H : Hp) : Prop := ∀ H1, Ex H H1 → ∀ Q : VK, (∀ v H2, Ex H1 H2 → M H2 v → Q v H2) → te σ H1 Q
def EvQL (M : Hp → V → Prop) (te : TE) (σ : L2.St) (H : Hp) (n : Nat) : Prop := ∀ H1, Ex H H1 → ∀ Q : VK, (∀ p xs H2, H1 p = none → Ex H1 H2 → H2 p = some (.lst xs) → (∀ v ∈ xs, M H2 v) → xs.length = n → Q (.ref p) H2) → te σ H1 Q
def EvQA (M : Hp → V → Prop) (ta : TA) (σ : L2.St) (H : Hp) (n : Nat) : Prop := ∀ H1, Ex H H1 → ∀ Q : List V → Hp → Prop, (∀ vs H2, Ex H1 H2 → (∀ v ∈ vs, M H2 v) → vs.length = n → Q vs H2) → ta σ H1 Q
section
variable {K : PySem.W.Frag} {σ : L2.St} {H H' : Hp} {ta tb te : TE} {tr : TA} {x y z v : V} {d e : K0.D} {ds es : List K0.D} {M N : Hp → V → Prop} {a p : Addr} {n m : Nat} {o : Option Addr}
theorem qa_nil : EvQA M tNil σ H 0 := fun H1 e Q q => q [] H1 (Ex.refl _) (fun v hv => by cases hv) rfl
theorem qa_cons (mo : MonoQ M) (h : EvQ M te σ H) (r : EvQA M tr σ H n) : EvQA M (tCons te tr) σ H (n + 1) := fun H1 e Q q =>
  h H1 e _ fun v H2 e2 m => r H2 (e.trans e2) _ fun vs H3 e3 ms l => q (v :: vs) H3 (e2.trans e3) (fun u hu => by
    rcases List.mem_cons.mp hu with rfl | hu
    · exact mo.m e3 m
    · exact ms u hu) (by rw [List.length_cons, l])
theorem ql_lst (mo : MonoQ M) (h : EvQA M tr σ H n) (hn : n ≤ 1000) : EvQL M (tLst tr) σ H n := fun H1 e Q q =>
  h H1 e _ fun vs H2 e2 ms l => ⟨sz_of (by omega), fun p hp => q p vs _ (fresh_back e2 hp) (e2.trans (Ex.new hp)) upd_same (fun v hv => mo.m (Ex.new hp) (ms v hv)) l⟩
theorem ql_cat {xs : List V} (mo : MonoQ M) (hv : Ev ta σ H (.ref p)) (hp : H p = some (.lst xs)) (hx : ∀ v ∈ xs, M H v) (h : EvQL M te σ H n) (hn : xs.length + n ≤ 1000) : EvQL M (tOp rCat ta te) σ H (xs.length + n) := fun H1 e Q q =>
  hv H1 e _ fun H2 e2 => h H2 (e.trans e2) _ fun r zs H3 hr e3 h3 ms l => ⟨p, r, xs, zs, rfl, rfl, ((e.trans e2).trans e3) _ _ hp, h3, sz_of (by omega), fun t ht =>
    q t _ _ (fresh_back (e2.trans e3) ht) ((e2.trans e3).trans (Ex.new ht)) upd_same (fun v hv => by
      rcases List.mem_append.mp hv with hv | hv
      · exact mo.m (((e.trans e2).trans e3).trans (Ex.new ht)) (hx v hv)
      · exact mo.m (Ex.new ht) (ms v hv)) (by rw [List.length_append, l])⟩
/-- _law_pick(dice, [..]): one of them -/
theorem c_pick {E : XK} {Q : VK} (mo : MonoN N) (hv : σ[0]? = some (some (.ref a))) (hd : DiceAt H a) (h : EvQL (Off (some a) N) te σ H n) (n0 : 0 < n) (hn : n ≤ 1000)
    (k : ∀ x H2, Bt a H H2 → DiceAt H2 a → Off (some a) N H2 x → Q x H2) : tCall (sp_law_pick K) [] E (tCons (tVar 0) (tCons te tNil)) σ H Q := by
  refine d_raw (n_cons (n_var hv (n_cons ?_)))
  refine h H (Ex.refl _) _ fun p xs H2 hp e2 h2 ms l => n_nil ⟨a, p, xs, rfl, hd.ex e2, hd.ne hp, sq_of h2, (fun z => by rw [z] at l; simp at l; omega), by omega, fun x H3 hx b3 d3 => ?_⟩
  exact k x H3 ((Bt.of e2).trans b3) d3 (mo.m (ExtN.of b3) (ms x hx))
theorem q_pick {E : XK} {D : Ends} {tz : TS} {i : Nat} (mo : MonoN N) (hv : σ[0]? = some (some (.ref a))) (hd : DiceAt H a) (h : EvQL (Off (some a) N) te σ H n) (n0 : 0 < n) (hn : n ≤ 1000)
    (k : ∀ x H2, Bt a H H2 → DiceAt H2 a → Off (some a) N H2 x → tz D (σ.set i (some x)) H2) : tSeq (tAsg (tCall (sp_law_pick K) [] E (tCons (tVar 0) (tCons te tNil))) (gName i)) tz D σ H := c_pick mo hv hd h n0 hn k
/-! ### data there -/
def Al (o : Option Addr) (H : Hp) : Prop := ∀ a, o = some a → ∃ u, H a = some u
theorem Al.ex (e : Ex H H') (h : Al o H) : Al o H' := fun a ha => let ⟨u, hu⟩ := h a ha; ⟨u, e _ _ hu⟩
theorem Al.ne (h : Al o H) (hp : H p = none) : ∀ a, o = some a → p ≠ a := fun a ha z => by
  obtain ⟨u, hu⟩ := h a ha
  rw [← z, hp] at hu
  cases hu
theorem Al.of (h : DiceAt H a) : Al (some a) H := fun b hb => by
  cases hb
  obtain ⟨x, y, z, hz⟩ := h
  exact ⟨_, hz⟩
theorem Al.none : Al none H := fun b hb => by cases hb
theorem hidO_at {b : Addr} {u : HO} (h : H b = some u) (n : ∀ a, o = some a → b ≠ a) : hid o H b = some u := by
  unfold hid
  rw [if_neg fun z => n b z rfl]
  exact h
abbrev RpO (K : PySem.W.Frag) (o : Option Addr) (d : K0.D) : Hp → V → Prop := Off o fun H v => Rp K H v d
def EvH (K : PySem.W.Frag) (o : Option Addr) (te : TE) (σ : L2.St) (H : Hp) (d : K0.D) : Prop := EvQ (RpO K o d) te σ H
def EvHA (K : PySem.W.Frag) (o : Option Addr) (ta : TA) (σ : L2.St) (H : Hp) (ds : List K0.D) : Prop := ∀ H1, Ex H H1 → ∀ Q : List V → Hp → Prop, (∀ vs H2, Ex H1 H2 → RpAll K (hid o H2) vs ds → Q vs H2) → ta σ H1 Q
theorem rpN {d : K0.D} : MonoN fun H v => Rp K H v d := ⟨fun e h => h.extN e⟩
theorem h_ev (h : Ev te σ H v) (r : ∀ H, Rp K H v d) : EvH K o te σ H d := fun H1 e Q q => h H1 e Q fun H2 e2 => q v H2 e2 (r _)
theorem h_int {i : Int} : EvH K o (tC (.int i)) σ H (.int i) := h_ev ev_c fun _ => .int i
theorem h_neg {i : Int} : EvH K o (tUn (rU fun i => .int (-i)) (tC (.int i))) σ H (.int (-i)) := h_ev (ev_un ev_c ru_neg) fun _ => .int _
theorem h_str {s : Str} : EvH K o (tC (.str s)) σ H (.str s) := h_ev ev_c fun _ => .str s
theorem h_non : EvH K o (tC .non) σ H .non := h_ev ev_c fun _ => .non
theorem h_bl {b : Bool} : EvH K o (tC (.bl b)) σ H (.bl b) := h_ev ev_c fun _ => .bl b
theorem h_var {i : Nat} (h : σ[i]? = some (some v)) (r : RpO K o d H v) : EvH K o (tVar i) σ H d := fun H1 e Q q => ev_var h H1 e Q fun H2 e2 => q v H2 e2 (Rp.ex (hid_ex (e.trans e2)) r)
theorem ha_nil : EvHA K o tNil σ H [] := fun H1 e Q q => q [] H1 (Ex.refl _) .nil
theorem ha_cons (h : EvH K o te σ H d) (r : EvHA K o tr σ H ds) : EvHA K o (tCons te tr) σ H (d :: ds) := fun H1 e Q q =>
  h H1 e _ fun v H2 e2 hv => r H2 (e.trans e2) _ fun vs H3 e3 hs => q (v :: vs) H3 (e2.trans e3) (.cons (Rp.ex (hid_ex e3) hv) hs)
theorem h_tup (al : Al o H) (h : EvHA K o tr σ H ds) (l : ds.length ≤ 1000) : EvH K o (tTup tr) σ H (.tup ds) := fun H1 e Q q =>
  h H1 e _ fun vs H2 e2 hs => ⟨by rw [hs.len]; exact sz_of (by omega), fun p hp => q (.ref p) _ (e2.trans (Ex.new hp)) (.tup (st_of (hidO_at upd_same ((al.ex (e.trans e2)).ne hp))) (RpAll.ex (hid_ex (Ex.new hp)) hs))⟩
theorem h_lst (al : Al o H) (h : EvHA K o tr σ H ds) (l : ds.length ≤ 1000) : EvH K o (tLst tr) σ H .oth := fun H1 e Q q =>
  h H1 e _ fun vs H2 e2 hs => ⟨by rw [hs.len]; exact sz_of (by omega), fun p hp => q (.ref p) _ (e2.trans (Ex.new hp)) (.lst (hidO_at upd_same ((al.ex (e.trans e2)).ne hp)))⟩
theorem h_dict0 (al : Al o H) : EvH K o tDNewK σ H .oth := fun H1 e Q q p hp => q (.ref p) _ (Ex.new hp) (.dct (hidO_at upd_same ((al.ex e).ne hp)))
theorem h_q {N : Hp → V → Prop} (h : EvH K o te σ H d) (k : ∀ H v, Rp K H v d → N H v) : EvQ (Off o N) te σ H := fun H1 e Q q => h H1 e Q fun v H2 e2 r => q v H2 e2 (k _ _ r)
end
/-! ### told: a list that grows by what lambdas meet -/
structure TIG (K : PySem.W.Frag) (T : List (Addr × Str)) (H0 : Hp) (o : Option Addr) (l : Addr) (ds : List K0.D) (H : Hp) : Prop where
  bt : BtO o H0 H
  dice : DiceO o H
  tabs : Tabs T H
  fr : FreeN H0 l
  na : ∀ a, o = some a → l ≠ a
  lst : ∃ vs, H l = some (.lst vs) ∧ RpAll K H vs ds
section
variable {K : PySem.W.Frag} {σ : L2.St} {H H0 H1 H' : Hp} {ta te : TE} {tr : TA} {sp : Sp} {Q : VK} {T : List (Addr × Str)} {D : Ends} {tz : TS} {i : Nat} {a l : Addr} {ds : List K0.D} {r fine : K0.D} {EK : EKT} {TF : Hp → VK → Prop} {o : Option Addr} {t : XK → TE}
theorem TIG.ex (e : Ex H H') (h : TIG K T H0 o l ds H) : TIG K T H0 o l ds H' := by
  obtain ⟨vs, h1, h2⟩ := h.lst
  exact ⟨h.bt.trans (BtO.ofE e), h.dice.ex e, h.tabs.ext e, h.fr, h.na, vs, e _ _ h1, h2.ex e⟩
/-- what a lambda's body is to do -/
def LamDo (T : List (Addr × Str)) (EK : EKT) (fine r : K0.D) (o : Option Addr) (H0 : Hp) (t : XK → TE) (σ : L2.St) : Prop :=
  ∀ H1 (E : XK), BtO o H0 H1 → DiceO o H1 → Tabs T H1 → (∀ cls dd H2, BtO o H1 H2 → DiceO o H2 → Tabs T H2 → EK r cls dd H2 → E cls dd H2) → ∀ Q : VK, (∀ v H2, BtO o H1 H2 → DiceO o H2 → Tabs T H2 → r = fine → Q v H2) → t E σ H1 Q
theorem n_lamG (hF : ∀ H Q, RetR K fine H Q → TF H Q) (hd : DiceO o H) (ht : Tabs T H) (h : LamDo T EK fine r o H t σ) (k : ∀ v H2, BtO o H H2 → DiceO o H2 → Tabs T H2 → Rp K H2 v r → Q v H2) : tLam T (TMG K EK TF) t σ H Q :=
  ⟨ht, fun H1 e1 T1 => h H1 _ (BtO.ofN e1) (hd.extN e1) T1 (fun cls dd H2 b2 d2 t2 ek => ⟨r, ek, fun v H3 e3 rv => k v H3 (((BtO.ofN e1).trans b2).trans (BtO.ofE e3)) (d2.ex e3) (t2.ext e3) rv⟩) _
    fun v H2 b2 d2 t2 er => hF _ _ fun v H3 e3 rv => k v H3 (((BtO.ofN e1).trans b2).trans (BtO.ofE e3)) (d2.ex e3) (t2.ext e3) (by rw [er]; exact rv)⟩
theorem LamDo.bt (b : BtO o H0 H) (h : LamDo T EK fine r o H0 t σ) : LamDo T EK fine r o H t σ := fun H1 E b1 => h H1 E (b.trans b1)
theorem q_told0 (hF : ∀ H Q, RetR K fine H Q → TF H Q) (hd : DiceO o H) (ht : Tabs T H) (h : LamDo T EK fine r o H t σ) (k : ∀ l H1, TIG K T H o l [r] H1 → tz D (σ.set i (some (.ref l))) H1) : tSeq (tAsg (tLst (tCons (tLam T (TMG K EK TF) t) tNil)) (gName i)) tz D σ H :=
  n_lamG hF hd ht h fun v H1 b1 d1 t1 rv => ⟨sz_of (by simp), fun p hp => k p _ ⟨b1.trans (BtO.ofE (Ex.new hp)), d1.ex (Ex.new hp), t1.ext (Ex.new hp), (fun u hu => by
    by_cases nt : ∃ ps, u = .tbl ps
    · exact nt
    · have hne : ∀ a, o = some a → p ≠ a := fun a ha z => by
        obtain ⟨x, y, w, hz⟩ := d1 a ha
        rw [← z, hp] at hz
        cases hz
      have := b1.at_ hne (fun ps z => nt ⟨ps, z⟩) hu
      rw [hp] at this
      cases this), (fun a ha z => by
      obtain ⟨x, y, w, hz⟩ := d1 a ha
      rw [← z, hp] at hz
      cases hz), [v], upd_same, .cons (rv.ex (Ex.new hp)) .nil⟩⟩
theorem q_toldA (hF : ∀ H Q, RetR K fine H Q → TF H Q) (hv : σ[i]? = some (some (.ref l))) (hl : ds.length ≤ 1000) (hc : K0.D.cleanL ds = true) (hr : r.clean = true) (I : TIG K T H0 o l ds H) (h : LamDo T EK fine r o H0 t σ)
    (k : ∀ H1, TIG K T H0 o l (ds ++ [r]) H1 → tz D σ H1) : tSeq (tDrop (tBM K "list" rAppend (tVar i) (tCons (tLam T (TMG K EK TF) t) tNil))) tz D σ H := by
  obtain ⟨vs, hvs, rvs⟩ := I.lst
  have lv : vs.length = ds.length := rvs.len
  refine ⟨.ref l, hv, Or.inl ⟨rfl, vs, sq_of hvs⟩, n_lamG (K := K) hF I.dice I.tabs (h.bt I.bt) fun v H1 b1 d1 t1 rv => ?_⟩
  have h1 : H1 l = some (.lst vs) := b1.at_ I.na (fun ps z => by cases z) hvs
  refine ⟨l, vs, v, rfl, rfl, h1, sz_lt (by omega), k _ ⟨(I.bt.trans b1).mutF I.fr, ?_, tabs_lst h1 t1, I.fr, I.na, _, upd_same, ?_⟩⟩
  · intro a ha
    obtain ⟨x, y, z, hz⟩ := d1 a ha
    exact ⟨x, y, z, by rw [upd_ne (I.na a ha).symm]; exact hz⟩
  · exact (rvs.byT hc fun _ _ g => sqT_lst h1 (BtO.sqT I.dice b1 g)).app (.cons (rv.byT hr fun _ _ g => sqT_lst h1 g) .nil)
end
end K0

namespace K0
namespace G
open PySem PySem.Spec PyProof.Rows L2 Evl
/-! ### lists of data (the generic part, for laws of errors) -/
section
variable {K : PySem.W.Frag} {σ : L2.St} {H H1 : Hp} {te tl : TE} {t : TT} {vs : List Nat} {j : Nat} {Q : VK}
theorem lc_dataF {α : Type} {J : It} {Gd : Hp → Prop} {ys : List α} {f : α → V} {Pk : α → Bool} {G : α → D} (w : Walk J ys.length Gd (YAt (ys.map f))) (hG : ∀ H', Ex H1 H' → Gd H') (hz : ys.length ≤ 40000)
    (hw : ∀ x, wipe ((wipe σ vs).set j (some x)) vs = wipe σ vs)
    (ht : ∀ y H', y ∈ ys → Ex H1 H' → EvT t ((wipe σ vs).set j (some (f y))) H' (Pk y)) (he : ∀ y H', y ∈ ys → Pk y = true → Ex H1 H' → EvD K te ((wipe σ vs).set j (some (f y))) H' (G y))
    (q : ∀ p xs H2, H1 p = none → Ex H1 H2 → H2 p = some (.lst xs) → RpAll K H2 xs ((ys.filter Pk).map G) → Q (.ref p) H2) :
    ∀ Dl, H1 Dl = none → ∃ W : Nat → Nat → Hp → Prop, (∃ m, W 0 m (upd H1 Dl (.lst []))) ∧ ∀ i m H, W i m H → (J.stop i H ∧ Q (.ref Dl) H) ∨ (J.go i H ∧ ∃ Nx : Hp → Prop, (∀ H', Nx H' → ∃ m', m' < m ∧ W (i + 1) m' H') ∧
      ∀ x H', J.yld i H x H' → gName j x (wipe σ vs) H' fun σ2 H2 => wipe σ2 vs = wipe σ vs ∧ t σ2 H2 fun b H3 => if b = true then te σ2 H3 fun y H4 => ∃ acc, H4 Dl = some (.lst acc) ∧ acc.length < sizeLine ∧ Nx (upd H4 Dl (.lst (acc ++ [y]))) else Nx H3) := fun Dl hD => by
  refine lc_it w (fun i H' => i ≤ ys.length ∧ ∃ acc, H' Dl = some (.lst acc) ∧ RpAll K H' acc (((ys.take i).filter Pk).map G) ∧ Ex H1 H') ⟨Nat.zero_le _, [], upd_same, .nil, Ex.new hD⟩ (fun i H' _ p => hG H' p.2.choose_spec.2.2) (fun i x H' H'' hi p y => ?_) (fun H' p => ?_)
  · obtain ⟨_, acc, p1, p2, p3⟩ := p
    obtain ⟨rfl, hx⟩ := y
    rw [List.getElem?_map, List.getElem?_eq_getElem hi] at hx
    have hx' : f ys[i] = x := Option.some.inj hx
    subst hx'
    have hm : ys[i] ∈ ys := List.getElem_mem hi
    have et : ys.take (i + 1) = ys.take i ++ [ys[i]] := by rw [List.take_succ, List.getElem?_eq_getElem hi]; rfl
    refine ⟨hw _, ht ys[i] H'' hm p3 H'' (Ex.refl _) _ fun H3 e3 => ?_⟩
    have hal : acc.length ≤ i := by
      rw [p2.len, List.length_map]
      refine Nat.le_trans (List.length_filter_le _ _) ?_
      rw [List.length_take]
      omega
    cases hk : Pk ys[i] with
    | true =>
      rw [if_pos rfl]
      refine he ys[i] H3 hm hk (p3.trans e3) H3 (Ex.refl _) _ fun v H4 e4 hv => ?_
      have h4 := e4 _ _ (e3 _ _ p1)
      refine ⟨acc, h4, sz_lt (by omega), hi, acc ++ [v], upd_same, ?_, Ex.mut ((p3.trans e3).trans e4) hD⟩
      rw [et, List.filter_append, List.map_append, show [ys[i]].filter Pk = [ys[i]] from by rw [List.filter_cons, if_pos hk]; rfl]
      exact ((p2.ex (e3.trans e4)).app (.cons hv .nil)).exL (ExL.upd h4)
    | false =>
      rw [if_neg (by decide)]
      refine ⟨hi, acc, e3 _ _ p1, ?_, p3.trans e3⟩
      rw [et, List.filter_append, show [ys[i]].filter Pk = [] from by rw [List.filter_cons, if_neg (by rw [hk]; decide)]; rfl, List.append_nil]
      exact p2.ex e3
  · obtain ⟨_, acc, p1, p2, p3⟩ := p
    rw [List.take_length] at p2
    exact q Dl acc H' hD p3 p1 p2
/-- .. as what evaluates to a new list of data, over a list that stands -/
theorem edl_listF {α : Type} {a : Addr} {ys : List α} {f : α → V} {Pk : α → Bool} {G : α → D} (h : Ev tl σ H (.ref a)) (hx : SqL K H a (ys.map f)) (hz : ys.length ≤ 40000) (hw : ∀ x, wipe ((wipe σ vs).set j (some x)) vs = wipe σ vs)
    (ht : ∀ y H', y ∈ ys → Ex H H' → EvT t ((wipe σ vs).set j (some (f y))) H' (Pk y)) (he : ∀ y H', y ∈ ys → Pk y = true → Ex H H' → EvD K te ((wipe σ vs).set j (some (f y))) H' (G y)) :
    EvDL K (tLc (iList K tl) (gName j) t te vs) σ H ((ys.filter Pk).map G) := fun H0 e Q q => h H0 e _ fun H1 e1 => by
  have wk := walk_list (K := K) (a := a) (xs := ys.map f)
  rw [List.length_map] at wk
  exact ⟨a, rfl, ⟨_, ex_l (e.trans e1) hx⟩, lc_dataF wk (fun H' e' => ex_l ((e.trans e1).trans e') hx) hz hw (fun y H' hy e' => ht y H' hy ((e.trans e1).trans e')) (fun y H' hy hk e' => he y H' hy hk ((e.trans e1).trans e')) fun p xs H2 hp e2 h2 r => q p xs H2 (fresh_back e1 hp) (e1.trans e2) h2 r⟩
end
section
variable {K : PySem.W.Frag} {σ : L2.St} {H H' : Hp} {te ta tb : TE} {a : Addr} {ds es : List D} {M : Hp → V → Prop} {n : Nat}
theorem edl_cat (h1 : EvDL K ta σ H ds) (h2 : EvDL K tb σ H es) (l : ds.length + es.length ≤ 100000) : EvDL K (tOp rCat ta tb) σ H (ds ++ es) := fun H1 e Q q =>
  h1 H1 e _ fun p xs H2 hp e2 h3 r3 => h2 H2 (e.trans e2) _ fun p' ys H3 hp' e3 h4 r4 => ⟨p, p', xs, ys, rfl, rfl, e3 _ _ h3, h4, by rw [r3.len, r4.len]; exact sz_of l, fun q' hq => q q' _ _ (fresh_back (e2.trans e3) hq) ((e2.trans e3).trans (Ex.new hq)) upd_same (((r3.ex e3).app r4).ex (Ex.new hq))⟩
theorem edl_lst {tr : TA} (h : EvDA K tr σ H ds) (l : ds.length ≤ 1000) : EvDL K (tLst tr) σ H ds := fun H1 e Q q =>
  h H1 e _ fun vs H2 e2 r2 => ⟨by rw [r2.len]; exact sz_of (by omega), fun p hp => q p vs _ (fresh_back e2 hp) (e2.trans (Ex.new hp)) upd_same (r2.ex (Ex.new hp))⟩
theorem ev_eqDL {a : Addr} {xs : List V} {n : Nat} (h1 : Ev ta σ H (.ref a)) (hx : H a = some (.lst xs)) (rx : RpAll K H xs ds) (h2 : EvDL K tb σ H es) (fd : ∀ d ∈ ds, d.fine n = true) (fe : ∀ d ∈ es, d.fine n = true) (hn : n + 1 ≤ 64) :
    Ev (tOp (rEqD K) ta tb) σ H (.bl (PyData.eqvAll (K0.D.pyL ds) (K0.D.pyL es))) := fun H1 e Q q => h1 H1 e _ fun H2 e2 => h2 H2 (e.trans e2) _ fun p ys H3 hp e3 h3 ry =>
  ⟨.list (K0.D.pyL ds), .list (K0.D.pyL es), dpL (((e.trans e2).trans e3) _ _ hx) (rx.ex ((e.trans e2).trans e3)) (fine_all ds fd).1, dpL h3 ry (fine_all es fe).1, shapedL_of fd hn, shapedL_of fe hn, q H3 (e2.trans e3)⟩
/-- two new lists of data compared -/
theorem ev_neLN {n : Nat} (h1 : EvDL K ta σ H ds) (h2 : EvDL K tb σ H es) (fd : ∀ d ∈ ds, d.fine n = true) (fe : ∀ d ∈ es, d.fine n = true) (hn : n + 1 ≤ 64) :
    Ev (tOp (rNeD K) ta tb) σ H (.bl (!PyData.eqvAll (K0.D.pyL ds) (K0.D.pyL es))) := fun H1 e Q q => h1 H1 e _ fun p0 xs H2 hp0 e2 hx rx => h2 H2 (e.trans e2) _ fun p ys H3 hp e3 h3 ry =>
  ⟨.list (K0.D.pyL ds), .list (K0.D.pyL es), dpL (e3 _ _ hx) (rx.ex e3) (fine_all ds fd).1, dpL h3 ry (fine_all es fe).1, shapedL_of fd hn, shapedL_of fe hn, q H3 (e2.trans e3)⟩
theorem q_asgQ {M : Hp → V → Prop} {D : Ends} {tz : TS} {i : Nat} (h : EvQL M te σ H n) (k : ∀ p xs H1, H p = none → Ex H H1 → H1 p = some (.lst xs) → (∀ v ∈ xs, M H1 v) → xs.length = n → tz D (σ.set i (some (.ref p))) H1) : tSeq (tAsg te (gName i)) tz D σ H :=
  h H (Ex.refl _) _ fun p xs H1 hp e1 h1 ms l => k p xs H1 hp e1 h1 ms l
theorem q_asgDL {D : Ends} {tz : TS} {i : Nat} (h : EvDL K te σ H ds) (k : ∀ p xs H1, H p = none → Ex H H1 → H1 p = some (.lst xs) → RpAll K H1 xs ds → tz D (σ.set i (some (.ref p))) H1) : tSeq (tAsg te (gName i)) tz D σ H :=
  h H (Ex.refl _) _ fun p xs H1 hp e1 h1 r => k p xs H1 hp e1 h1 r
/-- texts -/
theorem strs_of {xs : List V} {ws : List Str} (h : RpAll K H xs (ws.map D.str)) : xs = ws.map V.str := by
  induction ws generalizing xs with
  | nil => cases h; rfl
  | cons z ws ih =>
    cases h with
    | cons a b =>
      cases a
      rw [List.map_cons, ih b]
/-- a list of one, some times over -/
theorem edl_rep {d : D} {k : Nat} (h : EvD K te σ H d) (hk : k ≤ 1000) : EvDL K (tOp rRep (tLst (tCons te tNil)) (tC (.int (k : Int)))) σ H (List.replicate k d) := fun G e Q q =>
  edl_lst (eda_cons h eda_nil) (by simp) G e _ fun p xs G1 hp e1 h1 r => by
    cases r with
    | cons r0 r1 =>
      cases r1
      rename_i v
      refine ⟨p, (k : Int), [v], rfl, rfl, h1, by omega, by omega, sz_of (by simp; omega), fun t ht => q t _ _ (fresh_back e1 ht) (e1.trans (Ex.new ht)) upd_same ?_⟩
      have key : ∀ m, RpAll K G1 (List.replicate m v) (List.replicate m d) := fun m => by
        induction m with
        | zero => exact .nil
        | succ m ih => exact .cons r0 ih
      have hz : (List.replicate (k : Int).toNat [v]).flatten = List.replicate k v := by
        rw [Int.toNat_natCast]
        clear q r0 key ht h1 hp e1
        induction k with
        | zero => rfl
        | succ m ih => rw [List.replicate_succ, List.flatten_cons, ih (by omega), List.replicate_succ]; rfl
      rw [hz]
      exact (key k).ex (Ex.new ht)
theorem eqvAll_same {ds : List D} (h : D.cleanL ds = true) : PyData.eqvAll (D.pyL ds) (D.pyL ds) = true := eqvAll_self ds h
end
end G
end K0

namespace K0
open PySem L2 Evl LamX
/-! ### k02: the law -/
def rMulE : R2 := fun x y H Q => ∃ (s : Str) (n : Nat), x = V.str s ∧ y = V.int (n : Int) ∧ 1 < n ∧ n ≤ 5000 ∧ s.length = 1 ∧ Q (.str ⟨(List.replicate n s.cps).foldl (· ++ ·) #[]⟩) H
theorem fold_list : ∀ (n : Nat) (x : Nat) (acc : Array Nat), ((List.replicate n #[x]).foldl (· ++ ·) acc).toList = acc.toList ++ List.replicate n x
  | 0, x, acc => by simp
  | n + 1, x, acc => by
    rw [List.replicate_succ, List.foldl_cons, fold_list n x (acc ++ #[x]), Array.toList_append, List.append_assoc]
    rfl
section
variable {X : Cx}
theorem op_mulE : OpR X (binaryOp .Mult) rMulE := by
  intro pins s σ H x y v u Q I rx ry h
  obtain ⟨a, n, rfl, rfl, h1, h2, hl, q⟩ := h
  obtain ⟨t, rfl⟩ := rx
  obtain ⟨t', rfl⟩ := ry
  have hs : sizeLine = 16777216 := sizeLine_eq
  have hn : ¬ ((n : Int) < 1) := by omega
  have hb : ((n : Int) == 1 || a.length == 0) = false := by
    rw [hl]
    simp
    omega
  have e : (⟨(List.replicate ((n : Int)).toNat a.cps).foldl (· ++ ·) #[]⟩ : Str).length = n := by
    show ((List.replicate ((n : Int)).toNat a.cps).foldl (· ++ ·) #[]).size = n
    rw [fold_size]
    show 0 + ((n : Int)).toNat * a.length = n
    rw [hl]
    omega
  refine PySem.P.mul_str ?_ (fun _ _ => ?_) (fun _ _ => ?_) ?_
  · have c1 : ¬ ((n : Int) < -(2 ^ 63 : Int)) := by omega
    have c2 : ¬ ((n : Int) ≥ 2 ^ 63) := by omega
    rw [decide_eq_false c1, decide_eq_false c2]
    rfl
  · rw [hl]
    have h3 : 1 ≤ (2 ^ 63 - 1 : Int) / (n : Int) := by
      rw [Int.le_ediv_iff_mul_le (by omega)]
      omega
    omega
  · rw [hl]
    unfold Builtin.Str.tooLong
    exact decide_eq_false (by omega)
  · rw [if_neg hn, if_neg (by rw [hb]; decide)]
    exact ⟨by rw [e, hs]; omega, ⟨.str _, H, I.tok _, ⟨_, rfl⟩, q⟩⟩
end
/-- a sign, some times -/
def signs (s : Str) (n : Nat) : Str := ⟨(List.replicate n s.cps).foldl (· ++ ·) #[]⟩
theorem ev_mulE {σ : L2.St} {H : Hp} {s : Str} {n : Nat} (h : 1 < n ∧ n ≤ 5000 := by decide) (hs : s.length = 1 := by decide) : Ev (tOp rMulE (tC (.str s)) (tC (.int (n : Int)))) σ H (.str (signs s n)) :=
  ev_op ev_c ev_c fun H1 _ Q q => ⟨s, n, rfl, rfl, h.1, h.2, hs, q H1 (Ex.refl _)⟩
theorem fn_down {P : Program} {w : World} {K : PySem.W.Frag} {mg : Str → Option Value} {base : Heap} {k : Nat} {f : Addr} {fd : FuncData} {ps : List Str} {sp : Sp} (F : FnOk P w K mg base (L2.CX P w) k f fd ps sp) :
    FnOk P w K mg base CX0 k f fd ps (fun vs H Q _ => sp vs H Q fun _ _ _ => False) :=
  ⟨fun vs H Q E h => F.len vs H Q _ h, fun A out t0 H ar ws vs Q E rm env bnd rel prm => codeAny_mono (F.run A out t0 H ar ws vs Q _ rm env bnd rel prm) fun r s z => by
    cases r with
    | ok fl => cases fl <;> exact z
    | error e =>
      obtain ⟨_, _, _, _, _, _, _, _, _, _, _, _, q⟩ := z
      exact q.elim⟩
/-- tuples around nothing -/
def nestU : Nat → K0.D
  | 0 => .tup []
  | n + 1 => .tup [nestU n]
def wrongD (n : Nat) : K0.D := .tup [.str "wrong", .int (n : Int)]
def gTold : K0.D → K0.D
  | .str z => resD (rdAll z.cps.toList)
  | _ => .non
def gWrong (d : K0.D) : K0.D := .tup [.str "wrong", d]
abbrev texts12 : List K0.D := [.str "(1,02)", .str "(1,2", .str "", .str "-", .str "-0", .str "00", .str (signs "1" 61), .str "(1)(2)", .str "(1,)", .str "'A'", .str (signs "(" 13), .str "(,)"]
abbrev places12 : List K0.D := [.int 4, .int 4, .int 0, .int 1, .int 1, .int 1, .int 60, .int 3, .int 3, .int 1, .int 12, .int 1]
theorem told12 : texts12.map gTold = places12.map gWrong := by kernel_rfl
theorem fine12 : (places12.map gWrong).all (K0.D.fine 2) = true := by decide +kernel
theorem same12 : (!PyData.eqvAll (K0.D.pyL (places12.map gWrong)) (K0.D.pyL (places12.map gWrong))) = false := by decide +kernel
abbrev deepT : Str := signs "(" 12 ++ signs ")" 12
theorem deep_text : textD (nestU 11) = deepT := by decide +kernel
theorem deep_plain : (nestU 11).plain 12 = true := by decide +kernel
abbrev longA : Str := "'" ++ signs "a" 3000 ++ "'"
theorem signs_len {s : Str} {n : Nat} (h : s.length = 1) : (signs s n).length = n := by
  show ((List.replicate n s.cps).foldl (· ++ ·) #[]).size = n
  rw [fold_size]
  show 0 + n * s.length = n
  rw [h]
  omega
theorem signs_list {s : Str} {n c : Nat} (h : s.cps = #[c]) : (signs s n).cps.toList = List.replicate n c := by
  show ((List.replicate n s.cps).foldl (· ++ ·) #[]).toList = _
  rw [h, fold_list]
  rfl
theorem signs_plain {n : Nat} (h : n ≤ 3000) : (K0.D.str (signs "a" n)).plain 12 = true := by
  show (decide (((signs "a" n).length : Int) ≤ 3000) && (signs "a" n).cps.toList.all signs37.cps.contains) = true
  rw [signs_len (by decide +kernel), signs_list (c := 97) (by decide +kernel), List.all_replicate, decide_eq_true (by omega), show signs37.cps.contains 97 = true by decide +kernel]
  simp
theorem longA_plain : (K0.D.str (signs "a" 3000)).plain 12 = true := signs_plain (Nat.le_refl _)
theorem str_rd {z : Str} (h : (K0.D.str z).plain 12 = true) : rdAll (("'" : Str) ++ z ++ "'").cps.toList = .ok (.str z) := rdAll_text h
theorem longA_rd : rdAll longA.cps.toList = .ok (.str (signs "a" 3000)) := str_rd longA_plain
abbrev longB : Str := "'" ++ signs "a" 3001 ++ "'"
theorem quoted_list {z : Str} : (("'" : Str) ++ z ++ "'").cps.toList = 39 :: (z.cps.toList ++ [39]) := by
  show ((("'" : Str).cps ++ z.cps) ++ ("'" : Str).cps).toList = _
  rw [Array.toList_append, Array.toList_append]
  rfl
theorem longB_list : longB.cps.toList = 39 :: (List.replicate 3001 97 ++ [39]) := by
  rw [quoted_list, signs_list (c := 97) (by decide +kernel)]
theorem over_rd {n : Nat} (hn : n = 3001) : rdAll (39 :: (List.replicate n 97 ++ [39])) = .error 3001 := by
  generalize hl : (39 :: (List.replicate n 97 ++ [39]) : List Nat) = l
  have h0 : l[0]? = some 39 := by rw [← hl]; rfl
  have hd : l.drop 1 = List.replicate n 97 ++ [39] := by rw [← hl]; rfl
  have hi : ∀ i, i < n → (l.drop 1)[i]? = some 97 := fun i hi => by
    rw [hd, List.getElem?_append_left (by rw [List.length_replicate]; omega), List.getElem?_replicate, if_pos hi]
  have hr : runTo (inS signs37) 3000 (l.drop 1) = 3000 := run_of 3000 _ fun i h => ⟨97, hi i (by omega), by decide +kernel⟩
  have h1 : l[1 + 3000]? = some 97 := by
    have := hi 3000 (by omega)
    rwa [List.getElem?_drop] at this
  unfold rdAll
  have hv : rdV l 12 0 = .error (1 + 3000) := by
    rw [rdV_eq, if_neg (by rw [h0]; decide), if_pos h0]
    unfold rdS
    simp only [Nat.zero_add, hr]
    rw [h1, if_neg (by decide)]
  rw [hv]
theorem longB_rd : rdAll longB.cps.toList = .error 3001 := by
  rw [longB_list]
  exact over_rd rfl
def okNine : Bool := match rdAll ("-" ++ signs "9" 60 : Str).cps.toList with
  | .ok (.int i) => decide (i = 1 - 10 ^ 60)
  | _ => false
theorem okNine_ok : okNine = true := by decide +kernel
theorem nine_rd : rdAll ("-" ++ signs "9" 60 : Str).cps.toList = .ok (.int (1 - 10 ^ 60)) := by
  have h := okNine_ok
  unfold okNine at h
  split at h
  · rename_i i e
    rw [e, of_decide_eq_true h]
  · cases h
end K0

namespace K0
open PySem L2 Evl LamX
section
variable {P : Program} {w : World} {K : PySem.W.Frag} {mg : Str → Option Value} {base : Heap} {A : Ad} {D : Fd}
theorem sq_bt {p b : Addr} {xs : List V} {H H1 H' : Hp} (hp : H p = none) (h : SqL K H b xs) (e : Ex H H1) (g : Bt p H1 H') : SqL K H' b xs := sq_btO hp h e (BtO.ofB g)
/-- two lists of data compared, the first a name's -/
theorem ev_neDL {σ : L2.St} {H : Hp} {ta tb : TE} {ds es : List K0.D} {a : Addr} {xs : List V} {n : Nat} (h1 : Ev ta σ H (.ref a)) (hx : H a = some (.lst xs)) (rx : RpAll K H xs ds) (h2 : EvDL K tb σ H es) (fd : ∀ d ∈ ds, d.fine n = true) (fe : ∀ d ∈ es, d.fine n = true) (hn : n + 1 ≤ 64) :
    Ev (tOp (rNeD K) ta tb) σ H (.bl (!PyData.eqvAll (K0.D.pyL ds) (K0.D.pyL es))) := fun H1 e Q q => h1 H1 e _ fun H2 e2 => h2 H2 (e.trans e2) _ fun p ys H3 hp e3 h3 ry =>
  ⟨.list (K0.D.pyL ds), .list (K0.D.pyL es), dpL (((e.trans e2).trans e3) _ _ hx) (rx.ex ((e.trans e2).trans e3)) (fine_all ds fd).1, dpL h3 ry (fine_all es fe).1, shapedL_of fd hn, shapedL_of fe hn, q H3 (e2.trans e3)⟩
/-- a list comprehension over a tuple of data -/
theorem edl_tupG {σ : L2.St} {H : Hp} {tt te : TE} {j : Nat} {vs : List Nat} {ds : List K0.D} {G : K0.D → K0.D} (h : EvD K tt σ H (.tup ds)) (hz : ds.length ≤ 1000) (hw : ∀ x, wipe ((wipe σ vs).set j (some x)) vs = wipe σ vs) (he : ∀ d x H', Ex H H' → d ∈ ds → Rp K H' x d → EvD K te ((wipe σ vs).set j (some x)) H' (G d)) :
    EvDL K (tLc (iTup K tt) (gName j) tYes te vs) σ H (ds.map G) := fun H0 e Q q => h H0 e _ fun v H1 e1 hv => by
  obtain ⟨a, xs, rfl, ha, rr⟩ := hv.tupI
  have hl : xs.length = ds.length := rr.len
  have zm : ∀ {xs : List V} {ys : List K0.D}, xs.length = ys.length → (xs.zip ys).map (·.1) = xs ∧ (xs.zip ys).map (·.2) = ys := by
    intro xs
    induction xs with
    | nil => intro ys h; cases ys <;> first | exact ⟨rfl, rfl⟩ | simp at h
    | cons x xs ih =>
      intro ys h
      cases ys with
      | nil => simp at h
      | cons y ys =>
        obtain ⟨a, b⟩ := ih (by simpa using h)
        exact ⟨by rw [List.zip_cons_cons, List.map_cons, a], by rw [List.zip_cons_cons, List.map_cons, b]⟩
  have zr : ∀ {G : Hp} {xs : List V} {ys : List K0.D}, RpAll K G xs ys → ∀ p ∈ xs.zip ys, Rp K G p.1 p.2 ∧ p.2 ∈ ys := by
    intro G xs ys h
    induction ys generalizing xs with
    | nil => intro p hp; cases h; cases hp
    | cons d ds ih =>
      intro p hp
      cases h with
      | cons h r =>
        rw [List.zip_cons_cons] at hp
        rcases List.mem_cons.mp hp with rfl | hp
        · exact ⟨h, List.mem_cons_self ..⟩
        · obtain ⟨a, b⟩ := ih r p hp
          exact ⟨a, List.mem_cons_of_mem _ b⟩
  obtain ⟨z1, z2⟩ := zm hl
  have wk := walk_tup (K := K) (a := a) (xs := (xs.zip ds).map (·.1))
  rw [List.length_map] at wk
  refine ⟨a, rfl, ⟨xs, ha⟩, K0.G.lc_dataF (K := K) (Q := Q) (ys := xs.zip ds) (f := (·.1)) (Pk := fun _ => true) (G := fun p => G p.2) wk (fun H' e' => by rw [z1]; exact ex_t e' ha) (by rw [List.length_zip]; omega) hw (fun y H' hy _ => et_yes) (fun y H' hy hk e' => ?_) fun p ys H2 hp e2 h2 r => ?_⟩
  · obtain ⟨a1, a2⟩ := zr rr y hy
    exact he y.2 y.1 H' ((e.trans e1).trans e') a2 (a1.ex e')
  · rw [List.filter_eq_self.mpr fun _ _ => rfl] at r
    have : (xs.zip ds).map (fun p => G p.2) = ds.map G := by
      have h4 : (xs.zip ds).map (fun p => G p.2) = ((xs.zip ds).map (·.2)).map G := by rw [List.map_map]; rfl
      rw [h4, z2]
    rw [this] at r
    exact q p ys H2 (fresh_back e1 hp) (e1.trans e2) h2 r
def shortT : K0.D → Bool
  | .str z => decide (z.length ≤ 100)
  | _ => false
theorem shortT_ok {d : K0.D} (h : shortT d = true) : ∃ z, d = .str z ∧ z.length ≤ 100 := by
  cases d <;> first | exact ⟨_, rfl, of_decide_eq_true h⟩ | cases h
theorem short12 : texts12.all shortT = true := by decide +kernel
theorem deep_len : deepT.length ≤ 90000 := by decide +kernel
theorem deep_rd : rdAll deepT.cps.toList = .ok (nestU 11) := by
  have := rdAll_text deep_plain
  rwa [deep_text] at this
theorem fine3001 : ∀ d ∈ ([.bl true, wrongD 3001, .bl true] : List K0.D), d.fine 2 = true := fun d hd => List.all_eq_true.mp (show ([.bl true, wrongD 3001, .bl true] : List K0.D).all (K0.D.fine 2) = true by decide +kernel) d hd
theorem ev_ofS {K : PySem.W.Frag} {te : TE} {σ : L2.St} {H : Hp} {z : Str} (h : EvD K te σ H (.str z)) : Ev te σ H (.str z) := fun H1 e Q q => h H1 e Q fun v H2 e2 r => by
  cases r
  exact q H2 e2
theorem ev_ofI {K : PySem.W.Frag} {te : TE} {σ : L2.St} {H : Hp} {z : Int} (h : EvD K te σ H (.int z)) : Ev te σ H (.int z) := fun H1 e Q q => h H1 e Q fun v H2 e2 r => by
  cases r
  exact q H2 e2
theorem ed_to2 {K : PySem.W.Frag} {te : TE} {σ : L2.St} {H : Hp} {d e : K0.D} (h : EvD K te σ H d) (q : d = e) : EvD K te σ H e := q ▸ h
def sp_law (K : PySem.W.Frag) : Sp := fun vs H Q _ => ∃ (a : Addr) (ns : List Int), vs = [.ref a] ∧ SqL K H a (ns.map V.int) ∧ ns.length ≤ 63 ∧ ∀ H', Q (.bl true) H'
theorem ok_law (T : Txt K mg A D) : FnG P w K mg base CX0 52 A.law D.law ["script"] (sp_law K) := by
  have G_law_dice : FnOk P w K mg base CX0 1 A.law_dice D.law_dice ["script", "spot"] (sp_law_dice K) := ok_law_dice T
  have G_law_right := ok_law_right (P := P) (w := w) (base := base) T
  have G_law_told := ok_law_told (P := P) (w := w) (base := base) T
  have G_write_plain := ok_write_plainG (P := P) (w := w) (base := base) T
  have G_read_plain := fn_down (ok_read_plain (P := P) (w := w) (base := base) T)
  refine okG T.F_law sc_law (fun vs H Q E h => by obtain ⟨a, ns, rfl, _⟩ := h; rfl) (fun cdv A0 outer s H vs Q E _ gd hr h => ?_)
  refine ⟨_, PSs.nox (pss_cons (ps_for PassesOwn.never rfl (pi_range1 rfl T.b_range (pa_cons (pe_callB (call_max2 rfl) (by rfl) T.b_max (by decide +kernel) (pa_cons pe_int (pa_cons (pe_callB (call_min2 rfl) (by rfl) T.b_min (by decide +kernel) (pa_cons pe_int (pa_cons (pe_callB call_len (by rfl) T.b_len (by decide +kernel) (pa_cons (pv 0) pa_nil)) pa_nil))) pa_nil))) pa_nil)) (pg_name (i := 1) sc_law.nd rfl (Or.inl rfl)) (pss_cons (ps_set (i := 2) sc_law.nd rfl (Or.inl rfl) (pe_call G_law_dice (hr.mono (by decide)) rfl T.g_law_dice T.F_law_dice.kp T.b_law_dice .nil pass0 (pa_cons (pv 0) (pa_cons (pv 1) pa_nil))))
  (pss_one (ps_for PassesOwn.never rfl (pi_range1 rfl T.b_range (pa_cons pe_int pa_nil)) (pg_name (i := 3) sc_law.nd rfl (Or.inl rfl)) (pss_one (ps_if (pt_not (pt_val (pe_callG G_law_right gd (hr.mono (by decide)) rfl T.g_law_right T.F_law_right.kp T.b_law_right pass0 (pa_cons (pv 2) pa_nil)))) (pss_one (ps_ret pe_bl)) pss_nil))))))
  (pss_cons (ps_set (i := 4) sc_law.nd rfl (Or.inl rfl) (pe_op op_add_str (pe_op op_mulE pe_str pe_int) (pe_op op_mulE pe_str pe_int)))
  (pss_cons (ps_setLc (i := 5) (own := [("text", 6)]) (g := gName 6) (tt := tYes) rfl sc_law.nd rfl rfl (sw_true rfl rfl rfl (by decide +kernel)) (pi_tup (pe_tup (pa_cons pe_str (pa_cons pe_str (pa_cons pe_str (pa_cons pe_str (pa_cons pe_str (pa_cons pe_str (pa_cons (pe_op op_mulE pe_str pe_int) (pa_cons pe_str (pa_cons pe_str (pa_cons pe_str (pa_cons (pe_op op_mulE pe_str pe_int) (pa_cons pe_str pa_nil)))))))))))))) (blkOk_by (own := [("text", 6)]) (N := N_law) (sc := defScope s_law) (by decide +kernel)) (fun _ _ _ _ _ => by exact pg_name (i := 6) sc_law.nd rfl (Or.inl rfl)) (fun _ _ _ _ _ => by exact pts_nil) (fun _ _ _ _ _ => by exact (pe_call G_law_told (hr.mono (by decide)) rfl T.g_law_told T.F_law_told.kp T.b_law_told .nil pass0 (pa_cons (pv 6) pa_nil))))
  (pss_cons (ps_if (PW.pt (pw_or (pt_cmpR (op_neD hr.units) (pv 5) (pe_lc (own := [("place", 7)]) (g := gName 7) (tt := tYes) rfl sc_law.nd (pi_tup (pe_tup (pa_cons pe_int (pa_cons pe_int (pa_cons pe_int (pa_cons pe_int (pa_cons pe_int (pa_cons pe_int (pa_cons pe_int (pa_cons pe_int (pa_cons pe_int (pa_cons pe_int (pa_cons pe_int (pa_cons pe_int pa_nil)))))))))))))) (blkOk_by (own := [("place", 7)]) (N := N_law) (sc := defScope s_law) (by decide +kernel)) (fun _ _ _ _ _ => by exact pg_name (i := 7) sc_law.nd rfl (Or.inl rfl)) (fun _ _ _ _ _ => by exact pts_nil) (fun _ _ _ _ _ => by exact (pe_tup (pa_cons pe_str (pa_cons (pv 7) pa_nil))))) (nomark _)) (pw_or1 (pt_cmpR op_ne (pe_call G_write_plain (hr.mono (by decide)) rfl T.g_write_plain T.F_write_plain.kp T.b_write_plain .nil pass0 (pa_cons (pe_call G_read_plain (hr.mono (by decide)) rfl T.g_read_plain T.F_read_plain.kp T.b_read_plain .nil pass0 (pa_cons (pv 4) pa_nil)) pa_nil)) (pv 4) (nomark _))))) (pss_one (ps_ret pe_bl)) pss_nil)
  (pss_cons (ps_set (i := 5) sc_law.nd rfl (Or.inl rfl) (pe_lst (pa_cons (pe_cmpR op_eq (pe_call G_read_plain (hr.mono (by decide)) rfl T.g_read_plain T.F_read_plain.kp T.b_read_plain .nil pass0 (pa_cons (pe_op op_add_str (pe_op op_add_str pe_str (pe_op op_mulE pe_str pe_int)) pe_str) pa_nil)) (pe_op op_mulE pe_str pe_int) (nomark _)) (pa_cons (pe_call G_law_told (hr.mono (by decide)) rfl T.g_law_told T.F_law_told.kp T.b_law_told .nil pass0 (pa_cons (pe_op op_add_str (pe_op op_add_str pe_str (pe_op op_mulE pe_str pe_int)) pe_str) pa_nil)) (pa_cons (pe_cmpR op_eq (pe_call G_read_plain (hr.mono (by decide)) rfl T.g_read_plain T.F_read_plain.kp T.b_read_plain .nil pass0 (pa_cons (pe_op op_add_str pe_str (pe_op op_mulE pe_str pe_int)) pa_nil)) (pe_op op_sub pe_int (pe_op op_pow pe_int pe_int)) (nomark _)) pa_nil)))))
  (pss_one (ps_ret (pe_cmpR (op_eqD hr.units) (pv 5) (pe_lst (pa_cons pe_bl (pa_cons (pe_tup (pa_cons pe_str (pa_cons pe_int pa_nil))) (pa_cons pe_bl pa_nil)))) (nomark _))))))))), ?_⟩
  obtain ⟨a, ns, rfl, hS, hlen, k⟩ := h
  have hz : (ns.map V.int).length = ns.length := List.length_map ..
  have ev_told : ∀ {te : TE} {σ : L2.St} {H : Hp} {z : Str} {E : XK}, Ev te σ H (.str z) → z.length ≤ 90000 → EvD K (tCall (sp_law_told K) [] E (tCons te tNil)) σ H (resD (rdAll z.cps.toList)) := fun h hz =>
    fun H1 e Q q => c_call (ea_cons (h.mono e) ea_nil) fun H2 e2 => ⟨_, rfl, hz, fun v H3 e3 r => q v H3 (e2.trans e3) r⟩
  have ed_read : ∀ {te : TE} {σ : L2.St} {H : Hp} {z : Str} {d : K0.D} {E : XK}, Ev te σ H (.str z) → z.length ≤ 90000 → rdAll z.cps.toList = .ok d → EvD K (tCall (fun vs H Q _ => sp_read_plain K A vs H Q fun _ _ _ => False) [] E (tCons te tNil)) σ H d := fun h hz hr =>
    fun H1 e Q q => c_call (ea_cons (h.mono e) ea_nil) fun H2 e2 => ⟨_, _, rfl, .str _, .inr ⟨_, rfl, hz, by rw [hr]; exact fun v H3 e3 r => q v H3 (e2.trans e3) r⟩⟩
  have ev_write : ∀ {te : TE} {σ : L2.St} {H : Hp} {d : K0.D} {E : XK}, EvD K te σ H d → d.size ≤ 29000 → d.plain 12 = true → Ev (tCall (sp_write_plainG K) [] E (tCons te tNil)) σ H (.str (textD d)) := fun h hs hp H1 e Q q =>
    d_raw (n_cons (h H1 e _ fun v H2 e2 rv => n_nil ⟨v, _, rfl, rv, hs, hp, fun H3 e3 => q H3 (e2.trans e3)⟩))
  refine q_forR1 (n := if (if ((ns.map V.int).length : Int) < 3 then ((ns.map V.int).length : Int) else 3) > 1 then (if ((ns.map V.int).length : Int) < 3 then ((ns.map V.int).length : Int) else 3) else 1) (ea_cons (ev_cb (ea_cons ev_c (ea_cons (ev_cb (ea_cons ev_c (ea_cons (ev_cb (ea_cons (ev_var rfl) ea_nil) (rc_lenL hS)) ea_nil)) rc_min2) ea_nil)) rc_max2) ea_nil)
    (by split <;> split <;> omega) (fun i σ' H' => (∃ v1 v2 v3, σ' = [some (.ref a), v1, v2, v3, none, none, none, none]) ∧ SqL K H' a (ns.map V.int)) (fun H1 e1 => ⟨⟨_, _, _, rfl⟩, ex_l e1 hS⟩) (fun i σ' H' hi g => ?_) (fun σ' H' g => ?_)
  · obtain ⟨⟨v1, v2, v3, rfl⟩, hS'⟩ := g
    refine q_asgX (c_call (ea_cons (ev_var rfl) (ea_cons (ev_var rfl) ea_nil)) fun H1 e1 => ⟨a, ns, i, rfl, ex_l e1 hS', fun d H2 hd e2 dd => ?_⟩)
    have hS2 := ex_l (e1.trans e2) hS'
    have hne := fresh_back e1 hd
    refine s_forR1 (n := 3) (ea_cons ev_c ea_nil) (by decide) (fun j σ2 H3 => (∃ v3, σ2 = [some (.ref a), some (.int (i : Int)), some (.ref d), v3, none, none, none, none]) ∧ SqL K H3 a (ns.map V.int) ∧ DiceAt H3 d ∧ Bt d H2 H3) (fun H3 e3 => ⟨⟨_, rfl⟩, ex_l e3 hS2, dd.ex e3, Bt.of e3⟩) (fun j σ2 H3 hj g => ?_) (fun σ2 H3 g => ?_)
    · obtain ⟨⟨v3, rfl⟩, hS3, d3, b3⟩ := g
      refine n_ifS (n_not (n_B (c_call (ea_cons (ev_var rfl) ea_nil) fun H4 e4 => ⟨d, rfl, d3.ex e4, fun H5 b5 d5 => ⟨true, rfl, ?_⟩⟩)))
      rw [if_neg (by decide)]
      have b25 := (b3.trans (Bt.of e4)).trans b5
      exact n_next ⟨⟨_, rfl⟩, sq_bt hne hS' (e1.trans e2) b25, d5, b25⟩
    · obtain ⟨⟨v3, rfl⟩, hS3, d3, b3⟩ := g
      exact ⟨⟨_, _, _, rfl⟩, hS3⟩
  · obtain ⟨⟨v1, v2, v3, rfl⟩, hS'⟩ := g
    refine q_asg (ev_op (ev_mulE (s := "(") (n := 12)) (ev_mulE (s := ")") (n := 12)) (rv_addL (by decide +kernel))) fun H1 e1 => ?_
    refine G.q_asgDL (edl_tupG (ds := texts12) (G := gTold) (ed_tup (eda_cons (ed_ev ev_c (.str _)) (eda_cons (ed_ev ev_c (.str _)) (eda_cons (ed_ev ev_c (.str _)) (eda_cons (ed_ev ev_c (.str _)) (eda_cons (ed_ev ev_c (.str _)) (eda_cons (ed_ev ev_c (.str _))
      (eda_cons (ed_ev (ev_mulE (s := "1") (n := 61)) (.str _)) (eda_cons (ed_ev ev_c (.str _)) (eda_cons (ed_ev ev_c (.str _)) (eda_cons (ed_ev ev_c (.str _)) (eda_cons (ed_ev (ev_mulE (s := "(") (n := 13)) (.str _)) (eda_cons (ed_ev ev_c (.str _)) eda_nil)))))))))))) (by simp)) (by decide) (fun _ => rfl) fun d x H' e' hd hx => ?_) fun p xs H2 hp e2 h2 r2 => ?_
    · obtain ⟨z, rfl, hzl⟩ := shortT_ok (List.all_eq_true.mp short12 d hd)
      cases hx
      exact ev_told (ev_var rfl) (by omega)
    refine q_when (b := false) (et_or (a := false) (et_test (ev_is (ev_neDL (n := 2) (ds := texts12.map gTold) (es := places12.map gWrong) (ev_var rfl) h2 r2 (edl_tupG (ds := places12) (G := gWrong) (ed_tup (eda_cons (ed_ev ev_c (.int _)) (eda_cons (ed_ev ev_c (.int _)) (eda_cons (ed_ev ev_c (.int _)) (eda_cons (ed_ev ev_c (.int _)) (eda_cons (ed_ev ev_c (.int _)) (eda_cons (ed_ev ev_c (.int _))
      (eda_cons (ed_ev ev_c (.int _)) (eda_cons (ed_ev ev_c (.int _)) (eda_cons (ed_ev ev_c (.int _)) (eda_cons (ed_ev ev_c (.int _)) (eda_cons (ed_ev ev_c (.int _)) (eda_cons (ed_ev ev_c (.int _)) eda_nil)))))))))))) (by simp)) (by decide) (fun _ => rfl) fun d x H' e' hd hx => ed_tup (eda_cons (ed_ev ev_c (.str _)) (eda_cons (ed_ev (ev_var rfl) hx) eda_nil)) (by simp)) ?_ ?_ (by decide)) (by rw [told12]; exact congrArg V.bl same12))) fun _ => ?_) (fun z => by cases z) fun _ H3 e3 => ?_
    · rw [told12]
      exact fun d hd => List.all_eq_true.mp fine12 d hd
    · exact fun d hd => List.all_eq_true.mp fine12 d hd
    · exact et_is (et_test (ev_op (x := .str (textD (nestU 11))) (y := .str deepT) (ev_write (ed_read (d := nestU 11) (ev_var rfl) deep_len deep_rd) (by decide +kernel) deep_plain) (ev_var rfl) (rv_ne rfl))) (by rw [deep_text, decide_eq_true rfl]; rfl)
    refine G.q_asgDL (K := K) (ds := [.bl true, wrongD 3001, .bl true]) (G.edl_lst (eda_cons ?_ (eda_cons ?_ (eda_cons ?_ eda_nil))) (by simp)) fun p2 xs2 H4 hp2 e4 h4 r4 => ?_
    · exact ed_ev (ev_is (ev_op (ev_ofS (ed_read (ev_op (ev_op ev_c (ev_mulE (s := "a") (n := 3000)) (rv_addL (by rw [signs_len rfl]; decide))) ev_c (rv_addL (by rw [str_app, signs_len rfl]; decide))) (by rw [str_app, str_app, signs_len rfl]; decide) longA_rd)) (ev_mulE (s := "a") (n := 3000)) (rv_eq rfl)) (congrArg V.bl (decide_eq_true rfl))) (.bl _)
    · exact ed_to2 (ev_told (ev_op (ev_op ev_c (ev_mulE (s := "a") (n := 3001)) (rv_addL (by rw [signs_len rfl]; decide))) ev_c (rv_addL (by rw [str_app, signs_len rfl]; decide))) (by rw [str_app, str_app, signs_len rfl]; decide)) (by rw [longB_rd]; rfl)
    · exact ed_ev (ev_is (ev_op (ev_ofI (ed_read (ev_op ev_c (ev_mulE (s := "9") (n := 60)) (rv_addL (by rw [signs_len rfl]; decide))) (by rw [str_app, signs_len rfl]; decide) nine_rd)) (ev_op ev_c (ev_op ev_c ev_c (rv_pow (n := 60) (by decide) (by decide))) rv_I0) (rv_eq rfl)) (congrArg V.bl (decide_eq_true rfl))) (.bl _)
    refine s_ret (ev_is (G.ev_eqDL (n := 2) (es := [.bl true, wrongD 3001, .bl true]) (ev_var rfl) h4 r4 (G.edl_lst (eda_cons (ed_ev ev_c (.bl _)) (eda_cons (ed_tup (ds := [.str "wrong", .int 3001]) (eda_cons (ed_ev ev_c (.str _)) (eda_cons (ed_ev ev_c (.int _)) eda_nil)) (by simp)) (eda_cons (ed_ev ev_c (.bl _)) eda_nil))) (by simp)) fine3001 fine3001 (by decide)) (congrArg V.bl (by decide +kernel))) fun H5 e5 => k H5
end
end K0

namespace K0
open PySem L2 Evl
theorem all_mk {l : PySem.W.OpenLaw} {w : World} {K : PySem.W.Frag} {h : Heap} {mg : Str → Option Value} {fa f0 f1 f2 f3 f4 f5 f6 f7 f8 f9 f10 f11 f12 f13 f14 f15 f16 f17 f18 f19 f20 f21 f22 f23 f24 f25 f26 EInvalidOperation EParseError : Addr} (X : K.In h) (G : h.Ns mainGlobals mg) (hfa : mg "law" = some (.ref fa))
    {od0 an0 od1 an1 od2 an2 od3 an3 od4 an4 od5 an5 od6 an6 od7 an7 od8 an8 od9 an9 od10 an10 od11 an11 od12 an12 od13 an13 od14 an14 od15 an15 od16 an16 od17 an17 od18 an18 od19 an19 od20 an20 od21 an21 od22 an22 od23 an23 od24 an24 od25 an25 od26 an26 : Option Addr}
    {sl0 sl1 sl2 sl3 sl4 sl5 sl6 sl7 sl8 sl9 sl10 sl11 sl12 sl13 sl14 sl15 sl16 sl17 sl18 sl19 sl20 sl21 sl22 sl23 sl24 sl25 sl26 : Array (Option Value)}
    {oc0 kV0 dc0 pm0 cd0 ct0 oc1 kV1 dc1 pm1 cd1 ct1 oc2 kV2 dc2 pm2 cd2 ct2 oc3 kV3 dc3 pm3 cd3 ct3 oc4 kV4 dc4 pm4 cd4 ct4 oc5 kV5 dc5 pm5 cd5 ct5 oc6 kV6 dc6 pm6 cd6 ct6 oc7 kV7 dc7 pm7 cd7 ct7 oc8 kV8 dc8 pm8 cd8 ct8 oc9 kV9 dc9 pm9 cd9 ct9 oc10 kV10 dc10 pm10 cd10 ct10 oc11 kV11 dc11 pm11 cd11 ct11 oc12 kV12 dc12 pm12 cd12 ct12 oc13 kV13 dc13 pm13 cd13 ct13 oc14 kV14 dc14 pm14 cd14 ct14 oc15 kV15 dc15 pm15 cd15 ct15 oc16 kV16 dc16 pm16 cd16 ct16 oc17 kV17 dc17 pm17 cd17 ct17 oc18 kV18 dc18 pm18 cd18 ct18 oc19 kV19 dc19 pm19 cd19 ct19 oc20 kV20 dc20 pm20 cd20 ct20 oc21 kV21 dc21 pm21 cd21 ct21 oc22 kV22 dc22 pm22 cd22 ct22 oc23 kV23 dc23 pm23 cd23 ct23 oc24 kV24 dc24 pm24 cd24 ct24 oc25 kV25 dc25 pm25 cd25 ct25 oc26 kV26 dc26 pm26 cd26 ct26 : Value}
    {tk0 tk1 tk2 tk3 tk4 tk5 : Tok}
    (a0 : PySem.W.nsIn K mainGlobals "is_number" = some (some (.ref f0)))
    (l0 : K.lookup f0 = some ⟨oc0, od0, .func (PySem.W.fnOf "is_number" "is_number" (defArgs s_is_number) (defBody s_is_number) (defScope s_is_number) .none kV0 dc0 pm0 an0 cd0 ct0), sl0⟩)
    (c0 : PySem.W.codeIn K cd0 "is_number" = true)
    (k0 : PySem.W.keepIn K (.ref f0) = true)
    (a1 : PySem.W.nsIn K mainGlobals "is_made_of" = some (some (.ref f1)))
    (l1 : K.lookup f1 = some ⟨oc1, od1, .func (PySem.W.fnOf "is_made_of" "is_made_of" (defArgs s_is_made_of) (defBody s_is_made_of) (defScope s_is_made_of) .none kV1 dc1 pm1 an1 cd1 ct1), sl1⟩)
    (c1 : PySem.W.codeIn K cd1 "is_made_of" = true)
    (k1 : PySem.W.keepIn K (.ref f1) = true)
    (a2 : PySem.W.nsIn K mainGlobals "is_plain" = some (some (.ref f2)))
    (l2 : K.lookup f2 = some ⟨oc2, od2, .func (PySem.W.fnOf "is_plain" "is_plain" (defArgs s_is_plain) (defBody s_is_plain) (defScope s_is_plain) .none kV2 dc2 pm2 an2 cd2 ct2), sl2⟩)
    (c2 : PySem.W.codeIn K cd2 "is_plain" = true)
    (k2 : PySem.W.keepIn K (.ref f2) = true)
    (a3 : PySem.W.nsIn K mainGlobals "is_plain_within" = some (some (.ref f3)))
    (l3 : K.lookup f3 = some ⟨oc3, od3, .func (PySem.W.fnOf "is_plain_within" "is_plain_within" (defArgs s_is_plain_within) (defBody s_is_plain_within) (defScope s_is_plain_within) .none kV3 dc3 pm3 an3 cd3 ct3), sl3⟩)
    (c3 : PySem.W.codeIn K cd3 "is_plain_within" = true)
    (k3 : PySem.W.keepIn K (.ref f3) = true)
    (a4 : PySem.W.nsIn K mainGlobals "_is_single" = some (some (.ref f4)))
    (l4 : K.lookup f4 = some ⟨oc4, od4, .func (PySem.W.fnOf "_is_single" "_is_single" (defArgs s_is_single) (defBody s_is_single) (defScope s_is_single) .none kV4 dc4 pm4 an4 cd4 ct4), sl4⟩)
    (c4 : PySem.W.codeIn K cd4 "_is_single" = true)
    (k4 : PySem.W.keepIn K (.ref f4) = true)
    (a5 : PySem.W.nsIn K mainGlobals "_check_plain" = some (some (.ref f5)))
    (l5 : K.lookup f5 = some ⟨oc5, od5, .func (PySem.W.fnOf "_check_plain" "_check_plain" (defArgs s_check_plain) (defBody s_check_plain) (defScope s_check_plain) .none kV5 dc5 pm5 an5 cd5 ct5), sl5⟩)
    (c5 : PySem.W.codeIn K cd5 "_check_plain" = true)
    (k5 : PySem.W.keepIn K (.ref f5) = true)
    (a6 : PySem.W.nsIn K mainGlobals "write_plain" = some (some (.ref f6)))
    (l6 : K.lookup f6 = some ⟨oc6, od6, .func (PySem.W.fnOf "write_plain" "write_plain" (defArgs s_write_plain) (defBody s_write_plain) (defScope s_write_plain) .none kV6 dc6 pm6 an6 cd6 ct6), sl6⟩)
    (c6 : PySem.W.codeIn K cd6 "write_plain" = true)
    (k6 : PySem.W.keepIn K (.ref f6) = true)
    (a7 : PySem.W.nsIn K mainGlobals "_text_of" = some (some (.ref f7)))
    (l7 : K.lookup f7 = some ⟨oc7, od7, .func (PySem.W.fnOf "_text_of" "_text_of" (defArgs s_text_of) (defBody s_text_of) (defScope s_text_of) .none kV7 dc7 pm7 an7 cd7 ct7), sl7⟩)
    (c7 : PySem.W.codeIn K cd7 "_text_of" = true)
    (k7 : PySem.W.keepIn K (.ref f7) = true)
    (a8 : PySem.W.nsIn K mainGlobals "read_plain" = some (some (.ref f8)))
    (l8 : K.lookup f8 = some ⟨oc8, od8, .func (PySem.W.fnOf "read_plain" "read_plain" (defArgs s_read_plain) (defBody s_read_plain) (defScope s_read_plain) .none kV8 dc8 pm8 an8 cd8 ct8), sl8⟩)
    (c8 : PySem.W.codeIn K cd8 "read_plain" = true)
    (k8 : PySem.W.keepIn K (.ref f8) = true)
    (a9 : PySem.W.nsIn K mainGlobals "_read_value" = some (some (.ref f9)))
    (l9 : K.lookup f9 = some ⟨oc9, od9, .func (PySem.W.fnOf "_read_value" "_read_value" (defArgs s_read_value) (defBody s_read_value) (defScope s_read_value) .none kV9 dc9 pm9 an9 cd9 ct9), sl9⟩)
    (c9 : PySem.W.codeIn K cd9 "_read_value" = true)
    (k9 : PySem.W.keepIn K (.ref f9) = true)
    (a10 : PySem.W.nsIn K mainGlobals "_read_string" = some (some (.ref f10)))
    (l10 : K.lookup f10 = some ⟨oc10, od10, .func (PySem.W.fnOf "_read_string" "_read_string" (defArgs s_read_string) (defBody s_read_string) (defScope s_read_string) .none kV10 dc10 pm10 an10 cd10 ct10), sl10⟩)
    (c10 : PySem.W.codeIn K cd10 "_read_string" = true)
    (k10 : PySem.W.keepIn K (.ref f10) = true)
    (a11 : PySem.W.nsIn K mainGlobals "_read_digits" = some (some (.ref f11)))
    (l11 : K.lookup f11 = some ⟨oc11, od11, .func (PySem.W.fnOf "_read_digits" "_read_digits" (defArgs s_read_digits) (defBody s_read_digits) (defScope s_read_digits) .none kV11 dc11 pm11 an11 cd11 ct11), sl11⟩)
    (c11 : PySem.W.codeIn K cd11 "_read_digits" = true)
    (k11 : PySem.W.keepIn K (.ref f11) = true)
    (a12 : PySem.W.nsIn K mainGlobals "_read_tuple" = some (some (.ref f12)))
    (l12 : K.lookup f12 = some ⟨oc12, od12, .func (PySem.W.fnOf "_read_tuple" "_read_tuple" (defArgs s_read_tuple) (defBody s_read_tuple) (defScope s_read_tuple) .none kV12 dc12 pm12 an12 cd12 ct12), sl12⟩)
    (c12 : PySem.W.codeIn K cd12 "_read_tuple" = true)
    (k12 : PySem.W.keepIn K (.ref f12) = true)
    (a13 : PySem.W.nsIn K mainGlobals "_law_dice" = some (some (.ref f13)))
    (l13 : K.lookup f13 = some ⟨oc13, od13, .func (PySem.W.fnOf "_law_dice" "_law_dice" (defArgs s_law_dice) (defBody s_law_dice) (defScope s_law_dice) .none kV13 dc13 pm13 an13 cd13 ct13), sl13⟩)
    (c13 : PySem.W.codeIn K cd13 "_law_dice" = true)
    (k13 : PySem.W.keepIn K (.ref f13) = true)
    (a14 : PySem.W.nsIn K mainGlobals "_law_roll" = some (some (.ref f14)))
    (l14 : K.lookup f14 = some ⟨oc14, od14, .func (PySem.W.fnOf "_law_roll" "_law_roll" (defArgs s_law_roll) (defBody s_law_roll) (defScope s_law_roll) .none kV14 dc14 pm14 an14 cd14 ct14), sl14⟩)
    (c14 : PySem.W.codeIn K cd14 "_law_roll" = true)
    (k14 : PySem.W.keepIn K (.ref f14) = true)
    (a15 : PySem.W.nsIn K mainGlobals "_law_pick" = some (some (.ref f15)))
    (l15 : K.lookup f15 = some ⟨oc15, od15, .func (PySem.W.fnOf "_law_pick" "_law_pick" (defArgs s_law_pick) (defBody s_law_pick) (defScope s_law_pick) .none kV15 dc15 pm15 an15 cd15 ct15), sl15⟩)
    (c15 : PySem.W.codeIn K cd15 "_law_pick" = true)
    (k15 : PySem.W.keepIn K (.ref f15) = true)
    (a16 : PySem.W.nsIn K mainGlobals "_law_va_plain" = some (some (.ref f16)))
    (l16 : K.lookup f16 = some ⟨oc16, od16, .func (PySem.W.fnOf "_law_va_plain" "_law_va_plain" (defArgs s_law_va_plain) (defBody s_law_va_plain) (defScope s_law_va_plain) .none kV16 dc16 pm16 an16 cd16 ct16), sl16⟩)
    (c16 : PySem.W.codeIn K cd16 "_law_va_plain" = true)
    (k16 : PySem.W.keepIn K (.ref f16) = true)
    (a17 : PySem.W.nsIn K mainGlobals "_law_va_text" = some (some (.ref f17)))
    (l17 : K.lookup f17 = some ⟨oc17, od17, .func (PySem.W.fnOf "_law_va_text" "_law_va_text" (defArgs s_law_va_text) (defBody s_law_va_text) (defScope s_law_va_text) .none kV17 dc17 pm17 an17 cd17 ct17), sl17⟩)
    (c17 : PySem.W.codeIn K cd17 "_law_va_text" = true)
    (k17 : PySem.W.keepIn K (.ref f17) = true)
    (a18 : PySem.W.nsIn K mainGlobals "_law_va_number" = some (some (.ref f18)))
    (l18 : K.lookup f18 = some ⟨oc18, od18, .func (PySem.W.fnOf "_law_va_number" "_law_va_number" (defArgs s_law_va_number) (defBody s_law_va_number) (defScope s_law_va_number) .none kV18 dc18 pm18 an18 cd18 ct18), sl18⟩)
    (c18 : PySem.W.codeIn K cd18 "_law_va_number" = true)
    (k18 : PySem.W.keepIn K (.ref f18) = true)
    (a19 : PySem.W.nsIn K mainGlobals "_law_va_string" = some (some (.ref f19)))
    (l19 : K.lookup f19 = some ⟨oc19, od19, .func (PySem.W.fnOf "_law_va_string" "_law_va_string" (defArgs s_law_va_string) (defBody s_law_va_string) (defScope s_law_va_string) .none kV19 dc19 pm19 an19 cd19 ct19), sl19⟩)
    (c19 : PySem.W.codeIn K cd19 "_law_va_string" = true)
    (k19 : PySem.W.keepIn K (.ref f19) = true)
    (a20 : PySem.W.nsIn K mainGlobals "_law_va_read" = some (some (.ref f20)))
    (l20 : K.lookup f20 = some ⟨oc20, od20, .func (PySem.W.fnOf "_law_va_read" "_law_va_read" (defArgs s_law_va_read) (defBody s_law_va_read) (defScope s_law_va_read) .none kV20 dc20 pm20 an20 cd20 ct20), sl20⟩)
    (c20 : PySem.W.codeIn K cd20 "_law_va_read" = true)
    (k20 : PySem.W.keepIn K (.ref f20) = true)
    (a21 : PySem.W.nsIn K mainGlobals "_law_due" = some (some (.ref f21)))
    (l21 : K.lookup f21 = some ⟨oc21, od21, .func (PySem.W.fnOf "_law_due" "_law_due" (defArgs s_law_due) (defBody s_law_due) (defScope s_law_due) .none kV21 dc21 pm21 an21 cd21 ct21), sl21⟩)
    (c21 : PySem.W.codeIn K cd21 "_law_due" = true)
    (k21 : PySem.W.keepIn K (.ref f21) = true)
    (a22 : PySem.W.nsIn K mainGlobals "_law_told" = some (some (.ref f22)))
    (l22 : K.lookup f22 = some ⟨oc22, od22, .func (PySem.W.fnOf "_law_told" "_law_told" (defArgs s_law_told) (defBody s_law_told) (defScope s_law_told) .none kV22 dc22 pm22 an22 cd22 ct22), sl22⟩)
    (c22 : PySem.W.codeIn K cd22 "_law_told" = true)
    (k22 : PySem.W.keepIn K (.ref f22) = true)
    (a23 : PySem.W.nsIn K mainGlobals "_law_spoilt" = some (some (.ref f23)))
    (l23 : K.lookup f23 = some ⟨oc23, od23, .func (PySem.W.fnOf "_law_spoilt" "_law_spoilt" (defArgs s_law_spoilt) (defBody s_law_spoilt) (defScope s_law_spoilt) .none kV23 dc23 pm23 an23 cd23 ct23), sl23⟩)
    (c23 : PySem.W.codeIn K cd23 "_law_spoilt" = true)
    (k23 : PySem.W.keepIn K (.ref f23) = true)
    (a24 : PySem.W.nsIn K mainGlobals "_law_right" = some (some (.ref f24)))
    (l24 : K.lookup f24 = some ⟨oc24, od24, .func (PySem.W.fnOf "_law_right" "_law_right" (defArgs s_law_right) (defBody s_law_right) (defScope s_law_right) .none kV24 dc24 pm24 an24 cd24 ct24), sl24⟩)
    (c24 : PySem.W.codeIn K cd24 "_law_right" = true)
    (k24 : PySem.W.keepIn K (.ref f24) = true)
    (a25 : PySem.W.nsIn K mainGlobals "law" = some (some (.ref f25)))
    (l25 : K.lookup f25 = some ⟨oc25, od25, .func (PySem.W.fnOf "law" "law" (defArgs s_law) (defBody s_law) (defScope s_law) .none kV25 dc25 pm25 an25 cd25 ct25), sl25⟩)
    (c25 : PySem.W.codeIn K cd25 "law" = true)
    (k25 : PySem.W.keepIn K (.ref f25) = true)
    (aEParseError : PySem.W.nsIn K mainGlobals "ParseError" = some (some (.ref EParseError)))
    (zEParseErrorini : PySem.W.findIn K (.ref EParseError) "__init__" = some (some (.ref f26)))
    (l26 : K.lookup f26 = some ⟨oc26, od26, .func (PySem.W.fnOf "__init__" "ParseError.__init__" (defArgs s_ParseError_init) (defBody s_ParseError_init) (defScope s_ParseError_init) .none kV26 dc26 pm26 an26 cd26 ct26), sl26⟩)
    (c26 : PySem.W.codeIn K cd26 "ParseError.__init__" = true)
    (k26 : PySem.W.keepIn K (.ref f26) = true)
    (aEInvalidOperation : PySem.W.nsIn K mainGlobals "InvalidOperation" = some (some (.ref EInvalidOperation)))
    (qEInvalidOperation : PySem.W.excIn K EInvalidOperation bmVE "ValueError.__new__" = true)
    (zEInvalidOperationkc : PySem.W.keepIn K (.ref EInvalidOperation) = true)
    (zEInvalidOperationsb : PySem.W.subIn K (.ref EInvalidOperation) (.type "BaseException") = some true)
    (zEInvalidOperationty : PySem.W.typeIn K (.ref EInvalidOperation) = some (.type "type"))
    (zEParseErroroi : oexIn K EParseError = true)
    (zEParseErrorxf : xfB K EParseError = true)
    (zEParseErrorkc : PySem.W.keepIn K (.ref EParseError) = true)
    (zEParseErrorsb : PySem.W.subIn K (.ref EParseError) (.type "BaseException") = some true)
    (zEParseErrorty : PySem.W.typeIn K (.ref EParseError) = some (.type "type"))
    (zEParseErrorsa : PySem.W.findIn K (.ref EParseError) "__setattr__" = some (some (.builtin "object.__setattr__")))
    (zEParseErrorfn : PySem.W.typeIn K (.ref f26) = some (.type "function"))
    (zEParseErrornospot : PySem.W.findIn K (.ref EParseError) "spot" = some none)
    (zEInvalidOperationParseError : PySem.W.exmOne K (.ref EInvalidOperation) (.ref EParseError) = some false)
    (zEParseErrorParseError : PySem.W.exmOne K (.ref EParseError) (.ref EParseError) = some true)
    (x0 : PySem.W.nsIn K mainGlobals "MAX_NEST" = some (some (.int (12) tk0)))
    (x1 : PySem.W.nsIn K mainGlobals "MAX_STRING" = some (some (.int (3000) tk1)))
    (x2 : PySem.W.nsIn K mainGlobals "MAX_DIGITS" = some (some (.int (60) tk2)))
    (x3 : PySem.W.nsIn K mainGlobals "MAX_NUMBER" = some (some (.int (999999999999999999999999999999999999999999999999999999999999) tk3)))
    (x4 : PySem.W.nsIn K mainGlobals "DIGITS" = some (some (.str "0123456789" tk4)))
    (x5 : PySem.W.nsIn K mainGlobals "SIGNS" = some (some (.str "abcdefghijklmnopqrstuvwxyz0123456789 " tk5)))
    (y0 : PySem.W.nsIn K mainGlobals "abs" = some none)
    (y1 : PySem.W.nsIn K mainGlobals "bool" = some none)
    (y2 : PySem.W.nsIn K mainGlobals "int" = some none)
    (y3 : PySem.W.nsIn K mainGlobals "isinstance" = some none)
    (y4 : PySem.W.nsIn K mainGlobals "len" = some none)
    (y5 : PySem.W.nsIn K mainGlobals "max" = some none)
    (y6 : PySem.W.nsIn K mainGlobals "min" = some none)
    (y7 : PySem.W.nsIn K mainGlobals "range" = some none)
    (y8 : PySem.W.nsIn K mainGlobals "repr" = some none)
    (y9 : PySem.W.nsIn K mainGlobals "str" = some none)
    (y10 : PySem.W.nsIn K mainGlobals "tuple" = some none)
    : LawG l w K CX0 52 63 "script" mg fa h := by
  have e := hfa.symm.trans (PySem.W.mg_of X G a25)
  cases e
  have F0 := fun_mk (st := s_is_number) l0 c0 k0
  have b0 := F0.binds (ps := ["value"]) fun _ _ _ _ _ _ us hl => match us, hl with | [_], _ => rfl
  have F1 := fun_mk (st := s_is_made_of) l1 c1 k1
  have b1 := F1.binds (ps := ["value", "signs", "most"]) fun _ _ _ _ _ _ us hl => match us, hl with | [_, _, _], _ => rfl
  have F2 := fun_mk (st := s_is_plain) l2 c2 k2
  have b2 := F2.binds (ps := ["value"]) fun _ _ _ _ _ _ us hl => match us, hl with | [_], _ => rfl
  have F3 := fun_mk (st := s_is_plain_within) l3 c3 k3
  have b3 := F3.binds (ps := ["value", "most"]) fun _ _ _ _ _ _ us hl => match us, hl with | [_, _], _ => rfl
  have F4 := fun_mk (st := s_is_single) l4 c4 k4
  have b4 := F4.binds (ps := ["value"]) fun _ _ _ _ _ _ us hl => match us, hl with | [_], _ => rfl
  have F5 := fun_mk (st := s_check_plain) l5 c5 k5
  have b5 := F5.binds (ps := ["value"]) fun _ _ _ _ _ _ us hl => match us, hl with | [_], _ => rfl
  have F6 := fun_mk (st := s_write_plain) l6 c6 k6
  have b6 := F6.binds (ps := ["value"]) fun _ _ _ _ _ _ us hl => match us, hl with | [_], _ => rfl
  have F7 := fun_mk (st := s_text_of) l7 c7 k7
  have b7 := F7.binds (ps := ["value"]) fun _ _ _ _ _ _ us hl => match us, hl with | [_], _ => rfl
  have F8 := fun_mk (st := s_read_plain) l8 c8 k8
  have b8 := F8.binds (ps := ["text"]) fun _ _ _ _ _ _ us hl => match us, hl with | [_], _ => rfl
  have F9 := fun_mk (st := s_read_value) l9 c9 k9
  have b9 := F9.binds (ps := ["text", "start", "nest"]) fun _ _ _ _ _ _ us hl => match us, hl with | [_, _, _], _ => rfl
  have F10 := fun_mk (st := s_read_string) l10 c10 k10
  have b10 := F10.binds (ps := ["text", "start"]) fun _ _ _ _ _ _ us hl => match us, hl with | [_, _], _ => rfl
  have F11 := fun_mk (st := s_read_digits) l11 c11 k11
  have b11 := F11.binds (ps := ["text", "start", "firsts"]) fun _ _ _ _ _ _ us hl => match us, hl with | [_, _, _], _ => rfl
  have F12 := fun_mk (st := s_read_tuple) l12 c12 k12
  have b12 := F12.binds (ps := ["text", "start", "nest"]) fun _ _ _ _ _ _ us hl => match us, hl with | [_, _, _], _ => rfl
  have F13 := fun_mk (st := s_law_dice) l13 c13 k13
  have b13 := F13.binds (ps := ["script", "spot"]) fun _ _ _ _ _ _ us hl => match us, hl with | [_, _], _ => rfl
  have F14 := fun_mk (st := s_law_roll) l14 c14 k14
  have b14 := F14.binds (ps := ["dice", "most"]) fun _ _ _ _ _ _ us hl => match us, hl with | [_, _], _ => rfl
  have F15 := fun_mk (st := s_law_pick) l15 c15 k15
  have b15 := F15.binds (ps := ["dice", "items"]) fun _ _ _ _ _ _ us hl => match us, hl with | [_, _], _ => rfl
  have F16 := fun_mk (st := s_law_va_plain) l16 c16 k16
  have b16 := F16.binds (ps := ["dice", "deep"]) fun _ _ _ _ _ _ us hl => match us, hl with | [_, _], _ => rfl
  have F17 := fun_mk (st := s_law_va_text) l17 c17 k17
  have b17 := F17.binds (ps := ["value"]) fun _ _ _ _ _ _ us hl => match us, hl with | [_], _ => rfl
  have F18 := fun_mk (st := s_law_va_number) l18 c18 k18
  have b18 := F18.binds (ps := ["text", "at"]) fun _ _ _ _ _ _ us hl => match us, hl with | [_, _], _ => rfl
  have F19 := fun_mk (st := s_law_va_string) l19 c19 k19
  have b19 := F19.binds (ps := ["text", "at"]) fun _ _ _ _ _ _ us hl => match us, hl with | [_, _], _ => rfl
  have F20 := fun_mk (st := s_law_va_read) l20 c20 k20
  have b20 := F20.binds (ps := ["text", "at", "deep"]) fun _ _ _ _ _ _ us hl => match us, hl with | [_, _, _], _ => rfl
  have F21 := fun_mk (st := s_law_due) l21 c21 k21
  have b21 := F21.binds (ps := ["text"]) fun _ _ _ _ _ _ us hl => match us, hl with | [_], _ => rfl
  have F22 := fun_mk (st := s_law_told) l22 c22 k22
  have b22 := F22.binds (ps := ["text"]) fun _ _ _ _ _ _ us hl => match us, hl with | [_], _ => rfl
  have F23 := fun_mk (st := s_law_spoilt) l23 c23 k23
  have b23 := F23.binds (ps := ["dice", "text"]) fun _ _ _ _ _ _ us hl => match us, hl with | [_, _], _ => rfl
  have F24 := fun_mk (st := s_law_right) l24 c24 k24
  have b24 := F24.binds (ps := ["dice"]) fun _ _ _ _ _ _ us hl => match us, hl with | [_], _ => rfl
  have F25 := fun_mk (st := s_law) l25 c25 k25
  have b25 := F25.binds (ps := ["script"]) fun _ _ _ _ _ _ us hl => match us, hl with | [_], _ => rfl
  have F26 := fun_mk (st := s_ParseError_init) l26 c26 k26
  have b26 := F26.binds (ps := ["self", "spot"]) fun _ _ _ _ _ _ us hl => match us, hl with | [_, _], _ => rfl
  have T : Txt K mg ⟨f0, f1, f2, f3, f4, f5, f6, f7, f8, f9, f10, f11, f12, f13, f14, f15, f16, f17, f18, f19, f20, f21, f22, f23, f24, fa, f26, EInvalidOperation, EParseError⟩ ⟨_, _, _, _, _, _, _, _, _, _, _, _, _, _, _, _, _, _, _, _, _, _, _, _, _, _, _⟩ :=
    ⟨PySem.W.mg_of X G a0,
     F0,
     b0,
     PySem.W.mg_of X G a1,
     F1,
     b1,
     PySem.W.mg_of X G a2,
     F2,
     b2,
     PySem.W.mg_of X G a3,
     F3,
     b3,
     PySem.W.mg_of X G a4,
     F4,
     b4,
     PySem.W.mg_of X G a5,
     F5,
     b5,
     PySem.W.mg_of X G a6,
     F6,
     b6,
     PySem.W.mg_of X G a7,
     F7,
     b7,
     PySem.W.mg_of X G a8,
     F8,
     b8,
     PySem.W.mg_of X G a9,
     F9,
     b9,
     PySem.W.mg_of X G a10,
     F10,
     b10,
     PySem.W.mg_of X G a11,
     F11,
     b11,
     PySem.W.mg_of X G a12,
     F12,
     b12,
     PySem.W.mg_of X G a13,
     F13,
     b13,
     PySem.W.mg_of X G a14,
     F14,
     b14,
     PySem.W.mg_of X G a15,
     F15,
     b15,
     PySem.W.mg_of X G a16,
     F16,
     b16,
     PySem.W.mg_of X G a17,
     F17,
     b17,
     PySem.W.mg_of X G a18,
     F18,
     b18,
     PySem.W.mg_of X G a19,
     F19,
     b19,
     PySem.W.mg_of X G a20,
     F20,
     b20,
     PySem.W.mg_of X G a21,
     F21,
     b21,
     PySem.W.mg_of X G a22,
     F22,
     b22,
     PySem.W.mg_of X G a23,
     F23,
     b23,
     PySem.W.mg_of X G a24,
     F24,
     b24,
     PySem.W.mg_of X G a25,
     F25,
     b25,
     F26,
     b26,
     ⟨_, PySem.W.mg_of X G x0⟩,
     ⟨_, PySem.W.mg_of X G x1⟩,
     ⟨_, PySem.W.mg_of X G x2⟩,
     ⟨_, PySem.W.mg_of X G x3⟩,
     ⟨_, PySem.W.mg_of X G x4⟩,
     ⟨_, PySem.W.mg_of X G x5⟩,
     PySem.W.mg_none_of X G y0,
     PySem.W.mg_none_of X G y1,
     PySem.W.mg_none_of X G y2,
     PySem.W.mg_none_of X G y3,
     PySem.W.mg_none_of X G y4,
     PySem.W.mg_none_of X G y5,
     PySem.W.mg_none_of X G y6,
     PySem.W.mg_none_of X G y7,
     PySem.W.mg_none_of X G y8,
     PySem.W.mg_none_of X G y9,
     PySem.W.mg_none_of X G y10,
     ⟨PySem.W.mg_of X G aEInvalidOperation, qEInvalidOperation, zEInvalidOperationkc, zEInvalidOperationsb, zEInvalidOperationty⟩,
     ⟨PySem.W.mg_of X G aEParseError, oexC zEParseErroroi zEParseErrorsa zEParseErrorsb zEParseErrorty zEParseErrorkc, xfB_ok zEParseErrorxf, zEParseErrorini, zEParseErrorfn⟩,
     zEParseErrornospot,
     zEInvalidOperationParseError,
     zEParseErrorParseError⟩
  exact ⟨PySem.W.fnOf "law" "law" (defArgs s_law) (defBody s_law) (defScope s_law) .none kV25 dc25 pm25 an25 cd25 ct25, [], sp_law K, fun p hp => (List.not_mem_nil hp).elim, fun p hp => (List.not_mem_nil hp).elim, fun p hp => (List.not_mem_nil hp).elim, fun s v => .of_eq rfl, fun H a ns hl _ hS => ⟨a, ns, rfl, hS, hl, fun _ => rfl⟩, fun base _ _ _ => ok_law T⟩
theorem walk {l : PySem.W.OpenLaw} {q : Program} {loose : List Str} {XP : (Str → Option Value) → Heap → Prop} {YP : World → Heap → Prop} {d : DefRec} {K : Params → PySem.W.Frag} (hn : l.most = some 63) (hdf : d.params.defaults = [])
    (hY : ∀ (w : World) (h : Heap), YP w h → (K w.params).In h)
    (F : ∀ (w : World) (mg : Str → Option Value) (fa : Addr) (h : Heap), YP w h → (K w.params).In h → h.Ns mainGlobals mg → mg d.name = some (.ref fa) →
      LawG l w (K w.params) CX0 52 63 "script" mg fa h) :
    PySem.W.WalkO q loose XP YP l.row.toRowW d [] (fun f vs => PySem.call f vs) :=
  walk_ofG (n := 63) (k := 52) (x := "script") (CXr := fun _ => CX0) hn (by rw [sizeLine_eq]; decide) hdf ⟨rfl, by decide, by decide⟩ hY F fun _ _ _ _ _ z => z
end K0
open PySem PySem.W PyProof.Rows
set_option maxRecDepth 100000 in
set_option maxHeartbeats 0 in
theorem PySem.Challenge.cw_halvesmeet_k02_whole_texts_of_plain_valu_holds : PySem.Challenge.rw_halvesmeet_k02_whole_texts_of_plain_valu.Holds := by
  w_on; o_law; k_head; (case hw => w_witness2)
  k_fill
  refine K0.walk (l := PySem.Challenge.rw_halvesmeet_k02_whole_texts_of_plain_valu) rfl rfl (fun w h Y => PySem.W.kIn_of Y) ?F
  case F =>
    intro w mg fa h Y KX G hmg
    refine' K0.all_mk KX G hmg ?a0 ?l0 ?c0 ?k0 ?a1 ?l1 ?c1 ?k1 ?a2 ?l2 ?c2 ?k2 ?a3 ?l3 ?c3 ?k3 ?a4 ?l4 ?c4 ?k4 ?a5 ?l5 ?c5 ?k5 ?a6 ?l6 ?c6 ?k6 ?a7 ?l7 ?c7 ?k7 ?a8 ?l8 ?c8 ?k8 ?a9 ?l9 ?c9 ?k9 ?a10 ?l10 ?c10 ?k10 ?a11 ?l11 ?c11 ?k11 ?a12 ?l12 ?c12 ?k12 ?a13 ?l13 ?c13 ?k13 ?a14 ?l14 ?c14 ?k14 ?a15 ?l15 ?c15 ?k15 ?a16 ?l16 ?c16 ?k16 ?a17 ?l17 ?c17 ?k17 ?a18 ?l18 ?c18 ?k18 ?a19 ?l19 ?c19 ?k19 ?a20 ?l20 ?c20 ?k20 ?a21 ?l21 ?c21 ?k21 ?a22 ?l22 ?c22 ?k22 ?a23 ?l23 ?c23 ?k23 ?a24 ?l24 ?c24 ?k24 ?a25 ?l25 ?c25 ?k25 ?aEParseError ?zEParseErrorini ?l26 ?c26 ?k26 ?aEInvalidOperation ?qEInvalidOperation ?zEInvalidOperationkc ?zEInvalidOperationsb ?zEInvalidOperationty ?zEParseErroroi ?zEParseErrorxf ?zEParseErrorkc ?zEParseErrorsb ?zEParseErrorty ?zEParseErrorsa ?zEParseErrorfn ?zEParseErrornospot ?zEInvalidOperationParseError ?zEParseErrorParseError ?x0 ?x1 ?x2 ?x3 ?x4 ?x5 ?y0 ?y1 ?y2 ?y3 ?y4 ?y5 ?y6 ?y7 ?y8 ?y9 ?y10
    (case a0 => k_is)
    (case l0 => k_is)
    (case c0 => k_is)
    (case k0 => k_is)
    (case a1 => k_is)
    (case l1 => k_is)
    (case c1 => k_is)
    (case k1 => k_is)
    (case a2 => k_is)
    (case l2 => k_is)
    (case c2 => k_is)
    (case k2 => k_is)
    (case a3 => k_is)
    (case l3 => k_is)
    (case c3 => k_is)
    (case k3 => k_is)
    (case a4 => k_is)
    (case l4 => k_is)
    (case c4 => k_is)
    (case k4 => k_is)
    (case a5 => k_is)
    (case l5 => k_is)
    (case c5 => k_is)
    (case k5 => k_is)
    (case a6 => k_is)
    (case l6 => k_is)
    (case c6 => k_is)
    (case k6 => k_is)
    (case a7 => k_is)
    (case l7 => k_is)
    (case c7 => k_is)
    (case k7 => k_is)
    (case a8 => k_is)
    (case l8 => k_is)
    (case c8 => k_is)
    (case k8 => k_is)
    (case a9 => k_is)
    (case l9 => k_is)
    (case c9 => k_is)
    (case k9 => k_is)
    (case a10 => k_is)
    (case l10 => k_is)
    (case c10 => k_is)
    (case k10 => k_is)
    (case a11 => k_is)
    (case l11 => k_is)
    (case c11 => k_is)
    (case k11 => k_is)
    (case a12 => k_is)
    (case l12 => k_is)
    (case c12 => k_is)
    (case k12 => k_is)
    (case a13 => k_is)
    (case l13 => k_is)
    (case c13 => k_is)
    (case k13 => k_is)
    (case a14 => k_is)
    (case l14 => k_is)
    (case c14 => k_is)
    (case k14 => k_is)
    (case a15 => k_is)
    (case l15 => k_is)
    (case c15 => k_is)
    (case k15 => k_is)
    (case a16 => k_is)
    (case l16 => k_is)
    (case c16 => k_is)
    (case k16 => k_is)
    (case a17 => k_is)
    (case l17 => k_is)
    (case c17 => k_is)
    (case k17 => k_is)
    (case a18 => k_is)
    (case l18 => k_is)
    (case c18 => k_is)
    (case k18 => k_is)
    (case a19 => k_is)
    (case l19 => k_is)
    (case c19 => k_is)
    (case k19 => k_is)
    (case a20 => k_is)
    (case l20 => k_is)
    (case c20 => k_is)
    (case k20 => k_is)
    (case a21 => k_is)
    (case l21 => k_is)
    (case c21 => k_is)
    (case k21 => k_is)
    (case a22 => k_is)
    (case l22 => k_is)
    (case c22 => k_is)
    (case k22 => k_is)
    (case a23 => k_is)
    (case l23 => k_is)
    (case c23 => k_is)
    (case k23 => k_is)
    (case a24 => k_is)
    (case l24 => k_is)
    (case c24 => k_is)
    (case k24 => k_is)
    (case a25 => k_is)
    (case l25 => k_is)
    (case c25 => k_is)
    (case k25 => k_is)
    (case aEParseError => k_is)
    (case zEParseErrorini => k_is)
    (case l26 => k_is)
    (case c26 => k_is)
    (case k26 => k_is)
    (case aEInvalidOperation => k_is)
    (case qEInvalidOperation => k_exc)
    (case zEInvalidOperationkc => first | k_is | kit_is)
    (case zEInvalidOperationsb => k_is)
    (case zEInvalidOperationty => k_is)
    (case zEParseErroroi => first | kernel_rfl | rfl | decide +kernel)
    (case zEParseErrorxf => first | kernel_rfl | rfl | decide +kernel)
    (case zEParseErrorkc => first | k_is | kit_is)
    (case zEParseErrorsb => k_is)
    (case zEParseErrorty => k_is)
    (case zEParseErrorsa => k_is)
    (case zEParseErrorfn => k_is)
    (case zEParseErrornospot => k_is)
    (case zEInvalidOperationParseError => first | kernel_rfl | rfl | decide +kernel)
    (case zEParseErrorParseError => first | kernel_rfl | rfl | decide +kernel)
    (case x0 => k_is)
    (case x1 => k_is)
    (case x2 => k_is)
    (case x3 => k_is)
    (case x4 => k_is)
    (case x5 => k_is)
    (case y0 => k_is)
    (case y1 => k_is)
    (case y2 => k_is)
    (case y3 => k_is)
    (case y4 => k_is)
    (case y5 => k_is)
    (case y6 => k_is)
    (case y7 => k_is)
    (case y8 => k_is)
    (case y9 => k_is)
    (case y10 => k_is)

