import PyProof.Rows.All
import Wide.All
import OpenK.AllK
import Wide.FinOn
import HandS.ForMost
import HandS.Evl
import HandS.IsInst
import HandS.StrMore
import HandS.Strs
import HandS.TupAny
import HandS.Zip
import HandS.Walk
import HandS.Wide
import HandS.Conv
import HandS.Property
import HandS.ClsMeth
import HandS.CallLocal
import HandS.Defaults
import HandS.FStr
import HandS.TupMul
import HandS.Exc
import HandS.ExcInit
import HandS.ExcField
import PySem.Challenge.RW_halvesmeet_k03_errors_of_plain_values
import HandS.SetFor
import HandS.TryMany
import HandS.ExcOwn
import HandS.WordsExc
import HandS.RaiseMore
import HandS.Text
import HandS.Codes
import HandS.Lambda
import HandS.EndTab
import HandS.TupLe
set_option Elab.async false
set_option linter.all false
set_option maxRecDepth 100000
set_option maxHeartbeats 8000000
namespace K0
open PySem L2 Evl
/-- a dict of the top from texts to defs -/
def TabF (K : PySem.W.Frag) (w : World) (a : Addr) (ts : List (Str × Addr)) : Prop := ∃ es n, KDict K w a es n ∧ ∀ z, PySem.W.nsIn K a z = some ((ts.lookup z).map Value.ref)
/-- an own class has what isinstance asks -/
structure ObjC (K : PySem.W.Frag) (C : Addr) : Prop where
  ca : PySem.W.findIn K (.ref C) "__class__" = some (some (.builtin "object.__class__"))
  cg : PySem.W.specialIn K (.builtin "object.__class__") "__get__" = some (some (.builtin "getset_descriptor.__get__"))
  ct : PySem.W.takesIn K (.builtin "object.__class__") = some true
  co : PySem.W.mroIn K C (.type "object") = some true
def bmVE : List Value := [.type "ValueError", .type "Exception", .type "BaseException", .type "object"]
/-- an exception class over ValueError, without an __init__ of its own -/
structure ExcF (K : PySem.W.Frag) (mg : Str → Option Value) (x : Str) (C : Addr) : Prop where
  g : mg x = some (.ref C)
  q : PySem.W.excIn K C bmVE "ValueError.__new__" = true
  k : PySem.W.keepIn K (.ref C) = true
  b : PySem.W.subIn K (.ref C) (.type "BaseException") = some true
  t : PySem.W.typeIn K (.ref C) = some (.type "type")
/-- an exception class over ValueError with an __init__ of its own alone -/
def oexIn (K : PySem.W.Frag) (C : Addr) : Bool := match K.lookup C with
  | some ⟨.type "type", _, .cls cd, sl⟩ => (match cd.mro, sl.toList with
    | .ref C' :: bm, [_, _, _, _, some (.builtin n), _] => C' == C && n == "ValueError.__new__" && !cd.hasDel && cd.hasDict && PySem.HandSPX.refsVE bm
    | _, _ => false)
  | _ => false
theorem oexC {K : PySem.W.Frag} {C : Addr} (q : oexIn K C = true) (sa : PySem.W.findIn K (.ref C) "__setattr__" = some (some (.builtin "object.__setattr__"))) (exC : PySem.W.subIn K (.ref C) (.type "BaseException") = some true)
    (tyC : PySem.W.typeIn K (.ref C) = some (.type "type")) (kC : PySem.W.keepIn K (.ref C) = true) : OexC K C := by
  refine ⟨?_, sa, exC, tyC, kC⟩
  unfold oexIn at q
  split at q
  · rename_i dd cd sl ho
    split at q
    · rename_i C' bm k0 k1 k2 k3 n k5 hm hs
      simp only [Bool.and_eq_true, beq_iff_eq, Bool.not_eq_true'] at q
      obtain ⟨⟨⟨⟨rfl, rfl⟩, hdel⟩, hdi⟩, ht⟩ := q
      obtain ⟨nm, bs, mro, ns, qn, hd, sn, sub, ab, col, del⟩ := cd
      dsimp only at hm hdel hdi
      subst hm hdel hdi
      have hsl : sl = #[k0, k1, k2, k3, some (.builtin "ValueError.__new__"), k5] := by
        obtain ⟨l⟩ := sl
        simp only at hs
        rw [hs]
      subst hsl
      exact ⟨nm, qn, ns, bs, bm, sn, sub, ab, col, dd, k0, k1, k2, k3, k5, ho, ht⟩
    · cases q
  · cases q
structure ExI (K : PySem.W.Frag) (mg : Str → Option Value) (x : Str) (C fI : Addr) : Prop where
  g : mg x = some (.ref C)
  o : OexC K C
  x : XfC K C
  i : PySem.W.findIn K (.ref C) "__init__" = some (some (.ref fI))
  t : PySem.W.typeIn K (.ref fI) = some (.type "function")
def top (i : Nat) : Stmt := PySem.Challenge.pw_halvesmeet_k03_errors_of_plain_values.main.body.getD i (.Pass ⟨0, 0, 0, 0⟩)
abbrev s_is_number : Stmt := top 17
abbrev N_is_number : List Str := ["value"]
theorem sc_is_number : FnScope N_is_number ["value"] (defScope s_is_number) := ⟨rfl, rfl, rfl, by decide +kernel, rfl, by decide +kernel, by decide +kernel⟩
abbrev s_is_made_of : Stmt := top 18
abbrev N_is_made_of : List Str := ["value", "signs", "most"]
theorem sc_is_made_of : FnScope N_is_made_of ["value", "signs", "most"] (defScope s_is_made_of) := ⟨rfl, rfl, rfl, by decide +kernel, rfl, by decide +kernel, by decide +kernel⟩
abbrev s_is_plain : Stmt := top 19
abbrev N_is_plain : List Str := ["value"]
theorem sc_is_plain : FnScope N_is_plain ["value"] (defScope s_is_plain) := ⟨rfl, rfl, rfl, by decide +kernel, rfl, by decide +kernel, by decide +kernel⟩
abbrev s_is_plain_within : Stmt := top 20
abbrev N_is_plain_within : List Str := ["value", "most", "level", "nest", "inner", "part", "row", "member"]
theorem sc_is_plain_within : FnScope N_is_plain_within ["value", "most"] (defScope s_is_plain_within) := ⟨rfl, rfl, rfl, by decide +kernel, rfl, by decide +kernel, by decide +kernel⟩
abbrev s_is_single : Stmt := top 21
abbrev N_is_single : List Str := ["value"]
theorem sc_is_single : FnScope N_is_single ["value"] (defScope s_is_single) := ⟨rfl, rfl, rfl, by decide +kernel, rfl, by decide +kernel, by decide +kernel⟩
abbrev s_is_less : Stmt := top 22
abbrev N_is_less : List Str := ["one", "other"]
theorem sc_is_less : FnScope N_is_less ["one", "other"] (defScope s_is_less) := ⟨rfl, rfl, rfl, by decide +kernel, rfl, by decide +kernel, by decide +kernel⟩
abbrev s_ordered : Stmt := top 23
abbrev N_ordered : List Str := ["values", "found", "value"]
theorem sc_ordered : FnScope N_ordered ["values"] (defScope s_ordered) := ⟨rfl, rfl, rfl, by decide +kernel, rfl, by decide +kernel, by decide +kernel⟩
abbrev s_check_plain : Stmt := top 24
abbrev N_check_plain : List Str := ["value"]
theorem sc_check_plain : FnScope N_check_plain ["value"] (defScope s_check_plain) := ⟨rfl, rfl, rfl, by decide +kernel, rfl, by decide +kernel, by decide +kernel⟩
abbrev s_sort_key : Stmt := top 25
abbrev N_sort_key : List Str := ["value", "member"]
theorem sc_sort_key : FnScope N_sort_key ["value"] (defScope s_sort_key) := ⟨rfl, rfl, rfl, by decide +kernel, rfl, by decide +kernel, by decide +kernel⟩
abbrev s_write_plain : Stmt := top 26
abbrev N_write_plain : List Str := ["value"]
theorem sc_write_plain : FnScope N_write_plain ["value"] (defScope s_write_plain) := ⟨rfl, rfl, rfl, by decide +kernel, rfl, by decide +kernel, by decide +kernel⟩
abbrev s_text_of : Stmt := top 27
abbrev N_text_of : List Str := ["value", "member"]
theorem sc_text_of : FnScope N_text_of ["value"] (defScope s_text_of) := ⟨rfl, rfl, rfl, by decide +kernel, rfl, by decide +kernel, by decide +kernel⟩
abbrev s_read_plain : Stmt := top 28
abbrev N_read_plain : List Str := ["text", "value", "end"]
theorem sc_read_plain : FnScope N_read_plain ["text"] (defScope s_read_plain) := ⟨rfl, rfl, rfl, by decide +kernel, rfl, by decide +kernel, by decide +kernel⟩
abbrev s_read_value : Stmt := top 29
abbrev N_read_value : List Str := ["text", "start", "nest", "sign", "number", "end"]
theorem sc_read_value : FnScope N_read_value ["text", "start", "nest"] (defScope s_read_value) := ⟨rfl, rfl, rfl, by decide +kernel, rfl, by decide +kernel, by decide +kernel⟩
abbrev s_read_string : Stmt := top 30
abbrev N_read_string : List Str := ["text", "start", "end"]
theorem sc_read_string : FnScope N_read_string ["text", "start"] (defScope s_read_string) := ⟨rfl, rfl, rfl, by decide +kernel, rfl, by decide +kernel, by decide +kernel⟩
abbrev s_read_digits : Stmt := top 31
abbrev N_read_digits : List Str := ["text", "start", "firsts", "end"]
theorem sc_read_digits : FnScope N_read_digits ["text", "start", "firsts"] (defScope s_read_digits) := ⟨rfl, rfl, rfl, by decide +kernel, rfl, by decide +kernel, by decide +kernel⟩
abbrev s_read_tuple : Stmt := top 32
abbrev N_read_tuple : List Str := ["text", "start", "nest", "members", "end", "sign", "member"]
theorem sc_read_tuple : FnScope N_read_tuple ["text", "start", "nest"] (defScope s_read_tuple) := ⟨rfl, rfl, rfl, by decide +kernel, rfl, by decide +kernel, by decide +kernel⟩
abbrev s_law_dice : Stmt := top 34
abbrev N_law_dice : List Str := ["script", "spot", "cell", "left"]
theorem sc_law_dice : FnScope N_law_dice ["script", "spot"] (defScope s_law_dice) := ⟨rfl, rfl, rfl, by decide +kernel, rfl, by decide +kernel, by decide +kernel⟩
abbrev s_law_roll : Stmt := top 35
abbrev N_law_roll : List Str := ["dice", "most", "found", "one", "two"]
theorem sc_law_roll : FnScope N_law_roll ["dice", "most"] (defScope s_law_roll) := ⟨rfl, rfl, rfl, by decide +kernel, rfl, by decide +kernel, by decide +kernel⟩
abbrev s_law_pick : Stmt := top 36
abbrev N_law_pick : List Str := ["dice", "items"]
theorem sc_law_pick : FnScope N_law_pick ["dice", "items"] (defScope s_law_pick) := ⟨rfl, rfl, rfl, by decide +kernel, rfl, by decide +kernel, by decide +kernel⟩
abbrev s_law_met : Stmt := top 37
abbrev N_law_met : List Str := ["call", "error"]
theorem sc_law_met : FnScope N_law_met ["call"] (defScope s_law_met) := ⟨rfl, rfl, rfl, by decide +kernel, rfl, by decide +kernel, by decide +kernel⟩
abbrev s_law_right : Stmt := top 38
abbrev N_law_right : List Str := ["dice", "odd", "text", "wrong", "place", "told", "due", "word"]
theorem sc_law_right : FnScope N_law_right ["dice"] (defScope s_law_right) := ⟨rfl, rfl, rfl, by decide +kernel, rfl, by decide +kernel, by decide +kernel⟩
abbrev s_law : Stmt := top 39
abbrev N_law : List Str := ["script", "spot"]
theorem sc_law : FnScope N_law ["script"] (defScope s_law) := ⟨rfl, rfl, rfl, by decide +kernel, rfl, by decide +kernel, by decide +kernel⟩
abbrev s_ParseError_init : Stmt := inClass (top 3) 0
abbrev N_ParseError_init : List Str := ["self", "spot"]
theorem sc_ParseError_init : FnScope N_ParseError_init ["self", "spot"] (defScope s_ParseError_init) := ⟨rfl, rfl, rfl, by decide +kernel, rfl, by decide +kernel, by decide +kernel⟩
structure Ad where
  is_number : Addr
  is_made_of : Addr
  is_plain : Addr
  is_plain_within : Addr
  is_single : Addr
  is_less : Addr
  ordered : Addr
  check_plain : Addr
  sort_key : Addr
  write_plain : Addr
  text_of : Addr
  read_plain : Addr
  read_value : Addr
  read_string : Addr
  read_digits : Addr
  read_tuple : Addr
  law_dice : Addr
  law_roll : Addr
  law_pick : Addr
  law_met : Addr
  law_right : Addr
  law : Addr
  ParseError_init : Addr
  EInvalidOperation : Addr
  EParseError : Addr
structure Fd where
  is_number : FuncData
  is_made_of : FuncData
  is_plain : FuncData
  is_plain_within : FuncData
  is_single : FuncData
  is_less : FuncData
  ordered : FuncData
  check_plain : FuncData
  sort_key : FuncData
  write_plain : FuncData
  text_of : FuncData
  read_plain : FuncData
  read_value : FuncData
  read_string : FuncData
  read_digits : FuncData
  read_tuple : FuncData
  law_dice : FuncData
  law_roll : FuncData
  law_pick : FuncData
  law_met : FuncData
  law_right : FuncData
  law : FuncData
  ParseError_init : FuncData
/-- what the top has written -/
structure Txt (K : PySem.W.Frag) (mg : Str → Option Value) (A : Ad) (D : Fd) : Prop where
  g_is_number : mg "is_number" = some (.ref A.is_number)
  F_is_number : Fun K "is_number" "is_number" s_is_number A.is_number D.is_number
  b_is_number : Binds K D.is_number ["value"] []
  g_is_made_of : mg "is_made_of" = some (.ref A.is_made_of)
  F_is_made_of : Fun K "is_made_of" "is_made_of" s_is_made_of A.is_made_of D.is_made_of
  b_is_made_of : Binds K D.is_made_of ["value", "signs", "most"] []
  g_is_plain : mg "is_plain" = some (.ref A.is_plain)
  F_is_plain : Fun K "is_plain" "is_plain" s_is_plain A.is_plain D.is_plain
  b_is_plain : Binds K D.is_plain ["value"] []
  g_is_plain_within : mg "is_plain_within" = some (.ref A.is_plain_within)
  F_is_plain_within : Fun K "is_plain_within" "is_plain_within" s_is_plain_within A.is_plain_within D.is_plain_within
  b_is_plain_within : Binds K D.is_plain_within ["value", "most"] []
  g_is_single : mg "_is_single" = some (.ref A.is_single)
  F_is_single : Fun K "_is_single" "_is_single" s_is_single A.is_single D.is_single
  b_is_single : Binds K D.is_single ["value"] []
  g_is_less : mg "is_less" = some (.ref A.is_less)
  F_is_less : Fun K "is_less" "is_less" s_is_less A.is_less D.is_less
  b_is_less : Binds K D.is_less ["one", "other"] []
  g_ordered : mg "ordered" = some (.ref A.ordered)
  F_ordered : Fun K "ordered" "ordered" s_ordered A.ordered D.ordered
  b_ordered : Binds K D.ordered ["values"] []
  g_check_plain : mg "_check_plain" = some (.ref A.check_plain)
  F_check_plain : Fun K "_check_plain" "_check_plain" s_check_plain A.check_plain D.check_plain
  b_check_plain : Binds K D.check_plain ["value"] []
  g_sort_key : mg "_sort_key" = some (.ref A.sort_key)
  F_sort_key : Fun K "_sort_key" "_sort_key" s_sort_key A.sort_key D.sort_key
  b_sort_key : Binds K D.sort_key ["value"] []
  g_write_plain : mg "write_plain" = some (.ref A.write_plain)
  F_write_plain : Fun K "write_plain" "write_plain" s_write_plain A.write_plain D.write_plain
  b_write_plain : Binds K D.write_plain ["value"] []
  g_text_of : mg "_text_of" = some (.ref A.text_of)
  F_text_of : Fun K "_text_of" "_text_of" s_text_of A.text_of D.text_of
  b_text_of : Binds K D.text_of ["value"] []
  g_read_plain : mg "read_plain" = some (.ref A.read_plain)
  F_read_plain : Fun K "read_plain" "read_plain" s_read_plain A.read_plain D.read_plain
  b_read_plain : Binds K D.read_plain ["text"] []
  g_read_value : mg "_read_value" = some (.ref A.read_value)
  F_read_value : Fun K "_read_value" "_read_value" s_read_value A.read_value D.read_value
  b_read_value : Binds K D.read_value ["text", "start", "nest"] []
  g_read_string : mg "_read_string" = some (.ref A.read_string)
  F_read_string : Fun K "_read_string" "_read_string" s_read_string A.read_string D.read_string
  b_read_string : Binds K D.read_string ["text", "start"] []
  g_read_digits : mg "_read_digits" = some (.ref A.read_digits)
  F_read_digits : Fun K "_read_digits" "_read_digits" s_read_digits A.read_digits D.read_digits
  b_read_digits : Binds K D.read_digits ["text", "start", "firsts"] []
  g_read_tuple : mg "_read_tuple" = some (.ref A.read_tuple)
  F_read_tuple : Fun K "_read_tuple" "_read_tuple" s_read_tuple A.read_tuple D.read_tuple
  b_read_tuple : Binds K D.read_tuple ["text", "start", "nest"] []
  g_law_dice : mg "_law_dice" = some (.ref A.law_dice)
  F_law_dice : Fun K "_law_dice" "_law_dice" s_law_dice A.law_dice D.law_dice
  b_law_dice : Binds K D.law_dice ["script", "spot"] []
  g_law_roll : mg "_law_roll" = some (.ref A.law_roll)
  F_law_roll : Fun K "_law_roll" "_law_roll" s_law_roll A.law_roll D.law_roll
  b_law_roll : Binds K D.law_roll ["dice", "most"] []
  g_law_pick : mg "_law_pick" = some (.ref A.law_pick)
  F_law_pick : Fun K "_law_pick" "_law_pick" s_law_pick A.law_pick D.law_pick
  b_law_pick : Binds K D.law_pick ["dice", "items"] []
  g_law_met : mg "_law_met" = some (.ref A.law_met)
  F_law_met : Fun K "_law_met" "_law_met" s_law_met A.law_met D.law_met
  b_law_met : Binds K D.law_met ["call"] []
  g_law_right : mg "_law_right" = some (.ref A.law_right)
  F_law_right : Fun K "_law_right" "_law_right" s_law_right A.law_right D.law_right
  b_law_right : Binds K D.law_right ["dice"] []
  g_law : mg "law" = some (.ref A.law)
  F_law : Fun K "law" "law" s_law A.law D.law
  b_law : Binds K D.law ["script"] []
  F_ParseError_init : Fun K "__init__" "ParseError.__init__" s_ParseError_init A.ParseError_init D.ParseError_init
  b_ParseError_init : Binds K D.ParseError_init ["self", "spot"] []
  c_MAX_HOUSES : ∃ t, mg "MAX_HOUSES" = some (.int (9) t)
  c_MAX_CIRCLE : ∃ t, mg "MAX_CIRCLE" = some (.int (7) t)
  c_MAX_CLIENTS : ∃ t, mg "MAX_CLIENTS" = some (.int (5) t)
  c_MAX_KEYS : ∃ t, mg "MAX_KEYS" = some (.int (24) t)
  c_MAX_SIGNS : ∃ t, mg "MAX_SIGNS" = some (.int (12) t)
  c_MAX_LOT : ∃ t, mg "MAX_LOT" = some (.int (6) t)
  c_MAX_NEST : ∃ t, mg "MAX_NEST" = some (.int (12) t)
  c_MAX_STRING : ∃ t, mg "MAX_STRING" = some (.int (3000) t)
  c_MAX_DIGITS : ∃ t, mg "MAX_DIGITS" = some (.int (60) t)
  c_MAX_NUMBER : ∃ t, mg "MAX_NUMBER" = some (.int (999999999999999999999999999999999999999999999999999999999999) t)
  c_DIGITS : ∃ t, mg "DIGITS" = some (.str "0123456789" t)
  c_SIGNS : ∃ t, mg "SIGNS" = some (.str "abcdefghijklmnopqrstuvwxyz0123456789 " t)
  b_abs : mg "abs" = none
  b_bool : mg "bool" = none
  b_int : mg "int" = none
  b_isinstance : mg "isinstance" = none
  b_len : mg "len" = none
  b_max : mg "max" = none
  b_min : mg "min" = none
  b_range : mg "range" = none
  b_repr : mg "repr" = none
  b_sorted : mg "sorted" = none
  b_str : mg "str" = none
  b_tuple : mg "tuple" = none
  e_InvalidOperation : ExcF K mg "InvalidOperation" A.EInvalidOperation
  e_ParseError : ExI K mg "ParseError" A.EParseError A.ParseError_init
  n_ParseErrorspot : PySem.W.findIn K (.ref A.EParseError) "spot" = some none
  m_InvalidOperation_InvalidOperation : PySem.W.exmOne K (.ref A.EInvalidOperation) (.ref A.EInvalidOperation) = some true
  m_InvalidOperation_ParseError : PySem.W.exmOne K (.ref A.EInvalidOperation) (.ref A.EParseError) = some false
  m_ParseError_InvalidOperation : PySem.W.exmOne K (.ref A.EParseError) (.ref A.EInvalidOperation) = some false
  m_ParseError_ParseError : PySem.W.exmOne K (.ref A.EParseError) (.ref A.EParseError) = some true
/-! ### values as data -/
inductive D where
  | non | bl (b : Bool) | int (i : Int) | str (s : Str) | tup (ds : List D) | oth
mutual
inductive Rp (K : PySem.W.Frag) (H : Hp) : V → D → Prop where
  | non : Rp K H .non .non
  | bl (b : Bool) : Rp K H (.bl b) (.bl b)
  | int (i : Int) : Rp K H (.int i) (.int i)
  | str (s : Str) : Rp K H (.str s) (.str s)
  | tup {a : Addr} {xs : List V} {ds : List D} : SqT K H a xs → RpAll K H xs ds → Rp K H (.ref a) (.tup ds)
  | lst {a : Addr} {xs : List V} : H a = some (.lst xs) → Rp K H (.ref a) .oth
  | dct {a : Addr} {kvs : List (Key × V)} : H a = some (.dK kvs) → Rp K H (.ref a) .oth
inductive RpAll (K : PySem.W.Frag) (H : Hp) : List V → List D → Prop where
  | nil : RpAll K H [] []
  | cons {v : V} {vs : List V} {d : D} {ds : List D} : Rp K H v d → RpAll K H vs ds → RpAll K H (v :: vs) (d :: ds)
end
section
variable {K : PySem.W.Frag} {H H' : Hp}
mutual
theorem Rp.ex {v : V} {d : D} (e : Ex H H') : Rp K H v d → Rp K H' v d
  | .non => .non
  | .bl b => .bl b
  | .int i => .int i
  | .str s => .str s
  | .tup h r => .tup (ex_t e h) (RpAll.ex e r)
  | .lst h => .lst (e _ _ h)
  | .dct h => .dct (e _ _ h)
theorem RpAll.ex {vs : List V} {ds : List D} (e : Ex H H') : RpAll K H vs ds → RpAll K H' vs ds
  | .nil => .nil
  | .cons h r => .cons (Rp.ex e h) (RpAll.ex e r)
end
theorem RpAll.len {vs : List V} {ds : List D} : RpAll K H vs ds → vs.length = ds.length
  | .nil => rfl
  | .cons _ r => by rw [List.length_cons, List.length_cons, RpAll.len r]
theorem RpAll.inv {v : V} {vs : List V} {ds : List D} (h : RpAll K H (v :: vs) ds) : ∃ d es, ds = d :: es ∧ Rp K H v d ∧ RpAll K H vs es := by
  cases h with
  | cons h r => exact ⟨_, _, rfl, h, r⟩
theorem RpAll.get : ∀ (vs : List V) (ds : List D) (i : Nat) (v : V), RpAll K H vs ds → vs[i]? = some v → ∃ d, ds[i]? = some d ∧ Rp K H v d
  | [], _, _, _, _, h => by simp at h
  | u :: us, ds, 0, v, h, e => by
    have e' := Option.some.inj e
    subst e'
    obtain ⟨d, es, rfl, h1, _⟩ := h.inv
    exact ⟨d, rfl, h1⟩
  | u :: us, ds, i + 1, v, h, e => by
    obtain ⟨d, es, rfl, _, h2⟩ := h.inv
    obtain ⟨c, h3, h4⟩ := RpAll.get us es i v h2 (by simpa using e)
    exact ⟨c, by simpa using h3, h4⟩
theorem RpAll.app {vs ws : List V} {ds es : List D} : RpAll K H vs ds → RpAll K H ws es → RpAll K H (vs ++ ws) (ds ++ es)
  | .nil, s => s
  | .cons h r, s => .cons h (RpAll.app r s)
/-! ### kinds -/
def D.isInt : D → Bool
  | .int _ => true | .bl _ => true | _ => false
def D.isBl : D → Bool
  | .bl _ => true | _ => false
def D.isStr : D → Bool
  | .str _ => true | _ => false
def D.isTup : D → Bool
  | .tup _ => true | _ => false
theorem ty_tup {a : Addr} {xs : List V} (h : SqT K H a xs) : TyX K H (.ref a) (.type "tuple") := by
  rcases h with (h | ⟨o, h⟩) | ⟨o, its, n, lk, c, _⟩
  · exact .base (.tup h)
  · exact .fTuple h
  · exact .kTuple lk c
theorem rc_isi {n : String} {f : D → Bool} (hn : kitB "NoneType" n = some (f .non)) (hb : ∀ b, kitB "bool" n = some (f (.bl b))) (hi : ∀ i, kitB "int" n = some (f (.int i))) (hs : ∀ s, kitB "str" n = some (f (.str s)))
    (ht : ∀ ds, kitB "tuple" n = some (f (.tup ds))) (hl : kitB "list" n = some (f .oth)) (hd : kitB "dict" n = some (f .oth)) {x : V} {d : D} (h : Rp K H x d) : RC (rIsi K) [x, .ty n] H (.bl (f d)) := fun H1 e Q q => by
  have h1 := Rp.ex e h
  cases h1 with
  | non => exact ⟨_, _, _, _, _, rfl, .ty _, .base .non, kit_ty hn, q H1 (Ex.refl _)⟩
  | bl b => exact ⟨_, _, _, _, _, rfl, .ty _, .base (.bl _), kit_ty (hb b), q H1 (Ex.refl _)⟩
  | int i => exact ⟨_, _, _, _, _, rfl, .ty _, .base (.int _), kit_ty (hi i), q H1 (Ex.refl _)⟩
  | str s => exact ⟨_, _, _, _, _, rfl, .ty _, .base (.str _), kit_ty (hs s), q H1 (Ex.refl _)⟩
  | tup h2 _ => exact ⟨_, _, _, _, _, rfl, .ty _, ty_tup h2, kit_ty (ht _), q H1 (Ex.refl _)⟩
  | lst h2 => exact ⟨_, _, _, _, _, rfl, .ty _, .base (.lst h2), kit_ty hl, q H1 (Ex.refl _)⟩
  | dct h2 => exact ⟨_, _, _, _, _, rfl, .ty _, .base (.dK h2), kit_ty hd, q H1 (Ex.refl _)⟩
theorem rc_int {x : V} {d : D} (h : Rp K H x d) : RC (rIsi K) [x, .ty "int"] H (.bl d.isInt) :=
  rc_isi (f := D.isInt) (show kitB "NoneType" "int" = some false by decide +kernel) (fun _ => show kitB "bool" "int" = some true by decide +kernel) (fun _ => show kitB "int" "int" = some true by decide +kernel) (fun _ => show kitB "str" "int" = some false by decide +kernel)
    (fun _ => show kitB "tuple" "int" = some false by decide +kernel) (show kitB "list" "int" = some false by decide +kernel) (show kitB "dict" "int" = some false by decide +kernel) h
theorem rc_bool {x : V} {d : D} (h : Rp K H x d) : RC (rIsi K) [x, .ty "bool"] H (.bl d.isBl) :=
  rc_isi (f := D.isBl) (show kitB "NoneType" "bool" = some false by decide +kernel) (fun _ => show kitB "bool" "bool" = some true by decide +kernel) (fun _ => show kitB "int" "bool" = some false by decide +kernel) (fun _ => show kitB "str" "bool" = some false by decide +kernel)
    (fun _ => show kitB "tuple" "bool" = some false by decide +kernel) (show kitB "list" "bool" = some false by decide +kernel) (show kitB "dict" "bool" = some false by decide +kernel) h
theorem rc_str {x : V} {d : D} (h : Rp K H x d) : RC (rIsi K) [x, .ty "str"] H (.bl d.isStr) :=
  rc_isi (f := D.isStr) (show kitB "NoneType" "str" = some false by decide +kernel) (fun _ => show kitB "bool" "str" = some false by decide +kernel) (fun _ => show kitB "int" "str" = some false by decide +kernel) (fun _ => show kitB "str" "str" = some true by decide +kernel)
    (fun _ => show kitB "tuple" "str" = some false by decide +kernel) (show kitB "list" "str" = some false by decide +kernel) (show kitB "dict" "str" = some false by decide +kernel) h
theorem rc_tup {x : V} {d : D} (h : Rp K H x d) : RC (rIsi K) [x, .ty "tuple"] H (.bl d.isTup) :=
  rc_isi (f := D.isTup) (show kitB "NoneType" "tuple" = some false by decide +kernel) (fun _ => show kitB "bool" "tuple" = some false by decide +kernel) (fun _ => show kitB "int" "tuple" = some false by decide +kernel) (fun _ => show kitB "str" "tuple" = some false by decide +kernel)
    (fun _ => show kitB "tuple" "tuple" = some true by decide +kernel) (show kitB "list" "tuple" = some false by decide +kernel) (show kitB "dict" "tuple" = some false by decide +kernel) h
theorem Rp.isI {x : V} {d : D} (h : Rp K H x d) (h1 : d.isInt = true) (h2 : d.isBl = false) : ∃ i, d = .int i ∧ x = .int i := by
  cases h <;> first | exact ⟨_, rfl, rfl⟩ | (simp [D.isInt] at h1; done) | (simp [D.isBl] at h2; done)
theorem Rp.isS {x : V} {d : D} (h : Rp K H x d) (h1 : d.isStr = true) : ∃ s, d = .str s ∧ x = .str s := by
  cases h <;> first | exact ⟨_, rfl, rfl⟩ | cases h1
theorem Rp.isT {x : V} {d : D} (h : Rp K H x d) (h1 : d.isTup = true) : ∃ a xs ds, d = .tup ds ∧ x = .ref a ∧ SqT K H a xs ∧ RpAll K H xs ds := by
  cases h <;> first | exact ⟨_, _, _, rfl, rfl, by assumption, by assumption⟩ | cases h1
end
/-! ### the promises of pure judges -/
def sp1 (f : D → Bool) (K : PySem.W.Frag) : Sp := fun vs H Q _ => ∃ x d, vs = [x] ∧ Rp K H x d ∧ RetV (.bl (f d)) H Q
theorem sp1_len {f : D → Bool} {K : PySem.W.Frag} {vs : List V} {H : Hp} {Q : VK} {E : XK} (h : sp1 f K vs H Q E) : vs.length = 1 := by
  obtain ⟨x, d, rfl, _⟩ := h
  rfl
theorem sv1 {f : D → Bool} {K : PySem.W.Frag} {H : Hp} {x : V} {d : D} (h : Rp K H x d) : SpV (sp1 f K) [x] H (.bl (f d)) := fun H1 e Q q E => ⟨x, d, rfl, h.ex e, q⟩
abbrev big : Int := 10 ^ 60 - 1
def numB (i : Int) : Bool := decide (-big ≤ i) && decide (i ≤ big)
def D.num : D → Bool
  | .int i => numB i | _ => false
section
variable {P : Program} {w : World} {K : PySem.W.Frag} {mg : Str → Option Value} {base : Heap} {A : Ad} {D : Fd}
abbrev sp_is_number (K : PySem.W.Frag) : Sp := sp1 K0.D.num K
theorem len_is_number {vs : List V} {H : Hp} {Q : VK} {E : XK} (h : sp_is_number K vs H Q E) : vs.length = 1 := sp1_len h
/-- a chain a <= b <= c of ints -/
theorem ev_chain_le {σ : L2.St} {H : Hp} {ta tb tc : TE} {i j k : Int} (ha : Ev ta σ H (.int i)) (hb : Ev tb σ H (.int j)) (hc : Ev tc σ H (.int k)) :
    Ev (tChain (rI0 fun i j => .bl (decide (i ≤ j))) (rI0 fun i j => .bl (decide (i ≤ j))) ta tb tc) σ H (.bl (decide (i ≤ j) && decide (j ≤ k))) := fun H1 e Q q =>
  ha H1 e _ fun H2 e2 => hb H2 (e.trans e2) _ fun H3 e3 => ⟨i, j, rfl, rfl, _, rfl, by
    by_cases c : i ≤ j
    · rw [if_pos (decide_eq_true c)]
      refine hc H3 ((e.trans e2).trans e3) _ fun H4 e4 => ⟨j, k, rfl, rfl, ?_⟩
      have := q H4 ((e2.trans e3).trans e4)
      rw [decide_eq_true c, Bool.true_and] at this
      exact this
    · rw [if_neg (by rw [decide_eq_false c]; decide)]
      have := q H3 (e2.trans e3)
      rw [decide_eq_false c, Bool.false_and] at this
      exact this⟩
theorem ok_is_number (T : Txt K mg A D) : FnOk P w K mg base CX0 1 A.is_number D.is_number ["value"] (sp_is_number K) := by
  obtain ⟨t_MAX_NUMBER, c_MAX_NUMBER⟩ := T.c_MAX_NUMBER
  refine T.F_is_number.ok sc_is_number (fun vs H Q E h => len_is_number h) (fun cdv A0 outer s H vs Q E hr h => ?_)
  refine ⟨_, (pss_cons (ps_if (PW.pt (pw_or (pt_not (pt_val (pe_callB call_isi (by rfl) T.b_isinstance (by decide +kernel) (pa_cons (pv 0) (pa_cons (pe_bltn (v := .ty "int") (u := .type "int") (by rfl) T.b_int (by decide +kernel) rfl) pa_nil))))) (pw_or1 (pt_val (pe_callB call_isi (by rfl) T.b_isinstance (by decide +kernel) (pa_cons (pv 0) (pa_cons (pe_bltn (v := .ty "bool") (u := .type "bool") (by rfl) T.b_bool (by decide +kernel) rfl) pa_nil))))))) (pss_one (ps_ret pe_bl)) pss_nil)
  (pss_one (ps_ret (pe_chain op_le op_le (pe_un un_neg (pe_glob (v := .int (999999999999999999999999999999999999999999999999999999999999)) rfl c_MAX_NUMBER ⟨_, rfl⟩)) (pv 0) (pe_glob (v := .int (999999999999999999999999999999999999999999999999999999999999)) rfl c_MAX_NUMBER ⟨_, rfl⟩))))), ?_⟩
  obtain ⟨x, d, rfl, hx, k⟩ := h
  refine q_when (et_or (et_not (et_B (ev_cb (ea_cons (ev_var rfl) (ea_cons ev_c ea_nil)) (rc_int hx)))) fun _ => et_B (ev_cb (ea_cons (ev_var rfl) (ea_cons ev_c ea_nil)) (rc_bool hx))) (fun hb H1 e1 => ?_) (fun hb H1 e1 => ?_)
  · refine s_ret ev_c fun H2 e2 => ?_
    have hf : K0.D.num d = false := by cases d <;> first | rfl | simp [K0.D.isInt, K0.D.isBl] at hb
    have := k H2 (e1.trans e2)
    rw [hf] at this
    exact this
  · have h1 : K0.D.isInt d = true := by cases z : K0.D.isInt d <;> rw [z] at hb <;> simp at hb <;> rfl
    have h2 : K0.D.isBl d = false := by cases z : K0.D.isBl d <;> rw [z] at hb <;> simp at hb <;> rfl
    obtain ⟨i, rfl, rfl⟩ := hx.isI h1 h2
    refine s_ret (ev_chain_le (i := -big) (j := i) (k := big) (ev_un ev_c ru_neg) (ev_var rfl) ev_c) fun H2 e2 => ?_
    exact k H2 (e1.trans e2)
end
end K0

namespace K0
open PySem L2 Evl
open PySem.Builtin.Str (strSub)
/-! ### texts -/
theorem takeWhile_le {α : Type} (p : α → Bool) : ∀ l : List α, (l.takeWhile p).length ≤ l.length
  | [] => Nat.le_refl _
  | a :: l => by
    rw [List.takeWhile_cons]
    split
    · simp only [List.length_cons]
      have := takeWhile_le p l
      omega
    · simp
theorem takeWhile_all {α : Type} (p : α → Bool) : ∀ l : List α, (l.takeWhile p).length = l.length → l.all p = true
  | [], _ => rfl
  | a :: l, h => by
    rw [List.takeWhile_cons] at h
    split at h
    · rename_i ha
      simp only [List.length_cons] at h
      rw [List.all_cons, ha, takeWhile_all p l (by omega)]
      rfl
    · simp at h
theorem all_takeWhile {α : Type} (p : α → Bool) : ∀ l : List α, l.all p = true → l.takeWhile p = l
  | [], _ => rfl
  | a :: l, h => by
    rw [List.all_cons, Bool.and_eq_true] at h
    rw [List.takeWhile_cons, if_pos h.1, all_takeWhile p l h.2]
theorem drop_takeWhile {α : Type} (p : α → Bool) : ∀ l : List α, (l.drop (l.takeWhile p).length).all p = true → l.all p = true
  | [], _ => rfl
  | a :: l, h => by
    rw [List.takeWhile_cons] at h
    split at h
    · rename_i ha
      rw [List.all_cons, ha, drop_takeWhile p l (by simpa using h)]
      rfl
    · simpa using h
theorem str_nil {x : Str} : x = ("" : Str) ↔ x.cps.toList.length = 0 := by
  constructor
  · intro h
    subst h
    decide +kernel
  · intro h
    obtain ⟨⟨l⟩⟩ := x
    cases l with
    | nil => decide +kernel
    | cons a l => simp at h
theorem strip_all (x y : Str) : decide (V.str (Txt.stripChars x y) = V.str "") = x.cps.toList.all y.cps.contains := by
  have key : (Txt.stripChars x y = ("" : Str)) ↔ x.cps.toList.all y.cps.contains = true := by
    unfold Txt.stripChars
    rw [PySem.W.stripBy_eq]
    show strSub x (stripLo y.cps.contains true x) (stripHi y.cps.contains true x (stripLo y.cps.contains true x)) = ("" : Str) ↔ _
    rw [str_nil]
    have e1 : stripLo y.cps.contains true x = (x.cps.toList.takeWhile y.cps.contains).length := rfl
    have e2 : stripHi y.cps.contains true x (stripLo y.cps.contains true x) = x.cps.toList.length - ((x.cps.toList.drop (stripLo y.cps.contains true x)).reverse.takeWhile y.cps.contains).length := by
      show x.cps.size - _ = _
      rw [Array.length_toList] <;> rfl
    have e3 : (strSub x (stripLo y.cps.contains true x) (stripHi y.cps.contains true x (stripLo y.cps.contains true x))).cps.toList.length = min (stripHi y.cps.contains true x (stripLo y.cps.contains true x)) x.cps.toList.length - stripLo y.cps.contains true x := by
      show (x.cps.extract _ _).toList.length = _
      rw [Array.length_toList, Array.size_extract, Array.length_toList]
    rw [e3, e2, e1]
    generalize x.cps.toList = l
    generalize y.cps.contains = p
    have h1 := takeWhile_le p l
    have h2 := takeWhile_le p (l.drop (l.takeWhile p).length).reverse
    rw [List.length_reverse, List.length_drop] at h2
    constructor
    · intro h
      have h3 : ((l.drop (l.takeWhile p).length).reverse.takeWhile p).length = (l.drop (l.takeWhile p).length).reverse.length := by
        rw [List.length_reverse, List.length_drop]
        omega
      have h4 := takeWhile_all p _ h3
      rw [List.all_reverse] at h4
      exact drop_takeWhile p l h4
    · intro h
      have h3 := all_takeWhile p l h
      rw [h3, List.drop_length]
      simp
  by_cases c : x.cps.toList.all y.cps.contains = true
  · rw [c]
    exact decide_eq_true (congrArg V.str (key.mpr c))
  · rw [Bool.not_eq_true] at c
    rw [c]
    refine decide_eq_false fun q => ?_
    have := key.mp (V.str.inj q)
    rw [c] at this
    cases this
/-! ### more of what evaluates to what -/
section
variable {K : PySem.W.Frag} {σ : L2.St} {H H' : Hp} {ta tb te tx : TE} {t u : TT} {x y z v : V}
/-- a tuple with these items, new or not -/
def EvW (K : PySem.W.Frag) (te : TE) (σ : L2.St) (H : Hp) (xs : List V) : Prop := ∀ H1, Ex H H1 → ∀ Q : VK, (∀ p H2, Ex H1 H2 → SqT K H2 p xs → Q (.ref p) H2) → te σ H1 Q
theorem ew_sl {tl th : TO} {a : Addr} {xs : List V} {lo hi : Option Int} (h : Ev te σ H (.ref a)) (h1 : EvO tl σ H lo) (h2 : EvO th σ H hi) (hs : SqT K H a xs) : EvW K (tSl (rSlA K) te tl th) σ H (cutV xs lo hi) := fun H1 e Q q =>
  h H1 e _ fun H2 e2 => h1 H2 (e.trans e2) _ fun H3 e3 => h2 H3 ((e.trans e2).trans e3) _ fun H4 e4 => by
    have hx := ex_t (((e.trans e2).trans e3).trans e4) hs
    refine ⟨a, xs, rfl, hx, fun hw => ?_, fun _ p hp => ?_⟩
    · refine q a H4 ((e2.trans e3).trans e4) ?_
      have : cutV xs lo hi = xs := by
        unfold cutV
        rw [hw.1, hw.2]
        simp
      rw [this]
      exact hx
    · exact q p _ (((e2.trans e3).trans e4).trans (Ex.new hp)) (st_of upd_same)
/-- comprehensions over a tuple, over zip of two tuples -/
theorem el_lcT {a : Addr} {xs : List V} {tl : TE} {j : Nat} {vs : List Nat} (f : Nat → Bool) (v : Nat → V) (h : Ev tl σ H (.ref a)) (hx : SqT K H a xs) (hz : xs.length ≤ 40000) (hw : ∀ x, wipe ((wipe σ vs).set j (some x)) vs = wipe σ vs)
    (ht : ∀ (i : Nat) (x : V) H1, Ex H H1 → xs[i]? = some x → EvT t ((wipe σ vs).set j (some x)) H1 (f i)) (he : ∀ (i : Nat) (x : V) H1, Ex H H1 → xs[i]? = some x → f i = true → Ev te ((wipe σ vs).set j (some x)) H1 (v i)) :
    EvL (tLc (iTup K tl) (gName j) t te vs) σ H (given xs.length f v) := fun H0 e Q q => h H0 e _ fun H1 e1 => ⟨a, rfl, ⟨xs, ex_t (e.trans e1) hx⟩, fun Dl hD =>
  lc_tup (xs := xs) (Cw H1 f v Dl) ⟨hD, Ex.new hD, upd_same⟩ (fun i H' _ p => ex_t ((e.trans e1).trans p.2.1) hx)
    (fun i x H' hi p => ⟨hw x, cw_turn p (by have := (List.getElem?_eq_some_iff.mp hi).1; omega) (ht i x H1 (e.trans e1) hi) (fun hf => he i x H1 (e.trans e1) hi hf)⟩)
    (fun H' p => q Dl H' (fresh_back e1 p.1) (e1.trans p.2.1) p.2.2)⟩
theorem walk_zipT {a b : Addr} {xs ys : List V} {n : Nat} (hn : n = min xs.length ys.length) : Walk (RZ.ItzT K a b) n (fun H => SqT K H a xs ∧ SqT K H b ys) (YPair (fun i => xs[i]?) (fun i => ys[i]?)) := by
  subst hn
  refine ⟨fun i _ hi g => ?_, fun _ g => ⟨xs, ys, g.1, g.2, by omega⟩, fun i H v H' _ g yy => ?_⟩
  · have l1 : i < xs.length := by omega
    have l2 : i < ys.length := by omega
    exact ⟨xs, ys, xs[i], ys[i], g.1, g.2, List.getElem?_eq_getElem l1, List.getElem?_eq_getElem l2⟩
  · obtain ⟨T, x, z, e1, e2, e3, e4, e5⟩ := yy
    exact ⟨T, x, z, e1, e2, e3, e4 xs g.1, e5 ys g.2⟩
theorem given_map {n : Nat} {f : Nat → Bool} {v : Nat → V} (hf : ∀ i, f i = true) : given n f v = (List.range n).map v := by
  unfold given
  rw [List.filter_eq_self.mpr (fun a _ => hf a)]
theorem rc_all {a : Addr} {bs : List Bool} (h : SqL K H a (bs.map V.bl)) : RC (rAll K) [.ref a] H (.bl (bs.all id)) := fun H1 e Q q => ⟨a, bs, rfl, ex_l e h, q H1 (Ex.refl _)⟩
/-- all([..]) of a new list of truths -/
theorem ev_all {bs : List Bool} (h : EvL te σ H (bs.map V.bl)) : Ev (tCB (rAll K) (tCons te tNil)) σ H (.bl (bs.all id)) := fun H1 e Q q =>
  h H1 e _ fun p H2 _ e2 h2 => ⟨p, bs, rfl, sq_of h2, q H2 e2⟩
theorem et_yes : EvT tYes σ H true := fun H1 _ _ q => q H1 (Ex.refl _)
end
end K0

namespace K0
open PySem L2 Evl
section
variable {K : PySem.W.Frag} {σ : L2.St} {H H' : Hp} {ta tb te tx : TE} {t u : TT} {x y z v : V}
theorem ev_chain_of {σ : L2.St} {H : Hp} {ta tb tc : TE} {r r' : R2} {x y z : V} {a b : Bool} (ha : Ev ta σ H x) (hb : Ev tb σ H y) (hr : RV r x y H (.bl a)) (hc : Ev tc σ H z) (hr' : RV r' y z H (.bl b)) :
    Ev (tChain r r' ta tb tc) σ H (.bl (a && b)) := fun H1 e Q q =>
  ha H1 e _ fun H2 e2 => hb H2 (e.trans e2) _ fun H3 e3 => hr H3 ((e.trans e2).trans e3) _ fun H4 e4 => ⟨a, rfl, by
    cases a with
    | true => exact hc H4 (((e.trans e2).trans e3).trans e4) _ fun H5 e5 => hr' H5 ((((e.trans e2).trans e3).trans e4).trans e5) Q fun H6 e6 => q H6 ((((e2.trans e3).trans e4).trans e5).trans e6)
    | false => exact q H4 ((e2.trans e3).trans e4)⟩
theorem ev_one (h : Ev te σ H v) : Ev te σ H v := h
theorem rc_lenT {a : Addr} {xs : List V} (h : SqT K H a xs) : RC (fun xs H Q => ∃ x n, xs = [x] ∧ LenV K x H n ∧ Q (.int n) H) [.ref a] H (.int (xs.length : Nat)) := fun H1 e Q q =>
  ⟨_, xs.length, rfl, Or.inr ⟨xs, ex_t e h, rfl⟩, q H1 (Ex.refl _)⟩
theorem rc_lenL {a : Addr} {xs : List V} (h : SqL K H a xs) : RC (fun xs H Q => ∃ x n, xs = [x] ∧ LenV K x H n ∧ Q (.int n) H) [.ref a] H (.int (xs.length : Nat)) := fun H1 e Q q =>
  ⟨_, xs.length, rfl, Or.inl ⟨xs, ex_l e h, rfl⟩, q H1 (Ex.refl _)⟩
theorem rc_lenS {s : Str} (h : s.length ≤ sizeLine) : RC (fun xs H Q => ∃ x n, xs = [x] ∧ LenV K x H n ∧ Q (.int n) H) [.str s] H (.int (s.length : Nat)) := fun H1 e Q q =>
  ⟨_, s.length, rfl, ⟨h, rfl⟩, q H1 (Ex.refl _)⟩
/-- a comprehension over zip of two tuples, no test -/
theorem el_lcZ {a : Addr} {xs ys : List V} {t1 t2 : TE} {g : TG} {vs : List Nat} {n : Nat} (v : Nat → V) (h1 : Ev t1 σ H (.ref a)) (hx : SqT K H a xs) (h2 : EvW K t2 σ H ys) (hn : n = min xs.length ys.length) (hz : n ≤ 40000)
    (hg : ∀ i x y T H', xs[i]? = some x → ys[i]? = some y → H' T = some (.tup [x, y]) → ∃ σ2, (∀ k : L2.St → Hp → Prop, k σ2 H' → g (.ref T) (wipe σ vs) H' k) ∧ wipe σ2 vs = wipe σ vs ∧ Ev te σ2 H (v i)) :
    EvL (tLc (RZ.iZipA K (tCons t1 (tCons t2 tNil))) g tYes te vs) σ H ((List.range n).map v) := fun H0 e Q q =>
  h1 H0 e _ fun H1 e1 => h2 H1 (e.trans e1) _ fun b H2 e2 hy => ⟨a, b, xs, ys, rfl, Or.inr ⟨ex_t ((e.trans e1).trans e2) hx, hy, fun Dl hD => by
    have e02 := (e.trans e1).trans e2
    refine lc_it (walk_zipT hn) (Cw H2 (fun _ => true) v Dl) ⟨hD, Ex.new hD, upd_same⟩ (fun i H' _ p => ⟨ex_t p.2.1 (ex_t e02 hx), ex_t p.2.1 hy⟩) (fun i w H' H'' hi p yp => ?_) (fun H' p => ?_)
    · obtain ⟨T, x, y, rfl, hT, rfl, ex, ey⟩ := yp
      obtain ⟨σ2, k1, k2, k3⟩ := hg i x y T (upd H' T (.tup [x, y])) ex ey upd_same
      have hne : Dl ≠ T := ne_of_none p.2.2 hT
      have p' : Cw H2 (fun _ => true) v Dl i (upd H' T (.tup [x, y])) := ⟨p.1, p.2.1.trans (Ex.new hT), by rw [upd_ne hne]; exact p.2.2⟩
      exact k1 _ ⟨k2, cw_turn p' (by omega) et_yes (fun _ => k3.mono e02)⟩
    · have := p.2.2
      rw [given_map (fun _ => rfl)] at this
      exact q Dl H' (fresh_back (e1.trans e2) p.1) ((e1.trans e2).trans p.2.1) this⟩⟩
theorem rv_le {i j : Int} : RV (rI0 fun i j => .bl (decide (i ≤ j))) (.int i) (.int j) H (.bl (decide (i ≤ j))) := rv_I0
theorem rv_lt {i j : Int} : RV (rI0 fun i j => .bl (decide (i < j))) (.int i) (.int j) H (.bl (decide (i < j))) := rv_I0
theorem rv_isN : RV (fun x y H Q => y = .non ∧ Q (.bl (decide (x = .non))) H) x .non H (.bl (decide (x = .non))) := fun H1 _ _ q => ⟨rfl, q H1 (Ex.refl _)⟩
theorem rc_strip {a b : Str} (h : a.length ≤ sizeLine) : ∀ H1, Ex H H1 → ∀ Q : VK, (∀ H2, Ex H1 H2 → Q (.str (Txt.stripChars a b)) H2) → (fun (x : V) (xs : List V) (H : Hp) (Q : VK) => ∃ a b, x = .str a ∧ xs = [.str b] ∧ a.length ≤ sizeLine ∧ Q (.str (Txt.stripChars a b)) H) (.str a) [.str b] H1 Q :=
  fun H1 _ _ q => ⟨a, b, rfl, rfl, h, q H1 (Ex.refl _)⟩
end
/-! ### the judges of stage 1 as functions of data -/
def D.within (lo hi : Int) : D → Bool
  | .int i => numB i && (decide (lo ≤ i) && decide (i ≤ hi)) | _ => false
def D.toInt : D → Int
  | .int i => i | _ => 0
def ascB : List Int → Bool
  | a :: b :: r => decide (a < b) && ascB (b :: r)
  | _ => true
def D.indices (m : Int) : D → Bool
  | .tup ds => ds.all (D.within 0 (m - 1)) && ascB (ds.map D.toInt) | _ => false
def D.circle : D → Bool
  | .tup ds => D.indices 9 (.tup ds) && (decide (1 ≤ ds.length) && decide (ds.length ≤ 7)) | _ => false
def D.word (signs : Str) (most : Int) : D → Bool
  | .str s => decide ((s.length : Int) ≤ most) && s.cps.toList.all signs.cps.contains | _ => false
def D.nonEmpty : D → Bool
  | .str s => decide (0 < s.length) | _ => false
abbrev letters : Str := "abcdefghijklmnopqrstuvwxyz"
abbrev signs37 : Str := "abcdefghijklmnopqrstuvwxyz0123456789 "
def D.key (d : D) : Bool := d.word letters 8 && d.nonEmpty
def D.short (d : D) : Bool := d.within (-(999999999999)) 999999999999
def D.value (d : D) : Bool := d.short || d.word signs37 12
def D.single : D → Bool
  | .non => true
  | .int i => numB i
  | .str s => D.word signs37 3000 (.str s)
  | _ => false
/-- plain, at most n deep -/
def D.plain : Nat → D → Bool
  | 0, d => d.single
  | n + 1, .tup ds => ds.all (D.plain n)
  | _ + 1, d => d.single
def D.small : D → Prop
  | .tup ds => ds.length ≤ 40000 | _ => True
theorem all_getD (ds : List D) (f : D → Bool) : ((List.range ds.length).all fun i => f (ds.getD i .non)) = ds.all f := by
  induction ds with
  | nil => rfl
  | cons d ds ih =>
    rw [List.length_cons, List.range_succ_eq_map, List.all_cons, List.all_cons, List.all_map, ← ih]
    rfl
theorem ints_of {K : PySem.W.Frag} {H : Hp} {lo hi : Int} : ∀ (xs : List V) (ds : List D), RpAll K H xs ds → ds.all (D.within lo hi) = true → xs = (ds.map D.toInt).map V.int
  | _, _, .nil, _ => rfl
  | _, _, .cons (d := d) h r, e => by
    rw [List.all_cons, Bool.and_eq_true] at e
    rw [List.map_cons, List.map_cons, ← ints_of _ _ r e.2]
    cases h with
    | int i => rfl
    | _ => exact absurd e.1 (by simp [D.within])
section
variable {P : Program} {w : World} {K : PySem.W.Frag} {mg : Str → Option Value} {base : Heap} {A : Ad} {D : Fd}
def sp_is_within (K : PySem.W.Frag) : Sp := fun vs H Q _ => ∃ x d lo hi, vs = [x, .int lo, .int hi] ∧ Rp K H x d ∧ RetV (.bl (d.within lo hi)) H Q
theorem len_is_within {vs : List V} {H : Hp} {Q : VK} {E : XK} (h : sp_is_within K vs H Q E) : vs.length = 3 := by
  obtain ⟨x, d, lo, hi, rfl, _⟩ := h
  rfl
theorem sv_within {H : Hp} {x : V} {d : K0.D} {lo hi : Int} (h : Rp K H x d) : SpV (sp_is_within K) [x, .int lo, .int hi] H (.bl (d.within lo hi)) := fun H1 e Q q E => ⟨x, d, lo, hi, rfl, h.ex e, q⟩
/-- row: a tuple of ints -/
def sp_are_ascending (K : PySem.W.Frag) : Sp := fun vs H Q _ => ∃ a ns, vs = [.ref a] ∧ SqT K H a (ns.map V.int) ∧ ns.length ≤ 40000 ∧ RetV (.bl (ascB ns)) H Q
theorem len_are_ascending {vs : List V} {H : Hp} {Q : VK} {E : XK} (h : sp_are_ascending K vs H Q E) : vs.length = 1 := by
  obtain ⟨a, ns, rfl, _⟩ := h
  rfl
theorem sv_asc {H : Hp} {a : Addr} {ns : List Int} (h : SqT K H a (ns.map V.int)) (hl : ns.length ≤ 40000) : SpV (sp_are_ascending K) [.ref a] H (.bl (ascB ns)) := fun H1 e Q q E => ⟨a, ns, rfl, ex_t e h, hl, q⟩
theorem cut1 (xs : List V) : cutV xs (some 1) none = xs.drop 1 := by
  unfold cutV
  have h1 : HT.sIx xs.length 0 (some 1) = min 1 xs.length := HT.sIx_nat _ _ 1
  have h2 : HT.sIx xs.length xs.length none = xs.length := rfl
  rw [h1, h2]
  cases xs with
  | nil => rfl
  | cons x xs =>
    have : min 1 (x :: xs).length = 1 := by simp
    rw [this]
    exact List.take_of_length_le (by simp)
theorem asc_all : ∀ ns : List Int, ((List.range (ns.length - 1)).map fun i => decide (ns.getD i 0 < ns.getD (i + 1) 0)).all id = ascB ns
  | [] => rfl
  | [a] => rfl
  | a :: b :: r => by
    have ih := asc_all (b :: r)
    have e1 : (a :: b :: r).length - 1 = ((b :: r).length - 1) + 1 := by simp
    rw [e1, List.range_succ_eq_map, List.map_cons, List.all_cons, List.map_map]
    show (decide (a < b) && _) = (decide (a < b) && ascB (b :: r))
    rw [← ih]
    rfl
def sp_are_indices (K : PySem.W.Frag) : Sp := fun vs H Q _ => ∃ x d m, vs = [x, .int m] ∧ Rp K H x d ∧ d.small ∧ RetV (.bl (d.indices m)) H Q
theorem len_are_indices {vs : List V} {H : Hp} {Q : VK} {E : XK} (h : sp_are_indices K vs H Q E) : vs.length = 2 := by
  obtain ⟨x, d, m, rfl, _⟩ := h
  rfl
theorem sv_indices {H : Hp} {x : V} {d : K0.D} {m : Int} (h : Rp K H x d) (hs : d.small) : SpV (sp_are_indices K) [x, .int m] H (.bl (d.indices m)) := fun H1 e Q q E => ⟨x, d, m, rfl, h.ex e, hs, q⟩
end
end K0

namespace K0
open PySem L2 Evl
section
variable {K : PySem.W.Frag} {σ : L2.St} {H H' : Hp} {ta tb te tx : TE} {t u : TT} {x y z v : V}
theorem et_truL {a : Addr} {xs : List V} (h : Ev te σ H (.ref a)) (hx : SqL K H a xs) : EvT (fun σ H Q => te σ H fun x H' => ∃ k, TruV K x H' k ∧ Q k H') σ H (!xs.isEmpty) := fun H1 e Q q =>
  h H1 e _ fun H2 e2 => ⟨_, Or.inl ⟨xs, ex_l (e.trans e2) hx, rfl⟩, q H2 e2⟩
/-- [y for row in rows for y in row]: rows a list of tuples -/
theorem el_flat {a : Addr} {rs : List Addr} {rows : List (List V)} {tl : TE} {j j1 : Nat} {vs vs1 : List Nat} (h : Ev tl σ H (.ref a)) (hx : SqL K H a (rs.map V.ref)) (hl : rs.length = rows.length)
    (hr : ∀ (i : Nat) r row, rs[i]? = some r → rows[i]? = some row → SqT K H r row) (hz : rows.flatten.length ≤ 40000)
    (hw : ∀ x, wipe ((wipe σ vs).set j (some x)) vs = wipe σ vs) (hj : ∀ x, ((wipe σ vs).set j (some x))[j]? = some (some x))
    (hw1 : ∀ x y, wipe ((wipe ((wipe σ vs).set j (some x)) vs1).set j1 (some y)) vs1 = wipe ((wipe σ vs).set j (some x)) vs1) (hj1 : ∀ x y, ((wipe ((wipe σ vs).set j (some x)) vs1).set j1 (some y))[j1]? = some (some y)) :
    EvL (tLc2 (iList K tl) (gName j) tYes (iTup K (tVar j)) (gName j1) tYes (tVar j1) vs vs1) σ H rows.flatten := fun H0 e Q q =>
  h H0 e _ fun H1 e1 => ⟨a, rfl, ⟨_, ex_l (e.trans e1) hx⟩, fun Dl hD => by
    refine ⟨fun i m H' => m = rs.length - i ∧ i ≤ rs.length ∧ Ex H1 H' ∧ H' Dl = some (.lst (rows.take i).flatten), ⟨rs.length, by simp, Nat.zero_le _, Ex.new hD, upd_same⟩, ?_⟩
    rintro i m H' ⟨rfl, hi, p1, p2⟩
    have hxl := ex_l ((e.trans e1).trans p1) hx
    by_cases hlt : i < rs.length
    · have hlt2 : i < rows.length := by omega
      have g1 : rs[i]? = some rs[i] := List.getElem?_eq_getElem hlt
      have g2 : rows[i]? = some rows[i] := List.getElem?_eq_getElem hlt2
      have et : rows.take (i + 1) = rows.take i ++ [rows[i]] := by rw [List.take_succ, g2] <;> rfl
      have efl : ((rows.take (i + 1)).flatten).length ≤ rows.flatten.length := by
        have : rows.flatten = (rows.take (i + 1)).flatten ++ (rows.drop (i + 1)).flatten := by rw [← List.flatten_append, List.take_append_drop]
        rw [this, List.length_append]
        omega
      have efl2 : ((rows.take (i + 1)).flatten).length = ((rows.take i).flatten).length + rows[i].length := by rw [et, List.flatten_append]; simp
      have hrow := hr i _ _ g1 g2
      refine .inr ⟨⟨rs.map V.ref, .ref rs[i], hxl, by rw [List.getElem?_map, g1]; rfl⟩, fun H2 => Ex H1 H2 ∧ H2 Dl = some (.lst (rows.take (i + 1)).flatten), fun H2 k => ⟨rs.length - (i + 1), by omega, rfl, hlt, k⟩, fun y H2 yy => ?_⟩
      obtain ⟨rfl, yy⟩ := yy
      have ey := yy _ hxl
      rw [List.getElem?_map, g1] at ey
      have ey : V.ref rs[i] = y := Option.some.inj ey
      subst ey
      refine ⟨hw _, ?_⟩
      refine ⟨_, hj _, rs[i], rfl, ⟨_, ex_t ((e.trans e1).trans p1) hrow⟩, fun jj kk H3 => kk = rows[i].length - jj ∧ jj ≤ rows[i].length ∧ Ex H1 H3 ∧ H3 Dl = some (.lst ((rows.take i).flatten ++ rows[i].take jj)), ⟨_, rfl, Nat.zero_le _, p1, by rw [p2]; simp⟩, ?_⟩
      rintro jj kk H3 ⟨rfl, hjj, q1, q2⟩
      have hrow3 := ex_t ((e.trans e1).trans q1) hrow
      by_cases hlj : jj < rows[i].length
      · have g3 : rows[i][jj]? = some rows[i][jj] := List.getElem?_eq_getElem hlj
        refine .inr ⟨⟨rows[i], rows[i][jj], hrow3, g3⟩, fun H4 => Ex H1 H4 ∧ H4 Dl = some (.lst ((rows.take i).flatten ++ rows[i].take (jj + 1))), fun H4 k => ⟨rows[i].length - (jj + 1), by omega, rfl, hlj, k⟩, fun y H4 yy => ?_⟩
        obtain ⟨rfl, yy⟩ := yy
        have ey := yy _ hrow3
        rw [g3] at ey
        have ey : rows[i][jj] = y := Option.some.inj ey
        subst ey
        refine ⟨hw1 _ _, _, hj1 _ _, _, q2, ?_, ?_, ?_⟩
        · have : ((rows.take i).flatten ++ rows[i].take jj).length ≤ 40000 := by rw [List.length_append, List.length_take]; omega
          exact sz_lt (by omega)
        · exact Ex.mut q1 hD
        · rw [upd_same, List.append_assoc, List.take_succ, g3]
          rfl
      · have : jj = rows[i].length := by omega
        subst this
        refine .inl ⟨⟨rows[i], hrow3, Nat.le_refl _⟩, q1, ?_⟩
        rw [q2, et, List.flatten_append, List.take_length]
        simp
    · have : i = rs.length := by omega
      subst this
      refine .inl ⟨⟨_, hxl, by rw [List.length_map]; exact Nat.le_refl _⟩, q Dl H' (fresh_back e1 hD) (e1.trans p1) ?_⟩
      rw [p2, hl, List.take_length]⟩
end
mutual
/-- how much of a value there is: signs and members -/
def D.size : D → Nat
  | .str s => 1 + s.length / 100
  | .tup ds => 1 + D.sizeL ds
  | _ => 1
def D.sizeL : List D → Nat
  | [] => 0
  | d :: ds => d.size + D.sizeL ds
end
theorem sizeL_len : ∀ ds : List D, ds.length ≤ D.sizeL ds
  | [] => Nat.le_refl _
  | d :: ds => by
    have := sizeL_len ds
    have h1 : 1 ≤ d.size := by cases d <;> simp [D.size]
    simp only [List.length_cons, D.sizeL]
    omega
theorem sizeL_app : ∀ ds es : List D, D.sizeL (ds ++ es) = D.sizeL ds + D.sizeL es
  | [], es => by simp [D.sizeL]
  | d :: ds, es => by
    show d.size + D.sizeL (ds ++ es) = d.size + D.sizeL ds + D.sizeL es
    rw [sizeL_app ds es]
    omega
theorem size_mem : ∀ {ds : List D} {d : D}, d ∈ ds → d.size ≤ D.sizeL ds
  | a :: ds, d, h => by
    rcases List.mem_cons.mp h with h | h
    · subst h
      simp only [D.sizeL]
      omega
    · have := size_mem h
      simp only [D.sizeL]
      omega
def D.kids : D → List D
  | .tup ds => ds | _ => []
end K0

namespace K0
open PySem L2 Evl
section
variable {P : Program} {w : World} {K : PySem.W.Frag} {mg : Str → Option Value} {base : Heap} {A : Ad} {D : Fd}
/-- a judge of values that are not too great -/
def spS (f : K0.D → Bool) (K : PySem.W.Frag) : Sp := fun vs H Q _ => ∃ x d, vs = [x] ∧ Rp K H x d ∧ d.size ≤ 30000 ∧ RetV (.bl (f d)) H Q
theorem spS_len {f : K0.D → Bool} {vs : List V} {H : Hp} {Q : VK} {E : XK} (h : spS f K vs H Q E) : vs.length = 1 := by
  obtain ⟨x, d, rfl, _⟩ := h
  rfl
theorem svS {f : K0.D → Bool} {H : Hp} {x : V} {d : K0.D} (h : Rp K H x d) (hs : d.size ≤ 30000) : SpV (spS f K) [x] H (.bl (f d)) := fun H1 e Q q E => ⟨x, d, rfl, h.ex e, hs, q⟩
theorem small_of {d : K0.D} (h : d.size ≤ 30000) : d.small := by
  cases d with
  | tup ds =>
    have := sizeL_len ds
    simp only [K0.D.size] at h
    show ds.length ≤ 40000
    omega
  | _ => trivial
theorem sline {n : Nat} (h : n ≤ 3000000) : n ≤ sizeLine := by rw [sizeLine_eq]; omega
def sp_is_made_of (K : PySem.W.Frag) : Sp := fun vs H Q _ => ∃ x d sg m, vs = [x, .str sg, .int m] ∧ Rp K H x d ∧ d.size ≤ 30000 ∧ RetV (.bl (d.word sg m)) H Q
theorem len_is_made_of {vs : List V} {H : Hp} {Q : VK} {E : XK} (h : sp_is_made_of K vs H Q E) : vs.length = 3 := by
  obtain ⟨x, d, sg, m, rfl, _⟩ := h
  rfl
theorem sv_made {H : Hp} {x : V} {d : K0.D} {sg : Str} {m : Int} (h : Rp K H x d) (hs : d.size ≤ 30000) : SpV (sp_is_made_of K) [x, .str sg, .int m] H (.bl (d.word sg m)) := fun H1 e Q q E => ⟨x, d, sg, m, rfl, h.ex e, hs, q⟩
/-- s.strip(t) -/
theorem ev_strip {σ : L2.St} {H : Hp} {ta tb : TE} {a b : Str} (ha : Ev ta σ H (.str a)) (hb : Ev tb σ H (.str b)) (h : a.length ≤ sizeLine) :
    Ev (tBM K "str" (fun (x : V) (xs : List V) (H : Hp) (Q : VK) => ∃ a b, x = .str a ∧ xs = [.str b] ∧ a.length ≤ sizeLine ∧ Q (.str (Txt.stripChars a b)) H) ta (tCons tb tNil)) σ H (.str (Txt.stripChars a b)) := fun H1 e Q q =>
  ha H1 e _ fun H2 e2 => ⟨rfl, hb H2 (e.trans e2) _ fun H3 e3 => ⟨a, b, rfl, rfl, h, q H3 (e2.trans e3)⟩⟩
theorem ok_is_made_of (T : Txt K mg A D) : FnOk P w K mg base CX0 1 A.is_made_of D.is_made_of ["value", "signs", "most"] (sp_is_made_of K) := by
  refine T.F_is_made_of.ok sc_is_made_of (fun vs H Q E h => len_is_made_of h) (fun cdv A0 outer s H vs Q E hr h => ?_)
  refine ⟨_, (pss_one (ps_ret (pe_and (pe_callB call_isi (by rfl) T.b_isinstance (by decide +kernel) (pa_cons (pv 0) (pa_cons (pe_bltn (v := .ty "str") (u := .type "str") (by rfl) T.b_str (by decide +kernel) rfl) pa_nil))) (pe_and (pe_cmpR op_le (pe_callB call_len (by rfl) T.b_len (by decide +kernel) (pa_cons (pv 0) pa_nil)) (pv 2) (nomark _)) (pe_one (pe_cmpR op_eq (pe_bm PySem.F.plainAttrs_str PySem.F.slot_str_strip PySem.F.type_str_strip mt_stripChars (pv 0) (pa_cons (pv 1) pa_nil)) pe_str (nomark _))))))), ?_⟩
  obtain ⟨x, d, sg, m, rfl, hx, hs, k⟩ := h
  refine s_ret (ev_is (ev_andV (a := d.isStr) (b := d.word sg m) (ev_cb (ea_cons (ev_var rfl) (ea_cons ev_c ea_nil)) (rc_str hx)) fun hb => ?_) ?_) fun H2 e2 => k H2 e2
  · obtain ⟨s, rfl, rfl⟩ := hx.isS hb
    have hl : s.length ≤ sizeLine := sline (by simp only [K0.D.size] at hs; omega)
    refine ev_andV (a := decide ((s.length : Int) ≤ m)) (ev_op (ev_cb (ea_cons (ev_var rfl) ea_nil) (rc_lenS hl)) (ev_var rfl) rv_I0) fun _ => ?_
    refine ev_is (ev_op (ev_strip (ev_var rfl) (ev_var rfl) hl) ev_c (rv_eq rfl)) ?_
    exact congrArg V.bl (strip_all _ _)
  · cases d <;> rfl
def D.isNon : K0.D → Bool
  | .non => true | _ => false
theorem Rp.isN {H : Hp} {x : V} {d : K0.D} (h : Rp K H x d) : decide (x = V.non) = d.isNon := by cases h <;> rfl
def sp_is_single (K : PySem.W.Frag) : Sp := spS K0.D.single K
theorem len_is_single {vs : List V} {H : Hp} {Q : VK} {E : XK} (h : sp_is_single K vs H Q E) : vs.length = 1 := spS_len h
theorem ok_is_single (T : Txt K mg A D) : FnOk P w K mg base CX0 2 A.is_single D.is_single ["value"] (sp_is_single K) := by
  have G_is_number : FnOk P w K mg base CX0 1 A.is_number D.is_number ["value"] (sp_is_number K) := ok_is_number T
  have G_is_made_of : FnOk P w K mg base CX0 1 A.is_made_of D.is_made_of ["value", "signs", "most"] (sp_is_made_of K) := ok_is_made_of T
  obtain ⟨t_MAX_STRING, c_MAX_STRING⟩ := T.c_MAX_STRING
  obtain ⟨t_SIGNS, c_SIGNS⟩ := T.c_SIGNS
  refine T.F_is_single.ok sc_is_single (fun vs H Q E h => len_is_single h) (fun cdv A0 outer s H vs Q E hr h => ?_)
  refine ⟨_, (pss_one (ps_ret (pe_or (pe_cmpR op_isN (pv 0) pe_non (nomark _)) (pe_or (pe_call G_is_number (hr.mono (by decide)) rfl T.g_is_number T.F_is_number.kp T.b_is_number .nil pass0 (pa_cons (pv 0) pa_nil)) (pe_one (pe_call G_is_made_of (hr.mono (by decide)) rfl T.g_is_made_of T.F_is_made_of.kp T.b_is_made_of .nil pass0 (pa_cons (pv 0) (pa_cons (pe_glob (v := .str "abcdefghijklmnopqrstuvwxyz0123456789 ") rfl c_SIGNS ⟨_, rfl⟩) (pa_cons (pe_glob (v := .int (3000)) rfl c_MAX_STRING ⟨_, rfl⟩) pa_nil))))))))), ?_⟩
  obtain ⟨x, d, rfl, hx, hs, k⟩ := h
  refine s_ret (ev_is (ev_orV (a := d.isNon) (b := d.num || d.word signs37 3000) (ev_is (ev_op (ev_var rfl) ev_c rv_isN) (congrArg V.bl hx.isN)) fun _ => ?_) ?_) fun H2 e2 => k H2 e2
  · exact ev_orV (ev_call (ea_cons (ev_var rfl) ea_nil) (sv1 hx)) fun _ => ev_call (ea_cons (ev_var rfl) (ea_cons ev_c (ea_cons ev_c ea_nil))) (sv_made hx hs)
  · cases d with
    | int i =>
      show V.bl (false || (numB i || false)) = V.bl (numB i)
      cases numB i <;> rfl
    | _ => rfl
end
end K0

namespace K0
open PySem L2 Evl
def tupsL : List D → List (List D)
  | [] => []
  | .tup es :: r => es :: tupsL r
  | _ :: r => tupsL r
theorem tupsL_app : ∀ a b : List D, tupsL (a ++ b) = tupsL a ++ tupsL b
  | [], _ => rfl
  | d :: r, b => by
    cases d <;> first | exact congrArg _ (tupsL_app r b) | exact tupsL_app r b
def okTop (d : D) : Bool := d.isTup || d.single
theorem plain_flat {j : Nat} : ∀ ds : List D, ds.all okTop = true → ds.all (D.plain (j + 1)) = (tupsL ds).flatten.all (D.plain j)
  | [], _ => rfl
  | d :: r, h => by
    rw [List.all_cons, Bool.and_eq_true] at h
    have ih := plain_flat (j := j) r h.2
    rw [List.all_cons, ih]
    cases d with
    | tup es =>
      show (es.all (D.plain j) && _) = ((es :: tupsL r).flatten).all _
      rw [List.flatten_cons, List.all_append]
    | non => rfl
    | bl b => exact absurd h.1 (by simp [okTop, D.isTup, D.single])
    | int i =>
      have hs : D.single (.int i) = true := h.1
      show (D.single (.int i) && _) = _
      rw [hs, Bool.true_and]
      rfl
    | str s =>
      have hs : D.single (.str s) = true := h.1
      show (D.single (.str s) && _) = _
      rw [hs, Bool.true_and]
      rfl
    | oth => exact absurd h.1 (by simp [okTop, D.isTup, D.single])
theorem plain_single {n : Nat} {d : D} (h : d.isTup = false) : d.plain n = d.single := by
  cases n <;> cases d <;> first | rfl | cases h
theorem plain_none : ∀ {ds : List D} {n : Nat}, ds.all okTop = true → tupsL ds = [] → ds.all (D.plain n) = true
  | [], _, _, _ => rfl
  | d :: r, n, h, e => by
    rw [List.all_cons, Bool.and_eq_true] at h
    cases ht : d.isTup with
    | true =>
      cases d with
      | tup es => exact absurd e (by simp [tupsL])
      | _ => cases ht
    | false =>
      have h1 : d.single = true := by
        have := h.1
        unfold okTop at this
        rw [ht, Bool.false_or] at this
        exact this
      have e' : tupsL r = [] := by cases d <;> first | exact e | cases ht
      rw [List.all_cons, plain_single ht, h1, Bool.true_and]
      exact plain_none h.2 e'
theorem plain_deep : ∀ {ds : List D}, tupsL ds ≠ [] → ds.all (D.plain 0) = false
  | [], h => absurd rfl h
  | d :: r, h => by
    cases ht : d.isTup with
    | true =>
      cases d with
      | tup es => rfl
      | _ => cases ht
    | false =>
      have h' : tupsL r ≠ [] := by cases d <;> first | exact h | cases ht
      rw [List.all_cons, plain_deep h', Bool.and_false]
theorem size_flat : ∀ ds : List D, D.sizeL (tupsL ds).flatten + (tupsL ds).length ≤ D.sizeL ds
  | [] => Nat.le_refl _
  | d :: r => by
    have ih := size_flat r
    cases d with
    | tup es =>
      show D.sizeL (es :: tupsL r).flatten + (tupsL r).length.succ ≤ D.size (.tup es) + D.sizeL r
      rw [List.flatten_cons, sizeL_app]
      simp only [D.size]
      omega
    | _ =>
      simp only [D.sizeL]
      show D.sizeL (tupsL r).flatten + (tupsL r).length ≤ _
      omega
theorem tups_nil_empty : D.sizeL ([] : List D) = 0 := rfl
inductive Rows (K : PySem.W.Frag) (H : Hp) : List Addr → List (List V) → List (List D) → Prop where
  | nil : Rows K H [] [] []
  | cons {r : Addr} {row : List V} {es : List D} {rs : List Addr} {rows : List (List V)} {ess : List (List D)} : SqT K H r row → RpAll K H row es → Rows K H rs rows ess → Rows K H (r :: rs) (row :: rows) (es :: ess)
section
variable {K : PySem.W.Frag} {H H' : Hp}
theorem Rows.snoc {r : Addr} {row : List V} {es : List D} (h : SqT K H r row) (hr : RpAll K H row es) : ∀ {rs : List Addr} {rows : List (List V)} {ess : List (List D)}, Rows K H rs rows ess → Rows K H (rs ++ [r]) (rows ++ [row]) (ess ++ [es])
  | _, _, _, .nil => .cons h hr .nil
  | _, _, _, .cons a b c => .cons a b (Rows.snoc h hr c)
theorem Rows.len : ∀ {rs : List Addr} {rows : List (List V)} {ess : List (List D)}, Rows K H rs rows ess → rs.length = rows.length ∧ rs.length = ess.length
  | _, _, _, .nil => ⟨rfl, rfl⟩
  | _, _, _, .cons _ _ c => ⟨by rw [List.length_cons, List.length_cons, c.len.1], by rw [List.length_cons, List.length_cons, c.len.2]⟩
theorem Rows.get : ∀ {rs : List Addr} {rows : List (List V)} {ess : List (List D)}, Rows K H rs rows ess → ∀ (i : Nat) r row, rs[i]? = some r → rows[i]? = some row → SqT K H r row
  | _, _, _, .nil, i, r, row, h, _ => by simp at h
  | _, _, _, .cons a _ c, 0, r, row, h, h' => by
    have e1 := Option.some.inj h
    have e2 := Option.some.inj h'
    subst e1 e2
    exact a
  | _, _, _, .cons _ _ c, i + 1, r, row, h, h' => Rows.get c i r row (by simpa using h) (by simpa using h')
theorem Rows.flat : ∀ {rs : List Addr} {rows : List (List V)} {ess : List (List D)}, Rows K H rs rows ess → RpAll K H rows.flatten ess.flatten
  | _, _, _, .nil => .nil
  | _, _, _, .cons _ b c => by
    rw [List.flatten_cons, List.flatten_cons]
    exact RpAll.app b (Rows.flat c)
end
section
variable {P : Program} {w : World} {K : PySem.W.Frag} {mg : Str → Option Value} {base : Heap} {A : Ad} {D : Fd}
def sp_is_plain_within (K : PySem.W.Frag) : Sp := fun vs H Q _ => ∃ x d, ∃ n : Nat, vs = [x, .int (n : Int)] ∧ Rp K H x d ∧ d.size ≤ 30000 ∧ RetV (.bl (d.plain n)) H Q
theorem len_is_plain_within {vs : List V} {H : Hp} {Q : VK} {E : XK} (h : sp_is_plain_within K vs H Q E) : vs.length = 2 := by
  obtain ⟨x, d, n, rfl, _⟩ := h
  rfl
theorem sv_within_plain {H : Hp} {x : V} {d : K0.D} {n : Nat} (h : Rp K H x d) (hs : d.size ≤ 30000) : SpV (sp_is_plain_within K) [x, .int (n : Int)] H (.bl (d.plain n)) := fun H1 e Q q E => ⟨x, d, n, rfl, h.ex e, hs, q⟩
def PlainW (K : PySem.W.Frag) (H : Hp) (x : V) (d : K0.D) (n : Nat) (m : Nat) (σ : L2.St) (H' : Hp) : Prop :=
  ∃ (lv : Addr) (xs : List V) (ds : List K0.D) (k : Nat) (v4 v5 : Option V), σ = [some x, some (.int (n : Int)), some (.ref lv), some (.int (k : Int)), v4, v5, none, none] ∧ H' lv = some (.lst xs) ∧ RpAll K H' xs ds ∧ Ex H H' ∧
    K0.D.sizeL ds = m ∧ m ≤ 30000 ∧ k ≤ n ∧ d.plain n = ds.all (K0.D.plain (n - k))
def PlainP (K : PySem.W.Frag) (H1 : Hp) (x : V) (n k : Nat) (lv p : Addr) (ds : List K0.D) (i : Nat) (σ : L2.St) (H' : Hp) : Prop :=
  ∃ (ys : List Addr) (rows : List (List V)) (v5 : Option V), σ = [some x, some (.int (n : Int)), some (.ref lv), some (.int (k : Int)), some (.ref p), v5, none, none] ∧ Ex H1 H' ∧ H' p = some (.lst (ys.map V.ref)) ∧
    Rows K H1 ys rows (tupsL (ds.take i)) ∧ (ds.take i).all okTop = true ∧ ys.length ≤ i
theorem ok_is_plain_within (T : Txt K mg A D) : FnOk P w K mg base CX0 3 A.is_plain_within D.is_plain_within ["value", "most"] (sp_is_plain_within K) := by
  have G_is_single : FnOk P w K mg base CX0 2 A.is_single D.is_single ["value"] (sp_is_single K) := ok_is_single T
  refine T.F_is_plain_within.ok sc_is_plain_within (fun vs H Q E h => len_is_plain_within h) (fun cdv A0 outer s H vs Q E hr h => ?_)
  refine ⟨_, (pss_cons (ps_set (i := 2) sc_is_plain_within.nd rfl (Or.inl rfl) (pe_lst (pa_cons (pv 0) pa_nil)))
  (pss_cons (ps_set (i := 3) sc_is_plain_within.nd rfl (Or.inl rfl) pe_int)
  (pss_cons (ps_while PassesOwn.never (pt_truth (pv 2) (by intro _; rfl)) (pss_cons (ps_set (i := 4) sc_is_plain_within.nd rfl (Or.inl rfl) (pe_lst pa_nil))
  (pss_cons (ps_for PassesOwn.never rfl (pi_list (pv 2)) (pg_name (i := 5) sc_is_plain_within.nd rfl (Or.inl rfl)) (pss_one (ps_if (pt_val (pe_callB call_isi (by rfl) T.b_isinstance (by decide +kernel) (pa_cons (pv 5) (pa_cons (pe_bltn (v := .ty "tuple") (u := .type "tuple") (by rfl) T.b_tuple (by decide +kernel) rfl) pa_nil)))) (pss_one (ps_expr (pe_bm PySem.F.plainAttrs_list PySem.F.slot_list_append PySem.F.type_list_append mt_append (pv 4) (pa_cons (pv 5) pa_nil)))) (pss_one (ps_if (pt_not (pt_val (pe_call G_is_single (hr.mono (by decide)) rfl T.g_is_single T.F_is_single.kp T.b_is_single .nil pass0 (pa_cons (pv 5) pa_nil)))) (pss_one (ps_ret pe_bl)) pss_nil)))))
  (pss_cons (ps_if (pt_truth (pv 4) (by intro _; rfl)) (pss_one (ps_aug (i := 3) sc_is_plain_within.nd rfl (Or.inl rfl) pe_int ip_add)) pss_nil)
  (pss_cons (ps_if (pt_cmpR op_gt (pv 3) (pv 1) (nomark _)) (pss_one (ps_ret pe_bl)) pss_nil)
  (pss_one (ps_setLc2 (i := 2) (wi1 := iTup K (tVar 6)) (own := [("row", 6), ("member", 7)]) (vs1 := [7]) (g := gName 6) (g1 := gName 7) (tt := tYes) (tt1 := tYes) rfl sc_is_plain_within.nd rfl rfl (sw_true rfl rfl rfl (by decide +kernel)) (pi_list (pv 4)) (blkOk_by (own := [("row", 6), ("member", 7)]) (N := N_is_plain_within) (sc := defScope s_is_plain_within) (by decide +kernel)) (by decide) (fun _ _ _ _ _ => by exact pg_name (i := 6) sc_is_plain_within.nd rfl (Or.inl rfl)) (fun _ _ _ _ _ => pts_nil) (fun _ _ _ _ _ => by exact (pi_tup (pv 6))) (fun _ _ _ _ _ => by exact pg_name (i := 7) sc_is_plain_within.nd rfl (Or.inl rfl)) (fun _ _ _ _ _ => pts_nil) (fun _ _ _ _ _ => by exact (pv 7)))))))))
  (pss_one (ps_ret pe_bl))))), ?_⟩
  obtain ⟨x, d, n, rfl, hx, hs, k⟩ := h
  have wl : ∀ (lv : Addr) (xs : List V), xs.length = 1 → True := fun _ _ _ => trivial
  refine q_asgL (el_lst (ea_cons (ev_var rfl) ea_nil) (by simp)) fun lv H1 hlv e1 h1 => ?_
  refine q_asg ev_c fun H2 e2 => ?_
  refine q_while (PlainW K H x d n) _ ⟨lv, [x], [d], 0, none, none, rfl, e2 _ _ h1, .cons (hx.ex (e1.trans e2)) .nil, e1.trans e2, rfl, ?_, Nat.zero_le _, ?_⟩ ?_
  · simp only [K0.D.sizeL]
    omega
  · simp
  rintro m σ' H' ⟨lv, xs, ds, kk, v4, v5, rfl, hl, hr0, e0, hm, hm2, hk, hp⟩
  have hlen := hr0.len
  have hsl := sizeL_len ds
  refine ⟨!xs.isEmpty, et_truL (ev_var rfl) (sq_of hl), fun hb H3 e3 => ⟨fun σ2 H2 => ∃ m', m' < m ∧ PlainW K H x d n m' σ2 H2, fun σ2 H2 z => z, ?_⟩, fun hb H3 e3 => ?_⟩
  · -- a turn
    have hr3 := hr0.ex e3
    refine q_asgL (el_lst ea_nil (by decide)) fun p H4 hp4 e4 h4 => ?_
    refine q_forLn (xs := xs) (ev_var rfl) (sq_of (e4 _ _ (e3 _ _ hl))) (PlainP K H3 x n kk lv p ds) (fun H5 e5 => ?_) (fun i σ5 H5 hi q5 => ?_) (fun i y σ5 H5 hy q5 => ?_) (fun σ5 H5 q5 => ?_)
    · exact ⟨[], [], v5, rfl, e4.trans e5, e5 _ _ h4, .nil, rfl, Nat.le_refl _⟩
    · obtain ⟨ys, rows, w5, rfl, q1, _⟩ := q5
      exact sq_of (q1 _ _ (e3 _ _ hl))
    · obtain ⟨ys, rows, w5, rfl, q1, q2, q3, q4, q6⟩ := q5
      obtain ⟨di, hdi, hrp⟩ := RpAll.get _ _ _ _ hr3 hy
      have hmem : di ∈ ds := List.mem_of_getElem? hdi
      have hsz : di.size ≤ 30000 := by have := size_mem hmem; omega
      have hilt : i < xs.length := (List.getElem?_eq_some_iff.mp hy).1
      have etk : ds.take (i + 1) = ds.take i ++ [di] := by rw [List.take_succ, hdi]; rfl
      refine s_if (et_B (ev_cb (ea_cons (ev_var rfl) (ea_cons ev_c ea_nil)) (rc_tup (hrp.ex q1)))) (fun hb H6 e6 => ?_) (fun hb H6 e6 => ?_)
      · obtain ⟨r, row, es, rfl, rfl, hq, hra⟩ := hrp.isT hb
        refine s_app (e6 _ _ q2) (ev_var rfl) (ev_var rfl) (by rw [List.length_map]; omega) fun H7 e7 => ?_
        refine ⟨ys ++ [r], rows ++ [row], _, rfl, Ex.mut ((q1.trans e6).trans e7) hp4, ?_, ?_, ?_, ?_⟩
        · rw [upd_same, List.map_append]
          rfl
        · rw [etk, tupsL_app]
          exact Rows.snoc hq hra q3
        · rw [etk, List.all_append, q4]
          rfl
        · rw [List.length_append]
          simp
          omega
      · refine s_if (et_not (et_B (ev_call (ea_cons (ev_var rfl) ea_nil) (svS (hrp.ex (q1.trans e6)) hsz)))) (fun hb2 H7 e7 => ?_) (fun hb2 H7 e7 => ?_)
        · refine s_ret ev_c fun H8 e8 => ?_
          have := k H8 ((((e0.trans e3).trans q1).trans e6).trans (e7.trans e8))
          have hf : ds.all (K0.D.plain (n - kk)) = false := by
            have hdf : di.plain (n - kk) = false := by
              rw [plain_single hb]
              cases z : di.single with
              | true => rw [z] at hb2; cases hb2
              | false => rfl
            rw [List.all_eq_false]
            exact ⟨di, hmem, by rw [hdf]; decide⟩
          rw [hp, hf] at this
          exact this
        · have hsi : di.single = true := by
            cases z : di.single with
            | true => rfl
            | false => rw [z] at hb2; cases hb2
          refine ⟨ys, rows, _, rfl, (q1.trans e6).trans e7, e7 _ _ (e6 _ _ q2), ?_, ?_, by omega⟩
          · rw [etk, tupsL_app]
            have : tupsL [di] = [] := by cases di <;> first | rfl | cases hb
            rw [this, List.append_nil]
            exact q3
          · rw [etk, List.all_append, q4]
            show (true && ((di.isTup || di.single) && true)) = true
            rw [hsi]
            cases di.isTup <;> rfl
    · obtain ⟨ys, rows, w5, rfl, q1, q2, q3, q4, q6⟩ := q5
      rw [hlen, List.take_length] at q3 q4
      have hrl := q3.len
      have hszf := size_flat ds
      have hflen : rows.flatten.length ≤ 40000 := by
        have h1 := q3.flat.len
        have h2 := sizeL_len (tupsL ds).flatten
        omega
      have fin : ∀ (k' : Nat) (H8 : Hp), Ex H5 H8 → k' ≤ n → d.plain n = (tupsL ds).flatten.all (K0.D.plain (n - k')) → K0.D.sizeL (tupsL ds).flatten < m →
          tAsg (tLc2 (iList K (tVar 4)) (gName 6) tYes (iTup K (tVar 6)) (gName 7) tYes (tVar 7) [6, 7] [7]) (gName 2) { nx := fun σ2 H2 => ∃ m', m' < m ∧ PlainW K H x d n m' σ2 H2, rt := Q, bk := fun _ _ => False, ct := fun _ _ => False }
            [some x, some (.int (n : Int)), some (.ref lv), some (.int (k' : Int)), some (.ref p), w5, none, none] H8 := fun k' H8 e8 hk' hpl hlt => by
        refine s_asgL (el_flat (a := p) (ev_var rfl) (sq_of (e8 _ _ q2)) hrl.1 (fun i r row h1 h2 => ex_t (q1.trans e8) (q3.get i r row h1 h2)) hflen (fun _ => rfl) (fun _ => rfl) (fun _ _ => rfl) (fun _ _ => rfl)) fun lv2 H9 hlv2 e9 h9 => ?_
        exact ⟨_, hlt, lv2, rows.flatten, (tupsL ds).flatten, k', _, _, rfl, h9, q3.flat.ex ((q1.trans e8).trans e9), ((e0.trans e3).trans q1).trans (e8.trans e9), rfl, by omega, hk', hpl⟩
      have hne : ds ≠ [] := by
        intro z
        subst z
        have : xs = [] := by
          cases xs with
          | nil => rfl
          | cons a b => cases hr0
        subst this
        cases hb
      refine q_when (et_truL (ev_var rfl) (sq_of q2)) (fun hb6 H6 e6 => ?_) (fun hb6 H6 e6 => ?_)
      · have hys : tupsL ds ≠ [] := by
          intro z
          have h1 := hrl.2
          rw [z] at h1
          have h2 : ys = [] := List.length_eq_zero_iff.mp h1
          subst h2
          cases hb6
        have hpos : 0 < (tupsL ds).length := List.length_pos_iff.mpr hys
        refine s_aug (a := (kk : Int)) (b := 1) rfl ev_c fun H7 e7 => ?_
        refine q_when (b := decide ((n : Int) < (kk : Int) + 1)) (et_test (ev_op (ev_var rfl) (ev_var rfl) rv_I0)) (fun hb7 H8 e8 => ?_) (fun hb7 H8 e8 => ?_)
        · refine s_ret ev_c fun H9 e9 => ?_
          have := k H9 ((((e0.trans e3).trans q1).trans e6).trans ((e7.trans e8).trans e9))
          have hkn : n - kk = 0 := by
            have := of_decide_eq_true hb7
            omega
          rw [hp, hkn, plain_deep hys] at this
          exact this
        · have hkn : kk + 1 ≤ n := by
            have := of_decide_eq_false hb7
            omega
          refine fin (kk + 1) H8 ((e6.trans e7).trans e8) hkn ?_ (by omega)
          have e1 : n - kk = (n - (kk + 1)) + 1 := by omega
          rw [hp, e1]
          exact plain_flat ds q4
      · have hys : tupsL ds = [] := by
          have h1 : ys = [] := by
            cases ys with
            | nil => rfl
            | cons a b => cases hb6
          subst h1
          exact List.length_eq_zero_iff.mp hrl.2.symm
        refine q_when (b := decide ((n : Int) < (kk : Int))) (et_test (ev_op (ev_var rfl) (ev_var rfl) rv_I0)) (fun hb7 H8 e8 => ?_) (fun hb7 H8 e8 => ?_)
        · have := of_decide_eq_true hb7
          omega
        · have hpos : 0 < ds.length := List.length_pos_iff.mpr hne
          refine fin kk H8 (e6.trans e8) hk ?_ ?_
          · rw [hp, hys, plain_none q4 hys]
            rfl
          · rw [hys]
            show 0 < m
            omega
  · have : xs = [] := by
      cases xs with
      | nil => rfl
      | cons a b => cases hb
    subst this
    have hd : ds = [] := by
      cases ds with
      | nil => rfl
      | cons a b => cases hr0
    subst hd
    refine s_ret ev_c fun H4 e4 => ?_
    have := k H4 ((e0.trans e3).trans e4)
    rw [hp] at this
    exact this
def sp_is_plain (K : PySem.W.Frag) : Sp := spS (K0.D.plain 12) K
theorem len_is_plain {vs : List V} {H : Hp} {Q : VK} {E : XK} (h : sp_is_plain K vs H Q E) : vs.length = 1 := spS_len h
theorem ok_is_plain (T : Txt K mg A D) : FnOk P w K mg base CX0 4 A.is_plain D.is_plain ["value"] (sp_is_plain K) := by
  have G_is_plain_within : FnOk P w K mg base CX0 3 A.is_plain_within D.is_plain_within ["value", "most"] (sp_is_plain_within K) := ok_is_plain_within T
  obtain ⟨t_MAX_NEST, c_MAX_NEST⟩ := T.c_MAX_NEST
  refine T.F_is_plain.ok sc_is_plain (fun vs H Q E h => len_is_plain h) (fun cdv A0 outer s H vs Q E hr h => ?_)
  refine ⟨_, (pss_one (ps_ret (pe_call G_is_plain_within (hr.mono (by decide)) rfl T.g_is_plain_within T.F_is_plain_within.kp T.b_is_plain_within .nil pass0 (pa_cons (pv 0) (pa_cons (pe_glob (v := .int (12)) rfl c_MAX_NEST ⟨_, rfl⟩) pa_nil))))), ?_⟩
  obtain ⟨x, d, rfl, hx, hs, k⟩ := h
  exact s_ret (ev_call (ea_cons (ev_var rfl) (ea_cons ev_c ea_nil)) (sv_within_plain (n := 12) hx hs)) fun H2 e2 => k H2 e2
end
end K0

namespace K0
open PySem PySem.Spec PyProof.Rows L2 Evl
/-! ### more rules -/
section
variable {X : Cx}
/-- xs == [] for two lists of which one is empty -/
theorem op_eqNil (hu : X.A.units < cLine) : OpR X (compareOp .Eq) (fun x y H Q => ∃ a b xs, x = V.ref a ∧ y = V.ref b ∧ SqL X.K H a xs ∧ SqL X.K H b [] ∧ Q (.bl xs.isEmpty) H) := by
  intro pins s σ H x y v u Q I rx ry h
  obtain ⟨a, b, xs, rfl, rfl, ha, hb, q⟩ := h
  cases rx
  cases ry
  obtain ⟨its, r, p, _⟩ := I.list ha
  obtain ⟨its2, r2, p2, _⟩ := I.list hb
  cases r2
  cases xs with
  | nil =>
    cases r
    exact SeqAt.eq_listAt (e := fun _ => true) p.isList p2.isList rfl hu (fun j h1 _ => absurd h1 (by simp)) ⟨.bl true, H, I, rfl, q⟩
  | cons y ys =>
    refine SeqAt.eq_list_lengthsAt p.isList p2.isList ?_ hu ⟨.bl false, H, I, rfl, q⟩
    cases r with
    | cons r1 r2 => simp
theorem fold_size (x : Array Nat) : ∀ (n : Nat) (acc : Array Nat), ((List.replicate n x).foldl (· ++ ·) acc).size = acc.size + n * x.size
  | 0, acc => by simp
  | n + 1, acc => by
    rw [List.replicate_succ, List.foldl_cons, fold_size x n, Array.size_append, Nat.succ_mul]
    omega
/-- a text times a number: some text of that length -/
theorem op_mulS : OpR X (binaryOp .Mult) (fun x y H Q => ∃ (s : Str) (n : Nat), x = V.str s ∧ y = V.int (n : Int) ∧ 1 < n ∧ n ≤ 5000 ∧ s.length = 1 ∧ ∀ z : Str, z.length = n → Q (.str z) H) := by
  intro pins s σ H x y v u Q I rx ry h
  obtain ⟨a, n, rfl, rfl, h1, h2, hl, q⟩ := h
  obtain ⟨t, rfl⟩ := rx
  obtain ⟨t', rfl⟩ := ry
  have hs : sizeLine = 16777216 := sizeLine_eq
  have hn : ¬ ((n : Int) < 1) := by omega
  have hb : ((n : Int) == 1 || a.length == 0) = false := by
    rw [hl]
    simp
    omega
  have e : (⟨(List.replicate ((n : Int)).toNat a.cps).foldl (· ++ ·) #[]⟩ : Str).length = n := by
    show ((List.replicate ((n : Int)).toNat a.cps).foldl (· ++ ·) #[]).size = n
    rw [fold_size]
    show 0 + ((n : Int)).toNat * a.length = n
    rw [hl]
    omega
  refine PySem.P.mul_str ?_ (fun _ _ => ?_) (fun _ _ => ?_) ?_
  · have c1 : ¬ ((n : Int) < -(2 ^ 63 : Int)) := by omega
    have c2 : ¬ ((n : Int) ≥ 2 ^ 63) := by omega
    rw [decide_eq_false c1, decide_eq_false c2]
    rfl
  · rw [hl]
    have h3 : 1 ≤ (2 ^ 63 - 1 : Int) / (n : Int) := by
      rw [Int.le_ediv_iff_mul_le (by omega)]
      omega
    omega
  · rw [hl]
    unfold Builtin.Str.tooLong
    exact decide_eq_false (by omega)
  · rw [if_neg hn, if_neg (by rw [hb]; decide)]
    exact ⟨by rw [e, hs]; omega, ⟨.str _, H, I.tok _, ⟨_, rfl⟩, q _ e⟩⟩
/-- set(t), t a tuple of ints -/
def rSetT (K : PySem.W.Frag) (w : World) : List V → Hp → VK → Prop := fun vs H Q => ∃ (a : Addr) (ns : List Int), vs = [V.ref a] ∧ SqT K H a (ns.map V.int) ∧ ns.length ≤ 60 ∧
  ∀ (p : Addr) (c : Nat), c ≤ ns.length → H p = none → Q (.ref p) (upd H p (SetO w p (fun j => decide (j ∈ ns)) c))
theorem cr_setT (hc : X.calm = true) : CallR X (.type "set") (rSetT X.K X.w) := by
  intro pins s σ H xs us Q I r h
  obtain ⟨a, ns, rfl, ha, hl, q⟩ := h
  obtain ⟨u, rfl, rx⟩ := vals1 r
  cases rx
  obtain ⟨its, ri, p, _⟩ := I.tuple ha
  have hb : ns.length + 1 < scanBound := Nat.lt_of_le_of_lt (Nat.succ_le_succ hl) (by decide)
  refine L2.call_set_tupI ns (I.ok.hd hc) p (by simpa using intsAre_of ri) hb fun h' tk c R hcl hk => ?_
  exact ⟨.ref _, upd H s.heap.objs.size (SetO X.w s.heap.objs.size (fun j => decide (j ∈ ns)) c), I.laid (t' := tk) hk (Nat.le_refl _) (setO_new R), rfl, q _ c hcl (I.hok.fresh (Nat.le_refl _))⟩
/-- repr of data (where no repr is under way) -/
def rRepr (K : PySem.W.Frag) : List V → Hp → VK → Prop := fun vs H Q => ∃ x d, vs = [V.ref x] ∧ Dp K H (.ref x) d ∧ d.showable = true ∧ d.hasDict = false ∧ d.depth ≤ 60 ∧ d.shown.length ≤ sizeLine ∧ Q (.str d.shown) H
theorem cr_repr (hg : X.A.guards = some []) (hu : X.A.units + 64 < cLine) : CallR X (.builtin "repr") (rRepr X.K) := by
  intro pins s σ H xs us Q I r h
  obtain ⟨a, d, rfl, hd, h1, h2, h3, h4, q⟩ := h
  obtain ⟨u, rfl, rx⟩ := vals1 r
  cases rx
  obtain ⟨as, rr⟩ := Dp.reads I d _ _ hd rfl
  refine repr_of_reads' rr h1 (fun z => by rw [h2] at z; cases z) hg (by omega) (fun b o e => e) (fun h' u tk hk => ?_) h4
  exact ⟨.str d.shown, H, I.kept hk, ⟨_, rfl⟩, q⟩
end
end K0

namespace K0
open PySem L2 Evl
/-! ### the heap but for one list -/
def hid (o : Option Addr) (H : Hp) : Hp := fun b => if o = some b then none else H b
section
variable {o : Option Addr} {a : Addr} {H H' H'' : Hp}
theorem hid_ex (e : Ex H H') : Ex (hid o H) (hid o H') := fun b u h => by
  unfold hid at h ⊢
  split at h
  · cases h
  · rename_i n
    rw [if_neg n]
    exact e b u h
theorem hid_le : Ex (hid o H) H := fun b u h => by
  unfold hid at h
  split at h
  · cases h
  · exact h
theorem hid_none : hid none H = H := by
  funext b
  unfold hid
  rw [if_neg (by simp)]
theorem hid_at {b : Addr} {u : HO} (h : H b = some u) (n : b ≠ a) : hid (some a) H b = some u := by
  unfold hid
  rw [if_neg (by simpa using fun z => n z.symm)]
  exact h
/-- all but what stands at a is as it was -/
def Bt (a : Addr) (H H' : Hp) : Prop := Ex (hid (some a) H) (hid (some a) H')
theorem Bt.refl : Bt a H H := Ex.refl _
theorem Bt.trans (h : Bt a H H') (h' : Bt a H' H'') : Bt a H H'' := Ex.trans h h'
theorem Bt.of (e : Ex H H') : Bt a H H' := hid_ex e
theorem Bt.upd {u : HO} : Bt a H (L2.upd H a u) := fun b v h => by
  unfold hid at h ⊢
  split at h
  · cases h
  · rename_i n
    have n' : b ≠ a := fun z => n (by rw [z])
    rw [if_neg n, upd_ne n']
    exact h
theorem Bt.at {b : Addr} {u : HO} (e : Bt a H H') (n : b ≠ a) (h : H b = some u) : H' b = some u := hid_le _ _ (e _ _ (hid_at h n))
theorem Bt.sqL {K : PySem.W.Frag} {b : Addr} {xs : List V} (e : Bt a H H') (n : b ≠ a) (h : SqL K H b xs) : SqL K H' b xs := by
  rcases h with (h | ⟨o, h⟩) | h
  · exact .inl (.inl (e.at n h))
  · exact .inl (.inr ⟨o, e.at n h⟩)
  · exact .inr h
theorem Bt.sqT {K : PySem.W.Frag} {b : Addr} {xs : List V} (e : Bt a H H') (n : b ≠ a) (h : SqT K H b xs) : SqT K H' b xs := by
  rcases h with (h | ⟨o, h⟩) | h
  · exact .inl (.inl (e.at n h))
  · exact .inl (.inr ⟨o, e.at n h⟩)
  · exact .inr h
theorem Bt.free {b : Addr} (e : Bt a H H') (n : b ≠ a) (h : H' b = none) : H b = none := by
  cases z : H b with
  | none => rfl
  | some u =>
    rw [e.at n z] at h
    cases h
end
def DiceAt (H : Hp) (a : Addr) : Prop := ∃ d0 d1 d2 : Int, H a = some (.lst [.int d0, .int d1, .int d2])
theorem DiceAt.ex {H H' : Hp} {a : Addr} (e : Ex H H') (h : DiceAt H a) : DiceAt H' a := by
  obtain ⟨x, y, z, h⟩ := h
  exact ⟨x, y, z, e _ _ h⟩
theorem DiceAt.ne {H : Hp} {a p : Addr} (h : DiceAt H a) (hp : H p = none) : p ≠ a := by
  obtain ⟨x, y, z, h⟩ := h
  exact (ne_of_none h hp).symm
section
variable {K : PySem.W.Frag} {σ : L2.St} {H H' : Hp} {ta tb te tx : TE} {t u : TT} {x y z v : V}
theorem rc_abs {i : Int} : RC (fun xs H Q => ∃ i, xs = [.int i] ∧ Q (.int (if i < 0 then -i else i)) H) [.int i] H (.int (if i < 0 then -i else i)) := fun H1 _ _ q => ⟨i, rfl, q H1 (Ex.refl _)⟩
theorem rc_max2 {i j : Int} : RC (fun xs H Q => ∃ i j, xs = [.int i, .int j] ∧ Q (.int (if j > i then j else i)) H) [.int i, .int j] H (.int (if j > i then j else i)) := fun H1 _ _ q => ⟨i, j, rfl, q H1 (Ex.refl _)⟩
theorem rc_min2 {i j : Int} : RC (fun xs H Q => ∃ i j, xs = [.int i, .int j] ∧ Q (.int (if j < i then j else i)) H) [.int i, .int j] H (.int (if j < i then j else i)) := fun H1 _ _ q => ⟨i, j, rfl, q H1 (Ex.refl _)⟩
theorem rc_int1 {i : Int} : RC (fun xs H Q => (∃ i, xs = [.int i] ∧ Q (.int i) H) ∨ ∃ k, xs = [.bl k] ∧ Q (.int (if k then 1 else 0)) H) [.int i] H (.int i) := fun H1 _ _ q => Or.inl ⟨i, rfl, q H1 (Ex.refl _)⟩
theorem rc_intB {b : Bool} : RC (fun xs H Q => (∃ i, xs = [.int i] ∧ Q (.int i) H) ∨ ∃ k, xs = [.bl k] ∧ Q (.int (if k then 1 else 0)) H) [.bl b] H (.int (if b then 1 else 0)) := fun H1 _ _ q => Or.inr ⟨b, rfl, q H1 (Ex.refl _)⟩
theorem rv_pow {i : Int} {n : Nat} (h : n ≤ 1000000) (hi : i.natAbs < 2 ^ 64) : RV (rI CPow fun i j => .int (i ^ j.toNat)) (.int i) (.int (n : Int)) H (.int (i ^ n)) := rv_I (by exact ⟨by omega, by omega, hi⟩)
/-- a chosen value -/
theorem ev_ifv {b : Bool} {v w : V} (h : EvT t σ H b) (h1 : b = true → Ev ta σ H v) (h2 : b = false → Ev tb σ H w) : Ev (tIf t ta tb) σ H (if b then v else w) := by
  cases b with
  | true => exact ev_if h (fun _ => h1 rfl) (fun z => by cases z)
  | false => exact ev_if h (fun z => by cases z) (fun _ => h2 rfl)
end
section
variable {P : Program} {w : World} {K : PySem.W.Frag} {mg : Str → Option Value} {base : Heap} {A : Ad} {D : Fd}
def sp_law_dice (K : PySem.W.Frag) : Sp := fun vs H Q _ => ∃ (a : Addr) (ns : List Int) (i : Nat), vs = [.ref a, .int (i : Int)] ∧ SqL K H a (ns.map V.int) ∧ ∀ p H', H p = none → Ex H H' → DiceAt H' p → Q (.ref p) H'
theorem len_law_dice {vs : List V} {H : Hp} {Q : VK} {E : XK} (h : sp_law_dice K vs H Q E) : vs.length = 2 := by
  obtain ⟨a, ns, i, rfl, _⟩ := h
  rfl
theorem ok_law_dice (T : Txt K mg A D) : FnOk P w K mg base CX0 1 A.law_dice D.law_dice ["script", "spot"] (sp_law_dice K) := by
  refine T.F_law_dice.ok sc_law_dice (fun vs H Q E h => len_law_dice h) (fun cdv A0 outer s H vs Q E hr h => ?_)
  refine ⟨_, (pss_cons (ps_set (i := 2) sc_law_dice.nd rfl (Or.inl rfl) (pe_ifExp (pt_cmpR op_lt (pv 1) (pe_callB call_len (by rfl) T.b_len (by decide +kernel) (pa_cons (pv 0) pa_nil)) (nomark _)) (pe_callTy call_int1 (by rfl) T.b_int (by decide +kernel) (pa_cons (pe_ix ix_list (pv 0) (pv 1) (fun _ _ => rfl)) pa_nil)) (pe_op op_add (pe_op op_mul pe_int (pv 1)) pe_int)))
  (pss_cons (ps_set (i := 3) sc_law_dice.nd rfl (Or.inl rfl) (pe_op op_mod (pe_callB (call_max2 rfl) (by rfl) T.b_max (by decide +kernel) (pa_cons pe_int (pa_cons (pe_op op_sub (pe_callB call_abs (by rfl) T.b_abs (by decide +kernel) (pa_cons (pv 2) pa_nil)) (pe_op op_pow pe_int pe_int)) pa_nil))) (pe_op op_mulW (pe_op op_pow pe_int pe_int) (pe_op op_pow pe_int pe_int))))
  (pss_one (ps_ret (pe_lst (pa_cons (pv 3) (pa_cons (pe_op op_add (pe_op op_add (pe_op op_add (pe_op op_mul (pe_op op_mod (pe_callB call_abs (by rfl) T.b_abs (by decide +kernel) (pa_cons (pv 2) pa_nil)) pe_int) pe_int) (pe_op op_mul pe_int (pv 1))) (pe_op op_mul pe_int (pe_callTy call_int1 (by rfl) T.b_int (by decide +kernel) (pa_cons (pe_cmpR op_lt (pv 2) pe_int (nomark _)) pa_nil)))) pe_int) (pa_cons pe_int pa_nil)))))))), ?_⟩
  obtain ⟨a, ns, i, rfl, ha, k⟩ := h
  refine q_asg (v := .int (if i < ns.length then ns.getD i 0 else 97 * (i : Int) + 61)) ?_ fun H1 e1 => ?_
  · refine ev_is (ev_ifv (b := decide ((i : Int) < (ns.length : Int))) (v := .int (ns.getD i 0)) (w := .int (97 * (i : Int) + 61)) (et_test (ev_is (ev_op (ev_var rfl) (ev_cb (ea_cons (ev_var rfl) ea_nil) (rc_lenL ha)) rv_I0) (by rw [List.length_map]))) (fun hb => ?_) (fun hb => ?_)) ?_
    · have hi : i < ns.length := by have := of_decide_eq_true hb; omega
      refine ev_cb (ea_cons (ev_op (ev_var rfl) (ev_var rfl) (rv_ixL ha (at_of (j := i) rfl ?_))) ea_nil) rc_int1
      rw [List.getElem?_map, List.getD_eq_getElem?_getD, List.getElem?_eq_getElem hi]
      rfl
    · exact ev_op (ev_op ev_c (ev_var rfl) (rv_I (.inl ⟨by decide, by decide⟩))) ev_c rv_I0
    · by_cases c : i < ns.length
      · rw [if_pos c, if_pos (decide_eq_true (by omega))]
      · rw [if_neg c, if_neg (by rw [decide_eq_false (by omega)]; decide)]
  generalize (if i < ns.length then ns.getD i 0 else 97 * (i : Int) + 61) = c
  refine q_asg (ev_op (ev_cb (ea_cons ev_c (ea_cons (ev_op (ev_cb (ea_cons (ev_var rfl) ea_nil) rc_abs) (ev_op ev_c ev_c (rv_pow (n := 16) (by decide) (by decide))) rv_I0) ea_nil)) rc_max2)
    (ev_op (ev_op ev_c ev_c (rv_pow (n := 57) (by decide) (by decide))) (ev_op ev_c ev_c (rv_pow (n := 60) (by decide) (by decide))) (rv_I (by show _ < _; decide +kernel))) (rv_I (by decide +kernel))) fun H2 e2 => ?_
  refine s_retL (el_lst (ea_cons (ev_var rfl) (ea_cons (ev_op (ev_op (ev_op (ev_op (ev_op (ev_cb (ea_cons (ev_var rfl) ea_nil) rc_abs) ev_c (rv_I (by decide))) ev_c (rv_I (.inr ⟨by decide, by decide⟩)))
    (ev_op ev_c (ev_var rfl) (rv_I (.inl ⟨by decide, by decide⟩))) rv_I0) (ev_op ev_c (ev_cb (ea_cons (ev_op (ev_var rfl) ev_c rv_I0) ea_nil) rc_intB) (rv_I (.inl ⟨by decide, by decide⟩))) rv_I0) ev_c rv_I0) (ea_cons ev_c ea_nil))) (by simp)) fun p H3 hp e3 h3 => ?_
  exact k p H3 (fresh_back (e1.trans e2) hp) ((e1.trans e2).trans e3) ⟨_, _, _, h3⟩
def sp_law_roll (K : PySem.W.Frag) : Sp := fun vs H Q _ => ∃ (a : Addr) (m : Int), vs = [.ref a, .int m] ∧ DiceAt H a ∧ 0 < m ∧ m < 1000000 ∧ ∀ r H', 0 ≤ r → r < m → Bt a H H' → DiceAt H' a → Q (.int r) H'
theorem len_law_roll {vs : List V} {H : Hp} {Q : VK} {E : XK} (h : sp_law_roll K vs H Q E) : vs.length = 2 := by
  obtain ⟨a, m, rfl, _⟩ := h
  rfl
theorem ok_law_roll (T : Txt K mg A D) : FnOk P w K mg base CX0 1 A.law_roll D.law_roll ["dice", "most"] (sp_law_roll K) := by
  refine T.F_law_roll.ok sc_law_roll (fun vs H Q E h => len_law_roll h) (fun cdv A0 outer s H vs Q E hr h => ?_)
  refine ⟨_, (pss_cons (ps_if (pt_cmpR op_gt (pe_ix ix_list (pv 0) pe_int (fun _ _ => rfl)) pe_int (nomark _)) (pss_cons (ps_set (i := 2) sc_law_roll.nd rfl (Or.inl rfl) (pe_op op_mod (pe_callTy call_int1 (by rfl) T.b_int (by decide +kernel) (pa_cons (pe_ix ix_list (pv 0) pe_int (fun _ _ => rfl)) pa_nil)) (pv 1)))
  (pss_cons (ps_asg (pe_op op_fdiv (pe_ix ix_list (pv 0) pe_int (fun _ _ => rfl)) (pv 1)) (pg_sub (pv 0) pe_int set_list))
  (pss_one (ps_ret (pv 2))))) pss_nil)
  (pss_cons (ps_asg (pe_op op_add (pe_ix ix_list (pv 0) pe_int (fun _ _ => rfl)) pe_int) (pg_sub (pv 0) pe_int set_list))
  (pss_cons (ps_set (i := 3) sc_law_roll.nd rfl (Or.inl rfl) (pe_op op_mod (pe_callTy call_int1 (by rfl) T.b_int (by decide +kernel) (pa_cons (pe_op op_add (pe_ix ix_list (pv 0) pe_int (fun _ _ => rfl)) (pe_op op_mul pe_int (pe_ix ix_list (pv 0) pe_int (fun _ _ => rfl)))) pa_nil)) pe_int))
  (pss_cons (ps_set (i := 4) sc_law_roll.nd rfl (Or.inl rfl) (pe_op op_add (pe_op op_mul (pe_op op_mod (pe_callTy call_int1 (by rfl) T.b_int (by decide +kernel) (pa_cons (pe_op op_add (pe_op op_mul (pv 3) (pv 3)) (pe_op op_mul pe_int (pe_ix ix_list (pv 0) pe_int (fun _ _ => rfl)))) pa_nil)) pe_int) pe_int) (pv 3)))
  (pss_one (ps_ret (pe_op op_mod (pe_callTy call_int1 (by rfl) T.b_int (by decide +kernel) (pa_cons (pe_op op_fdiv (pv 4) pe_int) pa_nil)) (pv 1)))))))), ?_⟩
  obtain ⟨a, m, rfl, ⟨d0, d1, d2, ha⟩, hm, hm2, k⟩ := h
  have hmod : ∀ x : Int, 0 ≤ x % m ∧ x % m < m := fun x => ⟨Int.emod_nonneg _ (by omega), Int.emod_lt_of_pos _ hm⟩
  refine q_when (b := decide (0 < d0)) (et_test (ev_op (ev_op (ev_var rfl) ev_c (rv_ixL (sq_of ha) (at_of (j := 0) rfl rfl))) ev_c rv_I0)) (fun hb H1 e1 => ?_) (fun hb H1 e1 => ?_)
  · have h1 := e1 _ _ ha
    refine q_asg (ev_op (ev_cb (ea_cons (ev_op (ev_var rfl) ev_c (rv_ixL (sq_of h1) (at_of (j := 0) rfl rfl))) ea_nil) rc_int1) (ev_var rfl) (rv_I hm)) fun H2 e2 => ?_
    have h2 := e2 _ _ h1
    refine q_setL (j := 0) h2 (ev_op (ev_op (ev_var rfl) ev_c (rv_ixL (sq_of h2) (at_of (j := 0) rfl rfl))) (ev_var rfl) (rv_I ⟨hm, by omega⟩)) (ev_var rfl) ev_c (by simp) fun H3 e3 => ?_
    refine s_ret (ev_var rfl) fun H4 e4 => ?_
    exact k _ H4 (hmod _).1 (hmod _).2 ((Bt.of ((e1.trans e2).trans e3)).trans (Bt.upd.trans (Bt.of e4))) ⟨_, _, _, e4 _ _ upd_same⟩
  · have h1 := e1 _ _ ha
    refine q_setL (j := 2) h1 (ev_op (ev_op (ev_var rfl) ev_c (rv_ixL (sq_of h1) (at_of (j := 2) rfl rfl))) ev_c rv_I0) (ev_var rfl) ev_c (by simp) fun H2 e2 => ?_
    have h2 : (L2.upd H2 a (.lst [.int d0, .int d1, .int (d2 + 1)])) a = some (.lst [.int d0, .int d1, .int (d2 + 1)]) := upd_same
    refine q_asg (v := .int ((d1 + 71593063 * (d2 + 1)) % 2305843009213693487)) (ev_op (ev_cb (ea_cons (ev_op (ev_op (ev_var rfl) ev_c (rv_ixL (sq_of h2) (at_of (j := 1) rfl rfl))) (ev_op ev_c (ev_op (ev_var rfl) ev_c (rv_ixL (sq_of h2) (at_of (j := 2) rfl rfl))) (rv_I (.inl ⟨by decide, by decide⟩))) rv_I0) ea_nil) rc_int1) ev_c (rv_I (by decide))) fun H3 e3 => ?_
    have h3 := e3 _ _ h2
    have hone : 0 ≤ (d1 + 71593063 * (d2 + 1)) % 2305843009213693487 ∧ (d1 + 71593063 * (d2 + 1)) % 2305843009213693487 < 2305843009213693487 := ⟨Int.emod_nonneg _ (by decide), Int.emod_lt_of_pos _ (by decide)⟩
    generalize (d1 + 71593063 * (d2 + 1)) % 2305843009213693487 = one at hone ⊢
    refine q_asg (v := .int ((one * one + 89 * (d2 + 1)) % 2305843009213693253 * 6700417 + one)) (ev_op (ev_op (ev_op (ev_cb (ea_cons (ev_op (ev_op (ev_var rfl) (ev_var rfl) (rv_I (.inl ⟨by omega, by omega⟩))) (ev_op ev_c (ev_op (ev_var rfl) ev_c (rv_ixL (sq_of h3) (at_of (j := 2) rfl rfl))) (rv_I (.inl ⟨by decide, by decide⟩))) rv_I0) ea_nil) rc_int1) ev_c (rv_I (by decide))) ev_c (rv_I (.inr ⟨by decide, by decide⟩))) (ev_var rfl) rv_I0) fun H4 e4 => ?_
    refine s_ret (ev_op (ev_cb (ea_cons (ev_op (ev_var rfl) ev_c (rv_I ⟨by decide, by decide⟩)) ea_nil) rc_int1) (ev_var rfl) (rv_I hm)) fun H5 e5 => ?_
    exact k _ H5 (hmod _).1 (hmod _).2 ((Bt.of (e1.trans e2)).trans (Bt.upd.trans (Bt.of ((e3.trans e4).trans e5)))) ⟨_, _, _, ((e3.trans e4).trans e5) _ _ h2⟩
def sp_law_pick (K : PySem.W.Frag) : Sp := fun vs H Q _ => ∃ (a p : Addr) (xs : List V), vs = [.ref a, .ref p] ∧ DiceAt H a ∧ p ≠ a ∧ SqL K H p xs ∧ xs ≠ [] ∧ xs.length < 1000000 ∧ ∀ x H', x ∈ xs → Bt a H H' → DiceAt H' a → Q x H'
theorem len_law_pick {vs : List V} {H : Hp} {Q : VK} {E : XK} (h : sp_law_pick K vs H Q E) : vs.length = 2 := by
  obtain ⟨a, p, xs, rfl, _⟩ := h
  rfl
theorem ok_law_pick (T : Txt K mg A D) : FnOk P w K mg base CX0 2 A.law_pick D.law_pick ["dice", "items"] (sp_law_pick K) := by
  have G_law_roll : FnOk P w K mg base CX0 1 A.law_roll D.law_roll ["dice", "most"] (sp_law_roll K) := ok_law_roll T
  refine T.F_law_pick.ok sc_law_pick (fun vs H Q E h => len_law_pick h) (fun cdv A0 outer s H vs Q E hr h => ?_)
  refine ⟨_, (pss_one (ps_ret (pe_ix ix_list (pv 1) (pe_call G_law_roll (hr.mono (by decide)) rfl T.g_law_roll T.F_law_roll.kp T.b_law_roll .nil pass0 (pa_cons (pv 0) (pa_cons (pe_callB call_len (by rfl) T.b_len (by decide +kernel) (pa_cons (pv 1) pa_nil)) pa_nil))) (fun _ _ => rfl)))), ?_⟩
  obtain ⟨a, p, xs, rfl, ha, hne, hp, hx, hx2, k⟩ := h
  have hpos : 0 < xs.length := List.length_pos_iff.mpr hx
  refine ⟨_, rfl, ?_⟩
  refine (ea_cons (ev_var rfl) (ea_cons (ev_cb (ea_cons (ev_var rfl) ea_nil) (rc_lenL hp)) ea_nil) : EvA _ _ H [.ref a, .int (xs.length : Nat)]) H (Ex.refl _) _ fun H1 e1 => ?_
  refine ⟨a, _, rfl, ha.ex e1, by omega, by omega, fun r H2 h0 h1 hb hd => ?_⟩
  have hbt := (Bt.of e1).trans hb
  have hj : r.toNat < xs.length := by omega
  refine ⟨p, xs, r, xs[r.toNat], rfl, rfl, hbt.sqL hne hp, at_of (j := r.toNat) (by omega) (List.getElem?_eq_getElem hj), ?_⟩
  exact k _ H2 (List.getElem_mem hj) hbt hd
end
end K0

namespace K0
open PySem L2 Evl
/-! ### what evaluates to some value of which R holds -/
def Mono (R : V → Hp → Prop) : Prop := ∀ v H H', Ex H H' → R v H → R v H'
def EvR (te : TE) (σ : L2.St) (H : Hp) (R : V → Hp → Prop) : Prop := ∀ H1, Ex H H1 → ∀ Q : VK, (∀ v H2, Ex H1 H2 → R v H2 → Q v H2) → te σ H1 Q
def EvAR (ta : TA) (σ : L2.St) (H : Hp) (n : Nat) (R : V → Hp → Prop) : Prop := ∀ H1, Ex H H1 → ∀ Q : List V → Hp → Prop, (∀ vs H2, Ex H1 H2 → vs.length = n → (∀ v ∈ vs, R v H2) → Q vs H2) → ta σ H1 Q
/-- a value of which the part of the heap but for o tells data of at most this size -/
def Rz (K : PySem.W.Frag) (o : Option Addr) (s : Nat) : V → Hp → Prop := fun v H => ∃ d, Rp K (hid o H) v d ∧ d.size ≤ s
def live (o : Option Addr) (H : Hp) : Prop := ∀ a, o = some a → H a ≠ none
section
variable {K : PySem.W.Frag} {σ : L2.St} {H H' : Hp} {ta tb te tx : TE} {tr : TA} {t u : TT} {x y z v : V} {R : V → Hp → Prop} {n s s' : Nat} {o : Option Addr}
theorem mono_Rz : Mono (Rz K o s) := fun v H H' e ⟨d, h, hs⟩ => ⟨d, h.ex (hid_ex e), hs⟩
theorem Rz.le (h : Rz K o s v H) (hs : s ≤ s') : Rz K o s' v H := let ⟨d, r, z⟩ := h; ⟨d, r, Nat.le_trans z hs⟩
theorem live.ex (h : live o H) (e : Ex H H') : live o H' := fun a ha => by
  cases z : H a with
  | none => exact absurd z (h a ha)
  | some u =>
    rw [e a u z]
    simp
theorem live.new {p : Addr} {u : HO} (h : live o H) (hp : H p = none) : hid o (upd H p u) p = some u := by
  unfold hid
  rw [if_neg, upd_same]
  intro z
  exact h p z hp
theorem live_of {a : Addr} (h : DiceAt H a) : live (some a) H := fun b hb => by
  obtain ⟨d0, d1, d2, h⟩ := h
  have e := Option.some.inj hb
  subst e
  rw [h]
  simp
theorem live_none : live none H := fun b hb => by cases hb
theorem er_ev (h : Ev te σ H v) (hr : ∀ H', R v H') : EvR te σ H R := fun H1 e Q q => h H1 e Q fun H2 e2 => q v H2 e2 (hr H2)
theorem ear_nil : EvAR tNil σ H 0 R := fun H1 _ _ q => q [] H1 (Ex.refl _) rfl (fun v h => by cases h)
theorem ear_cons (hm : Mono R) (h : EvR te σ H R) (hr : EvAR tr σ H n R) : EvAR (tCons te tr) σ H (n + 1) R := fun H1 e Q q =>
  h H1 e _ fun v H2 e2 hv => hr H2 (e.trans e2) _ fun vs H3 e3 hl hvs => q (v :: vs) H3 (e2.trans e3) (by rw [List.length_cons, hl]) fun w hw => by
    rcases List.mem_cons.mp hw with hw | hw
    · rw [hw]
      exact hm _ _ _ e3 hv
    · exact hvs w hw
def EvAL (ta : TA) (σ : L2.St) (H : Hp) (n : Nat) (R : V → Hp → Prop) : Prop := ∀ H1, Ex H H1 → ∀ Q : List V → Hp → Prop, (∀ vs H2, Ex H1 H2 → vs.length ≤ n → (∀ v ∈ vs, R v H2) → Q vs H2) → ta σ H1 Q
theorem eal_nil : EvAL tNil σ H n R := fun H1 _ _ q => q [] H1 (Ex.refl _) (Nat.zero_le _) (fun v h => by cases h)
theorem eal_cons (hm : Mono R) (h : EvR te σ H R) (hr : EvAL tr σ H n R) : EvAL (tCons te tr) σ H (n + 1) R := fun H1 e Q q =>
  h H1 e _ fun v H2 e2 hv => hr H2 (e.trans e2) _ fun vs H3 e3 hl hvs => q (v :: vs) H3 (e2.trans e3) (by rw [List.length_cons]; omega) fun w hw => by
    rcases List.mem_cons.mp hw with hw | hw
    · rw [hw]
      exact hm _ _ _ e3 hv
    · exact hvs w hw
theorem rpAll_of {G : Hp} : ∀ {vs : List V}, (∀ v ∈ vs, ∃ d, Rp K G v d ∧ d.size ≤ s) → ∃ ds, RpAll K G vs ds ∧ D.sizeL ds ≤ vs.length * s
  | [], _ => ⟨[], .nil, Nat.zero_le _⟩
  | v :: vs, h => by
    obtain ⟨d, h1, h2⟩ := h v List.mem_cons_self
    obtain ⟨ds, h3, h4⟩ := rpAll_of (vs := vs) fun w hw => h w (List.mem_cons_of_mem _ hw)
    refine ⟨d :: ds, .cons h1 h3, ?_⟩
    rw [List.length_cons, Nat.succ_mul]
    simp only [D.sizeL]
    omega
theorem er_tup (hl : live o H) (h : EvAL tr σ H n (Rz K o s)) (hn : n ≤ 1000) (hs : 1 + n * s ≤ s') : EvR (tTup tr) σ H (Rz K o s') := fun H1 e Q q =>
  h H1 e _ fun vs H2 e2 hlen hvs => ⟨sz_of (by omega), fun p hp => by
    have hl2 := hl.ex (e.trans e2)
    refine q (.ref p) _ (e2.trans (Ex.new hp)) ?_
    obtain ⟨ds, h1, h2⟩ := rpAll_of hvs
    refine ⟨.tup ds, .tup (st_of (hl2.new hp)) (h1.ex (hid_ex (Ex.new hp))), ?_⟩
    have h5 : vs.length * s ≤ n * s := Nat.mul_le_mul_right s hlen
    simp only [D.size]
    omega⟩
theorem er_lst (hl : live o H) (h : EvAL tr σ H n R) (hn : n ≤ 1000) (hs : 1 ≤ s') : EvR (tLst tr) σ H (Rz K o s') := fun H1 e Q q =>
  h H1 e _ fun vs H2 e2 hlen hvs => ⟨sz_of (by omega), fun p hp => q (.ref p) _ (e2.trans (Ex.new hp)) ⟨.oth, .lst ((hl.ex (e.trans e2)).new hp), hs⟩⟩
theorem er_dict (hl : live o H) (hs : 1 ≤ s') : EvR tDNewK σ H (Rz K o s') := fun H1 e Q q => fun p hp => q (.ref p) _ (Ex.new hp) ⟨.oth, .dct ((hl.ex e).new hp), hs⟩
theorem rz_non (h : 1 ≤ s) : Rz K o s .non H := ⟨.non, .non, h⟩
theorem rz_bl {b : Bool} (h : 1 ≤ s) : Rz K o s (.bl b) H := ⟨.bl b, .bl b, h⟩
theorem rz_int {i : Int} (h : 1 ≤ s) : Rz K o s (.int i) H := ⟨.int i, .int i, h⟩
theorem rz_str {z : Str} (h : 1 + z.length / 100 ≤ s) : Rz K o s (.str z) H := ⟨.str z, .str z, h⟩
theorem rv_pw {i j : Int} (h : 0 ≤ j ∧ j ≤ 1000000 ∧ i.natAbs < 2 ^ 64) : RV (rI CPow fun i j => .int (i ^ j.toNat)) (.int i) (.int j) H (.int (i ^ j.toNat)) := rv_I h
theorem er_mulS {a : Str} {n : Nat} (ha : Ev ta σ H (.str a)) (hb : Ev tb σ H (.int (n : Int))) (h1 : 1 < n) (h2 : n ≤ 5000) (hl : a.length = 1) (hs : 1 + n / 100 ≤ s) :
    EvR (tOp (fun x y H Q => ∃ (s : Str) (n : Nat), x = V.str s ∧ y = V.int (n : Int) ∧ 1 < n ∧ n ≤ 5000 ∧ s.length = 1 ∧ ∀ z : Str, z.length = n → Q (.str z) H) ta tb) σ H (Rz K o s) := fun H1 e Q q =>
  ha H1 e _ fun H2 e2 => hb H2 (e.trans e2) _ fun H3 e3 => ⟨a, n, rfl, rfl, h1, h2, hl, fun z hz => q (.str z) H3 (e2.trans e3) ⟨.str z, .str z, by simp only [D.size]; omega⟩⟩
/-- a call in a def that changes the heap -/
theorem c_call {sp : Sp} {dvs vs : List V} {E : XK} {ta : TA} {Q : VK} (h : EvA ta σ H vs) (k : ∀ H1, Ex H H1 → sp (vs ++ dvs) H1 Q E) : tCall sp dvs E ta σ H Q := h H (Ex.refl H) _ k
theorem s_retC {D : Ends} {sp : Sp} {dvs vs : List V} {E : XK} {ta : TA} (h : EvA ta σ H vs) (k : ∀ H1, Ex H H1 → sp (vs ++ dvs) H1 D.rt E) : tRet (tCall sp dvs E ta) D σ H := h H (Ex.refl H) _ k
theorem s_asgC {D : Ends} {sp : Sp} {dvs vs : List V} {E : XK} {ta : TA} {i : Nat} (h : EvA ta σ H vs) (k : ∀ H1, Ex H H1 → sp (vs ++ dvs) H1 (fun v H2 => D.nx (σ.set i (some v)) H2) E) : tAsg (tCall sp dvs E ta) (gName i) D σ H := h H (Ex.refl H) _ k
theorem q_asgC {D : Ends} {tz : TS} {sp : Sp} {dvs vs : List V} {E : XK} {ta : TA} {i : Nat} (h : EvA ta σ H vs) (k : ∀ H1, Ex H H1 → sp (vs ++ dvs) H1 (fun v H2 => tz D (σ.set i (some v)) H2) E) : tSeq (tAsg (tCall sp dvs E ta) (gName i)) tz D σ H := h H (Ex.refl H) _ k
/-- some = [..], some = some + [..] -/
theorem q_asgLR {D : Ends} {tz : TS} {i : Nat} (hm : Mono R) (h : EvAR tr σ H n R) (hn : n ≤ 1000) (k : ∀ p xs H1, H p = none → Ex H H1 → H1 p = some (.lst xs) → xs.length = n → (∀ v ∈ xs, R v H1) → tz D (σ.set i (some (.ref p))) H1) :
    tSeq (tAsg (tLst tr) (gName i)) tz D σ H :=
  h H (Ex.refl H) _ fun vs H1 e1 hl hvs => ⟨sz_of (by omega), fun p hp => k p vs _ (fresh_back e1 hp) (e1.trans (Ex.new hp)) upd_same hl fun v hv => hm _ _ _ (Ex.new hp) (hvs v hv)⟩
theorem q_asgCR {D : Ends} {tz : TS} {i : Nat} {q0 : Addr} {ys : List V} (hm : Mono R) (ha : Ev ta σ H (.ref q0)) (h0 : H q0 = some (.lst ys)) (hy : ∀ v ∈ ys, R v H) (h : EvAR tr σ H n R) (hn : n + ys.length ≤ 1000)
    (k : ∀ p xs H1, H p = none → Ex H H1 → H1 p = some (.lst xs) → xs.length = ys.length + n → (∀ v ∈ xs, R v H1) → tz D (σ.set i (some (.ref p))) H1) :
    tSeq (tAsg (tOp rCat ta (tLst tr)) (gName i)) tz D σ H :=
  ha H (Ex.refl H) _ fun H1 e1 => h H1 e1 _ fun vs H2 e2 hl hvs => ⟨sz_of (by omega), fun p hp => by
    have hq : q0 ≠ p := ne_of_none (e2 _ _ (e1 _ _ h0)) hp
    refine ⟨q0, p, ys, vs, rfl, rfl, by rw [upd_ne hq]; exact e2 _ _ (e1 _ _ h0), upd_same, sz_of (by omega), fun p2 hp2 => ?_⟩
    have e3 : Ex H2 (upd H2 p (.lst vs)) := Ex.new hp
    have e4 : Ex (upd H2 p (.lst vs)) (upd (upd H2 p (.lst vs)) p2 (.lst (ys ++ vs))) := Ex.new hp2
    refine k p2 (ys ++ vs) _ (fresh_back ((e1.trans e2).trans e3) hp2) (((e1.trans e2).trans e3).trans e4) upd_same (by rw [List.length_append, hl]) fun v hv => ?_
    rcases List.mem_append.mp hv with hv | hv
    · exact hm _ _ _ (((e1.trans e2).trans e3).trans e4) (hy v hv)
    · exact hm _ _ _ (e3.trans e4) (hvs v hv)⟩
end
end K0

namespace K0
open PySem L2 Evl
/-! ### lists may change, nothing else -/
def ExL (G G' : Hp) : Prop := ∀ b u, G b = some u → G' b = some u ∨ ∃ xs ys, u = .lst xs ∧ G' b = some (.lst ys)
theorem ExL.of {G G' : Hp} (e : Ex G G') : ExL G G' := fun b u h => .inl (e b u h)
theorem ExL.upd {G : Hp} {p : Addr} {xs ys : List V} (h : G p = some (.lst xs)) : ExL G (L2.upd G p (.lst ys)) := fun b u hb => by
  by_cases c : b = p
  · subst c
    rw [h] at hb
    exact .inr ⟨xs, ys, (Option.some.inj hb).symm, upd_same⟩
  · exact .inl (by rw [upd_ne c]; exact hb)
theorem ExL.trans {G G' G'' : Hp} (a : ExL G G') (b : ExL G' G'') : ExL G G'' := fun c u h => by
  rcases a c u h with h1 | ⟨xs, ys, rfl, h1⟩
  · exact b c u h1
  · rcases b c _ h1 with h2 | ⟨_, zs, _, h2⟩
    · exact .inr ⟨xs, ys, rfl, h2⟩
    · exact .inr ⟨xs, zs, rfl, h2⟩
theorem ExL.sqT {K : PySem.W.Frag} {G G' : Hp} {a : Addr} {xs : List V} (e : ExL G G') (h : SqT K G a xs) : SqT K G' a xs := by
  rcases h with (h | ⟨o, h⟩) | h
  · rcases e a _ h with h1 | ⟨_, _, z, _⟩
    · exact .inl (.inl h1)
    · cases z
  · rcases e a _ h with h1 | ⟨_, _, z, _⟩
    · exact .inl (.inr ⟨o, h1⟩)
    · cases z
  · exact .inr h
section
variable {K : PySem.W.Frag} {H H' : Hp}
mutual
theorem Rp.exL {v : V} {d : D} (e : ExL H H') : Rp K H v d → Rp K H' v d
  | .non => .non
  | .bl b => .bl b
  | .int i => .int i
  | .str s => .str s
  | .tup h r => .tup (e.sqT h) (RpAll.exL e r)
  | .lst h => by
    rcases e _ _ h with h1 | ⟨_, ys, _, h1⟩
    · exact .lst h1
    · exact .lst h1
  | .dct h => by
    rcases e _ _ h with h1 | ⟨_, _, z, _⟩
    · exact .dct h1
    · cases z
theorem RpAll.exL {vs : List V} {ds : List D} (e : ExL H H') : RpAll K H vs ds → RpAll K H' vs ds
  | .nil => .nil
  | .cons h r => .cons (Rp.exL e h) (RpAll.exL e r)
end
end
theorem hid_upd {a p : Addr} {H : Hp} {u : HO} (h : p ≠ a) : hid (some a) (upd H p u) = upd (hid (some a) H) p u := by
  funext b
  unfold hid upd
  by_cases c : b = p
  · subst c
    rw [if_neg (by simpa using fun z => h z.symm), if_pos rfl, if_pos rfl]
  · rw [if_neg c, if_neg c]
/-- a comprehension over a range whose elements are drawn -/
theorem lc_draws {te : TE} {vs : List Nat} {σ : L2.St} {j : Nat} {a : Addr} {n : Nat} {H1 : Hp} {R : V → Hp → Prop} {Q : VK} (hR : ∀ v H H', ExL (hid (some a) H) (hid (some a) H') → R v H → R v H') (hd : DiceAt H1 a) (hn : n ≤ 1000)
    (hw : ∀ x, wipe ((wipe σ vs).set j (some x)) vs = wipe σ vs)
    (turn : ∀ (i : Nat) H', i < n → Bt a H1 H' → DiceAt H' a → ∀ Q : VK, (∀ x H'', Bt a H' H'' → DiceAt H'' a → R x H'' → Q x H'') → te ((wipe σ vs).set j (some (.int ((0 : Int) + (i : Int))))) H' Q)
    (k : ∀ D xs H', H1 D = none → Bt a H1 H' → DiceAt H' a → H' D = some (.lst xs) → xs.length = n → (∀ x ∈ xs, R x H') → Q (.ref D) H') :
    ∀ D, H1 D = none → ∃ W : Nat → Nat → Hp → Prop, (∃ m, W 0 m (upd H1 D (.lst []))) ∧ ∀ i m H, W i m H →
      ((Itr 0 n).stop i H ∧ Q (.ref D) H) ∨ ((Itr 0 n).go i H ∧ ∃ Nx : Hp → Prop, (∀ H', Nx H' → ∃ m', m' < m ∧ W (i + 1) m' H') ∧ ∀ x H', (Itr 0 n).yld i H x H' → gName j x (wipe σ vs) H' fun σ2 H2 => wipe σ2 vs = wipe σ vs ∧ tYes σ2 H2 fun b H3 =>
        if b = true then te σ2 H3 fun y H4 => ∃ acc, H4 D = some (.lst acc) ∧ acc.length < sizeLine ∧ Nx (upd H4 D (.lst (acc ++ [y]))) else Nx H3) := fun D hD => by
  have hne : D ≠ a := hd.ne hD
  refine lc_range (lo := 0) (n := n) (fun i H' => i ≤ n ∧ ∃ acc, H' D = some (.lst acc) ∧ acc.length = i ∧ (∀ x ∈ acc, R x H') ∧ Bt a H1 H' ∧ DiceAt H' a) ⟨Nat.zero_le _, [], upd_same, rfl, fun x h => (by cases h), Bt.of (Ex.new hD), hd.ex (Ex.new hD)⟩ (fun i H' hi p => ?_) (fun H' p => ?_)
  · obtain ⟨_, acc, p1, p2, p3, p4, p5⟩ := p
    refine ⟨hw _, turn i H' hi p4 p5 _ fun x H'' hb hd2 hx => ?_⟩
    have h2 : H'' D = some (.lst acc) := hb.at hne p1
    have eL : ExL (hid (some a) H'') (hid (some a) (upd H'' D (.lst (acc ++ [x])))) := by
      rw [hid_upd hne]
      exact ExL.upd (hid_at h2 hne)
    refine ⟨acc, h2, sz_lt (by omega), hi, acc ++ [x], upd_same, by rw [List.length_append, p2]; rfl, fun y hy => ?_, ?_, ?_⟩
    · rcases List.mem_append.mp hy with hy | hy
      · exact hR _ _ _ ((ExL.of hb).trans eL) (p3 y hy)
      · rw [List.mem_singleton.mp hy]
        exact hR _ _ _ eL hx
    · have h3 := p4.trans hb
      intro b u hbu
      have := h3 b u hbu
      rw [hid_upd hne]
      have hbD : b ≠ D := fun z => by
        subst z
        have := hid_le _ _ hbu
        rw [hD] at this
        cases this
      rw [upd_ne hbD]
      exact this
    · obtain ⟨x0, x1, x2, h⟩ := hd2
      exact ⟨x0, x1, x2, by rw [upd_ne hne.symm]; exact h⟩
  · obtain ⟨_, acc, p1, p2, p3, p4, p5⟩ := p
    exact k D acc H' hD p4 p5 p1 p2 p3
/-- tuple(xs) -/
def rTupOf (K : PySem.W.Frag) : List V → Hp → VK → Prop := fun xs H Q => ∃ p ys, xs = [.ref p] ∧ ((SqL K H p ys ∧ ∀ l, H l = none → Q (.ref l) (upd H l (.tup ys))) ∨ (SqT K H p ys ∧ Q (.ref p) H))
theorem n_next {D : Ends} {σ : L2.St} {H : Hp} (h : D.nx σ H) : tNext D σ H := h
theorem n_ret {D : Ends} {σ : L2.St} {H : Hp} {te : TE} (h : te σ H D.rt) : tRet te D σ H := h
theorem n_cb {r : List V → Hp → VK → Prop} {t : TA} {σ : L2.St} {H : Hp} {Q : VK} (h : t σ H fun vs H1 => r vs H1 Q) : tCB r t σ H Q := h
theorem n_cons {te : TE} {t : TA} {σ : L2.St} {H : Hp} {Q : List V → Hp → Prop} (h : te σ H fun v H1 => t σ H1 fun vs H2 => Q (v :: vs) H2) : tCons te t σ H Q := h
theorem n_rng1 {ta : TA} {σ : L2.St} {H : Hp} {R : It → Hp → Prop} (h : ta σ H fun vs H1 => ∃ j : Int, vs = [.int j] ∧ -(2 ^ 62) ≤ j ∧ j < 2 ^ 62 ∧ R (Itr 0 j.toNat) H1) : iRng1 ta σ H R := h
end K0

namespace K0
open PySem PySem.Spec PyProof.Rows L2
/-! ### try with several clauses, of which some name the exception -/
/-- a clause: its class, the slot of its name, what its suite reads as -/
structure Clause where
  cls : Value
  at_ : Option Nat
  ts : Addr → Value → Option Addr → TS
def endsC (o : Option Nat) (D : Ends) : Ends := match o with
  | none => D
  | some i => { nx := fun u G => D.nx (u.set i none) G, rt := D.rt, bk := fun u G => D.bk (u.set i none) G, ct := fun u G => D.ct (u.set i none) G }
def slotC (o : Option Nat) (σ : L2.St) (a : Addr) : L2.St := match o with
  | none => σ
  | some i => σ.set i (some (.ref a))
def wClauses (K : PySem.W.Frag) (n : Nat) (Wz : WX) (D : Ends) : List Clause → WX
  | [] => Wz
  | q :: r => fun cls d σ H => ∃ b, PySem.W.exmOne K cls q.cls = some b ∧ (b = true → ∀ a, H a = none → σ.length = n → q.ts a cls d (endsC q.at_ D) (slotC q.at_ σ a) H) ∧ (b = false → wClauses K n Wz D r cls d σ H)
def SuiteOk (X : Cx) (sts : List Stmt) (ts : Addr → Value → Option Addr → TS) : Prop :=
  ∀ (a : Addr) (oe : Obj) (cls : Value) (d : Option Addr) (pn : List (Addr × Obj)), Zc cls d oe → (∃ vs, oe.data = .fields vs) → PSs (X.suite a ((a, oe) :: pn)) sts (ts a cls d)
inductive ClausesOk (X : Cx) : List ExceptHandler → List Clause → Prop
  | nil : ClausesOk X [] []
  | bare {x : Str} {c : Value} {ts : Addr → Value → Option Addr → TS} {s0 : Stmt} {sts : List Stmt} {p1 p2 : Pos} {es : List ExceptHandler} {l : List Clause} (hc : Names X x c) (hs : SuiteOk X (s0 :: sts) ts) (r : ClausesOk X es l) :
      ClausesOk X (.ExceptHandler (some (.Name x p1)) none (s0 :: sts) p2 :: es) (⟨c, none, ts⟩ :: l)
  | named {x n : Str} {c : Value} {i : Nat} {ts : Addr → Value → Option Addr → TS} {s0 : Stmt} {sts : List Stmt} {p1 p2 : Pos} {es : List ExceptHandler} {l : List Clause} (hc : Names X x c) (hN : X.N.Nodup) (hi : X.N[i]? = some n) (hl : X.env.kindOf n = some .local) (hs : SuiteOk X (s0 :: sts) ts) (r : ClausesOk X es l) :
      ClausesOk X (.ExceptHandler (some (.Name x p1)) (some n) (s0 :: sts) p2 :: es) (⟨c, some i, ts⟩ :: l)
section
variable {X : Cx} {body : List Stmt} {e0 : ExceptHandler} {es : List ExceptHandler} {l : List Clause} {pos : Pos} {tb : WX → TS} {Wz : WX}
theorem ps_clauses (st : X.stack = X.env :: X.outer) (fr : X.env.frame = some X.env.locals) (tk : Takes X Wz)
    (hb : ∀ (W : WX) (pn : List (Addr × Obj)) (xe : Value → Shared → Prop), Takes (X.tr pn xe) W → PassesOwn (model X.prog X.w) X.A X.env xe → PSs (X.tr pn xe) body (tb W))
    (hk : ClausesOk X (e0 :: es) l) : PS X (.Try body (e0 :: es) [] [] pos) (fun D σ H => tb (wClauses X.K X.N.length Wz D l) D σ H) := by
  refine ⟨fun pins s σ H D I h => ?_⟩
  have okX := I.ok
  have frs_ : X.A.frames = some (X.env :: X.outer) := by rw [okX.frames, st]
  refine wpAny_Try_except ?_
  have run_ := (hb (wClauses X.K X.N.length Wz D l) (X.pn ++ pins) (fun e t1 => wpAny (model X.prog X.w) X.A (noteFrame e X.env) (fun _ t2 => wpAny (model X.prog X.w) X.A (setFlight e none) (fun _ t3 => wpAny (model X.prog X.w) X.A (handleBy e X.env (e0 :: es)) (SP X pins D) X.xe t3) X.xe t2) X.xe t1)
    (fun u t xx => ?_) PassesOwn.looking).run [] s σ H D (I.toTry _) h
  · refine wpAny_mono run_ (fun f t z => ?_) (fun e t z => z)
    cases f with
    | next => exact let ⟨u, G, J, q⟩ := z; wpAny_execs_nil ⟨u, G, J.ofTry okX, q⟩
    | brk => exact let ⟨u, G, J, q⟩ := z; ⟨u, G, J.ofTry okX, q⟩
    | cont => exact let ⟨u, G, J, q⟩ := z; ⟨u, G, J.ofTry okX, q⟩
    | ret v => exact let ⟨y, u, G, J, r, q⟩ := z; ⟨y, u, G, J.ofTry okX, r, q⟩
  · obtain ⟨a, B, sI, pz, u1, G, cls, d, rfl, Jt, nb, up, sky, na, os, ag, w⟩ := xx
    have J : Inv X pins u1 G sI := Jt.ofTry okX
    rw [show (X.tr (X.pn ++ pins) _).stack = X.env :: X.outer from st] at sky
    show wpAny (model X.prog X.w) X.A (noteFrame (.ref a) X.env) _ _ _
    refine Sky.land Zc.steady frs_ fr sky fun h3 fl3 up3 => ?_
    have J3 : Inv X pins u1 G { t with heap := h3 } := J.landed nb fl3.1 (up.trans up3) os ag
    obtain ⟨o3, w3, at3, z3, f3⟩ := fl3.there
    have off : a ∉ frs (X.env :: X.outer) := fun hm => by
      obtain ⟨_, o', at', hnf⟩ := fl3.2.2.1.mem hm
      rw [at3] at at'
      cases at'
      exact hnf _ f3
    have offL : a ≠ X.env.locals := fun z => off (List.mem_filterMap.mpr ⟨X.env, List.mem_cons_self, by rw [fr, z]⟩)
    have offF : a ∉ X.fs := fun hm => by
      obtain ⟨e, he, q⟩ := List.mem_filterMap.mp hm
      exact off (List.mem_filterMap.mpr ⟨e, List.mem_cons_of_mem _ he, q⟩)
    have S3 := J3.suite at3 f3 na offL offF
    have name_ : ∀ {x : Str} {c : Value} {p1 : Pos} {Q E : Value → Shared → Prop}, Names X x c → Q c { t with heap := h3 } → wpAny (model X.prog X.w) (X.A.mark (some (.ref a))) (eval (.Name x p1) X.env) (fun v s => Q v s) E { t with heap := h3 } := fun {x c p1 Q E} hc q => by
      rcases hc with ⟨g, dbg, m | ⟨m, bb, nn⟩⟩
      · exact ld_glob (X := X.suite a ((a, o3) :: (X.pn ++ pins))) S3 g m q dbg
      · exact ld_blt (X := X.suite a ((a, o3) :: (X.pn ++ pins))) S3 g m bb q nn dbg
    have looks_ : PySem.W.Looks (model X.prog X.w) h3 (typeOf (.ref a)) cls := fun A Q E s k q => wpAny_typeOf_ref (k _ _ at3) (by rw [z3.1]; exact q)
    have go : ∀ {hs : List ExceptHandler} {l : List Clause}, ClausesOk X hs l → wClauses X.K X.N.length Wz D l cls d u1 G → wpAny (model X.prog X.w) X.A (handleBy (.ref a) X.env hs) (SP X pins D) X.xe { t with heap := h3 } := by
      intro hs l ck
      induction ck with
      | nil =>
        intro w
        refine wpAny_handleBy_nil ?_
        obtain ⟨_, _, _, oe, vs, T, oT, ts', he, hz, hd, h1, hr⟩ := id fl3
        unfold PySem.passOn
        refine wpAny_bind (wpAny_field he hd h1 ?_)
        rw [if_neg (show ¬ ((Value.ref T == Value.none) = true) by simp)]
        have out_ : wpAny (model X.prog X.w) X.A (setFlight (.ref a) X.env.frame) (fun _ t4 => wpAny (model X.prog X.w) X.A (throw (.ref a) : Sem Flow) (SP X pins D) X.xe t4) X.xe { t with heap := h3 } := by
          rw [fr]
          exact HandSPX.setFlight_upZ fl3 fun h4 hh4 up4 => wpAny_throw (tk _ _ ⟨a, B, sI, pins, u1, G, cls, d, rfl, J, nb, (up.trans up3).trans up4, .inr (.inr (by rw [st]; exact hh4)), na, os, ag, w⟩)
        first
          | exact wpAny_bind (wpAny_pure (wpAny_bind out_))
          | exact wpAny_bind out_
      | bare hc hsu r ih =>
        intro w
        obtain ⟨b, eb, yes, no⟩ := w
        refine wpAny_handleBy_cons (codeAny_handlers_test ?_) (fun q => by cases q)
        refine name_ hc ((PySem.W.exm_one (M := model X.prog X.w) J3.kIn looks_ eb).here ?_)
        cases b with
        | false =>
          show wpAny _ X.A (handleBy (.ref a) X.env _) _ _ _
          exact ih (no rfl)
        | true =>
          refine codeAny_handlers_suite (HandSPX.lands_againZ fl3 fun h4 fl4 up4 => ?_)
          have J4 : Inv X pins u1 G { t with heap := h4 } := J.landed nb fl4.1 ((up.trans up3).trans up4) os ag
          obtain ⟨o4, w4, at4, z4, f4⟩ := fl4.there
          refine wpAny_mono ((hsu a o4 cls d (X.pn ++ pins) z4 ⟨_, f4⟩).run [] _ _ G _ (J4.suite at4 f4 na offL offF) (yes rfl a na J.len)) (fun f s6 hq => ?_) (fun _ _ z => z.elim)
          cases f with
          | next => exact let ⟨u, G6, S, q⟩ := hq; ⟨u, G6, S.unsuite okX, q⟩
          | brk => exact let ⟨u, G6, S, q⟩ := hq; ⟨u, G6, S.unsuite okX, q⟩
          | cont => exact let ⟨u, G6, S, q⟩ := hq; ⟨u, G6, S.unsuite okX, q⟩
          | ret v => exact let ⟨y, u, G6, S, r, q⟩ := hq; ⟨y, u, G6, S.unsuite okX, r, q⟩
      | @named x n c i ts s0 sts p1 p2 es l hc hN hi hl hsu r ih =>
        intro w
        obtain ⟨b, eb, yes, no⟩ := w
        refine wpAny_handleBy_cons (codeAny_handlers_test ?_) (fun q => by cases q)
        refine name_ hc ((PySem.W.exm_one (M := model X.prog X.w) J3.kIn looks_ eb).here ?_)
        cases b with
        | false =>
          show wpAny _ X.A (handleBy (.ref a) X.env _) _ _ _
          exact ih (no rfl)
        | true =>
          refine codeAny_handlers_suite_as (HandSPX.lands_againZ fl3 fun h4 fl4 up4 => ?_)
          have J4 : Inv X pins u1 G { t with heap := h4 } := J.landed nb fl4.1 ((up.trans up3).trans up4) os ag
          obtain ⟨o4, w4, at4, z4, f4⟩ := fl4.there
          refine store_ok (X := X.suite a ((a, o4) :: (X.pn ++ pins))) (v := .ref a) (J4.suite at4 f4 na offL offF) hN hi (show Loc X.env.scope n from .inl hl) rfl (fun s5 S5 => ?_) (.inr hl)
          refine wpAny_mono ((hsu a o4 cls d (X.pn ++ pins) z4 ⟨_, f4⟩).run [] s5 _ G _ S5 (yes rfl a na J.len)) (fun f s6 hq => ?_) (fun _ _ z => z.elim)
          have gone : ∀ {u : L2.St} {G6 : Hp} {Q : Shared → Prop}, Inv (X.suite a ((a, o4) :: (X.pn ++ pins))) [] u G6 s6 → (∀ s7, Inv X pins (u.set i none) G6 s7 → Q s7) → wpAny (model X.prog X.w) X.A (do bindName X.env n .none; unbindBehindTheSuite X.env n p2) (fun _ s7 => Q s7) X.xe s6 :=
            fun S hq => gone_ok (S.unsuite okX) hN hi hl hq
          cases f with
          | next => exact let ⟨u, G6, S, q⟩ := hq; gone S fun s7 J7 => ⟨_, _, J7, q⟩
          | brk => exact let ⟨u, G6, S, q⟩ := hq; gone S fun s7 J7 => ⟨_, _, J7, q⟩
          | cont => exact let ⟨u, G6, S, q⟩ := hq; gone S fun s7 J7 => ⟨_, _, J7, q⟩
          | ret v => exact let ⟨y, u, G6, S, r, q⟩ := hq; gone S fun s7 J7 => ⟨_, _, _, J7, r, q⟩
    exact go hk w
end
end K0

namespace K0
open PySem L2 Evl
/-! ### data: what can be compared -/
mutual
def D.clean : D → Bool
  | .oth => false
  | .tup ds => D.cleanL ds
  | _ => true
def D.cleanL : List D → Bool
  | [] => true
  | d :: ds => d.clean && D.cleanL ds
end
mutual
def D.py : D → PyData
  | .non => .none
  | .bl b => .bool b
  | .int i => .int i
  | .str s => .str s
  | .tup ds => .tuple (D.pyL ds)
  | .oth => .none
def D.pyL : List D → List PyData
  | [] => []
  | d :: ds => d.py :: D.pyL ds
end
theorem pyL_map : ∀ ds : List D, D.pyL ds = ds.map D.py
  | [] => rfl
  | d :: ds => by
    show d.py :: D.pyL ds = _
    rw [pyL_map ds]
    rfl
theorem cleanL_all : ∀ ds : List D, D.cleanL ds = ds.all D.clean
  | [] => rfl
  | d :: ds => by
    show (d.clean && D.cleanL ds) = _
    rw [cleanL_all ds]
    rfl
section
variable {K : PySem.W.Frag} {H : Hp}
mutual
theorem Rp.dp {v : V} {d : D} (c : d.clean = true) : Rp K H v d → Dp K H v d.py
  | .non => .non
  | .bl b => .bl b
  | .int i => .int i
  | .str s => .str s
  | .tup h r => .tup h (RpAll.dp c r)
  | .lst h => by cases c
  | .dct h => by cases c
theorem RpAll.dp {vs : List V} {ds : List D} (c : D.cleanL ds = true) : RpAll K H vs ds → DpAll K H vs (D.pyL ds)
  | .nil => .nil
  | .cons h r => by
    have c' := Bool.and_eq_true_iff.mp c
    exact .cons (Rp.dp c'.1 h) (RpAll.dp c'.2 r)
end
end
mutual
theorem eqv_self : ∀ d : D, d.clean = true → PyData.eqv d.py d.py = true
  | .non, _ => rfl
  | .bl b, _ => by simp [D.py, PyData.eqv]
  | .int i, _ => by simp [D.py, PyData.eqv]
  | .str s, _ => by simp [D.py, PyData.eqv]
  | .tup ds, c => by
    simp only [D.py, PyData.eqv]
    exact eqvAll_self ds c
  | .oth, c => by cases c
theorem eqvAll_self : ∀ ds : List D, D.cleanL ds = true → PyData.eqvAll (D.pyL ds) (D.pyL ds) = true
  | [], _ => rfl
  | d :: ds, c => by
    have c' := Bool.and_eq_true_iff.mp c
    simp only [D.pyL, PyData.eqvAll]
    rw [eqv_self d c'.1, eqvAll_self ds c'.2]
    rfl
end
/-- clean, of texts that can lie there, not deep -/
def D.fine (n : Nat) (d : D) : Bool := d.clean && d.py.canLay0 && decide (d.py.depth ≤ n)
theorem fine_c {n : Nat} {d : D} (h : d.fine n = true) : d.clean = true := (Bool.and_eq_true_iff.mp (Bool.and_eq_true_iff.mp h).1).1
theorem fine_l {n : Nat} {d : D} (h : d.fine n = true) : d.py.canLay0 = true := (Bool.and_eq_true_iff.mp (Bool.and_eq_true_iff.mp h).1).2
theorem fine_d {n : Nat} {d : D} (h : d.fine n = true) : d.py.depth ≤ n := of_decide_eq_true (Bool.and_eq_true_iff.mp h).2
theorem fine_all {n : Nat} : ∀ ds : List D, (∀ d ∈ ds, d.fine n = true) → D.cleanL ds = true ∧ PyData.canLayAll0 (D.pyL ds) = true ∧ PyData.depthAll (D.pyL ds) ≤ n
  | [], _ => ⟨rfl, rfl, Nat.zero_le _⟩
  | d :: ds, h => by
    have h1 := h d (List.mem_cons_self ..)
    obtain ⟨a, b, c⟩ := fine_all ds fun e he => h e (List.mem_cons_of_mem _ he)
    refine ⟨Bool.and_eq_true_iff.mpr ⟨fine_c h1, a⟩, ?_, ?_⟩
    · simp only [D.pyL, PyData.canLayAll0]
      rw [fine_l h1, b]
      rfl
    · simp only [D.pyL, PyData.depthAll]
      exact Nat.max_le.mpr ⟨fine_d h1, c⟩
theorem fine_tup {n : Nat} {ds : List D} (h : ∀ d ∈ ds, d.fine n = true) : (D.tup ds).fine (n + 1) = true := by
  obtain ⟨a, b, c⟩ := fine_all ds h
  refine Bool.and_eq_true_iff.mpr ⟨Bool.and_eq_true_iff.mpr ⟨a, ?_⟩, decide_eq_true ?_⟩
  · simp only [D.py, PyData.canLay0]
    exact b
  · simp only [D.py, PyData.depth]
    omega
theorem fine_le {n m : Nat} {d : D} (h : d.fine n = true) (l : n ≤ m) : d.fine m = true :=
  Bool.and_eq_true_iff.mpr ⟨Bool.and_eq_true_iff.mpr ⟨fine_c h, fine_l h⟩, decide_eq_true (Nat.le_trans (fine_d h) l)⟩
theorem shaped_of {n : Nat} {d : D} (h : d.fine n = true) (l : n ≤ 64) : SeqAt.shaped d.py = true :=
  Bool.and_eq_true_iff.mpr ⟨fine_l h, decide_eq_true (Nat.le_trans (fine_d h) l)⟩
theorem shapedL_of {n : Nat} {ds : List D} (h : ∀ d ∈ ds, d.fine n = true) (l : n + 1 ≤ 64) : SeqAt.shaped (.list (D.pyL ds)) = true := by
  obtain ⟨a, b, c⟩ := fine_all ds h
  refine Bool.and_eq_true_iff.mpr ⟨?_, decide_eq_true ?_⟩
  · simp only [PyData.canLay0]
    exact b
  · simp only [PyData.depth]
    omega
theorem Rp.tupI {K : PySem.W.Frag} {H : Hp} {v : V} {ds : List D} (h : Rp K H v (.tup ds)) : ∃ a xs, v = .ref a ∧ SqT K H a xs ∧ RpAll K H xs ds := by
  cases h with
  | tup h r => exact ⟨_, _, rfl, h, r⟩
theorem RpAll.setI {K : PySem.W.Frag} {H : Hp} : ∀ {vs : List V} {ds : List D} (i : Nat) {v : V} {d : D}, RpAll K H vs ds → Rp K H v d → RpAll K H (vs.set i v) (ds.set i d)
  | _, _, i, _, _, .nil, _ => by cases i <;> exact .nil
  | _, _, 0, _, _, .cons h r, g => .cons g r
  | _, _, i + 1, _, _, .cons h r, g => .cons h (RpAll.setI i r g)
/-! ### readings -/
section
variable {K : PySem.W.Frag} {σ : L2.St} {H H' : Hp} {ta tb te tv : TE} {x y z v : V} {C a dx : Addr} {fs : List (Str × V)} {f : Str} {D : Ends} {tz : TS}
theorem ev_fld (h : Ev ta σ H (.ref a)) (ha : H a = some (.ins C dx fs)) (c : Cls K C) (n : NoAttr K C f) (l : fs.lookup f = some v) : Ev (tFld K ta f) σ H v := fun H1 e Q q =>
  h H1 e _ fun H2 e2 => ⟨a, C, dx, fs, v, rfl, (e.trans e2) _ _ ha, c, n, l, q H2 e2⟩
theorem q_fld (hv : Ev tv σ H v) (ho : Ev ta σ H (.ref a)) (ha : H a = some (.ins C dx fs)) (c : Cls K C) (n : NoAttr K C f) (hl : fs.length < 1000) (k : ∀ H1, Ex H H1 → tz D σ (upd H1 a (.ins C dx (putF f v fs)))) :
    tSeq (sFld K ta tv f) tz D σ H := hv H (Ex.refl H) _ fun H1 e1 => ho H1 e1 _ fun H2 e2 => ⟨a, C, dx, fs, rfl, (e1.trans e2) _ _ ha, c, n, hl, k H2 (e1.trans e2)⟩
theorem s_fldU {xs : List V} (hv : EvU tv σ H xs) (ho : Ev ta σ H (.ref a)) (ha : H a = some (.ins C dx fs)) (c : Cls K C) (n : NoAttr K C f) (hl : fs.length < 1000)
    (k : ∀ p H1, H p = none → Ex H H1 → H1 p = some (.tup xs) → D.nx σ (upd H1 a (.ins C dx (putF f (.ref p) fs)))) :
    sFld K ta tv f D σ H := hv H (Ex.refl H) _ fun p H1 hp e1 h1 => ho H1 e1 _ fun H2 e2 => ⟨a, C, dx, fs, rfl, (e1.trans e2) _ _ ha, c, n, hl, k p H2 hp (e1.trans e2) (e2 _ _ h1)⟩
theorem q_asgMk {sp : Sp} {E : XK} {i : Nat} {xs : List V} (h : EvU te σ H xs)
    (k : ∀ p H1, H p = none → Ex H H1 → H1 p = some (.tup xs) → ∀ x dx, H1 x = none → H1 dx = none → dx ≠ x → sp [.ref x, .ref p] (upd (upd H1 dx (.own x)) x (.ins C dx [])) (fun v H2 => v = .non ∧ tz D (σ.set i (some (.ref x))) H2) E) :
    tSeq (tAsg (tMake C sp [] E (tCons te tNil)) (gName i)) tz D σ H := h H (Ex.refl H) _ fun p H1 hp e h1 => k p H1 hp e h1
theorem eu_tupOf {p : Addr} {xs : List V} (h : Ev ta σ H (.ref p)) (hx : SqL K H p xs) : EvU (tCB (rTupOf K) (tCons ta tNil)) σ H xs := fun H1 e Q q =>
  h H1 e _ fun H2 e2 => ⟨p, xs, rfl, .inl ⟨ex_l (e.trans e2) hx, fun l hl => q l _ (fresh_back e2 hl) (e2.trans (Ex.new hl)) upd_same⟩⟩
theorem el_listT {p : Addr} {xs : List V} (h : Ev ta σ H (.ref p)) (hx : SqT K H p xs) : EvL (tCB (rListS K) (tCons ta tNil)) σ H xs := fun H1 e Q q =>
  h H1 e _ fun H2 e2 => ⟨p, xs, rfl, .inr (ex_t (e.trans e2) hx), fun l hl => q l _ (fresh_back e2 hl) (e2.trans (Ex.new hl)) upd_same⟩
theorem rc_kitI {P : V → Prop} {n : String} {b : Bool} {dy : Addr} {gs : List (Str × V)} {p : Addr} (o : ObjC K C) (cl : Cls K C) (hp : H p = some (.ins C dy gs)) : RC (rIsi K) [.ref p, .ref C] H (.bl true) := fun H1 e Q q =>
  ⟨_, _, _, _, _, rfl, .own C, .base (.ins (e _ _ hp) cl o.ca o.cg o.ct o.co), by unfold PySem.W.kitOne; rw [if_pos (by simp)], q H1 (Ex.refl _)⟩
end
/-- the promise of a value, by what it is -/
def RetR (K : PySem.W.Frag) (d : D) (H : Hp) (Q : VK) : Prop := ∀ v H', Ex H H' → Rp K H' v d → Q v H'
/-! ### what evaluates to data -/
section
variable {K : PySem.W.Frag} {σ : L2.St} {H H' : Hp} {ta tb te : TE} {tr : TA} {x y z v : V} {d e : D} {ds es : List D}
def EvD (K : PySem.W.Frag) (te : TE) (σ : L2.St) (H : Hp) (d : D) : Prop := ∀ H1, Ex H H1 → ∀ Q : VK, (∀ v H2, Ex H1 H2 → Rp K H2 v d → Q v H2) → te σ H1 Q
def EvDA (K : PySem.W.Frag) (ta : TA) (σ : L2.St) (H : Hp) (ds : List D) : Prop := ∀ H1, Ex H H1 → ∀ Q : List V → Hp → Prop, (∀ vs H2, Ex H1 H2 → RpAll K H2 vs ds → Q vs H2) → ta σ H1 Q
theorem EvD.mono (a : Ex H H') (h : EvD K te σ H d) : EvD K te σ H' d := fun H1 e Q q => h H1 (a.trans e) Q q
theorem ed_ev (h : Ev te σ H v) (r : Rp K H v d) : EvD K te σ H d := fun H1 a Q q => h H1 a Q fun H2 b => q v H2 b (r.ex (a.trans b))
theorem ed_int {i : Int} : EvD K (tC (.int i)) σ H (.int i) := ed_ev ev_c (.int i)
theorem ed_non : EvD K (tC .non) σ H .non := ed_ev ev_c .non
theorem ed_str {s : Str} : EvD K (tC (.str s)) σ H (.str s) := ed_ev ev_c (.str s)
theorem eda_nil : EvDA K tNil σ H [] := fun H1 _ Q q => q [] H1 (Ex.refl _) .nil
theorem eda_cons (h : EvD K te σ H d) (r : EvDA K tr σ H ds) : EvDA K (tCons te tr) σ H (d :: ds) := fun H1 a Q q =>
  h H1 a _ fun v H2 b hv => r H2 (a.trans b) _ fun vs H3 c hs => q (v :: vs) H3 (b.trans c) (.cons (hv.ex c) hs)
theorem ed_tup (h : EvDA K tr σ H ds) (l : ds.length ≤ 100000) : EvD K (tTup tr) σ H (.tup ds) := fun H1 a Q q =>
  h H1 a _ fun vs H2 b hs => ⟨by rw [hs.len]; exact sz_of l, fun p hp => q (.ref p) _ (b.trans (Ex.new hp)) (.tup (st_of upd_same) (hs.ex (Ex.new hp)))⟩
theorem ed_cat (h1 : EvD K ta σ H (.tup ds)) (h2 : EvD K tb σ H (.tup es)) (l : ds.length + es.length ≤ 100000) : EvD K (tOp (rCatA K) ta tb) σ H (.tup (ds ++ es)) := fun H1 a Q q =>
  h1 H1 a _ fun v H2 b hv => h2 H2 (a.trans b) _ fun w H3 c hw => by
    obtain ⟨p, xs, rfl, sp, rp⟩ := (hv.ex c).tupI
    obtain ⟨r, ys, rfl, sr, rr⟩ := hw.tupI
    refine ⟨p, r, xs, ys, rfl, rfl, sp, sr, by rw [rp.len, rr.len]; exact sz_of l, fun h => ?_, fun _ h => ?_, fun _ _ n hn => ?_⟩
    · subst h
      cases rp
      exact q _ _ (b.trans c) (.tup sr rr)
    · subst h
      cases rr
      rw [List.append_nil] at q
      exact q _ _ (b.trans c) (.tup sp rp)
    · exact q _ _ ((b.trans c).trans (Ex.new hn)) (.tup (st_of upd_same) ((rp.app rr).ex (Ex.new hn)))
theorem ed_ix {i : Nat} (h : EvD K ta σ H (.tup ds)) (hb : ∀ H1, Ex H H1 → Ev tb σ H1 (.int (i : Int))) (hi : ds[i]? = some d) : EvD K (tOp (rIxT K) ta tb) σ H d := fun H1 a Q q =>
  h H1 a _ fun v H2 b hv => hb H2 (a.trans b) H2 (Ex.refl _) _ fun H3 c => by
    obtain ⟨p, xs, rfl, sp, rp⟩ := (hv.ex c).tupI
    have hlt : i < ds.length := by
      rcases Nat.lt_or_ge i ds.length with h | h
      · exact h
      · rw [List.getElem?_eq_none h] at hi
        cases hi
    have hxl : i < xs.length := by
      rw [rp.len]
      exact hlt
    have hx : xs[i]? = some xs[i] := List.getElem?_eq_getElem hxl
    obtain ⟨d', hd', hr'⟩ := RpAll.get _ _ _ _ rp hx
    rw [hi] at hd'
    cases hd'
    refine ⟨p, xs, (i : Int), xs[i], rfl, rfl, sp, ?_, q _ _ (b.trans c) hr'⟩
    unfold atI
    rw [ixN_nat (by rw [rp.len]; exact hlt)]
    exact hx
theorem d_call {sp : Sp} {E : XK} {Q : VK} (h : EvDA K tr σ H ds) (k : ∀ vs H1, Ex H H1 → RpAll K H1 vs ds → sp vs H1 Q E) : tCall sp [] E tr σ H Q := h H (Ex.refl H) _ fun vs H1 a r => by
  show sp (vs ++ []) H1 Q E
  rw [List.append_nil]
  exact k vs H1 a r
theorem d_ret {D : Ends} (h : EvD K te σ H d) (k : ∀ v H1, Ex H H1 → Rp K H1 v d → D.rt v H1) : tRet te D σ H := h H (Ex.refl H) _ k
/-- a method without arguments that gives data -/
theorem ed_meth0 {C a dx : Addr} {fs : List (Str × V)} {m : Str} {sp : Sp} {E : XK} (h : Ev ta σ H (.ref a)) (ha : H a = some (.ins C dx fs)) (l : fs.lookup m = none) (k : ∀ H1, Ex H H1 → ∀ Q : VK, RetR K d H1 Q → sp [.ref a] H1 Q E) :
    EvD K (tMeth C m sp [] E ta tNil) σ H d := fun H1 a1 Q q => h H1 a1 _ fun H2 b => ⟨a, dx, fs, rfl, (a1.trans b) _ _ ha, l, k H2 (a1.trans b) Q fun v H3 c hv => q v H3 (b.trans c) hv⟩
theorem ed_call {sp : Sp} {E : XK} (h : EvDA K tr σ H ds) (k : ∀ vs H1, Ex H H1 → RpAll K H1 vs ds → ∀ Q : VK, RetR K d H1 Q → sp vs H1 Q E) : EvD K (tCall sp [] E tr) σ H d := fun H1 a Q q => h H1 a _ fun vs H2 b r => by
  show sp (vs ++ []) H2 Q E
  rw [List.append_nil]
  exact k vs H2 (a.trans b) r Q fun v H3 c hv => q v H3 (b.trans c) hv
theorem rv_eqD (hx : Rp K H x d) (hy : Rp K H y e) {n : Nat} (fd : d.fine n = true) (fe : e.fine n = true) (hn : n ≤ 64) : RV (rEqD K) x y H (.bl (PyData.eqv d.py e.py)) := fun H1 a Q q =>
  ⟨d.py, e.py, (hx.ex a).dp (fine_c fd), (hy.ex a).dp (fine_c fe), shaped_of fd hn, shaped_of fe hn, q H1 (Ex.refl _)⟩
theorem rv_neD (hx : Rp K H x d) (hy : Rp K H y e) {n : Nat} (fd : d.fine n = true) (fe : e.fine n = true) (hn : n ≤ 64) : RV (rNeD K) x y H (.bl (!PyData.eqv d.py e.py)) := fun H1 a Q q =>
  ⟨d.py, e.py, (hx.ex a).dp (fine_c fd), (hy.ex a).dp (fine_c fe), shaped_of fd hn, shaped_of fe hn, q H1 (Ex.refl _)⟩
/-- compared as data -/
theorem ev_neD (h1 : EvD K ta σ H d) (h2 : EvD K tb σ H e) {n : Nat} (fd : d.fine n = true) (fe : e.fine n = true) (hn : n ≤ 64) : Ev (tOp (rNeD K) ta tb) σ H (.bl (!PyData.eqv d.py e.py)) := fun H1 a Q q =>
  h1 H1 a _ fun v H2 b hv => h2 H2 (a.trans b) _ fun w H3 c hw => rv_neD (hv.ex c) hw fd fe hn H3 (Ex.refl _) Q fun H4 g => q H4 ((b.trans c).trans g)
theorem ev_eqD (h1 : EvD K ta σ H d) (h2 : EvD K tb σ H e) {n : Nat} (fd : d.fine n = true) (fe : e.fine n = true) (hn : n ≤ 64) : Ev (tOp (rEqD K) ta tb) σ H (.bl (PyData.eqv d.py e.py)) := fun H1 a Q q =>
  h1 H1 a _ fun v H2 b hv => h2 H2 (a.trans b) _ fun w H3 c hw => rv_eqD (hv.ex c) hw fd fe hn H3 (Ex.refl _) Q fun H4 g => q H4 ((b.trans c).trans g)
theorem Rp.tupR {a : Addr} (h : Rp K H (.ref a) (.tup ds)) : ∃ xs, SqT K H a xs ∧ RpAll K H xs ds := by
  cases h with
  | tup h r => exact ⟨_, h, r⟩
/-! ### f-strings -/
def EvJ (ts : List TE) (acc : Str) (σ : L2.St) (H : Hp) (out : Str) : Prop := ∀ H1, Ex H H1 → ∀ Q : Str → Hp → Prop, (∀ H2, Ex H1 H2 → Q out H2) → tJs ts acc σ H1 Q
theorem ej_nil {acc : Str} : EvJ [] acc σ H acc := fun H1 _ Q q => q H1 (Ex.refl _)
theorem ej_cons {t : TE} {ts : List TE} {acc s out : Str} (h : Ev t σ H (.str s)) (l : (acc ++ s).length ≤ 100000) (r : EvJ ts (acc ++ s) σ H out) : EvJ (t :: ts) acc σ H out := fun H1 a Q q =>
  h H1 a _ fun H2 b => ⟨s, rfl, sz_of l, r H2 (a.trans b) Q fun H3 c => q H3 (b.trans c)⟩
theorem ev_js {ts : List TE} {out : Str} (h : EvJ ts Str.empty σ H out) : Ev (fun σ H Q => tJs ts Str.empty σ H fun out H1 => Q (.str out) H1) σ H (.str out) := fun H1 a Q q => h H1 a _ fun H2 b => q H2 b
theorem ev_fmt {i : Int} (h : Ev te σ H (.int i)) (l : i.natAbs.log2 < 1920) : Ev (tFmt te) σ H (.str (toString i)) := fun H1 a Q q => h H1 a _ fun H2 b => .inr ⟨i, rfl, l, q H2 b⟩
end
/-- the text of a small number -/
def tos (n : Nat) : Str := toString (n : Int)
theorem tos_len {n : Nat} (h : n ≤ 400) : (tos n).length ≤ 8 := by
  have z : ∀ i : Fin 401, (tos i.val).length ≤ 8 := by decide +kernel
  exact z ⟨n, by omega⟩
theorem log_small {n : Nat} (h : n ≤ 400) : (n : Int).natAbs.log2 < 1920 := by
  have z : ∀ i : Fin 401, (i.val : Int).natAbs.log2 < 1920 := by decide +kernel
  exact z ⟨n, by omega⟩
theorem app_len (a b : Str) : (a ++ b).length = a.length + b.length := by
  show (a.cps ++ b.cps).size = _
  rw [Array.size_append]
  rfl
theorem numB_small {n : Nat} (h : n ≤ 1000) : numB (n : Int) = true := by
  unfold numB big
  rw [decide_eq_true (by omega), decide_eq_true (by omega)]
  rfl
theorem within_ok {n : Nat} {lo hi : Int} (h : n ≤ 1000) (h1 : lo ≤ (n : Int)) (h2 : (n : Int) ≤ hi) : (D.int (n : Int)).within lo hi = true := by
  show (numB (n : Int) && (decide (lo ≤ (n : Int)) && decide ((n : Int) ≤ hi))) = true
  rw [numB_small h, decide_eq_true h1, decide_eq_true h2]
  rfl
end K0

namespace K0
open PySem L2 Evl
theorem ix_tupK {X : Cx} {K : PySem.W.Frag} (h : X.K = K) : IxR X (rIxT K) := h ▸ ix_tup
theorem pe_fldK {X : Cx} {K : PySem.W.Frag} {e : Expr} {f : Str} {pos : Pos} {ta : TE} (he : PE X e ta) (hb : attributeBase e f X.env (eval e X.env) = eval e X.env) (h : X.K = K) : PE X (.Attribute e f pos) (tFld K ta f) := h ▸ pe_fld he hb
section
variable {K : PySem.W.Frag} {A : Ad}
theorem d_raw {σ : L2.St} {H : Hp} {tr : TA} {sp : Sp} {E : XK} {Q : VK} (h : tr σ H fun vs H1 => sp vs H1 Q E) : tCall sp [] E tr σ H Q := by
  have e : (fun (vs : List V) H1 => sp (vs ++ []) H1 Q E) = fun vs H1 => sp vs H1 Q E := by
    funext vs H1
    rw [List.append_nil]
  show tr σ H fun vs H1 => sp (vs ++ []) H1 Q E
  rw [e]
  exact h
theorem gd_some {α : Type} {l : List α} {i : Nat} {x y : α} (h : l[i]? = some x) : l.getD i y = x := by
  rw [List.getD_eq_getElem?_getD, h]
  rfl
theorem getD_mem {α : Type} {l : List α} {i : Nat} {x : α} (h : i < l.length) : l.getD i x ∈ l := by
  rw [List.getD_eq_getElem?_getD, List.getElem?_eq_getElem h]
  exact List.getElem_mem h
theorem rp_maps {H : Hp} {α : Type} {v : α → V} {f : α → K0.D} : ∀ (l : List α), (∀ i ∈ l, Rp K H (v i) (f i)) → RpAll K H (l.map v) (l.map f)
  | [], _ => .nil
  | a :: l, h => .cons (h a (List.mem_cons_self ..)) (rp_maps l fun i hi => h i (List.mem_cons_of_mem _ hi))
theorem map_rangeD {α β : Type} (g : α → β) (x : α) : ∀ l : List α, (List.range l.length).map (fun i => g (l.getD i x)) = l.map g
  | [] => rfl
  | a :: l => by
    rw [List.length_cons, List.range_succ_eq_map, List.map_cons, List.map_cons, List.map_map, ← map_rangeD g x l]
    rfl
end
/-! ### all but lists stays -/
def ExT (H H' : Hp) : Prop := ∀ b u, H b = some u → (∀ xs, u ≠ HO.lst xs) → H' b = some u
section
variable {K : PySem.W.Frag} {H H' : Hp}
theorem ExT.of (e : Ex H H') : ExT H H' := fun b u h _ => e b u h
theorem ExT.trans {H'' : Hp} (a : ExT H H') (b : ExT H' H'') : ExT H H'' := fun c u h n => b c u (a c u h n) n
theorem ExT.sqT {a : Addr} {xs : List V} (e : ExT H H') (h : SqT K H a xs) : SqT K H' a xs := by
  rcases h with (h | ⟨o, h⟩) | h
  · exact .inl (.inl (e _ _ h fun _ z => by cases z))
  · exact .inl (.inr ⟨o, e _ _ h fun _ z => by cases z⟩)
  · exact .inr h
mutual
theorem Rp.exT {v : V} {d : D} (c : d.clean = true) (e : ExT H H') : Rp K H v d → Rp K H' v d
  | .non => .non
  | .bl b => .bl b
  | .int i => .int i
  | .str s => .str s
  | .tup h r => .tup (e.sqT h) (RpAll.exT c e r)
  | .lst h => by cases c
  | .dct h => by cases c
theorem RpAll.exT {vs : List V} {ds : List D} (c : D.cleanL ds = true) (e : ExT H H') : RpAll K H vs ds → RpAll K H' vs ds
  | .nil => .nil
  | .cons h r => by
    have c' := Bool.and_eq_true_iff.mp c
    exact .cons (Rp.exT c'.1 e h) (RpAll.exT c'.2 e r)
end
/-- what is hidden is a list -/
def hidL (o : Option Addr) (H : Hp) : Prop := ∀ a, o = some a → ∃ xs, H a = some (.lst xs)
theorem exT_hid {o : Option Addr} (h : hidL o H) : ExT H (hid o H) := fun b u hb n => by
  unfold hid
  by_cases c : o = some b
  · obtain ⟨xs, hx⟩ := h b c
    rw [hb] at hx
    exact absurd (Option.some.inj hx) (n xs)
  · rw [if_neg c]
    exact hb
theorem DiceAt.hidL {a : Addr} (h : DiceAt H a) : hidL (some a) H := fun b e => by
  obtain ⟨x, y, z, h⟩ := h
  cases e
  exact ⟨_, h⟩
theorem Bt.exT {a : Addr} (h : DiceAt H a) (b : Bt a H H') : ExT H H' := ((exT_hid h.hidL).trans (ExT.of b)).trans (ExT.of hid_le)
theorem RpAll.memI : ∀ {vs : List V} {ds : List D}, RpAll K H vs ds → ∀ v ∈ vs, ∃ d ∈ ds, Rp K H v d
  | _, _, .nil, v, h => by cases h
  | _, _, .cons h r, v, hv => by
    rcases List.mem_cons.mp hv with rfl | hv
    · exact ⟨_, List.mem_cons_self .., h⟩
    · obtain ⟨d, hd, hr⟩ := RpAll.memI r v hv
      exact ⟨d, List.mem_cons_of_mem _ hd, hr⟩
end
section
variable {K : PySem.W.Frag} {σ : L2.St} {H H' : Hp} {ta tb te tn : TE} {tr : TA} {ds : List D} {d : D}
theorem l_lst {Q : VK} (h : EvDA K tr σ H ds) (l : ds.length ≤ 100000) (k : ∀ p xs H1, H p = none → Ex H H1 → H1 p = some (.lst xs) → RpAll K H1 xs ds → Q (.ref p) H1) : tLst tr σ H Q := h H (Ex.refl H) _ fun vs H1 e r =>
  ⟨by rw [r.len]; exact sz_of l, fun p hp => k p vs _ (fresh_back e hp) (e.trans (Ex.new hp)) upd_same (r.ex (Ex.new hp))⟩
/-- a new list of data -/
def EvDL (K : PySem.W.Frag) (te : TE) (σ : L2.St) (H : Hp) (ds : List D) : Prop := ∀ H1, Ex H H1 → ∀ Q : VK, (∀ p xs H2, H1 p = none → Ex H1 H2 → H2 p = some (.lst xs) → RpAll K H2 xs ds → Q (.ref p) H2) → te σ H1 Q
/-- [e for j in range(n)], each e data -/
theorem edl_range {n j : Nat} {vs : List Nat} {f : Nat → D} (hn : ∀ H1, Ex H H1 → Ev tn σ H1 (.int (n : Int))) (hz : n ≤ 1000) (hw : ∀ x, wipe ((wipe σ vs).set j (some x)) vs = wipe σ vs)
    (he : ∀ i H1, Ex H H1 → i < n → EvD K te ((wipe σ vs).set j (some (.int (i : Int)))) H1 (f i)) : EvDL K (tLc (iRng1 (tCons tn tNil)) (gName j) tYes te vs) σ H ((List.range n).map f) := fun H0 e0 Q q => by
  unfold tLc
  refine n_rng1 (n_cons (hn H0 e0 H0 (Ex.refl _) _ fun H1 e1 => ⟨(n : Int), rfl, by omega, by omega, fun Dl hD => ?_⟩))
  refine lc_range (lo := 0) (n := (n : Int).toNat) (fun i H' => i ≤ n ∧ ∃ acc, H' Dl = some (.lst acc) ∧ RpAll K H' acc ((List.range i).map f) ∧ Ex H1 H') ⟨Nat.zero_le _, [], upd_same, .nil, Ex.new hD⟩ (fun i H' hi p => ?_) (fun H' p => ?_)
  · obtain ⟨_, acc, p1, p2, p3⟩ := p
    rw [Int.toNat_natCast] at hi
    have ez : (0 : Int) + (i : Int) = (i : Int) := Int.zero_add _
    rw [ez]
    refine ⟨hw _, he i H' ((e0.trans e1).trans p3) hi H' (Ex.refl _) _ fun v H'' e2 hv => ?_⟩
    have h2 := e2 _ _ p1
    have hl : acc.length = i := by rw [p2.len, List.length_map, List.length_range]
    refine ⟨acc, h2, sz_lt (by omega), hi, acc ++ [v], upd_same, ?_, Ex.mut (p3.trans e2) hD⟩
    rw [List.range_succ, List.map_append]
    exact ((p2.ex e2).app (.cons hv .nil)).exL (ExL.upd h2)
  · obtain ⟨_, acc, p1, p2, p3⟩ := p
    rw [Int.toNat_natCast] at p2
    exact q Dl acc H' (fresh_back e1 hD) (e1.trans p3) p1 p2
theorem dpL {a : Addr} {xs : List V} (h : H a = some (.lst xs)) (r : RpAll K H xs ds) (c : D.cleanL ds = true) : Dp K H (.ref a) (.list (D.pyL ds)) := .lst (sq_of h) (r.dp c)
/-- two lists compared as data -/
theorem ev_neLL {es : List D} {n : Nat} (h1 : EvDL K ta σ H ds) (h2 : ∀ H1, Ex H H1 → ∃ b ys, Ev tb σ H1 (.ref b) ∧ H1 b = some (.lst ys) ∧ RpAll K H1 ys es) (fd : ∀ d ∈ ds, d.fine n = true) (fe : ∀ d ∈ es, d.fine n = true) (hn : n + 1 ≤ 64) :
    Ev (tOp (rNeD K) ta tb) σ H (.bl (!PyData.eqvAll (D.pyL ds) (D.pyL es))) := fun H1 a Q q =>
  h1 H1 a _ fun p xs H2 hp b hx rx => by
    obtain ⟨r, ys, ev, hy, ry⟩ := h2 H2 (a.trans b)
    refine ev H2 (Ex.refl _) _ fun H3 c => ?_
    refine ⟨.list (D.pyL ds), .list (D.pyL es), dpL (c _ _ hx) (rx.ex c) (fine_all ds fd).1, dpL (c _ _ hy) (ry.ex c) (fine_all es fe).1, shapedL_of fd hn, shapedL_of fe hn, ?_⟩
    show Q (.bl (!PyData.eqvAll (D.pyL ds) (D.pyL es))) H3
    exact q H3 (b.trans c)
/-- two lists that stand -/
theorem ev_eqLs {a b : Addr} {xs ys : List V} {es : List D} {n : Nat} (h1 : Ev ta σ H (.ref a)) (h2 : Ev tb σ H (.ref b)) (hx : H a = some (.lst xs)) (hy : H b = some (.lst ys)) (rx : RpAll K H xs ds) (ry : RpAll K H ys es) (fd : ∀ d ∈ ds, d.fine n = true) (fe : ∀ d ∈ es, d.fine n = true) (hn : n + 1 ≤ 64) :
    Ev (tOp (rEqD K) ta tb) σ H (.bl (PyData.eqvAll (D.pyL ds) (D.pyL es))) := ev_op h1 h2 fun H1 e Q q => ⟨.list (D.pyL ds), .list (D.pyL es), dpL (e _ _ hx) (rx.ex e) (fine_all ds fd).1, dpL (e _ _ hy) (ry.ex e) (fine_all es fe).1, shapedL_of fd hn, shapedL_of fe hn, q H1 (Ex.refl _)⟩
/-- tuple(xs), xs a list of data -/
theorem ed_tupOf {a : Addr} {xs : List V} (h : Ev ta σ H (.ref a)) (hx : H a = some (.lst xs)) (r : RpAll K H xs ds) : EvD K (tCB (rTupOf K) (tCons ta tNil)) σ H (.tup ds) := fun H1 e Q q =>
  eu_tupOf h (sq_of hx) H1 e Q fun p H2 hp e2 h2 => q (.ref p) H2 e2 (.tup (st_of h2) (r.ex (e.trans e2)))
/-- a property that gives data -/
theorem ed_prop {C a dx : Addr} {fs : List (Str × V)} {sp : Sp} {E : XK} (h : Ev ta σ H (.ref a)) (ha : H a = some (.ins C dx fs)) (k : ∀ H1, Ex H H1 → ∀ Q : VK, RetR K d H1 Q → sp [.ref a] H1 Q E) :
    EvD K (tProp C sp [] E ta) σ H d := fun H1 a1 Q q => h H1 a1 _ fun H2 b => ⟨a, dx, fs, rfl, (a1.trans b) _ _ ha, k H2 (a1.trans b) Q fun v H3 c hv => q v H3 (b.trans c) hv⟩
/-- a method with one argument that gives data -/
theorem ed_meth1 {C a dx : Addr} {fs : List (Str × V)} {m : Str} {sp : Sp} {E : XK} {y : V} (h : Ev ta σ H (.ref a)) (ha : H a = some (.ins C dx fs)) (l : fs.lookup m = none) (hb : ∀ H1, Ex H H1 → Ev tb σ H1 y) (k : ∀ H1, Ex H H1 → ∀ Q : VK, RetR K d H1 Q → sp [.ref a, y] H1 Q E) :
    EvD K (tMeth C m sp [] E ta (tCons tb tNil)) σ H d := fun H1 a1 Q q => h H1 a1 _ fun H2 b => ⟨a, dx, fs, rfl, (a1.trans b) _ _ ha, l, hb H2 (a1.trans b) H2 (Ex.refl _) _ fun H3 c => k H3 ((a1.trans b).trans c) Q fun v H4 g hv => q v H4 ((b.trans c).trans g) hv⟩
theorem rv_addS {a b : Str} (h : a.length + b.length ≤ 100000) : RV (fun x y H Q => ∃ i j, x = .str i ∧ y = .str j ∧ i.length + j.length ≤ sizeLine ∧ Q (.str (i ++ j)) H) (.str a) (.str b) H (.str (a ++ b)) := fun H1 _ Q q => ⟨a, b, rfl, rfl, sz_of h, q H1 (Ex.refl _)⟩
theorem rc_strI {i : Int} (h : i.natAbs.log2 < 1920) : RC (fun xs H Q => ∃ i, xs = [.int i] ∧ i.natAbs.log2 < 1920 ∧ Q (.str (toString i)) H) [.int i] H (.str (toString i)) := fun H1 _ Q q => ⟨i, rfl, h, q H1 (Ex.refl _)⟩
end
theorem range_all {α : Type} (x : α) (l : List α) {n : Nat} (h : l.length = n) : (List.range n).map (fun i => l.getD i x) = l := by
  subst h
  have := map_rangeD (fun y : α => y) x l
  rw [List.map_id''] at this
  · exact this
  · intro y
    rfl
section
variable {K : PySem.W.Frag}
theorem et_neD {σ : L2.St} {H : Hp} {ta tb : TE} {d : K0.D} {n : Nat} (h1 : EvD K ta σ H d) (h2 : EvD K tb σ H d) (fd : d.fine n = true) (hn : n ≤ 64) : EvT (tTest (tOp (rNeD K) ta tb)) σ H false := et_is (et_test (ev_neD h1 h2 fd fd hn)) (by
  rw [eqv_self d (fine_c fd)]
  rfl)
end
section
variable {σ : L2.St} {H H' : Hp} {ta tb te tx : TE} {t u : TT} {tr : TA} {Q : VK} {D : Ends} {tz : TS}
theorem q_par {i j : Nat} (h : tr σ H fun vs H1 => ∃ v w, vs = [v, w] ∧ tz D ((σ.set i (some v)).set j (some w)) H1) : tSeq (tPar i j tr) tz D σ H := h
theorem q_asgX {i : Nat} (h : te σ H fun v H1 => tz D (σ.set i (some v)) H1) : tSeq (tAsg te (gName i)) tz D σ H := h
theorem n_tup (h : tr σ H fun xs H1 => xs.length ≤ sizeLine ∧ ∀ p, H1 p = none → Q (.ref p) (upd H1 p (.tup xs))) : tTup tr σ H Q := h
theorem n_var {i : Nat} {v : V} (h : σ[i]? = some (some v)) (k : Q v H) : tVar i σ H Q := ⟨v, h, k⟩
theorem n_op {r : R2} (h : ta σ H fun x H1 => tb σ H1 fun y H2 => r x y H2 Q) : tOp r ta tb σ H Q := h
theorem n_nil {k : List V → Hp → Prop} (h : k [] H) : tNil σ H k := h
theorem n_if {b : Bool} (h : EvT t σ H b) (h1 : b = true → ∀ H1, Ex H H1 → ta σ H1 Q) (h2 : b = false → ∀ H1, Ex H H1 → tb σ H1 Q) : tIf t ta tb σ H Q := h H (Ex.refl H) _ fun H1 e => by
  cases b with
  | true => exact h1 rfl H1 e
  | false => exact h2 rfl H1 e
theorem c_meth {C p dx : Addr} {fs : List (Str × V)} {m : Str} {sp : Sp} {E : XK} {vs : List V} (h : Ev ta σ H (.ref p)) (hp : H p = some (.ins C dx fs)) (l : fs.lookup m = none) (ha : ∀ H1, Ex H H1 → EvA tr σ H1 vs) (k : ∀ H1, Ex H H1 → sp (.ref p :: vs) H1 Q E) :
    tMeth C m sp [] E ta tr σ H Q := h H (Ex.refl H) _ fun H1 e1 => ⟨p, dx, fs, rfl, e1 _ _ hp, l, ha H1 e1 H1 (Ex.refl _) _ fun H2 e2 => by
  show sp (.ref p :: (vs ++ [])) H2 Q E
  rw [List.append_nil]
  exact k H2 (e1.trans e2)⟩
theorem c_methD {K : PySem.W.Frag} {C p dx : Addr} {fs : List (Str × V)} {m : Str} {sp : Sp} {E : XK} {d : K0.D} (h : Ev ta σ H (.ref p)) (hp : H p = some (.ins C dx fs)) (l : fs.lookup m = none) (ha : ∀ H1, Ex H H1 → EvD K tb σ H1 d) (k : ∀ v H1, Ex H H1 → Rp K H1 v d → sp [.ref p, v] H1 Q E) :
    tMeth C m sp [] E ta (tCons tb tNil) σ H Q := h H (Ex.refl H) _ fun H1 e1 => ⟨p, dx, fs, rfl, e1 _ _ hp, l, ha H1 e1 H1 (Ex.refl _) _ fun v H2 e2 hv => k v H2 (e1.trans e2) hv⟩
end
theorem asc_snoc : ∀ (l : List Int) (y : Int), ascB l = true → (∀ x ∈ l, x < y) → ascB (l ++ [y]) = true
  | [], y, _, _ => rfl
  | [x], y, _, h => by
    show (decide (x < y) && ascB [y]) = true
    rw [decide_eq_true (h x (List.mem_cons_self ..))]
    rfl
  | x :: z :: r, y, h, g => by
    have h' : (decide (x < z) && ascB (z :: r)) = true := h
    have h1 := Bool.and_eq_true_iff.mp h'
    show (decide (x < z) && ascB ((z :: r) ++ [y])) = true
    rw [h1.1, asc_snoc (z :: r) y h1.2 fun w hw => g w (List.mem_cons_of_mem _ hw)]
    rfl
section
variable {K : PySem.W.Frag} {σ : L2.St} {H H' : Hp} {ta tb te tx tn : TE} {t u : TT} {tr : TA} {Q : VK} {D : Ends} {tz : TS} {g : TG}
theorem q_asgG (h : te σ H fun v H1 => g v σ H1 fun σ2 H2 => tz D σ2 H2) : tSeq (tAsg te g) tz D σ H := h
end
section
variable {K : PySem.W.Frag} {σ : L2.St} {H H' : Hp} {ta tb te tx tn : TE} {t u : TT} {tr : TA} {Q : VK} {D : Ends} {tz tu tw : TS}
theorem n_ifS (h : t σ H fun b H1 => if b = true then tu D σ H1 else tw D σ H1) : tIfS t tu tw D σ H := h
theorem n_or {Q : Bool → Hp → Prop} (h : t σ H fun b H1 => if b = true then Q true H1 else u σ H1 Q) : tOr t u σ H Q := h
theorem n_not {Q : Bool → Hp → Prop} (h : t σ H fun b H1 => Q (!b) H1) : tNot t σ H Q := h
theorem n_B {Q : Bool → Hp → Prop} (h : te σ H fun v H1 => ∃ b, v = .bl b ∧ Q b H1) : tB te σ H Q := h
theorem sq_btF {p a : Addr} {xs : List V} {H1 H2 : Hp} (hp : H p = none) (h : SqL K H a xs) (e : Ex H H1) (b : Bt p H1 H2) : SqL K H2 a xs := by
  rcases h with (h | ⟨o, h⟩) | h
  · exact .inl (.inl (b.at (ne_of_none h hp) (e _ _ h)))
  · exact .inl (.inr ⟨o, b.at (ne_of_none h hp) (e _ _ h)⟩)
  · exact .inr h
theorem ev_neVL {a : Addr} {xs : List V} {ds es : List K0.D} {n : Nat} (h1 : Ev ta σ H (.ref a)) (hx : H a = some (.lst xs)) (rx : RpAll K H xs ds) (h2 : EvDA K tr σ H es) (l : es.length ≤ 1000) (fd : ∀ d ∈ ds, d.fine n = true) (fe : ∀ d ∈ es, d.fine n = true) (hn : n + 1 ≤ 64) :
    Ev (tOp (rNeD K) ta (tLst tr)) σ H (.bl (!PyData.eqvAll (K0.D.pyL ds) (K0.D.pyL es))) := fun H1 e Q q =>
  h1 H1 e _ fun H2 e2 => h2 H2 (e.trans e2) _ fun vs H3 e3 r => ⟨by rw [r.len]; exact sz_of (by omega), fun p hp => by
    have e4 := (e.trans e2).trans e3
    refine ⟨.list (K0.D.pyL ds), .list (K0.D.pyL es), dpL ((e4.trans (Ex.new hp)) _ _ hx) (rx.ex (e4.trans (Ex.new hp))) (fine_all ds fd).1, dpL upd_same (r.ex (Ex.new hp)) (fine_all es fe).1, shapedL_of fd hn, shapedL_of fe hn, ?_⟩
    exact q _ ((e2.trans e3).trans (Ex.new hp))⟩
end
section
variable {l : Addr} {H : Hp}
theorem ExT.upd {xs ys : List V} (h : H l = some (.lst xs)) : ExT H (L2.upd H l (.lst ys)) := fun b u hb n => by
  by_cases c : b = l
  · subst c
    rw [h] at hb
    exact absurd (Option.some.inj hb).symm (n xs)
  · rw [upd_ne c]
    exact hb
end
end K0

namespace K0
open PySem PySem.Spec PyProof.Rows L2 Evl
/-! ### own exceptions with a field; repr of None and of numbers -/
/-- what is raised: an exception of the class at C whose one field is f = v -/
def RaF (C : Addr) (f : Str) (v : V) (H : Hp) (E : XK) : Prop := ∀ dd H', Ex H H' → H' dd = some (.xd [(f, v)]) → E (.ref C) (some dd) H'
theorem RaF.ex {C : Addr} {f : Str} {v : V} {H H' : Hp} {E : XK} (e : Ex H H') (h : RaF C f v H E) : RaF C f v H' E := fun dd H2 e2 => h dd H2 (e.trans e2)
/-- the promise of an __init__ that keeps one field -/
def spXI (C : Addr) (f : Str) : Sp := fun vs H Q _ => ∃ a x, vs = [.ref a, x] ∧ H a = some (exo a C none) ∧ ∀ dx, H dx = none → dx ≠ a → Q .non (upd (upd H dx (exd dx [(f, x)])) a (exo a C (some dx)))
section
variable {C : Addr} {f : Str} {ta : TE} {σ : L2.St} {H : Hp} {Q : XK} {v : V}
theorem n_mkO (h : Ev ta σ H v) (k : ∀ H1, Ex H H1 → ∀ dd H2, Ex H1 H2 → H2 dd = some (.xd [(f, v)]) → Q (.ref C) (some dd) H2) : tMkO C (spXI C f) [] (tCons ta tNil) σ H Q :=
  h H (Ex.refl H) _ fun H1 e1 => ⟨by simp, fun a ha => ⟨a, v, rfl, upd_same, fun dx hx ne => ⟨rfl, dx, [(f, v)], upd_same, by rw [upd_ne ne]; exact upd_same, (by rw [upd_ne ne] at hx; exact hx), k H1 e1 dx _ (fun b o hb => by
    have nb : b ≠ a := ne_of_none hb ha
    have hx' : H1 dx = none := by rw [upd_ne ne] at hx; exact hx
    have nd : b ≠ dx := ne_of_none hb hx'
    rw [upd_ne nd, del_ne nb, upd_ne nb, upd_ne nd, upd_ne nb]
    exact hb) upd_same⟩⟩⟩
theorem s_raiseO {D : Ends} {W : WX} (h : Ev ta σ H v) (k : ∀ dd H2, Ex H H2 → H2 dd = some (.xd [(f, v)]) → W (.ref C) (some dd) σ H2) : (fun (_ : Ends) (σ : L2.St) (H : Hp) => tMkO C (spXI C f) [] (tCons ta tNil) σ H fun cls d H' => W cls d σ H') D σ H :=
  n_mkO h fun H1 e1 dd H2 e2 h2 => k dd H2 (e1.trans e2) h2
end
section
variable {X : Cx}
def rReprI : List V → Hp → VK → Prop := fun xs H Q => (xs = [.non] ∧ Q (.str "None") H) ∨ ∃ i, xs = [.int i] ∧ i.natAbs.log2 < 1920 ∧ Q (.str (toString i)) H
theorem cr_reprI : CallR X (.builtin "repr") rReprI := by
  intro pins s σ H xs us Q I r h
  rcases h with ⟨rfl, q⟩ | ⟨i, rfl, hz, q⟩
  · obtain ⟨u, rfl, rx⟩ := vals1 r
    cases rx
    exact PySem.P.repr_of_none ⟨.str "None", H, I.tok _, ⟨_, rfl⟩, q⟩
  · obtain ⟨u, rfl, t, rfl⟩ := vals1 r
    exact PySem.P.repr_of_int hz ⟨.str _, H, I.tok _, ⟨_, rfl⟩, q⟩
end
end K0

namespace K0
open PySem L2 Evl
section
variable {K : PySem.W.Frag} {H H' : Hp} {l : Addr}
mutual
/-- clean data stays where tuples stay -/
theorem Rp.byT {v : V} {d : D} (c : d.clean = true) (h : ∀ a xs, SqT K H a xs → SqT K H' a xs) : Rp K H v d → Rp K H' v d
  | .non => .non
  | .bl b => .bl b
  | .int i => .int i
  | .str s => .str s
  | .tup g r => .tup (h _ _ g) (RpAll.byT c h r)
  | .lst g => by cases c
  | .dct g => by cases c
theorem RpAll.byT {vs : List V} {ds : List D} (c : D.cleanL ds = true) (h : ∀ a xs, SqT K H a xs → SqT K H' a xs) : RpAll K H vs ds → RpAll K H' vs ds
  | .nil => .nil
  | .cons g r => by
    have c' := Bool.and_eq_true_iff.mp c
    exact .cons (Rp.byT c'.1 h g) (RpAll.byT c'.2 h r)
end
theorem sqT_lst {b : Addr} {xs ys zs : List V} (hl : H l = some (.lst xs)) (h : SqT K H b zs) : SqT K (L2.upd H l (.lst ys)) b zs := by
  have ne : ∀ {b : Addr} {o : HO}, H b = some o → (∀ zs, o ≠ .lst zs) → b ≠ l := fun g n z => by
    rw [z, hl] at g
    exact n _ (Option.some.inj g).symm
  rcases h with (h | ⟨o, h⟩) | h
  · exact .inl (.inl (by rw [upd_ne (ne h fun zs z => by cases z)]; exact h))
  · exact .inl (.inr ⟨o, by rw [upd_ne (ne h fun zs z => by cases z)]; exact h⟩)
  · exact .inr h
end
end K0

namespace K0
open PySem L2 Evl
/-! ### reading a text: what is found (mathematics) -/
def inS (z : Str) (c : Nat) : Bool := decide (c ∈ z.cps.toList)
abbrev digits10 : Str := "0123456789"
abbrev digits9 : Str := "123456789"
def runTo (p : Nat → Bool) : Nat → List Nat → Nat
  | 0, _ => 0
  | _, [] => 0
  | m + 1, c :: r => if p c then 1 + runTo p m r else 0
def stp (p : Nat → Bool) (l : List Nat) (s M e : Nat) : Bool := match l[e]? with
  | some c => p c && decide (e - s < M)
  | none => false
def chS : Option Nat → Str
  | some c => ⟨#[c]⟩ | none => ⟨#[]⟩
def midS (l : List Nat) (a b : Nat) : List Nat := (l.drop a).take (b - a)
abbrev RdR := Except Nat (K0.D × Nat)
def rdS (l : List Nat) (s : Nat) : RdR :=
  let e := s + runTo (inS signs37) 3000 (l.drop s)
  if l[e]? = some 39 then .ok (.str ⟨(midS l s e).toArray⟩, e + 1) else .error e
def rdNe (l : List Nat) (s c : Nat) : Nat := if c = 48 then s + 1 else s + 1 + runTo (inS digits10) 59 (l.drop (s + 1))
def rdN (l : List Nat) (f : Str) (s : Nat) : Except Nat (Nat × Nat) := match l[s]? with
  | none => .error s
  | some c => if inS f c then .ok (PySem.NumText.digitsVal (midS l s (rdNe l s c)), rdNe l s c) else .error s
def rdI (g : Nat → Int) : Except Nat (Nat × Nat) → RdR
  | .ok (n, e) => .ok (.int (g n), e)
  | .error e => .error e
def rdLoop (rv : Nat → RdR) (l : List Nat) : Nat → Nat → List K0.D → RdR
  | 0, e, _ => .error e
  | f + 1, e, acc => match rv e with
    | .error x => .error x
    | .ok (d, e') => if l[e']? = some 44 then rdLoop rv l f (e' + 1) (acc ++ [d]) else if l[e']? = some 41 then .ok (.tup (acc ++ [d]), e' + 1) else .error e'
def rdTup (rv : Nat → RdR) (l : List Nat) (s : Nat) : RdR := if l[s]? = some 41 then .ok (.tup [], s + 1) else rdLoop rv l (l.length + 2) s []
def rdOther (l : List Nat) (s : Nat) : RdR :=
  if l[s]? = some 45 then rdI (fun n => -(n : Int)) (rdN l digits9 (s + 1)) else rdI (fun n => (n : Int)) (rdN l digits10 s)
def rdV (l : List Nat) : Nat → Nat → RdR
  | 0, s => if l[s]? = some 46 then .ok (.non, s + 1) else if l[s]? = some 39 then rdS l (s + 1) else rdOther l s
  | m + 1, s => if l[s]? = some 46 then .ok (.non, s + 1) else if l[s]? = some 39 then rdS l (s + 1) else if l[s]? = some 40 then rdTup (rdV l m) l (s + 1) else rdOther l s
/-- the whole text -/
def rdAll (l : List Nat) : Except Nat K0.D := match rdV l 12 0 with
  | .error e => .error e
  | .ok (d, e) => if e < l.length then .error e else .ok d
section
variable {p : Nat → Bool} {l : List Nat} {s M e m c : Nat}
theorem get_lt (h : l[e]? = some c) : e < l.length := (List.getElem?_eq_some_iff.mp h).1
theorem drop_cons (h : l[e]? = some c) : l.drop e = c :: l.drop (e + 1) := by
  obtain ⟨h1, h2⟩ := List.getElem?_eq_some_iff.mp h
  rw [← h2]
  exact List.drop_eq_getElem_cons h1
theorem runTo_le : ∀ (m : Nat) (r : List Nat), runTo p m r ≤ r.length ∧ runTo p m r ≤ m
  | 0, r => by cases r <;> exact ⟨Nat.zero_le _, Nat.le_refl _⟩
  | m + 1, [] => ⟨Nat.le_refl _, Nat.zero_le _⟩
  | m + 1, c :: r => by
    have ih := runTo_le m r
    unfold runTo
    split
    · rw [List.length_cons]
      omega
    · exact ⟨Nat.zero_le _, Nat.zero_le _⟩
theorem run_all : ∀ (m : Nat) (r : List Nat), (r.take (runTo p m r)).all p = true
  | 0, r => by cases r <;> rfl
  | m + 1, [] => rfl
  | m + 1, c :: r => by
    unfold runTo
    split
    · rename_i h
      rw [Nat.add_comm 1, List.take_succ_cons, List.all_cons, h, run_all m r]
      rfl
    · rfl
theorem run_yes (h : stp p l s M e = true) (hs : s ≤ e) : runTo p (M - (e - s)) (l.drop e) = 1 + runTo p (M - (e + 1 - s)) (l.drop (e + 1)) ∧ e < l.length := by
  unfold stp at h
  cases hc : l[e]? with
  | none => rw [hc] at h; cases h
  | some c =>
    rw [hc] at h
    have h2 := Bool.and_eq_true_iff.mp h
    have h3 := of_decide_eq_true h2.2
    refine ⟨?_, get_lt hc⟩
    rw [drop_cons hc, show M - (e - s) = (M - (e + 1 - s)) + 1 by omega]
    show (if p c then _ else _) = _
    rw [if_pos h2.1]
theorem run_no (h : stp p l s M e = false) : runTo p (M - (e - s)) (l.drop e) = 0 := by
  unfold stp at h
  cases hc : l[e]? with
  | none =>
    have : l.drop e = [] := List.drop_eq_nil_of_le (List.getElem?_eq_none_iff.mp hc)
    rw [this]
    cases M - (e - s) <;> rfl
  | some c =>
    rw [hc] at h
    rw [drop_cons hc]
    cases hm : M - (e - s) with
    | zero => rfl
    | succ k =>
      have h3 : decide (e - s < M) = true := decide_eq_true (by omega)
      have h4 : (p c && decide (e - s < M)) = false := h
      rw [h3, Bool.and_true] at h4
      show (if p c then _ else _) = 0
      rw [if_neg (by rw [h4]; decide)]
theorem rdNe_le (h : l[s]? = some c) : s < rdNe l s c ∧ rdNe l s c ≤ l.length ∧ rdNe l s c ≤ s + 60 := by
  have h1 := get_lt h
  have h2 := runTo_le (p := inS digits10) 59 (l.drop (s + 1))
  rw [List.length_drop] at h2
  unfold rdNe
  split <;> omega
theorem rdN_lt {f : Str} {n e : Nat} (h : rdN l f s = .ok (n, e)) : s < e ∧ e ≤ l.length := by
  unfold rdN at h
  split at h
  · cases h
  · rename_i c hc
    split at h
    · cases h
      exact ⟨(rdNe_le hc).1, (rdNe_le hc).2.1⟩
    · cases h
theorem rdS_lt {d : K0.D} {e : Nat} (h : rdS l s = .ok (d, e)) : s < e ∧ e ≤ l.length := by
  unfold rdS at h
  simp only at h
  split at h
  · rename_i hc
    cases h
    have := get_lt hc
    omega
  · cases h
theorem rdI_ok {g : Nat → Int} {r : Except Nat (Nat × Nat)} {d : K0.D} {e : Nat} (h : rdI g r = .ok (d, e)) : ∃ n, r = .ok (n, e) ∧ d = .int (g n) := by
  cases r with
  | error x => cases h
  | ok q =>
    obtain ⟨n, e'⟩ := q
    cases h
    exact ⟨n, rfl, rfl⟩
theorem rdOther_lt {d : K0.D} {e : Nat} (h : rdOther l s = .ok (d, e)) : s < e ∧ e ≤ l.length ∧ d.clean = true := by
  unfold rdOther at h
  split at h
  · obtain ⟨n, h1, rfl⟩ := rdI_ok h
    have := rdN_lt h1
    exact ⟨by omega, this.2, rfl⟩
  · obtain ⟨n, h1, rfl⟩ := rdI_ok h
    have := rdN_lt h1
    exact ⟨this.1, this.2, rfl⟩
def RvOk (rv : Nat → RdR) (l : List Nat) : Prop := ∀ s d e, rv s = .ok (d, e) → s < e ∧ e ≤ l.length ∧ d.clean = true
theorem cleanL_snoc {acc : List K0.D} {d : K0.D} (h : K0.D.cleanL acc = true) (hd : d.clean = true) : K0.D.cleanL (acc ++ [d]) = true := by
  induction acc with
  | nil => simp [K0.D.cleanL, hd]
  | cons a r ih =>
    have h' := Bool.and_eq_true_iff.mp h
    simp [K0.D.cleanL, h'.1, ih h'.2]
theorem rdLoop_ok {rv : Nat → RdR} (hv : RvOk rv l) : ∀ (f e : Nat) (acc : List K0.D) (d : K0.D) (e2 : Nat), K0.D.cleanL acc = true → rdLoop rv l f e acc = .ok (d, e2) → e < e2 ∧ e2 ≤ l.length ∧ d.clean = true
  | 0, _, _, _, _, _, h => by cases h
  | f + 1, e, acc, d, e2, hc, h => by
    unfold rdLoop at h
    split at h
    · cases h
    · rename_i d1 e1 h1
      have hv1 := hv _ _ _ h1
      split at h
      · have := rdLoop_ok hv f (e1 + 1) (acc ++ [d1]) d e2 (cleanL_snoc hc hv1.2.2) h
        exact ⟨by omega, this.2⟩
      · split at h
        · rename_i h41
          cases h
          have := get_lt h41
          exact ⟨by omega, by omega, cleanL_snoc hc hv1.2.2⟩
        · cases h
theorem rdTup_ok {rv : Nat → RdR} (hv : RvOk rv l) : RvOk (rdTup rv l) l := fun s d e h => by
  unfold rdTup at h
  split at h
  · rename_i h41
    cases h
    have := get_lt h41
    exact ⟨by omega, by omega, rfl⟩
  · exact rdLoop_ok hv _ _ _ _ _ rfl h
theorem rdS_clean {d : K0.D} {e : Nat} (h : rdS l s = .ok (d, e)) : d.clean = true := by
  unfold rdS at h
  simp only at h
  split at h
  · cases h
    rfl
  · cases h
theorem rdV_ok : ∀ m, RvOk (rdV l m) l
  | 0 => fun s d e h => by
    unfold rdV at h
    split at h
    · rename_i h1
      cases h
      have := get_lt h1
      exact ⟨by omega, by omega, rfl⟩
    · split at h
      · have := rdS_lt h
        exact ⟨by omega, this.2, rdS_clean h⟩
      · exact rdOther_lt h
  | m + 1 => fun s d e h => by
    unfold rdV at h
    split at h
    · rename_i h1
      cases h
      have := get_lt h1
      exact ⟨by omega, by omega, rfl⟩
    · split at h
      · have := rdS_lt h
        exact ⟨by omega, this.2, rdS_clean h⟩
      · split at h
        · have := rdTup_ok (rdV_ok m) _ _ _ h
          exact ⟨by omega, this.2⟩
        · exact rdOther_lt h
end
/-! ### signs and slices of a text -/
theorem cut_ab (z : Str) (a b : Nat) : cutS z (some (a : Int)) (some (b : Int)) = ⟨(midS z.cps.toList a b).toArray⟩ := by
  unfold cutS midS
  have h1 : HT.sIx z.length 0 (some (a : Int)) = min a z.length := HT.sIx_nat _ _ a
  have h2 : HT.sIx z.length z.length (some (b : Int)) = min b z.length := HT.sIx_nat _ _ b
  rw [h1, h2]
  have hl : z.length = z.cps.toList.length := by simp [Str.length]
  rw [hl]
  congr 2
  by_cases ha : a ≤ z.cps.toList.length
  · rw [Nat.min_eq_left ha]
    by_cases hb : b ≤ z.cps.toList.length
    · rw [Nat.min_eq_left hb]
    · rw [Nat.min_eq_right (by omega), List.take_of_length_le (by rw [List.length_drop]; omega), List.take_of_length_le (by rw [List.length_drop]; omega)]
  · rw [show min a z.cps.toList.length = z.cps.toList.length from Nat.min_eq_right (by omega), List.drop_eq_nil_of_le (Nat.le_refl _), List.drop_eq_nil_of_le (by omega)]
    simp
theorem mid_one (l : List Nat) (a : Nat) : (⟨(midS l a (a + 1)).toArray⟩ : Str) = chS l[a]? := by
  unfold midS
  rw [Nat.add_sub_cancel_left]
  cases h : l[a]? with
  | none =>
    rw [List.drop_eq_nil_of_le (List.getElem?_eq_none_iff.mp h)]
    rfl
  | some c =>
    rw [drop_cons h]
    rfl
theorem ch_eq (o : Option Nat) (c : Nat) : decide (V.str (chS o) = V.str ⟨#[c]⟩) = decide (o = some c) := by
  cases o with
  | none =>
    rw [decide_eq_false (by intro h; cases h), decide_eq_false (by simp)]
  | some a =>
    by_cases h : a = c
    · subst h
      exact (decide_eq_true (p := V.str (chS (some a)) = V.str ⟨#[a]⟩) rfl).trans (decide_eq_true (p := some a = some a) rfl).symm
    · rw [decide_eq_false (by intro z; injection z with z; exact h (by simpa [chS] using congrArg (fun s : Str => s.cps) z)), decide_eq_false (by simpa using h)]
section
variable {K : PySem.W.Frag} {σ : L2.St} {H : Hp} {ta tb te : TE} {tl th : TO} {z w : Str} {a b e c : Nat}
theorem ev_slS (h : Ev te σ H (.str z)) (h1 : EvO tl σ H (some (a : Int))) (h2 : EvO th σ H (some (b : Int))) (hz : z.length ≤ 100000) : Ev (tSl rSlS te tl th) σ H (.str ⟨(midS z.cps.toList a b).toArray⟩) := fun H1 e Q q =>
  h H1 e _ fun H2 e2 => h1 H2 (e.trans e2) _ fun H3 e3 => h2 H3 ((e.trans e2).trans e3) _ fun H4 e4 => ⟨z, rfl, sz_of hz, by rw [cut_ab]; exact q H4 ((e2.trans e3).trans e4)⟩
theorem rv_inSg : RV (fun x y H Q => ∃ (c : Nat) (z : Str), x = .str ⟨#[c]⟩ ∧ y = .str z ∧ Q (.bl (decide (c ∈ z.cps.toList))) H) (.str ⟨#[c]⟩) (.str z) H (.bl (inS z c)) := fun H1 _ Q q => ⟨c, z, rfl, rfl, q H1 (Ex.refl _)⟩
theorem rv_niSg : RV (fun x y H Q => ∃ (c : Nat) (z : Str), x = .str ⟨#[c]⟩ ∧ y = .str z ∧ Q (.bl (!decide (c ∈ z.cps.toList))) H) (.str ⟨#[c]⟩) (.str z) H (.bl (!inS z c)) := fun H1 _ Q q => ⟨c, z, rfl, rfl, q H1 (Ex.refl _)⟩
theorem at_sg (h : z.cps.toList[e]? = some c) : atI z.cps.toList ((e : Nat) : Int) = some c := by
  unfold atI
  rw [Evl.ixN_nat (get_lt h)]
  exact h
theorem rc_lenSg (h : z.length ≤ 100000) : RC (fun xs H Q => ∃ x n, xs = [x] ∧ LenV K x H n ∧ Q (.int n) H) [.str z] H (.int ((z.cps.toList.length : Nat) : Int)) := fun H1 e Q q =>
  ⟨_, z.length, rfl, ⟨sz_of h, rfl⟩, by have := q H1 (Ex.refl _); rw [show z.cps.toList.length = z.length by simp [Str.length]] at this; exact this⟩
end
end K0

namespace K0
open PySem L2 Evl
/-! ### the defs that read -/
section
variable {K : PySem.W.Frag} {σ : L2.St} {H : Hp} {t1 t2 t3 : TT} {p : Nat → Bool} {l : List Nat} {e s M : Nat}
theorem et_run (h1 : EvT t1 σ H (decide ((e : Int) < (l.length : Int)))) (h2 : ∀ c, l[e]? = some c → EvT t2 σ H (p c)) (h3 : EvT t3 σ H (decide ((e : Int) - (s : Int) < (M : Int)))) (hs : s ≤ e) : EvT (tAnd t1 (tAnd t2 t3)) σ H (stp p l s M e) := by
  cases hc : l[e]? with
  | none =>
    have hl := List.getElem?_eq_none_iff.mp hc
    refine et_is (et_and (a := false) (b := false) (et_is h1 (decide_eq_false (by omega))) fun z => by cases z) ?_
    unfold stp
    rw [hc]
    rfl
  | some c =>
    have hl := get_lt hc
    refine et_is (et_and (a := true) (b := p c && decide ((e : Int) - (s : Int) < (M : Int))) (et_is h1 (decide_eq_true (by omega))) fun _ => et_and (h2 c hc) fun _ => h3) ?_
    unfold stp
    rw [hc]
    show (true && (p c && _)) = (p c && _)
    rw [Bool.true_and]
    congr 1
    by_cases q : e - s < M
    · rw [decide_eq_true q, decide_eq_true (by omega)]
    · rw [decide_eq_false q, decide_eq_false (by omega)]
end
def RdQ (K : PySem.W.Frag) (A : Ad) (r : RdR) (H : Hp) (Q : VK) (E : XK) : Prop := match r with
  | .ok (d, e) => RetR K (.tup [d, .int (e : Int)]) H Q
  | .error e => RaF A.EParseError "spot" (.int (e : Int)) H E
def RdNQ (K : PySem.W.Frag) (A : Ad) (r : Except Nat (Nat × Nat)) (H : Hp) (Q : VK) (E : XK) : Prop := match r with
  | .ok (n, e) => RetR K (.tup [.int (n : Int), .int (e : Int)]) H Q
  | .error e => RaF A.EParseError "spot" (.int (e : Int)) H E
theorem RdQ.ex {K : PySem.W.Frag} {A : Ad} {r : RdR} {H H' : Hp} {Q : VK} {E : XK} (e : Ex H H') (h : RdQ K A r H Q E) : RdQ K A r H' Q E := by
  cases r with
  | error x => exact RaF.ex e h
  | ok q =>
    obtain ⟨d, n⟩ := q
    exact fun v H2 e2 => h v H2 (e.trans e2)
theorem RdNQ.ex {K : PySem.W.Frag} {A : Ad} {r : Except Nat (Nat × Nat)} {H H' : Hp} {Q : VK} {E : XK} (e : Ex H H') (h : RdNQ K A r H Q E) : RdNQ K A r H' Q E := by
  cases r with
  | error x => exact RaF.ex e h
  | ok q =>
    obtain ⟨d, n⟩ := q
    exact fun v H2 e2 => h v H2 (e.trans e2)
theorem s_retR {K : PySem.W.Frag} {te : TE} {σ : L2.St} {H : Hp} {D : Ends} {d : K0.D} (h : EvD K te σ H d) (k : RetR K d H D.rt) : tRet te D σ H := h H (Ex.refl H) _ k
theorem RetR.ex {K : PySem.W.Frag} {H H' : Hp} {Q : VK} {d : K0.D} (e : Ex H H') (k : RetR K d H Q) : RetR K d H' Q := fun v H2 e2 => k v H2 (e.trans e2)
theorem Rp.pair {K : PySem.W.Frag} {H : Hp} {v : V} {d : K0.D} {e : Int} (h : Rp K H v (.tup [d, .int e])) : ∃ p x, v = .ref p ∧ SqT K H p [x, .int e] ∧ Rp K H x d := by
  cases h with
  | tup hs r =>
    cases r with
    | cons h1 r1 =>
      cases r1 with
      | cons h2 r2 =>
        cases h2
        cases r2
        exact ⟨_, _, rfl, hs, h1⟩
section
variable {P : Program} {w : World} {K : PySem.W.Frag} {mg : Str → Option Value} {base : Heap} {A : Ad} {D : Fd}
theorem ok_ParseError_init (T : Txt K mg A D) : FnOk P w K mg base CX0 1 A.ParseError_init D.ParseError_init ["self", "spot"] (spXI A.EParseError "spot") := by
  refine T.F_ParseError_init.ok sc_ParseError_init (fun vs H Q E h => by obtain ⟨a, x, rfl, _⟩ := h; rfl) (fun cdv A0 outer s H vs Q E hr h => ?_)
  refine ⟨_, (pss_one (ps_ost (pv 0) (pv 1))), ?_⟩
  obtain ⟨a, x, rfl, ha, k⟩ := h
  exact n_var rfl (n_var rfl ⟨a, A.EParseError, rfl, T.e_ParseError.o, T.n_ParseErrorspot, .inl ⟨ha, k⟩⟩)
def sp_read_string (K : PySem.W.Frag) (A : Ad) : Sp := fun vs H Q E => ∃ (z : Str) (s : Nat), vs = [.str z, .int (s : Int)] ∧ z.length ≤ 100000 ∧ RdQ K A (rdS z.cps.toList s) H Q E
theorem ok_read_string (T : Txt K mg A D) : FnOk P w K mg base (L2.CX P w) 4 A.read_string D.read_string ["text", "start"] (sp_read_string K A) := by
  have G_ParseError_init := ok_ParseError_init (P := P) (w := w) (base := base) T
  obtain ⟨t_SIGNS, c_SIGNS⟩ := T.c_SIGNS
  obtain ⟨t_MAX_STRING, c_MAX_STRING⟩ := T.c_MAX_STRING
  refine T.F_read_string.okX sc_read_string (fun vs H Q E h => by obtain ⟨z, s, rfl, _⟩ := h; rfl) (fun cdv A0 outer s H vs Q E hr h => ?_)
  refine ⟨_, (pss_cons (ps_set (i := 2) sc_read_string.nd rfl (Or.inl rfl) (pv 1))
  (pss_cons (ps_while (passes_of rfl) (PW.pt (pw_and (pt_cmpR op_lt (pv 2) (pe_callB call_len (by rfl) T.b_len (by decide +kernel) (pa_cons (pv 0) pa_nil)) (nomark _)) (pw_and (pt_cmpR op_in_sign (pe_ix ix_str (pv 0) (pv 2) (fun _ _ => rfl)) (pe_glob (v := .str "abcdefghijklmnopqrstuvwxyz0123456789 ") rfl c_SIGNS ⟨_, rfl⟩) (by rfl)) (pw_and1 (pt_cmpR op_lt (pe_op op_sub (pv 2) (pv 1)) (pe_glob (v := .int (3000)) rfl c_MAX_STRING ⟨_, rfl⟩) (nomark _)))))) (pss_one (ps_aug (i := 2) sc_read_string.nd rfl (Or.inl rfl) pe_int ip_add)))
  (pss_cons (ps_if (pt_cmpR op_ne (pe_slice sl_str (pv 0) (po_some (pv 2)) (po_some (pe_op op_add (pv 2) pe_int))) pe_str (nomark _)) (pss_one (ps_raise rfl (takes_of rfl rfl rfl rfl) (pmk_oex T.e_ParseError.o T.e_ParseError.i T.e_ParseError.t G_ParseError_init (hr.mono (by decide)) T.b_ParseError_init .nil pass0 (by exact rfl) T.e_ParseError.g (pa_cons (pv 2) pa_nil)))) pss_nil)
  (pss_one (ps_ret (pe_tup (pa_cons (pe_slice sl_str (pv 0) (po_some (pv 1)) (po_some (pv 2))) (pa_cons (pe_op op_add (pv 2) pe_int) pa_nil)))))))), ?_⟩
  obtain ⟨z, s, rfl, hz, k⟩ := h
  refine q_asg (ev_var rfl) fun H1 e1 => ?_
  refine q_while (fun m σ' H' => ∃ e : Nat, σ' = [some (.str z), some (.int (s : Int)), some (.int (e : Int))] ∧ Ex H H' ∧ s ≤ e ∧ e + runTo (inS signs37) (3000 - (e - s)) (z.cps.toList.drop e) = s + runTo (inS signs37) 3000 (z.cps.toList.drop s) ∧ m = z.cps.toList.length - e) _
    ⟨s, rfl, e1, Nat.le_refl _, by rw [Nat.sub_self], rfl⟩ ?_
  rintro m σ' H' ⟨e, rfl, e0, hs, he, rfl⟩
  refine ⟨stp (inS signs37) z.cps.toList s 3000 e, et_run (et_test (ev_op (ev_var rfl) (ev_cb (ea_cons (ev_var rfl) ea_nil) (rc_lenSg hz)) rv_I0)) (fun c hc => et_test (ev_op (ev_op (ev_var rfl) (ev_var rfl) (rv_ixS hz (at_sg hc))) ev_c rv_inSg)) (et_test (ev_op (ev_op (ev_var rfl) (ev_var rfl) rv_I0) ev_c rv_I0)) hs, fun hb H2 e2 => ?_, fun hb H2 e2 => ?_⟩
  · obtain ⟨r1, r2⟩ := run_yes hb hs
    refine ⟨_, fun σ2 H3 zz => zz, s_aug (a := (e : Int)) (b := 1) rfl ev_c fun H3 e3 => ⟨_, ?_, e + 1, rfl, (e0.trans e2).trans e3, by omega, by omega, rfl⟩⟩
    omega
  · have r0 := run_no hb
    have hE : e = s + runTo (inS signs37) 3000 (z.cps.toList.drop s) := by omega
    have e02 := e0.trans e2
    refine q_when (b := !decide (z.cps.toList[e]? = some 39)) (et_is (et_test (ev_op (ev_slS (a := e) (b := e + 1) (ev_var rfl) (eo_some (ev_var rfl)) (eo_some (ev_op (ev_var rfl) ev_c rv_I0)) hz) ev_c (rv_ne rfl))) ?_) (fun hb3 H3 e3 => ?_) (fun hb3 H3 e3 => ?_)
    · rw [mid_one, show ("'" : Str) = ⟨#[39]⟩ by decide +kernel, ch_eq]
    · have hne : ¬ (z.cps.toList[e]? = some 39) := by simpa using hb3
      have k' := (show RdQ K A (rdS z.cps.toList s) H Q E from k)
      unfold rdS at k'
      simp only [← hE] at k'
      rw [if_neg hne] at k'
      exact s_raiseO (D := ⟨fun _ _ => True, fun _ _ => True, fun _ _ => True, fun _ _ => True⟩) (W := fun cls d _ H => E cls d H) (ev_var rfl) fun dd H4 e4 h4 => k' dd H4 ((e02.trans e3).trans e4) h4
    · have hq : z.cps.toList[e]? = some 39 := by simpa using hb3
      have k' := (show RdQ K A (rdS z.cps.toList s) H Q E from k)
      unfold rdS at k'
      simp only [← hE] at k'
      rw [if_pos hq] at k'
      exact s_retR (ed_tup (eda_cons (ed_ev (ev_slS (a := s) (b := e) (ev_var rfl) (eo_some (ev_var rfl)) (eo_some (ev_var rfl)) hz) (.str _)) (eda_cons (ed_ev (ev_op (ev_var rfl) ev_c rv_I0) (.int _)) eda_nil)) (by simp)) (RetR.ex (e02.trans e3) k')
def sp_read_digits (K : PySem.W.Frag) (A : Ad) : Sp := fun vs H Q E => ∃ (z f : Str) (s : Nat), vs = [.str z, .int (s : Int), .str f] ∧ z.length ≤ 100000 ∧ s ≤ z.cps.toList.length ∧ (∀ c, inS f c = true → inS digits10 c = true) ∧ RdNQ K A (rdN z.cps.toList f s) H Q E
theorem dig_of {c : Nat} (h : inS digits10 c = true) : (decide (48 ≤ c) && decide (c ≤ 57)) = true := by
  have h1 : c ∈ digits10.cps.toList := of_decide_eq_true h
  exact List.all_eq_true.mp (show digits10.cps.toList.all (fun c => decide (48 ≤ c) && decide (c ≤ 57)) = true by decide +kernel) c h1
theorem ok_read_digits (T : Txt K mg A D) : FnOk P w K mg base (L2.CX P w) 4 A.read_digits D.read_digits ["text", "start", "firsts"] (sp_read_digits K A) := by
  have G_ParseError_init := ok_ParseError_init (P := P) (w := w) (base := base) T
  obtain ⟨t_DIGITS, c_DIGITS⟩ := T.c_DIGITS
  obtain ⟨t_MAX_DIGITS, c_MAX_DIGITS⟩ := T.c_MAX_DIGITS
  refine T.F_read_digits.okX sc_read_digits (fun vs H Q E h => by obtain ⟨z, f, s, rfl, _⟩ := h; rfl) (fun cdv A0 outer s H vs Q E hr h => ?_)
  refine ⟨_, (pss_cons (ps_if (PW.pt (pw_or (pt_cmpR op_eq (pv 1) (pe_callB call_len (by rfl) T.b_len (by decide +kernel) (pa_cons (pv 0) pa_nil)) (nomark _)) (pw_or1 (pt_cmpR op_notIn_sign (pe_ix ix_str (pv 0) (pv 1) (fun _ _ => rfl)) (pv 2) (by rfl))))) (pss_one (ps_raise rfl (takes_of rfl rfl rfl rfl) (pmk_oex T.e_ParseError.o T.e_ParseError.i T.e_ParseError.t G_ParseError_init (hr.mono (by decide)) T.b_ParseError_init .nil pass0 (by exact rfl) T.e_ParseError.g (pa_cons (pv 1) pa_nil)))) pss_nil)
  (pss_cons (ps_set (i := 3) sc_read_digits.nd rfl (Or.inl rfl) (pe_op op_add (pv 1) pe_int))
  (pss_cons (ps_if (pt_cmpR op_ne (pe_ix ix_str (pv 0) (pv 1) (fun _ _ => rfl)) pe_str (nomark _)) (pss_one (ps_while (passes_of rfl) (PW.pt (pw_and (pt_cmpR op_lt (pv 3) (pe_callB call_len (by rfl) T.b_len (by decide +kernel) (pa_cons (pv 0) pa_nil)) (nomark _)) (pw_and (pt_cmpR op_in_sign (pe_ix ix_str (pv 0) (pv 3) (fun _ _ => rfl)) (pe_glob (v := .str "0123456789") rfl c_DIGITS ⟨_, rfl⟩) (by rfl)) (pw_and1 (pt_cmpR op_lt (pe_op op_sub (pv 3) (pv 1)) (pe_glob (v := .int (60)) rfl c_MAX_DIGITS ⟨_, rfl⟩) (nomark _)))))) (pss_one (ps_aug (i := 3) sc_read_digits.nd rfl (Or.inl rfl) pe_int ip_add)))) pss_nil)
  (pss_one (ps_ret (pe_tup (pa_cons (pe_callTy call_int_str (by rfl) T.b_int (by decide +kernel) (pa_cons (pe_slice sl_str (pv 0) (po_some (pv 1)) (po_some (pv 3))) pa_nil)) (pa_cons (pv 3) pa_nil)))))))), ?_⟩
  obtain ⟨z, f, s, rfl, hz, hs, hf, k⟩ := h
  cases hc : z.cps.toList[s]? with
  | none =>
    have hl := List.getElem?_eq_none_iff.mp hc
    unfold rdN at k
    rw [hc] at k
    refine q_when (b := true) (et_is (et_or (a := true) (b := false) (et_is (et_test (ev_op (ev_var rfl) (ev_cb (ea_cons (ev_var rfl) ea_nil) (rc_lenSg hz)) (rv_eq rfl))) (decide_eq_true (by rw [show s = z.cps.toList.length by omega]))) fun zz => by cases zz) rfl) (fun _ H3 e3 => ?_) fun zz => by cases zz
    exact s_raiseO (D := ⟨fun _ _ => True, fun _ _ => True, fun _ _ => True, fun _ _ => True⟩) (W := fun cls d _ H => E cls d H) (ev_var rfl) fun dd H4 e4 h4 => k dd H4 (e3.trans e4) h4
  | some c =>
    have hl := get_lt hc
    unfold rdN at k
    rw [hc] at k
    dsimp only at k
    refine q_when (b := !inS f c) (et_is (et_or (a := false) (b := !inS f c) (et_is (et_test (ev_op (ev_var rfl) (ev_cb (ea_cons (ev_var rfl) ea_nil) (rc_lenSg hz)) (rv_eq rfl))) (decide_eq_false (by intro q; injection q with q; omega))) fun zz => et_test (ev_op (ev_op (ev_var rfl) (ev_var rfl) (rv_ixS hz (at_sg hc))) (ev_var rfl) rv_niSg)) (Bool.false_or _)) (fun hb H3 e3 => ?_) fun hb H3 e3 => ?_
    · rw [show inS f c = false by simpa using hb, if_neg (by decide)] at k
      exact s_raiseO (D := ⟨fun _ _ => True, fun _ _ => True, fun _ _ => True, fun _ _ => True⟩) (W := fun cls d _ H => E cls d H) (ev_var rfl) fun dd H4 e4 h4 => k dd H4 (e3.trans e4) h4
    · have hin : inS f c = true := by simpa using hb
      simp only [hin] at k
      rw [if_pos trivial] at k
      refine q_asg (ev_op (ev_var rfl) ev_c rv_I0) fun H4 e4 => ?_
      have fin : ∀ (H5 : Hp), Ex H H5 → tRet (tTup (tCons (tCB (fun xs H Q => ∃ a n, xs = [.str a] ∧ PySem.intText? a = some n ∧ a.length ≤ 640 ∧ Q (.int n) H) (tCons (tSl rSlS (tVar 0) (tPart (tVar 1)) (tPart (tVar 3))) tNil)) (tCons (tVar 3) tNil)))
          { nx := fun _ H' => Q .non H', rt := Q } [some (.str z), some (.int (s : Int)), some (.str f), some (.int ((rdNe z.cps.toList s c : Nat) : Int))] H5 := fun H5 e5 => by
        have hE := rdNe_le hc
        have hm : (midS z.cps.toList s (rdNe z.cps.toList s c)).length = rdNe z.cps.toList s c - s := by
          unfold midS
          rw [List.length_take, List.length_drop]
          omega
        have hd : (midS z.cps.toList s (rdNe z.cps.toList s c)).all (fun c => decide (48 ≤ c) && decide (c ≤ 57)) = true := by
          refine List.all_eq_true.mpr fun x hx => dig_of ?_
          unfold midS at hx
          rw [drop_cons hc] at hx
          unfold rdNe at hx
          split at hx
          · rw [show s + 1 - s = 0 + 1 by omega, List.take_succ_cons, List.take_zero] at hx
            rw [List.mem_singleton.mp hx]
            exact hf c hin
          · rw [show s + 1 + runTo (inS digits10) 59 (z.cps.toList.drop (s + 1)) - s = runTo (inS digits10) 59 (z.cps.toList.drop (s + 1)) + 1 by omega, List.take_succ_cons] at hx
            rcases List.mem_cons.mp hx with rfl | hx
            · exact hf _ hin
            · exact List.all_eq_true.mp (run_all 59 _) x hx
        refine s_retR (ed_tup (eda_cons (ed_ev (ev_cb (z := .int ((PySem.NumText.digitsVal (midS z.cps.toList s (rdNe z.cps.toList s c)) : Nat) : Int)) (ea_cons (ev_slS (a := s) (b := rdNe z.cps.toList s c) (ev_var rfl) (eo_some (ev_var rfl)) (eo_some (ev_var rfl)) hz) ea_nil) fun H6 _ Q q =>
          ⟨_, _, rfl, SX.int_S hd (by intro zz; rw [zz] at hm; simp at hm; omega) (by rw [hm]; omega), by show (midS z.cps.toList s (rdNe z.cps.toList s c)).toArray.size ≤ 640; rw [List.size_toArray, hm]; omega, q H6 (Ex.refl _)⟩) (.int _)) (eda_cons (ed_ev (ev_var rfl) (.int _)) eda_nil)) (by simp)) (RetR.ex e5 k)
      refine q_when (b := !decide (c = 48)) (et_is (et_test (ev_op (ev_op (ev_var rfl) (ev_var rfl) (rv_ixS hz (at_sg hc))) ev_c (rv_ne rfl))) ?_) (fun hb5 H5 e5 => ?_) fun hb5 H5 e5 => ?_
      · rw [show ("0" : Str) = ⟨#[48]⟩ by decide +kernel, show (⟨#[c]⟩ : Str) = chS (some c) from rfl, ch_eq]
        simp
      · have hne : ¬ c = 48 := by simpa using hb5
        refine s_while (fun m σ' H' => ∃ e : Nat, σ' = [some (.str z), some (.int (s : Int)), some (.str f), some (.int (e : Int))] ∧ Ex H H' ∧ s ≤ e ∧ e + runTo (inS digits10) (60 - (e - s)) (z.cps.toList.drop e) = rdNe z.cps.toList s c ∧ m = z.cps.toList.length - e) _
          ⟨s + 1, rfl, (e3.trans e4).trans e5, by omega, by rw [show 60 - (s + 1 - s) = 59 by omega]; unfold rdNe; rw [if_neg hne], rfl⟩ ?_
        rintro m σ' H' ⟨e, rfl, e0, hse, he, rfl⟩
        refine ⟨stp (inS digits10) z.cps.toList s 60 e, et_run (et_test (ev_op (ev_var rfl) (ev_cb (ea_cons (ev_var rfl) ea_nil) (rc_lenSg hz)) rv_I0)) (fun c hc => et_test (ev_op (ev_op (ev_var rfl) (ev_var rfl) (rv_ixS hz (at_sg hc))) ev_c rv_inSg)) (et_test (ev_op (ev_op (ev_var rfl) (ev_var rfl) rv_I0) ev_c rv_I0)) hse, fun hb H2 e2 => ?_, fun hb H2 e2 => ?_⟩
        · obtain ⟨r1, r2⟩ := run_yes hb hse
          refine ⟨_, fun σ2 H3 zz => zz, s_aug (a := (e : Int)) (b := 1) rfl ev_c fun H3 e3 => ⟨_, ?_, e + 1, rfl, (e0.trans e2).trans e3, by omega, by omega, rfl⟩⟩
          omega
        · have r0 := run_no hb
          have hE : e = rdNe z.cps.toList s c := by omega
          subst hE
          exact fin H2 (e0.trans e2)
      · have hq : c = 48 := by simpa using hb5
        have hE : s + 1 = rdNe z.cps.toList s c := by unfold rdNe; rw [if_pos hq]
        have := fin H5 ((e3.trans e4).trans e5)
        rw [← hE] at this
        exact this
end
end K0

namespace K0
open PySem L2 Evl
/-! ### a value, a tuple, the whole text -/
def noFn : Sp := fun _ _ _ _ => False
section
variable {K : PySem.W.Frag} {σ : L2.St} {H : Hp} {o : Option Nat} {c i : Nat} {w : Str}
theorem et_sg (h : σ[i]? = some (some (.str (chS o)))) (hw : w = ⟨#[c]⟩) : EvT (tTest (tOp rEq (tVar i) (tC (.str w)))) σ H (decide (o = some c)) :=
  et_is (et_test (ev_op (ev_var h) ev_c (rv_eq rfl))) (by rw [hw, ch_eq])
theorem et_sgN (h : σ[i]? = some (some (.str (chS o)))) (hw : w = ⟨#[c]⟩) : EvT (tTest (tOp rNe (tVar i) (tC (.str w)))) σ H (!decide (o = some c)) :=
  et_is (et_test (ev_op (ev_var h) ev_c (rv_ne rfl))) (by rw [hw, ch_eq])
end
theorem rdV_eq (l : List Nat) (m s : Nat) : rdV l m s = if l[s]? = some 46 then .ok (.non, s + 1) else if l[s]? = some 39 then rdS l (s + 1) else if l[s]? = some 40 ∧ 0 < m then rdTup (rdV l (m - 1)) l (s + 1) else rdOther l s := by
  cases m with
  | zero =>
    rw [if_neg (show ¬ (l[s]? = some 40 ∧ 0 < 0) by simp)]
    rfl
  | succ m =>
    rw [show rdV l (m + 1) s = (if l[s]? = some 46 then (.ok (.non, s + 1) : RdR) else if l[s]? = some 39 then rdS l (s + 1) else if l[s]? = some 40 then rdTup (rdV l m) l (s + 1) else rdOther l s) from rfl]
    by_cases h : l[s]? = some 40
    · rw [if_pos h, if_pos (⟨h, by omega⟩ : l[s]? = some 40 ∧ 0 < m + 1)]
      rfl
    · rw [if_neg h, if_neg (show ¬ (l[s]? = some 40 ∧ 0 < m + 1) from fun q => h q.1)]
theorem RdQ.num {K : PySem.W.Frag} {A : Ad} {g : Nat → Int} {r : Except Nat (Nat × Nat)} {H : Hp} {Q Q2 : VK} {E : XK} (h : RdQ K A (rdI g r) H Q E) (k : ∀ n e v H', r = .ok (n, e) → Ex H H' → Rp K H' v (.tup [.int (n : Int), .int (e : Int)]) → RetR K (.tup [.int (g n), .int (e : Int)]) H' Q → Q2 v H') : RdNQ K A r H Q2 E := by
  cases r with
  | error x => exact h
  | ok q =>
    obtain ⟨n, e⟩ := q
    exact fun v H' e' hv => k n e v H' rfl e' hv (RetR.ex e' h)
section
variable {P : Program} {w : World} {K : PySem.W.Frag} {mg : Str → Option Value} {base : Heap} {A : Ad} {D : Fd}
def sp_read_value (K : PySem.W.Frag) (A : Ad) (m : Nat) : Sp := fun vs H Q E => ∃ (z : Str) (s : Nat) (n : Int), vs = [.str z, .int (s : Int), .int n] ∧ n = 12 - (m : Int) ∧ m ≤ 12 ∧ z.length ≤ 90000 ∧ s ≤ z.cps.toList.length ∧ RdQ K A (rdV z.cps.toList m s) H Q E
def sp_read_tuple (K : PySem.W.Frag) (A : Ad) (m : Nat) : Sp := fun vs H Q E => ∃ (z : Str) (s : Nat) (n : Int), vs = [.str z, .int (s : Int), .int n] ∧ n = 12 - (m : Int) ∧ m ≤ 12 ∧ z.length ≤ 90000 ∧ s ≤ z.cps.toList.length ∧ RdQ K A (rdTup (rdV z.cps.toList m) z.cps.toList s) H Q E
def LpI (K : PySem.W.Frag) (H : Hp) (z : Str) (s : Nat) (n : Int) (rv : Nat → RdR) (R : RdR) (lp : Addr) (m : Nat) (σ' : L2.St) (H' : Hp) : Prop :=
  ∃ (e f : Nat) (o : Option Nat) (acc : List K0.D) (xs : List V) (v6 : Option V), σ' = [some (.str z), some (.int (s : Int)), some (.int n), some (.ref lp), some (.int (e : Int)), some (.str (chS o)), v6] ∧ Ex H H' ∧ H lp = none ∧ H' lp = some (.lst xs) ∧ RpAll K H' xs acc ∧ K0.D.cleanL acc = true ∧ acc.length ≤ e ∧
    ((o = some 44 ∧ e ≤ z.cps.toList.length ∧ z.cps.toList.length + 2 ≤ f + e ∧ rdLoop rv z.cps.toList f e acc = R ∧ m = f + 1) ∨ (o ≠ some 44 ∧ 0 < e ∧ m = 0 ∧ R = if o = some 41 then .ok (.tup acc, e) else .error (e - 1)))
theorem ok_read_tuple {m : Nat} (T : Txt K mg A D) (G_read_value : FnOk P w K mg base (L2.CX P w) (6 + 2 * m) A.read_value D.read_value ["text", "start", "nest"] (sp_read_value K A m)) :
    FnOk P w K mg base (L2.CX P w) (7 + 2 * m) A.read_tuple D.read_tuple ["text", "start", "nest"] (sp_read_tuple K A m) := by
  have G_ParseError_init := ok_ParseError_init (P := P) (w := w) (base := base) T
  rw [show 7 + 2 * m = (6 + 2 * m) + 1 by omega]
  refine T.F_read_tuple.okX sc_read_tuple (fun vs H Q E h => by obtain ⟨z, s, n, rfl, _⟩ := h; rfl) (fun cdv A0 outer s H vs Q E hr h => ?_)
  refine ⟨_, (pss_cons (ps_if (pt_cmpR op_eq (pe_slice sl_str (pv 0) (po_some (pv 1)) (po_some (pe_op op_add (pv 1) pe_int))) pe_str (nomark _)) (pss_one (ps_ret (pe_tup (pa_cons (pe_tup pa_nil) (pa_cons (pe_op op_add (pv 1) pe_int) pa_nil))))) pss_nil)
  (pss_cons (ps_set (i := 3) sc_read_tuple.nd rfl (Or.inl rfl) (pe_lst pa_nil))
  (pss_cons (ps_set (i := 4) sc_read_tuple.nd rfl (Or.inl rfl) (pv 1))
  (pss_cons (ps_set (i := 5) sc_read_tuple.nd rfl (Or.inl rfl) pe_str)
  (pss_cons (ps_while (passes_of rfl) (pt_cmpR op_eq (pv 5) pe_str (nomark _)) (pss_cons (ps_asg (pe_call G_read_value (hr.mono (by omega)) rfl T.g_read_value T.F_read_value.kp T.b_read_value .nil (passes_call (takes_of rfl rfl rfl rfl) (fun _ _ _ _ z => z)) (pa_cons (pv 0) (pa_cons (pv 4) (pa_cons (pv 2) pa_nil)))) (pg_tup rfl (pgs_cons (pg_name (i := 6) sc_read_tuple.nd rfl (Or.inl rfl)) (pgs_cons (pg_name (i := 4) sc_read_tuple.nd rfl (Or.inl rfl)) pgs_nil))))
  (pss_cons (ps_expr (pe_bm PySem.F.plainAttrs_list PySem.F.slot_list_append PySem.F.type_list_append mt_append (pv 3) (pa_cons (pv 6) pa_nil)))
  (pss_cons (ps_set (i := 5) sc_read_tuple.nd rfl (Or.inl rfl) (pe_slice sl_str (pv 0) (po_some (pv 4)) (po_some (pe_op op_add (pv 4) pe_int))))
  (pss_one (ps_aug (i := 4) sc_read_tuple.nd rfl (Or.inl rfl) pe_int ip_add))))))
  (pss_cons (ps_if (pt_cmpR op_ne (pv 5) pe_str (nomark _)) (pss_one (ps_raise rfl (takes_of rfl rfl rfl rfl) (pmk_oex T.e_ParseError.o T.e_ParseError.i T.e_ParseError.t G_ParseError_init (hr.mono (by omega)) T.b_ParseError_init .nil pass0 (by exact rfl) T.e_ParseError.g (pa_cons (pe_op op_sub (pv 4) pe_int) pa_nil)))) pss_nil)
  (pss_one (ps_ret (pe_tup (pa_cons (pe_callTy call_tuple_of (by rfl) T.b_tuple (by decide +kernel) (pa_cons (pv 3) pa_nil)) (pa_cons (pv 4) pa_nil))))))))))), ?_⟩
  obtain ⟨z, s, n, rfl, hn, hm, hz, hs, k⟩ := h
  have hzl : z.cps.toList.length = z.length := by simp [Str.length]
  refine q_when (b := decide (z.cps.toList[s]? = some 41)) (et_is (et_test (ev_op (ev_slS (a := s) (b := s + 1) (ev_var rfl) (eo_some (ev_var rfl)) (eo_some (ev_op (ev_var rfl) ev_c rv_I0)) (by omega)) ev_c (rv_eq rfl))) (by rw [mid_one, show (")" : Str) = ⟨#[41]⟩ by decide +kernel, ch_eq])) (fun hb H1 e1 => ?_) (fun hb H1 e1 => ?_)
  · have hq := of_decide_eq_true hb
    unfold rdTup at k
    rw [if_pos hq] at k
    exact s_retR (ed_tup (eda_cons (ed_tup eda_nil (by simp)) (eda_cons (ed_ev (ev_op (ev_var rfl) ev_c rv_I0) (.int _)) eda_nil)) (by simp)) (RetR.ex e1 k)
  · have hq := of_decide_eq_false hb
    unfold rdTup at k
    rw [if_neg hq] at k
    generalize hR : rdLoop (rdV z.cps.toList m) z.cps.toList (z.cps.toList.length + 2) s [] = R at k
    refine q_asgL (el_lst ea_nil (by decide)) fun lp H2 hlp e2 h2 => ?_
    refine q_asg (ev_var rfl) fun H3 e3 => ?_
    refine q_asg ev_c fun H4 e4 => ?_
    refine q_while (LpI K H z s n (rdV z.cps.toList m) R lp) _ ⟨s, z.cps.toList.length + 2, some 44, [], [], none, by rw [show (chS (some 44)) = (("," : String) : Str) by decide +kernel]; rfl, ((e1.trans e2).trans e3).trans e4, fresh_back e1 hlp, (e3.trans e4) _ _ h2, .nil, rfl, Nat.zero_le _, .inl ⟨rfl, hs, by omega, hR, rfl⟩⟩ ?_
    rintro mm σ' H' ⟨e, f, o, acc, xs, v6, rfl, e0, hlp0, hl, hra, hca, hla, hh⟩
    refine ⟨decide (o = some 44), et_sg rfl (by decide +kernel), fun hb H5 e5 => ?_, fun hb H5 e5 => ?_⟩
    · have ho := of_decide_eq_true hb
      obtain ⟨_, he, hf, hLoop, rfl⟩ := hh.resolve_right fun q => q.1 ho
      refine ⟨fun σ2 H2 => ∃ m', m' < f + 1 ∧ LpI K H z s n (rdV z.cps.toList m) R lp m' σ2 H2, fun σ2 H2 zz => zz, ?_⟩
      obtain ⟨f, rfl⟩ : ∃ g, f = g + 1 := ⟨f - 1, by omega⟩
      refine q_asgG (c_call (ea_cons (ev_var rfl) (ea_cons (ev_var rfl) (ea_cons (ev_var rfl) ea_nil))) fun H6 e6 => ⟨z, e, n, rfl, hn, hm, hz, he, ?_⟩)
      unfold rdLoop at hLoop
      cases hv : rdV z.cps.toList m e with
      | error x =>
        rw [hv] at hLoop
        subst hLoop
        exact RaF.ex ((e0.trans e5).trans e6) k
      | ok q =>
        obtain ⟨d, e7⟩ := q
        rw [hv] at hLoop
        simp only at hLoop
        obtain ⟨hlt, hle, hcl⟩ := rdV_ok m _ _ _ hv
        intro v H7 e7' hv7
        obtain ⟨p, x, rfl, hp, hx⟩ := hv7.pair
        have hl7 : H7 lp = some (.lst xs) := (e6.trans e7') _ _ (e5 _ _ hl)
        have hr7 := hra.ex ((e5.trans e6).trans e7')
        have hlen := hra.len
        refine ⟨p, _, rfl, hp, rfl, _, _, rfl, _, _, rfl, rfl, ?_⟩
        refine q_app hl7 (ev_var rfl) (ev_var rfl) (by omega) fun H8 e8 => ?_
        have hl8 := e8 _ _ hl7
        refine q_asg (ev_is (ev_slS (a := e7) (b := e7 + 1) (ev_var rfl) (eo_some (ev_var rfl)) (eo_some (ev_op (ev_var rfl) ev_c rv_I0)) (by omega)) (by rw [mid_one])) fun H9 e9 => ?_
        refine s_aug (a := (e7 : Int)) (b := 1) rfl ev_c fun H10 e10 => ?_
        have e810 := e9.trans e10
        have hR8 : RpAll K H10 (xs ++ [x]) (acc ++ [d]) := RpAll.ex e810 (((hr7.ex e8).byT hca fun _ _ g => sqT_lst hl8 g).app (.cons ((hx.ex e8).byT hcl fun _ _ g => sqT_lst hl8 g) .nil))
        have hE : Ex H H10 := (((((e0.trans e5).trans e6).trans e7').trans e8).mut hlp0).trans e810
        refine ⟨if z.cps.toList[e7]? = some 44 then f + 1 else 0, ?_, e7 + 1, f, z.cps.toList[e7]?, acc ++ [d], xs ++ [x], _, rfl, hE, hlp0, e810 _ _ upd_same, hR8, cleanL_snoc hca hcl, by rw [List.length_append]; simp; omega, ?_⟩
        · split <;> omega
        · by_cases h44 : z.cps.toList[e7]? = some 44
          · rw [if_pos h44] at hLoop
            have := get_lt h44
            exact .inl ⟨h44, by omega, by omega, hLoop, by rw [if_pos h44]⟩
          · rw [if_neg h44] at hLoop
            exact .inr ⟨h44, by omega, by rw [if_neg h44], by rw [← hLoop]; rfl⟩
    · have ho := of_decide_eq_false hb
      obtain ⟨_, he, rfl, rfl⟩ := hh.resolve_left fun q => ho q.1
      refine q_when (et_sgN (c := 41) rfl (by decide +kernel)) (fun hb6 H6 e6 => ?_) fun hb6 H6 e6 => ?_
      · have h41 : ¬ o = some 41 := by simpa using hb6
        rw [if_neg h41] at k
        exact s_raiseO (D := ⟨fun _ _ => True, fun _ _ => True, fun _ _ => True, fun _ _ => True⟩) (W := fun cls d _ H => E cls d H) (ev_is (ev_op (ev_var rfl) ev_c rv_I0) (show V.int ((e : Int) - 1) = V.int ((e - 1 : Nat) : Int) by congr 1; omega)) fun dd H4 e4 h4 => k dd H4 (((e0.trans e5).trans e6).trans e4) h4
      · have h41 : o = some 41 := by simpa using hb6
        rw [if_pos h41] at k
        exact s_retR (ed_tup (eda_cons (ed_tupOf (ev_var rfl) ((e5.trans e6) _ _ hl) (hra.ex (e5.trans e6))) (eda_cons (ed_ev (ev_var rfl) (.int _)) eda_nil)) (by simp)) (RetR.ex ((e0.trans e5).trans e6) k)
theorem rv_core {m n : Nat} {spT : Sp} (T : Txt K mg A D) (hn : 4 ≤ n) (G_read_tuple : FnOk P w K mg base (L2.CX P w) n A.read_tuple D.read_tuple ["text", "start", "nest"] spT)
    (hT : 0 < m → ∀ vs H Q E, sp_read_tuple K A (m - 1) vs H Q E → spT vs H Q E) : FnOk P w K mg base (L2.CX P w) (n + 1) A.read_value D.read_value ["text", "start", "nest"] (sp_read_value K A m) := by
  have G_read_string := ok_read_string (P := P) (w := w) (base := base) T
  have G_read_digits := ok_read_digits (P := P) (w := w) (base := base) T
  obtain ⟨t_DIGITS, c_DIGITS⟩ := T.c_DIGITS
  obtain ⟨t_MAX_NEST, c_MAX_NEST⟩ := T.c_MAX_NEST
  refine T.F_read_value.okX sc_read_value (fun vs H Q E h => by obtain ⟨z, s, n, rfl, _⟩ := h; rfl) (fun cdv A0 outer s H vs Q E hr h => ?_)
  refine ⟨_, (pss_cons (ps_set (i := 3) sc_read_value.nd rfl (Or.inl rfl) (pe_slice sl_str (pv 0) (po_some (pv 1)) (po_some (pe_op op_add (pv 1) pe_int))))
  (pss_cons (ps_if (pt_cmpR op_eq (pv 3) pe_str (nomark _)) (pss_one (ps_ret (pe_tup (pa_cons pe_non (pa_cons (pe_op op_add (pv 1) pe_int) pa_nil))))) pss_nil)
  (pss_cons (ps_if (pt_cmpR op_eq (pv 3) pe_str (nomark _)) (pss_one (ps_ret (pe_call G_read_string (hr.mono (by omega)) rfl T.g_read_string T.F_read_string.kp T.b_read_string .nil (passes_call (takes_of rfl rfl rfl rfl) (fun _ _ _ _ z => z)) (pa_cons (pv 0) (pa_cons (pe_op op_add (pv 1) pe_int) pa_nil))))) pss_nil)
  (pss_cons (ps_if (PW.pt (pw_and (pt_cmpR op_eq (pv 3) pe_str (nomark _)) (pw_and1 (pt_cmpR op_lt (pv 2) (pe_glob (v := .int (12)) rfl c_MAX_NEST ⟨_, rfl⟩) (nomark _))))) (pss_one (ps_ret (pe_call G_read_tuple (hr.mono (by omega)) rfl T.g_read_tuple T.F_read_tuple.kp T.b_read_tuple .nil (passes_call (takes_of rfl rfl rfl rfl) (fun _ _ _ _ z => z)) (pa_cons (pv 0) (pa_cons (pe_op op_add (pv 1) pe_int) (pa_cons (pe_op op_add (pv 2) pe_int) pa_nil)))))) pss_nil)
  (pss_cons (ps_if (pt_cmpR op_eq (pv 3) pe_str (nomark _)) (pss_cons (ps_asg (pe_call G_read_digits (hr.mono (by omega)) rfl T.g_read_digits T.F_read_digits.kp T.b_read_digits .nil (passes_call (takes_of rfl rfl rfl rfl) (fun _ _ _ _ z => z)) (pa_cons (pv 0) (pa_cons (pe_op op_add (pv 1) pe_int) (pa_cons pe_str pa_nil)))) (pg_tup rfl (pgs_cons (pg_name (i := 4) sc_read_value.nd rfl (Or.inl rfl)) (pgs_cons (pg_name (i := 5) sc_read_value.nd rfl (Or.inl rfl)) pgs_nil))))
  (pss_one (ps_ret (pe_tup (pa_cons (pe_un un_neg (pv 4)) (pa_cons (pv 5) pa_nil)))))) pss_nil)
  (pss_one (ps_ret (pe_call G_read_digits (hr.mono (by omega)) rfl T.g_read_digits T.F_read_digits.kp T.b_read_digits .nil (passes_call (takes_of rfl rfl rfl rfl) (fun _ _ _ _ z => z)) (pa_cons (pv 0) (pa_cons (pv 1) (pa_cons (pe_glob (v := .str "0123456789") rfl c_DIGITS ⟨_, rfl⟩) pa_nil))))))))))), ?_⟩
  obtain ⟨z, s, n, rfl, hnn, hm, hz, hs, k⟩ := h
  have hzl : z.cps.toList.length = z.length := by simp [Str.length]
  rw [rdV_eq] at k
  refine q_asg (ev_is (ev_slS (a := s) (b := s + 1) (ev_var rfl) (eo_some (ev_var rfl)) (eo_some (ev_op (ev_var rfl) ev_c rv_I0)) (by omega)) (by rw [mid_one])) fun H1 e1 => ?_
  refine q_when (et_sg (c := 46) rfl (by decide +kernel)) (fun hb H2 e2 => ?_) (fun hb H2 e2 => ?_)
  · rw [if_pos (of_decide_eq_true hb)] at k
    exact s_retR (ed_tup (eda_cons (ed_ev ev_c .non) (eda_cons (ed_ev (ev_op (ev_var rfl) ev_c rv_I0) (.int _)) eda_nil)) (by simp)) (RetR.ex (e1.trans e2) k)
  rw [if_neg (of_decide_eq_false hb)] at k
  refine q_when (et_sg (c := 39) rfl (by decide +kernel)) (fun hb H3 e3 => ?_) (fun hb H3 e3 => ?_)
  · have hq := of_decide_eq_true hb
    rw [if_pos hq] at k
    have := get_lt hq
    exact s_retC (ea_cons (ev_var rfl) (ea_cons (ev_op (ev_var rfl) ev_c rv_I0) ea_nil)) fun H4 e4 => ⟨z, s + 1, rfl, by omega, RdQ.ex (((e1.trans e2).trans e3).trans e4) k⟩
  rw [if_neg (of_decide_eq_false hb)] at k
  have e13 := (e1.trans e2).trans e3
  refine q_when (b := decide (z.cps.toList[s]? = some 40 ∧ 0 < m)) (et_is (et_and (et_sg (c := 40) rfl (by decide +kernel)) fun _ => et_test (ev_op (ev_var rfl) ev_c rv_I0)) ?_) (fun hb H4 e4 => ?_) (fun hb H4 e4 => ?_)
  · rw [hnn, Bool.decide_and]
    congr 1
    by_cases q : 0 < m
    · rw [decide_eq_true q, decide_eq_true (by omega)]
    · rw [decide_eq_false q, decide_eq_false (by omega)]
  · have hq := of_decide_eq_true hb
    rw [if_pos hq] at k
    have := get_lt hq.1
    exact s_retC (ea_cons (ev_var rfl) (ea_cons (ev_op (ev_var rfl) ev_c rv_I0) (ea_cons (ev_op (ev_var rfl) ev_c rv_I0) ea_nil))) fun H5 e5 => hT hq.2 _ _ _ _ ⟨z, s + 1, n + 1, rfl, by omega, by omega, hz, by omega, RdQ.ex ((e13.trans e4).trans e5) k⟩
  rw [if_neg (of_decide_eq_false hb)] at k
  have e14 := e13.trans e4
  unfold rdOther at k
  refine q_when (et_sg (c := 45) rfl (by decide +kernel)) (fun hb H5 e5 => ?_) (fun hb H5 e5 => ?_)
  · have hq := of_decide_eq_true hb
    rw [if_pos hq] at k
    have := get_lt hq
    refine q_asgG (c_call (ea_cons (ev_var rfl) (ea_cons (ev_op (ev_var rfl) ev_c rv_I0) (ea_cons ev_c ea_nil))) fun H6 e6 => ⟨z, digits9, s + 1, rfl, by omega, by omega, ?_, RdQ.num (RdQ.ex ((e14.trans e5).trans e6) k) fun nn e v H7 hr e7 hv kk => ?_⟩)
    · intro c hc
      have h1 : c ∈ digits9.cps.toList := of_decide_eq_true hc
      exact List.all_eq_true.mp (show digits9.cps.toList.all (inS digits10) = true by decide +kernel) c h1
    · obtain ⟨p, x, rfl, hp, hx⟩ := hv.pair
      cases hx
      refine ⟨p, _, rfl, hp, rfl, _, _, rfl, _, _, rfl, rfl, ?_⟩
      exact s_retR (ed_tup (eda_cons (ed_ev (ev_un (ev_var rfl) ru_neg) (.int _)) (eda_cons (ed_ev (ev_var rfl) (.int _)) eda_nil)) (by simp)) kk
  · rw [if_neg (of_decide_eq_false hb)] at k
    exact s_retC (ea_cons (ev_var rfl) (ea_cons (ev_var rfl) (ea_cons ev_c ea_nil))) fun H6 e6 => ⟨z, digits10, s, rfl, by omega, by omega, fun c hc => hc, RdQ.num (RdQ.ex ((e14.trans e5).trans e6) k) fun nn e v H7 hr e7 hv kk => kk v H7 (Ex.refl _) hv⟩
theorem ok_read_value (T : Txt K mg A D) : ∀ m, FnOk P w K mg base (L2.CX P w) (6 + 2 * m) A.read_value D.read_value ["text", "start", "nest"] (sp_read_value K A m)
  | 0 => rv_core (n := 5) (spT := noFn) T (by omega) ⟨fun _ _ _ _ h => h.elim, fun _ _ _ _ _ _ _ _ _ _ _ _ _ h => h.elim⟩ fun h => by omega
  | m + 1 => by
    have := rv_core (m := m + 1) (n := 7 + 2 * m) T (by omega) (ok_read_tuple T (ok_read_value T m)) fun _ vs H Q E h => h
    rw [show 7 + 2 * m + 1 = 6 + 2 * (m + 1) by omega] at this
    exact this
def sp_read_plain (K : PySem.W.Frag) (A : Ad) : Sp := fun vs H Q E => ∃ x d, vs = [x] ∧ Rp K H x d ∧ ((d.isStr = false ∧ RaF A.EParseError "spot" .non H E) ∨ ∃ z : Str, d = .str z ∧ z.length ≤ 90000 ∧ match rdAll z.cps.toList with
  | .ok d => RetR K d H Q
  | .error e => RaF A.EParseError "spot" (.int (e : Int)) H E)
theorem ok_read_plain (T : Txt K mg A D) : FnOk P w K mg base (L2.CX P w) 40 A.read_plain D.read_plain ["text"] (sp_read_plain K A) := by
  have G_ParseError_init := ok_ParseError_init (P := P) (w := w) (base := base) T
  have G_read_value := ok_read_value (P := P) (w := w) (base := base) T 12
  refine T.F_read_plain.okX sc_read_plain (fun vs H Q E h => by obtain ⟨x, d, rfl, _⟩ := h; rfl) (fun cdv A0 outer s H vs Q E hr h => ?_)
  refine ⟨_, (pss_cons (ps_if (pt_not (pt_val (pe_callB call_isi (by rfl) T.b_isinstance (by decide +kernel) (pa_cons (pv 0) (pa_cons (pe_bltn (v := .ty "str") (u := .type "str") (by rfl) T.b_str (by decide +kernel) rfl) pa_nil))))) (pss_one (ps_raise rfl (takes_of rfl rfl rfl rfl) (pmk_oex T.e_ParseError.o T.e_ParseError.i T.e_ParseError.t G_ParseError_init (hr.mono (by decide)) T.b_ParseError_init .nil pass0 (by exact rfl) T.e_ParseError.g (pa_cons pe_non pa_nil)))) pss_nil)
  (pss_cons (ps_asg (pe_call G_read_value (hr.mono (by decide)) rfl T.g_read_value T.F_read_value.kp T.b_read_value .nil (passes_call (takes_of rfl rfl rfl rfl) (fun _ _ _ _ z => z)) (pa_cons (pv 0) (pa_cons pe_int (pa_cons pe_int pa_nil)))) (pg_tup rfl (pgs_cons (pg_name (i := 1) sc_read_plain.nd rfl (Or.inl rfl)) (pgs_cons (pg_name (i := 2) sc_read_plain.nd rfl (Or.inl rfl)) pgs_nil))))
  (pss_cons (ps_if (pt_cmpR op_lt (pv 2) (pe_callB call_len (by rfl) T.b_len (by decide +kernel) (pa_cons (pv 0) pa_nil)) (nomark _)) (pss_one (ps_raise rfl (takes_of rfl rfl rfl rfl) (pmk_oex T.e_ParseError.o T.e_ParseError.i T.e_ParseError.t G_ParseError_init (hr.mono (by decide)) T.b_ParseError_init .nil pass0 (by exact rfl) T.e_ParseError.g (pa_cons (pv 2) pa_nil)))) pss_nil)
  (pss_one (ps_ret (pv 1)))))), ?_⟩
  obtain ⟨x, d, rfl, hx, ⟨hd, k⟩ | ⟨z, rfl, hz, k⟩⟩ := h
  · refine q_when (b := true) (et_is (et_not (et_B (ev_cb (ea_cons (ev_var rfl) (ea_cons ev_c ea_nil)) (rc_str hx)))) (by rw [hd]; rfl)) (fun _ H1 e1 => ?_) fun zz => by cases zz
    exact s_raiseO (D := ⟨fun _ _ => True, fun _ _ => True, fun _ _ => True, fun _ _ => True⟩) (W := fun cls d _ H => E cls d H) ev_c fun dd H4 e4 h4 => k dd H4 (e1.trans e4) h4
  · cases hx
    refine q_when (b := false) (et_is (et_not (et_B (ev_cb (ea_cons (ev_var rfl) (ea_cons ev_c ea_nil)) (rc_str (.str z))))) rfl) (fun zz => by cases zz) fun _ H1 e1 => ?_
    refine q_asgG (c_call (ea_cons (ev_var rfl) (ea_cons ev_c (ea_cons ev_c ea_nil))) fun H2 e2 => ⟨z, 0, 0, rfl, rfl, by omega, hz, Nat.zero_le _, ?_⟩)
    unfold rdAll at k
    cases hv : rdV z.cps.toList 12 0 with
    | error e =>
      rw [hv] at k
      exact RaF.ex (e1.trans e2) k
    | ok q =>
      obtain ⟨d, e⟩ := q
      rw [hv] at k
      simp only at k
      intro v H3 e3 hv3
      obtain ⟨p, x, rfl, hp, hx⟩ := hv3.pair
      refine ⟨p, _, rfl, hp, rfl, _, _, rfl, _, _, rfl, rfl, ?_⟩
      refine q_when (b := decide ((e : Int) < (z.cps.toList.length : Int))) (et_test (ev_op (ev_var rfl) (ev_cb (ea_cons (ev_var rfl) ea_nil) (rc_lenSg (by omega))) rv_I0)) (fun hb H4 e4 => ?_) fun hb H4 e4 => ?_
      · have hb' := of_decide_eq_true hb
        rw [if_pos (by omega)] at k
        exact s_raiseO (D := ⟨fun _ _ => True, fun _ _ => True, fun _ _ => True, fun _ _ => True⟩) (W := fun cls d _ H => E cls d H) (ev_var rfl) fun dd H5 e5 h5 => k dd H5 ((((e1.trans e2).trans e3).trans e4).trans e5) h5
      · have hb' := of_decide_eq_false hb
        rw [if_neg (by omega)] at k
        exact s_retR (ed_ev (ev_var rfl) (hx.ex e4)) (RetR.ex (((e1.trans e2).trans e3).trans e4) k)
end
end K0

namespace K0
open PySem L2 Evl
/-! ### texts of plain values; what is refused -/
mutual
def textD : K0.D → Str
  | .non => "."
  | .int i => Str.ofString (toString i)
  | .str s => "'" ++ s ++ "'"
  | .tup ds => "(" ++ Txt.join "," (textDs ds) ++ ")"
  | _ => ""
def textDs : List K0.D → List Str
  | [] => []
  | d :: ds => textD d :: textDs ds
end
theorem textDs_map : ∀ ds : List K0.D, textDs ds = ds.map textD
  | [] => rfl
  | d :: ds => by rw [textDs, textDs_map ds, List.map_cons]
theorem str_app (a b : Str) : (a ++ b).length = a.length + b.length := by
  show (a.cps ++ b.cps).size = _
  rw [Array.size_append]
  rfl
theorem join_len (y : Str) : ∀ parts : List Str, (Txt.join y parts).length ≤ (parts.map (·.length)).sum + parts.length * y.length := fun parts => by
  rw [TL.join_eq]
  induction parts with
  | nil => exact Nat.zero_le _
  | cons x r ih =>
    cases r with
    | nil =>
      show x.length ≤ x.length + 0 + 1 * y.length
      omega
    | cons z r =>
      show (x ++ y ++ Str.join y (z :: r)).length ≤ _
      rw [str_app, str_app, List.map_cons, List.sum_cons, List.length_cons, Nat.succ_mul]
      omega
theorem num_len {i : Int} (h : numB i = true) : (Str.ofString (toString i)).length ≤ 61 ∧ i.natAbs.log2 < 1920 := by
  have h2 := Bool.and_eq_true_iff.mp h
  have h3 := of_decide_eq_true h2.1
  have h4 := of_decide_eq_true h2.2
  have hb : i.natAbs < 10 ^ 60 := by unfold big at h3 h4; omega
  constructor
  · rw [ofString_length]
    exact int_text_length_le10 (k := 60) (by decide) hb
  · by_cases h0 : i.natAbs = 0
    · rw [h0]; decide
    · exact (Nat.log2_lt h0).mpr (Nat.lt_of_lt_of_le hb (Nat.le_trans (Nat.pow_le_pow_left (by decide : 10 ≤ 2 ^ 4) 60) (by rw [← Nat.pow_mul]; exact Nat.pow_le_pow_right (by decide) (by decide))))
mutual
theorem text_len : ∀ (d : K0.D) (n : Nat), d.plain n = true → (textD d).length + 1 ≤ 103 * d.size
  | .non, n, _ => by show (1 : Nat) + 1 ≤ 103 * 1; omega
  | .bl b, n, h => by cases n <;> cases h
  | .int i, n, h => by
    have h1 : numB i = true := by cases n <;> exact h
    have := (num_len h1).1
    show (Str.ofString (toString i)).length + 1 ≤ 103 * 1
    omega
  | .str s, n, h => by
    show (("'" : Str) ++ s ++ ("'" : Str)).length + 1 ≤ 103 * (1 + s.length / 100)
    rw [str_app, str_app, show ("'" : Str).length = 1 from rfl]
    omega
  | .tup ds, n, h => by
    cases n with
    | zero => cases h
    | succ n =>
      have h1 := texts_len ds n h
      have h2 := join_len "," (textDs ds)
      show (("(" : Str) ++ Txt.join "," (textDs ds) ++ (")" : Str)).length + 1 ≤ 103 * (K0.D.tup ds).size
      rw [str_app, str_app, show ("(" : Str).length = 1 from rfl, show (")" : Str).length = 1 from rfl]
      rw [show ("," : Str).length = 1 from rfl, Nat.mul_one] at h2
      simp only [K0.D.size]
      omega
  | .oth, n, h => by cases n <;> cases h
theorem texts_len : ∀ (ds : List K0.D) (n : Nat), ds.all (K0.D.plain n) = true → ((textDs ds).map (·.length)).sum + (textDs ds).length ≤ 103 * K0.D.sizeL ds
  | [], _, _ => Nat.zero_le _
  | d :: ds, n, h => by
    rw [List.all_cons, Bool.and_eq_true] at h
    have h1 := text_len d n h.1
    have h2 := texts_len ds n h.2
    simp only [textDs, List.map_cons, List.sum_cons, List.length_cons, K0.D.sizeL]
    omega
end
section
variable {P : Program} {w : World} {K : PySem.W.Frag} {mg : Str → Option Value} {base : Heap} {A : Ad} {D : Fd}
def sp_text_of (K : PySem.W.Frag) (n : Nat) : Sp := fun vs H Q _ => ∃ x d, vs = [x] ∧ Rp K H x d ∧ d.size ≤ 30000 ∧ d.plain n = true ∧ RetV (.str (textD d)) H Q
theorem rv_addL {H : Hp} {a b : Str} (h : a.length + b.length ≤ 16000000) : RV (fun x y H Q => ∃ i j, x = .str i ∧ y = .str j ∧ i.length + j.length ≤ sizeLine ∧ Q (.str (i ++ j)) H) (.str a) (.str b) H (.str (a ++ b)) := fun H1 _ Q q => ⟨a, b, rfl, rfl, by rw [sizeLine_eq]; omega, q H1 (Ex.refl _)⟩
theorem text_core {n m : Nat} {spT : Sp} (T : Txt K mg A D) (G_text_of : FnOk P w K mg base CX0 n A.text_of D.text_of ["value"] spT) (hT : 0 < m → ∀ vs H Q E, sp_text_of K (m - 1) vs H Q E → spT vs H Q E) :
    FnOk P w K mg base CX0 (n + 1) A.text_of D.text_of ["value"] (sp_text_of K m) := by
  refine T.F_text_of.ok sc_text_of (fun vs H Q E h => by obtain ⟨x, d, rfl, _⟩ := h; rfl) (fun cdv A0 outer s H vs Q E hr h => ?_)
  refine ⟨_, (pss_cons (ps_if (pt_cmpR op_isN (pv 0) pe_non (nomark _)) (pss_one (ps_ret pe_str)) pss_nil)
  (pss_cons (ps_if (pt_val (pe_callB call_isi (by rfl) T.b_isinstance (by decide +kernel) (pa_cons (pv 0) (pa_cons (pe_bltn (v := .ty "int") (u := .type "int") (by rfl) T.b_int (by decide +kernel) rfl) pa_nil)))) (pss_one (ps_ret (pe_callTy call_str_int (by rfl) T.b_str (by decide +kernel) (pa_cons (pv 0) pa_nil)))) pss_nil)
  (pss_cons (ps_if (pt_val (pe_callB call_isi (by rfl) T.b_isinstance (by decide +kernel) (pa_cons (pv 0) (pa_cons (pe_bltn (v := .ty "str") (u := .type "str") (by rfl) T.b_str (by decide +kernel) rfl) pa_nil)))) (pss_one (ps_ret (pe_op op_add_str (pe_op op_add_str pe_str (pv 0)) pe_str))) pss_nil)
  (pss_one (ps_ret (pe_op op_add_str (pe_op op_add_str pe_str (pe_bm PySem.F.plainAttrs_str PySem.F.slot_str_join PySem.F.type_str_join mt_join pe_str (pa_cons (pe_lc (own := [("member", 1)]) (g := gName 1) (tt := tYes) rfl sc_text_of.nd (pi_tup (pv 0)) (blkOk_by (own := [("member", 1)]) (N := N_text_of) (sc := defScope s_text_of) (by decide +kernel)) (fun _ _ _ _ _ => by exact pg_name (i := 1) sc_text_of.nd rfl (Or.inl rfl)) (fun _ _ _ _ _ => by exact pts_nil) (fun _ _ _ _ _ => by exact (pe_call G_text_of (hr.mono (by omega)) rfl T.g_text_of T.F_text_of.kp T.b_text_of .nil pass0 (pa_cons (pv 1) pa_nil)))) pa_nil))) pe_str)))))), ?_⟩
  obtain ⟨x, d, rfl, hx, hs, hp, k⟩ := h
  refine q_when (et_test (ev_op (ev_var rfl) ev_c rv_isN)) (fun hb H1 e1 => ?_) (fun hb H1 e1 => ?_)
  · have hn := of_decide_eq_true hb
    subst hn
    cases hx
    exact s_ret ev_c fun H2 e2 => k H2 (e1.trans e2)
  have hx1 := hx.ex e1
  refine q_when (et_B (ev_cb (ea_cons (ev_var rfl) (ea_cons ev_c ea_nil)) (rc_int hx1))) (fun hb H2 e2 => ?_) (fun hb H2 e2 => ?_)
  · cases hx with
    | int i =>
      have h1 : numB i = true := by cases m <;> exact hp
      exact s_ret (ev_cb (ea_cons (ev_var rfl) ea_nil) fun H3 _ Q q => ⟨i, rfl, (num_len h1).2, q H3 (Ex.refl _)⟩) fun H3 e3 => k H3 ((e1.trans e2).trans e3)
    | bl b => cases m <;> cases hp
    | _ => cases hb
  refine q_when (et_B (ev_cb (ea_cons (ev_var rfl) (ea_cons ev_c ea_nil)) (rc_str (hx1.ex e2)))) (fun hb3 H3 e3 => ?_) (fun hb3 H3 e3 => ?_)
  · obtain ⟨z, rfl, rfl⟩ := hx.isS hb3
    have hz : 1 + z.length / 100 ≤ 30000 := hs
    exact s_ret (ev_op (ev_op ev_c (ev_var rfl) (rv_addL (by show 1 + z.length ≤ _; omega))) ev_c (rv_addL (by rw [str_app]; show 1 + z.length + 1 ≤ _; omega))) fun H4 e4 => k H4 (((e1.trans e2).trans e3).trans e4)
  · cases hx with
    | @tup a xs ds hq hr0 =>
      have e03 := (e1.trans e2).trans e3
      cases m with
      | zero => cases hp
      | succ m =>
        have hpl : ds.all (K0.D.plain m) = true := hp
        have hlen := hr0.len
        have hsl := sizeL_len ds
        have hsz : 1 + K0.D.sizeL ds ≤ 30000 := by have := hs; simp only [K0.D.size] at this; exact this
        have hL := texts_len ds m hpl
        have hJ := join_len "," (textDs ds)
        rw [show ("," : Str).length = 1 from rfl, Nat.mul_one] at hJ
        have hl : EvL (tLc (iTup K (tVar 0)) (gName 1) tYes (tCall spT [] (fun _ _ _ => False) (tCons (tVar 1) tNil)) [1]) (L2.start N_text_of [V.ref a]) H3 ((textDs ds).map V.str) := by
          have := el_lcT (K := K) (tl := tVar 0) (t := tYes) (σ := L2.start N_text_of [V.ref a]) (H := H3) (j := 1) (vs := [1]) (te := tCall spT [] (fun _ _ _ => False) (tCons (tVar 1) tNil)) (fun _ => true) (fun i => V.str (textD ((ds.getD i .non)))) (ev_var rfl) (ex_t e03 hq) (by omega) (fun _ => rfl) (fun i y H5 e5 hy => et_yes) (fun i y H5 e5 hy _ => by
            obtain ⟨d, hd, hrp⟩ := RpAll.get _ _ _ _ (hr0.ex (e03.trans e5)) hy
            have hmem := List.mem_of_getElem? hd
            have e : (ds.getD i .non) = d := by rw [List.getD_eq_getElem?_getD, hd]; rfl
            have hz := size_mem hmem
            refine ev_call (ea_cons (ev_var rfl) ea_nil) fun H6 e6 Q q E => hT (by omega) _ _ _ _ ⟨y, d, rfl, hrp.ex e6, by omega, List.all_eq_true.mp hpl d hmem, by rw [e] at q; exact q⟩)
          rw [given_map (fun _ => rfl)] at this
          have hm : ((List.range xs.length).map fun i => V.str (textD ((ds.getD i .non)))) = (textDs ds).map V.str := by
            rw [textDs_map, List.map_map, hlen]
            refine List.ext_getElem? fun i => ?_
            rw [List.getElem?_map, List.getElem?_map]
            by_cases hi : i < ds.length
            · rw [List.getElem?_range hi, List.getElem?_eq_getElem hi]
              show some (V.str (textD ((ds.getD i .non)))) = some (V.str (textD ds[i]))
              congr 3
              rw [List.getD_eq_getElem?_getD, List.getElem?_eq_getElem hi]
              rfl
            · rw [List.getElem?_eq_none_iff.mpr (by rw [List.length_range]; omega), List.getElem?_eq_none_iff.mpr (by omega)]
              rfl
          rw [hm] at this
          exact this
        have hj : Ev (tBM K "str" (fun x xs H Q => ∃ a p, ∃ ys : List Str, x = .str a ∧ xs = [.ref p] ∧ (SqL K H p (ys.map V.str) ∨ SqT K H p (ys.map V.str)) ∧ (ys.map (·.length)).sum + ys.length * a.length ≤ 16777216 ∧ Q (.str (Txt.join a ys)) H) (tC (.str ",")) (tCons (tLc (iTup K (tVar 0)) (gName 1) tYes (tCall spT [] (fun _ _ _ => False) (tCons (tVar 1) tNil)) [1]) tNil)) (L2.start N_text_of [V.ref a]) H3 (.str (Txt.join "," (textDs ds))) := fun H4 e4 Q q =>
          ⟨rfl, hl H4 e4 _ fun p H5 hp e5 h5 => ⟨",", p, textDs ds, rfl, rfl, .inl (sq_of h5), by rw [show ("," : Str).length = 1 from rfl]; omega, q H5 e5⟩⟩
        exact s_ret (ev_op (ev_op ev_c hj (rv_addL (by show 1 + _ ≤ _; omega))) ev_c (rv_addL (by rw [str_app]; show 1 + _ + 1 ≤ _; omega))) fun H4 e4 => k H4 (e03.trans e4)
    | int i => cases hb
    | str s => cases hb3
    | bl b => cases hb
    | non => exact absurd rfl (of_decide_eq_false ‹_›)
    | lst h => cases m <;> cases hp
    | dct h => cases m <;> cases hp
theorem ok_text_of (T : Txt K mg A D) : ∀ m, FnOk P w K mg base CX0 (m + 2) A.text_of D.text_of ["value"] (sp_text_of K m)
  | 0 => text_core (n := 1) (spT := noFn) T ⟨fun _ _ _ _ h => h.elim, fun _ _ _ _ _ _ _ _ _ _ _ _ _ h => h.elim⟩ fun h => by omega
  | m + 1 => text_core T (ok_text_of T m) fun _ vs H Q E h => h
def sp_check_plain (K : PySem.W.Frag) (A : Ad) : Sp := fun vs H Q E => ∃ x d, vs = [x] ∧ Rp K H x d ∧ d.size ≤ 29000 ∧ (d.plain 12 = true → RetV .non H Q) ∧ (d.plain 12 = false → ∀ H', Ex H H' → E (.ref A.EInvalidOperation) none H')
theorem ok_check_plain (T : Txt K mg A D) : FnOk P w K mg base (L2.CX P w) 30 A.check_plain D.check_plain ["value"] (sp_check_plain K A) := by
  have G_is_plain : FnOk P w K mg base CX0 4 A.is_plain D.is_plain ["value"] (sp_is_plain K) := ok_is_plain T
  refine T.F_check_plain.okX sc_check_plain (fun vs H Q E h => by obtain ⟨x, d, rfl, _⟩ := h; rfl) (fun cdv A0 outer s H vs Q E hr h => ?_)
  refine ⟨_, (pss_one (ps_if (pt_not (pt_val (pe_call G_is_plain (hr.mono (by decide)) rfl T.g_is_plain T.F_is_plain.kp T.b_is_plain .nil pass0 (pa_cons (pv 0) pa_nil)))) (pss_one (ps_raise rfl (takes_of rfl rfl rfl rfl) (pmk_own PySem.F.excBase_ValueError T.e_InvalidOperation.q T.e_InvalidOperation.g T.e_InvalidOperation.k (raises_own T.e_InvalidOperation.b T.e_InvalidOperation.t) (by exact rfl)))) pss_nil)), ?_⟩
  obtain ⟨x, d, rfl, hx, hs, k1, k2⟩ := h
  refine s_when (et_not (et_B (ev_call (ea_cons (ev_var rfl) ea_nil) (svS hx (by omega))))) (fun hb H1 e1 => ?_) fun hb H1 e1 => k1 (by simpa using hb) H1 e1
  exact k2 (by simpa using hb) H1 e1
def sp_is_lessR (K : PySem.W.Frag) (A : Ad) : Sp := fun vs H Q E => ∃ x d y e, vs = [x, y] ∧ Rp K H x d ∧ d.size ≤ 29000 ∧ Rp K H y e ∧ e.size ≤ 29000 ∧ (d.plain 12 && e.plain 12) = false ∧ ∀ H', Ex H H' → E (.ref A.EInvalidOperation) none H'
theorem ok_is_lessR (T : Txt K mg A D) : FnOk P w K mg base (L2.CX P w) 31 A.is_less D.is_less ["one", "other"] (sp_is_lessR K A) := by
  have G_check_plain := ok_check_plain (P := P) (w := w) (base := base) T
  refine T.F_is_less.okX sc_is_less (fun vs H Q E h => by obtain ⟨x, d, y, e, rfl, _⟩ := h; rfl) (fun cdv A0 outer s H vs Q E hr h => ?_)
  refine ⟨_, pss_cons (ps_expr (pe_call G_check_plain (hr.mono (by decide)) rfl T.g_check_plain T.F_check_plain.kp T.b_check_plain .nil (passes_call (takes_of rfl rfl rfl rfl) (fun _ _ _ _ z => z)) (pa_cons (pv 0) pa_nil)))
    (pss_cons (ps_expr (pe_call G_check_plain (hr.mono (by decide)) rfl T.g_check_plain T.F_check_plain.kp T.b_check_plain .nil (passes_call (takes_of rfl rfl rfl rfl) (fun _ _ _ _ z => z)) (pa_cons (pv 1) pa_nil))) (pss_one ps_never)), ?_⟩
  obtain ⟨x, d, y, e, rfl, hx, hd, hy, he, hb, k⟩ := h
  refine c_call (ea_cons (ev_var rfl) ea_nil) fun H1 e1 => ⟨x, d, rfl, hx.ex e1, hd, fun p1 H2 e2 => ?_, fun _ H2 e2 => k H2 (e1.trans e2)⟩
  refine c_call (ea_cons (ev_var rfl) ea_nil) fun H3 e3 => ⟨y, e, rfl, hy.ex ((e1.trans e2).trans e3), he, fun p2 H2 e2 => ?_, fun _ H4 e4 => k H4 (((e1.trans e2).trans e3).trans e4)⟩
  rw [p1, p2] at hb
  cases hb
def sp_orderedR (K : PySem.W.Frag) (A : Ad) : Sp := fun vs H Q E => ∃ x d, vs = [x] ∧ Rp K H x d ∧ d.size ≤ 29000 ∧ (d.plain 12 && d.isTup) = false ∧ ∀ H', Ex H H' → E (.ref A.EInvalidOperation) none H'
theorem ok_orderedR (T : Txt K mg A D) : FnOk P w K mg base (L2.CX P w) 31 A.ordered D.ordered ["values"] (sp_orderedR K A) := by
  have G_check_plain := ok_check_plain (P := P) (w := w) (base := base) T
  refine T.F_ordered.okX sc_ordered (fun vs H Q E h => by obtain ⟨x, d, rfl, _⟩ := h; rfl) (fun cdv A0 outer s H vs Q E hr h => ?_)
  refine ⟨_, pss_cons (ps_expr (pe_call G_check_plain (hr.mono (by decide)) rfl T.g_check_plain T.F_check_plain.kp T.b_check_plain .nil (passes_call (takes_of rfl rfl rfl rfl) (fun _ _ _ _ z => z)) (pa_cons (pv 0) pa_nil)))
    (pss_cons (ps_if (pt_not (pt_val (pe_callB call_isi (by rfl) T.b_isinstance (by decide +kernel) (pa_cons (pv 0) (pa_cons (pe_bltn (v := .ty "tuple") (u := .type "tuple") (by rfl) T.b_tuple (by decide +kernel) rfl) pa_nil)))))
      (pss_one (ps_raise rfl (takes_of rfl rfl rfl rfl) (pmk_own PySem.F.excBase_ValueError T.e_InvalidOperation.q T.e_InvalidOperation.g T.e_InvalidOperation.k (raises_own T.e_InvalidOperation.b T.e_InvalidOperation.t) (by exact rfl)))) pss_nil)
    (pss_cons ps_never (pss_cons ps_never (pss_one ps_never)))), ?_⟩
  obtain ⟨x, d, rfl, hx, hd, hb, k⟩ := h
  refine c_call (ea_cons (ev_var rfl) ea_nil) fun H1 e1 => ⟨x, d, rfl, hx.ex e1, hd, fun p1 H2 e2 => ?_, fun _ H2 e2 => k H2 (e1.trans e2)⟩
  rw [p1, Bool.true_and] at hb
  dsimp only
  refine q_when (b := true) (et_is (et_not (et_B (ev_cb (ea_cons (ev_var rfl) (ea_cons ev_c ea_nil)) (rc_tup (hx.ex (e1.trans e2)))))) (by rw [hb]; rfl)) (fun _ H3 e3 => ?_) fun zz => by cases zz
  exact k H3 ((e1.trans e2).trans e3)
def sp_write_plain (K : PySem.W.Frag) (A : Ad) : Sp := fun vs H Q E => ∃ x d, vs = [x] ∧ Rp K H x d ∧ d.size ≤ 29000 ∧ (d.plain 12 = true → RetV (.str (textD d)) H Q) ∧ (d.plain 12 = false → ∀ H', Ex H H' → E (.ref A.EInvalidOperation) none H')
theorem ok_write_plain (T : Txt K mg A D) : FnOk P w K mg base (L2.CX P w) 31 A.write_plain D.write_plain ["value"] (sp_write_plain K A) := by
  have G_check_plain := ok_check_plain (P := P) (w := w) (base := base) T
  have G_text_of := ok_text_of (P := P) (w := w) (base := base) T 12
  refine T.F_write_plain.okX sc_write_plain (fun vs H Q E h => by obtain ⟨x, d, rfl, _⟩ := h; rfl) (fun cdv A0 outer s H vs Q E hr h => ?_)
  refine ⟨_, (pss_cons (ps_expr (pe_call G_check_plain (hr.mono (by decide)) rfl T.g_check_plain T.F_check_plain.kp T.b_check_plain .nil (passes_call (takes_of rfl rfl rfl rfl) (fun _ _ _ _ z => z)) (pa_cons (pv 0) pa_nil)))
  (pss_one (ps_ret (pe_call G_text_of (hr.mono (by decide)) rfl T.g_text_of T.F_text_of.kp T.b_text_of .nil pass0 (pa_cons (pv 0) pa_nil))))), ?_⟩
  obtain ⟨x, d, rfl, hx, hd, k1, k2⟩ := h
  refine c_call (ea_cons (ev_var rfl) ea_nil) fun H1 e1 => ⟨x, d, rfl, hx.ex e1, hd, fun p1 H2 e2 => ?_, fun p1 H2 e2 => k2 p1 H2 (e1.trans e2)⟩
  exact s_ret (ev_call (ea_cons (ev_var rfl) ea_nil) fun H3 e3 Q q E => ⟨x, d, rfl, hx.ex ((e1.trans e2).trans e3), by omega, p1, q⟩) fun H4 e4 => k1 p1 H4 ((e1.trans e2).trans e4)
end
end K0

namespace K0
open PySem L2 Evl
/-! ### write_plain of what is plain, called where nothing is raised -/
section
variable {P : Program} {w : World} {K : PySem.W.Frag} {mg : Str → Option Value} {base : Heap} {A : Ad} {D : Fd}
def sp_check_plainG (K : PySem.W.Frag) : Sp := fun vs H Q _ => ∃ x d, vs = [x] ∧ Rp K H x d ∧ d.size ≤ 29000 ∧ d.plain 12 = true ∧ RetV .non H Q
theorem ok_check_plainG (T : Txt K mg A D) : FnOk P w K mg base CX0 30 A.check_plain D.check_plain ["value"] (sp_check_plainG K) := by
  have G_is_plain : FnOk P w K mg base CX0 4 A.is_plain D.is_plain ["value"] (sp_is_plain K) := ok_is_plain T
  refine T.F_check_plain.ok sc_check_plain (fun vs H Q E h => by obtain ⟨x, d, rfl, _⟩ := h; rfl) (fun cdv A0 outer s H vs Q E hr h => ?_)
  refine ⟨_, (pss_one (ps_if (pt_not (pt_val (pe_call G_is_plain (hr.mono (by decide)) rfl T.g_is_plain T.F_is_plain.kp T.b_is_plain .nil pass0 (pa_cons (pv 0) pa_nil)))) (pss_one ps_never) pss_nil)), ?_⟩
  obtain ⟨x, d, rfl, hx, hs, hp, k⟩ := h
  exact s_when (b := false) (et_is (et_not (et_B (ev_call (ea_cons (ev_var rfl) ea_nil) (svS hx (by omega))))) (by rw [hp]; rfl)) (fun zz => by cases zz) fun _ H1 e1 => k H1 e1
def sp_write_plainG (K : PySem.W.Frag) : Sp := fun vs H Q _ => ∃ x d, vs = [x] ∧ Rp K H x d ∧ d.size ≤ 29000 ∧ d.plain 12 = true ∧ RetV (.str (textD d)) H Q
theorem ok_write_plainG (T : Txt K mg A D) : FnOk P w K mg base CX0 31 A.write_plain D.write_plain ["value"] (sp_write_plainG K) := by
  have G_check_plain := ok_check_plainG (P := P) (w := w) (base := base) T
  have G_text_of := ok_text_of (P := P) (w := w) (base := base) T 12
  refine T.F_write_plain.ok sc_write_plain (fun vs H Q E h => by obtain ⟨x, d, rfl, _⟩ := h; rfl) (fun cdv A0 outer s H vs Q E hr h => ?_)
  refine ⟨_, (pss_cons (ps_expr (pe_call G_check_plain (hr.mono (by decide)) rfl T.g_check_plain T.F_check_plain.kp T.b_check_plain .nil pass0 (pa_cons (pv 0) pa_nil)))
  (pss_one (ps_ret (pe_call G_text_of (hr.mono (by decide)) rfl T.g_text_of T.F_text_of.kp T.b_text_of .nil pass0 (pa_cons (pv 0) pa_nil))))), ?_⟩
  obtain ⟨x, d, rfl, hx, hd, hp, k⟩ := h
  refine c_call (ea_cons (ev_var rfl) ea_nil) fun H1 e1 => ⟨x, d, rfl, hx.ex e1, hd, hp, fun H2 e2 => ?_⟩
  exact s_ret (ev_call (ea_cons (ev_var rfl) ea_nil) fun H3 e3 Q q E => ⟨x, d, rfl, hx.ex ((e1.trans e2).trans e3), by omega, hp, q⟩) fun H4 e4 => k H4 ((e1.trans e2).trans e4)
end
end K0

namespace K0
open PySem L2 Evl LamX
/-! ### laws of errors: lambdas in the law's own defs, what they meet (for any law) -/
def wordsD (a b : Str) : K0.D := .tup [.str a, .str b]
/-- which exceptions are told as which data -/
abbrev EKT := K0.D → Value → Option Addr → Hp → Prop
def TMG (K : PySem.W.Frag) (EK : EKT) (TF : Hp → VK → Prop) : (XK → Hp → VK → Prop) → Hp → VK → Prop := fun tl H Q => tl (fun cls dd H' => ∃ r, EK r cls dd H' ∧ RetR K r H' Q) H (fun _ H' => TF H' Q)
structure Ca where
  cR : Addr
  pR : Addr
  cL : Addr
  pL : Addr
def qR : Str := ("_law_right" : Str) ++ ".<locals>." ++ "<lambda>"
def qL : Str := ("law" : Str) ++ ".<locals>." ++ "<lambda>"
def Ca.tabs (ca : Ca) : List (Addr × Str) := [(ca.pR, qR), (ca.pL, qL)]
structure LamH (base : Heap) (mg : Str → Option Value) (D : Fd) (ca : Ca) : Prop where
  c_law_right : D.law_right.code = .ref ca.cR
  t_law_right : TabB base mg ca.cR ca.pR
  c_law : D.law.code = .ref ca.cL
  t_law : TabB base mg ca.cL ca.pL
  ne : ca.pR ≠ ca.pL
section
variable {P : Program} {w : World} {K : PySem.W.Frag} {mg : Str → Option Value} {base : Heap} {A : Ad} {D : Fd} {ca : Ca}
theorem LamH.m_law_right (_ : LamH base mg D ca) : (ca.pR, ("_law_right" : Str) ++ ".<locals>." ++ "<lambda>") ∈ ca.tabs := List.mem_cons_self
theorem LamH.m_law (_ : LamH base mg D ca) : (ca.pL, ("law" : Str) ++ ".<locals>." ++ "<lambda>") ∈ ca.tabs := List.mem_cons_of_mem _ List.mem_cons_self
theorem LamH.u_law_right (h : LamH base mg D ca) : ∀ p ∈ ca.tabs, p.1 = ca.pR → p.2 = ("_law_right" : Str) ++ ".<locals>." ++ "<lambda>" := fun p hp e => by
  rcases List.mem_cons.mp hp with rfl | hp
  · rfl
  · rcases List.mem_cons.mp hp with rfl | hp
    · exact absurd e.symm h.ne
    · cases hp
theorem LamH.u_law (h : LamH base mg D ca) : ∀ p ∈ ca.tabs, p.1 = ca.pL → p.2 = ("law" : Str) ++ ".<locals>." ++ "<lambda>" := fun p hp e => by
  rcases List.mem_cons.mp hp with rfl | hp
  · exact absurd e h.ne
  · rcases List.mem_cons.mp hp with rfl | hp
    · rfl
    · cases hp
/-- a def whose code object is known -/
theorem okL {x qual : Str} {st : Stmt} {f c : Addr} {fd : FuncData} {N ps : List Str} {k : Nat} {sp : Sp} (F : Fun K x qual st f fd) (hc : fd.code = .ref c) (S : FnScope N ps (defScope st)) (len : ∀ vs H Q E, sp vs H Q E → vs.length = ps.length)
    (hbody : ∀ (A : Around) (outer : List Env) (s : Shared) (H : Hp) (vs : List V) (Q : VK) (E : XK), Room k (A.deeper (PyProof.Rows.envOfC qual (defScope st) s.heap.objs.size f (.ref c))) → sp vs H Q E →
      ∃ t, PSs (cxOf CX0 P w K mg base N qual (defScope st) f (.ref c) A outer s H E).nox (defBody st) t ∧ t { nx := fun _ H' => Q .non H', rt := Q } (start N vs) H) : FnOk P w K mg base CX0 (k + 1) f fd ps sp := by
  obtain ⟨oc, od, kV, doc, pm, an, cdv, ct, osl, rfl, lk, hcd⟩ := F.ex
  obtain rfl : cdv = .ref c := hc
  refine fn_of lk hcd S len fun A outer s H vs Q E hr hsp => ?_
  obtain ⟨t, h, q⟩ := hbody A outer s H vs Q E hr hsp
  exact ⟨t, h.nox, q⟩
/-- the def that meets: g(lambda: body) -/
theorem pe_lmG {X : Cx} {x a : Str} {st : Stmt} {g : Addr} {fd : FuncData} {N : List Str} {TM : (XK → Hp → VK → Prop) → Hp → VK → Prop} {TT : List (Addr × Str)} {c P : Addr} {k : Nat} {params : Arguments} {body : Expr} {scope : Scope} {t : XK → TE} {p lpos pos : Pos}
    (hgx : X.mg x = some (.ref g)) (F : Fun X.K x x st g fd) (hb : Binds X.K fd [a] []) (S : FnScope N [a] (defScope st)) (h0 : N[0]? = some a) (hva : Vis (defScope st) a) (M : ∀ {q : Str} {cdg : Value}, GivesTo X N x (defScope st) g cdg (defBody st) a q TM)
    (TB : TabB X.base X.mg c P) (hcode : X.env.code = .ref c) (hmT : (P, X.env.qual ++ "<lambda>") ∈ TT) (hu : ∀ p ∈ TT, p.1 = P → p.2 = X.env.qual ++ "<lambda>")
    (hr : Room (k + 2) X.A) (L : lamSB X.env.scope scope = true) (hg : Gl X x) (hdef : defaultsOf params X.env = ([], []))
    (hbind : ∀ (q : Str) (cl : List (Str × Addr)) (pm cv ctv : Value), bindArgs (PySem.W.kla_fn "<lambda>" q params body scope cl pm cv ctv) ⟨[], []⟩ = pure [])
    (hbody : ∀ (A : Around) (outer : List Env) (s : Shared) (H : Hp) (E : XK) (f c' : Addr), Room k (A.deeper (lamEnv X scope s.heap.objs.size f c')) → PE (lamCx X A outer s H E scope f c') body (t E))
    (hdb : (x == ("__debug__" : Str)) = false := by decide) (hd : (a == ("__debug__" : Str)) = false := by decide) (hcd : (a == ("__classdict__" : Str)) = false := by decide) :
    PE X (.Call (.Name x p) [.Lambda params body scope lpos] [] pos) (tLam TT TM t) := by
  obtain ⟨oc, od, kV, doc, pm, an, cdv, ct, osl, e, lk, hcod⟩ := F.ex
  rw [e] at hb lk
  exact pe_lamcall hg hgx F.kp lk hcod hb S h0 hva M TB hcode hmT hu hr (lamS_by L) hdef hbind hbody hdb hd hcd
end
/-! ### what stays: all but the tables and the dice list (if there is one) -/
def BtO (o : Option Addr) (H H' : Hp) : Prop := ExtN (hid o H) (hid o H')
def DiceO (o : Option Addr) (H : Hp) : Prop := ∀ a, o = some a → DiceAt H a
section
variable {K : PySem.W.Frag} {H H' H'' : Hp} {a l : Addr} {o : Option Addr}
theorem sqT_extN {b : Addr} {xs : List V} (e : ExtN H H') (h : SqT K H b xs) : SqT K H' b xs := by
  rcases h with (h | ⟨o, h⟩) | h
  · exact .inl (.inl (e _ _ h fun ps z => by cases z))
  · exact .inl (.inr ⟨o, e _ _ h fun ps z => by cases z⟩)
  · exact .inr h
theorem sqL_extN {b : Addr} {xs : List V} (e : ExtN H H') (h : SqL K H b xs) : SqL K H' b xs := by
  rcases h with (h | ⟨o, h⟩) | h
  · exact .inl (.inl (e _ _ h fun ps z => by cases z))
  · exact .inl (.inr ⟨o, e _ _ h fun ps z => by cases z⟩)
  · exact .inr h
mutual
theorem Rp.extN {v : V} {d : K0.D} (e : ExtN H H') : Rp K H v d → Rp K H' v d
  | .non => .non
  | .bl b => .bl b
  | .int i => .int i
  | .str s => .str s
  | .tup h r => .tup (sqT_extN e h) (RpAll.extN e r)
  | .lst h => .lst (e _ _ h fun ps z => by cases z)
  | .dct h => .dct (e _ _ h fun ps z => by cases z)
theorem RpAll.extN {vs : List V} {ds : List K0.D} (e : ExtN H H') : RpAll K H vs ds → RpAll K H' vs ds
  | .nil => .nil
  | .cons h r => .cons (Rp.extN e h) (RpAll.extN e r)
end
theorem ext_of : ExtN (hid o H) H := ExtN.of hid_le
theorem hid_extN (e : ExtN H H') : ExtN (hid o H) (hid o H') := fun b u h n => by
  unfold hid at h ⊢
  split at h
  · cases h
  · rename_i m
    rw [if_neg m]
    exact e b u h n
theorem BtO.refl : BtO o H H := ExtN.refl _
theorem BtO.trans (h : BtO o H H') (h' : BtO o H' H'') : BtO o H H'' := ExtN.trans h h'
theorem BtO.ofN (e : ExtN H H') : BtO o H H' := hid_extN e
theorem BtO.ofE (e : Ex H H') : BtO o H H' := BtO.ofN (ExtN.of e)
theorem BtO.ofB (e : Bt a H H') : BtO (some a) H H' := ExtN.of e
theorem BtO.at_ {b : Addr} {u : HO} (e : BtO o H H') (n : ∀ a, o = some a → b ≠ a) (nt : ∀ ps, u ≠ .tbl ps) (h : H b = some u) : H' b = some u := by
  have hb : hid o H b = some u := by
    unfold hid
    rw [if_neg fun z => n b z rfl]
    exact h
  exact hid_le _ _ (e _ _ hb nt)
theorem BtO.ne (hd : DiceO o H) {b : Addr} {u : HO} (h : H b = some u) (n : ∀ zs, u ≠ .lst zs) : ∀ a, o = some a → b ≠ a := fun a ha z => by
  obtain ⟨x, y, w, hz⟩ := hd a ha
  rw [z, hz] at h
  exact n _ (Option.some.inj h).symm
theorem BtO.sqT (hd : DiceO o H) (e : BtO o H H') {b : Addr} {xs : List V} (h : SqT K H b xs) : SqT K H' b xs := by
  rcases h with (h | ⟨q, h⟩) | h
  · exact .inl (.inl (e.at_ (BtO.ne hd h fun zs z => by cases z) (fun ps z => by cases z) h))
  · exact .inl (.inr ⟨q, e.at_ (BtO.ne hd h fun zs z => by cases z) (fun ps z => by cases z) h⟩)
  · exact .inr h
theorem DiceO.extN (e : ExtN H H') (h : DiceO o H) : DiceO o H' := fun a ha => by
  obtain ⟨x, y, z, h⟩ := h a ha
  exact ⟨x, y, z, e _ _ h fun ps z => by cases z⟩
theorem DiceO.ex (e : Ex H H') (h : DiceO o H) : DiceO o H' := DiceO.extN (ExtN.of e) h
theorem DiceO.of (h : DiceAt H a) : DiceO (some a) H := fun b hb => by cases hb; exact h
theorem DiceO.get (h : DiceO (some a) H) : DiceAt H a := h a rfl
theorem DiceO.none : DiceO none H := fun b hb => by cases hb
/-- nothing, or a table -/
def FreeN (H : Hp) (l : Addr) : Prop := ∀ o, H l = some o → ∃ ps, o = .tbl ps
theorem BtO.mutF {u : HO} (e : BtO o H H') (h : FreeN H l) : BtO o H (L2.upd H' l u) := fun b v g n => by
  have nl : b ≠ l := fun z => by
    have h2 := hid_le _ _ g
    rw [z] at h2
    obtain ⟨ps, hp⟩ := h v h2
    exact n ps hp
  have g2 := e b v g n
  unfold hid at g2 ⊢
  split at g2
  · cases g2
  · rename_i m
    rw [if_neg m, upd_ne nl]
    exact g2
theorem tabs_lst {T : List (Addr × Str)} {xs ys : List V} (hl : H l = some (.lst xs)) (h : Tabs T H) : Tabs T (L2.upd H l (.lst ys)) := fun p hp => by
  obtain ⟨ps, a1, a2, a3⟩ := h p hp
  have ne : ∀ {b : Addr} {o : HO}, H b = some o → (∀ zs, o ≠ .lst zs) → b ≠ l := fun g n z => by
    rw [z, hl] at g
    exact n _ (Option.some.inj g).symm
  refine ⟨ps, by rw [upd_ne (ne a1 fun zs z => by cases z)]; exact a1, a2, fun pos cv hc => ?_⟩
  obtain ⟨c, e1, e2⟩ := a3 pos cv hc
  exact ⟨c, e1, by rw [upd_ne (ne e2 fun zs z => by unfold CodeO at z; cases z)]; exact e2⟩
theorem tabs_bt {T : List (Addr × Str)} (hd : DiceAt H a) (b : Bt a H H') (h : Tabs T H) : Tabs T H' := fun p hp => by
  obtain ⟨ps, a1, a2, a3⟩ := h p hp
  obtain ⟨x, y, z, hz⟩ := hd
  have ne : ∀ {b : Addr} {o : HO}, H b = some o → (∀ zs, o ≠ .lst zs) → b ≠ a := fun g n z => by
    rw [z, hz] at g
    exact n _ (Option.some.inj g).symm
  refine ⟨ps, b.at (ne a1 fun zs z => by cases z) a1, a2, fun pos cv hc => ?_⟩
  obtain ⟨c, e1, e2⟩ := a3 pos cv hc
  exact ⟨c, e1, b.at (ne e2 fun zs z => by unfold CodeO at z; cases z) e2⟩
theorem sq_btO {p b : Addr} {xs : List V} {H1 : Hp} (hp : H p = none) (h : SqL K H b xs) (e : Ex H H1) (g : BtO (some p) H1 H') : SqL K H' b xs := by
  rcases h with (h | ⟨o, h⟩) | h
  · exact .inl (.inl (g.at_ (fun a ha => by cases ha; exact ne_of_none h hp) (fun ps z => by cases z) (e _ _ h)))
  · exact .inl (.inr ⟨o, g.at_ (fun a ha => by cases ha; exact ne_of_none h hp) (fun ps z => by cases z) (e _ _ h)⟩)
  · exact .inr h
end
/-! ### facts beside the dice list -/
structure MonoN (N : Hp → V → Prop) : Prop where
  m : ∀ {H H' : Hp} {v : V}, ExtN H H' → N H v → N H' v
/-- what is true of v where the dice list is hidden -/
def Off (o : Option Addr) (N : Hp → V → Prop) : Hp → V → Prop := fun H v => N (hid o H) v
structure MonoQ (M : Hp → V → Prop) : Prop where
  m : ∀ {H H' : Hp} {v : V}, Ex H H' → M H v → M H' v
theorem MonoN.q {N : Hp → V → Prop} (h : MonoN N) : MonoQ N := ⟨fun e m => h.m (ExtN.of e) m⟩
theorem MonoN.off {N : Hp → V → Prop} {o : Option Addr} (h : MonoN N) : MonoQ (Off o N) := ⟨fun e m => h.m (ExtN.of (hid_ex e)) m⟩
theorem Off.get {N : Hp → V → Prop} {v : V} {o : Option Addr} {H H' : Hp} (mo : MonoN N) (e : BtO o H H') (h : Off o N H v) : N H' v := mo.m ext_of (mo.m e h)
theorem Off.bt {N : Hp → V → Prop} {v : V} {o : Option Addr} {H H' : Hp} (mo : MonoN N) (e : BtO o H H') (h : Off o N H v) : Off o N H' v := mo.m e h
def EvQ (M : Hp → V → Prop) (te : TE) (σ : L2.St) (H : Hp) : Prop := ∀ H1, Ex H H1 → ∀ Q : VK, (∀ v H2, Ex H1 H2 → M H2 v → Q v H2) → te σ H1 Q
def EvQL (M : Hp → V → Prop) (te : TE) (σ : L2.St) (H : Hp) (n : Nat) : Prop := ∀ H1, Ex H H1 → ∀ Q : VK, (∀ p xs H2, H1 p = none → Ex H1 H2 → H2 p = some (.lst xs) → (∀ v ∈ xs, M H2 v) → xs.length = n → Q (.ref p) H2) → te σ H1 Q
def EvQA (M : Hp → V → Prop) (ta : TA) (σ : L2.St) (H : Hp) (n : Nat) : Prop := ∀ H1, Ex H H1 → ∀ Q : List V → Hp → Prop, (∀ vs H2, Ex H1 H2 → (∀ v ∈ vs, M H2 v) → vs.length = n → Q vs H2) → ta σ H1 Q
section
variable {K : PySem.W.Frag} {σ : L2.St} {H H' : Hp} {ta tb te : TE} {tr : TA} {x y z v : V} {d e : K0.D} {ds es : List K0.D} {M N : Hp → V → Prop} {a p : Addr} {n m : Nat} {o : Option Addr}
theorem qa_nil : EvQA M tNil σ H 0 := fun H1 e Q q => q [] H1 (Ex.refl _) (fun v hv => by cases hv) rfl
theorem qa_cons (mo : MonoQ M) (h : EvQ M te σ H) (r : EvQA M tr σ H n) : EvQA M (tCons te tr) σ H (n + 1) := fun H1 e Q q =>
  h H1 e _ fun v H2 e2 m => r H2 (e.trans e2) _ fun vs H3 e3 ms l => q (v :: vs) H3 (e2.trans e3) (fun u hu => by
    rcases List.mem_cons.mp hu with rfl | hu
    · exact mo.m e3 m
    · exact ms u hu) (by rw [List.length_cons, l])
theorem ql_lst (mo : MonoQ M) (h : EvQA M tr σ H n) (hn : n ≤ 1000) : EvQL M (tLst tr) σ H n := fun H1 e Q q =>
  h H1 e _ fun vs H2 e2 ms l => ⟨sz_of (by omega), fun p hp => q p vs _ (fresh_back e2 hp) (e2.trans (Ex.new hp)) upd_same (fun v hv => mo.m (Ex.new hp) (ms v hv)) l⟩
theorem ql_cat {xs : List V} (mo : MonoQ M) (hv : Ev ta σ H (.ref p)) (hp : H p = some (.lst xs)) (hx : ∀ v ∈ xs, M H v) (h : EvQL M te σ H n) (hn : xs.length + n ≤ 1000) : EvQL M (tOp rCat ta te) σ H (xs.length + n) := fun H1 e Q q =>
  hv H1 e _ fun H2 e2 => h H2 (e.trans e2) _ fun r zs H3 hr e3 h3 ms l => ⟨p, r, xs, zs, rfl, rfl, ((e.trans e2).trans e3) _ _ hp, h3, sz_of (by omega), fun t ht =>
    q t _ _ (fresh_back (e2.trans e3) ht) ((e2.trans e3).trans (Ex.new ht)) upd_same (fun v hv => by
      rcases List.mem_append.mp hv with hv | hv
      · exact mo.m (((e.trans e2).trans e3).trans (Ex.new ht)) (hx v hv)
      · exact mo.m (Ex.new ht) (ms v hv)) (by rw [List.length_append, l])⟩
/-- _law_pick(dice, [..]): one of them -/
theorem c_pick {E : XK} {Q : VK} (mo : MonoN N) (hv : σ[0]? = some (some (.ref a))) (hd : DiceAt H a) (h : EvQL (Off (some a) N) te σ H n) (n0 : 0 < n) (hn : n ≤ 1000)
    (k : ∀ x H2, Bt a H H2 → DiceAt H2 a → Off (some a) N H2 x → Q x H2) : tCall (sp_law_pick K) [] E (tCons (tVar 0) (tCons te tNil)) σ H Q := by
  refine d_raw (n_cons (n_var hv (n_cons ?_)))
  refine h H (Ex.refl _) _ fun p xs H2 hp e2 h2 ms l => n_nil ⟨a, p, xs, rfl, hd.ex e2, hd.ne hp, sq_of h2, (fun z => by rw [z] at l; simp at l; omega), by omega, fun x H3 hx b3 d3 => ?_⟩
  exact k x H3 ((Bt.of e2).trans b3) d3 (mo.m (ExtN.of b3) (ms x hx))
theorem q_pick {E : XK} {D : Ends} {tz : TS} {i : Nat} (mo : MonoN N) (hv : σ[0]? = some (some (.ref a))) (hd : DiceAt H a) (h : EvQL (Off (some a) N) te σ H n) (n0 : 0 < n) (hn : n ≤ 1000)
    (k : ∀ x H2, Bt a H H2 → DiceAt H2 a → Off (some a) N H2 x → tz D (σ.set i (some x)) H2) : tSeq (tAsg (tCall (sp_law_pick K) [] E (tCons (tVar 0) (tCons te tNil))) (gName i)) tz D σ H := c_pick mo hv hd h n0 hn k
/-! ### data there -/
def Al (o : Option Addr) (H : Hp) : Prop := ∀ a, o = some a → ∃ u, H a = some u
theorem Al.ex (e : Ex H H') (h : Al o H) : Al o H' := fun a ha => let ⟨u, hu⟩ := h a ha; ⟨u, e _ _ hu⟩
theorem Al.ne (h : Al o H) (hp : H p = none) : ∀ a, o = some a → p ≠ a := fun a ha z => by
  obtain ⟨u, hu⟩ := h a ha
  rw [← z, hp] at hu
  cases hu
theorem Al.of (h : DiceAt H a) : Al (some a) H := fun b hb => by
  cases hb
  obtain ⟨x, y, z, hz⟩ := h
  exact ⟨_, hz⟩
theorem Al.none : Al none H := fun b hb => by cases hb
theorem hidO_at {b : Addr} {u : HO} (h : H b = some u) (n : ∀ a, o = some a → b ≠ a) : hid o H b = some u := by
  unfold hid
  rw [if_neg fun z => n b z rfl]
  exact h
abbrev RpO (K : PySem.W.Frag) (o : Option Addr) (d : K0.D) : Hp → V → Prop := Off o fun H v => Rp K H v d
def EvH (K : PySem.W.Frag) (o : Option Addr) (te : TE) (σ : L2.St) (H : Hp) (d : K0.D) : Prop := EvQ (RpO K o d) te σ H
def EvHA (K : PySem.W.Frag) (o : Option Addr) (ta : TA) (σ : L2.St) (H : Hp) (ds : List K0.D) : Prop := ∀ H1, Ex H H1 → ∀ Q : List V → Hp → Prop, (∀ vs H2, Ex H1 H2 → RpAll K (hid o H2) vs ds → Q vs H2) → ta σ H1 Q
theorem rpN {d : K0.D} : MonoN fun H v => Rp K H v d := ⟨fun e h => h.extN e⟩
theorem h_ev (h : Ev te σ H v) (r : ∀ H, Rp K H v d) : EvH K o te σ H d := fun H1 e Q q => h H1 e Q fun H2 e2 => q v H2 e2 (r _)
theorem h_int {i : Int} : EvH K o (tC (.int i)) σ H (.int i) := h_ev ev_c fun _ => .int i
theorem h_neg {i : Int} : EvH K o (tUn (rU fun i => .int (-i)) (tC (.int i))) σ H (.int (-i)) := h_ev (ev_un ev_c ru_neg) fun _ => .int _
theorem h_str {s : Str} : EvH K o (tC (.str s)) σ H (.str s) := h_ev ev_c fun _ => .str s
theorem h_non : EvH K o (tC .non) σ H .non := h_ev ev_c fun _ => .non
theorem h_bl {b : Bool} : EvH K o (tC (.bl b)) σ H (.bl b) := h_ev ev_c fun _ => .bl b
theorem h_var {i : Nat} (h : σ[i]? = some (some v)) (r : RpO K o d H v) : EvH K o (tVar i) σ H d := fun H1 e Q q => ev_var h H1 e Q fun H2 e2 => q v H2 e2 (Rp.ex (hid_ex (e.trans e2)) r)
theorem ha_nil : EvHA K o tNil σ H [] := fun H1 e Q q => q [] H1 (Ex.refl _) .nil
theorem ha_cons (h : EvH K o te σ H d) (r : EvHA K o tr σ H ds) : EvHA K o (tCons te tr) σ H (d :: ds) := fun H1 e Q q =>
  h H1 e _ fun v H2 e2 hv => r H2 (e.trans e2) _ fun vs H3 e3 hs => q (v :: vs) H3 (e2.trans e3) (.cons (Rp.ex (hid_ex e3) hv) hs)
theorem h_tup (al : Al o H) (h : EvHA K o tr σ H ds) (l : ds.length ≤ 1000) : EvH K o (tTup tr) σ H (.tup ds) := fun H1 e Q q =>
  h H1 e _ fun vs H2 e2 hs => ⟨by rw [hs.len]; exact sz_of (by omega), fun p hp => q (.ref p) _ (e2.trans (Ex.new hp)) (.tup (st_of (hidO_at upd_same ((al.ex (e.trans e2)).ne hp))) (RpAll.ex (hid_ex (Ex.new hp)) hs))⟩
theorem h_lst (al : Al o H) (h : EvHA K o tr σ H ds) (l : ds.length ≤ 1000) : EvH K o (tLst tr) σ H .oth := fun H1 e Q q =>
  h H1 e _ fun vs H2 e2 hs => ⟨by rw [hs.len]; exact sz_of (by omega), fun p hp => q (.ref p) _ (e2.trans (Ex.new hp)) (.lst (hidO_at upd_same ((al.ex (e.trans e2)).ne hp)))⟩
theorem h_dict0 (al : Al o H) : EvH K o tDNewK σ H .oth := fun H1 e Q q p hp => q (.ref p) _ (Ex.new hp) (.dct (hidO_at upd_same ((al.ex e).ne hp)))
theorem h_q {N : Hp → V → Prop} (h : EvH K o te σ H d) (k : ∀ H v, Rp K H v d → N H v) : EvQ (Off o N) te σ H := fun H1 e Q q => h H1 e Q fun v H2 e2 r => q v H2 e2 (k _ _ r)
end
/-! ### told: a list that grows by what lambdas meet -/
structure TIG (K : PySem.W.Frag) (T : List (Addr × Str)) (H0 : Hp) (o : Option Addr) (l : Addr) (ds : List K0.D) (H : Hp) : Prop where
  bt : BtO o H0 H
  dice : DiceO o H
  tabs : Tabs T H
  fr : FreeN H0 l
  na : ∀ a, o = some a → l ≠ a
  lst : ∃ vs, H l = some (.lst vs) ∧ RpAll K H vs ds
section
variable {K : PySem.W.Frag} {σ : L2.St} {H H0 H1 H' : Hp} {ta te : TE} {tr : TA} {sp : Sp} {Q : VK} {T : List (Addr × Str)} {D : Ends} {tz : TS} {i : Nat} {a l : Addr} {ds : List K0.D} {r fine : K0.D} {EK : EKT} {TF : Hp → VK → Prop} {o : Option Addr} {t : XK → TE}
theorem TIG.ex (e : Ex H H') (h : TIG K T H0 o l ds H) : TIG K T H0 o l ds H' := by
  obtain ⟨vs, h1, h2⟩ := h.lst
  exact ⟨h.bt.trans (BtO.ofE e), h.dice.ex e, h.tabs.ext e, h.fr, h.na, vs, e _ _ h1, h2.ex e⟩
/-- what a lambda's body is to do -/
def LamDo (T : List (Addr × Str)) (EK : EKT) (fine r : K0.D) (o : Option Addr) (H0 : Hp) (t : XK → TE) (σ : L2.St) : Prop :=
  ∀ H1 (E : XK), BtO o H0 H1 → DiceO o H1 → Tabs T H1 → (∀ cls dd H2, BtO o H1 H2 → DiceO o H2 → Tabs T H2 → EK r cls dd H2 → E cls dd H2) → ∀ Q : VK, (∀ v H2, BtO o H1 H2 → DiceO o H2 → Tabs T H2 → r = fine → Q v H2) → t E σ H1 Q
theorem n_lamG (hF : ∀ H Q, RetR K fine H Q → TF H Q) (hd : DiceO o H) (ht : Tabs T H) (h : LamDo T EK fine r o H t σ) (k : ∀ v H2, BtO o H H2 → DiceO o H2 → Tabs T H2 → Rp K H2 v r → Q v H2) : tLam T (TMG K EK TF) t σ H Q :=
  ⟨ht, fun H1 e1 T1 => h H1 _ (BtO.ofN e1) (hd.extN e1) T1 (fun cls dd H2 b2 d2 t2 ek => ⟨r, ek, fun v H3 e3 rv => k v H3 (((BtO.ofN e1).trans b2).trans (BtO.ofE e3)) (d2.ex e3) (t2.ext e3) rv⟩) _
    fun v H2 b2 d2 t2 er => hF _ _ fun v H3 e3 rv => k v H3 (((BtO.ofN e1).trans b2).trans (BtO.ofE e3)) (d2.ex e3) (t2.ext e3) (by rw [er]; exact rv)⟩
theorem LamDo.bt (b : BtO o H0 H) (h : LamDo T EK fine r o H0 t σ) : LamDo T EK fine r o H t σ := fun H1 E b1 => h H1 E (b.trans b1)
theorem q_told0 (hF : ∀ H Q, RetR K fine H Q → TF H Q) (hd : DiceO o H) (ht : Tabs T H) (h : LamDo T EK fine r o H t σ) (k : ∀ l H1, TIG K T H o l [r] H1 → tz D (σ.set i (some (.ref l))) H1) : tSeq (tAsg (tLst (tCons (tLam T (TMG K EK TF) t) tNil)) (gName i)) tz D σ H :=
  n_lamG hF hd ht h fun v H1 b1 d1 t1 rv => ⟨sz_of (by simp), fun p hp => k p _ ⟨b1.trans (BtO.ofE (Ex.new hp)), d1.ex (Ex.new hp), t1.ext (Ex.new hp), (fun u hu => by
    by_cases nt : ∃ ps, u = .tbl ps
    · exact nt
    · have hne : ∀ a, o = some a → p ≠ a := fun a ha z => by
        obtain ⟨x, y, w, hz⟩ := d1 a ha
        rw [← z, hp] at hz
        cases hz
      have := b1.at_ hne (fun ps z => nt ⟨ps, z⟩) hu
      rw [hp] at this
      cases this), (fun a ha z => by
      obtain ⟨x, y, w, hz⟩ := d1 a ha
      rw [← z, hp] at hz
      cases hz), [v], upd_same, .cons (rv.ex (Ex.new hp)) .nil⟩⟩
theorem q_toldA (hF : ∀ H Q, RetR K fine H Q → TF H Q) (hv : σ[i]? = some (some (.ref l))) (hl : ds.length ≤ 1000) (hc : K0.D.cleanL ds = true) (hr : r.clean = true) (I : TIG K T H0 o l ds H) (h : LamDo T EK fine r o H0 t σ)
    (k : ∀ H1, TIG K T H0 o l (ds ++ [r]) H1 → tz D σ H1) : tSeq (tDrop (tBM K "list" rAppend (tVar i) (tCons (tLam T (TMG K EK TF) t) tNil))) tz D σ H := by
  obtain ⟨vs, hvs, rvs⟩ := I.lst
  have lv : vs.length = ds.length := rvs.len
  refine ⟨.ref l, hv, Or.inl ⟨rfl, vs, sq_of hvs⟩, n_lamG (K := K) hF I.dice I.tabs (h.bt I.bt) fun v H1 b1 d1 t1 rv => ?_⟩
  have h1 : H1 l = some (.lst vs) := b1.at_ I.na (fun ps z => by cases z) hvs
  refine ⟨l, vs, v, rfl, rfl, h1, sz_lt (by omega), k _ ⟨(I.bt.trans b1).mutF I.fr, ?_, tabs_lst h1 t1, I.fr, I.na, _, upd_same, ?_⟩⟩
  · intro a ha
    obtain ⟨x, y, z, hz⟩ := d1 a ha
    exact ⟨x, y, z, by rw [upd_ne (I.na a ha).symm]; exact hz⟩
  · exact (rvs.byT hc fun _ _ g => sqT_lst h1 (BtO.sqT I.dice b1 g)).app (.cons (rv.byT hr fun _ _ g => sqT_lst h1 g) .nil)
end
end K0

namespace K0
open PySem L2 Evl LamX
/-! ### _law_met of k03 -/
def spotW (n : Nat) : Str := "spot " ++ Str.ofString (toString (n : Int))
def EK3 (A : Ad) : EKT := fun r cls dd H => (cls = .ref A.EInvalidOperation ∧ r = wordsD "refused" "operation") ∨
  (cls = .ref A.EParseError ∧ ∃ b v, dd = some b ∧ H b = some (.xd [("spot", v)]) ∧ ((v = .non ∧ r = wordsD "refused" "spot None") ∨ ∃ n : Nat, v = .int (n : Int) ∧ n ≤ 100000 ∧ r = wordsD "refused" (spotW n)))
abbrev fine3 : K0.D := .tup [.str "fine"]
def TF3 : Hp → VK → Prop := fun H Q => tTup (tCons (tC (.str "fine")) tNil) ([] : L2.St) H Q
theorem tf3 {K : PySem.W.Frag} (H : Hp) (Q : VK) (k : RetR K fine3 H Q) : TF3 H Q := (ed_tup (K := K) (ds := [.str "fine"]) (eda_cons (ed_ev ev_c (.str _)) eda_nil) (by simp)) H (Ex.refl _) Q k
abbrev tWord3 : TS := tRet (tTup (tCons (tC (.str "refused")) (tCons (tC (.str "operation")) tNil)))
def rAddS : R2 := fun x y H Q => ∃ i j, x = .str i ∧ y = .str j ∧ i.length + j.length ≤ sizeLine ∧ Q (.str (i ++ j)) H
abbrev tSpot3 (A : Ad) (a : Addr) (cls : Value) (d : Option Addr) : TS := tRet (tTup (tCons (tC (.str "refused")) (tCons (tOp rAddS (tC (.str "spot ")) (tCB rReprI (tCons (tXf a cls d A.EParseError "spot" (tVar 1)) tNil))) tNil)))
section
variable {A : Ad} {D : Fd} {X : Cx}
theorem met_gives (T : Txt X.K X.mg A D) {q : Str} {cdg : Value} : GivesTo X N_law_met "_law_met" (defScope s_law_met) A.law_met cdg (defBody s_law_met) "call" q (TMG X.K (EK3 A) TF3) := by
  intro f c' s H Q tl act hc h
  refine ⟨_, pss_cons (ps_clauses (X := (cxOf C8.CX0 X.prog X.w X.K X.mg X.base N_law_met "_law_met" (defScope s_law_met) A.law_met cdg X.A X.stack s H C8.E0).nox) (Wz := fun _ _ _ _ => False)
      (l := [⟨.ref A.EInvalidOperation, none, fun _ _ _ => tWord3⟩, ⟨.ref A.EParseError, some 1, fun a cls d => tSpot3 A a cls d⟩])
      (tb := fun W D σ H => ∃ Ech : XK, (∀ cls d σ' H', Ech cls d H' → W cls d σ' H') ∧ σ[0]? = some (some (.ref f)) ∧ H c' = some (CodeO c' q) ∧ tl Ech H (fun _ H' => D.nx σ H'))
      rfl rfl LamX.takes0 (fun W pn xe tk _ => ?_)
      (.bare ⟨rfl, rfl, .inl T.e_InvalidOperation.g⟩ (fun _ _ _ _ _ _ _ => pss_one (ps_ret (pe_tup (pa_cons pe_str (pa_cons pe_str pa_nil)))))
        (.named ⟨rfl, rfl, .inl T.e_ParseError.g⟩ sc_law_met.nd rfl rfl (fun a oe cls d pn hz hf => pss_one (ps_ret (pe_tup (pa_cons pe_str (pa_cons (pe_op op_add_str pe_str (pe_callB cr_reprI (by rfl) T.b_repr (by decide +kernel) (pa_cons (pe_xf T.e_ParseError.x T.n_ParseErrorspot hz hf (pv 1)) pa_nil))) pa_nil))))) .nil)))
      (pss_one (ps_ret (pe_tup (pa_cons pe_str pa_nil)))), ?_⟩
  · refine pss_one ⟨fun pins s' σ H' D I h' => ?_⟩
    obtain ⟨Ech, hW, h1, h2, h3⟩ := h'
    exact (ps_expr (act W pn xe Ech _ _ tk hW)).run pins s' σ H' D I ⟨h1, h2, h3⟩
  · refine ⟨fun cls dd H' => ∃ r, EK3 A r cls dd H' ∧ RetR X.K r H' Q, fun cls d σ' H' z => ?_, rfl, hc, ?_⟩
    · obtain ⟨r, ek, k⟩ := z
      rcases ek with ⟨rfl, rfl⟩ | ⟨rfl, b, v, rfl, hb, hv⟩
      · exact ⟨true, T.m_InvalidOperation_InvalidOperation, fun _ a _ _ => s_retR (σ := σ') (ed_tup (eda_cons (ed_ev ev_c (.str _)) (eda_cons (ed_ev ev_c (.str _)) eda_nil)) (by simp)) k, fun z => by cases z⟩
      · refine ⟨false, T.m_ParseError_InvalidOperation, (fun z => by cases z), fun _ => ⟨true, T.m_ParseError_ParseError, fun _ a na hl => ?_, fun z => by cases z⟩⟩
        have h1 : (σ'.set 1 (some (V.ref a)))[1]? = some (some (V.ref a)) := by
          rw [List.getElem?_set_self (by rw [hl]; exact (by decide : 1 < N_law_met.length))]
        have go : ∀ (z w : Str), RetR X.K (wordsD "refused" w) H' Q → z.length ≤ 20000 → ("spot " : Str) ++ z = w → (∀ (G : Hp) (Q' : VK), Q' (.str z) G → rReprI [v] G Q') →
            tSpot3 A a (.ref A.EParseError) (some b) (endsC (some 1) { nx := tRet (tTup (tCons (tC (.str "fine")) tNil)) { nx := fun _ H' => Q .non H', rt := Q }, rt := Q }) (σ'.set 1 (some (.ref a))) H' := fun z w k hz hw hr => by
          refine s_retR (d := wordsD "refused" w) (ed_tup (eda_cons (ed_ev ev_c (.str _)) (eda_cons (ed_ev (v := .str w) (ev_is (ev_op ev_c (x := .str "spot ") (y := .str z) (z := .str ("spot " ++ z)) (fun H1 e1 Q1 q1 => n_cons (n_var h1 ⟨rfl, rfl, b, [("spot", v)], v, rfl, e1 _ _ hb, by simp [List.lookup], n_nil (hr _ _ (q1 H1 (Ex.refl _)))⟩)) (rv_addL (by show 5 + z.length ≤ _; omega))) (by rw [hw])) (.str _)) eda_nil)) (by simp)) k
        rcases hv with ⟨rfl, rfl⟩ | ⟨n, rfl, hn, rfl⟩
        · exact go "None" "spot None" k (by decide) (by decide +kernel) fun G Q' q => .inl ⟨rfl, q⟩
        · have hb : numB (n : Int) = true := by
            unfold numB
            rw [decide_eq_true (show (-(10 ^ 60 - 1) : Int) ≤ (n : Int) by omega), decide_eq_true (show (n : Int) ≤ (10 ^ 60 - 1 : Int) by omega)]
            rfl
          exact go _ _ k (Nat.le_trans (num_len hb).1 (by decide)) rfl fun G Q' q => .inr ⟨_, rfl, (num_len hb).2, q⟩
    · exact h
end
end K0

namespace K0
namespace G
open PySem PySem.Spec PyProof.Rows L2 Evl
/-! ### lists of data (the generic part, for laws of errors) -/
section
variable {K : PySem.W.Frag} {σ : L2.St} {H H1 : Hp} {te tl : TE} {t : TT} {vs : List Nat} {j : Nat} {Q : VK}
theorem lc_dataF {α : Type} {J : It} {Gd : Hp → Prop} {ys : List α} {f : α → V} {Pk : α → Bool} {G : α → D} (w : Walk J ys.length Gd (YAt (ys.map f))) (hG : ∀ H', Ex H1 H' → Gd H') (hz : ys.length ≤ 40000)
    (hw : ∀ x, wipe ((wipe σ vs).set j (some x)) vs = wipe σ vs)
    (ht : ∀ y H', y ∈ ys → Ex H1 H' → EvT t ((wipe σ vs).set j (some (f y))) H' (Pk y)) (he : ∀ y H', y ∈ ys → Pk y = true → Ex H1 H' → EvD K te ((wipe σ vs).set j (some (f y))) H' (G y))
    (q : ∀ p xs H2, H1 p = none → Ex H1 H2 → H2 p = some (.lst xs) → RpAll K H2 xs ((ys.filter Pk).map G) → Q (.ref p) H2) :
    ∀ Dl, H1 Dl = none → ∃ W : Nat → Nat → Hp → Prop, (∃ m, W 0 m (upd H1 Dl (.lst []))) ∧ ∀ i m H, W i m H → (J.stop i H ∧ Q (.ref Dl) H) ∨ (J.go i H ∧ ∃ Nx : Hp → Prop, (∀ H', Nx H' → ∃ m', m' < m ∧ W (i + 1) m' H') ∧
      ∀ x H', J.yld i H x H' → gName j x (wipe σ vs) H' fun σ2 H2 => wipe σ2 vs = wipe σ vs ∧ t σ2 H2 fun b H3 => if b = true then te σ2 H3 fun y H4 => ∃ acc, H4 Dl = some (.lst acc) ∧ acc.length < sizeLine ∧ Nx (upd H4 Dl (.lst (acc ++ [y]))) else Nx H3) := fun Dl hD => by
  refine lc_it w (fun i H' => i ≤ ys.length ∧ ∃ acc, H' Dl = some (.lst acc) ∧ RpAll K H' acc (((ys.take i).filter Pk).map G) ∧ Ex H1 H') ⟨Nat.zero_le _, [], upd_same, .nil, Ex.new hD⟩ (fun i H' _ p => hG H' p.2.choose_spec.2.2) (fun i x H' H'' hi p y => ?_) (fun H' p => ?_)
  · obtain ⟨_, acc, p1, p2, p3⟩ := p
    obtain ⟨rfl, hx⟩ := y
    rw [List.getElem?_map, List.getElem?_eq_getElem hi] at hx
    have hx' : f ys[i] = x := Option.some.inj hx
    subst hx'
    have hm : ys[i] ∈ ys := List.getElem_mem hi
    have et : ys.take (i + 1) = ys.take i ++ [ys[i]] := by rw [List.take_succ, List.getElem?_eq_getElem hi]; rfl
    refine ⟨hw _, ht ys[i] H'' hm p3 H'' (Ex.refl _) _ fun H3 e3 => ?_⟩
    have hal : acc.length ≤ i := by
      rw [p2.len, List.length_map]
      refine Nat.le_trans (List.length_filter_le _ _) ?_
      rw [List.length_take]
      omega
    cases hk : Pk ys[i] with
    | true =>
      rw [if_pos rfl]
      refine he ys[i] H3 hm hk (p3.trans e3) H3 (Ex.refl _) _ fun v H4 e4 hv => ?_
      have h4 := e4 _ _ (e3 _ _ p1)
      refine ⟨acc, h4, sz_lt (by omega), hi, acc ++ [v], upd_same, ?_, Ex.mut ((p3.trans e3).trans e4) hD⟩
      rw [et, List.filter_append, List.map_append, show [ys[i]].filter Pk = [ys[i]] from by rw [List.filter_cons, if_pos hk]; rfl]
      exact ((p2.ex (e3.trans e4)).app (.cons hv .nil)).exL (ExL.upd h4)
    | false =>
      rw [if_neg (by decide)]
      refine ⟨hi, acc, e3 _ _ p1, ?_, p3.trans e3⟩
      rw [et, List.filter_append, show [ys[i]].filter Pk = [] from by rw [List.filter_cons, if_neg (by rw [hk]; decide)]; rfl, List.append_nil]
      exact p2.ex e3
  · obtain ⟨_, acc, p1, p2, p3⟩ := p
    rw [List.take_length] at p2
    exact q Dl acc H' hD p3 p1 p2
/-- .. as what evaluates to a new list of data, over a list that stands -/
theorem edl_listF {α : Type} {a : Addr} {ys : List α} {f : α → V} {Pk : α → Bool} {G : α → D} (h : Ev tl σ H (.ref a)) (hx : SqL K H a (ys.map f)) (hz : ys.length ≤ 40000) (hw : ∀ x, wipe ((wipe σ vs).set j (some x)) vs = wipe σ vs)
    (ht : ∀ y H', y ∈ ys → Ex H H' → EvT t ((wipe σ vs).set j (some (f y))) H' (Pk y)) (he : ∀ y H', y ∈ ys → Pk y = true → Ex H H' → EvD K te ((wipe σ vs).set j (some (f y))) H' (G y)) :
    EvDL K (tLc (iList K tl) (gName j) t te vs) σ H ((ys.filter Pk).map G) := fun H0 e Q q => h H0 e _ fun H1 e1 => by
  have wk := walk_list (K := K) (a := a) (xs := ys.map f)
  rw [List.length_map] at wk
  exact ⟨a, rfl, ⟨_, ex_l (e.trans e1) hx⟩, lc_dataF wk (fun H' e' => ex_l ((e.trans e1).trans e') hx) hz hw (fun y H' hy e' => ht y H' hy ((e.trans e1).trans e')) (fun y H' hy hk e' => he y H' hy hk ((e.trans e1).trans e')) fun p xs H2 hp e2 h2 r => q p xs H2 (fresh_back e1 hp) (e1.trans e2) h2 r⟩
end
section
variable {K : PySem.W.Frag} {σ : L2.St} {H H' : Hp} {te ta tb : TE} {a : Addr} {ds es : List D} {M : Hp → V → Prop} {n : Nat}
theorem edl_cat (h1 : EvDL K ta σ H ds) (h2 : EvDL K tb σ H es) (l : ds.length + es.length ≤ 100000) : EvDL K (tOp rCat ta tb) σ H (ds ++ es) := fun H1 e Q q =>
  h1 H1 e _ fun p xs H2 hp e2 h3 r3 => h2 H2 (e.trans e2) _ fun p' ys H3 hp' e3 h4 r4 => ⟨p, p', xs, ys, rfl, rfl, e3 _ _ h3, h4, by rw [r3.len, r4.len]; exact sz_of l, fun q' hq => q q' _ _ (fresh_back (e2.trans e3) hq) ((e2.trans e3).trans (Ex.new hq)) upd_same (((r3.ex e3).app r4).ex (Ex.new hq))⟩
theorem edl_lst {tr : TA} (h : EvDA K tr σ H ds) (l : ds.length ≤ 1000) : EvDL K (tLst tr) σ H ds := fun H1 e Q q =>
  h H1 e _ fun vs H2 e2 r2 => ⟨by rw [r2.len]; exact sz_of (by omega), fun p hp => q p vs _ (fresh_back e2 hp) (e2.trans (Ex.new hp)) upd_same (r2.ex (Ex.new hp))⟩
theorem ev_eqDL {a : Addr} {xs : List V} {n : Nat} (h1 : Ev ta σ H (.ref a)) (hx : H a = some (.lst xs)) (rx : RpAll K H xs ds) (h2 : EvDL K tb σ H es) (fd : ∀ d ∈ ds, d.fine n = true) (fe : ∀ d ∈ es, d.fine n = true) (hn : n + 1 ≤ 64) :
    Ev (tOp (rEqD K) ta tb) σ H (.bl (PyData.eqvAll (K0.D.pyL ds) (K0.D.pyL es))) := fun H1 e Q q => h1 H1 e _ fun H2 e2 => h2 H2 (e.trans e2) _ fun p ys H3 hp e3 h3 ry =>
  ⟨.list (K0.D.pyL ds), .list (K0.D.pyL es), dpL (((e.trans e2).trans e3) _ _ hx) (rx.ex ((e.trans e2).trans e3)) (fine_all ds fd).1, dpL h3 ry (fine_all es fe).1, shapedL_of fd hn, shapedL_of fe hn, q H3 (e2.trans e3)⟩
/-- two new lists of data compared -/
theorem ev_neLN {n : Nat} (h1 : EvDL K ta σ H ds) (h2 : EvDL K tb σ H es) (fd : ∀ d ∈ ds, d.fine n = true) (fe : ∀ d ∈ es, d.fine n = true) (hn : n + 1 ≤ 64) :
    Ev (tOp (rNeD K) ta tb) σ H (.bl (!PyData.eqvAll (K0.D.pyL ds) (K0.D.pyL es))) := fun H1 e Q q => h1 H1 e _ fun p0 xs H2 hp0 e2 hx rx => h2 H2 (e.trans e2) _ fun p ys H3 hp e3 h3 ry =>
  ⟨.list (K0.D.pyL ds), .list (K0.D.pyL es), dpL (e3 _ _ hx) (rx.ex e3) (fine_all ds fd).1, dpL h3 ry (fine_all es fe).1, shapedL_of fd hn, shapedL_of fe hn, q H3 (e2.trans e3)⟩
theorem q_asgQ {M : Hp → V → Prop} {D : Ends} {tz : TS} {i : Nat} (h : EvQL M te σ H n) (k : ∀ p xs H1, H p = none → Ex H H1 → H1 p = some (.lst xs) → (∀ v ∈ xs, M H1 v) → xs.length = n → tz D (σ.set i (some (.ref p))) H1) : tSeq (tAsg te (gName i)) tz D σ H :=
  h H (Ex.refl _) _ fun p xs H1 hp e1 h1 ms l => k p xs H1 hp e1 h1 ms l
theorem q_asgDL {D : Ends} {tz : TS} {i : Nat} (h : EvDL K te σ H ds) (k : ∀ p xs H1, H p = none → Ex H H1 → H1 p = some (.lst xs) → RpAll K H1 xs ds → tz D (σ.set i (some (.ref p))) H1) : tSeq (tAsg te (gName i)) tz D σ H :=
  h H (Ex.refl _) _ fun p xs H1 hp e1 h1 r => k p xs H1 hp e1 h1 r
/-- texts -/
theorem strs_of {xs : List V} {ws : List Str} (h : RpAll K H xs (ws.map D.str)) : xs = ws.map V.str := by
  induction ws generalizing xs with
  | nil => cases h; rfl
  | cons z ws ih =>
    cases h with
    | cons a b =>
      cases a
      rw [List.map_cons, ih b]
/-- a list of one, some times over -/
theorem edl_rep {d : D} {k : Nat} (h : EvD K te σ H d) (hk : k ≤ 1000) : EvDL K (tOp rRep (tLst (tCons te tNil)) (tC (.int (k : Int)))) σ H (List.replicate k d) := fun G e Q q =>
  edl_lst (eda_cons h eda_nil) (by simp) G e _ fun p xs G1 hp e1 h1 r => by
    cases r with
    | cons r0 r1 =>
      cases r1
      rename_i v
      refine ⟨p, (k : Int), [v], rfl, rfl, h1, by omega, by omega, sz_of (by simp; omega), fun t ht => q t _ _ (fresh_back e1 ht) (e1.trans (Ex.new ht)) upd_same ?_⟩
      have key : ∀ m, RpAll K G1 (List.replicate m v) (List.replicate m d) := fun m => by
        induction m with
        | zero => exact .nil
        | succ m ih => exact .cons r0 ih
      have hz : (List.replicate (k : Int).toNat [v]).flatten = List.replicate k v := by
        rw [Int.toNat_natCast]
        clear q r0 key ht h1 hp e1
        induction k with
        | zero => rfl
        | succ m ih => rw [List.replicate_succ, List.flatten_cons, ih (by omega), List.replicate_succ]; rfl
      rw [hz]
      exact (key k).ex (Ex.new ht)
theorem eqvAll_same {ds : List D} (h : D.cleanL ds = true) : PyData.eqvAll (D.pyL ds) (D.pyL ds) = true := eqvAll_self ds h
end
end G
end K0

namespace K0
open PySem L2 Evl LamX
/-! ### k03: the law's own -/
def due3 (n : Nat) : List Str := List.replicate 7 ("operation" : Str) ++ [("spot None" : Str), spotW n]
def OddV (K : PySem.W.Frag) (H : Hp) (v : V) : Prop := ∃ d, Rp K H v d ∧ d.size ≤ 1000 ∧ d.plain 12 = false
def NoStr (K : PySem.W.Frag) (H : Hp) (v : V) : Prop := ∃ d, Rp K H v d ∧ d.isStr = false
def NoTup (K : PySem.W.Frag) (H : Hp) (v : V) : Prop := ∃ d, Rp K H v d ∧ d.size ≤ 1000 ∧ (d.plain 12 && d.isTup) = false
def badT (z : Str) (n : Nat) : Bool := decide (z.length ≤ 100) && decide (n ≤ 3) && match rdAll z.cps.toList with
  | .error e => decide (e = n)
  | .ok _ => false
def BadT (K : PySem.W.Frag) (H : Hp) (v : V) : Prop := ∃ (z : Str) (n : Nat), Rp K H v (.tup [.str z, .int (n : Int)]) ∧ badT z n = true
theorem plain_upG : ∀ {n : Nat} {d : K0.D}, d.plain n = true → d.plain (n + 1) = true
  | 0, d, h => by
    cases d with
    | tup ds => cases h
    | _ => exact h
  | n + 1, .tup ds, h => List.all_eq_true.mpr fun d hd => plain_upG (List.all_eq_true.mp (show ds.all (K0.D.plain n) = true from h) d hd)
  | n + 1, .non, h => h
  | n + 1, .bl _, h => h
  | n + 1, .int _, h => h
  | n + 1, .str _, h => h
  | n + 1, .oth, h => h
theorem badT_ok {z : Str} {n : Nat} (h : badT z n = true) : z.length ≤ 100 ∧ n ≤ 3 ∧ rdAll z.cps.toList = .error n := by
  unfold badT at h
  have h1 := Bool.and_eq_true_iff.mp h
  have h2 := Bool.and_eq_true_iff.mp h1.1
  refine ⟨of_decide_eq_true h2.1, of_decide_eq_true h2.2, ?_⟩
  have h3 := h1.2
  cases hr : rdAll z.cps.toList with
  | error e =>
    rw [hr] at h3
    rw [show e = n from of_decide_eq_true h3]
  | ok d =>
    rw [hr] at h3
    cases h3
section
variable {P : Program} {w : World} {K : PySem.W.Frag} {mg : Str → Option Value} {base : Heap} {A : Ad} {D : Fd} {ca : Ca} {σ : L2.St} {H : Hp} {te : TE} {o : Option Addr} {d : K0.D}
theorem mOdd : MonoN (OddV K) := ⟨fun e ⟨d, r, s, f⟩ => ⟨d, r.extN e, s, f⟩⟩
theorem mNoStr : MonoN (NoStr K) := ⟨fun e ⟨d, r, f⟩ => ⟨d, r.extN e, f⟩⟩
theorem mNoTup : MonoN (NoTup K) := ⟨fun e ⟨d, r, s, f⟩ => ⟨d, r.extN e, s, f⟩⟩
theorem mBad : MonoN (BadT K) := ⟨fun e ⟨z, n, r, f⟩ => ⟨z, n, r.extN e, f⟩⟩
theorem oddq (h : EvH K o te σ H d) (s : d.size ≤ 1000) (p : d.plain 12 = false) : EvQ (Off o (OddV K)) te σ H := h_q h fun _ _ r => ⟨d, r, s, p⟩
theorem nstq (h : EvH K o te σ H d) (p : d.isStr = false) : EvQ (Off o (NoStr K)) te σ H := h_q h fun _ _ r => ⟨d, r, p⟩
theorem ntuq (h : EvH K o te σ H d) (s : d.size ≤ 1000) (p : (d.plain 12 && d.isTup) = false) : EvQ (Off o (NoTup K)) te σ H := h_q h fun _ _ r => ⟨d, r, s, p⟩
theorem badq {z : Str} {n : Nat} {ta tb : TE} (al : Al o H) (ha : EvH K o ta σ H (.str z)) (hb : EvH K o tb σ H (.int (n : Int))) (p : badT z n = true) : EvQ (Off o (BadT K)) (tTup (tCons ta (tCons tb tNil))) σ H :=
  h_q (h_tup al (ha_cons ha (ha_cons hb ha_nil)) (by simp)) fun _ _ r => ⟨z, n, r, p⟩
def sp_law_right (K : PySem.W.Frag) (ca : Ca) : Sp := fun vs H Q _ => ∃ a, vs = [.ref a] ∧ DiceAt H a ∧ Tabs ca.tabs H ∧ ∀ H', BtO (some a) H H' → DiceAt H' a → Tabs ca.tabs H' → Q (.bl true) H'
theorem ok_law_right (T : Txt K mg A D) (HL : LamH base mg D ca) : FnOk P w K mg base CX0 43 A.law_right D.law_right ["dice"] (sp_law_right K ca) := by
  have G_law_pick : FnOk P w K mg base CX0 2 A.law_pick D.law_pick ["dice", "items"] (sp_law_pick K) := ok_law_pick T
  have G_is_less := ok_is_lessR (P := P) (w := w) (base := base) T
  have G_ordered := ok_orderedR (P := P) (w := w) (base := base) T
  have G_write_plain := ok_write_plain (P := P) (w := w) (base := base) T
  have G_read_plain := ok_read_plain (P := P) (w := w) (base := base) T
  refine okL T.F_law_right HL.c_law_right sc_law_right (fun vs H Q E h => by obtain ⟨a, rfl, _⟩ := h; rfl) (fun A0 outer s H vs Q E hr h => ?_)
  refine ⟨_, (pss_cons (ps_set (i := 1) sc_law_right.nd rfl (Or.inr rfl) (pe_call G_law_pick (hr.mono (by decide)) rfl T.g_law_pick T.F_law_pick.kp T.b_law_pick .nil pass0 (pa_cons (pv 0) (pa_cons (pe_lst (pa_cons pe_bl (pa_cons (pe_lst (pa_cons pe_int pa_nil)) (pa_cons pe_dnewK (pa_cons pe_str (pa_cons pe_str (pa_cons (pe_op op_pow pe_int pe_int) (pa_cons (pe_tup (pa_cons pe_int (pa_cons pe_bl pa_nil))) (pa_cons (pe_tup (pa_cons pe_int (pa_cons (pe_tup (pa_cons pe_str (pa_cons (pe_lst (pa_cons pe_int pa_nil)) pa_nil))) pa_nil))) (pa_cons (pe_op op_mulS pe_str pe_int) (pa_cons (pe_tup (pa_cons (pe_tup (pa_cons (pe_tup (pa_cons (pe_tup (pa_cons (pe_tup (pa_cons (pe_tup (pa_cons (pe_tup (pa_cons (pe_tup (pa_cons (pe_tup (pa_cons (pe_tup (pa_cons (pe_tup (pa_cons (pe_tup (pa_cons (pe_tup (pa_cons (pe_tup pa_nil) pa_nil)) pa_nil)) pa_nil)) pa_nil)) pa_nil)) pa_nil)) pa_nil)) pa_nil)) pa_nil)) pa_nil)) pa_nil)) pa_nil)) pa_nil)) pa_nil))))))))))) pa_nil))))
  (pss_cons (ps_set (i := 2) sc_law_right.nd rfl (Or.inr rfl) (pe_call G_law_pick (hr.mono (by decide)) rfl T.g_law_pick T.F_law_pick.kp T.b_law_pick .nil pass0 (pa_cons (pv 0) (pa_cons (pe_lst (pa_cons pe_non (pa_cons pe_int (pa_cons (pe_tup (pa_cons pe_str pa_nil)) (pa_cons (pe_lst (pa_cons pe_str pa_nil)) (pa_cons pe_bl (pa_cons pe_dnewK pa_nil))))))) pa_nil))))
  (pss_cons (ps_asg (pe_call G_law_pick (hr.mono (by decide)) rfl T.g_law_pick T.F_law_pick.kp T.b_law_pick .nil pass0 (pa_cons (pv 0) (pa_cons (pe_lst (pa_cons (pe_tup (pa_cons pe_str (pa_cons pe_int pa_nil))) (pa_cons (pe_tup (pa_cons pe_str (pa_cons pe_int pa_nil))) (pa_cons (pe_tup (pa_cons pe_str (pa_cons pe_int pa_nil))) (pa_cons (pe_tup (pa_cons pe_str (pa_cons pe_int pa_nil))) (pa_cons (pe_tup (pa_cons pe_str (pa_cons pe_int pa_nil))) (pa_cons (pe_tup (pa_cons pe_str (pa_cons pe_int pa_nil))) (pa_cons (pe_tup (pa_cons pe_str (pa_cons pe_int pa_nil))) (pa_cons (pe_tup (pa_cons pe_str (pa_cons pe_int pa_nil))) (pa_cons (pe_tup (pa_cons pe_str (pa_cons pe_int pa_nil))) (pa_cons (pe_tup (pa_cons pe_str (pa_cons pe_int pa_nil))) pa_nil))))))))))) pa_nil))) (pg_tup rfl (pgs_cons (pg_name (i := 3) sc_law_right.nd rfl (Or.inr rfl)) (pgs_cons (pg_name (i := 4) sc_law_right.nd rfl (Or.inl rfl)) pgs_nil))))
  (pss_cons (ps_set (i := 5) sc_law_right.nd rfl (Or.inl rfl) (pe_lst (pa_cons (pe_lmG (TT := ca.tabs) (k := 40) T.g_law_met T.F_law_met T.b_law_met sc_law_met rfl (Or.inl rfl) (met_gives T) HL.t_law_right rfl HL.m_law_right HL.u_law_right (hr.mono (by decide)) (show LamX.lamSB (defScope s_law_right) _ = true by decide +kernel) rfl rfl (fun _ _ _ _ _ => rfl) (fun A1 o1 s1 H1 E1 f1 c1 hr => (pe_call G_is_less (hr.mono (by decide)) rfl T.g_is_less T.F_is_less.kp T.b_is_less .nil (passes_call (takes_of rfl rfl rfl rfl) (fun _ _ _ _ z => z)) (pa_cons (pv 1) (pa_cons pe_int pa_nil))))) pa_nil)))
  (pss_cons (ps_expr (pe_bm PySem.F.plainAttrs_list PySem.F.slot_list_append PySem.F.type_list_append mt_append (pv 5) (pa_cons (pe_lmG (TT := ca.tabs) (k := 40) T.g_law_met T.F_law_met T.b_law_met sc_law_met rfl (Or.inl rfl) (met_gives T) HL.t_law_right rfl HL.m_law_right HL.u_law_right (hr.mono (by decide)) (show LamX.lamSB (defScope s_law_right) _ = true by decide +kernel) rfl rfl (fun _ _ _ _ _ => rfl) (fun A1 o1 s1 H1 E1 f1 c1 hr => (pe_call G_is_less (hr.mono (by decide)) rfl T.g_is_less T.F_is_less.kp T.b_is_less .nil (passes_call (takes_of rfl rfl rfl rfl) (fun _ _ _ _ z => z)) (pa_cons pe_int (pa_cons (pv 1) pa_nil))))) pa_nil)))
  (pss_cons (ps_expr (pe_bm PySem.F.plainAttrs_list PySem.F.slot_list_append PySem.F.type_list_append mt_append (pv 5) (pa_cons (pe_lmG (TT := ca.tabs) (k := 40) T.g_law_met T.F_law_met T.b_law_met sc_law_met rfl (Or.inl rfl) (met_gives T) HL.t_law_right rfl HL.m_law_right HL.u_law_right (hr.mono (by decide)) (show LamX.lamSB (defScope s_law_right) _ = true by decide +kernel) rfl rfl (fun _ _ _ _ _ => rfl) (fun A1 o1 s1 H1 E1 f1 c1 hr => (pe_call G_is_less (hr.mono (by decide)) rfl T.g_is_less T.F_is_less.kp T.b_is_less .nil (passes_call (takes_of rfl rfl rfl rfl) (fun _ _ _ _ z => z)) (pa_cons (pv 1) (pa_cons (pv 1) pa_nil))))) pa_nil)))
  (pss_cons (ps_expr (pe_bm PySem.F.plainAttrs_list PySem.F.slot_list_append PySem.F.type_list_append mt_append (pv 5) (pa_cons (pe_lmG (TT := ca.tabs) (k := 40) T.g_law_met T.F_law_met T.b_law_met sc_law_met rfl (Or.inl rfl) (met_gives T) HL.t_law_right rfl HL.m_law_right HL.u_law_right (hr.mono (by decide)) (show LamX.lamSB (defScope s_law_right) _ = true by decide +kernel) rfl rfl (fun _ _ _ _ _ => rfl) (fun A1 o1 s1 H1 E1 f1 c1 hr => (pe_call G_ordered (hr.mono (by decide)) rfl T.g_ordered T.F_ordered.kp T.b_ordered .nil (passes_call (takes_of rfl rfl rfl rfl) (fun _ _ _ _ z => z)) (pa_cons (pv 1) pa_nil)))) pa_nil)))
  (pss_cons (ps_expr (pe_bm PySem.F.plainAttrs_list PySem.F.slot_list_append PySem.F.type_list_append mt_append (pv 5) (pa_cons (pe_lmG (TT := ca.tabs) (k := 40) T.g_law_met T.F_law_met T.b_law_met sc_law_met rfl (Or.inl rfl) (met_gives T) HL.t_law_right rfl HL.m_law_right HL.u_law_right (hr.mono (by decide)) (show LamX.lamSB (defScope s_law_right) _ = true by decide +kernel) rfl rfl (fun _ _ _ _ _ => rfl) (fun A1 o1 s1 H1 E1 f1 c1 hr => (pe_call G_ordered (hr.mono (by decide)) rfl T.g_ordered T.F_ordered.kp T.b_ordered .nil (passes_call (takes_of rfl rfl rfl rfl) (fun _ _ _ _ z => z)) (pa_cons (pe_tup (pa_cons (pv 1) pa_nil)) pa_nil)))) pa_nil)))
  (pss_cons (ps_expr (pe_bm PySem.F.plainAttrs_list PySem.F.slot_list_append PySem.F.type_list_append mt_append (pv 5) (pa_cons (pe_lmG (TT := ca.tabs) (k := 40) T.g_law_met T.F_law_met T.b_law_met sc_law_met rfl (Or.inl rfl) (met_gives T) HL.t_law_right rfl HL.m_law_right HL.u_law_right (hr.mono (by decide)) (show LamX.lamSB (defScope s_law_right) _ = true by decide +kernel) rfl rfl (fun _ _ _ _ _ => rfl) (fun A1 o1 s1 H1 E1 f1 c1 hr => (pe_call G_ordered (hr.mono (by decide)) rfl T.g_ordered T.F_ordered.kp T.b_ordered .nil (passes_call (takes_of rfl rfl rfl rfl) (fun _ _ _ _ z => z)) (pa_cons (pe_call G_law_pick (hr.mono (by decide)) rfl T.g_law_pick T.F_law_pick.kp T.b_law_pick .nil pass0 (pa_cons (pv 0) (pa_cons (pe_lst (pa_cons pe_int (pa_cons pe_str (pa_cons pe_non (pa_cons (pe_lst (pa_cons pe_int pa_nil)) pa_nil))))) pa_nil))) pa_nil)))) pa_nil)))
  (pss_cons (ps_expr (pe_bm PySem.F.plainAttrs_list PySem.F.slot_list_append PySem.F.type_list_append mt_append (pv 5) (pa_cons (pe_lmG (TT := ca.tabs) (k := 40) T.g_law_met T.F_law_met T.b_law_met sc_law_met rfl (Or.inl rfl) (met_gives T) HL.t_law_right rfl HL.m_law_right HL.u_law_right (hr.mono (by decide)) (show LamX.lamSB (defScope s_law_right) _ = true by decide +kernel) rfl rfl (fun _ _ _ _ _ => rfl) (fun A1 o1 s1 H1 E1 f1 c1 hr => (pe_call G_write_plain (hr.mono (by decide)) rfl T.g_write_plain T.F_write_plain.kp T.b_write_plain .nil (passes_call (takes_of rfl rfl rfl rfl) (fun _ _ _ _ z => z)) (pa_cons (pv 1) pa_nil)))) pa_nil)))
  (pss_cons (ps_expr (pe_bm PySem.F.plainAttrs_list PySem.F.slot_list_append PySem.F.type_list_append mt_append (pv 5) (pa_cons (pe_lmG (TT := ca.tabs) (k := 40) T.g_law_met T.F_law_met T.b_law_met sc_law_met rfl (Or.inl rfl) (met_gives T) HL.t_law_right rfl HL.m_law_right HL.u_law_right (hr.mono (by decide)) (show LamX.lamSB (defScope s_law_right) _ = true by decide +kernel) rfl rfl (fun _ _ _ _ _ => rfl) (fun A1 o1 s1 H1 E1 f1 c1 hr => (pe_call G_read_plain (hr.mono (by decide)) rfl T.g_read_plain T.F_read_plain.kp T.b_read_plain .nil (passes_call (takes_of rfl rfl rfl rfl) (fun _ _ _ _ z => z)) (pa_cons (pv 2) pa_nil)))) pa_nil)))
  (pss_cons (ps_expr (pe_bm PySem.F.plainAttrs_list PySem.F.slot_list_append PySem.F.type_list_append mt_append (pv 5) (pa_cons (pe_lmG (TT := ca.tabs) (k := 40) T.g_law_met T.F_law_met T.b_law_met sc_law_met rfl (Or.inl rfl) (met_gives T) HL.t_law_right rfl HL.m_law_right HL.u_law_right (hr.mono (by decide)) (show LamX.lamSB (defScope s_law_right) _ = true by decide +kernel) rfl rfl (fun _ _ _ _ _ => rfl) (fun A1 o1 s1 H1 E1 f1 c1 hr => (pe_call G_read_plain (hr.mono (by decide)) rfl T.g_read_plain T.F_read_plain.kp T.b_read_plain .nil (passes_call (takes_of rfl rfl rfl rfl) (fun _ _ _ _ z => z)) (pa_cons (pv 3) pa_nil)))) pa_nil)))
  (pss_cons (ps_set (i := 6) sc_law_right.nd rfl (Or.inl rfl) (pe_op op_cat (pe_op op_rep (pe_lst (pa_cons pe_str pa_nil)) pe_int) (pe_lst (pa_cons pe_str (pa_cons (pe_op op_add_str pe_str (pe_callTy call_str_int (by rfl) T.b_str (by decide +kernel) (pa_cons (pv 4) pa_nil))) pa_nil)))))
  (pss_one (ps_ret (pe_cmpR (op_eqD hr.units) (pv 5) (pe_lc (own := [("word", 7)]) (g := gName 7) (tt := tYes) rfl sc_law_right.nd (pi_list (pv 6)) (blkOk_by (own := [("word", 7)]) (N := N_law_right) (sc := defScope s_law_right) (by decide +kernel)) (fun _ _ _ _ _ => by exact pg_name (i := 7) sc_law_right.nd rfl (Or.inl rfl)) (fun _ _ _ _ _ => by exact pts_nil) (fun _ _ _ _ _ => by exact (pe_tup (pa_cons pe_str (pa_cons (pv 7) pa_nil))))) (nomark _))))))))))))))))), ?_⟩
  obtain ⟨a, rfl, hd, ht, k⟩ := h
  have al := Al.of hd
  have mo := (mOdd (K := K)).off (o := some a)
  have hT : ∀ {te : TE} {d : K0.D} {σ : L2.St}, EvH K (some a) te σ H d → EvH K (some a) (tTup (tCons te tNil)) σ H (.tup [d]) := fun h => h_tup al (ha_cons h ha_nil) (by simp)
  refine q_pick (N := OddV K) mOdd rfl hd (ql_lst mo (qa_cons mo (oddq h_bl (by decide) (by decide +kernel)) (qa_cons mo (oddq (h_lst al (ha_cons h_int ha_nil) (by simp)) (by decide) (by decide +kernel)) (qa_cons mo (oddq (h_dict0 al) (by decide) (by decide +kernel))
    (qa_cons mo (oddq h_str (by decide) (by decide +kernel)) (qa_cons mo (oddq h_str (by decide) (by decide +kernel))
    (qa_cons mo (oddq (h_ev (ev_op ev_c ev_c (rv_pow (n := 60) (by decide) (by decide))) fun _ => .int _) (by decide) (by decide +kernel))
    (qa_cons mo (oddq (h_tup al (ha_cons h_int (ha_cons h_bl ha_nil)) (by simp)) (by decide) (by decide +kernel))
    (qa_cons mo (oddq (h_tup al (ha_cons h_int (ha_cons (h_tup al (ha_cons h_str (ha_cons (h_lst al (ha_cons h_int ha_nil) (by simp)) ha_nil)) (by simp)) ha_nil)) (by simp)) (by decide) (by decide +kernel))
    (qa_cons mo (fun G e Q q => ⟨"x", 3001, rfl, rfl, by decide, by decide, by decide, fun z hz => q (.str z) G (Ex.refl _) ⟨.str z, .str z, by show 1 + z.length / 100 ≤ 1000; omega, by
        show (decide ((z.length : Int) ≤ 3000) && _) = false
        rw [decide_eq_false (by omega)]
        rfl⟩⟩)
    (qa_cons mo (oddq (hT (hT (hT (hT (hT (hT (hT (hT (hT (hT (hT (hT (hT (h_tup al ha_nil (by simp)))))))))))))))
      (by decide) (by decide +kernel)) qa_nil)))))))))) (by decide)) (by omega) (by omega) fun xo H1 b1 d1 m1 => ?_
  have al1 := Al.of d1
  have ms := (mNoStr (K := K)).off (o := some a)
  refine q_pick (N := NoStr K) mNoStr rfl d1 (ql_lst ms (qa_cons ms (nstq h_non rfl) (qa_cons ms (nstq h_int rfl) (qa_cons ms (nstq (h_tup al1 (ha_cons h_str ha_nil) (by simp)) rfl) (qa_cons ms (nstq (h_lst al1 (ha_cons h_str ha_nil) (by simp)) rfl)
    (qa_cons ms (nstq h_bl rfl) (qa_cons ms (nstq (h_dict0 al1) rfl) qa_nil)))))) (by decide)) (by omega) (by omega) fun xt H2 b2 d2 m2 => ?_
  have al2 := Al.of d2
  have mb := (mBad (K := K)).off (o := some a)
  refine q_asgG (c_pick (N := BadT K) mBad rfl d2 (ql_lst mb (qa_cons mb (badq (n := 0) al2 h_str h_int (by decide +kernel)) (qa_cons mb (badq (n := 1) al2 h_str h_int (by decide +kernel)) (qa_cons mb (badq (n := 2) al2 h_str h_int (by decide +kernel)) (qa_cons mb (badq (n := 1) al2 h_str h_int (by decide +kernel))
    (qa_cons mb (badq (n := 0) al2 h_str h_int (by decide +kernel)) (qa_cons mb (badq (n := 3) al2 h_str h_int (by decide +kernel)) (qa_cons mb (badq (n := 2) al2 h_str h_int (by decide +kernel)) (qa_cons mb (badq (n := 0) al2 h_str h_int (by decide +kernel))
    (qa_cons mb (badq (n := 1) al2 h_str h_int (by decide +kernel)) (qa_cons mb (badq (n := 2) al2 h_str h_int (by decide +kernel)) qa_nil)))))))))) (by decide)) (by omega) (by omega) fun xw H3 b3 d3 m3 => ?_)
  obtain ⟨z, n, hzr, hzb⟩ := m3
  obtain ⟨hzl, hn, hrd⟩ := badT_ok hzb
  obtain ⟨pw, vw, rfl, hpw, hvw⟩ := hzr.pair
  cases hvw
  refine ⟨pw, _, rfl, sqT_extN ext_of hpw, rfl, _, _, rfl, _, _, rfl, rfl, ?_⟩
  have b13 : BtO (some a) H1 H3 := (BtO.ofB b2).trans (BtO.ofB b3)
  have b03 : BtO (some a) H H3 := (BtO.ofB b1).trans b13
  have t3 : Tabs ca.tabs H3 := tabs_bt d2 b3 (tabs_bt d1 b2 (tabs_bt hd b1 ht))
  have m13 : Off (some a) (OddV K) H3 xo := Off.bt mOdd b13 m1
  have m23 : Off (some a) (NoStr K) H3 xt := Off.bt mNoStr (BtO.ofB b3) m2
  have gO : ∀ {G : Hp}, BtO (some a) H3 G → OddV K G xo := fun e => Off.get mOdd e m13
  have gS : ∀ {G : Hp}, BtO (some a) H3 G → NoStr K G xt := fun e => Off.get mNoStr e m23
  have hop : ∀ {G : Hp} {E : XK}, DiceO (some a) G → Tabs ca.tabs G → (∀ cls dd H2, BtO (some a) G H2 → DiceO (some a) H2 → Tabs ca.tabs H2 → EK3 A (wordsD "refused" "operation") cls dd H2 → E cls dd H2) → ∀ G2, Ex G G2 → E (.ref A.EInvalidOperation) none G2 :=
    fun dG tG hE G2 e => hE _ _ G2 (BtO.ofE e) (dG.ex e) (tG.ext e) (.inl ⟨rfl, rfl⟩)
  have one : (K0.D.int 1).plain 12 = true := by decide +kernel
  refine q_told0 (K := K) (fine := fine3) (r := wordsD "refused" "operation") tf3 (DiceO.of d3) t3 (fun G E b dG tG hE Q _ => ?_) fun l H4 I4 => ?_
  · obtain ⟨d, r, s, f⟩ := gO b
    exact c_call (ea_cons (ev_var rfl) (ea_cons ev_c ea_nil)) fun G1 e1 => ⟨xo, d, .int 1, .int 1, rfl, r.ex e1, by omega, .int 1, by decide, by rw [f]; rfl, fun G2 e2 => hop dG tG hE G2 (e1.trans e2)⟩
  refine q_toldA (K := K) (fine := fine3) (r := wordsD "refused" "operation") tf3 rfl (by decide) rfl rfl I4 (fun G E b dG tG hE Q _ => ?_) fun H5 I5 => ?_
  · obtain ⟨d, r, s, f⟩ := gO b
    exact c_call (ea_cons ev_c (ea_cons (ev_var rfl) ea_nil)) fun G1 e1 => ⟨.int 1, .int 1, xo, d, rfl, .int 1, by decide, r.ex e1, by omega, by rw [f, Bool.and_false], fun G2 e2 => hop dG tG hE G2 (e1.trans e2)⟩
  refine q_toldA (K := K) (fine := fine3) (r := wordsD "refused" "operation") tf3 rfl (by decide) rfl rfl I5 (fun G E b dG tG hE Q _ => ?_) fun H6 I6 => ?_
  · obtain ⟨d, r, s, f⟩ := gO b
    exact c_call (ea_cons (ev_var rfl) (ea_cons (ev_var rfl) ea_nil)) fun G1 e1 => ⟨xo, d, xo, d, rfl, r.ex e1, by omega, r.ex e1, by omega, by rw [f]; rfl, fun G2 e2 => hop dG tG hE G2 (e1.trans e2)⟩
  refine q_toldA (K := K) (fine := fine3) (r := wordsD "refused" "operation") tf3 rfl (by decide) rfl rfl I6 (fun G E b dG tG hE Q _ => ?_) fun H7 I7 => ?_
  · obtain ⟨d, r, s, f⟩ := gO b
    exact c_call (ea_cons (ev_var rfl) ea_nil) fun G1 e1 => ⟨xo, d, rfl, r.ex e1, by omega, by rw [f]; rfl, fun G2 e2 => hop dG tG hE G2 (e1.trans e2)⟩
  refine q_toldA (K := K) (fine := fine3) (r := wordsD "refused" "operation") tf3 rfl (by decide) rfl rfl I7 (fun G E b dG tG hE Q _ => ?_) fun H8 I8 => ?_
  · obtain ⟨d, r, s, f⟩ := gO b
    have fp : (K0.D.tup [d]).plain 12 = false := by
      show ([d].all (K0.D.plain 11)) = false
      cases q : d.plain 11 with
      | true => rw [plain_upG q] at f; cases f
      | false => rw [List.all_cons, q]; rfl
    exact d_raw (n_cons ((ed_tup (K := K) (ds := [d]) (eda_cons (ed_ev (ev_var rfl) r) eda_nil) (by simp)) G (Ex.refl _) _ fun v G1 e1 rv => n_nil ⟨v, .tup [d], rfl, rv, by simp only [K0.D.size, K0.D.sizeL]; omega, by rw [fp]; rfl, fun G2 e2 => hop dG tG hE G2 (e1.trans e2)⟩))
  refine q_toldA (K := K) (fine := fine3) (r := wordsD "refused" "operation") tf3 rfl (by decide) rfl rfl I8 (fun G E b dG tG hE Q _ => ?_) fun H9 I9 => ?_
  · have mn := (mNoTup (K := K)).off (o := some a)
    have alG := Al.of dG.get
    refine d_raw (n_cons (c_pick (N := NoTup K) mNoTup rfl dG.get (ql_lst mn (qa_cons mn (ntuq h_int (by decide) (by decide +kernel)) (qa_cons mn (ntuq h_str (by decide) (by decide +kernel)) (qa_cons mn (ntuq h_non (by decide) (by decide +kernel)) (qa_cons mn (ntuq (h_lst alG (ha_cons h_int ha_nil) (by simp)) (by decide) (by decide +kernel)) qa_nil)))) (by decide)) (by omega) (by omega) fun x G2 bb d2' m2' => n_nil ?_))
    obtain ⟨d, r, s, f⟩ := m2'
    exact ⟨x, d, rfl, r.extN ext_of, by omega, f, fun G3 e3 => hE _ _ G3 ((BtO.ofB bb).trans (BtO.ofE e3)) (DiceO.of (d2'.ex e3)) ((tabs_bt dG.get bb tG).ext e3) (.inl ⟨rfl, rfl⟩)⟩
  refine q_toldA (K := K) (fine := fine3) (r := wordsD "refused" "operation") tf3 rfl (by decide) rfl rfl I9 (fun G E b dG tG hE Q _ => ?_) fun H10 I10 => ?_
  · obtain ⟨d, r, s, f⟩ := gO b
    exact c_call (ea_cons (ev_var rfl) ea_nil) fun G1 e1 => ⟨xo, d, rfl, r.ex e1, by omega, (fun z => by rw [f] at z; cases z), fun _ G2 e2 => hop dG tG hE G2 (e1.trans e2)⟩
  refine q_toldA (K := K) (fine := fine3) (r := wordsD "refused" "spot None") tf3 rfl (by decide) rfl rfl I10 (fun G E b dG tG hE Q _ => ?_) fun H11 I11 => ?_
  · obtain ⟨d, r, f⟩ := gS b
    exact c_call (ea_cons (ev_var rfl) ea_nil) fun G1 e1 => ⟨xt, d, rfl, r.ex e1, .inl ⟨f, fun dd G2 e2 h2 => hE _ _ G2 (BtO.ofE (e1.trans e2)) (dG.ex (e1.trans e2)) (tG.ext (e1.trans e2)) (.inr ⟨rfl, dd, .non, rfl, h2, .inl ⟨rfl, rfl⟩⟩)⟩⟩
  refine q_toldA (K := K) (fine := fine3) (r := wordsD "refused" (spotW n)) tf3 rfl (by decide) rfl rfl I11 (fun G E b dG tG hE Q _ => ?_) fun H12 I12 => ?_
  · exact c_call (ea_cons (ev_var rfl) ea_nil) fun G1 e1 => ⟨.str z, .str z, rfl, .str z, .inr ⟨z, rfl, by omega, by
      rw [hrd]
      exact fun dd G2 e2 h2 => hE _ _ G2 (BtO.ofE (e1.trans e2)) (dG.ex (e1.trans e2)) (tG.ext (e1.trans e2)) (.inr ⟨rfl, dd, .int (n : Int), rfl, h2, .inr ⟨n, rfl, by omega, rfl⟩⟩)⟩⟩
  have nb : numB (n : Int) = true := by
    unfold numB
    rw [decide_eq_true (show (-(10 ^ 60 - 1) : Int) ≤ (n : Int) by omega), decide_eq_true (show (n : Int) ≤ (10 ^ 60 - 1 : Int) by omega)]
    rfl
  have nl := num_len nb
  refine G.q_asgDL (K := K) (ds := List.replicate 7 (.str "operation") ++ [.str "spot None", .str (spotW n)]) (G.edl_cat (G.edl_rep (k := 7) (ed_ev ev_c (.str _)) (by decide)) (G.edl_lst (eda_cons (ed_ev ev_c (.str _)) (eda_cons (ed_ev (ev_op ev_c (ev_cb (ea_cons (ev_var rfl) ea_nil) fun G1 _ Q q => ⟨_, rfl, nl.2, q G1 (Ex.refl _)⟩) (rv_addS (by show 5 + _ ≤ _; omega))) (.str _)) eda_nil)) (by simp)) (by simp)) fun pd xd H13 hpd e13 h13 r13 => ?_
  have hxd := G.strs_of (ws := due3 n) (show RpAll K H13 xd ((due3 n).map K0.D.str) from r13)
  subst hxd
  have I13 := I12.ex e13
  obtain ⟨vs, hl, rl⟩ := I13.lst
  have fin : ∀ d ∈ ((due3 n).map (wordsD "refused")), K0.D.fine 2 d = true := fun d hd => by
    have hn4 : n = 0 ∨ n = 1 ∨ n = 2 ∨ n = 3 := by omega
    refine (List.all_eq_true (p := fun d => K0.D.fine 2 d)).mp ?_ d hd
    rcases hn4 with rfl | rfl | rfl | rfl <;> decide +kernel
  refine s_ret (ev_is (G.ev_eqDL (n := 2) (es := (due3 n).map (wordsD "refused")) (ev_var rfl) hl rl (G.edl_listF (ys := due3 n) (f := V.str) (Pk := fun _ => true) (G := wordsD "refused") (ev_var rfl) (sq_of h13) (by show 9 ≤ 40000; decide) (fun _ => rfl) (fun y H' _ _ => et_yes) (fun y H' _ _ _ => ed_tup (eda_cons (ed_ev ev_c (.str _)) (eda_cons (ed_ev (ev_var rfl) (.str y)) eda_nil)) (by simp))) (fun d hd => fin d hd) fin (by decide)) (congrArg V.bl (eqvAll_self _ rfl))) fun H14 e14 => ?_
  have I14 := I13.ex e14
  exact k H14 (b03.trans I14.bt) I14.dice.get I14.tabs
end
end K0

namespace K0
open PySem L2 Evl LamX
/-- tuples around nothing -/
def nestU : Nat → K0.D
  | 0 => .tup []
  | n + 1 => .tup [nestU n]
section
variable {P : Program} {w : World} {K : PySem.W.Frag} {mg : Str → Option Value} {base : Heap} {A : Ad} {D : Fd} {ca : Ca} {σ : L2.St} {H : Hp} {te : TE}
theorem edT {d : K0.D} (h : EvD K te σ H d) : EvD K (tTup (tCons te tNil)) σ H (.tup [d]) := ed_tup (eda_cons h eda_nil) (by simp)
def sp_law (K : PySem.W.Frag) (ca : Ca) : Sp := fun vs H Q _ => ∃ (a : Addr) (ns : List Int), vs = [.ref a] ∧ SqL K H a (ns.map V.int) ∧ ns.length ≤ 63 ∧ Tabs ca.tabs H ∧ ∀ H', Q (.bl true) H'
theorem ok_law (T : Txt K mg A D) (HL : LamH base mg D ca) : FnOk P w K mg base CX0 45 A.law D.law ["script"] (sp_law K ca) := by
  have G_law_dice : FnOk P w K mg base CX0 1 A.law_dice D.law_dice ["script", "spot"] (sp_law_dice K) := ok_law_dice T
  have G_law_right := ok_law_right (P := P) (w := w) (base := base) T HL
  have G_write_plain := ok_write_plain (P := P) (w := w) (base := base) T
  have G_write_plainG := ok_write_plainG (P := P) (w := w) (base := base) T
  obtain ⟨t_MAX_HOUSES, c_MAX_HOUSES⟩ := T.c_MAX_HOUSES
  obtain ⟨t_MAX_CIRCLE, c_MAX_CIRCLE⟩ := T.c_MAX_CIRCLE
  obtain ⟨t_MAX_CLIENTS, c_MAX_CLIENTS⟩ := T.c_MAX_CLIENTS
  obtain ⟨t_MAX_KEYS, c_MAX_KEYS⟩ := T.c_MAX_KEYS
  obtain ⟨t_MAX_SIGNS, c_MAX_SIGNS⟩ := T.c_MAX_SIGNS
  obtain ⟨t_MAX_LOT, c_MAX_LOT⟩ := T.c_MAX_LOT
  obtain ⟨t_MAX_NEST, c_MAX_NEST⟩ := T.c_MAX_NEST
  obtain ⟨t_MAX_STRING, c_MAX_STRING⟩ := T.c_MAX_STRING
  refine okL T.F_law HL.c_law sc_law (fun vs H Q E h => by obtain ⟨a, ns, rfl, _⟩ := h; rfl) (fun A0 outer s H vs Q E hr h => ?_)
  refine ⟨_, (pss_cons (ps_for PassesOwn.never rfl (pi_range1 rfl T.b_range (pa_cons (pe_callB (call_max2 rfl) (by rfl) T.b_max (by decide +kernel) (pa_cons pe_int (pa_cons (pe_callB (call_min2 rfl) (by rfl) T.b_min (by decide +kernel) (pa_cons pe_int (pa_cons (pe_callB call_len (by rfl) T.b_len (by decide +kernel) (pa_cons (pv 0) pa_nil)) pa_nil))) pa_nil))) pa_nil)) (pg_name (i := 1) sc_law.nd rfl (Or.inl rfl)) (pss_one (ps_if (pt_not (pt_val (pe_call G_law_right (hr.mono (by decide)) rfl T.g_law_right T.F_law_right.kp T.b_law_right .nil pass0 (pa_cons (pe_call G_law_dice (hr.mono (by decide)) rfl T.g_law_dice T.F_law_dice.kp T.b_law_dice .nil pass0 (pa_cons (pv 0) (pa_cons (pv 1) pa_nil))) pa_nil)))) (pss_one (ps_ret pe_bl)) pss_nil)))
  (pss_cons (ps_if (pt_cmpR (op_neD hr.units) (pe_lst (pa_cons (pe_glob (v := .int (9)) rfl c_MAX_HOUSES ⟨_, rfl⟩) (pa_cons (pe_glob (v := .int (7)) rfl c_MAX_CIRCLE ⟨_, rfl⟩) (pa_cons (pe_glob (v := .int (5)) rfl c_MAX_CLIENTS ⟨_, rfl⟩) (pa_cons (pe_glob (v := .int (24)) rfl c_MAX_KEYS ⟨_, rfl⟩) (pa_cons (pe_glob (v := .int (12)) rfl c_MAX_SIGNS ⟨_, rfl⟩) (pa_cons (pe_glob (v := .int (6)) rfl c_MAX_LOT ⟨_, rfl⟩) (pa_cons (pe_glob (v := .int (12)) rfl c_MAX_NEST ⟨_, rfl⟩) (pa_cons (pe_glob (v := .int (3000)) rfl c_MAX_STRING ⟨_, rfl⟩) pa_nil))))))))) (pe_lst (pa_cons pe_int (pa_cons pe_int (pa_cons pe_int (pa_cons pe_int (pa_cons pe_int (pa_cons pe_int (pa_cons pe_int (pa_cons pe_int pa_nil))))))))) (nomark _)) (pss_one (ps_ret pe_bl)) pss_nil)
  (pss_one (ps_ret (pe_and (pe_cmpR (op_eqD hr.units) (pe_lmG (TT := ca.tabs) (k := 40) T.g_law_met T.F_law_met T.b_law_met sc_law_met rfl (Or.inl rfl) (met_gives T) HL.t_law rfl HL.m_law HL.u_law (hr.mono (by decide)) (show LamX.lamSB (defScope s_law) _ = true by decide +kernel) rfl rfl (fun _ _ _ _ _ => rfl) (fun A1 o1 s1 H1 E1 f1 c1 hr => (pe_call G_write_plain (hr.mono (by decide)) rfl T.g_write_plain T.F_write_plain.kp T.b_write_plain .nil (passes_call (takes_of rfl rfl rfl rfl) (fun _ _ _ _ z => z)) (pa_cons (pe_tup (pa_cons (pe_tup (pa_cons (pe_tup (pa_cons (pe_tup (pa_cons (pe_tup (pa_cons (pe_tup (pa_cons (pe_tup (pa_cons (pe_tup (pa_cons (pe_tup (pa_cons (pe_tup (pa_cons (pe_tup (pa_cons (pe_tup pa_nil) pa_nil)) pa_nil)) pa_nil)) pa_nil)) pa_nil)) pa_nil)) pa_nil)) pa_nil)) pa_nil)) pa_nil)) pa_nil)) pa_nil)))) (pe_tup (pa_cons pe_str pa_nil)) (nomark _)) (pe_one (pe_cmpR op_eq (pe_call G_write_plainG (hr.mono (by decide)) rfl T.g_write_plain T.F_write_plain.kp T.b_write_plain .nil pass0 (pa_cons (pe_tup (pa_cons pe_non (pa_cons (pe_tup pa_nil) (pa_cons pe_str pa_nil)))) pa_nil)) pe_str (nomark _)))))))), ?_⟩
  obtain ⟨a, ns, rfl, hS, hlen, ht, k⟩ := h
  have hz : (ns.map V.int).length = ns.length := List.length_map ..
  refine q_forR1 (n := if (if ((ns.map V.int).length : Int) < 4 then ((ns.map V.int).length : Int) else 4) > 1 then (if ((ns.map V.int).length : Int) < 4 then ((ns.map V.int).length : Int) else 4) else 1) (ea_cons (ev_cb (ea_cons ev_c (ea_cons (ev_cb (ea_cons ev_c (ea_cons (ev_cb (ea_cons (ev_var rfl) ea_nil) (rc_lenL hS)) ea_nil)) rc_min2) ea_nil)) rc_max2) ea_nil)
    (by split <;> split <;> omega) (fun i σ' H' => ∃ v1, σ' = [some (.ref a), v1] ∧ SqL K H' a (ns.map V.int) ∧ Tabs ca.tabs H') (fun H1 e1 => ⟨none, rfl, ex_l e1 hS, ht.ext e1⟩) (fun i σ' H' hi g => ?_) (fun σ' H' g => ?_)
  · obtain ⟨v1, rfl, hS', t1⟩ := g
    refine n_ifS (n_not (n_B (d_raw (n_cons (c_call (ea_cons (ev_var rfl) (ea_cons (ev_var rfl) ea_nil)) fun H1 e1 => ⟨a, ns, i, rfl, ex_l e1 hS', fun d H2 hd e2 dd => n_nil ⟨d, rfl, dd, t1.ext (e1.trans e2), fun H3 b3 d3 t3 => ⟨true, rfl, ?_⟩⟩⟩)))))
    rw [if_neg (by decide)]
    exact n_next ⟨_, rfl, sq_btO hd (ex_l e1 hS') e2 b3, t3⟩
  · obtain ⟨v1, rfl, _, t1⟩ := g
    refine q_when (b := false) (et_test (ev_is (G.ev_neLN (n := 1) (ds := [.int 9, .int 7, .int 5, .int 24, .int 12, .int 6, .int 12, .int 3000]) (es := [.int 9, .int 7, .int 5, .int 24, .int 12, .int 6, .int 12, .int 3000])
      (G.edl_lst (eda_cons (ed_ev ev_c (.int _)) (eda_cons (ed_ev ev_c (.int _)) (eda_cons (ed_ev ev_c (.int _)) (eda_cons (ed_ev ev_c (.int _)) (eda_cons (ed_ev ev_c (.int _)) (eda_cons (ed_ev ev_c (.int _)) (eda_cons (ed_ev ev_c (.int _)) (eda_cons (ed_ev ev_c (.int _)) eda_nil)))))))) (by simp))
      (G.edl_lst (eda_cons (ed_ev ev_c (.int _)) (eda_cons (ed_ev ev_c (.int _)) (eda_cons (ed_ev ev_c (.int _)) (eda_cons (ed_ev ev_c (.int _)) (eda_cons (ed_ev ev_c (.int _)) (eda_cons (ed_ev ev_c (.int _)) (eda_cons (ed_ev ev_c (.int _)) (eda_cons (ed_ev ev_c (.int _)) eda_nil)))))))) (by simp)) ?_ ?_ (by decide)) (congrArg V.bl (by decide +kernel)))) (fun z => by cases z) fun _ H2 e2 => ?_
    · exact fun d hd => (List.all_eq_true (p := fun d => K0.D.fine 1 d)).mp (by decide +kernel) d hd
    · exact fun d hd => (List.all_eq_true (p := fun d => K0.D.fine 1 d)).mp (by decide +kernel) d hd
    have t2 := t1.ext e2
    show tAndV _ _ _ _ _
    refine n_op (n_lamG (K := K) (fine := fine3) (r := fine3) (o := none) tf3 DiceO.none t2 (fun G E b dG tG hE Q' hQ => ?_) fun v H3 b3 d3 t3 rv => ?_)
    · exact d_raw (n_cons ((edT (K := K) (d := nestU 10) (edT (edT (edT (edT (edT (edT (edT (edT (edT (edT (ed_tup eda_nil (by simp))))))))))))) G (Ex.refl _) _ fun v G1 e1 rv => n_nil ⟨v, nestU 11, rfl, rv, by decide, fun _ G2 e2 => hQ _ G2 (BtO.ofE (e1.trans e2)) DiceO.none (tG.ext (e1.trans e2)) rfl, fun z => by cases z⟩))
    · refine (ed_tup (K := K) (ds := [.str "fine"]) (eda_cons (ed_ev ev_c (.str _)) eda_nil) (by simp)) H3 (Ex.refl _) _ fun u H4 e4 ru => ?_
      refine rv_eqD (rv.ex e4) ru (n := 1) (by decide +kernel) (by decide +kernel) (by decide) H4 (Ex.refl _) _ fun H5 e5 => ⟨true, congrArg V.bl (by decide +kernel), ?_⟩
      rw [if_pos rfl]
      refine n_op (d_raw (n_cons ((ed_tup (K := K) (ds := [.non, .tup [], .str ""]) (eda_cons (ed_ev ev_c .non) (eda_cons (ed_tup eda_nil (by simp)) (eda_cons (ed_ev ev_c (.str _)) eda_nil))) (by simp)) H5 (Ex.refl _) _ fun v H6 e6 r6 => n_nil ⟨v, .tup [.non, .tup [], .str ""], rfl, r6, by decide, by decide +kernel, fun H7 e7 => ?_⟩)))
      refine rv_eq rfl H7 (Ex.refl _) _ fun H8 e8 => ?_
      have ht : textD (.tup [.non, .tup [], .str ""]) = ("(.,(),'')" : Str) := by decide +kernel
      rw [decide_eq_true (congrArg V.str ht)]
      exact k H8
end
end K0

namespace K0
open PySem PySem.Spec PyProof.Rows L2 Evl
/-! ### tables of defs, as they lie at the top -/
abbrev Tr := Str × Int × Tok × Addr
def entD (r : Tr) : DictEntry := ⟨r.2.1, .str r.1 r.2.2.1, .ref r.2.2.2⟩
def okH (p : Params) : List Tr → Prop
  | [] => True
  | r :: rs => r.2.1 = PyData.keyHash p r.1 ∧ okH p rs
theorem lit_mk {p : Params} : ∀ rows : List Tr, okH p rows → PySem.W.KeysLit p (rows.map entD)
  | [], _ => by rw [List.map_nil, PySem.W.KeysLit.eq_1]; trivial
  | r :: rs, h => by
    rw [List.map_cons, PySem.W.KeysLit.eq_2]
    exact ⟨⟨r.1, r.2.2.1, rfl, h.1⟩, lit_mk rs h.2⟩
theorem find_mk (z : Str) : ∀ rows : List Tr, (rows.map entD).find? (fun x => x.key.isStr z) = (rows.find? fun r => r.1 == z).map entD
  | [] => rfl
  | r :: rs => by
    rw [List.map_cons, List.find?_cons, List.find?_cons]
    show (match (r.1 == z) with | true => _ | false => _) = _
    cases r.1 == z with
    | true => rfl
    | false => exact find_mk z rs
theorem look_mk (z : Str) : ∀ rows : List Tr, (rows.find? fun r => r.1 == z).map (fun r => r.2.2.2) = (rows.map fun r => (r.1, r.2.2.2)).lookup z
  | [] => rfl
  | r :: rs => by
    rw [List.map_cons, List.find?_cons, List.lookup_cons]
    have e : (r.1 == z) = (z == r.1) := BEq.comm
    rw [e]
    cases z == r.1 with
    | true => rfl
    | false => exact look_mk z rs
theorem any_mk : ∀ rows : List Tr, (rows.map entD).any (fun x => x.refKey) = false
  | [] => rfl
  | r :: rs => by
    rw [List.map_cons, List.any_cons, any_mk rs]
    rfl
theorem tab_mk {K : PySem.W.Frag} {w : World} {d : Addr} {n : Nat} {rows : List Tr} (at_ : List.lookup d K = some { cls := Value.type "dict", data := Data.dict (List.toArray (rows.map entD)) n }) (hl : okH w.params rows) (low : (d == sysModules) = false) :
    TabF K w d (rows.map fun r => (r.1, r.2.2.2)) := by
  refine ⟨_, n, ⟨at_, by rw [List.toList_toArray]; exact lit_mk rows hl, low⟩, fun z => ?_⟩
  unfold PySem.W.nsIn
  rw [at_]
  show (match (List.toArray (rows.map entD)).toList.find? (fun x => x.key.isStr z) with | some e => _ | none => _) = _
  rw [List.toList_toArray, find_mk, ← look_mk]
  cases rows.find? fun r => r.1 == z with
  | some r => rfl
  | none =>
    show (if ((rows.map entD).any fun x => x.refKey) = true then none else some none) = _
    rw [any_mk]
    rfl
end K0

namespace K0
open PySem L2 Evl
theorem all_mk {l : PySem.W.OpenLaw} {w : World} {K : PySem.W.Frag} {h : Heap} {mg : Str → Option Value} {fa f0 f1 f2 f3 f4 f5 f6 f7 f8 f9 f10 f11 f12 f13 f14 f15 f16 f17 f18 f19 f20 f21 f22 EInvalidOperation EParseError : Addr} (X : K.In h) (G : h.Ns mainGlobals mg) (hfa : mg "law" = some (.ref fa))
    {od0 an0 od1 an1 od2 an2 od3 an3 od4 an4 od5 an5 od6 an6 od7 an7 od8 an8 od9 an9 od10 an10 od11 an11 od12 an12 od13 an13 od14 an14 od15 an15 od16 an16 od17 an17 od18 an18 od19 an19 od20 an20 od21 an21 od22 an22 : Option Addr}
    {sl0 sl1 sl2 sl3 sl4 sl5 sl6 sl7 sl8 sl9 sl10 sl11 sl12 sl13 sl14 sl15 sl16 sl17 sl18 sl19 sl20 sl21 sl22 : Array (Option Value)}
    {oc0 kV0 dc0 pm0 cd0 ct0 oc1 kV1 dc1 pm1 cd1 ct1 oc2 kV2 dc2 pm2 cd2 ct2 oc3 kV3 dc3 pm3 cd3 ct3 oc4 kV4 dc4 pm4 cd4 ct4 oc5 kV5 dc5 pm5 cd5 ct5 oc6 kV6 dc6 pm6 cd6 ct6 oc7 kV7 dc7 pm7 cd7 ct7 oc8 kV8 dc8 pm8 cd8 ct8 oc9 kV9 dc9 pm9 cd9 ct9 oc10 kV10 dc10 pm10 cd10 ct10 oc11 kV11 dc11 pm11 cd11 ct11 oc12 kV12 dc12 pm12 cd12 ct12 oc13 kV13 dc13 pm13 cd13 ct13 oc14 kV14 dc14 pm14 cd14 ct14 oc15 kV15 dc15 pm15 cd15 ct15 oc16 kV16 dc16 pm16 cd16 ct16 oc17 kV17 dc17 pm17 cd17 ct17 oc18 kV18 dc18 pm18 cd18 ct18 oc19 kV19 dc19 pm19 cd19 ct19 oc20 kV20 dc20 pm20 ct20 oc21 kV21 dc21 pm21 ct21 oc22 kV22 dc22 pm22 cd22 ct22 : Value}
    {cc20 pp20 cc21 pp21 : Addr}
    {tk0 tk1 tk2 tk3 tk4 tk5 tk6 tk7 tk8 tk9 tk10 tk11 : Tok}
    (a0 : PySem.W.nsIn K mainGlobals "is_number" = some (some (.ref f0)))
    (l0 : K.lookup f0 = some ⟨oc0, od0, .func (PySem.W.fnOf "is_number" "is_number" (defArgs s_is_number) (defBody s_is_number) (defScope s_is_number) .none kV0 dc0 pm0 an0 cd0 ct0), sl0⟩)
    (c0 : PySem.W.codeIn K cd0 "is_number" = true)
    (k0 : PySem.W.keepIn K (.ref f0) = true)
    (a1 : PySem.W.nsIn K mainGlobals "is_made_of" = some (some (.ref f1)))
    (l1 : K.lookup f1 = some ⟨oc1, od1, .func (PySem.W.fnOf "is_made_of" "is_made_of" (defArgs s_is_made_of) (defBody s_is_made_of) (defScope s_is_made_of) .none kV1 dc1 pm1 an1 cd1 ct1), sl1⟩)
    (c1 : PySem.W.codeIn K cd1 "is_made_of" = true)
    (k1 : PySem.W.keepIn K (.ref f1) = true)
    (a2 : PySem.W.nsIn K mainGlobals "is_plain" = some (some (.ref f2)))
    (l2 : K.lookup f2 = some ⟨oc2, od2, .func (PySem.W.fnOf "is_plain" "is_plain" (defArgs s_is_plain) (defBody s_is_plain) (defScope s_is_plain) .none kV2 dc2 pm2 an2 cd2 ct2), sl2⟩)
    (c2 : PySem.W.codeIn K cd2 "is_plain" = true)
    (k2 : PySem.W.keepIn K (.ref f2) = true)
    (a3 : PySem.W.nsIn K mainGlobals "is_plain_within" = some (some (.ref f3)))
    (l3 : K.lookup f3 = some ⟨oc3, od3, .func (PySem.W.fnOf "is_plain_within" "is_plain_within" (defArgs s_is_plain_within) (defBody s_is_plain_within) (defScope s_is_plain_within) .none kV3 dc3 pm3 an3 cd3 ct3), sl3⟩)
    (c3 : PySem.W.codeIn K cd3 "is_plain_within" = true)
    (k3 : PySem.W.keepIn K (.ref f3) = true)
    (a4 : PySem.W.nsIn K mainGlobals "_is_single" = some (some (.ref f4)))
    (l4 : K.lookup f4 = some ⟨oc4, od4, .func (PySem.W.fnOf "_is_single" "_is_single" (defArgs s_is_single) (defBody s_is_single) (defScope s_is_single) .none kV4 dc4 pm4 an4 cd4 ct4), sl4⟩)
    (c4 : PySem.W.codeIn K cd4 "_is_single" = true)
    (k4 : PySem.W.keepIn K (.ref f4) = true)
    (a5 : PySem.W.nsIn K mainGlobals "is_less" = some (some (.ref f5)))
    (l5 : K.lookup f5 = some ⟨oc5, od5, .func (PySem.W.fnOf "is_less" "is_less" (defArgs s_is_less) (defBody s_is_less) (defScope s_is_less) .none kV5 dc5 pm5 an5 cd5 ct5), sl5⟩)
    (c5 : PySem.W.codeIn K cd5 "is_less" = true)
    (k5 : PySem.W.keepIn K (.ref f5) = true)
    (a6 : PySem.W.nsIn K mainGlobals "ordered" = some (some (.ref f6)))
    (l6 : K.lookup f6 = some ⟨oc6, od6, .func (PySem.W.fnOf "ordered" "ordered" (defArgs s_ordered) (defBody s_ordered) (defScope s_ordered) .none kV6 dc6 pm6 an6 cd6 ct6), sl6⟩)
    (c6 : PySem.W.codeIn K cd6 "ordered" = true)
    (k6 : PySem.W.keepIn K (.ref f6) = true)
    (a7 : PySem.W.nsIn K mainGlobals "_check_plain" = some (some (.ref f7)))
    (l7 : K.lookup f7 = some ⟨oc7, od7, .func (PySem.W.fnOf "_check_plain" "_check_plain" (defArgs s_check_plain) (defBody s_check_plain) (defScope s_check_plain) .none kV7 dc7 pm7 an7 cd7 ct7), sl7⟩)
    (c7 : PySem.W.codeIn K cd7 "_check_plain" = true)
    (k7 : PySem.W.keepIn K (.ref f7) = true)
    (a8 : PySem.W.nsIn K mainGlobals "_sort_key" = some (some (.ref f8)))
    (l8 : K.lookup f8 = some ⟨oc8, od8, .func (PySem.W.fnOf "_sort_key" "_sort_key" (defArgs s_sort_key) (defBody s_sort_key) (defScope s_sort_key) .none kV8 dc8 pm8 an8 cd8 ct8), sl8⟩)
    (c8 : PySem.W.codeIn K cd8 "_sort_key" = true)
    (k8 : PySem.W.keepIn K (.ref f8) = true)
    (a9 : PySem.W.nsIn K mainGlobals "write_plain" = some (some (.ref f9)))
    (l9 : K.lookup f9 = some ⟨oc9, od9, .func (PySem.W.fnOf "write_plain" "write_plain" (defArgs s_write_plain) (defBody s_write_plain) (defScope s_write_plain) .none kV9 dc9 pm9 an9 cd9 ct9), sl9⟩)
    (c9 : PySem.W.codeIn K cd9 "write_plain" = true)
    (k9 : PySem.W.keepIn K (.ref f9) = true)
    (a10 : PySem.W.nsIn K mainGlobals "_text_of" = some (some (.ref f10)))
    (l10 : K.lookup f10 = some ⟨oc10, od10, .func (PySem.W.fnOf "_text_of" "_text_of" (defArgs s_text_of) (defBody s_text_of) (defScope s_text_of) .none kV10 dc10 pm10 an10 cd10 ct10), sl10⟩)
    (c10 : PySem.W.codeIn K cd10 "_text_of" = true)
    (k10 : PySem.W.keepIn K (.ref f10) = true)
    (a11 : PySem.W.nsIn K mainGlobals "read_plain" = some (some (.ref f11)))
    (l11 : K.lookup f11 = some ⟨oc11, od11, .func (PySem.W.fnOf "read_plain" "read_plain" (defArgs s_read_plain) (defBody s_read_plain) (defScope s_read_plain) .none kV11 dc11 pm11 an11 cd11 ct11), sl11⟩)
    (c11 : PySem.W.codeIn K cd11 "read_plain" = true)
    (k11 : PySem.W.keepIn K (.ref f11) = true)
    (a12 : PySem.W.nsIn K mainGlobals "_read_value" = some (some (.ref f12)))
    (l12 : K.lookup f12 = some ⟨oc12, od12, .func (PySem.W.fnOf "_read_value" "_read_value" (defArgs s_read_value) (defBody s_read_value) (defScope s_read_value) .none kV12 dc12 pm12 an12 cd12 ct12), sl12⟩)
    (c12 : PySem.W.codeIn K cd12 "_read_value" = true)
    (k12 : PySem.W.keepIn K (.ref f12) = true)
    (a13 : PySem.W.nsIn K mainGlobals "_read_string" = some (some (.ref f13)))
    (l13 : K.lookup f13 = some ⟨oc13, od13, .func (PySem.W.fnOf "_read_string" "_read_string" (defArgs s_read_string) (defBody s_read_string) (defScope s_read_string) .none kV13 dc13 pm13 an13 cd13 ct13), sl13⟩)
    (c13 : PySem.W.codeIn K cd13 "_read_string" = true)
    (k13 : PySem.W.keepIn K (.ref f13) = true)
    (a14 : PySem.W.nsIn K mainGlobals "_read_digits" = some (some (.ref f14)))
    (l14 : K.lookup f14 = some ⟨oc14, od14, .func (PySem.W.fnOf "_read_digits" "_read_digits" (defArgs s_read_digits) (defBody s_read_digits) (defScope s_read_digits) .none kV14 dc14 pm14 an14 cd14 ct14), sl14⟩)
    (c14 : PySem.W.codeIn K cd14 "_read_digits" = true)
    (k14 : PySem.W.keepIn K (.ref f14) = true)
    (a15 : PySem.W.nsIn K mainGlobals "_read_tuple" = some (some (.ref f15)))
    (l15 : K.lookup f15 = some ⟨oc15, od15, .func (PySem.W.fnOf "_read_tuple" "_read_tuple" (defArgs s_read_tuple) (defBody s_read_tuple) (defScope s_read_tuple) .none kV15 dc15 pm15 an15 cd15 ct15), sl15⟩)
    (c15 : PySem.W.codeIn K cd15 "_read_tuple" = true)
    (k15 : PySem.W.keepIn K (.ref f15) = true)
    (a16 : PySem.W.nsIn K mainGlobals "_law_dice" = some (some (.ref f16)))
    (l16 : K.lookup f16 = some ⟨oc16, od16, .func (PySem.W.fnOf "_law_dice" "_law_dice" (defArgs s_law_dice) (defBody s_law_dice) (defScope s_law_dice) .none kV16 dc16 pm16 an16 cd16 ct16), sl16⟩)
    (c16 : PySem.W.codeIn K cd16 "_law_dice" = true)
    (k16 : PySem.W.keepIn K (.ref f16) = true)
    (a17 : PySem.W.nsIn K mainGlobals "_law_roll" = some (some (.ref f17)))
    (l17 : K.lookup f17 = some ⟨oc17, od17, .func (PySem.W.fnOf "_law_roll" "_law_roll" (defArgs s_law_roll) (defBody s_law_roll) (defScope s_law_roll) .none kV17 dc17 pm17 an17 cd17 ct17), sl17⟩)
    (c17 : PySem.W.codeIn K cd17 "_law_roll" = true)
    (k17 : PySem.W.keepIn K (.ref f17) = true)
    (a18 : PySem.W.nsIn K mainGlobals "_law_pick" = some (some (.ref f18)))
    (l18 : K.lookup f18 = some ⟨oc18, od18, .func (PySem.W.fnOf "_law_pick" "_law_pick" (defArgs s_law_pick) (defBody s_law_pick) (defScope s_law_pick) .none kV18 dc18 pm18 an18 cd18 ct18), sl18⟩)
    (c18 : PySem.W.codeIn K cd18 "_law_pick" = true)
    (k18 : PySem.W.keepIn K (.ref f18) = true)
    (a19 : PySem.W.nsIn K mainGlobals "_law_met" = some (some (.ref f19)))
    (l19 : K.lookup f19 = some ⟨oc19, od19, .func (PySem.W.fnOf "_law_met" "_law_met" (defArgs s_law_met) (defBody s_law_met) (defScope s_law_met) .none kV19 dc19 pm19 an19 cd19 ct19), sl19⟩)
    (c19 : PySem.W.codeIn K cd19 "_law_met" = true)
    (k19 : PySem.W.keepIn K (.ref f19) = true)
    (a20 : PySem.W.nsIn K mainGlobals "_law_right" = some (some (.ref f20)))
    (l20 : K.lookup f20 = some ⟨oc20, od20, .func (PySem.W.fnOf "_law_right" "_law_right" (defArgs s_law_right) (defBody s_law_right) (defScope s_law_right) .none kV20 dc20 pm20 an20 (.ref cc20) ct20), sl20⟩)
    (c20 : PySem.W.codeIn K (.ref cc20) "_law_right" = true)
    (k20 : PySem.W.keepIn K (.ref f20) = true)
    (lq20 : PySem.W.codeHdIn K cc20 pp20 = true)
    (ln20 : K.lookup pp20 = none)
    (lt20 : h.get? pp20 = some { cls := .none, data := .fields #[] })
    (a21 : PySem.W.nsIn K mainGlobals "law" = some (some (.ref f21)))
    (l21 : K.lookup f21 = some ⟨oc21, od21, .func (PySem.W.fnOf "law" "law" (defArgs s_law) (defBody s_law) (defScope s_law) .none kV21 dc21 pm21 an21 (.ref cc21) ct21), sl21⟩)
    (c21 : PySem.W.codeIn K (.ref cc21) "law" = true)
    (k21 : PySem.W.keepIn K (.ref f21) = true)
    (lq21 : PySem.W.codeHdIn K cc21 pp21 = true)
    (ln21 : K.lookup pp21 = none)
    (lt21 : h.get? pp21 = some { cls := .none, data := .fields #[] })
    (aEParseError : PySem.W.nsIn K mainGlobals "ParseError" = some (some (.ref EParseError)))
    (zEParseErrorini : PySem.W.findIn K (.ref EParseError) "__init__" = some (some (.ref f22)))
    (l22 : K.lookup f22 = some ⟨oc22, od22, .func (PySem.W.fnOf "__init__" "ParseError.__init__" (defArgs s_ParseError_init) (defBody s_ParseError_init) (defScope s_ParseError_init) .none kV22 dc22 pm22 an22 cd22 ct22), sl22⟩)
    (c22 : PySem.W.codeIn K cd22 "ParseError.__init__" = true)
    (k22 : PySem.W.keepIn K (.ref f22) = true)
    (aEInvalidOperation : PySem.W.nsIn K mainGlobals "InvalidOperation" = some (some (.ref EInvalidOperation)))
    (qEInvalidOperation : PySem.W.excIn K EInvalidOperation bmVE "ValueError.__new__" = true)
    (zEInvalidOperationkc : PySem.W.keepIn K (.ref EInvalidOperation) = true)
    (zEInvalidOperationsb : PySem.W.subIn K (.ref EInvalidOperation) (.type "BaseException") = some true)
    (zEInvalidOperationty : PySem.W.typeIn K (.ref EInvalidOperation) = some (.type "type"))
    (zEParseErroroi : oexIn K EParseError = true)
    (zEParseErrorxf : xfB K EParseError = true)
    (zEParseErrorkc : PySem.W.keepIn K (.ref EParseError) = true)
    (zEParseErrorsb : PySem.W.subIn K (.ref EParseError) (.type "BaseException") = some true)
    (zEParseErrorty : PySem.W.typeIn K (.ref EParseError) = some (.type "type"))
    (zEParseErrorsa : PySem.W.findIn K (.ref EParseError) "__setattr__" = some (some (.builtin "object.__setattr__")))
    (zEParseErrorfn : PySem.W.typeIn K (.ref f22) = some (.type "function"))
    (zEParseErrornospot : PySem.W.findIn K (.ref EParseError) "spot" = some none)
    (zEInvalidOperationInvalidOperation : PySem.W.exmOne K (.ref EInvalidOperation) (.ref EInvalidOperation) = some true)
    (zEInvalidOperationParseError : PySem.W.exmOne K (.ref EInvalidOperation) (.ref EParseError) = some false)
    (zEParseErrorInvalidOperation : PySem.W.exmOne K (.ref EParseError) (.ref EInvalidOperation) = some false)
    (zEParseErrorParseError : PySem.W.exmOne K (.ref EParseError) (.ref EParseError) = some true)
    (x0 : PySem.W.nsIn K mainGlobals "MAX_HOUSES" = some (some (.int (9) tk0)))
    (x1 : PySem.W.nsIn K mainGlobals "MAX_CIRCLE" = some (some (.int (7) tk1)))
    (x2 : PySem.W.nsIn K mainGlobals "MAX_CLIENTS" = some (some (.int (5) tk2)))
    (x3 : PySem.W.nsIn K mainGlobals "MAX_KEYS" = some (some (.int (24) tk3)))
    (x4 : PySem.W.nsIn K mainGlobals "MAX_SIGNS" = some (some (.int (12) tk4)))
    (x5 : PySem.W.nsIn K mainGlobals "MAX_LOT" = some (some (.int (6) tk5)))
    (x6 : PySem.W.nsIn K mainGlobals "MAX_NEST" = some (some (.int (12) tk6)))
    (x7 : PySem.W.nsIn K mainGlobals "MAX_STRING" = some (some (.int (3000) tk7)))
    (x8 : PySem.W.nsIn K mainGlobals "MAX_DIGITS" = some (some (.int (60) tk8)))
    (x9 : PySem.W.nsIn K mainGlobals "MAX_NUMBER" = some (some (.int (999999999999999999999999999999999999999999999999999999999999) tk9)))
    (x10 : PySem.W.nsIn K mainGlobals "DIGITS" = some (some (.str "0123456789" tk10)))
    (x11 : PySem.W.nsIn K mainGlobals "SIGNS" = some (some (.str "abcdefghijklmnopqrstuvwxyz0123456789 " tk11)))
    (y0 : PySem.W.nsIn K mainGlobals "abs" = some none)
    (y1 : PySem.W.nsIn K mainGlobals "bool" = some none)
    (y2 : PySem.W.nsIn K mainGlobals "int" = some none)
    (y3 : PySem.W.nsIn K mainGlobals "isinstance" = some none)
    (y4 : PySem.W.nsIn K mainGlobals "len" = some none)
    (y5 : PySem.W.nsIn K mainGlobals "max" = some none)
    (y6 : PySem.W.nsIn K mainGlobals "min" = some none)
    (y7 : PySem.W.nsIn K mainGlobals "range" = some none)
    (y8 : PySem.W.nsIn K mainGlobals "repr" = some none)
    (y9 : PySem.W.nsIn K mainGlobals "sorted" = some none)
    (y10 : PySem.W.nsIn K mainGlobals "str" = some none)
    (y11 : PySem.W.nsIn K mainGlobals "tuple" = some none)
    (lne : pp20 ≠ pp21)
    : LamX.LawAtS l w K CX0 45 63 "script" mg fa h := by
  have e := hfa.symm.trans (PySem.W.mg_of X G a21)
  cases e
  have F0 := fun_mk (st := s_is_number) l0 c0 k0
  have b0 := F0.binds (ps := ["value"]) fun _ _ _ _ _ _ us hl => match us, hl with | [_], _ => rfl
  have F1 := fun_mk (st := s_is_made_of) l1 c1 k1
  have b1 := F1.binds (ps := ["value", "signs", "most"]) fun _ _ _ _ _ _ us hl => match us, hl with | [_, _, _], _ => rfl
  have F2 := fun_mk (st := s_is_plain) l2 c2 k2
  have b2 := F2.binds (ps := ["value"]) fun _ _ _ _ _ _ us hl => match us, hl with | [_], _ => rfl
  have F3 := fun_mk (st := s_is_plain_within) l3 c3 k3
  have b3 := F3.binds (ps := ["value", "most"]) fun _ _ _ _ _ _ us hl => match us, hl with | [_, _], _ => rfl
  have F4 := fun_mk (st := s_is_single) l4 c4 k4
  have b4 := F4.binds (ps := ["value"]) fun _ _ _ _ _ _ us hl => match us, hl with | [_], _ => rfl
  have F5 := fun_mk (st := s_is_less) l5 c5 k5
  have b5 := F5.binds (ps := ["one", "other"]) fun _ _ _ _ _ _ us hl => match us, hl with | [_, _], _ => rfl
  have F6 := fun_mk (st := s_ordered) l6 c6 k6
  have b6 := F6.binds (ps := ["values"]) fun _ _ _ _ _ _ us hl => match us, hl with | [_], _ => rfl
  have F7 := fun_mk (st := s_check_plain) l7 c7 k7
  have b7 := F7.binds (ps := ["value"]) fun _ _ _ _ _ _ us hl => match us, hl with | [_], _ => rfl
  have F8 := fun_mk (st := s_sort_key) l8 c8 k8
  have b8 := F8.binds (ps := ["value"]) fun _ _ _ _ _ _ us hl => match us, hl with | [_], _ => rfl
  have F9 := fun_mk (st := s_write_plain) l9 c9 k9
  have b9 := F9.binds (ps := ["value"]) fun _ _ _ _ _ _ us hl => match us, hl with | [_], _ => rfl
  have F10 := fun_mk (st := s_text_of) l10 c10 k10
  have b10 := F10.binds (ps := ["value"]) fun _ _ _ _ _ _ us hl => match us, hl with | [_], _ => rfl
  have F11 := fun_mk (st := s_read_plain) l11 c11 k11
  have b11 := F11.binds (ps := ["text"]) fun _ _ _ _ _ _ us hl => match us, hl with | [_], _ => rfl
  have F12 := fun_mk (st := s_read_value) l12 c12 k12
  have b12 := F12.binds (ps := ["text", "start", "nest"]) fun _ _ _ _ _ _ us hl => match us, hl with | [_, _, _], _ => rfl
  have F13 := fun_mk (st := s_read_string) l13 c13 k13
  have b13 := F13.binds (ps := ["text", "start"]) fun _ _ _ _ _ _ us hl => match us, hl with | [_, _], _ => rfl
  have F14 := fun_mk (st := s_read_digits) l14 c14 k14
  have b14 := F14.binds (ps := ["text", "start", "firsts"]) fun _ _ _ _ _ _ us hl => match us, hl with | [_, _, _], _ => rfl
  have F15 := fun_mk (st := s_read_tuple) l15 c15 k15
  have b15 := F15.binds (ps := ["text", "start", "nest"]) fun _ _ _ _ _ _ us hl => match us, hl with | [_, _, _], _ => rfl
  have F16 := fun_mk (st := s_law_dice) l16 c16 k16
  have b16 := F16.binds (ps := ["script", "spot"]) fun _ _ _ _ _ _ us hl => match us, hl with | [_, _], _ => rfl
  have F17 := fun_mk (st := s_law_roll) l17 c17 k17
  have b17 := F17.binds (ps := ["dice", "most"]) fun _ _ _ _ _ _ us hl => match us, hl with | [_, _], _ => rfl
  have F18 := fun_mk (st := s_law_pick) l18 c18 k18
  have b18 := F18.binds (ps := ["dice", "items"]) fun _ _ _ _ _ _ us hl => match us, hl with | [_, _], _ => rfl
  have F19 := fun_mk (st := s_law_met) l19 c19 k19
  have b19 := F19.binds (ps := ["call"]) fun _ _ _ _ _ _ us hl => match us, hl with | [_], _ => rfl
  have F20 := fun_mk (st := s_law_right) l20 c20 k20
  have b20 := F20.binds (ps := ["dice"]) fun _ _ _ _ _ _ us hl => match us, hl with | [_], _ => rfl
  have F21 := fun_mk (st := s_law) l21 c21 k21
  have b21 := F21.binds (ps := ["script"]) fun _ _ _ _ _ _ us hl => match us, hl with | [_], _ => rfl
  have F22 := fun_mk (st := s_ParseError_init) l22 c22 k22
  have b22 := F22.binds (ps := ["self", "spot"]) fun _ _ _ _ _ _ us hl => match us, hl with | [_, _], _ => rfl
  have T : Txt K mg ⟨f0, f1, f2, f3, f4, f5, f6, f7, f8, f9, f10, f11, f12, f13, f14, f15, f16, f17, f18, f19, f20, fa, f22, EInvalidOperation, EParseError⟩ ⟨_, _, _, _, _, _, _, _, _, _, _, _, _, _, _, _, _, _, _, _, _, _, _⟩ :=
    ⟨PySem.W.mg_of X G a0,
     F0,
     b0,
     PySem.W.mg_of X G a1,
     F1,
     b1,
     PySem.W.mg_of X G a2,
     F2,
     b2,
     PySem.W.mg_of X G a3,
     F3,
     b3,
     PySem.W.mg_of X G a4,
     F4,
     b4,
     PySem.W.mg_of X G a5,
     F5,
     b5,
     PySem.W.mg_of X G a6,
     F6,
     b6,
     PySem.W.mg_of X G a7,
     F7,
     b7,
     PySem.W.mg_of X G a8,
     F8,
     b8,
     PySem.W.mg_of X G a9,
     F9,
     b9,
     PySem.W.mg_of X G a10,
     F10,
     b10,
     PySem.W.mg_of X G a11,
     F11,
     b11,
     PySem.W.mg_of X G a12,
     F12,
     b12,
     PySem.W.mg_of X G a13,
     F13,
     b13,
     PySem.W.mg_of X G a14,
     F14,
     b14,
     PySem.W.mg_of X G a15,
     F15,
     b15,
     PySem.W.mg_of X G a16,
     F16,
     b16,
     PySem.W.mg_of X G a17,
     F17,
     b17,
     PySem.W.mg_of X G a18,
     F18,
     b18,
     PySem.W.mg_of X G a19,
     F19,
     b19,
     PySem.W.mg_of X G a20,
     F20,
     b20,
     PySem.W.mg_of X G a21,
     F21,
     b21,
     F22,
     b22,
     ⟨_, PySem.W.mg_of X G x0⟩,
     ⟨_, PySem.W.mg_of X G x1⟩,
     ⟨_, PySem.W.mg_of X G x2⟩,
     ⟨_, PySem.W.mg_of X G x3⟩,
     ⟨_, PySem.W.mg_of X G x4⟩,
     ⟨_, PySem.W.mg_of X G x5⟩,
     ⟨_, PySem.W.mg_of X G x6⟩,
     ⟨_, PySem.W.mg_of X G x7⟩,
     ⟨_, PySem.W.mg_of X G x8⟩,
     ⟨_, PySem.W.mg_of X G x9⟩,
     ⟨_, PySem.W.mg_of X G x10⟩,
     ⟨_, PySem.W.mg_of X G x11⟩,
     PySem.W.mg_none_of X G y0,
     PySem.W.mg_none_of X G y1,
     PySem.W.mg_none_of X G y2,
     PySem.W.mg_none_of X G y3,
     PySem.W.mg_none_of X G y4,
     PySem.W.mg_none_of X G y5,
     PySem.W.mg_none_of X G y6,
     PySem.W.mg_none_of X G y7,
     PySem.W.mg_none_of X G y8,
     PySem.W.mg_none_of X G y9,
     PySem.W.mg_none_of X G y10,
     PySem.W.mg_none_of X G y11,
     ⟨PySem.W.mg_of X G aEInvalidOperation, qEInvalidOperation, zEInvalidOperationkc, zEInvalidOperationsb, zEInvalidOperationty⟩,
     ⟨PySem.W.mg_of X G aEParseError, oexC zEParseErroroi zEParseErrorsa zEParseErrorsb zEParseErrorty zEParseErrorkc, xfB_ok zEParseErrorxf, zEParseErrorini, zEParseErrorfn⟩,
     zEParseErrornospot,
     zEInvalidOperationInvalidOperation,
     zEInvalidOperationParseError,
     zEParseErrorInvalidOperation,
     zEParseErrorParseError⟩
  have tA : ∀ p ∈ [(cc20, pp20), (cc21, pp21)], h.get? p.2 = some { cls := .none, data := .fields #[] } := fun p hp => by
    rcases List.mem_cons.mp hp with rfl | hp
    · exact lt20
    rw [List.mem_singleton.mp hp]
    exact lt21
  have tN : ∀ p ∈ [(cc20, pp20), (cc21, pp21)], K.lookup p.2 = none := fun p hp => by
    rcases List.mem_cons.mp hp with rfl | hp
    · exact ln20
    rw [List.mem_singleton.mp hp]
    exact ln21
  have tC : ∀ p ∈ [(cc20, pp20), (cc21, pp21)], PySem.W.CodeHd h p.1 p.2 := fun p hp => by
    rcases List.mem_cons.mp hp with rfl | hp
    · exact PySem.W.codeHd_of_K X lq20
    rw [List.mem_singleton.mp hp]
    exact PySem.W.codeHd_of_K X lq21
  refine ⟨PySem.W.fnOf "law" "law" (defArgs s_law) (defBody s_law) (defScope s_law) .none kV21 dc21 pm21 an21 (.ref cc21) ct21, [(cc20, pp20), (cc21, pp21)], sp_law K ⟨cc20, pp20, cc21, pp21⟩, tA, tN, tC, fun s v => .of_eq rfl, fun H a ns hl hb hT hS => ⟨a, ns, rfl, hS, hl, fun p hp => ?_, fun _ => rfl⟩, fun base _ _ TB => ok_law T ⟨rfl, TB _ List.mem_cons_self, rfl, TB _ (List.mem_cons_of_mem _ List.mem_cons_self), lne⟩⟩
  rcases List.mem_cons.mp hp with rfl | hp
  · exact LamX.TabS.nil (hT (cc20, pp20) List.mem_cons_self)
  · rw [List.mem_singleton.mp hp]
    exact LamX.TabS.nil (hT (cc21, pp21) (List.mem_cons_of_mem _ List.mem_cons_self))
theorem walk {l : PySem.W.OpenLaw} {q : Program} {loose : List Str} {XP : (Str → Option Value) → Heap → Prop} {YP : World → Heap → Prop} {d : DefRec} {K : Params → PySem.W.Frag} (hn : l.most = some 63) (hdf : d.params.defaults = [])
    (hY : ∀ (w : World) (h : Heap), YP w h → (K w.params).In h)
    (F : ∀ (w : World) (mg : Str → Option Value) (fa : Addr) (h : Heap), YP w h → (K w.params).In h → h.Ns mainGlobals mg → mg d.name = some (.ref fa) →
      LamX.LawAtS l w (K w.params) CX0 45 63 "script" mg fa h) :
    PySem.W.WalkO q loose XP YP l.row.toRowW d [] (fun f vs => PySem.call f vs) :=
  LamX.walk_ofTs (n := 63) (k := 45) (x := "script") (CX := fun _ => CX0) hn (by decide) hdf ⟨rfl, by decide, by decide⟩ hY F fun _ _ _ _ _ z => z
end K0
open PySem PySem.W PyProof.Rows
set_option maxRecDepth 100000 in
set_option maxHeartbeats 0 in
theorem PySem.Challenge.cw_halvesmeet_k03_errors_of_plain_values_holds : PySem.Challenge.rw_halvesmeet_k03_errors_of_plain_values.Holds := by
  w_on; o_law; k_head; (case hw => w_witness2)
  k_fill
  refine K0.walk (l := PySem.Challenge.rw_halvesmeet_k03_errors_of_plain_values) rfl rfl (fun w h Y => PySem.W.km_in_of Y) ?F
  case F =>
    intro w mg fa h Y KX G hmg
    have Y2 := PySem.W.km_tabs_of Y
    refine' K0.all_mk (pp20 := 194) (pp21 := 199) KX G hmg ?a0 ?l0 ?c0 ?k0 ?a1 ?l1 ?c1 ?k1 ?a2 ?l2 ?c2 ?k2 ?a3 ?l3 ?c3 ?k3 ?a4 ?l4 ?c4 ?k4 ?a5 ?l5 ?c5 ?k5 ?a6 ?l6 ?c6 ?k6 ?a7 ?l7 ?c7 ?k7 ?a8 ?l8 ?c8 ?k8 ?a9 ?l9 ?c9 ?k9 ?a10 ?l10 ?c10 ?k10 ?a11 ?l11 ?c11 ?k11 ?a12 ?l12 ?c12 ?k12 ?a13 ?l13 ?c13 ?k13 ?a14 ?l14 ?c14 ?k14 ?a15 ?l15 ?c15 ?k15 ?a16 ?l16 ?c16 ?k16 ?a17 ?l17 ?c17 ?k17 ?a18 ?l18 ?c18 ?k18 ?a19 ?l19 ?c19 ?k19 ?a20 ?l20 ?c20 ?k20 ?lq20 ?ln20 ?lt20 ?a21 ?l21 ?c21 ?k21 ?lq21 ?ln21 ?lt21 ?aEParseError ?zEParseErrorini ?l22 ?c22 ?k22 ?aEInvalidOperation ?qEInvalidOperation ?zEInvalidOperationkc ?zEInvalidOperationsb ?zEInvalidOperationty ?zEParseErroroi ?zEParseErrorxf ?zEParseErrorkc ?zEParseErrorsb ?zEParseErrorty ?zEParseErrorsa ?zEParseErrorfn ?zEParseErrornospot ?zEInvalidOperationInvalidOperation ?zEInvalidOperationParseError ?zEParseErrorInvalidOperation ?zEParseErrorParseError ?x0 ?x1 ?x2 ?x3 ?x4 ?x5 ?x6 ?x7 ?x8 ?x9 ?x10 ?x11 ?y0 ?y1 ?y2 ?y3 ?y4 ?y5 ?y6 ?y7 ?y8 ?y9 ?y10 ?y11 ?lne
    (case a0 => k_is)
    (case l0 => k_is)
    (case c0 => k_is)
    (case k0 => k_is)
    (case a1 => k_is)
    (case l1 => k_is)
    (case c1 => k_is)
    (case k1 => k_is)
    (case a2 => k_is)
    (case l2 => k_is)
    (case c2 => k_is)
    (case k2 => k_is)
    (case a3 => k_is)
    (case l3 => k_is)
    (case c3 => k_is)
    (case k3 => k_is)
    (case a4 => k_is)
    (case l4 => k_is)
    (case c4 => k_is)
    (case k4 => k_is)
    (case a5 => k_is)
    (case l5 => k_is)
    (case c5 => k_is)
    (case k5 => k_is)
    (case a6 => k_is)
    (case l6 => k_is)
    (case c6 => k_is)
    (case k6 => k_is)
    (case a7 => k_is)
    (case l7 => k_is)
    (case c7 => k_is)
    (case k7 => k_is)
    (case a8 => k_is)
    (case l8 => k_is)
    (case c8 => k_is)
    (case k8 => k_is)
    (case a9 => k_is)
    (case l9 => k_is)
    (case c9 => k_is)
    (case k9 => k_is)
    (case a10 => k_is)
    (case l10 => k_is)
    (case c10 => k_is)
    (case k10 => k_is)
    (case a11 => k_is)
    (case l11 => k_is)
    (case c11 => k_is)
    (case k11 => k_is)
    (case a12 => k_is)
    (case l12 => k_is)
    (case c12 => k_is)
    (case k12 => k_is)
    (case a13 => k_is)
    (case l13 => k_is)
    (case c13 => k_is)
    (case k13 => k_is)
    (case a14 => k_is)
    (case l14 => k_is)
    (case c14 => k_is)
    (case k14 => k_is)
    (case a15 => k_is)
    (case l15 => k_is)
    (case c15 => k_is)
    (case k15 => k_is)
    (case a16 => k_is)
    (case l16 => k_is)
    (case c16 => k_is)
    (case k16 => k_is)
    (case a17 => k_is)
    (case l17 => k_is)
    (case c17 => k_is)
    (case k17 => k_is)
    (case a18 => k_is)
    (case l18 => k_is)
    (case c18 => k_is)
    (case k18 => k_is)
    (case a19 => k_is)
    (case l19 => k_is)
    (case c19 => k_is)
    (case k19 => k_is)
    (case a20 => k_is)
    (case l20 => k_is)
    (case c20 => k_is)
    (case k20 => k_is)
    (case lq20 => first | kernel_rfl | rfl | decide +kernel)
    (case ln20 => first | kernel_rfl | rfl | decide +kernel)
    (case lt20 => exact Y2 _ (by decide))
    (case a21 => k_is)
    (case l21 => k_is)
    (case c21 => k_is)
    (case k21 => k_is)
    (case lq21 => first | kernel_rfl | rfl | decide +kernel)
    (case ln21 => first | kernel_rfl | rfl | decide +kernel)
    (case lt21 => exact Y2 _ (by decide))
    (case aEParseError => k_is)
    (case zEParseErrorini => k_is)
    (case l22 => k_is)
    (case c22 => k_is)
    (case k22 => k_is)
    (case aEInvalidOperation => k_is)
    (case qEInvalidOperation => k_exc)
    (case zEInvalidOperationkc => first | k_is | kit_is)
    (case zEInvalidOperationsb => k_is)
    (case zEInvalidOperationty => k_is)
    (case zEParseErroroi => first | kernel_rfl | rfl | decide +kernel)
    (case zEParseErrorxf => first | kernel_rfl | rfl | decide +kernel)
    (case zEParseErrorkc => first | k_is | kit_is)
    (case zEParseErrorsb => k_is)
    (case zEParseErrorty => k_is)
    (case zEParseErrorsa => k_is)
    (case zEParseErrorfn => k_is)
    (case zEParseErrornospot => k_is)
    (case zEInvalidOperationInvalidOperation => first | kernel_rfl | rfl | decide +kernel)
    (case zEInvalidOperationParseError => first | kernel_rfl | rfl | decide +kernel)
    (case zEParseErrorInvalidOperation => first | kernel_rfl | rfl | decide +kernel)
    (case zEParseErrorParseError => first | kernel_rfl | rfl | decide +kernel)
    (case x0 => k_is)
    (case x1 => k_is)
    (case x2 => k_is)
    (case x3 => k_is)
    (case x4 => k_is)
    (case x5 => k_is)
    (case x6 => k_is)
    (case x7 => k_is)
    (case x8 => k_is)
    (case x9 => k_is)
    (case x10 => k_is)
    (case x11 => k_is)
    (case y0 => k_is)
    (case y1 => k_is)
    (case y2 => k_is)
    (case y3 => k_is)
    (case y4 => k_is)
    (case y5 => k_is)
    (case y6 => k_is)
    (case y7 => k_is)
    (case y8 => k_is)
    (case y9 => k_is)
    (case y10 => k_is)
    (case y11 => k_is)
    (case lne => decide)

