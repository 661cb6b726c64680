import PyProof.Rows.All
import Wide.All
import OpenK.AllK
import Wide.FinOn
import HandS.ForMost
import HandS.Evl
import HandS.IsInst
import HandS.StrMore
import HandS.Strs
import HandS.TupAny
import HandS.Zip
import HandS.Walk
import HandS.Wide
import HandS.Conv
import HandS.Property
import HandS.ClsMeth
import HandS.CallLocal
import HandS.Defaults
import HandS.FStr
import HandS.TupMul
import HandS.Exc
import HandS.ExcInit
import HandS.ExcField
import PySem.Challenge.RW_halvesmeet_k53_whole_histories_that_fit
import HandS.SetFor
import KE.KEqNest
import PyProof.NeKinds
import HandS.DictComp
import KE.GoesEnum
import KE.GoesMore
import HandS.SortRule
import HandS.DictTup
import KE.KItemsList
import HandS.NoneIn
import KE.KRevSl
import HandS.Style
import HandS.TupLe
set_option Elab.async false
set_option linter.all false
set_option maxRecDepth 100000
set_option maxHeartbeats 8000000
namespace K0
open PySem L2 Evl
/-- a dict of the top from texts to defs -/
def TabF (K : PySem.W.Frag) (w : World) (a : Addr) (ts : List (Str × Addr)) : Prop := ∃ es n, KDict K w a es n ∧ ∀ z, PySem.W.nsIn K a z = some ((ts.lookup z).map Value.ref)
/-- an own class has what isinstance asks -/
structure ObjC (K : PySem.W.Frag) (C : Addr) : Prop where
  ca : PySem.W.findIn K (.ref C) "__class__" = some (some (.builtin "object.__class__"))
  cg : PySem.W.specialIn K (.builtin "object.__class__") "__get__" = some (some (.builtin "getset_descriptor.__get__"))
  ct : PySem.W.takesIn K (.builtin "object.__class__") = some true
  co : PySem.W.mroIn K C (.type "object") = some true
def bmVE : List Value := [.type "ValueError", .type "Exception", .type "BaseException", .type "object"]
/-- an exception class over ValueError, without an __init__ of its own -/
structure ExcF (K : PySem.W.Frag) (mg : Str → Option Value) (x : Str) (C : Addr) : Prop where
  g : mg x = some (.ref C)
  q : PySem.W.excIn K C bmVE "ValueError.__new__" = true
  k : PySem.W.keepIn K (.ref C) = true
  b : PySem.W.subIn K (.ref C) (.type "BaseException") = some true
  t : PySem.W.typeIn K (.ref C) = some (.type "type")
/-- an exception class over ValueError with an __init__ of its own alone -/
def oexIn (K : PySem.W.Frag) (C : Addr) : Bool := match K.lookup C with
  | some ⟨.type "type", _, .cls cd, sl⟩ => (match cd.mro, sl.toList with
    | .ref C' :: bm, [_, _, _, _, some (.builtin n), _] => C' == C && n == "ValueError.__new__" && !cd.hasDel && cd.hasDict && PySem.HandSPX.refsVE bm
    | _, _ => false)
  | _ => false
theorem oexC {K : PySem.W.Frag} {C : Addr} (q : oexIn K C = true) (sa : PySem.W.findIn K (.ref C) "__setattr__" = some (some (.builtin "object.__setattr__"))) (exC : PySem.W.subIn K (.ref C) (.type "BaseException") = some true)
    (tyC : PySem.W.typeIn K (.ref C) = some (.type "type")) (kC : PySem.W.keepIn K (.ref C) = true) : OexC K C := by
  refine ⟨?_, sa, exC, tyC, kC⟩
  unfold oexIn at q
  split at q
  · rename_i dd cd sl ho
    split at q
    · rename_i C' bm k0 k1 k2 k3 n k5 hm hs
      simp only [Bool.and_eq_true, beq_iff_eq, Bool.not_eq_true'] at q
      obtain ⟨⟨⟨⟨rfl, rfl⟩, hdel⟩, hdi⟩, ht⟩ := q
      obtain ⟨nm, bs, mro, ns, qn, hd, sn, sub, ab, col, del⟩ := cd
      dsimp only at hm hdel hdi
      subst hm hdel hdi
      have hsl : sl = #[k0, k1, k2, k3, some (.builtin "ValueError.__new__"), k5] := by
        obtain ⟨l⟩ := sl
        simp only at hs
        rw [hs]
      subst hsl
      exact ⟨nm, qn, ns, bs, bm, sn, sub, ab, col, dd, k0, k1, k2, k3, k5, ho, ht⟩
    · cases q
  · cases q
structure ExI (K : PySem.W.Frag) (mg : Str → Option Value) (x : Str) (C fI : Addr) : Prop where
  g : mg x = some (.ref C)
  o : OexC K C
  x : XfC K C
  i : PySem.W.findIn K (.ref C) "__init__" = some (some (.ref fI))
  t : PySem.W.typeIn K (.ref fI) = some (.type "function")
def top (i : Nat) : Stmt := PySem.Challenge.pw_halvesmeet_k53_whole_histories_that_fit.main.body.getD i (.Pass ⟨0, 0, 0, 0⟩)
abbrev s_is_number : Stmt := top 16
abbrev N_is_number : List Str := ["value"]
theorem sc_is_number : FnScope N_is_number ["value"] (defScope s_is_number) := ⟨rfl, rfl, rfl, by decide +kernel, rfl, by decide +kernel, by decide +kernel⟩
abbrev s_is_within : Stmt := top 17
abbrev N_is_within : List Str := ["value", "least", "most"]
theorem sc_is_within : FnScope N_is_within ["value", "least", "most"] (defScope s_is_within) := ⟨rfl, rfl, rfl, by decide +kernel, rfl, by decide +kernel, by decide +kernel⟩
abbrev s_is_client : Stmt := top 18
abbrev N_is_client : List Str := ["value"]
theorem sc_is_client : FnScope N_is_client ["value"] (defScope s_is_client) := ⟨rfl, rfl, rfl, by decide +kernel, rfl, by decide +kernel, by decide +kernel⟩
abbrev s_is_circle : Stmt := top 19
abbrev N_is_circle : List Str := ["value"]
theorem sc_is_circle : FnScope N_is_circle ["value"] (defScope s_is_circle) := ⟨rfl, rfl, rfl, by decide +kernel, rfl, by decide +kernel, by decide +kernel⟩
abbrev s_are_indices : Stmt := top 20
abbrev N_are_indices : List Str := ["value", "many", "index"]
theorem sc_are_indices : FnScope N_are_indices ["value", "many"] (defScope s_are_indices) := ⟨rfl, rfl, rfl, by decide +kernel, rfl, by decide +kernel, by decide +kernel⟩
abbrev s_are_ascending : Stmt := top 21
abbrev N_are_ascending : List Str := ["row", "one", "other"]
theorem sc_are_ascending : FnScope N_are_ascending ["row"] (defScope s_are_ascending) := ⟨rfl, rfl, rfl, by decide +kernel, rfl, by decide +kernel, by decide +kernel⟩
abbrev s_is_made_of : Stmt := top 22
abbrev N_is_made_of : List Str := ["value", "signs", "most"]
theorem sc_is_made_of : FnScope N_is_made_of ["value", "signs", "most"] (defScope s_is_made_of) := ⟨rfl, rfl, rfl, by decide +kernel, rfl, by decide +kernel, by decide +kernel⟩
abbrev s_is_key : Stmt := top 23
abbrev N_is_key : List Str := ["value"]
theorem sc_is_key : FnScope N_is_key ["value"] (defScope s_is_key) := ⟨rfl, rfl, rfl, by decide +kernel, rfl, by decide +kernel, by decide +kernel⟩
abbrev s_is_short_number : Stmt := top 24
abbrev N_is_short_number : List Str := ["value"]
theorem sc_is_short_number : FnScope N_is_short_number ["value"] (defScope s_is_short_number) := ⟨rfl, rfl, rfl, by decide +kernel, rfl, by decide +kernel, by decide +kernel⟩
abbrev s_is_value : Stmt := top 25
abbrev N_is_value : List Str := ["value"]
theorem sc_is_value : FnScope N_is_value ["value"] (defScope s_is_value) := ⟨rfl, rfl, rfl, by decide +kernel, rfl, by decide +kernel, by decide +kernel⟩
abbrev s_is_plain : Stmt := top 26
abbrev N_is_plain : List Str := ["value"]
theorem sc_is_plain : FnScope N_is_plain ["value"] (defScope s_is_plain) := ⟨rfl, rfl, rfl, by decide +kernel, rfl, by decide +kernel, by decide +kernel⟩
abbrev s_is_plain_within : Stmt := top 27
abbrev N_is_plain_within : List Str := ["value", "most", "level", "nest", "inner", "part", "row", "member"]
theorem sc_is_plain_within : FnScope N_is_plain_within ["value", "most"] (defScope s_is_plain_within) := ⟨rfl, rfl, rfl, by decide +kernel, rfl, by decide +kernel, by decide +kernel⟩
abbrev s_is_single : Stmt := top 28
abbrev N_is_single : List Str := ["value"]
theorem sc_is_single : FnScope N_is_single ["value"] (defScope s_is_single) := ⟨rfl, rfl, rfl, by decide +kernel, rfl, by decide +kernel, by decide +kernel⟩
abbrev s_is_worth : Stmt := top 31
abbrev N_is_worth : List Str := ["value"]
theorem sc_is_worth : FnScope N_is_worth ["value"] (defScope s_is_worth) := ⟨rfl, rfl, rfl, by decide +kernel, rfl, by decide +kernel, by decide +kernel⟩
abbrev s_word_of : Stmt := top 32
abbrev N_word_of : List Str := ["value"]
theorem sc_word_of : FnScope N_word_of ["value"] (defScope s_word_of) := ⟨rfl, rfl, rfl, by decide +kernel, rfl, by decide +kernel, by decide +kernel⟩
abbrev s_is_put : Stmt := top 33
abbrev N_is_put : List Str := ["value"]
theorem sc_is_put : FnScope N_is_put ["value"] (defScope s_is_put) := ⟨rfl, rfl, rfl, by decide +kernel, rfl, by decide +kernel, by decide +kernel⟩
abbrev s_is_of_key : Stmt := top 34
abbrev N_is_of_key : List Str := ["value"]
theorem sc_is_of_key : FnScope N_is_of_key ["value"] (defScope s_is_of_key) := ⟨rfl, rfl, rfl, by decide +kernel, rfl, by decide +kernel, by decide +kernel⟩
abbrev s_is_add : Stmt := top 35
abbrev N_is_add : List Str := ["value"]
theorem sc_is_add : FnScope N_is_add ["value"] (defScope s_is_add) := ⟨rfl, rfl, rfl, by decide +kernel, rfl, by decide +kernel, by decide +kernel⟩
abbrev s_is_swap : Stmt := top 36
abbrev N_is_swap : List Str := ["value"]
theorem sc_is_swap : FnScope N_is_swap ["value"] (defScope s_is_swap) := ⟨rfl, rfl, rfl, by decide +kernel, rfl, by decide +kernel, by decide +kernel⟩
abbrev s_is_list : Stmt := top 37
abbrev N_is_list : List Str := ["value"]
theorem sc_is_list : FnScope N_is_list ["value"] (defScope s_is_list) := ⟨rfl, rfl, rfl, by decide +kernel, rfl, by decide +kernel, by decide +kernel⟩
abbrev s_is_all : Stmt := top 38
abbrev N_is_all : List Str := ["value", "part"]
theorem sc_is_all : FnScope N_is_all ["value"] (defScope s_is_all) := ⟨rfl, rfl, rfl, by decide +kernel, rfl, by decide +kernel, by decide +kernel⟩
abbrev s_has_lot_size : Stmt := top 39
abbrev N_has_lot_size : List Str := ["value"]
theorem sc_has_lot_size : FnScope N_has_lot_size ["value"] (defScope s_has_lot_size) := ⟨rfl, rfl, rfl, by decide +kernel, rfl, by decide +kernel, by decide +kernel⟩
abbrev s_is_of_circle : Stmt := top 40
abbrev N_is_of_circle : List Str := ["value"]
theorem sc_is_of_circle : FnScope N_is_of_circle ["value"] (defScope s_is_of_circle) := ⟨rfl, rfl, rfl, by decide +kernel, rfl, by decide +kernel, by decide +kernel⟩
abbrev s_is_deed : Stmt := top 42
abbrev N_is_deed : List Str := ["value", "word", "form"]
theorem sc_is_deed : FnScope N_is_deed ["value"] (defScope s_is_deed) := ⟨rfl, rfl, rfl, by decide +kernel, rfl, by decide +kernel, by decide +kernel⟩
abbrev s_is_row : Stmt := top 45
abbrev N_is_row : List Str := ["value"]
theorem sc_is_row : FnScope N_is_row ["value"] (defScope s_is_row) := ⟨rfl, rfl, rfl, by decide +kernel, rfl, by decide +kernel, by decide +kernel⟩
abbrev s_is_named : Stmt := top 46
abbrev N_is_named : List Str := ["value"]
theorem sc_is_named : FnScope N_is_named ["value"] (defScope s_is_named) := ⟨rfl, rfl, rfl, by decide +kernel, rfl, by decide +kernel, by decide +kernel⟩
abbrev s_is_length : Stmt := top 47
abbrev N_is_length : List Str := ["value"]
theorem sc_is_length : FnScope N_is_length ["value"] (defScope s_is_length) := ⟨rfl, rfl, rfl, by decide +kernel, rfl, by decide +kernel, by decide +kernel⟩
abbrev s_are_rows : Stmt := top 48
abbrev N_are_rows : List Str := ["value", "row"]
theorem sc_are_rows : FnScope N_are_rows ["value"] (defScope s_are_rows) := ⟨rfl, rfl, rfl, by decide +kernel, rfl, by decide +kernel, by decide +kernel⟩
abbrev s_does_fit_clients : Stmt := top 49
abbrev N_does_fit_clients : List Str := ["history", "calls", "waiting", "row", "client", "number"]
theorem sc_does_fit_clients : FnScope N_does_fit_clients ["history"] (defScope s_does_fit_clients) := ⟨rfl, rfl, rfl, by decide +kernel, rfl, by decide +kernel, by decide +kernel⟩
abbrev s_law_dice : Stmt := top 51
abbrev N_law_dice : List Str := ["script", "spot", "cell", "left"]
theorem sc_law_dice : FnScope N_law_dice ["script", "spot"] (defScope s_law_dice) := ⟨rfl, rfl, rfl, by decide +kernel, rfl, by decide +kernel, by decide +kernel⟩
abbrev s_law_roll : Stmt := top 52
abbrev N_law_roll : List Str := ["dice", "most", "found", "one", "two"]
theorem sc_law_roll : FnScope N_law_roll ["dice", "most"] (defScope s_law_roll) := ⟨rfl, rfl, rfl, by decide +kernel, rfl, by decide +kernel, by decide +kernel⟩
abbrev s_law_pick : Stmt := top 53
abbrev N_law_pick : List Str := ["dice", "items"]
theorem sc_law_pick : FnScope N_law_pick ["dice", "items"] (defScope s_law_pick) := ⟨rfl, rfl, rfl, by decide +kernel, rfl, by decide +kernel, by decide +kernel⟩
abbrev s_law_key_drawn : Stmt := top 54
abbrev N_law_key_drawn : List Str := ["dice"]
theorem sc_law_key_drawn : FnScope N_law_key_drawn ["dice"] (defScope s_law_key_drawn) := ⟨rfl, rfl, rfl, by decide +kernel, rfl, by decide +kernel, by decide +kernel⟩
abbrev s_law_value_drawn : Stmt := top 55
abbrev N_law_value_drawn : List Str := ["dice", "some"]
theorem sc_law_value_drawn : FnScope N_law_value_drawn ["dice"] (defScope s_law_value_drawn) := ⟨rfl, rfl, rfl, by decide +kernel, rfl, by decide +kernel, by decide +kernel⟩
abbrev s_law_single_drawn : Stmt := top 56
abbrev N_law_single_drawn : List Str := ["dice", "word", "name"]
theorem sc_law_single_drawn : FnScope N_law_single_drawn ["dice"] (defScope s_law_single_drawn) := ⟨rfl, rfl, rfl, by decide +kernel, rfl, by decide +kernel, by decide +kernel⟩
abbrev s_law_deed_drawn : Stmt := top 57
abbrev N_law_deed_drawn : List Str := ["dice", "way", "turn"]
theorem sc_law_deed_drawn : FnScope N_law_deed_drawn ["dice"] (defScope s_law_deed_drawn) := ⟨rfl, rfl, rfl, by decide +kernel, rfl, by decide +kernel, by decide +kernel⟩
abbrev s_law_lone_fits : Stmt := top 58
abbrev N_law_lone_fits : List Str := ["events", "calls", "is_open", "event"]
theorem sc_law_lone_fits : FnScope N_law_lone_fits ["events"] (defScope s_law_lone_fits) := ⟨rfl, rfl, rfl, by decide +kernel, rfl, by decide +kernel, by decide +kernel⟩
abbrev s_law_fits : Stmt := top 59
abbrev N_law_fits : List Str := ["history", "client", "event"]
theorem sc_law_fits : FnScope N_law_fits ["history"] (defScope s_law_fits) := ⟨rfl, rfl, rfl, by decide +kernel, rfl, by decide +kernel, by decide +kernel⟩
abbrev s_law_history_drawn : Stmt := top 60
abbrev N_law_history_drawn : List Str := ["dice", "many", "calls", "waiting", "found", "turn", "client", "one"]
theorem sc_law_history_drawn : FnScope N_law_history_drawn ["dice"] (defScope s_law_history_drawn) := ⟨rfl, rfl, rfl, by decide +kernel, rfl, by decide +kernel, by decide +kernel⟩
abbrev s_law_spoilt : Stmt := top 61
abbrev N_law_spoilt : List Str := ["dice", "history", "found", "turn", "way", "at", "to", "more"]
theorem sc_law_spoilt : FnScope N_law_spoilt ["dice", "history"] (defScope s_law_spoilt) := ⟨rfl, rfl, rfl, by decide +kernel, rfl, by decide +kernel, by decide +kernel⟩
abbrev s_law_right : Stmt := top 62
abbrev N_law_right : List Str := ["dice", "history", "turn", "spoilt"]
theorem sc_law_right : FnScope N_law_right ["dice"] (defScope s_law_right) := ⟨rfl, rfl, rfl, by decide +kernel, rfl, by decide +kernel, by decide +kernel⟩
abbrev s_law : Stmt := top 63
abbrev N_law : List Str := ["script", "spot", "dice", "call", "answer", "told"]
theorem sc_law : FnScope N_law ["script"] (defScope s_law) := ⟨rfl, rfl, rfl, by decide +kernel, rfl, by decide +kernel, by decide +kernel⟩
structure Ad where
  is_number : Addr
  is_within : Addr
  is_client : Addr
  is_circle : Addr
  are_indices : Addr
  are_ascending : Addr
  is_made_of : Addr
  is_key : Addr
  is_short_number : Addr
  is_value : Addr
  is_plain : Addr
  is_plain_within : Addr
  is_single : Addr
  is_worth : Addr
  word_of : Addr
  is_put : Addr
  is_of_key : Addr
  is_add : Addr
  is_swap : Addr
  is_list : Addr
  is_all : Addr
  has_lot_size : Addr
  is_of_circle : Addr
  is_deed : Addr
  is_row : Addr
  is_named : Addr
  is_length : Addr
  are_rows : Addr
  does_fit_clients : Addr
  law_dice : Addr
  law_roll : Addr
  law_pick : Addr
  law_key_drawn : Addr
  law_value_drawn : Addr
  law_single_drawn : Addr
  law_deed_drawn : Addr
  law_lone_fits : Addr
  law_fits : Addr
  law_history_drawn : Addr
  law_spoilt : Addr
  law_right : Addr
  law : Addr
structure Fd where
  is_number : FuncData
  is_within : FuncData
  is_client : FuncData
  is_circle : FuncData
  are_indices : FuncData
  are_ascending : FuncData
  is_made_of : FuncData
  is_key : FuncData
  is_short_number : FuncData
  is_value : FuncData
  is_plain : FuncData
  is_plain_within : FuncData
  is_single : FuncData
  is_worth : FuncData
  word_of : FuncData
  is_put : FuncData
  is_of_key : FuncData
  is_add : FuncData
  is_swap : FuncData
  is_list : FuncData
  is_all : FuncData
  has_lot_size : FuncData
  is_of_circle : FuncData
  is_deed : FuncData
  is_row : FuncData
  is_named : FuncData
  is_length : FuncData
  are_rows : FuncData
  does_fit_clients : FuncData
  law_dice : FuncData
  law_roll : FuncData
  law_pick : FuncData
  law_key_drawn : FuncData
  law_value_drawn : FuncData
  law_single_drawn : FuncData
  law_deed_drawn : FuncData
  law_lone_fits : FuncData
  law_fits : FuncData
  law_history_drawn : FuncData
  law_spoilt : FuncData
  law_right : FuncData
  law : FuncData
/-- what the top has written -/
structure Txt (K : PySem.W.Frag) (mg : Str → Option Value) (A : Ad) (D : Fd) : Prop where
  g_is_number : mg "is_number" = some (.ref A.is_number)
  F_is_number : Fun K "is_number" "is_number" s_is_number A.is_number D.is_number
  b_is_number : Binds K D.is_number ["value"] []
  g_is_within : mg "is_within" = some (.ref A.is_within)
  F_is_within : Fun K "is_within" "is_within" s_is_within A.is_within D.is_within
  b_is_within : Binds K D.is_within ["value", "least", "most"] []
  g_is_client : mg "is_client" = some (.ref A.is_client)
  F_is_client : Fun K "is_client" "is_client" s_is_client A.is_client D.is_client
  b_is_client : Binds K D.is_client ["value"] []
  g_is_circle : mg "is_circle" = some (.ref A.is_circle)
  F_is_circle : Fun K "is_circle" "is_circle" s_is_circle A.is_circle D.is_circle
  b_is_circle : Binds K D.is_circle ["value"] []
  g_are_indices : mg "are_indices" = some (.ref A.are_indices)
  F_are_indices : Fun K "are_indices" "are_indices" s_are_indices A.are_indices D.are_indices
  b_are_indices : Binds K D.are_indices ["value", "many"] []
  g_are_ascending : mg "are_ascending" = some (.ref A.are_ascending)
  F_are_ascending : Fun K "are_ascending" "are_ascending" s_are_ascending A.are_ascending D.are_ascending
  b_are_ascending : Binds K D.are_ascending ["row"] []
  g_is_made_of : mg "is_made_of" = some (.ref A.is_made_of)
  F_is_made_of : Fun K "is_made_of" "is_made_of" s_is_made_of A.is_made_of D.is_made_of
  b_is_made_of : Binds K D.is_made_of ["value", "signs", "most"] []
  g_is_key : mg "is_key" = some (.ref A.is_key)
  F_is_key : Fun K "is_key" "is_key" s_is_key A.is_key D.is_key
  b_is_key : Binds K D.is_key ["value"] []
  g_is_short_number : mg "is_short_number" = some (.ref A.is_short_number)
  F_is_short_number : Fun K "is_short_number" "is_short_number" s_is_short_number A.is_short_number D.is_short_number
  b_is_short_number : Binds K D.is_short_number ["value"] []
  g_is_value : mg "is_value" = some (.ref A.is_value)
  F_is_value : Fun K "is_value" "is_value" s_is_value A.is_value D.is_value
  b_is_value : Binds K D.is_value ["value"] []
  g_is_plain : mg "is_plain" = some (.ref A.is_plain)
  F_is_plain : Fun K "is_plain" "is_plain" s_is_plain A.is_plain D.is_plain
  b_is_plain : Binds K D.is_plain ["value"] []
  g_is_plain_within : mg "is_plain_within" = some (.ref A.is_plain_within)
  F_is_plain_within : Fun K "is_plain_within" "is_plain_within" s_is_plain_within A.is_plain_within D.is_plain_within
  b_is_plain_within : Binds K D.is_plain_within ["value", "most"] []
  g_is_single : mg "_is_single" = some (.ref A.is_single)
  F_is_single : Fun K "_is_single" "_is_single" s_is_single A.is_single D.is_single
  b_is_single : Binds K D.is_single ["value"] []
  g_is_worth : mg "_is_worth" = some (.ref A.is_worth)
  F_is_worth : Fun K "_is_worth" "_is_worth" s_is_worth A.is_worth D.is_worth
  b_is_worth : Binds K D.is_worth ["value"] []
  g_word_of : mg "word_of" = some (.ref A.word_of)
  F_word_of : Fun K "word_of" "word_of" s_word_of A.word_of D.word_of
  b_word_of : Binds K D.word_of ["value"] []
  g_is_put : mg "_is_put" = some (.ref A.is_put)
  F_is_put : Fun K "_is_put" "_is_put" s_is_put A.is_put D.is_put
  b_is_put : Binds K D.is_put ["value"] []
  g_is_of_key : mg "_is_of_key" = some (.ref A.is_of_key)
  F_is_of_key : Fun K "_is_of_key" "_is_of_key" s_is_of_key A.is_of_key D.is_of_key
  b_is_of_key : Binds K D.is_of_key ["value"] []
  g_is_add : mg "_is_add" = some (.ref A.is_add)
  F_is_add : Fun K "_is_add" "_is_add" s_is_add A.is_add D.is_add
  b_is_add : Binds K D.is_add ["value"] []
  g_is_swap : mg "_is_swap" = some (.ref A.is_swap)
  F_is_swap : Fun K "_is_swap" "_is_swap" s_is_swap A.is_swap D.is_swap
  b_is_swap : Binds K D.is_swap ["value"] []
  g_is_list : mg "_is_list" = some (.ref A.is_list)
  F_is_list : Fun K "_is_list" "_is_list" s_is_list A.is_list D.is_list
  b_is_list : Binds K D.is_list ["value"] []
  g_is_all : mg "_is_all" = some (.ref A.is_all)
  F_is_all : Fun K "_is_all" "_is_all" s_is_all A.is_all D.is_all
  b_is_all : Binds K D.is_all ["value"] []
  g_has_lot_size : mg "_has_lot_size" = some (.ref A.has_lot_size)
  F_has_lot_size : Fun K "_has_lot_size" "_has_lot_size" s_has_lot_size A.has_lot_size D.has_lot_size
  b_has_lot_size : Binds K D.has_lot_size ["value"] []
  g_is_of_circle : mg "_is_of_circle" = some (.ref A.is_of_circle)
  F_is_of_circle : Fun K "_is_of_circle" "_is_of_circle" s_is_of_circle A.is_of_circle D.is_of_circle
  b_is_of_circle : Binds K D.is_of_circle ["value"] []
  g_is_deed : mg "is_deed" = some (.ref A.is_deed)
  F_is_deed : Fun K "is_deed" "is_deed" s_is_deed A.is_deed D.is_deed
  b_is_deed : Binds K D.is_deed ["value"] []
  g_is_row : mg "is_row" = some (.ref A.is_row)
  F_is_row : Fun K "is_row" "is_row" s_is_row A.is_row D.is_row
  b_is_row : Binds K D.is_row ["value"] []
  g_is_named : mg "_is_named" = some (.ref A.is_named)
  F_is_named : Fun K "_is_named" "_is_named" s_is_named A.is_named D.is_named
  b_is_named : Binds K D.is_named ["value"] []
  g_is_length : mg "_is_length" = some (.ref A.is_length)
  F_is_length : Fun K "_is_length" "_is_length" s_is_length A.is_length D.is_length
  b_is_length : Binds K D.is_length ["value"] []
  g_are_rows : mg "are_rows" = some (.ref A.are_rows)
  F_are_rows : Fun K "are_rows" "are_rows" s_are_rows A.are_rows D.are_rows
  b_are_rows : Binds K D.are_rows ["value"] []
  g_does_fit_clients : mg "does_fit_clients" = some (.ref A.does_fit_clients)
  F_does_fit_clients : Fun K "does_fit_clients" "does_fit_clients" s_does_fit_clients A.does_fit_clients D.does_fit_clients
  b_does_fit_clients : Binds K D.does_fit_clients ["history"] []
  g_law_dice : mg "_law_dice" = some (.ref A.law_dice)
  F_law_dice : Fun K "_law_dice" "_law_dice" s_law_dice A.law_dice D.law_dice
  b_law_dice : Binds K D.law_dice ["script", "spot"] []
  g_law_roll : mg "_law_roll" = some (.ref A.law_roll)
  F_law_roll : Fun K "_law_roll" "_law_roll" s_law_roll A.law_roll D.law_roll
  b_law_roll : Binds K D.law_roll ["dice", "most"] []
  g_law_pick : mg "_law_pick" = some (.ref A.law_pick)
  F_law_pick : Fun K "_law_pick" "_law_pick" s_law_pick A.law_pick D.law_pick
  b_law_pick : Binds K D.law_pick ["dice", "items"] []
  g_law_key_drawn : mg "_law_key_drawn" = some (.ref A.law_key_drawn)
  F_law_key_drawn : Fun K "_law_key_drawn" "_law_key_drawn" s_law_key_drawn A.law_key_drawn D.law_key_drawn
  b_law_key_drawn : Binds K D.law_key_drawn ["dice"] []
  g_law_value_drawn : mg "_law_value_drawn" = some (.ref A.law_value_drawn)
  F_law_value_drawn : Fun K "_law_value_drawn" "_law_value_drawn" s_law_value_drawn A.law_value_drawn D.law_value_drawn
  b_law_value_drawn : Binds K D.law_value_drawn ["dice"] []
  g_law_single_drawn : mg "_law_single_drawn" = some (.ref A.law_single_drawn)
  F_law_single_drawn : Fun K "_law_single_drawn" "_law_single_drawn" s_law_single_drawn A.law_single_drawn D.law_single_drawn
  b_law_single_drawn : Binds K D.law_single_drawn ["dice"] []
  g_law_deed_drawn : mg "_law_deed_drawn" = some (.ref A.law_deed_drawn)
  F_law_deed_drawn : Fun K "_law_deed_drawn" "_law_deed_drawn" s_law_deed_drawn A.law_deed_drawn D.law_deed_drawn
  b_law_deed_drawn : Binds K D.law_deed_drawn ["dice"] []
  g_law_lone_fits : mg "_law_lone_fits" = some (.ref A.law_lone_fits)
  F_law_lone_fits : Fun K "_law_lone_fits" "_law_lone_fits" s_law_lone_fits A.law_lone_fits D.law_lone_fits
  b_law_lone_fits : Binds K D.law_lone_fits ["events"] []
  g_law_fits : mg "_law_fits" = some (.ref A.law_fits)
  F_law_fits : Fun K "_law_fits" "_law_fits" s_law_fits A.law_fits D.law_fits
  b_law_fits : Binds K D.law_fits ["history"] []
  g_law_history_drawn : mg "_law_history_drawn" = some (.ref A.law_history_drawn)
  F_law_history_drawn : Fun K "_law_history_drawn" "_law_history_drawn" s_law_history_drawn A.law_history_drawn D.law_history_drawn
  b_law_history_drawn : Binds K D.law_history_drawn ["dice"] []
  g_law_spoilt : mg "_law_spoilt" = some (.ref A.law_spoilt)
  F_law_spoilt : Fun K "_law_spoilt" "_law_spoilt" s_law_spoilt A.law_spoilt D.law_spoilt
  b_law_spoilt : Binds K D.law_spoilt ["dice", "history"] []
  g_law_right : mg "_law_right" = some (.ref A.law_right)
  F_law_right : Fun K "_law_right" "_law_right" s_law_right A.law_right D.law_right
  b_law_right : Binds K D.law_right ["dice"] []
  g_law : mg "law" = some (.ref A.law)
  F_law : Fun K "law" "law" s_law A.law D.law
  b_law : Binds K D.law ["script"] []
  c_MAX_HOUSES : ∃ t, mg "MAX_HOUSES" = some (.int (9) t)
  c_MAX_CIRCLE : ∃ t, mg "MAX_CIRCLE" = some (.int (7) t)
  c_MAX_CLIENTS : ∃ t, mg "MAX_CLIENTS" = some (.int (5) t)
  c_MAX_SIGNS : ∃ t, mg "MAX_SIGNS" = some (.int (12) t)
  c_MAX_LOT : ∃ t, mg "MAX_LOT" = some (.int (6) t)
  c_MAX_NEST : ∃ t, mg "MAX_NEST" = some (.int (12) t)
  c_MAX_STRING : ∃ t, mg "MAX_STRING" = some (.int (3000) t)
  c_MAX_KEY_SIGNS : ∃ t, mg "MAX_KEY_SIGNS" = some (.int (8) t)
  c_MAX_NUMBER : ∃ t, mg "MAX_NUMBER" = some (.int (999999999999999999999999999999999999999999999999999999999999) t)
  c_MAX_SHORT_NUMBER : ∃ t, mg "MAX_SHORT_NUMBER" = some (.int (999999999999) t)
  c_LETTERS : ∃ t, mg "LETTERS" = some (.str "abcdefghijklmnopqrstuvwxyz" t)
  c_SIGNS : ∃ t, mg "SIGNS" = some (.str "abcdefghijklmnopqrstuvwxyz0123456789 " t)
  c_MOST_MEMBERS : ∃ t, mg "MOST_MEMBERS" = some (.int (3000) t)
  t_LOT_WORDS : ∃ a, mg "LOT_WORDS" = some (.ref a) ∧ ∀ H, SqT K H a [.str "put", .str "drop", .str "get", .str "add", .str "swap"]
  b_abs : mg "abs" = none
  b_all : mg "all" = none
  b_bool : mg "bool" = none
  b_int : mg "int" = none
  b_isinstance : mg "isinstance" = none
  b_len : mg "len" = none
  b_list : mg "list" = none
  b_max : mg "max" = none
  b_min : mg "min" = none
  b_range : mg "range" = none
  b_repr : mg "repr" = none
  b_str : mg "str" = none
  b_tuple : mg "tuple" = none
  b_zip : mg "zip" = none
/-- the tables of defs -/
structure Tab (K : PySem.W.Frag) (w : World) (mg : Str → Option Value) (A : Ad) : Prop where
  d_DEED_FORMS : ∃ a, mg "DEED_FORMS" = some (.ref a) ∧ TabF K w a [("put", A.is_put), ("drop", A.is_of_key), ("get", A.is_of_key), ("add", A.is_add), ("swap", A.is_swap), ("list", A.is_list), ("all", A.is_all), ("circle", A.is_of_circle)]
/-! ### values as data -/
inductive D where
  | non | bl (b : Bool) | int (i : Int) | str (s : Str) | tup (ds : List D) | oth
mutual
inductive Rp (K : PySem.W.Frag) (H : Hp) : V → D → Prop where
  | non : Rp K H .non .non
  | bl (b : Bool) : Rp K H (.bl b) (.bl b)
  | int (i : Int) : Rp K H (.int i) (.int i)
  | str (s : Str) : Rp K H (.str s) (.str s)
  | tup {a : Addr} {xs : List V} {ds : List D} : SqT K H a xs → RpAll K H xs ds → Rp K H (.ref a) (.tup ds)
  | lst {a : Addr} {xs : List V} : H a = some (.lst xs) → Rp K H (.ref a) .oth
  | dct {a : Addr} {kvs : List (Key × V)} : H a = some (.dK kvs) → Rp K H (.ref a) .oth
inductive RpAll (K : PySem.W.Frag) (H : Hp) : List V → List D → Prop where
  | nil : RpAll K H [] []
  | cons {v : V} {vs : List V} {d : D} {ds : List D} : Rp K H v d → RpAll K H vs ds → RpAll K H (v :: vs) (d :: ds)
end
section
variable {K : PySem.W.Frag} {H H' : Hp}
mutual
theorem Rp.ex {v : V} {d : D} (e : Ex H H') : Rp K H v d → Rp K H' v d
  | .non => .non
  | .bl b => .bl b
  | .int i => .int i
  | .str s => .str s
  | .tup h r => .tup (ex_t e h) (RpAll.ex e r)
  | .lst h => .lst (e _ _ h)
  | .dct h => .dct (e _ _ h)
theorem RpAll.ex {vs : List V} {ds : List D} (e : Ex H H') : RpAll K H vs ds → RpAll K H' vs ds
  | .nil => .nil
  | .cons h r => .cons (Rp.ex e h) (RpAll.ex e r)
end
theorem RpAll.len {vs : List V} {ds : List D} : RpAll K H vs ds → vs.length = ds.length
  | .nil => rfl
  | .cons _ r => by rw [List.length_cons, List.length_cons, RpAll.len r]
theorem RpAll.inv {v : V} {vs : List V} {ds : List D} (h : RpAll K H (v :: vs) ds) : ∃ d es, ds = d :: es ∧ Rp K H v d ∧ RpAll K H vs es := by
  cases h with
  | cons h r => exact ⟨_, _, rfl, h, r⟩
theorem RpAll.get : ∀ (vs : List V) (ds : List D) (i : Nat) (v : V), RpAll K H vs ds → vs[i]? = some v → ∃ d, ds[i]? = some d ∧ Rp K H v d
  | [], _, _, _, _, h => by simp at h
  | u :: us, ds, 0, v, h, e => by
    have e' := Option.some.inj e
    subst e'
    obtain ⟨d, es, rfl, h1, _⟩ := h.inv
    exact ⟨d, rfl, h1⟩
  | u :: us, ds, i + 1, v, h, e => by
    obtain ⟨d, es, rfl, _, h2⟩ := h.inv
    obtain ⟨c, h3, h4⟩ := RpAll.get us es i v h2 (by simpa using e)
    exact ⟨c, by simpa using h3, h4⟩
theorem RpAll.app {vs ws : List V} {ds es : List D} : RpAll K H vs ds → RpAll K H ws es → RpAll K H (vs ++ ws) (ds ++ es)
  | .nil, s => s
  | .cons h r, s => .cons h (RpAll.app r s)
/-! ### kinds -/
def D.isInt : D → Bool
  | .int _ => true | .bl _ => true | _ => false
def D.isBl : D → Bool
  | .bl _ => true | _ => false
def D.isStr : D → Bool
  | .str _ => true | _ => false
def D.isTup : D → Bool
  | .tup _ => true | _ => false
theorem ty_tup {a : Addr} {xs : List V} (h : SqT K H a xs) : TyX K H (.ref a) (.type "tuple") := by
  rcases h with (h | ⟨o, h⟩) | ⟨o, its, n, lk, c, _⟩
  · exact .base (.tup h)
  · exact .fTuple h
  · exact .kTuple lk c
theorem rc_isi {n : String} {f : D → Bool} (hn : kitB "NoneType" n = some (f .non)) (hb : ∀ b, kitB "bool" n = some (f (.bl b))) (hi : ∀ i, kitB "int" n = some (f (.int i))) (hs : ∀ s, kitB "str" n = some (f (.str s)))
    (ht : ∀ ds, kitB "tuple" n = some (f (.tup ds))) (hl : kitB "list" n = some (f .oth)) (hd : kitB "dict" n = some (f .oth)) {x : V} {d : D} (h : Rp K H x d) : RC (rIsi K) [x, .ty n] H (.bl (f d)) := fun H1 e Q q => by
  have h1 := Rp.ex e h
  cases h1 with
  | non => exact ⟨_, _, _, _, _, rfl, .ty _, .base .non, kit_ty hn, q H1 (Ex.refl _)⟩
  | bl b => exact ⟨_, _, _, _, _, rfl, .ty _, .base (.bl _), kit_ty (hb b), q H1 (Ex.refl _)⟩
  | int i => exact ⟨_, _, _, _, _, rfl, .ty _, .base (.int _), kit_ty (hi i), q H1 (Ex.refl _)⟩
  | str s => exact ⟨_, _, _, _, _, rfl, .ty _, .base (.str _), kit_ty (hs s), q H1 (Ex.refl _)⟩
  | tup h2 _ => exact ⟨_, _, _, _, _, rfl, .ty _, ty_tup h2, kit_ty (ht _), q H1 (Ex.refl _)⟩
  | lst h2 => exact ⟨_, _, _, _, _, rfl, .ty _, .base (.lst h2), kit_ty hl, q H1 (Ex.refl _)⟩
  | dct h2 => exact ⟨_, _, _, _, _, rfl, .ty _, .base (.dK h2), kit_ty hd, q H1 (Ex.refl _)⟩
theorem rc_int {x : V} {d : D} (h : Rp K H x d) : RC (rIsi K) [x, .ty "int"] H (.bl d.isInt) :=
  rc_isi (f := D.isInt) (show kitB "NoneType" "int" = some false by decide +kernel) (fun _ => show kitB "bool" "int" = some true by decide +kernel) (fun _ => show kitB "int" "int" = some true by decide +kernel) (fun _ => show kitB "str" "int" = some false by decide +kernel)
    (fun _ => show kitB "tuple" "int" = some false by decide +kernel) (show kitB "list" "int" = some false by decide +kernel) (show kitB "dict" "int" = some false by decide +kernel) h
theorem rc_bool {x : V} {d : D} (h : Rp K H x d) : RC (rIsi K) [x, .ty "bool"] H (.bl d.isBl) :=
  rc_isi (f := D.isBl) (show kitB "NoneType" "bool" = some false by decide +kernel) (fun _ => show kitB "bool" "bool" = some true by decide +kernel) (fun _ => show kitB "int" "bool" = some false by decide +kernel) (fun _ => show kitB "str" "bool" = some false by decide +kernel)
    (fun _ => show kitB "tuple" "bool" = some false by decide +kernel) (show kitB "list" "bool" = some false by decide +kernel) (show kitB "dict" "bool" = some false by decide +kernel) h
theorem rc_str {x : V} {d : D} (h : Rp K H x d) : RC (rIsi K) [x, .ty "str"] H (.bl d.isStr) :=
  rc_isi (f := D.isStr) (show kitB "NoneType" "str" = some false by decide +kernel) (fun _ => show kitB "bool" "str" = some false by decide +kernel) (fun _ => show kitB "int" "str" = some false by decide +kernel) (fun _ => show kitB "str" "str" = some true by decide +kernel)
    (fun _ => show kitB "tuple" "str" = some false by decide +kernel) (show kitB "list" "str" = some false by decide +kernel) (show kitB "dict" "str" = some false by decide +kernel) h
theorem rc_tup {x : V} {d : D} (h : Rp K H x d) : RC (rIsi K) [x, .ty "tuple"] H (.bl d.isTup) :=
  rc_isi (f := D.isTup) (show kitB "NoneType" "tuple" = some false by decide +kernel) (fun _ => show kitB "bool" "tuple" = some false by decide +kernel) (fun _ => show kitB "int" "tuple" = some false by decide +kernel) (fun _ => show kitB "str" "tuple" = some false by decide +kernel)
    (fun _ => show kitB "tuple" "tuple" = some true by decide +kernel) (show kitB "list" "tuple" = some false by decide +kernel) (show kitB "dict" "tuple" = some false by decide +kernel) h
theorem Rp.isI {x : V} {d : D} (h : Rp K H x d) (h1 : d.isInt = true) (h2 : d.isBl = false) : ∃ i, d = .int i ∧ x = .int i := by
  cases h <;> first | exact ⟨_, rfl, rfl⟩ | (simp [D.isInt] at h1; done) | (simp [D.isBl] at h2; done)
theorem Rp.isS {x : V} {d : D} (h : Rp K H x d) (h1 : d.isStr = true) : ∃ s, d = .str s ∧ x = .str s := by
  cases h <;> first | exact ⟨_, rfl, rfl⟩ | cases h1
theorem Rp.isT {x : V} {d : D} (h : Rp K H x d) (h1 : d.isTup = true) : ∃ a xs ds, d = .tup ds ∧ x = .ref a ∧ SqT K H a xs ∧ RpAll K H xs ds := by
  cases h <;> first | exact ⟨_, _, _, rfl, rfl, by assumption, by assumption⟩ | cases h1
end
/-! ### the promises of pure judges -/
def sp1 (f : D → Bool) (K : PySem.W.Frag) : Sp := fun vs H Q _ => ∃ x d, vs = [x] ∧ Rp K H x d ∧ RetV (.bl (f d)) H Q
theorem sp1_len {f : D → Bool} {K : PySem.W.Frag} {vs : List V} {H : Hp} {Q : VK} {E : XK} (h : sp1 f K vs H Q E) : vs.length = 1 := by
  obtain ⟨x, d, rfl, _⟩ := h
  rfl
theorem sv1 {f : D → Bool} {K : PySem.W.Frag} {H : Hp} {x : V} {d : D} (h : Rp K H x d) : SpV (sp1 f K) [x] H (.bl (f d)) := fun H1 e Q q E => ⟨x, d, rfl, h.ex e, q⟩
abbrev big : Int := 10 ^ 60 - 1
def numB (i : Int) : Bool := decide (-big ≤ i) && decide (i ≤ big)
def D.num : D → Bool
  | .int i => numB i | _ => false
section
variable {P : Program} {w : World} {K : PySem.W.Frag} {mg : Str → Option Value} {base : Heap} {A : Ad} {D : Fd}
abbrev sp_is_number (K : PySem.W.Frag) : Sp := sp1 K0.D.num K
theorem len_is_number {vs : List V} {H : Hp} {Q : VK} {E : XK} (h : sp_is_number K vs H Q E) : vs.length = 1 := sp1_len h
/-- a chain a <= b <= c of ints -/
theorem ev_chain_le {σ : L2.St} {H : Hp} {ta tb tc : TE} {i j k : Int} (ha : Ev ta σ H (.int i)) (hb : Ev tb σ H (.int j)) (hc : Ev tc σ H (.int k)) :
    Ev (tChain (rI0 fun i j => .bl (decide (i ≤ j))) (rI0 fun i j => .bl (decide (i ≤ j))) ta tb tc) σ H (.bl (decide (i ≤ j) && decide (j ≤ k))) := fun H1 e Q q =>
  ha H1 e _ fun H2 e2 => hb H2 (e.trans e2) _ fun H3 e3 => ⟨i, j, rfl, rfl, _, rfl, by
    by_cases c : i ≤ j
    · rw [if_pos (decide_eq_true c)]
      refine hc H3 ((e.trans e2).trans e3) _ fun H4 e4 => ⟨j, k, rfl, rfl, ?_⟩
      have := q H4 ((e2.trans e3).trans e4)
      rw [decide_eq_true c, Bool.true_and] at this
      exact this
    · rw [if_neg (by rw [decide_eq_false c]; decide)]
      have := q H3 (e2.trans e3)
      rw [decide_eq_false c, Bool.false_and] at this
      exact this⟩
theorem ok_is_number (T : Txt K mg A D) : FnOk P w K mg base CX0 1 A.is_number D.is_number ["value"] (sp_is_number K) := by
  obtain ⟨t_MAX_NUMBER, c_MAX_NUMBER⟩ := T.c_MAX_NUMBER
  refine T.F_is_number.ok sc_is_number (fun vs H Q E h => len_is_number h) (fun cdv A0 outer s H vs Q E hr h => ?_)
  refine ⟨_, (pss_cons (ps_if (PW.pt (pw_or (pt_not (pt_val (pe_callB call_isi (by rfl) T.b_isinstance (by decide +kernel) (pa_cons (pv 0) (pa_cons (pe_bltn (v := .ty "int") (u := .type "int") (by rfl) T.b_int (by decide +kernel) rfl) pa_nil))))) (pw_or1 (pt_val (pe_callB call_isi (by rfl) T.b_isinstance (by decide +kernel) (pa_cons (pv 0) (pa_cons (pe_bltn (v := .ty "bool") (u := .type "bool") (by rfl) T.b_bool (by decide +kernel) rfl) pa_nil))))))) (pss_one (ps_ret pe_bl)) pss_nil)
  (pss_one (ps_ret (pe_chain op_le op_le (pe_un un_neg (pe_glob (v := .int (999999999999999999999999999999999999999999999999999999999999)) rfl c_MAX_NUMBER ⟨_, rfl⟩)) (pv 0) (pe_glob (v := .int (999999999999999999999999999999999999999999999999999999999999)) rfl c_MAX_NUMBER ⟨_, rfl⟩))))), ?_⟩
  obtain ⟨x, d, rfl, hx, k⟩ := h
  refine q_when (et_or (et_not (et_B (ev_cb (ea_cons (ev_var rfl) (ea_cons ev_c ea_nil)) (rc_int hx)))) fun _ => et_B (ev_cb (ea_cons (ev_var rfl) (ea_cons ev_c ea_nil)) (rc_bool hx))) (fun hb H1 e1 => ?_) (fun hb H1 e1 => ?_)
  · refine s_ret ev_c fun H2 e2 => ?_
    have hf : K0.D.num d = false := by cases d <;> first | rfl | simp [K0.D.isInt, K0.D.isBl] at hb
    have := k H2 (e1.trans e2)
    rw [hf] at this
    exact this
  · have h1 : K0.D.isInt d = true := by cases z : K0.D.isInt d <;> rw [z] at hb <;> simp at hb <;> rfl
    have h2 : K0.D.isBl d = false := by cases z : K0.D.isBl d <;> rw [z] at hb <;> simp at hb <;> rfl
    obtain ⟨i, rfl, rfl⟩ := hx.isI h1 h2
    refine s_ret (ev_chain_le (i := -big) (j := i) (k := big) (ev_un ev_c ru_neg) (ev_var rfl) ev_c) fun H2 e2 => ?_
    exact k H2 (e1.trans e2)
end
end K0

namespace K0
open PySem L2 Evl
open PySem.Builtin.Str (strSub)
/-! ### texts -/
theorem takeWhile_le {α : Type} (p : α → Bool) : ∀ l : List α, (l.takeWhile p).length ≤ l.length
  | [] => Nat.le_refl _
  | a :: l => by
    rw [List.takeWhile_cons]
    split
    · simp only [List.length_cons]
      have := takeWhile_le p l
      omega
    · simp
theorem takeWhile_all {α : Type} (p : α → Bool) : ∀ l : List α, (l.takeWhile p).length = l.length → l.all p = true
  | [], _ => rfl
  | a :: l, h => by
    rw [List.takeWhile_cons] at h
    split at h
    · rename_i ha
      simp only [List.length_cons] at h
      rw [List.all_cons, ha, takeWhile_all p l (by omega)]
      rfl
    · simp at h
theorem all_takeWhile {α : Type} (p : α → Bool) : ∀ l : List α, l.all p = true → l.takeWhile p = l
  | [], _ => rfl
  | a :: l, h => by
    rw [List.all_cons, Bool.and_eq_true] at h
    rw [List.takeWhile_cons, if_pos h.1, all_takeWhile p l h.2]
theorem drop_takeWhile {α : Type} (p : α → Bool) : ∀ l : List α, (l.drop (l.takeWhile p).length).all p = true → l.all p = true
  | [], _ => rfl
  | a :: l, h => by
    rw [List.takeWhile_cons] at h
    split at h
    · rename_i ha
      rw [List.all_cons, ha, drop_takeWhile p l (by simpa using h)]
      rfl
    · simpa using h
theorem str_nil {x : Str} : x = ("" : Str) ↔ x.cps.toList.length = 0 := by
  constructor
  · intro h
    subst h
    decide +kernel
  · intro h
    obtain ⟨⟨l⟩⟩ := x
    cases l with
    | nil => decide +kernel
    | cons a l => simp at h
theorem strip_all (x y : Str) : decide (V.str (Txt.stripChars x y) = V.str "") = x.cps.toList.all y.cps.contains := by
  have key : (Txt.stripChars x y = ("" : Str)) ↔ x.cps.toList.all y.cps.contains = true := by
    unfold Txt.stripChars
    rw [PySem.W.stripBy_eq]
    show strSub x (stripLo y.cps.contains true x) (stripHi y.cps.contains true x (stripLo y.cps.contains true x)) = ("" : Str) ↔ _
    rw [str_nil]
    have e1 : stripLo y.cps.contains true x = (x.cps.toList.takeWhile y.cps.contains).length := rfl
    have e2 : stripHi y.cps.contains true x (stripLo y.cps.contains true x) = x.cps.toList.length - ((x.cps.toList.drop (stripLo y.cps.contains true x)).reverse.takeWhile y.cps.contains).length := by
      show x.cps.size - _ = _
      rw [Array.length_toList] <;> rfl
    have e3 : (strSub x (stripLo y.cps.contains true x) (stripHi y.cps.contains true x (stripLo y.cps.contains true x))).cps.toList.length = min (stripHi y.cps.contains true x (stripLo y.cps.contains true x)) x.cps.toList.length - stripLo y.cps.contains true x := by
      show (x.cps.extract _ _).toList.length = _
      rw [Array.length_toList, Array.size_extract, Array.length_toList]
    rw [e3, e2, e1]
    generalize x.cps.toList = l
    generalize y.cps.contains = p
    have h1 := takeWhile_le p l
    have h2 := takeWhile_le p (l.drop (l.takeWhile p).length).reverse
    rw [List.length_reverse, List.length_drop] at h2
    constructor
    · intro h
      have h3 : ((l.drop (l.takeWhile p).length).reverse.takeWhile p).length = (l.drop (l.takeWhile p).length).reverse.length := by
        rw [List.length_reverse, List.length_drop]
        omega
      have h4 := takeWhile_all p _ h3
      rw [List.all_reverse] at h4
      exact drop_takeWhile p l h4
    · intro h
      have h3 := all_takeWhile p l h
      rw [h3, List.drop_length]
      simp
  by_cases c : x.cps.toList.all y.cps.contains = true
  · rw [c]
    exact decide_eq_true (congrArg V.str (key.mpr c))
  · rw [Bool.not_eq_true] at c
    rw [c]
    refine decide_eq_false fun q => ?_
    have := key.mp (V.str.inj q)
    rw [c] at this
    cases this
/-! ### more of what evaluates to what -/
section
variable {K : PySem.W.Frag} {σ : L2.St} {H H' : Hp} {ta tb te tx : TE} {t u : TT} {x y z v : V}
/-- a tuple with these items, new or not -/
def EvW (K : PySem.W.Frag) (te : TE) (σ : L2.St) (H : Hp) (xs : List V) : Prop := ∀ H1, Ex H H1 → ∀ Q : VK, (∀ p H2, Ex H1 H2 → SqT K H2 p xs → Q (.ref p) H2) → te σ H1 Q
theorem ew_sl {tl th : TO} {a : Addr} {xs : List V} {lo hi : Option Int} (h : Ev te σ H (.ref a)) (h1 : EvO tl σ H lo) (h2 : EvO th σ H hi) (hs : SqT K H a xs) : EvW K (tSl (rSlA K) te tl th) σ H (cutV xs lo hi) := fun H1 e Q q =>
  h H1 e _ fun H2 e2 => h1 H2 (e.trans e2) _ fun H3 e3 => h2 H3 ((e.trans e2).trans e3) _ fun H4 e4 => by
    have hx := ex_t (((e.trans e2).trans e3).trans e4) hs
    refine ⟨a, xs, rfl, hx, fun hw => ?_, fun _ p hp => ?_⟩
    · refine q a H4 ((e2.trans e3).trans e4) ?_
      have : cutV xs lo hi = xs := by
        unfold cutV
        rw [hw.1, hw.2]
        simp
      rw [this]
      exact hx
    · exact q p _ (((e2.trans e3).trans e4).trans (Ex.new hp)) (st_of upd_same)
/-- comprehensions over a tuple, over zip of two tuples -/
theorem el_lcT {a : Addr} {xs : List V} {tl : TE} {j : Nat} {vs : List Nat} (f : Nat → Bool) (v : Nat → V) (h : Ev tl σ H (.ref a)) (hx : SqT K H a xs) (hz : xs.length ≤ 40000) (hw : ∀ x, wipe ((wipe σ vs).set j (some x)) vs = wipe σ vs)
    (ht : ∀ (i : Nat) (x : V) H1, Ex H H1 → xs[i]? = some x → EvT t ((wipe σ vs).set j (some x)) H1 (f i)) (he : ∀ (i : Nat) (x : V) H1, Ex H H1 → xs[i]? = some x → f i = true → Ev te ((wipe σ vs).set j (some x)) H1 (v i)) :
    EvL (tLc (iTup K tl) (gName j) t te vs) σ H (given xs.length f v) := fun H0 e Q q => h H0 e _ fun H1 e1 => ⟨a, rfl, ⟨xs, ex_t (e.trans e1) hx⟩, fun Dl hD =>
  lc_tup (xs := xs) (Cw H1 f v Dl) ⟨hD, Ex.new hD, upd_same⟩ (fun i H' _ p => ex_t ((e.trans e1).trans p.2.1) hx)
    (fun i x H' hi p => ⟨hw x, cw_turn p (by have := (List.getElem?_eq_some_iff.mp hi).1; omega) (ht i x H1 (e.trans e1) hi) (fun hf => he i x H1 (e.trans e1) hi hf)⟩)
    (fun H' p => q Dl H' (fresh_back e1 p.1) (e1.trans p.2.1) p.2.2)⟩
theorem walk_zipT {a b : Addr} {xs ys : List V} {n : Nat} (hn : n = min xs.length ys.length) : Walk (RZ.ItzT K a b) n (fun H => SqT K H a xs ∧ SqT K H b ys) (YPair (fun i => xs[i]?) (fun i => ys[i]?)) := by
  subst hn
  refine ⟨fun i _ hi g => ?_, fun _ g => ⟨xs, ys, g.1, g.2, by omega⟩, fun i H v H' _ g yy => ?_⟩
  · have l1 : i < xs.length := by omega
    have l2 : i < ys.length := by omega
    exact ⟨xs, ys, xs[i], ys[i], g.1, g.2, List.getElem?_eq_getElem l1, List.getElem?_eq_getElem l2⟩
  · obtain ⟨T, x, z, e1, e2, e3, e4, e5⟩ := yy
    exact ⟨T, x, z, e1, e2, e3, e4 xs g.1, e5 ys g.2⟩
theorem given_map {n : Nat} {f : Nat → Bool} {v : Nat → V} (hf : ∀ i, f i = true) : given n f v = (List.range n).map v := by
  unfold given
  rw [List.filter_eq_self.mpr (fun a _ => hf a)]
theorem rc_all {a : Addr} {bs : List Bool} (h : SqL K H a (bs.map V.bl)) : RC (rAll K) [.ref a] H (.bl (bs.all id)) := fun H1 e Q q => ⟨a, bs, rfl, ex_l e h, q H1 (Ex.refl _)⟩
/-- all([..]) of a new list of truths -/
theorem ev_all {bs : List Bool} (h : EvL te σ H (bs.map V.bl)) : Ev (tCB (rAll K) (tCons te tNil)) σ H (.bl (bs.all id)) := fun H1 e Q q =>
  h H1 e _ fun p H2 _ e2 h2 => ⟨p, bs, rfl, sq_of h2, q H2 e2⟩
theorem et_yes : EvT tYes σ H true := fun H1 _ _ q => q H1 (Ex.refl _)
end
end K0

namespace K0
open PySem L2 Evl
section
variable {K : PySem.W.Frag} {σ : L2.St} {H H' : Hp} {ta tb te tx : TE} {t u : TT} {x y z v : V}
theorem ev_chain_of {σ : L2.St} {H : Hp} {ta tb tc : TE} {r r' : R2} {x y z : V} {a b : Bool} (ha : Ev ta σ H x) (hb : Ev tb σ H y) (hr : RV r x y H (.bl a)) (hc : Ev tc σ H z) (hr' : RV r' y z H (.bl b)) :
    Ev (tChain r r' ta tb tc) σ H (.bl (a && b)) := fun H1 e Q q =>
  ha H1 e _ fun H2 e2 => hb H2 (e.trans e2) _ fun H3 e3 => hr H3 ((e.trans e2).trans e3) _ fun H4 e4 => ⟨a, rfl, by
    cases a with
    | true => exact hc H4 (((e.trans e2).trans e3).trans e4) _ fun H5 e5 => hr' H5 ((((e.trans e2).trans e3).trans e4).trans e5) Q fun H6 e6 => q H6 ((((e2.trans e3).trans e4).trans e5).trans e6)
    | false => exact q H4 ((e2.trans e3).trans e4)⟩
theorem ev_one (h : Ev te σ H v) : Ev te σ H v := h
theorem rc_lenT {a : Addr} {xs : List V} (h : SqT K H a xs) : RC (fun xs H Q => ∃ x n, xs = [x] ∧ LenV K x H n ∧ Q (.int n) H) [.ref a] H (.int (xs.length : Nat)) := fun H1 e Q q =>
  ⟨_, xs.length, rfl, Or.inr ⟨xs, ex_t e h, rfl⟩, q H1 (Ex.refl _)⟩
theorem rc_lenL {a : Addr} {xs : List V} (h : SqL K H a xs) : RC (fun xs H Q => ∃ x n, xs = [x] ∧ LenV K x H n ∧ Q (.int n) H) [.ref a] H (.int (xs.length : Nat)) := fun H1 e Q q =>
  ⟨_, xs.length, rfl, Or.inl ⟨xs, ex_l e h, rfl⟩, q H1 (Ex.refl _)⟩
theorem rc_lenS {s : Str} (h : s.length ≤ sizeLine) : RC (fun xs H Q => ∃ x n, xs = [x] ∧ LenV K x H n ∧ Q (.int n) H) [.str s] H (.int (s.length : Nat)) := fun H1 e Q q =>
  ⟨_, s.length, rfl, ⟨h, rfl⟩, q H1 (Ex.refl _)⟩
/-- a comprehension over zip of two tuples, no test -/
theorem el_lcZ {a : Addr} {xs ys : List V} {t1 t2 : TE} {g : TG} {vs : List Nat} {n : Nat} (v : Nat → V) (h1 : Ev t1 σ H (.ref a)) (hx : SqT K H a xs) (h2 : EvW K t2 σ H ys) (hn : n = min xs.length ys.length) (hz : n ≤ 40000)
    (hg : ∀ i x y T H', xs[i]? = some x → ys[i]? = some y → H' T = some (.tup [x, y]) → ∃ σ2, (∀ k : L2.St → Hp → Prop, k σ2 H' → g (.ref T) (wipe σ vs) H' k) ∧ wipe σ2 vs = wipe σ vs ∧ Ev te σ2 H (v i)) :
    EvL (tLc (RZ.iZipA K (tCons t1 (tCons t2 tNil))) g tYes te vs) σ H ((List.range n).map v) := fun H0 e Q q =>
  h1 H0 e _ fun H1 e1 => h2 H1 (e.trans e1) _ fun b H2 e2 hy => ⟨a, b, xs, ys, rfl, Or.inr ⟨ex_t ((e.trans e1).trans e2) hx, hy, fun Dl hD => by
    have e02 := (e.trans e1).trans e2
    refine lc_it (walk_zipT hn) (Cw H2 (fun _ => true) v Dl) ⟨hD, Ex.new hD, upd_same⟩ (fun i H' _ p => ⟨ex_t p.2.1 (ex_t e02 hx), ex_t p.2.1 hy⟩) (fun i w H' H'' hi p yp => ?_) (fun H' p => ?_)
    · obtain ⟨T, x, y, rfl, hT, rfl, ex, ey⟩ := yp
      obtain ⟨σ2, k1, k2, k3⟩ := hg i x y T (upd H' T (.tup [x, y])) ex ey upd_same
      have hne : Dl ≠ T := ne_of_none p.2.2 hT
      have p' : Cw H2 (fun _ => true) v Dl i (upd H' T (.tup [x, y])) := ⟨p.1, p.2.1.trans (Ex.new hT), by rw [upd_ne hne]; exact p.2.2⟩
      exact k1 _ ⟨k2, cw_turn p' (by omega) et_yes (fun _ => k3.mono e02)⟩
    · have := p.2.2
      rw [given_map (fun _ => rfl)] at this
      exact q Dl H' (fresh_back (e1.trans e2) p.1) ((e1.trans e2).trans p.2.1) this⟩⟩
theorem rv_le {i j : Int} : RV (rI0 fun i j => .bl (decide (i ≤ j))) (.int i) (.int j) H (.bl (decide (i ≤ j))) := rv_I0
theorem rv_lt {i j : Int} : RV (rI0 fun i j => .bl (decide (i < j))) (.int i) (.int j) H (.bl (decide (i < j))) := rv_I0
theorem rv_isN : RV (fun x y H Q => y = .non ∧ Q (.bl (decide (x = .non))) H) x .non H (.bl (decide (x = .non))) := fun H1 _ _ q => ⟨rfl, q H1 (Ex.refl _)⟩
theorem rc_strip {a b : Str} (h : a.length ≤ sizeLine) : ∀ H1, Ex H H1 → ∀ Q : VK, (∀ H2, Ex H1 H2 → Q (.str (Txt.stripChars a b)) H2) → (fun (x : V) (xs : List V) (H : Hp) (Q : VK) => ∃ a b, x = .str a ∧ xs = [.str b] ∧ a.length ≤ sizeLine ∧ Q (.str (Txt.stripChars a b)) H) (.str a) [.str b] H1 Q :=
  fun H1 _ _ q => ⟨a, b, rfl, rfl, h, q H1 (Ex.refl _)⟩
end
/-! ### the judges of stage 1 as functions of data -/
def D.within (lo hi : Int) : D → Bool
  | .int i => numB i && (decide (lo ≤ i) && decide (i ≤ hi)) | _ => false
def D.toInt : D → Int
  | .int i => i | _ => 0
def ascB : List Int → Bool
  | a :: b :: r => decide (a < b) && ascB (b :: r)
  | _ => true
def D.indices (m : Int) : D → Bool
  | .tup ds => ds.all (D.within 0 (m - 1)) && ascB (ds.map D.toInt) | _ => false
def D.circle : D → Bool
  | .tup ds => D.indices 9 (.tup ds) && (decide (1 ≤ ds.length) && decide (ds.length ≤ 7)) | _ => false
def D.word (signs : Str) (most : Int) : D → Bool
  | .str s => decide ((s.length : Int) ≤ most) && s.cps.toList.all signs.cps.contains | _ => false
def D.nonEmpty : D → Bool
  | .str s => decide (0 < s.length) | _ => false
abbrev letters : Str := "abcdefghijklmnopqrstuvwxyz"
abbrev signs37 : Str := "abcdefghijklmnopqrstuvwxyz0123456789 "
def D.key (d : D) : Bool := d.word letters 8 && d.nonEmpty
def D.short (d : D) : Bool := d.within (-(999999999999)) 999999999999
def D.value (d : D) : Bool := d.short || d.word signs37 12
def D.single : D → Bool
  | .non => true
  | .int i => numB i
  | .str s => D.word signs37 3000 (.str s)
  | _ => false
/-- plain, at most n deep -/
def D.plain : Nat → D → Bool
  | 0, d => d.single
  | n + 1, .tup ds => ds.all (D.plain n)
  | _ + 1, d => d.single
def D.small : D → Prop
  | .tup ds => ds.length ≤ 40000 | _ => True
theorem all_getD (ds : List D) (f : D → Bool) : ((List.range ds.length).all fun i => f (ds.getD i .non)) = ds.all f := by
  induction ds with
  | nil => rfl
  | cons d ds ih =>
    rw [List.length_cons, List.range_succ_eq_map, List.all_cons, List.all_cons, List.all_map, ← ih]
    rfl
theorem ints_of {K : PySem.W.Frag} {H : Hp} {lo hi : Int} : ∀ (xs : List V) (ds : List D), RpAll K H xs ds → ds.all (D.within lo hi) = true → xs = (ds.map D.toInt).map V.int
  | _, _, .nil, _ => rfl
  | _, _, .cons (d := d) h r, e => by
    rw [List.all_cons, Bool.and_eq_true] at e
    rw [List.map_cons, List.map_cons, ← ints_of _ _ r e.2]
    cases h with
    | int i => rfl
    | _ => exact absurd e.1 (by simp [D.within])
section
variable {P : Program} {w : World} {K : PySem.W.Frag} {mg : Str → Option Value} {base : Heap} {A : Ad} {D : Fd}
def sp_is_within (K : PySem.W.Frag) : Sp := fun vs H Q _ => ∃ x d lo hi, vs = [x, .int lo, .int hi] ∧ Rp K H x d ∧ RetV (.bl (d.within lo hi)) H Q
theorem len_is_within {vs : List V} {H : Hp} {Q : VK} {E : XK} (h : sp_is_within K vs H Q E) : vs.length = 3 := by
  obtain ⟨x, d, lo, hi, rfl, _⟩ := h
  rfl
theorem sv_within {H : Hp} {x : V} {d : K0.D} {lo hi : Int} (h : Rp K H x d) : SpV (sp_is_within K) [x, .int lo, .int hi] H (.bl (d.within lo hi)) := fun H1 e Q q E => ⟨x, d, lo, hi, rfl, h.ex e, q⟩
theorem ok_is_within (T : Txt K mg A D) : FnOk P w K mg base CX0 2 A.is_within D.is_within ["value", "least", "most"] (sp_is_within K) := by
  have G_is_number : FnOk P w K mg base CX0 1 A.is_number D.is_number ["value"] (sp_is_number K) := ok_is_number T
  refine T.F_is_within.ok sc_is_within (fun vs H Q E h => len_is_within h) (fun cdv A0 outer s H vs Q E hr h => ?_)
  refine ⟨_, (pss_one (ps_ret (pe_and (pe_call G_is_number (hr.mono (by decide)) rfl T.g_is_number T.F_is_number.kp T.b_is_number .nil pass0 (pa_cons (pv 0) pa_nil)) (pe_one (pe_chain op_le op_le (pv 1) (pv 0) (pv 2)))))), ?_⟩
  obtain ⟨x, d, lo, hi, rfl, hx, k⟩ := h
  refine s_ret (ev_is (ev_andV (a := d.num) (b := d.within lo hi) (ev_call (ea_cons (ev_var rfl) ea_nil) (sv1 hx)) fun hb => ?_) ?_) fun H2 e2 => k H2 e2
  · cases hx with
    | int i =>
      have hb' : numB i = true := hb
      refine ev_is (ev_chain_le (i := lo) (j := i) (k := hi) (ev_var rfl) (ev_var rfl) (ev_var rfl)) ?_
      show V.bl (decide (lo ≤ i) && decide (i ≤ hi)) = V.bl (numB i && (decide (lo ≤ i) && decide (i ≤ hi)))
      rw [hb', Bool.true_and]
    | _ => cases hb
  · cases d with
    | int i =>
      show V.bl (numB i && (numB i && _)) = V.bl (numB i && _)
      cases numB i <;> rfl
    | _ => rfl
abbrev sp_is_client (K : PySem.W.Frag) : Sp := sp1 (K0.D.within 0 4) K
theorem len_is_client {vs : List V} {H : Hp} {Q : VK} {E : XK} (h : sp_is_client K vs H Q E) : vs.length = 1 := sp1_len h
theorem ok_is_client (T : Txt K mg A D) : FnOk P w K mg base CX0 3 A.is_client D.is_client ["value"] (sp_is_client K) := by
  have G_is_within : FnOk P w K mg base CX0 2 A.is_within D.is_within ["value", "least", "most"] (sp_is_within K) := ok_is_within T
  obtain ⟨t_MAX_CLIENTS, c_MAX_CLIENTS⟩ := T.c_MAX_CLIENTS
  refine T.F_is_client.ok sc_is_client (fun vs H Q E h => len_is_client h) (fun cdv A0 outer s H vs Q E hr h => ?_)
  refine ⟨_, (pss_one (ps_ret (pe_call G_is_within (hr.mono (by decide)) rfl T.g_is_within T.F_is_within.kp T.b_is_within .nil pass0 (pa_cons (pv 0) (pa_cons pe_int (pa_cons (pe_op op_sub (pe_glob (v := .int (5)) rfl c_MAX_CLIENTS ⟨_, rfl⟩) pe_int) pa_nil)))))), ?_⟩
  obtain ⟨x, d, rfl, hx, k⟩ := h
  exact s_ret (ev_call (ea_cons (ev_var rfl) (ea_cons ev_c (ea_cons (ev_op ev_c ev_c rv_I0) ea_nil))) (sv_within hx)) fun H2 e2 => k H2 e2
abbrev sp_is_short_number (K : PySem.W.Frag) : Sp := sp1 K0.D.short K
theorem len_is_short_number {vs : List V} {H : Hp} {Q : VK} {E : XK} (h : sp_is_short_number K vs H Q E) : vs.length = 1 := sp1_len h
theorem ok_is_short_number (T : Txt K mg A D) : FnOk P w K mg base CX0 3 A.is_short_number D.is_short_number ["value"] (sp_is_short_number K) := by
  have G_is_within : FnOk P w K mg base CX0 2 A.is_within D.is_within ["value", "least", "most"] (sp_is_within K) := ok_is_within T
  obtain ⟨t_MAX_SHORT_NUMBER, c_MAX_SHORT_NUMBER⟩ := T.c_MAX_SHORT_NUMBER
  refine T.F_is_short_number.ok sc_is_short_number (fun vs H Q E h => len_is_short_number h) (fun cdv A0 outer s H vs Q E hr h => ?_)
  refine ⟨_, (pss_one (ps_ret (pe_call G_is_within (hr.mono (by decide)) rfl T.g_is_within T.F_is_within.kp T.b_is_within .nil pass0 (pa_cons (pv 0) (pa_cons (pe_un un_neg (pe_glob (v := .int (999999999999)) rfl c_MAX_SHORT_NUMBER ⟨_, rfl⟩)) (pa_cons (pe_glob (v := .int (999999999999)) rfl c_MAX_SHORT_NUMBER ⟨_, rfl⟩) pa_nil)))))), ?_⟩
  obtain ⟨x, d, rfl, hx, k⟩ := h
  exact s_ret (ev_call (ea_cons (ev_var rfl) (ea_cons (ev_un ev_c ru_neg) (ea_cons ev_c ea_nil))) (sv_within hx)) fun H2 e2 => k H2 e2
/-- row: a tuple of ints -/
def sp_are_ascending (K : PySem.W.Frag) : Sp := fun vs H Q _ => ∃ a ns, vs = [.ref a] ∧ SqT K H a (ns.map V.int) ∧ ns.length ≤ 40000 ∧ RetV (.bl (ascB ns)) H Q
theorem len_are_ascending {vs : List V} {H : Hp} {Q : VK} {E : XK} (h : sp_are_ascending K vs H Q E) : vs.length = 1 := by
  obtain ⟨a, ns, rfl, _⟩ := h
  rfl
theorem sv_asc {H : Hp} {a : Addr} {ns : List Int} (h : SqT K H a (ns.map V.int)) (hl : ns.length ≤ 40000) : SpV (sp_are_ascending K) [.ref a] H (.bl (ascB ns)) := fun H1 e Q q E => ⟨a, ns, rfl, ex_t e h, hl, q⟩
theorem cut1 (xs : List V) : cutV xs (some 1) none = xs.drop 1 := by
  unfold cutV
  have h1 : HT.sIx xs.length 0 (some 1) = min 1 xs.length := HT.sIx_nat _ _ 1
  have h2 : HT.sIx xs.length xs.length none = xs.length := rfl
  rw [h1, h2]
  cases xs with
  | nil => rfl
  | cons x xs =>
    have : min 1 (x :: xs).length = 1 := by simp
    rw [this]
    exact List.take_of_length_le (by simp)
theorem asc_all : ∀ ns : List Int, ((List.range (ns.length - 1)).map fun i => decide (ns.getD i 0 < ns.getD (i + 1) 0)).all id = ascB ns
  | [] => rfl
  | [a] => rfl
  | a :: b :: r => by
    have ih := asc_all (b :: r)
    have e1 : (a :: b :: r).length - 1 = ((b :: r).length - 1) + 1 := by simp
    rw [e1, List.range_succ_eq_map, List.map_cons, List.all_cons, List.map_map]
    show (decide (a < b) && _) = (decide (a < b) && ascB (b :: r))
    rw [← ih]
    rfl
theorem ok_are_ascending (T : Txt K mg A D) : FnOk P w K mg base CX0 1 A.are_ascending D.are_ascending ["row"] (sp_are_ascending K) := by
  refine T.F_are_ascending.ok sc_are_ascending (fun vs H Q E h => len_are_ascending h) (fun cdv A0 outer s H vs Q E hr h => ?_)
  refine ⟨_, (pss_one (ps_ret (pe_callB (cr_all rfl) (by rfl) T.b_all (by decide +kernel) (pa_cons (pe_lc (own := [("one", 1), ("other", 2)]) (g := gTup K 2 (gCons (gName 1) (gCons (gName 2) gNil))) (tt := tYes) rfl sc_are_ascending.nd (RZ.pi_zipA (by rfl) T.b_zip (pa_cons (pv 0) (pa_cons (pe_slice sl_tupA (pv 0) (po_some pe_int) po_none) pa_nil))) (blkOk_by (own := [("one", 1), ("other", 2)]) (N := N_are_ascending) (sc := defScope s_are_ascending) (by decide +kernel)) (fun _ _ _ _ _ => by exact (pg_tup rfl (pgs_cons (pg_name (i := 1) sc_are_ascending.nd rfl (Or.inl rfl)) (pgs_cons (pg_name (i := 2) sc_are_ascending.nd rfl (Or.inl rfl)) pgs_nil)))) (fun _ _ _ _ _ => by exact pts_nil) (fun _ _ _ _ _ => by exact (pe_cmpR op_lt (pv 1) (pv 2) (nomark _)))) pa_nil)))), ?_⟩
  obtain ⟨a, ns, rfl, ha, hl, k⟩ := h
  refine s_ret (ev_is (ev_all (bs := (List.range (ns.length - 1)).map fun i => decide (ns.getD i 0 < ns.getD (i + 1) 0)) ?_) (congrArg V.bl (asc_all ns))) fun H2 e2 => k H2 e2
  rw [List.map_map]
  refine el_lcZ (ys := (ns.map V.int).drop 1) _ (ev_var rfl) ha ?_ (by rw [List.length_drop, List.length_map]; omega) (by omega) (fun i x y T H' hx hy hT => ?_)
  · have := ew_sl (K := K) (lo := some 1) (hi := none) (ev_var rfl : Ev (tVar 0) (start N_are_ascending [V.ref a]) H (.ref a)) (eo_some ev_c) eo_none ha
    rw [cut1] at this
    exact this
  · rw [List.getElem?_map] at hx
    rw [List.getElem?_drop, List.getElem?_map, Nat.add_comm] at hy
    obtain ⟨p, hp, rfl⟩ : ∃ p, ns[i]? = some p ∧ V.int p = x := by
      cases z : ns[i]? with
      | none => rw [z] at hx; cases hx
      | some p => rw [z] at hx; exact ⟨p, rfl, Option.some.inj hx⟩
    obtain ⟨r, hr', rfl⟩ : ∃ p, ns[i + 1]? = some p ∧ V.int p = y := by
      cases z : ns[i + 1]? with
      | none => rw [z] at hy; cases hy
      | some p => rw [z] at hy; exact ⟨p, rfl, Option.some.inj hy⟩
    refine ⟨[some (.ref a), some (.int p), some (.int r)], fun kk hk => ⟨T, _, rfl, st_of hT, rfl, _, _, rfl, _, _, rfl, rfl, hk⟩, rfl, ?_⟩
    refine ev_is (ev_op (ev_var rfl) (ev_var rfl) rv_I0) ?_
    show V.bl (decide (p < r)) = V.bl (decide (ns.getD i 0 < ns.getD (i + 1) 0))
    rw [List.getD_eq_getElem?_getD, List.getD_eq_getElem?_getD, hp, hr']
    rfl
def sp_are_indices (K : PySem.W.Frag) : Sp := fun vs H Q _ => ∃ x d m, vs = [x, .int m] ∧ Rp K H x d ∧ d.small ∧ RetV (.bl (d.indices m)) H Q
theorem len_are_indices {vs : List V} {H : Hp} {Q : VK} {E : XK} (h : sp_are_indices K vs H Q E) : vs.length = 2 := by
  obtain ⟨x, d, m, rfl, _⟩ := h
  rfl
theorem sv_indices {H : Hp} {x : V} {d : K0.D} {m : Int} (h : Rp K H x d) (hs : d.small) : SpV (sp_are_indices K) [x, .int m] H (.bl (d.indices m)) := fun H1 e Q q E => ⟨x, d, m, rfl, h.ex e, hs, q⟩
theorem ok_are_indices (T : Txt K mg A D) : FnOk P w K mg base CX0 3 A.are_indices D.are_indices ["value", "many"] (sp_are_indices K) := by
  have G_is_within : FnOk P w K mg base CX0 2 A.is_within D.is_within ["value", "least", "most"] (sp_is_within K) := ok_is_within T
  have G_are_ascending : FnOk P w K mg base CX0 1 A.are_ascending D.are_ascending ["row"] (sp_are_ascending K) := ok_are_ascending T
  refine T.F_are_indices.ok sc_are_indices (fun vs H Q E h => len_are_indices h) (fun cdv A0 outer s H vs Q E hr h => ?_)
  refine ⟨_, (pss_cons (ps_if (pt_not (pt_val (pe_callB call_isi (by rfl) T.b_isinstance (by decide +kernel) (pa_cons (pv 0) (pa_cons (pe_bltn (v := .ty "tuple") (u := .type "tuple") (by rfl) T.b_tuple (by decide +kernel) rfl) pa_nil))))) (pss_one (ps_ret pe_bl)) pss_nil)
  (pss_cons (ps_if (pt_not (pt_val (pe_callB (cr_all rfl) (by rfl) T.b_all (by decide +kernel) (pa_cons (pe_lc (own := [("index", 2)]) (g := gName 2) (tt := tYes) rfl sc_are_indices.nd (pi_tup (pv 0)) (blkOk_by (own := [("index", 2)]) (N := N_are_indices) (sc := defScope s_are_indices) (by decide +kernel)) (fun _ _ _ _ _ => by exact pg_name (i := 2) sc_are_indices.nd rfl (Or.inl rfl)) (fun _ _ _ _ _ => by exact pts_nil) (fun _ _ _ _ _ => by exact (pe_call G_is_within (hr.mono (by decide)) rfl T.g_is_within T.F_is_within.kp T.b_is_within .nil pass0 (pa_cons (pv 2) (pa_cons pe_int (pa_cons (pe_op op_sub (pv 1) pe_int) pa_nil)))))) pa_nil)))) (pss_one (ps_ret pe_bl)) pss_nil)
  (pss_one (ps_ret (pe_call G_are_ascending (hr.mono (by decide)) rfl T.g_are_ascending T.F_are_ascending.kp T.b_are_ascending .nil pass0 (pa_cons (pv 0) pa_nil)))))), ?_⟩
  obtain ⟨x, d, m, rfl, hx, hs, k⟩ := h
  refine q_when (et_not (et_B (ev_cb (ea_cons (ev_var rfl) (ea_cons ev_c ea_nil)) (rc_tup hx)))) (fun hb H1 e1 => ?_) (fun hb H1 e1 => ?_)
  · refine s_ret ev_c fun H2 e2 => ?_
    have hf : d.indices m = false := by cases d <;> first | rfl | (simp [K0.D.isTup] at hb; done)
    have := k H2 (e1.trans e2)
    rw [hf] at this
    exact this
  · have h1 : d.isTup = true := by cases z : d.isTup <;> rw [z] at hb <;> simp at hb <;> rfl
    obtain ⟨a, xs, ds, rfl, rfl, hq, hr1⟩ := hx.isT h1
    have hl := hr1.len
    have hq1 := ex_t e1 hq
    have hr2 := hr1.ex e1
    have hsz : ds.length ≤ 40000 := hs
    refine q_when (b := !(ds.all (K0.D.within 0 (m - 1)))) (et_not (et_B (ev_is (ev_all (bs := (List.range xs.length).map fun i => (ds.getD i .non).within 0 (m - 1)) ?_) ?_))) (fun hb H2 e2 => ?_) (fun hb H2 e2 => ?_)
    · rw [List.map_map, ← given_map (f := fun _ => true) (fun _ => rfl)]
      refine el_lcT (fun _ => true) _ (ev_var rfl) hq1 (by omega) (fun _ => rfl) (fun i y H3 e3 hy => et_yes) (fun i y H3 e3 hy _ => ?_)
      obtain ⟨d, hd, hrp⟩ := RpAll.get _ _ _ _ (hr2.ex e3) hy
      refine ev_is (ev_call (ea_cons (ev_var rfl) (ea_cons ev_c (ea_cons (ev_op (ev_var rfl) ev_c rv_I0) ea_nil))) (sv_within hrp)) ?_
      show V.bl (d.within 0 (m - 1)) = V.bl ((ds.getD i .non).within 0 (m - 1))
      rw [List.getD_eq_getElem?_getD, hd]
      rfl
    · rw [List.all_map, hl]
      congr 1
      exact all_getD ds _
    · refine s_ret ev_c fun H3 e3 => ?_
      have := k H3 ((e1.trans e2).trans e3)
      have hf : (K0.D.tup ds).indices m = false := by
        show (ds.all (K0.D.within 0 (m - 1)) && _) = false
        cases z : ds.all (K0.D.within 0 (m - 1)) with
        | true => rw [z] at hb; cases hb
        | false => rfl
      rw [hf] at this
      exact this
    · have hall : ds.all (K0.D.within 0 (m - 1)) = true := by
        cases z : ds.all (K0.D.within 0 (m - 1)) with
        | true => rfl
        | false => rw [z] at hb; cases hb
      have hints : xs = (ds.map K0.D.toInt).map V.int := ints_of _ _ hr1 hall
      have hq2 : SqT K H2 a ((ds.map K0.D.toInt).map V.int) := by rw [← hints]; exact ex_t (e1.trans e2) hq
      refine s_ret (ev_call (ea_cons (ev_var rfl) ea_nil) (sv_asc hq2 (by rw [List.length_map]; exact hsz))) fun H3 e3 => ?_
      have := k H3 ((e1.trans e2).trans e3)
      have hf : (K0.D.tup ds).indices m = ascB (ds.map K0.D.toInt) := by
        show (ds.all (K0.D.within 0 (m - 1)) && _) = _
        rw [hall, Bool.true_and]
      rw [hf] at this
      exact this
end
end K0

namespace K0
open PySem L2 Evl
section
variable {K : PySem.W.Frag} {σ : L2.St} {H H' : Hp} {ta tb te tx : TE} {t u : TT} {x y z v : V}
theorem et_truL {a : Addr} {xs : List V} (h : Ev te σ H (.ref a)) (hx : SqL K H a xs) : EvT (fun σ H Q => te σ H fun x H' => ∃ k, TruV K x H' k ∧ Q k H') σ H (!xs.isEmpty) := fun H1 e Q q =>
  h H1 e _ fun H2 e2 => ⟨_, Or.inl ⟨xs, ex_l (e.trans e2) hx, rfl⟩, q H2 e2⟩
/-- [y for row in rows for y in row]: rows a list of tuples -/
theorem el_flat {a : Addr} {rs : List Addr} {rows : List (List V)} {tl : TE} {j j1 : Nat} {vs vs1 : List Nat} (h : Ev tl σ H (.ref a)) (hx : SqL K H a (rs.map V.ref)) (hl : rs.length = rows.length)
    (hr : ∀ (i : Nat) r row, rs[i]? = some r → rows[i]? = some row → SqT K H r row) (hz : rows.flatten.length ≤ 40000)
    (hw : ∀ x, wipe ((wipe σ vs).set j (some x)) vs = wipe σ vs) (hj : ∀ x, ((wipe σ vs).set j (some x))[j]? = some (some x))
    (hw1 : ∀ x y, wipe ((wipe ((wipe σ vs).set j (some x)) vs1).set j1 (some y)) vs1 = wipe ((wipe σ vs).set j (some x)) vs1) (hj1 : ∀ x y, ((wipe ((wipe σ vs).set j (some x)) vs1).set j1 (some y))[j1]? = some (some y)) :
    EvL (tLc2 (iList K tl) (gName j) tYes (iTup K (tVar j)) (gName j1) tYes (tVar j1) vs vs1) σ H rows.flatten := fun H0 e Q q =>
  h H0 e _ fun H1 e1 => ⟨a, rfl, ⟨_, ex_l (e.trans e1) hx⟩, fun Dl hD => by
    refine ⟨fun i m H' => m = rs.length - i ∧ i ≤ rs.length ∧ Ex H1 H' ∧ H' Dl = some (.lst (rows.take i).flatten), ⟨rs.length, by simp, Nat.zero_le _, Ex.new hD, upd_same⟩, ?_⟩
    rintro i m H' ⟨rfl, hi, p1, p2⟩
    have hxl := ex_l ((e.trans e1).trans p1) hx
    by_cases hlt : i < rs.length
    · have hlt2 : i < rows.length := by omega
      have g1 : rs[i]? = some rs[i] := List.getElem?_eq_getElem hlt
      have g2 : rows[i]? = some rows[i] := List.getElem?_eq_getElem hlt2
      have et : rows.take (i + 1) = rows.take i ++ [rows[i]] := by rw [List.take_succ, g2] <;> rfl
      have efl : ((rows.take (i + 1)).flatten).length ≤ rows.flatten.length := by
        have : rows.flatten = (rows.take (i + 1)).flatten ++ (rows.drop (i + 1)).flatten := by rw [← List.flatten_append, List.take_append_drop]
        rw [this, List.length_append]
        omega
      have efl2 : ((rows.take (i + 1)).flatten).length = ((rows.take i).flatten).length + rows[i].length := by rw [et, List.flatten_append]; simp
      have hrow := hr i _ _ g1 g2
      refine .inr ⟨⟨rs.map V.ref, .ref rs[i], hxl, by rw [List.getElem?_map, g1]; rfl⟩, fun H2 => Ex H1 H2 ∧ H2 Dl = some (.lst (rows.take (i + 1)).flatten), fun H2 k => ⟨rs.length - (i + 1), by omega, rfl, hlt, k⟩, fun y H2 yy => ?_⟩
      obtain ⟨rfl, yy⟩ := yy
      have ey := yy _ hxl
      rw [List.getElem?_map, g1] at ey
      have ey : V.ref rs[i] = y := Option.some.inj ey
      subst ey
      refine ⟨hw _, ?_⟩
      refine ⟨_, hj _, rs[i], rfl, ⟨_, ex_t ((e.trans e1).trans p1) hrow⟩, fun jj kk H3 => kk = rows[i].length - jj ∧ jj ≤ rows[i].length ∧ Ex H1 H3 ∧ H3 Dl = some (.lst ((rows.take i).flatten ++ rows[i].take jj)), ⟨_, rfl, Nat.zero_le _, p1, by rw [p2]; simp⟩, ?_⟩
      rintro jj kk H3 ⟨rfl, hjj, q1, q2⟩
      have hrow3 := ex_t ((e.trans e1).trans q1) hrow
      by_cases hlj : jj < rows[i].length
      · have g3 : rows[i][jj]? = some rows[i][jj] := List.getElem?_eq_getElem hlj
        refine .inr ⟨⟨rows[i], rows[i][jj], hrow3, g3⟩, fun H4 => Ex H1 H4 ∧ H4 Dl = some (.lst ((rows.take i).flatten ++ rows[i].take (jj + 1))), fun H4 k => ⟨rows[i].length - (jj + 1), by omega, rfl, hlj, k⟩, fun y H4 yy => ?_⟩
        obtain ⟨rfl, yy⟩ := yy
        have ey := yy _ hrow3
        rw [g3] at ey
        have ey : rows[i][jj] = y := Option.some.inj ey
        subst ey
        refine ⟨hw1 _ _, _, hj1 _ _, _, q2, ?_, ?_, ?_⟩
        · have : ((rows.take i).flatten ++ rows[i].take jj).length ≤ 40000 := by rw [List.length_append, List.length_take]; omega
          exact sz_lt (by omega)
        · exact Ex.mut q1 hD
        · rw [upd_same, List.append_assoc, List.take_succ, g3]
          rfl
      · have : jj = rows[i].length := by omega
        subst this
        refine .inl ⟨⟨rows[i], hrow3, Nat.le_refl _⟩, q1, ?_⟩
        rw [q2, et, List.flatten_append, List.take_length]
        simp
    · have : i = rs.length := by omega
      subst this
      refine .inl ⟨⟨_, hxl, by rw [List.length_map]; exact Nat.le_refl _⟩, q Dl H' (fresh_back e1 hD) (e1.trans p1) ?_⟩
      rw [p2, hl, List.take_length]⟩
end
mutual
/-- how much of a value there is: signs and members -/
def D.size : D → Nat
  | .str s => 1 + s.length / 100
  | .tup ds => 1 + D.sizeL ds
  | _ => 1
def D.sizeL : List D → Nat
  | [] => 0
  | d :: ds => d.size + D.sizeL ds
end
theorem sizeL_len : ∀ ds : List D, ds.length ≤ D.sizeL ds
  | [] => Nat.le_refl _
  | d :: ds => by
    have := sizeL_len ds
    have h1 : 1 ≤ d.size := by cases d <;> simp [D.size]
    simp only [List.length_cons, D.sizeL]
    omega
theorem sizeL_app : ∀ ds es : List D, D.sizeL (ds ++ es) = D.sizeL ds + D.sizeL es
  | [], es => by simp [D.sizeL]
  | d :: ds, es => by
    show d.size + D.sizeL (ds ++ es) = d.size + D.sizeL ds + D.sizeL es
    rw [sizeL_app ds es]
    omega
theorem size_mem : ∀ {ds : List D} {d : D}, d ∈ ds → d.size ≤ D.sizeL ds
  | a :: ds, d, h => by
    rcases List.mem_cons.mp h with h | h
    · subst h
      simp only [D.sizeL]
      omega
    · have := size_mem h
      simp only [D.sizeL]
      omega
def D.kids : D → List D
  | .tup ds => ds | _ => []
end K0

namespace K0
open PySem L2 Evl
section
variable {P : Program} {w : World} {K : PySem.W.Frag} {mg : Str → Option Value} {base : Heap} {A : Ad} {D : Fd}
/-- a judge of values that are not too great -/
def spS (f : K0.D → Bool) (K : PySem.W.Frag) : Sp := fun vs H Q _ => ∃ x d, vs = [x] ∧ Rp K H x d ∧ d.size ≤ 30000 ∧ RetV (.bl (f d)) H Q
theorem spS_len {f : K0.D → Bool} {vs : List V} {H : Hp} {Q : VK} {E : XK} (h : spS f K vs H Q E) : vs.length = 1 := by
  obtain ⟨x, d, rfl, _⟩ := h
  rfl
theorem svS {f : K0.D → Bool} {H : Hp} {x : V} {d : K0.D} (h : Rp K H x d) (hs : d.size ≤ 30000) : SpV (spS f K) [x] H (.bl (f d)) := fun H1 e Q q E => ⟨x, d, rfl, h.ex e, hs, q⟩
theorem small_of {d : K0.D} (h : d.size ≤ 30000) : d.small := by
  cases d with
  | tup ds =>
    have := sizeL_len ds
    simp only [K0.D.size] at h
    show ds.length ≤ 40000
    omega
  | _ => trivial
theorem sline {n : Nat} (h : n ≤ 3000000) : n ≤ sizeLine := by rw [sizeLine_eq]; omega
def sp_is_made_of (K : PySem.W.Frag) : Sp := fun vs H Q _ => ∃ x d sg m, vs = [x, .str sg, .int m] ∧ Rp K H x d ∧ d.size ≤ 30000 ∧ RetV (.bl (d.word sg m)) H Q
theorem len_is_made_of {vs : List V} {H : Hp} {Q : VK} {E : XK} (h : sp_is_made_of K vs H Q E) : vs.length = 3 := by
  obtain ⟨x, d, sg, m, rfl, _⟩ := h
  rfl
theorem sv_made {H : Hp} {x : V} {d : K0.D} {sg : Str} {m : Int} (h : Rp K H x d) (hs : d.size ≤ 30000) : SpV (sp_is_made_of K) [x, .str sg, .int m] H (.bl (d.word sg m)) := fun H1 e Q q E => ⟨x, d, sg, m, rfl, h.ex e, hs, q⟩
/-- s.strip(t) -/
theorem ev_strip {σ : L2.St} {H : Hp} {ta tb : TE} {a b : Str} (ha : Ev ta σ H (.str a)) (hb : Ev tb σ H (.str b)) (h : a.length ≤ sizeLine) :
    Ev (tBM K "str" (fun (x : V) (xs : List V) (H : Hp) (Q : VK) => ∃ a b, x = .str a ∧ xs = [.str b] ∧ a.length ≤ sizeLine ∧ Q (.str (Txt.stripChars a b)) H) ta (tCons tb tNil)) σ H (.str (Txt.stripChars a b)) := fun H1 e Q q =>
  ha H1 e _ fun H2 e2 => ⟨rfl, hb H2 (e.trans e2) _ fun H3 e3 => ⟨a, b, rfl, rfl, h, q H3 (e2.trans e3)⟩⟩
theorem ok_is_made_of (T : Txt K mg A D) : FnOk P w K mg base CX0 1 A.is_made_of D.is_made_of ["value", "signs", "most"] (sp_is_made_of K) := by
  refine T.F_is_made_of.ok sc_is_made_of (fun vs H Q E h => len_is_made_of h) (fun cdv A0 outer s H vs Q E hr h => ?_)
  refine ⟨_, (pss_one (ps_ret (pe_and (pe_callB call_isi (by rfl) T.b_isinstance (by decide +kernel) (pa_cons (pv 0) (pa_cons (pe_bltn (v := .ty "str") (u := .type "str") (by rfl) T.b_str (by decide +kernel) rfl) pa_nil))) (pe_and (pe_cmpR op_le (pe_callB call_len (by rfl) T.b_len (by decide +kernel) (pa_cons (pv 0) pa_nil)) (pv 2) (nomark _)) (pe_one (pe_cmpR op_eq (pe_bm PySem.F.plainAttrs_str PySem.F.slot_str_strip PySem.F.type_str_strip mt_stripChars (pv 0) (pa_cons (pv 1) pa_nil)) pe_str (nomark _))))))), ?_⟩
  obtain ⟨x, d, sg, m, rfl, hx, hs, k⟩ := h
  refine s_ret (ev_is (ev_andV (a := d.isStr) (b := d.word sg m) (ev_cb (ea_cons (ev_var rfl) (ea_cons ev_c ea_nil)) (rc_str hx)) fun hb => ?_) ?_) fun H2 e2 => k H2 e2
  · obtain ⟨s, rfl, rfl⟩ := hx.isS hb
    have hl : s.length ≤ sizeLine := sline (by simp only [K0.D.size] at hs; omega)
    refine ev_andV (a := decide ((s.length : Int) ≤ m)) (ev_op (ev_cb (ea_cons (ev_var rfl) ea_nil) (rc_lenS hl)) (ev_var rfl) rv_I0) fun _ => ?_
    refine ev_is (ev_op (ev_strip (ev_var rfl) (ev_var rfl) hl) ev_c (rv_eq rfl)) ?_
    exact congrArg V.bl (strip_all _ _)
  · cases d <;> rfl
def sp_is_key (K : PySem.W.Frag) : Sp := spS K0.D.key K
theorem len_is_key {vs : List V} {H : Hp} {Q : VK} {E : XK} (h : sp_is_key K vs H Q E) : vs.length = 1 := spS_len h
theorem ok_is_key (T : Txt K mg A D) : FnOk P w K mg base CX0 2 A.is_key D.is_key ["value"] (sp_is_key K) := by
  have G_is_made_of : FnOk P w K mg base CX0 1 A.is_made_of D.is_made_of ["value", "signs", "most"] (sp_is_made_of K) := ok_is_made_of T
  obtain ⟨t_LETTERS, c_LETTERS⟩ := T.c_LETTERS
  obtain ⟨t_MAX_KEY_SIGNS, c_MAX_KEY_SIGNS⟩ := T.c_MAX_KEY_SIGNS
  refine T.F_is_key.ok sc_is_key (fun vs H Q E h => len_is_key h) (fun cdv A0 outer s H vs Q E hr h => ?_)
  refine ⟨_, (pss_one (ps_ret (pe_and (pe_call G_is_made_of (hr.mono (by decide)) rfl T.g_is_made_of T.F_is_made_of.kp T.b_is_made_of .nil pass0 (pa_cons (pv 0) (pa_cons (pe_glob (v := .str "abcdefghijklmnopqrstuvwxyz") rfl c_LETTERS ⟨_, rfl⟩) (pa_cons (pe_glob (v := .int (8)) rfl c_MAX_KEY_SIGNS ⟨_, rfl⟩) pa_nil)))) (pe_one (pe_cmpR op_gt (pe_callB call_len (by rfl) T.b_len (by decide +kernel) (pa_cons (pv 0) pa_nil)) pe_int (nomark _)))))), ?_⟩
  obtain ⟨x, d, rfl, hx, hs, k⟩ := h
  refine s_ret (ev_andV (a := d.word letters 8) (b := d.nonEmpty) (ev_call (ea_cons (ev_var rfl) (ea_cons ev_c (ea_cons ev_c ea_nil))) (sv_made hx hs)) fun hb => ?_) fun H2 e2 => k H2 e2
  cases hx with
  | str s =>
    have hl : s.length ≤ sizeLine := sline (by simp only [K0.D.size] at hs; omega)
    refine ev_is (ev_op (ev_cb (ea_cons (ev_var rfl) ea_nil) (rc_lenS hl)) ev_c rv_I0) ?_
    show V.bl (decide ((0 : Int) < (s.length : Int))) = V.bl (decide (0 < s.length))
    congr 1
    exact decide_eq_decide.mpr (by omega)
  | _ => cases hb
def sp_is_value (K : PySem.W.Frag) : Sp := spS K0.D.value K
theorem len_is_value {vs : List V} {H : Hp} {Q : VK} {E : XK} (h : sp_is_value K vs H Q E) : vs.length = 1 := spS_len h
theorem ok_is_value (T : Txt K mg A D) : FnOk P w K mg base CX0 4 A.is_value D.is_value ["value"] (sp_is_value K) := by
  have G_is_made_of : FnOk P w K mg base CX0 1 A.is_made_of D.is_made_of ["value", "signs", "most"] (sp_is_made_of K) := ok_is_made_of T
  have G_is_short_number : FnOk P w K mg base CX0 3 A.is_short_number D.is_short_number ["value"] (sp_is_short_number K) := ok_is_short_number T
  obtain ⟨t_MAX_SIGNS, c_MAX_SIGNS⟩ := T.c_MAX_SIGNS
  obtain ⟨t_SIGNS, c_SIGNS⟩ := T.c_SIGNS
  refine T.F_is_value.ok sc_is_value (fun vs H Q E h => len_is_value h) (fun cdv A0 outer s H vs Q E hr h => ?_)
  refine ⟨_, (pss_one (ps_ret (pe_or (pe_call G_is_short_number (hr.mono (by decide)) rfl T.g_is_short_number T.F_is_short_number.kp T.b_is_short_number .nil pass0 (pa_cons (pv 0) pa_nil)) (pe_one (pe_call G_is_made_of (hr.mono (by decide)) rfl T.g_is_made_of T.F_is_made_of.kp T.b_is_made_of .nil pass0 (pa_cons (pv 0) (pa_cons (pe_glob (v := .str "abcdefghijklmnopqrstuvwxyz0123456789 ") rfl c_SIGNS ⟨_, rfl⟩) (pa_cons (pe_glob (v := .int (12)) rfl c_MAX_SIGNS ⟨_, rfl⟩) pa_nil)))))))), ?_⟩
  obtain ⟨x, d, rfl, hx, hs, k⟩ := h
  exact s_ret (ev_orV (a := d.short) (b := d.word signs37 12) (ev_call (ea_cons (ev_var rfl) ea_nil) (sv1 hx)) fun hb => ev_call (ea_cons (ev_var rfl) (ea_cons ev_c (ea_cons ev_c ea_nil))) (sv_made hx hs)) fun H2 e2 => k H2 e2
def D.isNon : K0.D → Bool
  | .non => true | _ => false
theorem Rp.isN {H : Hp} {x : V} {d : K0.D} (h : Rp K H x d) : decide (x = V.non) = d.isNon := by cases h <;> rfl
def sp_is_single (K : PySem.W.Frag) : Sp := spS K0.D.single K
theorem len_is_single {vs : List V} {H : Hp} {Q : VK} {E : XK} (h : sp_is_single K vs H Q E) : vs.length = 1 := spS_len h
theorem ok_is_single (T : Txt K mg A D) : FnOk P w K mg base CX0 2 A.is_single D.is_single ["value"] (sp_is_single K) := by
  have G_is_number : FnOk P w K mg base CX0 1 A.is_number D.is_number ["value"] (sp_is_number K) := ok_is_number T
  have G_is_made_of : FnOk P w K mg base CX0 1 A.is_made_of D.is_made_of ["value", "signs", "most"] (sp_is_made_of K) := ok_is_made_of T
  obtain ⟨t_MAX_STRING, c_MAX_STRING⟩ := T.c_MAX_STRING
  obtain ⟨t_SIGNS, c_SIGNS⟩ := T.c_SIGNS
  refine T.F_is_single.ok sc_is_single (fun vs H Q E h => len_is_single h) (fun cdv A0 outer s H vs Q E hr h => ?_)
  refine ⟨_, (pss_one (ps_ret (pe_or (pe_cmpR op_isN (pv 0) pe_non (nomark _)) (pe_or (pe_call G_is_number (hr.mono (by decide)) rfl T.g_is_number T.F_is_number.kp T.b_is_number .nil pass0 (pa_cons (pv 0) pa_nil)) (pe_one (pe_call G_is_made_of (hr.mono (by decide)) rfl T.g_is_made_of T.F_is_made_of.kp T.b_is_made_of .nil pass0 (pa_cons (pv 0) (pa_cons (pe_glob (v := .str "abcdefghijklmnopqrstuvwxyz0123456789 ") rfl c_SIGNS ⟨_, rfl⟩) (pa_cons (pe_glob (v := .int (3000)) rfl c_MAX_STRING ⟨_, rfl⟩) pa_nil))))))))), ?_⟩
  obtain ⟨x, d, rfl, hx, hs, k⟩ := h
  refine s_ret (ev_is (ev_orV (a := d.isNon) (b := d.num || d.word signs37 3000) (ev_is (ev_op (ev_var rfl) ev_c rv_isN) (congrArg V.bl hx.isN)) fun _ => ?_) ?_) fun H2 e2 => k H2 e2
  · exact ev_orV (ev_call (ea_cons (ev_var rfl) ea_nil) (sv1 hx)) fun _ => ev_call (ea_cons (ev_var rfl) (ea_cons ev_c (ea_cons ev_c ea_nil))) (sv_made hx hs)
  · cases d with
    | int i =>
      show V.bl (false || (numB i || false)) = V.bl (numB i)
      cases numB i <;> rfl
    | _ => rfl
def sp_is_circle (K : PySem.W.Frag) : Sp := spS K0.D.circle K
theorem len_is_circle {vs : List V} {H : Hp} {Q : VK} {E : XK} (h : sp_is_circle K vs H Q E) : vs.length = 1 := spS_len h
theorem ok_is_circle (T : Txt K mg A D) : FnOk P w K mg base CX0 4 A.is_circle D.is_circle ["value"] (sp_is_circle K) := by
  have G_are_indices : FnOk P w K mg base CX0 3 A.are_indices D.are_indices ["value", "many"] (sp_are_indices K) := ok_are_indices T
  obtain ⟨t_MAX_CIRCLE, c_MAX_CIRCLE⟩ := T.c_MAX_CIRCLE
  obtain ⟨t_MAX_HOUSES, c_MAX_HOUSES⟩ := T.c_MAX_HOUSES
  refine T.F_is_circle.ok sc_is_circle (fun vs H Q E h => len_is_circle h) (fun cdv A0 outer s H vs Q E hr h => ?_)
  refine ⟨_, (pss_one (ps_ret (pe_and (pe_call G_are_indices (hr.mono (by decide)) rfl T.g_are_indices T.F_are_indices.kp T.b_are_indices .nil pass0 (pa_cons (pv 0) (pa_cons (pe_glob (v := .int (9)) rfl c_MAX_HOUSES ⟨_, rfl⟩) pa_nil))) (pe_one (pe_chain op_le op_le pe_int (pe_callB call_len (by rfl) T.b_len (by decide +kernel) (pa_cons (pv 0) pa_nil)) (pe_glob (v := .int (7)) rfl c_MAX_CIRCLE ⟨_, rfl⟩)))))), ?_⟩
  obtain ⟨x, d, rfl, hx, hs, k⟩ := h
  refine s_ret (ev_is (ev_andV (a := d.indices 9) (b := d.circle) (ev_call (ea_cons (ev_var rfl) (ea_cons ev_c ea_nil)) (sv_indices hx (small_of hs))) fun hb => ?_) ?_) fun H2 e2 => k H2 e2
  · cases hx with
    | tup hq hr1 =>
      have hl := hr1.len
      refine ev_is (ev_chain_le (ev_c (v := .int 1)) (ev_cb (ea_cons (ev_var rfl) ea_nil) (rc_lenT hq)) ev_c) ?_
      rename_i a xs ds
      show V.bl (decide ((1 : Int) ≤ (xs.length : Int)) && decide ((xs.length : Int) ≤ 7)) = V.bl (K0.D.indices 9 (.tup ds) && (decide (1 ≤ ds.length) && decide (ds.length ≤ 7)))
      rw [hb, Bool.true_and, hl]
      congr 2
      · exact decide_eq_decide.mpr (by omega)
      · exact decide_eq_decide.mpr (by omega)
    | _ => cases hb
  · cases d with
    | tup ds =>
      show V.bl (K0.D.indices 9 (.tup ds) && (K0.D.indices 9 (.tup ds) && _)) = V.bl (K0.D.indices 9 (.tup ds) && _)
      cases K0.D.indices 9 (.tup ds) <;> rfl
    | _ => rfl
end
end K0

namespace K0
open PySem L2 Evl
def tupsL : List D → List (List D)
  | [] => []
  | .tup es :: r => es :: tupsL r
  | _ :: r => tupsL r
theorem tupsL_app : ∀ a b : List D, tupsL (a ++ b) = tupsL a ++ tupsL b
  | [], _ => rfl
  | d :: r, b => by
    cases d <;> first | exact congrArg _ (tupsL_app r b) | exact tupsL_app r b
def okTop (d : D) : Bool := d.isTup || d.single
theorem plain_flat {j : Nat} : ∀ ds : List D, ds.all okTop = true → ds.all (D.plain (j + 1)) = (tupsL ds).flatten.all (D.plain j)
  | [], _ => rfl
  | d :: r, h => by
    rw [List.all_cons, Bool.and_eq_true] at h
    have ih := plain_flat (j := j) r h.2
    rw [List.all_cons, ih]
    cases d with
    | tup es =>
      show (es.all (D.plain j) && _) = ((es :: tupsL r).flatten).all _
      rw [List.flatten_cons, List.all_append]
    | non => rfl
    | bl b => exact absurd h.1 (by simp [okTop, D.isTup, D.single])
    | int i =>
      have hs : D.single (.int i) = true := h.1
      show (D.single (.int i) && _) = _
      rw [hs, Bool.true_and]
      rfl
    | str s =>
      have hs : D.single (.str s) = true := h.1
      show (D.single (.str s) && _) = _
      rw [hs, Bool.true_and]
      rfl
    | oth => exact absurd h.1 (by simp [okTop, D.isTup, D.single])
theorem plain_single {n : Nat} {d : D} (h : d.isTup = false) : d.plain n = d.single := by
  cases n <;> cases d <;> first | rfl | cases h
theorem plain_none : ∀ {ds : List D} {n : Nat}, ds.all okTop = true → tupsL ds = [] → ds.all (D.plain n) = true
  | [], _, _, _ => rfl
  | d :: r, n, h, e => by
    rw [List.all_cons, Bool.and_eq_true] at h
    cases ht : d.isTup with
    | true =>
      cases d with
      | tup es => exact absurd e (by simp [tupsL])
      | _ => cases ht
    | false =>
      have h1 : d.single = true := by
        have := h.1
        unfold okTop at this
        rw [ht, Bool.false_or] at this
        exact this
      have e' : tupsL r = [] := by cases d <;> first | exact e | cases ht
      rw [List.all_cons, plain_single ht, h1, Bool.true_and]
      exact plain_none h.2 e'
theorem plain_deep : ∀ {ds : List D}, tupsL ds ≠ [] → ds.all (D.plain 0) = false
  | [], h => absurd rfl h
  | d :: r, h => by
    cases ht : d.isTup with
    | true =>
      cases d with
      | tup es => rfl
      | _ => cases ht
    | false =>
      have h' : tupsL r ≠ [] := by cases d <;> first | exact h | cases ht
      rw [List.all_cons, plain_deep h', Bool.and_false]
theorem size_flat : ∀ ds : List D, D.sizeL (tupsL ds).flatten + (tupsL ds).length ≤ D.sizeL ds
  | [] => Nat.le_refl _
  | d :: r => by
    have ih := size_flat r
    cases d with
    | tup es =>
      show D.sizeL (es :: tupsL r).flatten + (tupsL r).length.succ ≤ D.size (.tup es) + D.sizeL r
      rw [List.flatten_cons, sizeL_app]
      simp only [D.size]
      omega
    | _ =>
      simp only [D.sizeL]
      show D.sizeL (tupsL r).flatten + (tupsL r).length ≤ _
      omega
theorem tups_nil_empty : D.sizeL ([] : List D) = 0 := rfl
inductive Rows (K : PySem.W.Frag) (H : Hp) : List Addr → List (List V) → List (List D) → Prop where
  | nil : Rows K H [] [] []
  | cons {r : Addr} {row : List V} {es : List D} {rs : List Addr} {rows : List (List V)} {ess : List (List D)} : SqT K H r row → RpAll K H row es → Rows K H rs rows ess → Rows K H (r :: rs) (row :: rows) (es :: ess)
section
variable {K : PySem.W.Frag} {H H' : Hp}
theorem Rows.snoc {r : Addr} {row : List V} {es : List D} (h : SqT K H r row) (hr : RpAll K H row es) : ∀ {rs : List Addr} {rows : List (List V)} {ess : List (List D)}, Rows K H rs rows ess → Rows K H (rs ++ [r]) (rows ++ [row]) (ess ++ [es])
  | _, _, _, .nil => .cons h hr .nil
  | _, _, _, .cons a b c => .cons a b (Rows.snoc h hr c)
theorem Rows.len : ∀ {rs : List Addr} {rows : List (List V)} {ess : List (List D)}, Rows K H rs rows ess → rs.length = rows.length ∧ rs.length = ess.length
  | _, _, _, .nil => ⟨rfl, rfl⟩
  | _, _, _, .cons _ _ c => ⟨by rw [List.length_cons, List.length_cons, c.len.1], by rw [List.length_cons, List.length_cons, c.len.2]⟩
theorem Rows.get : ∀ {rs : List Addr} {rows : List (List V)} {ess : List (List D)}, Rows K H rs rows ess → ∀ (i : Nat) r row, rs[i]? = some r → rows[i]? = some row → SqT K H r row
  | _, _, _, .nil, i, r, row, h, _ => by simp at h
  | _, _, _, .cons a _ c, 0, r, row, h, h' => by
    have e1 := Option.some.inj h
    have e2 := Option.some.inj h'
    subst e1 e2
    exact a
  | _, _, _, .cons _ _ c, i + 1, r, row, h, h' => Rows.get c i r row (by simpa using h) (by simpa using h')
theorem Rows.flat : ∀ {rs : List Addr} {rows : List (List V)} {ess : List (List D)}, Rows K H rs rows ess → RpAll K H rows.flatten ess.flatten
  | _, _, _, .nil => .nil
  | _, _, _, .cons _ b c => by
    rw [List.flatten_cons, List.flatten_cons]
    exact RpAll.app b (Rows.flat c)
end
section
variable {P : Program} {w : World} {K : PySem.W.Frag} {mg : Str → Option Value} {base : Heap} {A : Ad} {D : Fd}
def sp_is_plain_within (K : PySem.W.Frag) : Sp := fun vs H Q _ => ∃ x d, ∃ n : Nat, vs = [x, .int (n : Int)] ∧ Rp K H x d ∧ d.size ≤ 30000 ∧ RetV (.bl (d.plain n)) H Q
theorem len_is_plain_within {vs : List V} {H : Hp} {Q : VK} {E : XK} (h : sp_is_plain_within K vs H Q E) : vs.length = 2 := by
  obtain ⟨x, d, n, rfl, _⟩ := h
  rfl
theorem sv_within_plain {H : Hp} {x : V} {d : K0.D} {n : Nat} (h : Rp K H x d) (hs : d.size ≤ 30000) : SpV (sp_is_plain_within K) [x, .int (n : Int)] H (.bl (d.plain n)) := fun H1 e Q q E => ⟨x, d, n, rfl, h.ex e, hs, q⟩
def PlainW (K : PySem.W.Frag) (H : Hp) (x : V) (d : K0.D) (n : Nat) (m : Nat) (σ : L2.St) (H' : Hp) : Prop :=
  ∃ (lv : Addr) (xs : List V) (ds : List K0.D) (k : Nat) (v4 v5 : Option V), σ = [some x, some (.int (n : Int)), some (.ref lv), some (.int (k : Int)), v4, v5, none, none] ∧ H' lv = some (.lst xs) ∧ RpAll K H' xs ds ∧ Ex H H' ∧
    K0.D.sizeL ds = m ∧ m ≤ 30000 ∧ k ≤ n ∧ d.plain n = ds.all (K0.D.plain (n - k))
def PlainP (K : PySem.W.Frag) (H1 : Hp) (x : V) (n k : Nat) (lv p : Addr) (ds : List K0.D) (i : Nat) (σ : L2.St) (H' : Hp) : Prop :=
  ∃ (ys : List Addr) (rows : List (List V)) (v5 : Option V), σ = [some x, some (.int (n : Int)), some (.ref lv), some (.int (k : Int)), some (.ref p), v5, none, none] ∧ Ex H1 H' ∧ H' p = some (.lst (ys.map V.ref)) ∧
    Rows K H1 ys rows (tupsL (ds.take i)) ∧ (ds.take i).all okTop = true ∧ ys.length ≤ i
theorem ok_is_plain_within (T : Txt K mg A D) : FnOk P w K mg base CX0 3 A.is_plain_within D.is_plain_within ["value", "most"] (sp_is_plain_within K) := by
  have G_is_single : FnOk P w K mg base CX0 2 A.is_single D.is_single ["value"] (sp_is_single K) := ok_is_single T
  refine T.F_is_plain_within.ok sc_is_plain_within (fun vs H Q E h => len_is_plain_within h) (fun cdv A0 outer s H vs Q E hr h => ?_)
  refine ⟨_, (pss_cons (ps_set (i := 2) sc_is_plain_within.nd rfl (Or.inl rfl) (pe_lst (pa_cons (pv 0) pa_nil)))
  (pss_cons (ps_set (i := 3) sc_is_plain_within.nd rfl (Or.inl rfl) pe_int)
  (pss_cons (ps_while PassesOwn.never (pt_truth (pv 2) (by intro _; rfl)) (pss_cons (ps_set (i := 4) sc_is_plain_within.nd rfl (Or.inl rfl) (pe_lst pa_nil))
  (pss_cons (ps_for PassesOwn.never rfl (pi_list (pv 2)) (pg_name (i := 5) sc_is_plain_within.nd rfl (Or.inl rfl)) (pss_one (ps_if (pt_val (pe_callB call_isi (by rfl) T.b_isinstance (by decide +kernel) (pa_cons (pv 5) (pa_cons (pe_bltn (v := .ty "tuple") (u := .type "tuple") (by rfl) T.b_tuple (by decide +kernel) rfl) pa_nil)))) (pss_one (ps_expr (pe_bm PySem.F.plainAttrs_list PySem.F.slot_list_append PySem.F.type_list_append mt_append (pv 4) (pa_cons (pv 5) pa_nil)))) (pss_one (ps_if (pt_not (pt_val (pe_call G_is_single (hr.mono (by decide)) rfl T.g_is_single T.F_is_single.kp T.b_is_single .nil pass0 (pa_cons (pv 5) pa_nil)))) (pss_one (ps_ret pe_bl)) pss_nil)))))
  (pss_cons (ps_if (pt_truth (pv 4) (by intro _; rfl)) (pss_one (ps_aug (i := 3) sc_is_plain_within.nd rfl (Or.inl rfl) pe_int ip_add)) pss_nil)
  (pss_cons (ps_if (pt_cmpR op_gt (pv 3) (pv 1) (nomark _)) (pss_one (ps_ret pe_bl)) pss_nil)
  (pss_one (ps_setLc2 (i := 2) (wi1 := iTup K (tVar 6)) (own := [("row", 6), ("member", 7)]) (vs1 := [7]) (g := gName 6) (g1 := gName 7) (tt := tYes) (tt1 := tYes) rfl sc_is_plain_within.nd rfl rfl (sw_true rfl rfl rfl (by decide +kernel)) (pi_list (pv 4)) (blkOk_by (own := [("row", 6), ("member", 7)]) (N := N_is_plain_within) (sc := defScope s_is_plain_within) (by decide +kernel)) (by decide) (fun _ _ _ _ _ => by exact pg_name (i := 6) sc_is_plain_within.nd rfl (Or.inl rfl)) (fun _ _ _ _ _ => pts_nil) (fun _ _ _ _ _ => by exact (pi_tup (pv 6))) (fun _ _ _ _ _ => by exact pg_name (i := 7) sc_is_plain_within.nd rfl (Or.inl rfl)) (fun _ _ _ _ _ => pts_nil) (fun _ _ _ _ _ => by exact (pv 7)))))))))
  (pss_one (ps_ret pe_bl))))), ?_⟩
  obtain ⟨x, d, n, rfl, hx, hs, k⟩ := h
  have wl : ∀ (lv : Addr) (xs : List V), xs.length = 1 → True := fun _ _ _ => trivial
  refine q_asgL (el_lst (ea_cons (ev_var rfl) ea_nil) (by simp)) fun lv H1 hlv e1 h1 => ?_
  refine q_asg ev_c fun H2 e2 => ?_
  refine q_while (PlainW K H x d n) _ ⟨lv, [x], [d], 0, none, none, rfl, e2 _ _ h1, .cons (hx.ex (e1.trans e2)) .nil, e1.trans e2, rfl, ?_, Nat.zero_le _, ?_⟩ ?_
  · simp only [K0.D.sizeL]
    omega
  · simp
  rintro m σ' H' ⟨lv, xs, ds, kk, v4, v5, rfl, hl, hr0, e0, hm, hm2, hk, hp⟩
  have hlen := hr0.len
  have hsl := sizeL_len ds
  refine ⟨!xs.isEmpty, et_truL (ev_var rfl) (sq_of hl), fun hb H3 e3 => ⟨fun σ2 H2 => ∃ m', m' < m ∧ PlainW K H x d n m' σ2 H2, fun σ2 H2 z => z, ?_⟩, fun hb H3 e3 => ?_⟩
  · -- a turn
    have hr3 := hr0.ex e3
    refine q_asgL (el_lst ea_nil (by decide)) fun p H4 hp4 e4 h4 => ?_
    refine q_forLn (xs := xs) (ev_var rfl) (sq_of (e4 _ _ (e3 _ _ hl))) (PlainP K H3 x n kk lv p ds) (fun H5 e5 => ?_) (fun i σ5 H5 hi q5 => ?_) (fun i y σ5 H5 hy q5 => ?_) (fun σ5 H5 q5 => ?_)
    · exact ⟨[], [], v5, rfl, e4.trans e5, e5 _ _ h4, .nil, rfl, Nat.le_refl _⟩
    · obtain ⟨ys, rows, w5, rfl, q1, _⟩ := q5
      exact sq_of (q1 _ _ (e3 _ _ hl))
    · obtain ⟨ys, rows, w5, rfl, q1, q2, q3, q4, q6⟩ := q5
      obtain ⟨di, hdi, hrp⟩ := RpAll.get _ _ _ _ hr3 hy
      have hmem : di ∈ ds := List.mem_of_getElem? hdi
      have hsz : di.size ≤ 30000 := by have := size_mem hmem; omega
      have hilt : i < xs.length := (List.getElem?_eq_some_iff.mp hy).1
      have etk : ds.take (i + 1) = ds.take i ++ [di] := by rw [List.take_succ, hdi]; rfl
      refine s_if (et_B (ev_cb (ea_cons (ev_var rfl) (ea_cons ev_c ea_nil)) (rc_tup (hrp.ex q1)))) (fun hb H6 e6 => ?_) (fun hb H6 e6 => ?_)
      · obtain ⟨r, row, es, rfl, rfl, hq, hra⟩ := hrp.isT hb
        refine s_app (e6 _ _ q2) (ev_var rfl) (ev_var rfl) (by rw [List.length_map]; omega) fun H7 e7 => ?_
        refine ⟨ys ++ [r], rows ++ [row], _, rfl, Ex.mut ((q1.trans e6).trans e7) hp4, ?_, ?_, ?_, ?_⟩
        · rw [upd_same, List.map_append]
          rfl
        · rw [etk, tupsL_app]
          exact Rows.snoc hq hra q3
        · rw [etk, List.all_append, q4]
          rfl
        · rw [List.length_append]
          simp
          omega
      · refine s_if (et_not (et_B (ev_call (ea_cons (ev_var rfl) ea_nil) (svS (hrp.ex (q1.trans e6)) hsz)))) (fun hb2 H7 e7 => ?_) (fun hb2 H7 e7 => ?_)
        · refine s_ret ev_c fun H8 e8 => ?_
          have := k H8 ((((e0.trans e3).trans q1).trans e6).trans (e7.trans e8))
          have hf : ds.all (K0.D.plain (n - kk)) = false := by
            have hdf : di.plain (n - kk) = false := by
              rw [plain_single hb]
              cases z : di.single with
              | true => rw [z] at hb2; cases hb2
              | false => rfl
            rw [List.all_eq_false]
            exact ⟨di, hmem, by rw [hdf]; decide⟩
          rw [hp, hf] at this
          exact this
        · have hsi : di.single = true := by
            cases z : di.single with
            | true => rfl
            | false => rw [z] at hb2; cases hb2
          refine ⟨ys, rows, _, rfl, (q1.trans e6).trans e7, e7 _ _ (e6 _ _ q2), ?_, ?_, by omega⟩
          · rw [etk, tupsL_app]
            have : tupsL [di] = [] := by cases di <;> first | rfl | cases hb
            rw [this, List.append_nil]
            exact q3
          · rw [etk, List.all_append, q4]
            show (true && ((di.isTup || di.single) && true)) = true
            rw [hsi]
            cases di.isTup <;> rfl
    · obtain ⟨ys, rows, w5, rfl, q1, q2, q3, q4, q6⟩ := q5
      rw [hlen, List.take_length] at q3 q4
      have hrl := q3.len
      have hszf := size_flat ds
      have hflen : rows.flatten.length ≤ 40000 := by
        have h1 := q3.flat.len
        have h2 := sizeL_len (tupsL ds).flatten
        omega
      have fin : ∀ (k' : Nat) (H8 : Hp), Ex H5 H8 → k' ≤ n → d.plain n = (tupsL ds).flatten.all (K0.D.plain (n - k')) → K0.D.sizeL (tupsL ds).flatten < m →
          tAsg (tLc2 (iList K (tVar 4)) (gName 6) tYes (iTup K (tVar 6)) (gName 7) tYes (tVar 7) [6, 7] [7]) (gName 2) { nx := fun σ2 H2 => ∃ m', m' < m ∧ PlainW K H x d n m' σ2 H2, rt := Q, bk := fun _ _ => False, ct := fun _ _ => False }
            [some x, some (.int (n : Int)), some (.ref lv), some (.int (k' : Int)), some (.ref p), w5, none, none] H8 := fun k' H8 e8 hk' hpl hlt => by
        refine s_asgL (el_flat (a := p) (ev_var rfl) (sq_of (e8 _ _ q2)) hrl.1 (fun i r row h1 h2 => ex_t (q1.trans e8) (q3.get i r row h1 h2)) hflen (fun _ => rfl) (fun _ => rfl) (fun _ _ => rfl) (fun _ _ => rfl)) fun lv2 H9 hlv2 e9 h9 => ?_
        exact ⟨_, hlt, lv2, rows.flatten, (tupsL ds).flatten, k', _, _, rfl, h9, q3.flat.ex ((q1.trans e8).trans e9), ((e0.trans e3).trans q1).trans (e8.trans e9), rfl, by omega, hk', hpl⟩
      have hne : ds ≠ [] := by
        intro z
        subst z
        have : xs = [] := by
          cases xs with
          | nil => rfl
          | cons a b => cases hr0
        subst this
        cases hb
      refine q_when (et_truL (ev_var rfl) (sq_of q2)) (fun hb6 H6 e6 => ?_) (fun hb6 H6 e6 => ?_)
      · have hys : tupsL ds ≠ [] := by
          intro z
          have h1 := hrl.2
          rw [z] at h1
          have h2 : ys = [] := List.length_eq_zero_iff.mp h1
          subst h2
          cases hb6
        have hpos : 0 < (tupsL ds).length := List.length_pos_iff.mpr hys
        refine s_aug (a := (kk : Int)) (b := 1) rfl ev_c fun H7 e7 => ?_
        refine q_when (b := decide ((n : Int) < (kk : Int) + 1)) (et_test (ev_op (ev_var rfl) (ev_var rfl) rv_I0)) (fun hb7 H8 e8 => ?_) (fun hb7 H8 e8 => ?_)
        · refine s_ret ev_c fun H9 e9 => ?_
          have := k H9 ((((e0.trans e3).trans q1).trans e6).trans ((e7.trans e8).trans e9))
          have hkn : n - kk = 0 := by
            have := of_decide_eq_true hb7
            omega
          rw [hp, hkn, plain_deep hys] at this
          exact this
        · have hkn : kk + 1 ≤ n := by
            have := of_decide_eq_false hb7
            omega
          refine fin (kk + 1) H8 ((e6.trans e7).trans e8) hkn ?_ (by omega)
          have e1 : n - kk = (n - (kk + 1)) + 1 := by omega
          rw [hp, e1]
          exact plain_flat ds q4
      · have hys : tupsL ds = [] := by
          have h1 : ys = [] := by
            cases ys with
            | nil => rfl
            | cons a b => cases hb6
          subst h1
          exact List.length_eq_zero_iff.mp hrl.2.symm
        refine q_when (b := decide ((n : Int) < (kk : Int))) (et_test (ev_op (ev_var rfl) (ev_var rfl) rv_I0)) (fun hb7 H8 e8 => ?_) (fun hb7 H8 e8 => ?_)
        · have := of_decide_eq_true hb7
          omega
        · have hpos : 0 < ds.length := List.length_pos_iff.mpr hne
          refine fin kk H8 (e6.trans e8) hk ?_ ?_
          · rw [hp, hys, plain_none q4 hys]
            rfl
          · rw [hys]
            show 0 < m
            omega
  · have : xs = [] := by
      cases xs with
      | nil => rfl
      | cons a b => cases hb
    subst this
    have hd : ds = [] := by
      cases ds with
      | nil => rfl
      | cons a b => cases hr0
    subst hd
    refine s_ret ev_c fun H4 e4 => ?_
    have := k H4 ((e0.trans e3).trans e4)
    rw [hp] at this
    exact this
def sp_is_plain (K : PySem.W.Frag) : Sp := spS (K0.D.plain 12) K
theorem len_is_plain {vs : List V} {H : Hp} {Q : VK} {E : XK} (h : sp_is_plain K vs H Q E) : vs.length = 1 := spS_len h
theorem ok_is_plain (T : Txt K mg A D) : FnOk P w K mg base CX0 4 A.is_plain D.is_plain ["value"] (sp_is_plain K) := by
  have G_is_plain_within : FnOk P w K mg base CX0 3 A.is_plain_within D.is_plain_within ["value", "most"] (sp_is_plain_within K) := ok_is_plain_within T
  obtain ⟨t_MAX_NEST, c_MAX_NEST⟩ := T.c_MAX_NEST
  refine T.F_is_plain.ok sc_is_plain (fun vs H Q E h => len_is_plain h) (fun cdv A0 outer s H vs Q E hr h => ?_)
  refine ⟨_, (pss_one (ps_ret (pe_call G_is_plain_within (hr.mono (by decide)) rfl T.g_is_plain_within T.F_is_plain_within.kp T.b_is_plain_within .nil pass0 (pa_cons (pv 0) (pa_cons (pe_glob (v := .int (12)) rfl c_MAX_NEST ⟨_, rfl⟩) pa_nil))))), ?_⟩
  obtain ⟨x, d, rfl, hx, hs, k⟩ := h
  exact s_ret (ev_call (ea_cons (ev_var rfl) (ea_cons ev_c ea_nil)) (sv_within_plain (n := 12) hx hs)) fun H2 e2 => k H2 e2
end
end K0

namespace K0
open PySem PySem.Spec PyProof.Rows L2 Evl
/-! ### more rules -/
section
variable {X : Cx}
/-- xs == [] for two lists of which one is empty -/
theorem op_eqNil (hu : X.A.units < cLine) : OpR X (compareOp .Eq) (fun x y H Q => ∃ a b xs, x = V.ref a ∧ y = V.ref b ∧ SqL X.K H a xs ∧ SqL X.K H b [] ∧ Q (.bl xs.isEmpty) H) := by
  intro pins s σ H x y v u Q I rx ry h
  obtain ⟨a, b, xs, rfl, rfl, ha, hb, q⟩ := h
  cases rx
  cases ry
  obtain ⟨its, r, p, _⟩ := I.list ha
  obtain ⟨its2, r2, p2, _⟩ := I.list hb
  cases r2
  cases xs with
  | nil =>
    cases r
    exact SeqAt.eq_listAt (e := fun _ => true) p.isList p2.isList rfl hu (fun j h1 _ => absurd h1 (by simp)) ⟨.bl true, H, I, rfl, q⟩
  | cons y ys =>
    refine SeqAt.eq_list_lengthsAt p.isList p2.isList ?_ hu ⟨.bl false, H, I, rfl, q⟩
    cases r with
    | cons r1 r2 => simp
theorem fold_size (x : Array Nat) : ∀ (n : Nat) (acc : Array Nat), ((List.replicate n x).foldl (· ++ ·) acc).size = acc.size + n * x.size
  | 0, acc => by simp
  | n + 1, acc => by
    rw [List.replicate_succ, List.foldl_cons, fold_size x n, Array.size_append, Nat.succ_mul]
    omega
/-- a text times a number: some text of that length -/
theorem op_mulS : OpR X (binaryOp .Mult) (fun x y H Q => ∃ (s : Str) (n : Nat), x = V.str s ∧ y = V.int (n : Int) ∧ 1 < n ∧ n ≤ 5000 ∧ s.length = 1 ∧ ∀ z : Str, z.length = n → Q (.str z) H) := by
  intro pins s σ H x y v u Q I rx ry h
  obtain ⟨a, n, rfl, rfl, h1, h2, hl, q⟩ := h
  obtain ⟨t, rfl⟩ := rx
  obtain ⟨t', rfl⟩ := ry
  have hs : sizeLine = 16777216 := sizeLine_eq
  have hn : ¬ ((n : Int) < 1) := by omega
  have hb : ((n : Int) == 1 || a.length == 0) = false := by
    rw [hl]
    simp
    omega
  have e : (⟨(List.replicate ((n : Int)).toNat a.cps).foldl (· ++ ·) #[]⟩ : Str).length = n := by
    show ((List.replicate ((n : Int)).toNat a.cps).foldl (· ++ ·) #[]).size = n
    rw [fold_size]
    show 0 + ((n : Int)).toNat * a.length = n
    rw [hl]
    omega
  refine PySem.P.mul_str ?_ (fun _ _ => ?_) (fun _ _ => ?_) ?_
  · have c1 : ¬ ((n : Int) < -(2 ^ 63 : Int)) := by omega
    have c2 : ¬ ((n : Int) ≥ 2 ^ 63) := by omega
    rw [decide_eq_false c1, decide_eq_false c2]
    rfl
  · rw [hl]
    have h3 : 1 ≤ (2 ^ 63 - 1 : Int) / (n : Int) := by
      rw [Int.le_ediv_iff_mul_le (by omega)]
      omega
    omega
  · rw [hl]
    unfold Builtin.Str.tooLong
    exact decide_eq_false (by omega)
  · rw [if_neg hn, if_neg (by rw [hb]; decide)]
    exact ⟨by rw [e, hs]; omega, ⟨.str _, H, I.tok _, ⟨_, rfl⟩, q _ e⟩⟩
/-- set(t), t a tuple of ints -/
def rSetT (K : PySem.W.Frag) (w : World) : List V → Hp → VK → Prop := fun vs H Q => ∃ (a : Addr) (ns : List Int), vs = [V.ref a] ∧ SqT K H a (ns.map V.int) ∧ ns.length ≤ 60 ∧
  ∀ (p : Addr) (c : Nat), c ≤ ns.length → H p = none → Q (.ref p) (upd H p (SetO w p (fun j => decide (j ∈ ns)) c))
theorem cr_setT (hc : X.calm = true) : CallR X (.type "set") (rSetT X.K X.w) := by
  intro pins s σ H xs us Q I r h
  obtain ⟨a, ns, rfl, ha, hl, q⟩ := h
  obtain ⟨u, rfl, rx⟩ := vals1 r
  cases rx
  obtain ⟨its, ri, p, _⟩ := I.tuple ha
  have hb : ns.length + 1 < scanBound := Nat.lt_of_le_of_lt (Nat.succ_le_succ hl) (by decide)
  refine L2.call_set_tupI ns (I.ok.hd hc) p (by simpa using intsAre_of ri) hb fun h' tk c R hcl hk => ?_
  exact ⟨.ref _, upd H s.heap.objs.size (SetO X.w s.heap.objs.size (fun j => decide (j ∈ ns)) c), I.laid (t' := tk) hk (Nat.le_refl _) (setO_new R), rfl, q _ c hcl (I.hok.fresh (Nat.le_refl _))⟩
/-- repr of data (where no repr is under way) -/
def rRepr (K : PySem.W.Frag) : List V → Hp → VK → Prop := fun vs H Q => ∃ x d, vs = [V.ref x] ∧ Dp K H (.ref x) d ∧ d.showable = true ∧ d.hasDict = false ∧ d.depth ≤ 60 ∧ d.shown.length ≤ sizeLine ∧ Q (.str d.shown) H
theorem cr_repr (hg : X.A.guards = some []) (hu : X.A.units + 64 < cLine) : CallR X (.builtin "repr") (rRepr X.K) := by
  intro pins s σ H xs us Q I r h
  obtain ⟨a, d, rfl, hd, h1, h2, h3, h4, q⟩ := h
  obtain ⟨u, rfl, rx⟩ := vals1 r
  cases rx
  obtain ⟨as, rr⟩ := Dp.reads I d _ _ hd rfl
  refine repr_of_reads' rr h1 (fun z => by rw [h2] at z; cases z) hg (by omega) (fun b o e => e) (fun h' u tk hk => ?_) h4
  exact ⟨.str d.shown, H, I.kept hk, ⟨_, rfl⟩, q⟩
end
end K0

namespace K0
open PySem L2 Evl
/-! ### the heap but for one list -/
def hid (o : Option Addr) (H : Hp) : Hp := fun b => if o = some b then none else H b
section
variable {o : Option Addr} {a : Addr} {H H' H'' : Hp}
theorem hid_ex (e : Ex H H') : Ex (hid o H) (hid o H') := fun b u h => by
  unfold hid at h ⊢
  split at h
  · cases h
  · rename_i n
    rw [if_neg n]
    exact e b u h
theorem hid_le : Ex (hid o H) H := fun b u h => by
  unfold hid at h
  split at h
  · cases h
  · exact h
theorem hid_none : hid none H = H := by
  funext b
  unfold hid
  rw [if_neg (by simp)]
theorem hid_at {b : Addr} {u : HO} (h : H b = some u) (n : b ≠ a) : hid (some a) H b = some u := by
  unfold hid
  rw [if_neg (by simpa using fun z => n z.symm)]
  exact h
/-- all but what stands at a is as it was -/
def Bt (a : Addr) (H H' : Hp) : Prop := Ex (hid (some a) H) (hid (some a) H')
theorem Bt.refl : Bt a H H := Ex.refl _
theorem Bt.trans (h : Bt a H H') (h' : Bt a H' H'') : Bt a H H'' := Ex.trans h h'
theorem Bt.of (e : Ex H H') : Bt a H H' := hid_ex e
theorem Bt.upd {u : HO} : Bt a H (L2.upd H a u) := fun b v h => by
  unfold hid at h ⊢
  split at h
  · cases h
  · rename_i n
    have n' : b ≠ a := fun z => n (by rw [z])
    rw [if_neg n, upd_ne n']
    exact h
theorem Bt.at {b : Addr} {u : HO} (e : Bt a H H') (n : b ≠ a) (h : H b = some u) : H' b = some u := hid_le _ _ (e _ _ (hid_at h n))
theorem Bt.sqL {K : PySem.W.Frag} {b : Addr} {xs : List V} (e : Bt a H H') (n : b ≠ a) (h : SqL K H b xs) : SqL K H' b xs := by
  rcases h with (h | ⟨o, h⟩) | h
  · exact .inl (.inl (e.at n h))
  · exact .inl (.inr ⟨o, e.at n h⟩)
  · exact .inr h
theorem Bt.sqT {K : PySem.W.Frag} {b : Addr} {xs : List V} (e : Bt a H H') (n : b ≠ a) (h : SqT K H b xs) : SqT K H' b xs := by
  rcases h with (h | ⟨o, h⟩) | h
  · exact .inl (.inl (e.at n h))
  · exact .inl (.inr ⟨o, e.at n h⟩)
  · exact .inr h
theorem Bt.free {b : Addr} (e : Bt a H H') (n : b ≠ a) (h : H' b = none) : H b = none := by
  cases z : H b with
  | none => rfl
  | some u =>
    rw [e.at n z] at h
    cases h
end
def DiceAt (H : Hp) (a : Addr) : Prop := ∃ d0 d1 d2 : Int, H a = some (.lst [.int d0, .int d1, .int d2])
theorem DiceAt.ex {H H' : Hp} {a : Addr} (e : Ex H H') (h : DiceAt H a) : DiceAt H' a := by
  obtain ⟨x, y, z, h⟩ := h
  exact ⟨x, y, z, e _ _ h⟩
theorem DiceAt.ne {H : Hp} {a p : Addr} (h : DiceAt H a) (hp : H p = none) : p ≠ a := by
  obtain ⟨x, y, z, h⟩ := h
  exact (ne_of_none h hp).symm
section
variable {K : PySem.W.Frag} {σ : L2.St} {H H' : Hp} {ta tb te tx : TE} {t u : TT} {x y z v : V}
theorem rc_abs {i : Int} : RC (fun xs H Q => ∃ i, xs = [.int i] ∧ Q (.int (if i < 0 then -i else i)) H) [.int i] H (.int (if i < 0 then -i else i)) := fun H1 _ _ q => ⟨i, rfl, q H1 (Ex.refl _)⟩
theorem rc_max2 {i j : Int} : RC (fun xs H Q => ∃ i j, xs = [.int i, .int j] ∧ Q (.int (if j > i then j else i)) H) [.int i, .int j] H (.int (if j > i then j else i)) := fun H1 _ _ q => ⟨i, j, rfl, q H1 (Ex.refl _)⟩
theorem rc_min2 {i j : Int} : RC (fun xs H Q => ∃ i j, xs = [.int i, .int j] ∧ Q (.int (if j < i then j else i)) H) [.int i, .int j] H (.int (if j < i then j else i)) := fun H1 _ _ q => ⟨i, j, rfl, q H1 (Ex.refl _)⟩
theorem rc_int1 {i : Int} : RC (fun xs H Q => (∃ i, xs = [.int i] ∧ Q (.int i) H) ∨ ∃ k, xs = [.bl k] ∧ Q (.int (if k then 1 else 0)) H) [.int i] H (.int i) := fun H1 _ _ q => Or.inl ⟨i, rfl, q H1 (Ex.refl _)⟩
theorem rc_intB {b : Bool} : RC (fun xs H Q => (∃ i, xs = [.int i] ∧ Q (.int i) H) ∨ ∃ k, xs = [.bl k] ∧ Q (.int (if k then 1 else 0)) H) [.bl b] H (.int (if b then 1 else 0)) := fun H1 _ _ q => Or.inr ⟨b, rfl, q H1 (Ex.refl _)⟩
theorem rv_pow {i : Int} {n : Nat} (h : n ≤ 1000000) (hi : i.natAbs < 2 ^ 64) : RV (rI CPow fun i j => .int (i ^ j.toNat)) (.int i) (.int (n : Int)) H (.int (i ^ n)) := rv_I (by exact ⟨by omega, by omega, hi⟩)
/-- a chosen value -/
theorem ev_ifv {b : Bool} {v w : V} (h : EvT t σ H b) (h1 : b = true → Ev ta σ H v) (h2 : b = false → Ev tb σ H w) : Ev (tIf t ta tb) σ H (if b then v else w) := by
  cases b with
  | true => exact ev_if h (fun _ => h1 rfl) (fun z => by cases z)
  | false => exact ev_if h (fun z => by cases z) (fun _ => h2 rfl)
end
section
variable {P : Program} {w : World} {K : PySem.W.Frag} {mg : Str → Option Value} {base : Heap} {A : Ad} {D : Fd}
def sp_law_dice (K : PySem.W.Frag) : Sp := fun vs H Q _ => ∃ (a : Addr) (ns : List Int) (i : Nat), vs = [.ref a, .int (i : Int)] ∧ SqL K H a (ns.map V.int) ∧ ∀ p H', H p = none → Ex H H' → DiceAt H' p → Q (.ref p) H'
theorem len_law_dice {vs : List V} {H : Hp} {Q : VK} {E : XK} (h : sp_law_dice K vs H Q E) : vs.length = 2 := by
  obtain ⟨a, ns, i, rfl, _⟩ := h
  rfl
theorem ok_law_dice (T : Txt K mg A D) : FnOk P w K mg base CX0 1 A.law_dice D.law_dice ["script", "spot"] (sp_law_dice K) := by
  refine T.F_law_dice.ok sc_law_dice (fun vs H Q E h => len_law_dice h) (fun cdv A0 outer s H vs Q E hr h => ?_)
  refine ⟨_, (pss_cons (ps_set (i := 2) sc_law_dice.nd rfl (Or.inl rfl) (pe_ifExp (pt_cmpR op_lt (pv 1) (pe_callB call_len (by rfl) T.b_len (by decide +kernel) (pa_cons (pv 0) pa_nil)) (nomark _)) (pe_callTy call_int1 (by rfl) T.b_int (by decide +kernel) (pa_cons (pe_ix ix_list (pv 0) (pv 1) (fun _ _ => rfl)) pa_nil)) (pe_op op_add (pe_op op_mul pe_int (pv 1)) pe_int)))
  (pss_cons (ps_set (i := 3) sc_law_dice.nd rfl (Or.inl rfl) (pe_op op_mod (pe_callB (call_max2 rfl) (by rfl) T.b_max (by decide +kernel) (pa_cons pe_int (pa_cons (pe_op op_sub (pe_callB call_abs (by rfl) T.b_abs (by decide +kernel) (pa_cons (pv 2) pa_nil)) (pe_op op_pow pe_int pe_int)) pa_nil))) (pe_op op_mulW (pe_op op_pow pe_int pe_int) (pe_op op_pow pe_int pe_int))))
  (pss_one (ps_ret (pe_lst (pa_cons (pv 3) (pa_cons (pe_op op_add (pe_op op_add (pe_op op_add (pe_op op_mul (pe_op op_mod (pe_callB call_abs (by rfl) T.b_abs (by decide +kernel) (pa_cons (pv 2) pa_nil)) pe_int) pe_int) (pe_op op_mul pe_int (pv 1))) (pe_op op_mul pe_int (pe_callTy call_int1 (by rfl) T.b_int (by decide +kernel) (pa_cons (pe_cmpR op_lt (pv 2) pe_int (nomark _)) pa_nil)))) pe_int) (pa_cons pe_int pa_nil)))))))), ?_⟩
  obtain ⟨a, ns, i, rfl, ha, k⟩ := h
  refine q_asg (v := .int (if i < ns.length then ns.getD i 0 else 97 * (i : Int) + 61)) ?_ fun H1 e1 => ?_
  · refine ev_is (ev_ifv (b := decide ((i : Int) < (ns.length : Int))) (v := .int (ns.getD i 0)) (w := .int (97 * (i : Int) + 61)) (et_test (ev_is (ev_op (ev_var rfl) (ev_cb (ea_cons (ev_var rfl) ea_nil) (rc_lenL ha)) rv_I0) (by rw [List.length_map]))) (fun hb => ?_) (fun hb => ?_)) ?_
    · have hi : i < ns.length := by have := of_decide_eq_true hb; omega
      refine ev_cb (ea_cons (ev_op (ev_var rfl) (ev_var rfl) (rv_ixL ha (at_of (j := i) rfl ?_))) ea_nil) rc_int1
      rw [List.getElem?_map, List.getD_eq_getElem?_getD, List.getElem?_eq_getElem hi]
      rfl
    · exact ev_op (ev_op ev_c (ev_var rfl) (rv_I (.inl ⟨by decide, by decide⟩))) ev_c rv_I0
    · by_cases c : i < ns.length
      · rw [if_pos c, if_pos (decide_eq_true (by omega))]
      · rw [if_neg c, if_neg (by rw [decide_eq_false (by omega)]; decide)]
  generalize (if i < ns.length then ns.getD i 0 else 97 * (i : Int) + 61) = c
  refine q_asg (ev_op (ev_cb (ea_cons ev_c (ea_cons (ev_op (ev_cb (ea_cons (ev_var rfl) ea_nil) rc_abs) (ev_op ev_c ev_c (rv_pow (n := 16) (by decide) (by decide))) rv_I0) ea_nil)) rc_max2)
    (ev_op (ev_op ev_c ev_c (rv_pow (n := 57) (by decide) (by decide))) (ev_op ev_c ev_c (rv_pow (n := 60) (by decide) (by decide))) (rv_I (by show _ < _; decide +kernel))) (rv_I (by decide +kernel))) fun H2 e2 => ?_
  refine s_retL (el_lst (ea_cons (ev_var rfl) (ea_cons (ev_op (ev_op (ev_op (ev_op (ev_op (ev_cb (ea_cons (ev_var rfl) ea_nil) rc_abs) ev_c (rv_I (by decide))) ev_c (rv_I (.inr ⟨by decide, by decide⟩)))
    (ev_op ev_c (ev_var rfl) (rv_I (.inl ⟨by decide, by decide⟩))) rv_I0) (ev_op ev_c (ev_cb (ea_cons (ev_op (ev_var rfl) ev_c rv_I0) ea_nil) rc_intB) (rv_I (.inl ⟨by decide, by decide⟩))) rv_I0) ev_c rv_I0) (ea_cons ev_c ea_nil))) (by simp)) fun p H3 hp e3 h3 => ?_
  exact k p H3 (fresh_back (e1.trans e2) hp) ((e1.trans e2).trans e3) ⟨_, _, _, h3⟩
def sp_law_roll (K : PySem.W.Frag) : Sp := fun vs H Q _ => ∃ (a : Addr) (m : Int), vs = [.ref a, .int m] ∧ DiceAt H a ∧ 0 < m ∧ m < 1000000 ∧ ∀ r H', 0 ≤ r → r < m → Bt a H H' → DiceAt H' a → Q (.int r) H'
theorem len_law_roll {vs : List V} {H : Hp} {Q : VK} {E : XK} (h : sp_law_roll K vs H Q E) : vs.length = 2 := by
  obtain ⟨a, m, rfl, _⟩ := h
  rfl
theorem ok_law_roll (T : Txt K mg A D) : FnOk P w K mg base CX0 1 A.law_roll D.law_roll ["dice", "most"] (sp_law_roll K) := by
  refine T.F_law_roll.ok sc_law_roll (fun vs H Q E h => len_law_roll h) (fun cdv A0 outer s H vs Q E hr h => ?_)
  refine ⟨_, (pss_cons (ps_if (pt_cmpR op_gt (pe_ix ix_list (pv 0) pe_int (fun _ _ => rfl)) pe_int (nomark _)) (pss_cons (ps_set (i := 2) sc_law_roll.nd rfl (Or.inl rfl) (pe_op op_mod (pe_callTy call_int1 (by rfl) T.b_int (by decide +kernel) (pa_cons (pe_ix ix_list (pv 0) pe_int (fun _ _ => rfl)) pa_nil)) (pv 1)))
  (pss_cons (ps_asg (pe_op op_fdiv (pe_ix ix_list (pv 0) pe_int (fun _ _ => rfl)) (pv 1)) (pg_sub (pv 0) pe_int set_list))
  (pss_one (ps_ret (pv 2))))) pss_nil)
  (pss_cons (ps_asg (pe_op op_add (pe_ix ix_list (pv 0) pe_int (fun _ _ => rfl)) pe_int) (pg_sub (pv 0) pe_int set_list))
  (pss_cons (ps_set (i := 3) sc_law_roll.nd rfl (Or.inl rfl) (pe_op op_mod (pe_callTy call_int1 (by rfl) T.b_int (by decide +kernel) (pa_cons (pe_op op_add (pe_ix ix_list (pv 0) pe_int (fun _ _ => rfl)) (pe_op op_mul pe_int (pe_ix ix_list (pv 0) pe_int (fun _ _ => rfl)))) pa_nil)) pe_int))
  (pss_cons (ps_set (i := 4) sc_law_roll.nd rfl (Or.inl rfl) (pe_op op_add (pe_op op_mul (pe_op op_mod (pe_callTy call_int1 (by rfl) T.b_int (by decide +kernel) (pa_cons (pe_op op_add (pe_op op_mul (pv 3) (pv 3)) (pe_op op_mul pe_int (pe_ix ix_list (pv 0) pe_int (fun _ _ => rfl)))) pa_nil)) pe_int) pe_int) (pv 3)))
  (pss_one (ps_ret (pe_op op_mod (pe_callTy call_int1 (by rfl) T.b_int (by decide +kernel) (pa_cons (pe_op op_fdiv (pv 4) pe_int) pa_nil)) (pv 1)))))))), ?_⟩
  obtain ⟨a, m, rfl, ⟨d0, d1, d2, ha⟩, hm, hm2, k⟩ := h
  have hmod : ∀ x : Int, 0 ≤ x % m ∧ x % m < m := fun x => ⟨Int.emod_nonneg _ (by omega), Int.emod_lt_of_pos _ hm⟩
  refine q_when (b := decide (0 < d0)) (et_test (ev_op (ev_op (ev_var rfl) ev_c (rv_ixL (sq_of ha) (at_of (j := 0) rfl rfl))) ev_c rv_I0)) (fun hb H1 e1 => ?_) (fun hb H1 e1 => ?_)
  · have h1 := e1 _ _ ha
    refine q_asg (ev_op (ev_cb (ea_cons (ev_op (ev_var rfl) ev_c (rv_ixL (sq_of h1) (at_of (j := 0) rfl rfl))) ea_nil) rc_int1) (ev_var rfl) (rv_I hm)) fun H2 e2 => ?_
    have h2 := e2 _ _ h1
    refine q_setL (j := 0) h2 (ev_op (ev_op (ev_var rfl) ev_c (rv_ixL (sq_of h2) (at_of (j := 0) rfl rfl))) (ev_var rfl) (rv_I ⟨hm, by omega⟩)) (ev_var rfl) ev_c (by simp) fun H3 e3 => ?_
    refine s_ret (ev_var rfl) fun H4 e4 => ?_
    exact k _ H4 (hmod _).1 (hmod _).2 ((Bt.of ((e1.trans e2).trans e3)).trans (Bt.upd.trans (Bt.of e4))) ⟨_, _, _, e4 _ _ upd_same⟩
  · have h1 := e1 _ _ ha
    refine q_setL (j := 2) h1 (ev_op (ev_op (ev_var rfl) ev_c (rv_ixL (sq_of h1) (at_of (j := 2) rfl rfl))) ev_c rv_I0) (ev_var rfl) ev_c (by simp) fun H2 e2 => ?_
    have h2 : (L2.upd H2 a (.lst [.int d0, .int d1, .int (d2 + 1)])) a = some (.lst [.int d0, .int d1, .int (d2 + 1)]) := upd_same
    refine q_asg (v := .int ((d1 + 71593063 * (d2 + 1)) % 2305843009213693487)) (ev_op (ev_cb (ea_cons (ev_op (ev_op (ev_var rfl) ev_c (rv_ixL (sq_of h2) (at_of (j := 1) rfl rfl))) (ev_op ev_c (ev_op (ev_var rfl) ev_c (rv_ixL (sq_of h2) (at_of (j := 2) rfl rfl))) (rv_I (.inl ⟨by decide, by decide⟩))) rv_I0) ea_nil) rc_int1) ev_c (rv_I (by decide))) fun H3 e3 => ?_
    have h3 := e3 _ _ h2
    have hone : 0 ≤ (d1 + 71593063 * (d2 + 1)) % 2305843009213693487 ∧ (d1 + 71593063 * (d2 + 1)) % 2305843009213693487 < 2305843009213693487 := ⟨Int.emod_nonneg _ (by decide), Int.emod_lt_of_pos _ (by decide)⟩
    generalize (d1 + 71593063 * (d2 + 1)) % 2305843009213693487 = one at hone ⊢
    refine q_asg (v := .int ((one * one + 89 * (d2 + 1)) % 2305843009213693253 * 6700417 + one)) (ev_op (ev_op (ev_op (ev_cb (ea_cons (ev_op (ev_op (ev_var rfl) (ev_var rfl) (rv_I (.inl ⟨by omega, by omega⟩))) (ev_op ev_c (ev_op (ev_var rfl) ev_c (rv_ixL (sq_of h3) (at_of (j := 2) rfl rfl))) (rv_I (.inl ⟨by decide, by decide⟩))) rv_I0) ea_nil) rc_int1) ev_c (rv_I (by decide))) ev_c (rv_I (.inr ⟨by decide, by decide⟩))) (ev_var rfl) rv_I0) fun H4 e4 => ?_
    refine s_ret (ev_op (ev_cb (ea_cons (ev_op (ev_var rfl) ev_c (rv_I ⟨by decide, by decide⟩)) ea_nil) rc_int1) (ev_var rfl) (rv_I hm)) fun H5 e5 => ?_
    exact k _ H5 (hmod _).1 (hmod _).2 ((Bt.of (e1.trans e2)).trans (Bt.upd.trans (Bt.of ((e3.trans e4).trans e5)))) ⟨_, _, _, ((e3.trans e4).trans e5) _ _ h2⟩
def sp_law_pick (K : PySem.W.Frag) : Sp := fun vs H Q _ => ∃ (a p : Addr) (xs : List V), vs = [.ref a, .ref p] ∧ DiceAt H a ∧ p ≠ a ∧ SqL K H p xs ∧ xs ≠ [] ∧ xs.length < 1000000 ∧ ∀ x H', x ∈ xs → Bt a H H' → DiceAt H' a → Q x H'
theorem len_law_pick {vs : List V} {H : Hp} {Q : VK} {E : XK} (h : sp_law_pick K vs H Q E) : vs.length = 2 := by
  obtain ⟨a, p, xs, rfl, _⟩ := h
  rfl
theorem ok_law_pick (T : Txt K mg A D) : FnOk P w K mg base CX0 2 A.law_pick D.law_pick ["dice", "items"] (sp_law_pick K) := by
  have G_law_roll : FnOk P w K mg base CX0 1 A.law_roll D.law_roll ["dice", "most"] (sp_law_roll K) := ok_law_roll T
  refine T.F_law_pick.ok sc_law_pick (fun vs H Q E h => len_law_pick h) (fun cdv A0 outer s H vs Q E hr h => ?_)
  refine ⟨_, (pss_one (ps_ret (pe_ix ix_list (pv 1) (pe_call G_law_roll (hr.mono (by decide)) rfl T.g_law_roll T.F_law_roll.kp T.b_law_roll .nil pass0 (pa_cons (pv 0) (pa_cons (pe_callB call_len (by rfl) T.b_len (by decide +kernel) (pa_cons (pv 1) pa_nil)) pa_nil))) (fun _ _ => rfl)))), ?_⟩
  obtain ⟨a, p, xs, rfl, ha, hne, hp, hx, hx2, k⟩ := h
  have hpos : 0 < xs.length := List.length_pos_iff.mpr hx
  refine ⟨_, rfl, ?_⟩
  refine (ea_cons (ev_var rfl) (ea_cons (ev_cb (ea_cons (ev_var rfl) ea_nil) (rc_lenL hp)) ea_nil) : EvA _ _ H [.ref a, .int (xs.length : Nat)]) H (Ex.refl _) _ fun H1 e1 => ?_
  refine ⟨a, _, rfl, ha.ex e1, by omega, by omega, fun r H2 h0 h1 hb hd => ?_⟩
  have hbt := (Bt.of e1).trans hb
  have hj : r.toNat < xs.length := by omega
  refine ⟨p, xs, r, xs[r.toNat], rfl, rfl, hbt.sqL hne hp, at_of (j := r.toNat) (by omega) (List.getElem?_eq_getElem hj), ?_⟩
  exact k _ H2 (List.getElem_mem hj) hbt hd
end
end K0

namespace K0
open PySem L2 Evl
/-! ### what evaluates to some value of which R holds -/
def Mono (R : V → Hp → Prop) : Prop := ∀ v H H', Ex H H' → R v H → R v H'
def EvR (te : TE) (σ : L2.St) (H : Hp) (R : V → Hp → Prop) : Prop := ∀ H1, Ex H H1 → ∀ Q : VK, (∀ v H2, Ex H1 H2 → R v H2 → Q v H2) → te σ H1 Q
def EvAR (ta : TA) (σ : L2.St) (H : Hp) (n : Nat) (R : V → Hp → Prop) : Prop := ∀ H1, Ex H H1 → ∀ Q : List V → Hp → Prop, (∀ vs H2, Ex H1 H2 → vs.length = n → (∀ v ∈ vs, R v H2) → Q vs H2) → ta σ H1 Q
/-- a value of which the part of the heap but for o tells data of at most this size -/
def Rz (K : PySem.W.Frag) (o : Option Addr) (s : Nat) : V → Hp → Prop := fun v H => ∃ d, Rp K (hid o H) v d ∧ d.size ≤ s
def live (o : Option Addr) (H : Hp) : Prop := ∀ a, o = some a → H a ≠ none
section
variable {K : PySem.W.Frag} {σ : L2.St} {H H' : Hp} {ta tb te tx : TE} {tr : TA} {t u : TT} {x y z v : V} {R : V → Hp → Prop} {n s s' : Nat} {o : Option Addr}
theorem mono_Rz : Mono (Rz K o s) := fun v H H' e ⟨d, h, hs⟩ => ⟨d, h.ex (hid_ex e), hs⟩
theorem Rz.le (h : Rz K o s v H) (hs : s ≤ s') : Rz K o s' v H := let ⟨d, r, z⟩ := h; ⟨d, r, Nat.le_trans z hs⟩
theorem live.ex (h : live o H) (e : Ex H H') : live o H' := fun a ha => by
  cases z : H a with
  | none => exact absurd z (h a ha)
  | some u =>
    rw [e a u z]
    simp
theorem live.new {p : Addr} {u : HO} (h : live o H) (hp : H p = none) : hid o (upd H p u) p = some u := by
  unfold hid
  rw [if_neg, upd_same]
  intro z
  exact h p z hp
theorem live_of {a : Addr} (h : DiceAt H a) : live (some a) H := fun b hb => by
  obtain ⟨d0, d1, d2, h⟩ := h
  have e := Option.some.inj hb
  subst e
  rw [h]
  simp
theorem live_none : live none H := fun b hb => by cases hb
theorem er_ev (h : Ev te σ H v) (hr : ∀ H', R v H') : EvR te σ H R := fun H1 e Q q => h H1 e Q fun H2 e2 => q v H2 e2 (hr H2)
theorem ear_nil : EvAR tNil σ H 0 R := fun H1 _ _ q => q [] H1 (Ex.refl _) rfl (fun v h => by cases h)
theorem ear_cons (hm : Mono R) (h : EvR te σ H R) (hr : EvAR tr σ H n R) : EvAR (tCons te tr) σ H (n + 1) R := fun H1 e Q q =>
  h H1 e _ fun v H2 e2 hv => hr H2 (e.trans e2) _ fun vs H3 e3 hl hvs => q (v :: vs) H3 (e2.trans e3) (by rw [List.length_cons, hl]) fun w hw => by
    rcases List.mem_cons.mp hw with hw | hw
    · rw [hw]
      exact hm _ _ _ e3 hv
    · exact hvs w hw
def EvAL (ta : TA) (σ : L2.St) (H : Hp) (n : Nat) (R : V → Hp → Prop) : Prop := ∀ H1, Ex H H1 → ∀ Q : List V → Hp → Prop, (∀ vs H2, Ex H1 H2 → vs.length ≤ n → (∀ v ∈ vs, R v H2) → Q vs H2) → ta σ H1 Q
theorem eal_nil : EvAL tNil σ H n R := fun H1 _ _ q => q [] H1 (Ex.refl _) (Nat.zero_le _) (fun v h => by cases h)
theorem eal_cons (hm : Mono R) (h : EvR te σ H R) (hr : EvAL tr σ H n R) : EvAL (tCons te tr) σ H (n + 1) R := fun H1 e Q q =>
  h H1 e _ fun v H2 e2 hv => hr H2 (e.trans e2) _ fun vs H3 e3 hl hvs => q (v :: vs) H3 (e2.trans e3) (by rw [List.length_cons]; omega) fun w hw => by
    rcases List.mem_cons.mp hw with hw | hw
    · rw [hw]
      exact hm _ _ _ e3 hv
    · exact hvs w hw
theorem rpAll_of {G : Hp} : ∀ {vs : List V}, (∀ v ∈ vs, ∃ d, Rp K G v d ∧ d.size ≤ s) → ∃ ds, RpAll K G vs ds ∧ D.sizeL ds ≤ vs.length * s
  | [], _ => ⟨[], .nil, Nat.zero_le _⟩
  | v :: vs, h => by
    obtain ⟨d, h1, h2⟩ := h v List.mem_cons_self
    obtain ⟨ds, h3, h4⟩ := rpAll_of (vs := vs) fun w hw => h w (List.mem_cons_of_mem _ hw)
    refine ⟨d :: ds, .cons h1 h3, ?_⟩
    rw [List.length_cons, Nat.succ_mul]
    simp only [D.sizeL]
    omega
theorem er_tup (hl : live o H) (h : EvAL tr σ H n (Rz K o s)) (hn : n ≤ 1000) (hs : 1 + n * s ≤ s') : EvR (tTup tr) σ H (Rz K o s') := fun H1 e Q q =>
  h H1 e _ fun vs H2 e2 hlen hvs => ⟨sz_of (by omega), fun p hp => by
    have hl2 := hl.ex (e.trans e2)
    refine q (.ref p) _ (e2.trans (Ex.new hp)) ?_
    obtain ⟨ds, h1, h2⟩ := rpAll_of hvs
    refine ⟨.tup ds, .tup (st_of (hl2.new hp)) (h1.ex (hid_ex (Ex.new hp))), ?_⟩
    have h5 : vs.length * s ≤ n * s := Nat.mul_le_mul_right s hlen
    simp only [D.size]
    omega⟩
theorem er_lst (hl : live o H) (h : EvAL tr σ H n R) (hn : n ≤ 1000) (hs : 1 ≤ s') : EvR (tLst tr) σ H (Rz K o s') := fun H1 e Q q =>
  h H1 e _ fun vs H2 e2 hlen hvs => ⟨sz_of (by omega), fun p hp => q (.ref p) _ (e2.trans (Ex.new hp)) ⟨.oth, .lst ((hl.ex (e.trans e2)).new hp), hs⟩⟩
theorem er_dict (hl : live o H) (hs : 1 ≤ s') : EvR tDNewK σ H (Rz K o s') := fun H1 e Q q => fun p hp => q (.ref p) _ (Ex.new hp) ⟨.oth, .dct ((hl.ex e).new hp), hs⟩
theorem rz_non (h : 1 ≤ s) : Rz K o s .non H := ⟨.non, .non, h⟩
theorem rz_bl {b : Bool} (h : 1 ≤ s) : Rz K o s (.bl b) H := ⟨.bl b, .bl b, h⟩
theorem rz_int {i : Int} (h : 1 ≤ s) : Rz K o s (.int i) H := ⟨.int i, .int i, h⟩
theorem rz_str {z : Str} (h : 1 + z.length / 100 ≤ s) : Rz K o s (.str z) H := ⟨.str z, .str z, h⟩
theorem rv_pw {i j : Int} (h : 0 ≤ j ∧ j ≤ 1000000 ∧ i.natAbs < 2 ^ 64) : RV (rI CPow fun i j => .int (i ^ j.toNat)) (.int i) (.int j) H (.int (i ^ j.toNat)) := rv_I h
theorem er_mulS {a : Str} {n : Nat} (ha : Ev ta σ H (.str a)) (hb : Ev tb σ H (.int (n : Int))) (h1 : 1 < n) (h2 : n ≤ 5000) (hl : a.length = 1) (hs : 1 + n / 100 ≤ s) :
    EvR (tOp (fun x y H Q => ∃ (s : Str) (n : Nat), x = V.str s ∧ y = V.int (n : Int) ∧ 1 < n ∧ n ≤ 5000 ∧ s.length = 1 ∧ ∀ z : Str, z.length = n → Q (.str z) H) ta tb) σ H (Rz K o s) := fun H1 e Q q =>
  ha H1 e _ fun H2 e2 => hb H2 (e.trans e2) _ fun H3 e3 => ⟨a, n, rfl, rfl, h1, h2, hl, fun z hz => q (.str z) H3 (e2.trans e3) ⟨.str z, .str z, by simp only [D.size]; omega⟩⟩
/-- a call in a def that changes the heap -/
theorem c_call {sp : Sp} {dvs vs : List V} {E : XK} {ta : TA} {Q : VK} (h : EvA ta σ H vs) (k : ∀ H1, Ex H H1 → sp (vs ++ dvs) H1 Q E) : tCall sp dvs E ta σ H Q := h H (Ex.refl H) _ k
theorem s_retC {D : Ends} {sp : Sp} {dvs vs : List V} {E : XK} {ta : TA} (h : EvA ta σ H vs) (k : ∀ H1, Ex H H1 → sp (vs ++ dvs) H1 D.rt E) : tRet (tCall sp dvs E ta) D σ H := h H (Ex.refl H) _ k
theorem s_asgC {D : Ends} {sp : Sp} {dvs vs : List V} {E : XK} {ta : TA} {i : Nat} (h : EvA ta σ H vs) (k : ∀ H1, Ex H H1 → sp (vs ++ dvs) H1 (fun v H2 => D.nx (σ.set i (some v)) H2) E) : tAsg (tCall sp dvs E ta) (gName i) D σ H := h H (Ex.refl H) _ k
theorem q_asgC {D : Ends} {tz : TS} {sp : Sp} {dvs vs : List V} {E : XK} {ta : TA} {i : Nat} (h : EvA ta σ H vs) (k : ∀ H1, Ex H H1 → sp (vs ++ dvs) H1 (fun v H2 => tz D (σ.set i (some v)) H2) E) : tSeq (tAsg (tCall sp dvs E ta) (gName i)) tz D σ H := h H (Ex.refl H) _ k
/-- some = [..], some = some + [..] -/
theorem q_asgLR {D : Ends} {tz : TS} {i : Nat} (hm : Mono R) (h : EvAR tr σ H n R) (hn : n ≤ 1000) (k : ∀ p xs H1, H p = none → Ex H H1 → H1 p = some (.lst xs) → xs.length = n → (∀ v ∈ xs, R v H1) → tz D (σ.set i (some (.ref p))) H1) :
    tSeq (tAsg (tLst tr) (gName i)) tz D σ H :=
  h H (Ex.refl H) _ fun vs H1 e1 hl hvs => ⟨sz_of (by omega), fun p hp => k p vs _ (fresh_back e1 hp) (e1.trans (Ex.new hp)) upd_same hl fun v hv => hm _ _ _ (Ex.new hp) (hvs v hv)⟩
theorem q_asgCR {D : Ends} {tz : TS} {i : Nat} {q0 : Addr} {ys : List V} (hm : Mono R) (ha : Ev ta σ H (.ref q0)) (h0 : H q0 = some (.lst ys)) (hy : ∀ v ∈ ys, R v H) (h : EvAR tr σ H n R) (hn : n + ys.length ≤ 1000)
    (k : ∀ p xs H1, H p = none → Ex H H1 → H1 p = some (.lst xs) → xs.length = ys.length + n → (∀ v ∈ xs, R v H1) → tz D (σ.set i (some (.ref p))) H1) :
    tSeq (tAsg (tOp rCat ta (tLst tr)) (gName i)) tz D σ H :=
  ha H (Ex.refl H) _ fun H1 e1 => h H1 e1 _ fun vs H2 e2 hl hvs => ⟨sz_of (by omega), fun p hp => by
    have hq : q0 ≠ p := ne_of_none (e2 _ _ (e1 _ _ h0)) hp
    refine ⟨q0, p, ys, vs, rfl, rfl, by rw [upd_ne hq]; exact e2 _ _ (e1 _ _ h0), upd_same, sz_of (by omega), fun p2 hp2 => ?_⟩
    have e3 : Ex H2 (upd H2 p (.lst vs)) := Ex.new hp
    have e4 : Ex (upd H2 p (.lst vs)) (upd (upd H2 p (.lst vs)) p2 (.lst (ys ++ vs))) := Ex.new hp2
    refine k p2 (ys ++ vs) _ (fresh_back ((e1.trans e2).trans e3) hp2) (((e1.trans e2).trans e3).trans e4) upd_same (by rw [List.length_append, hl]) fun v hv => ?_
    rcases List.mem_append.mp hv with hv | hv
    · exact hm _ _ _ (((e1.trans e2).trans e3).trans e4) (hy v hv)
    · exact hm _ _ _ (e3.trans e4) (hvs v hv)⟩
end
end K0

namespace K0
open PySem L2 Evl
/-! ### lists may change, nothing else -/
def ExL (G G' : Hp) : Prop := ∀ b u, G b = some u → G' b = some u ∨ ∃ xs ys, u = .lst xs ∧ G' b = some (.lst ys)
theorem ExL.of {G G' : Hp} (e : Ex G G') : ExL G G' := fun b u h => .inl (e b u h)
theorem ExL.upd {G : Hp} {p : Addr} {xs ys : List V} (h : G p = some (.lst xs)) : ExL G (L2.upd G p (.lst ys)) := fun b u hb => by
  by_cases c : b = p
  · subst c
    rw [h] at hb
    exact .inr ⟨xs, ys, (Option.some.inj hb).symm, upd_same⟩
  · exact .inl (by rw [upd_ne c]; exact hb)
theorem ExL.trans {G G' G'' : Hp} (a : ExL G G') (b : ExL G' G'') : ExL G G'' := fun c u h => by
  rcases a c u h with h1 | ⟨xs, ys, rfl, h1⟩
  · exact b c u h1
  · rcases b c _ h1 with h2 | ⟨_, zs, _, h2⟩
    · exact .inr ⟨xs, ys, rfl, h2⟩
    · exact .inr ⟨xs, zs, rfl, h2⟩
theorem ExL.sqT {K : PySem.W.Frag} {G G' : Hp} {a : Addr} {xs : List V} (e : ExL G G') (h : SqT K G a xs) : SqT K G' a xs := by
  rcases h with (h | ⟨o, h⟩) | h
  · rcases e a _ h with h1 | ⟨_, _, z, _⟩
    · exact .inl (.inl h1)
    · cases z
  · rcases e a _ h with h1 | ⟨_, _, z, _⟩
    · exact .inl (.inr ⟨o, h1⟩)
    · cases z
  · exact .inr h
section
variable {K : PySem.W.Frag} {H H' : Hp}
mutual
theorem Rp.exL {v : V} {d : D} (e : ExL H H') : Rp K H v d → Rp K H' v d
  | .non => .non
  | .bl b => .bl b
  | .int i => .int i
  | .str s => .str s
  | .tup h r => .tup (e.sqT h) (RpAll.exL e r)
  | .lst h => by
    rcases e _ _ h with h1 | ⟨_, ys, _, h1⟩
    · exact .lst h1
    · exact .lst h1
  | .dct h => by
    rcases e _ _ h with h1 | ⟨_, _, z, _⟩
    · exact .dct h1
    · cases z
theorem RpAll.exL {vs : List V} {ds : List D} (e : ExL H H') : RpAll K H vs ds → RpAll K H' vs ds
  | .nil => .nil
  | .cons h r => .cons (Rp.exL e h) (RpAll.exL e r)
end
end
theorem hid_upd {a p : Addr} {H : Hp} {u : HO} (h : p ≠ a) : hid (some a) (upd H p u) = upd (hid (some a) H) p u := by
  funext b
  unfold hid upd
  by_cases c : b = p
  · subst c
    rw [if_neg (by simpa using fun z => h z.symm), if_pos rfl, if_pos rfl]
  · rw [if_neg c, if_neg c]
/-- a comprehension over a range whose elements are drawn -/
theorem lc_draws {te : TE} {vs : List Nat} {σ : L2.St} {j : Nat} {a : Addr} {n : Nat} {H1 : Hp} {R : V → Hp → Prop} {Q : VK} (hR : ∀ v H H', ExL (hid (some a) H) (hid (some a) H') → R v H → R v H') (hd : DiceAt H1 a) (hn : n ≤ 1000)
    (hw : ∀ x, wipe ((wipe σ vs).set j (some x)) vs = wipe σ vs)
    (turn : ∀ (i : Nat) H', i < n → Bt a H1 H' → DiceAt H' a → ∀ Q : VK, (∀ x H'', Bt a H' H'' → DiceAt H'' a → R x H'' → Q x H'') → te ((wipe σ vs).set j (some (.int ((0 : Int) + (i : Int))))) H' Q)
    (k : ∀ D xs H', H1 D = none → Bt a H1 H' → DiceAt H' a → H' D = some (.lst xs) → xs.length = n → (∀ x ∈ xs, R x H') → Q (.ref D) H') :
    ∀ D, H1 D = none → ∃ W : Nat → Nat → Hp → Prop, (∃ m, W 0 m (upd H1 D (.lst []))) ∧ ∀ i m H, W i m H →
      ((Itr 0 n).stop i H ∧ Q (.ref D) H) ∨ ((Itr 0 n).go i H ∧ ∃ Nx : Hp → Prop, (∀ H', Nx H' → ∃ m', m' < m ∧ W (i + 1) m' H') ∧ ∀ x H', (Itr 0 n).yld i H x H' → gName j x (wipe σ vs) H' fun σ2 H2 => wipe σ2 vs = wipe σ vs ∧ tYes σ2 H2 fun b H3 =>
        if b = true then te σ2 H3 fun y H4 => ∃ acc, H4 D = some (.lst acc) ∧ acc.length < sizeLine ∧ Nx (upd H4 D (.lst (acc ++ [y]))) else Nx H3) := fun D hD => by
  have hne : D ≠ a := hd.ne hD
  refine lc_range (lo := 0) (n := n) (fun i H' => i ≤ n ∧ ∃ acc, H' D = some (.lst acc) ∧ acc.length = i ∧ (∀ x ∈ acc, R x H') ∧ Bt a H1 H' ∧ DiceAt H' a) ⟨Nat.zero_le _, [], upd_same, rfl, fun x h => (by cases h), Bt.of (Ex.new hD), hd.ex (Ex.new hD)⟩ (fun i H' hi p => ?_) (fun H' p => ?_)
  · obtain ⟨_, acc, p1, p2, p3, p4, p5⟩ := p
    refine ⟨hw _, turn i H' hi p4 p5 _ fun x H'' hb hd2 hx => ?_⟩
    have h2 : H'' D = some (.lst acc) := hb.at hne p1
    have eL : ExL (hid (some a) H'') (hid (some a) (upd H'' D (.lst (acc ++ [x])))) := by
      rw [hid_upd hne]
      exact ExL.upd (hid_at h2 hne)
    refine ⟨acc, h2, sz_lt (by omega), hi, acc ++ [x], upd_same, by rw [List.length_append, p2]; rfl, fun y hy => ?_, ?_, ?_⟩
    · rcases List.mem_append.mp hy with hy | hy
      · exact hR _ _ _ ((ExL.of hb).trans eL) (p3 y hy)
      · rw [List.mem_singleton.mp hy]
        exact hR _ _ _ eL hx
    · have h3 := p4.trans hb
      intro b u hbu
      have := h3 b u hbu
      rw [hid_upd hne]
      have hbD : b ≠ D := fun z => by
        subst z
        have := hid_le _ _ hbu
        rw [hD] at this
        cases this
      rw [upd_ne hbD]
      exact this
    · obtain ⟨x0, x1, x2, h⟩ := hd2
      exact ⟨x0, x1, x2, by rw [upd_ne hne.symm]; exact h⟩
  · obtain ⟨_, acc, p1, p2, p3, p4, p5⟩ := p
    exact k D acc H' hD p4 p5 p1 p2 p3
/-- tuple(xs) -/
def rTupOf (K : PySem.W.Frag) : List V → Hp → VK → Prop := fun xs H Q => ∃ p ys, xs = [.ref p] ∧ ((SqL K H p ys ∧ ∀ l, H l = none → Q (.ref l) (upd H l (.tup ys))) ∨ (SqT K H p ys ∧ Q (.ref p) H))
theorem n_next {D : Ends} {σ : L2.St} {H : Hp} (h : D.nx σ H) : tNext D σ H := h
theorem n_ret {D : Ends} {σ : L2.St} {H : Hp} {te : TE} (h : te σ H D.rt) : tRet te D σ H := h
theorem n_cb {r : List V → Hp → VK → Prop} {t : TA} {σ : L2.St} {H : Hp} {Q : VK} (h : t σ H fun vs H1 => r vs H1 Q) : tCB r t σ H Q := h
theorem n_cons {te : TE} {t : TA} {σ : L2.St} {H : Hp} {Q : List V → Hp → Prop} (h : te σ H fun v H1 => t σ H1 fun vs H2 => Q (v :: vs) H2) : tCons te t σ H Q := h
theorem n_rng1 {ta : TA} {σ : L2.St} {H : Hp} {R : It → Hp → Prop} (h : ta σ H fun vs H1 => ∃ j : Int, vs = [.int j] ∧ -(2 ^ 62) ≤ j ∧ j < 2 ^ 62 ∧ R (Itr 0 j.toNat) H1) : iRng1 ta σ H R := h
end K0

namespace K0
open PySem L2 Evl
/-! ### data: what can be compared -/
mutual
def D.clean : D → Bool
  | .oth => false
  | .tup ds => D.cleanL ds
  | _ => true
def D.cleanL : List D → Bool
  | [] => true
  | d :: ds => d.clean && D.cleanL ds
end
mutual
def D.py : D → PyData
  | .non => .none
  | .bl b => .bool b
  | .int i => .int i
  | .str s => .str s
  | .tup ds => .tuple (D.pyL ds)
  | .oth => .none
def D.pyL : List D → List PyData
  | [] => []
  | d :: ds => d.py :: D.pyL ds
end
theorem pyL_map : ∀ ds : List D, D.pyL ds = ds.map D.py
  | [] => rfl
  | d :: ds => by
    show d.py :: D.pyL ds = _
    rw [pyL_map ds]
    rfl
theorem cleanL_all : ∀ ds : List D, D.cleanL ds = ds.all D.clean
  | [] => rfl
  | d :: ds => by
    show (d.clean && D.cleanL ds) = _
    rw [cleanL_all ds]
    rfl
section
variable {K : PySem.W.Frag} {H : Hp}
mutual
theorem Rp.dp {v : V} {d : D} (c : d.clean = true) : Rp K H v d → Dp K H v d.py
  | .non => .non
  | .bl b => .bl b
  | .int i => .int i
  | .str s => .str s
  | .tup h r => .tup h (RpAll.dp c r)
  | .lst h => by cases c
  | .dct h => by cases c
theorem RpAll.dp {vs : List V} {ds : List D} (c : D.cleanL ds = true) : RpAll K H vs ds → DpAll K H vs (D.pyL ds)
  | .nil => .nil
  | .cons h r => by
    have c' := Bool.and_eq_true_iff.mp c
    exact .cons (Rp.dp c'.1 h) (RpAll.dp c'.2 r)
end
end
mutual
theorem eqv_self : ∀ d : D, d.clean = true → PyData.eqv d.py d.py = true
  | .non, _ => rfl
  | .bl b, _ => by simp [D.py, PyData.eqv]
  | .int i, _ => by simp [D.py, PyData.eqv]
  | .str s, _ => by simp [D.py, PyData.eqv]
  | .tup ds, c => by
    simp only [D.py, PyData.eqv]
    exact eqvAll_self ds c
  | .oth, c => by cases c
theorem eqvAll_self : ∀ ds : List D, D.cleanL ds = true → PyData.eqvAll (D.pyL ds) (D.pyL ds) = true
  | [], _ => rfl
  | d :: ds, c => by
    have c' := Bool.and_eq_true_iff.mp c
    simp only [D.pyL, PyData.eqvAll]
    rw [eqv_self d c'.1, eqvAll_self ds c'.2]
    rfl
end
/-- clean, of texts that can lie there, not deep -/
def D.fine (n : Nat) (d : D) : Bool := d.clean && d.py.canLay0 && decide (d.py.depth ≤ n)
theorem fine_c {n : Nat} {d : D} (h : d.fine n = true) : d.clean = true := (Bool.and_eq_true_iff.mp (Bool.and_eq_true_iff.mp h).1).1
theorem fine_l {n : Nat} {d : D} (h : d.fine n = true) : d.py.canLay0 = true := (Bool.and_eq_true_iff.mp (Bool.and_eq_true_iff.mp h).1).2
theorem fine_d {n : Nat} {d : D} (h : d.fine n = true) : d.py.depth ≤ n := of_decide_eq_true (Bool.and_eq_true_iff.mp h).2
theorem fine_all {n : Nat} : ∀ ds : List D, (∀ d ∈ ds, d.fine n = true) → D.cleanL ds = true ∧ PyData.canLayAll0 (D.pyL ds) = true ∧ PyData.depthAll (D.pyL ds) ≤ n
  | [], _ => ⟨rfl, rfl, Nat.zero_le _⟩
  | d :: ds, h => by
    have h1 := h d (List.mem_cons_self ..)
    obtain ⟨a, b, c⟩ := fine_all ds fun e he => h e (List.mem_cons_of_mem _ he)
    refine ⟨Bool.and_eq_true_iff.mpr ⟨fine_c h1, a⟩, ?_, ?_⟩
    · simp only [D.pyL, PyData.canLayAll0]
      rw [fine_l h1, b]
      rfl
    · simp only [D.pyL, PyData.depthAll]
      exact Nat.max_le.mpr ⟨fine_d h1, c⟩
theorem fine_tup {n : Nat} {ds : List D} (h : ∀ d ∈ ds, d.fine n = true) : (D.tup ds).fine (n + 1) = true := by
  obtain ⟨a, b, c⟩ := fine_all ds h
  refine Bool.and_eq_true_iff.mpr ⟨Bool.and_eq_true_iff.mpr ⟨a, ?_⟩, decide_eq_true ?_⟩
  · simp only [D.py, PyData.canLay0]
    exact b
  · simp only [D.py, PyData.depth]
    omega
theorem fine_le {n m : Nat} {d : D} (h : d.fine n = true) (l : n ≤ m) : d.fine m = true :=
  Bool.and_eq_true_iff.mpr ⟨Bool.and_eq_true_iff.mpr ⟨fine_c h, fine_l h⟩, decide_eq_true (Nat.le_trans (fine_d h) l)⟩
theorem shaped_of {n : Nat} {d : D} (h : d.fine n = true) (l : n ≤ 64) : SeqAt.shaped d.py = true :=
  Bool.and_eq_true_iff.mpr ⟨fine_l h, decide_eq_true (Nat.le_trans (fine_d h) l)⟩
theorem shapedL_of {n : Nat} {ds : List D} (h : ∀ d ∈ ds, d.fine n = true) (l : n + 1 ≤ 64) : SeqAt.shaped (.list (D.pyL ds)) = true := by
  obtain ⟨a, b, c⟩ := fine_all ds h
  refine Bool.and_eq_true_iff.mpr ⟨?_, decide_eq_true ?_⟩
  · simp only [PyData.canLay0]
    exact b
  · simp only [PyData.depth]
    omega
theorem Rp.tupI {K : PySem.W.Frag} {H : Hp} {v : V} {ds : List D} (h : Rp K H v (.tup ds)) : ∃ a xs, v = .ref a ∧ SqT K H a xs ∧ RpAll K H xs ds := by
  cases h with
  | tup h r => exact ⟨_, _, rfl, h, r⟩
theorem RpAll.setI {K : PySem.W.Frag} {H : Hp} : ∀ {vs : List V} {ds : List D} (i : Nat) {v : V} {d : D}, RpAll K H vs ds → Rp K H v d → RpAll K H (vs.set i v) (ds.set i d)
  | _, _, i, _, _, .nil, _ => by cases i <;> exact .nil
  | _, _, 0, _, _, .cons h r, g => .cons g r
  | _, _, i + 1, _, _, .cons h r, g => .cons h (RpAll.setI i r g)
/-! ### readings -/
section
variable {K : PySem.W.Frag} {σ : L2.St} {H H' : Hp} {ta tb te tv : TE} {x y z v : V} {C a dx : Addr} {fs : List (Str × V)} {f : Str} {D : Ends} {tz : TS}
theorem ev_fld (h : Ev ta σ H (.ref a)) (ha : H a = some (.ins C dx fs)) (c : Cls K C) (n : NoAttr K C f) (l : fs.lookup f = some v) : Ev (tFld K ta f) σ H v := fun H1 e Q q =>
  h H1 e _ fun H2 e2 => ⟨a, C, dx, fs, v, rfl, (e.trans e2) _ _ ha, c, n, l, q H2 e2⟩
theorem q_fld (hv : Ev tv σ H v) (ho : Ev ta σ H (.ref a)) (ha : H a = some (.ins C dx fs)) (c : Cls K C) (n : NoAttr K C f) (hl : fs.length < 1000) (k : ∀ H1, Ex H H1 → tz D σ (upd H1 a (.ins C dx (putF f v fs)))) :
    tSeq (sFld K ta tv f) tz D σ H := hv H (Ex.refl H) _ fun H1 e1 => ho H1 e1 _ fun H2 e2 => ⟨a, C, dx, fs, rfl, (e1.trans e2) _ _ ha, c, n, hl, k H2 (e1.trans e2)⟩
theorem s_fldU {xs : List V} (hv : EvU tv σ H xs) (ho : Ev ta σ H (.ref a)) (ha : H a = some (.ins C dx fs)) (c : Cls K C) (n : NoAttr K C f) (hl : fs.length < 1000)
    (k : ∀ p H1, H p = none → Ex H H1 → H1 p = some (.tup xs) → D.nx σ (upd H1 a (.ins C dx (putF f (.ref p) fs)))) :
    sFld K ta tv f D σ H := hv H (Ex.refl H) _ fun p H1 hp e1 h1 => ho H1 e1 _ fun H2 e2 => ⟨a, C, dx, fs, rfl, (e1.trans e2) _ _ ha, c, n, hl, k p H2 hp (e1.trans e2) (e2 _ _ h1)⟩
theorem q_asgMk {sp : Sp} {E : XK} {i : Nat} {xs : List V} (h : EvU te σ H xs)
    (k : ∀ p H1, H p = none → Ex H H1 → H1 p = some (.tup xs) → ∀ x dx, H1 x = none → H1 dx = none → dx ≠ x → sp [.ref x, .ref p] (upd (upd H1 dx (.own x)) x (.ins C dx [])) (fun v H2 => v = .non ∧ tz D (σ.set i (some (.ref x))) H2) E) :
    tSeq (tAsg (tMake C sp [] E (tCons te tNil)) (gName i)) tz D σ H := h H (Ex.refl H) _ fun p H1 hp e h1 => k p H1 hp e h1
theorem eu_tupOf {p : Addr} {xs : List V} (h : Ev ta σ H (.ref p)) (hx : SqL K H p xs) : EvU (tCB (rTupOf K) (tCons ta tNil)) σ H xs := fun H1 e Q q =>
  h H1 e _ fun H2 e2 => ⟨p, xs, rfl, .inl ⟨ex_l (e.trans e2) hx, fun l hl => q l _ (fresh_back e2 hl) (e2.trans (Ex.new hl)) upd_same⟩⟩
theorem el_listT {p : Addr} {xs : List V} (h : Ev ta σ H (.ref p)) (hx : SqT K H p xs) : EvL (tCB (rListS K) (tCons ta tNil)) σ H xs := fun H1 e Q q =>
  h H1 e _ fun H2 e2 => ⟨p, xs, rfl, .inr (ex_t (e.trans e2) hx), fun l hl => q l _ (fresh_back e2 hl) (e2.trans (Ex.new hl)) upd_same⟩
theorem rc_kitI {P : V → Prop} {n : String} {b : Bool} {dy : Addr} {gs : List (Str × V)} {p : Addr} (o : ObjC K C) (cl : Cls K C) (hp : H p = some (.ins C dy gs)) : RC (rIsi K) [.ref p, .ref C] H (.bl true) := fun H1 e Q q =>
  ⟨_, _, _, _, _, rfl, .own C, .base (.ins (e _ _ hp) cl o.ca o.cg o.ct o.co), by unfold PySem.W.kitOne; rw [if_pos (by simp)], q H1 (Ex.refl _)⟩
end
/-- the promise of a value, by what it is -/
def RetR (K : PySem.W.Frag) (d : D) (H : Hp) (Q : VK) : Prop := ∀ v H', Ex H H' → Rp K H' v d → Q v H'
/-! ### what evaluates to data -/
section
variable {K : PySem.W.Frag} {σ : L2.St} {H H' : Hp} {ta tb te : TE} {tr : TA} {x y z v : V} {d e : D} {ds es : List D}
def EvD (K : PySem.W.Frag) (te : TE) (σ : L2.St) (H : Hp) (d : D) : Prop := ∀ H1, Ex H H1 → ∀ Q : VK, (∀ v H2, Ex H1 H2 → Rp K H2 v d → Q v H2) → te σ H1 Q
def EvDA (K : PySem.W.Frag) (ta : TA) (σ : L2.St) (H : Hp) (ds : List D) : Prop := ∀ H1, Ex H H1 → ∀ Q : List V → Hp → Prop, (∀ vs H2, Ex H1 H2 → RpAll K H2 vs ds → Q vs H2) → ta σ H1 Q
theorem EvD.mono (a : Ex H H') (h : EvD K te σ H d) : EvD K te σ H' d := fun H1 e Q q => h H1 (a.trans e) Q q
theorem ed_ev (h : Ev te σ H v) (r : Rp K H v d) : EvD K te σ H d := fun H1 a Q q => h H1 a Q fun H2 b => q v H2 b (r.ex (a.trans b))
theorem ed_int {i : Int} : EvD K (tC (.int i)) σ H (.int i) := ed_ev ev_c (.int i)
theorem ed_non : EvD K (tC .non) σ H .non := ed_ev ev_c .non
theorem ed_str {s : Str} : EvD K (tC (.str s)) σ H (.str s) := ed_ev ev_c (.str s)
theorem eda_nil : EvDA K tNil σ H [] := fun H1 _ Q q => q [] H1 (Ex.refl _) .nil
theorem eda_cons (h : EvD K te σ H d) (r : EvDA K tr σ H ds) : EvDA K (tCons te tr) σ H (d :: ds) := fun H1 a Q q =>
  h H1 a _ fun v H2 b hv => r H2 (a.trans b) _ fun vs H3 c hs => q (v :: vs) H3 (b.trans c) (.cons (hv.ex c) hs)
theorem ed_tup (h : EvDA K tr σ H ds) (l : ds.length ≤ 100000) : EvD K (tTup tr) σ H (.tup ds) := fun H1 a Q q =>
  h H1 a _ fun vs H2 b hs => ⟨by rw [hs.len]; exact sz_of l, fun p hp => q (.ref p) _ (b.trans (Ex.new hp)) (.tup (st_of upd_same) (hs.ex (Ex.new hp)))⟩
theorem ed_cat (h1 : EvD K ta σ H (.tup ds)) (h2 : EvD K tb σ H (.tup es)) (l : ds.length + es.length ≤ 100000) : EvD K (tOp (rCatA K) ta tb) σ H (.tup (ds ++ es)) := fun H1 a Q q =>
  h1 H1 a _ fun v H2 b hv => h2 H2 (a.trans b) _ fun w H3 c hw => by
    obtain ⟨p, xs, rfl, sp, rp⟩ := (hv.ex c).tupI
    obtain ⟨r, ys, rfl, sr, rr⟩ := hw.tupI
    refine ⟨p, r, xs, ys, rfl, rfl, sp, sr, by rw [rp.len, rr.len]; exact sz_of l, fun h => ?_, fun _ h => ?_, fun _ _ n hn => ?_⟩
    · subst h
      cases rp
      exact q _ _ (b.trans c) (.tup sr rr)
    · subst h
      cases rr
      rw [List.append_nil] at q
      exact q _ _ (b.trans c) (.tup sp rp)
    · exact q _ _ ((b.trans c).trans (Ex.new hn)) (.tup (st_of upd_same) ((rp.app rr).ex (Ex.new hn)))
theorem ed_ix {i : Nat} (h : EvD K ta σ H (.tup ds)) (hb : ∀ H1, Ex H H1 → Ev tb σ H1 (.int (i : Int))) (hi : ds[i]? = some d) : EvD K (tOp (rIxT K) ta tb) σ H d := fun H1 a Q q =>
  h H1 a _ fun v H2 b hv => hb H2 (a.trans b) H2 (Ex.refl _) _ fun H3 c => by
    obtain ⟨p, xs, rfl, sp, rp⟩ := (hv.ex c).tupI
    have hlt : i < ds.length := by
      rcases Nat.lt_or_ge i ds.length with h | h
      · exact h
      · rw [List.getElem?_eq_none h] at hi
        cases hi
    have hxl : i < xs.length := by
      rw [rp.len]
      exact hlt
    have hx : xs[i]? = some xs[i] := List.getElem?_eq_getElem hxl
    obtain ⟨d', hd', hr'⟩ := RpAll.get _ _ _ _ rp hx
    rw [hi] at hd'
    cases hd'
    refine ⟨p, xs, (i : Int), xs[i], rfl, rfl, sp, ?_, q _ _ (b.trans c) hr'⟩
    unfold atI
    rw [ixN_nat (by rw [rp.len]; exact hlt)]
    exact hx
theorem d_call {sp : Sp} {E : XK} {Q : VK} (h : EvDA K tr σ H ds) (k : ∀ vs H1, Ex H H1 → RpAll K H1 vs ds → sp vs H1 Q E) : tCall sp [] E tr σ H Q := h H (Ex.refl H) _ fun vs H1 a r => by
  show sp (vs ++ []) H1 Q E
  rw [List.append_nil]
  exact k vs H1 a r
theorem d_ret {D : Ends} (h : EvD K te σ H d) (k : ∀ v H1, Ex H H1 → Rp K H1 v d → D.rt v H1) : tRet te D σ H := h H (Ex.refl H) _ k
/-- a method without arguments that gives data -/
theorem ed_meth0 {C a dx : Addr} {fs : List (Str × V)} {m : Str} {sp : Sp} {E : XK} (h : Ev ta σ H (.ref a)) (ha : H a = some (.ins C dx fs)) (l : fs.lookup m = none) (k : ∀ H1, Ex H H1 → ∀ Q : VK, RetR K d H1 Q → sp [.ref a] H1 Q E) :
    EvD K (tMeth C m sp [] E ta tNil) σ H d := fun H1 a1 Q q => h H1 a1 _ fun H2 b => ⟨a, dx, fs, rfl, (a1.trans b) _ _ ha, l, k H2 (a1.trans b) Q fun v H3 c hv => q v H3 (b.trans c) hv⟩
theorem ed_call {sp : Sp} {E : XK} (h : EvDA K tr σ H ds) (k : ∀ vs H1, Ex H H1 → RpAll K H1 vs ds → ∀ Q : VK, RetR K d H1 Q → sp vs H1 Q E) : EvD K (tCall sp [] E tr) σ H d := fun H1 a Q q => h H1 a _ fun vs H2 b r => by
  show sp (vs ++ []) H2 Q E
  rw [List.append_nil]
  exact k vs H2 (a.trans b) r Q fun v H3 c hv => q v H3 (b.trans c) hv
theorem rv_eqD (hx : Rp K H x d) (hy : Rp K H y e) {n : Nat} (fd : d.fine n = true) (fe : e.fine n = true) (hn : n ≤ 64) : RV (rEqD K) x y H (.bl (PyData.eqv d.py e.py)) := fun H1 a Q q =>
  ⟨d.py, e.py, (hx.ex a).dp (fine_c fd), (hy.ex a).dp (fine_c fe), shaped_of fd hn, shaped_of fe hn, q H1 (Ex.refl _)⟩
theorem rv_neD (hx : Rp K H x d) (hy : Rp K H y e) {n : Nat} (fd : d.fine n = true) (fe : e.fine n = true) (hn : n ≤ 64) : RV (rNeD K) x y H (.bl (!PyData.eqv d.py e.py)) := fun H1 a Q q =>
  ⟨d.py, e.py, (hx.ex a).dp (fine_c fd), (hy.ex a).dp (fine_c fe), shaped_of fd hn, shaped_of fe hn, q H1 (Ex.refl _)⟩
/-- compared as data -/
theorem ev_neD (h1 : EvD K ta σ H d) (h2 : EvD K tb σ H e) {n : Nat} (fd : d.fine n = true) (fe : e.fine n = true) (hn : n ≤ 64) : Ev (tOp (rNeD K) ta tb) σ H (.bl (!PyData.eqv d.py e.py)) := fun H1 a Q q =>
  h1 H1 a _ fun v H2 b hv => h2 H2 (a.trans b) _ fun w H3 c hw => rv_neD (hv.ex c) hw fd fe hn H3 (Ex.refl _) Q fun H4 g => q H4 ((b.trans c).trans g)
theorem ev_eqD (h1 : EvD K ta σ H d) (h2 : EvD K tb σ H e) {n : Nat} (fd : d.fine n = true) (fe : e.fine n = true) (hn : n ≤ 64) : Ev (tOp (rEqD K) ta tb) σ H (.bl (PyData.eqv d.py e.py)) := fun H1 a Q q =>
  h1 H1 a _ fun v H2 b hv => h2 H2 (a.trans b) _ fun w H3 c hw => rv_eqD (hv.ex c) hw fd fe hn H3 (Ex.refl _) Q fun H4 g => q H4 ((b.trans c).trans g)
theorem Rp.tupR {a : Addr} (h : Rp K H (.ref a) (.tup ds)) : ∃ xs, SqT K H a xs ∧ RpAll K H xs ds := by
  cases h with
  | tup h r => exact ⟨_, h, r⟩
/-! ### f-strings -/
def EvJ (ts : List TE) (acc : Str) (σ : L2.St) (H : Hp) (out : Str) : Prop := ∀ H1, Ex H H1 → ∀ Q : Str → Hp → Prop, (∀ H2, Ex H1 H2 → Q out H2) → tJs ts acc σ H1 Q
theorem ej_nil {acc : Str} : EvJ [] acc σ H acc := fun H1 _ Q q => q H1 (Ex.refl _)
theorem ej_cons {t : TE} {ts : List TE} {acc s out : Str} (h : Ev t σ H (.str s)) (l : (acc ++ s).length ≤ 100000) (r : EvJ ts (acc ++ s) σ H out) : EvJ (t :: ts) acc σ H out := fun H1 a Q q =>
  h H1 a _ fun H2 b => ⟨s, rfl, sz_of l, r H2 (a.trans b) Q fun H3 c => q H3 (b.trans c)⟩
theorem ev_js {ts : List TE} {out : Str} (h : EvJ ts Str.empty σ H out) : Ev (fun σ H Q => tJs ts Str.empty σ H fun out H1 => Q (.str out) H1) σ H (.str out) := fun H1 a Q q => h H1 a _ fun H2 b => q H2 b
theorem ev_fmt {i : Int} (h : Ev te σ H (.int i)) (l : i.natAbs.log2 < 1920) : Ev (tFmt te) σ H (.str (toString i)) := fun H1 a Q q => h H1 a _ fun H2 b => .inr ⟨i, rfl, l, q H2 b⟩
end
/-- the text of a small number -/
def tos (n : Nat) : Str := toString (n : Int)
theorem tos_len {n : Nat} (h : n ≤ 400) : (tos n).length ≤ 8 := by
  have z : ∀ i : Fin 401, (tos i.val).length ≤ 8 := by decide +kernel
  exact z ⟨n, by omega⟩
theorem log_small {n : Nat} (h : n ≤ 400) : (n : Int).natAbs.log2 < 1920 := by
  have z : ∀ i : Fin 401, (i.val : Int).natAbs.log2 < 1920 := by decide +kernel
  exact z ⟨n, by omega⟩
theorem app_len (a b : Str) : (a ++ b).length = a.length + b.length := by
  show (a.cps ++ b.cps).size = _
  rw [Array.size_append]
  rfl
theorem numB_small {n : Nat} (h : n ≤ 1000) : numB (n : Int) = true := by
  unfold numB big
  rw [decide_eq_true (by omega), decide_eq_true (by omega)]
  rfl
theorem within_ok {n : Nat} {lo hi : Int} (h : n ≤ 1000) (h1 : lo ≤ (n : Int)) (h2 : (n : Int) ≤ hi) : (D.int (n : Int)).within lo hi = true := by
  show (numB (n : Int) && (decide (lo ≤ (n : Int)) && decide ((n : Int) ≤ hi))) = true
  rw [numB_small h, decide_eq_true h1, decide_eq_true h2]
  rfl
end K0

namespace K0
open PySem L2 Evl
theorem ix_tupK {X : Cx} {K : PySem.W.Frag} (h : X.K = K) : IxR X (rIxT K) := h ▸ ix_tup
theorem pe_fldK {X : Cx} {K : PySem.W.Frag} {e : Expr} {f : Str} {pos : Pos} {ta : TE} (he : PE X e ta) (hb : attributeBase e f X.env (eval e X.env) = eval e X.env) (h : X.K = K) : PE X (.Attribute e f pos) (tFld K ta f) := h ▸ pe_fld he hb
section
variable {K : PySem.W.Frag} {A : Ad}
theorem d_raw {σ : L2.St} {H : Hp} {tr : TA} {sp : Sp} {E : XK} {Q : VK} (h : tr σ H fun vs H1 => sp vs H1 Q E) : tCall sp [] E tr σ H Q := by
  have e : (fun (vs : List V) H1 => sp (vs ++ []) H1 Q E) = fun vs H1 => sp vs H1 Q E := by
    funext vs H1
    rw [List.append_nil]
  show tr σ H fun vs H1 => sp (vs ++ []) H1 Q E
  rw [e]
  exact h
theorem gd_some {α : Type} {l : List α} {i : Nat} {x y : α} (h : l[i]? = some x) : l.getD i y = x := by
  rw [List.getD_eq_getElem?_getD, h]
  rfl
theorem getD_mem {α : Type} {l : List α} {i : Nat} {x : α} (h : i < l.length) : l.getD i x ∈ l := by
  rw [List.getD_eq_getElem?_getD, List.getElem?_eq_getElem h]
  exact List.getElem_mem h
theorem rp_maps {H : Hp} {α : Type} {v : α → V} {f : α → K0.D} : ∀ (l : List α), (∀ i ∈ l, Rp K H (v i) (f i)) → RpAll K H (l.map v) (l.map f)
  | [], _ => .nil
  | a :: l, h => .cons (h a (List.mem_cons_self ..)) (rp_maps l fun i hi => h i (List.mem_cons_of_mem _ hi))
theorem map_rangeD {α β : Type} (g : α → β) (x : α) : ∀ l : List α, (List.range l.length).map (fun i => g (l.getD i x)) = l.map g
  | [] => rfl
  | a :: l => by
    rw [List.length_cons, List.range_succ_eq_map, List.map_cons, List.map_cons, List.map_map, ← map_rangeD g x l]
    rfl
end
/-! ### all but lists stays -/
def ExT (H H' : Hp) : Prop := ∀ b u, H b = some u → (∀ xs, u ≠ HO.lst xs) → H' b = some u
section
variable {K : PySem.W.Frag} {H H' : Hp}
theorem ExT.of (e : Ex H H') : ExT H H' := fun b u h _ => e b u h
theorem ExT.trans {H'' : Hp} (a : ExT H H') (b : ExT H' H'') : ExT H H'' := fun c u h n => b c u (a c u h n) n
theorem ExT.sqT {a : Addr} {xs : List V} (e : ExT H H') (h : SqT K H a xs) : SqT K H' a xs := by
  rcases h with (h | ⟨o, h⟩) | h
  · exact .inl (.inl (e _ _ h fun _ z => by cases z))
  · exact .inl (.inr ⟨o, e _ _ h fun _ z => by cases z⟩)
  · exact .inr h
mutual
theorem Rp.exT {v : V} {d : D} (c : d.clean = true) (e : ExT H H') : Rp K H v d → Rp K H' v d
  | .non => .non
  | .bl b => .bl b
  | .int i => .int i
  | .str s => .str s
  | .tup h r => .tup (e.sqT h) (RpAll.exT c e r)
  | .lst h => by cases c
  | .dct h => by cases c
theorem RpAll.exT {vs : List V} {ds : List D} (c : D.cleanL ds = true) (e : ExT H H') : RpAll K H vs ds → RpAll K H' vs ds
  | .nil => .nil
  | .cons h r => by
    have c' := Bool.and_eq_true_iff.mp c
    exact .cons (Rp.exT c'.1 e h) (RpAll.exT c'.2 e r)
end
/-- what is hidden is a list -/
def hidL (o : Option Addr) (H : Hp) : Prop := ∀ a, o = some a → ∃ xs, H a = some (.lst xs)
theorem exT_hid {o : Option Addr} (h : hidL o H) : ExT H (hid o H) := fun b u hb n => by
  unfold hid
  by_cases c : o = some b
  · obtain ⟨xs, hx⟩ := h b c
    rw [hb] at hx
    exact absurd (Option.some.inj hx) (n xs)
  · rw [if_neg c]
    exact hb
theorem DiceAt.hidL {a : Addr} (h : DiceAt H a) : hidL (some a) H := fun b e => by
  obtain ⟨x, y, z, h⟩ := h
  cases e
  exact ⟨_, h⟩
theorem Bt.exT {a : Addr} (h : DiceAt H a) (b : Bt a H H') : ExT H H' := ((exT_hid h.hidL).trans (ExT.of b)).trans (ExT.of hid_le)
theorem RpAll.memI : ∀ {vs : List V} {ds : List D}, RpAll K H vs ds → ∀ v ∈ vs, ∃ d ∈ ds, Rp K H v d
  | _, _, .nil, v, h => by cases h
  | _, _, .cons h r, v, hv => by
    rcases List.mem_cons.mp hv with rfl | hv
    · exact ⟨_, List.mem_cons_self .., h⟩
    · obtain ⟨d, hd, hr⟩ := RpAll.memI r v hv
      exact ⟨d, List.mem_cons_of_mem _ hd, hr⟩
end
section
variable {K : PySem.W.Frag} {σ : L2.St} {H H' : Hp} {ta tb te tn : TE} {tr : TA} {ds : List D} {d : D}
theorem l_lst {Q : VK} (h : EvDA K tr σ H ds) (l : ds.length ≤ 100000) (k : ∀ p xs H1, H p = none → Ex H H1 → H1 p = some (.lst xs) → RpAll K H1 xs ds → Q (.ref p) H1) : tLst tr σ H Q := h H (Ex.refl H) _ fun vs H1 e r =>
  ⟨by rw [r.len]; exact sz_of l, fun p hp => k p vs _ (fresh_back e hp) (e.trans (Ex.new hp)) upd_same (r.ex (Ex.new hp))⟩
/-- a new list of data -/
def EvDL (K : PySem.W.Frag) (te : TE) (σ : L2.St) (H : Hp) (ds : List D) : Prop := ∀ H1, Ex H H1 → ∀ Q : VK, (∀ p xs H2, H1 p = none → Ex H1 H2 → H2 p = some (.lst xs) → RpAll K H2 xs ds → Q (.ref p) H2) → te σ H1 Q
/-- [e for j in range(n)], each e data -/
theorem edl_range {n j : Nat} {vs : List Nat} {f : Nat → D} (hn : ∀ H1, Ex H H1 → Ev tn σ H1 (.int (n : Int))) (hz : n ≤ 1000) (hw : ∀ x, wipe ((wipe σ vs).set j (some x)) vs = wipe σ vs)
    (he : ∀ i H1, Ex H H1 → i < n → EvD K te ((wipe σ vs).set j (some (.int (i : Int)))) H1 (f i)) : EvDL K (tLc (iRng1 (tCons tn tNil)) (gName j) tYes te vs) σ H ((List.range n).map f) := fun H0 e0 Q q => by
  unfold tLc
  refine n_rng1 (n_cons (hn H0 e0 H0 (Ex.refl _) _ fun H1 e1 => ⟨(n : Int), rfl, by omega, by omega, fun Dl hD => ?_⟩))
  refine lc_range (lo := 0) (n := (n : Int).toNat) (fun i H' => i ≤ n ∧ ∃ acc, H' Dl = some (.lst acc) ∧ RpAll K H' acc ((List.range i).map f) ∧ Ex H1 H') ⟨Nat.zero_le _, [], upd_same, .nil, Ex.new hD⟩ (fun i H' hi p => ?_) (fun H' p => ?_)
  · obtain ⟨_, acc, p1, p2, p3⟩ := p
    rw [Int.toNat_natCast] at hi
    have ez : (0 : Int) + (i : Int) = (i : Int) := Int.zero_add _
    rw [ez]
    refine ⟨hw _, he i H' ((e0.trans e1).trans p3) hi H' (Ex.refl _) _ fun v H'' e2 hv => ?_⟩
    have h2 := e2 _ _ p1
    have hl : acc.length = i := by rw [p2.len, List.length_map, List.length_range]
    refine ⟨acc, h2, sz_lt (by omega), hi, acc ++ [v], upd_same, ?_, Ex.mut (p3.trans e2) hD⟩
    rw [List.range_succ, List.map_append]
    exact ((p2.ex e2).app (.cons hv .nil)).exL (ExL.upd h2)
  · obtain ⟨_, acc, p1, p2, p3⟩ := p
    rw [Int.toNat_natCast] at p2
    exact q Dl acc H' (fresh_back e1 hD) (e1.trans p3) p1 p2
theorem dpL {a : Addr} {xs : List V} (h : H a = some (.lst xs)) (r : RpAll K H xs ds) (c : D.cleanL ds = true) : Dp K H (.ref a) (.list (D.pyL ds)) := .lst (sq_of h) (r.dp c)
/-- two lists compared as data -/
theorem ev_neLL {es : List D} {n : Nat} (h1 : EvDL K ta σ H ds) (h2 : ∀ H1, Ex H H1 → ∃ b ys, Ev tb σ H1 (.ref b) ∧ H1 b = some (.lst ys) ∧ RpAll K H1 ys es) (fd : ∀ d ∈ ds, d.fine n = true) (fe : ∀ d ∈ es, d.fine n = true) (hn : n + 1 ≤ 64) :
    Ev (tOp (rNeD K) ta tb) σ H (.bl (!PyData.eqvAll (D.pyL ds) (D.pyL es))) := fun H1 a Q q =>
  h1 H1 a _ fun p xs H2 hp b hx rx => by
    obtain ⟨r, ys, ev, hy, ry⟩ := h2 H2 (a.trans b)
    refine ev H2 (Ex.refl _) _ fun H3 c => ?_
    refine ⟨.list (D.pyL ds), .list (D.pyL es), dpL (c _ _ hx) (rx.ex c) (fine_all ds fd).1, dpL (c _ _ hy) (ry.ex c) (fine_all es fe).1, shapedL_of fd hn, shapedL_of fe hn, ?_⟩
    show Q (.bl (!PyData.eqvAll (D.pyL ds) (D.pyL es))) H3
    exact q H3 (b.trans c)
/-- two lists that stand -/
theorem ev_eqLs {a b : Addr} {xs ys : List V} {es : List D} {n : Nat} (h1 : Ev ta σ H (.ref a)) (h2 : Ev tb σ H (.ref b)) (hx : H a = some (.lst xs)) (hy : H b = some (.lst ys)) (rx : RpAll K H xs ds) (ry : RpAll K H ys es) (fd : ∀ d ∈ ds, d.fine n = true) (fe : ∀ d ∈ es, d.fine n = true) (hn : n + 1 ≤ 64) :
    Ev (tOp (rEqD K) ta tb) σ H (.bl (PyData.eqvAll (D.pyL ds) (D.pyL es))) := ev_op h1 h2 fun H1 e Q q => ⟨.list (D.pyL ds), .list (D.pyL es), dpL (e _ _ hx) (rx.ex e) (fine_all ds fd).1, dpL (e _ _ hy) (ry.ex e) (fine_all es fe).1, shapedL_of fd hn, shapedL_of fe hn, q H1 (Ex.refl _)⟩
/-- tuple(xs), xs a list of data -/
theorem ed_tupOf {a : Addr} {xs : List V} (h : Ev ta σ H (.ref a)) (hx : H a = some (.lst xs)) (r : RpAll K H xs ds) : EvD K (tCB (rTupOf K) (tCons ta tNil)) σ H (.tup ds) := fun H1 e Q q =>
  eu_tupOf h (sq_of hx) H1 e Q fun p H2 hp e2 h2 => q (.ref p) H2 e2 (.tup (st_of h2) (r.ex (e.trans e2)))
/-- a property that gives data -/
theorem ed_prop {C a dx : Addr} {fs : List (Str × V)} {sp : Sp} {E : XK} (h : Ev ta σ H (.ref a)) (ha : H a = some (.ins C dx fs)) (k : ∀ H1, Ex H H1 → ∀ Q : VK, RetR K d H1 Q → sp [.ref a] H1 Q E) :
    EvD K (tProp C sp [] E ta) σ H d := fun H1 a1 Q q => h H1 a1 _ fun H2 b => ⟨a, dx, fs, rfl, (a1.trans b) _ _ ha, k H2 (a1.trans b) Q fun v H3 c hv => q v H3 (b.trans c) hv⟩
/-- a method with one argument that gives data -/
theorem ed_meth1 {C a dx : Addr} {fs : List (Str × V)} {m : Str} {sp : Sp} {E : XK} {y : V} (h : Ev ta σ H (.ref a)) (ha : H a = some (.ins C dx fs)) (l : fs.lookup m = none) (hb : ∀ H1, Ex H H1 → Ev tb σ H1 y) (k : ∀ H1, Ex H H1 → ∀ Q : VK, RetR K d H1 Q → sp [.ref a, y] H1 Q E) :
    EvD K (tMeth C m sp [] E ta (tCons tb tNil)) σ H d := fun H1 a1 Q q => h H1 a1 _ fun H2 b => ⟨a, dx, fs, rfl, (a1.trans b) _ _ ha, l, hb H2 (a1.trans b) H2 (Ex.refl _) _ fun H3 c => k H3 ((a1.trans b).trans c) Q fun v H4 g hv => q v H4 ((b.trans c).trans g) hv⟩
theorem rv_addS {a b : Str} (h : a.length + b.length ≤ 100000) : RV (fun x y H Q => ∃ i j, x = .str i ∧ y = .str j ∧ i.length + j.length ≤ sizeLine ∧ Q (.str (i ++ j)) H) (.str a) (.str b) H (.str (a ++ b)) := fun H1 _ Q q => ⟨a, b, rfl, rfl, sz_of h, q H1 (Ex.refl _)⟩
theorem rc_strI {i : Int} (h : i.natAbs.log2 < 1920) : RC (fun xs H Q => ∃ i, xs = [.int i] ∧ i.natAbs.log2 < 1920 ∧ Q (.str (toString i)) H) [.int i] H (.str (toString i)) := fun H1 _ Q q => ⟨i, rfl, h, q H1 (Ex.refl _)⟩
end
theorem range_all {α : Type} (x : α) (l : List α) {n : Nat} (h : l.length = n) : (List.range n).map (fun i => l.getD i x) = l := by
  subst h
  have := map_rangeD (fun y : α => y) x l
  rw [List.map_id''] at this
  · exact this
  · intro y
    rfl
section
variable {K : PySem.W.Frag}
theorem et_neD {σ : L2.St} {H : Hp} {ta tb : TE} {d : K0.D} {n : Nat} (h1 : EvD K ta σ H d) (h2 : EvD K tb σ H d) (fd : d.fine n = true) (hn : n ≤ 64) : EvT (tTest (tOp (rNeD K) ta tb)) σ H false := et_is (et_test (ev_neD h1 h2 fd fd hn)) (by
  rw [eqv_self d (fine_c fd)]
  rfl)
end
section
variable {σ : L2.St} {H H' : Hp} {ta tb te tx : TE} {t u : TT} {tr : TA} {Q : VK} {D : Ends} {tz : TS}
theorem q_par {i j : Nat} (h : tr σ H fun vs H1 => ∃ v w, vs = [v, w] ∧ tz D ((σ.set i (some v)).set j (some w)) H1) : tSeq (tPar i j tr) tz D σ H := h
theorem q_asgX {i : Nat} (h : te σ H fun v H1 => tz D (σ.set i (some v)) H1) : tSeq (tAsg te (gName i)) tz D σ H := h
theorem n_tup (h : tr σ H fun xs H1 => xs.length ≤ sizeLine ∧ ∀ p, H1 p = none → Q (.ref p) (upd H1 p (.tup xs))) : tTup tr σ H Q := h
theorem n_var {i : Nat} {v : V} (h : σ[i]? = some (some v)) (k : Q v H) : tVar i σ H Q := ⟨v, h, k⟩
theorem n_op {r : R2} (h : ta σ H fun x H1 => tb σ H1 fun y H2 => r x y H2 Q) : tOp r ta tb σ H Q := h
theorem n_nil {k : List V → Hp → Prop} (h : k [] H) : tNil σ H k := h
theorem n_if {b : Bool} (h : EvT t σ H b) (h1 : b = true → ∀ H1, Ex H H1 → ta σ H1 Q) (h2 : b = false → ∀ H1, Ex H H1 → tb σ H1 Q) : tIf t ta tb σ H Q := h H (Ex.refl H) _ fun H1 e => by
  cases b with
  | true => exact h1 rfl H1 e
  | false => exact h2 rfl H1 e
theorem c_meth {C p dx : Addr} {fs : List (Str × V)} {m : Str} {sp : Sp} {E : XK} {vs : List V} (h : Ev ta σ H (.ref p)) (hp : H p = some (.ins C dx fs)) (l : fs.lookup m = none) (ha : ∀ H1, Ex H H1 → EvA tr σ H1 vs) (k : ∀ H1, Ex H H1 → sp (.ref p :: vs) H1 Q E) :
    tMeth C m sp [] E ta tr σ H Q := h H (Ex.refl H) _ fun H1 e1 => ⟨p, dx, fs, rfl, e1 _ _ hp, l, ha H1 e1 H1 (Ex.refl _) _ fun H2 e2 => by
  show sp (.ref p :: (vs ++ [])) H2 Q E
  rw [List.append_nil]
  exact k H2 (e1.trans e2)⟩
theorem c_methD {K : PySem.W.Frag} {C p dx : Addr} {fs : List (Str × V)} {m : Str} {sp : Sp} {E : XK} {d : K0.D} (h : Ev ta σ H (.ref p)) (hp : H p = some (.ins C dx fs)) (l : fs.lookup m = none) (ha : ∀ H1, Ex H H1 → EvD K tb σ H1 d) (k : ∀ v H1, Ex H H1 → Rp K H1 v d → sp [.ref p, v] H1 Q E) :
    tMeth C m sp [] E ta (tCons tb tNil) σ H Q := h H (Ex.refl H) _ fun H1 e1 => ⟨p, dx, fs, rfl, e1 _ _ hp, l, ha H1 e1 H1 (Ex.refl _) _ fun v H2 e2 hv => k v H2 (e1.trans e2) hv⟩
end
theorem asc_snoc : ∀ (l : List Int) (y : Int), ascB l = true → (∀ x ∈ l, x < y) → ascB (l ++ [y]) = true
  | [], y, _, _ => rfl
  | [x], y, _, h => by
    show (decide (x < y) && ascB [y]) = true
    rw [decide_eq_true (h x (List.mem_cons_self ..))]
    rfl
  | x :: z :: r, y, h, g => by
    have h' : (decide (x < z) && ascB (z :: r)) = true := h
    have h1 := Bool.and_eq_true_iff.mp h'
    show (decide (x < z) && ascB ((z :: r) ++ [y])) = true
    rw [h1.1, asc_snoc (z :: r) y h1.2 fun w hw => g w (List.mem_cons_of_mem _ hw)]
    rfl
section
variable {K : PySem.W.Frag} {σ : L2.St} {H H' : Hp} {ta tb te tx tn : TE} {t u : TT} {tr : TA} {Q : VK} {D : Ends} {tz : TS} {g : TG}
theorem q_asgG (h : te σ H fun v H1 => g v σ H1 fun σ2 H2 => tz D σ2 H2) : tSeq (tAsg te g) tz D σ H := h
end
section
variable {K : PySem.W.Frag} {σ : L2.St} {H H' : Hp} {ta tb te tx tn : TE} {t u : TT} {tr : TA} {Q : VK} {D : Ends} {tz tu tw : TS}
theorem n_ifS (h : t σ H fun b H1 => if b = true then tu D σ H1 else tw D σ H1) : tIfS t tu tw D σ H := h
theorem n_or {Q : Bool → Hp → Prop} (h : t σ H fun b H1 => if b = true then Q true H1 else u σ H1 Q) : tOr t u σ H Q := h
theorem n_not {Q : Bool → Hp → Prop} (h : t σ H fun b H1 => Q (!b) H1) : tNot t σ H Q := h
theorem n_B {Q : Bool → Hp → Prop} (h : te σ H fun v H1 => ∃ b, v = .bl b ∧ Q b H1) : tB te σ H Q := h
theorem sq_btF {p a : Addr} {xs : List V} {H1 H2 : Hp} (hp : H p = none) (h : SqL K H a xs) (e : Ex H H1) (b : Bt p H1 H2) : SqL K H2 a xs := by
  rcases h with (h | ⟨o, h⟩) | h
  · exact .inl (.inl (b.at (ne_of_none h hp) (e _ _ h)))
  · exact .inl (.inr ⟨o, b.at (ne_of_none h hp) (e _ _ h)⟩)
  · exact .inr h
theorem ev_neVL {a : Addr} {xs : List V} {ds es : List K0.D} {n : Nat} (h1 : Ev ta σ H (.ref a)) (hx : H a = some (.lst xs)) (rx : RpAll K H xs ds) (h2 : EvDA K tr σ H es) (l : es.length ≤ 1000) (fd : ∀ d ∈ ds, d.fine n = true) (fe : ∀ d ∈ es, d.fine n = true) (hn : n + 1 ≤ 64) :
    Ev (tOp (rNeD K) ta (tLst tr)) σ H (.bl (!PyData.eqvAll (K0.D.pyL ds) (K0.D.pyL es))) := fun H1 e Q q =>
  h1 H1 e _ fun H2 e2 => h2 H2 (e.trans e2) _ fun vs H3 e3 r => ⟨by rw [r.len]; exact sz_of (by omega), fun p hp => by
    have e4 := (e.trans e2).trans e3
    refine ⟨.list (K0.D.pyL ds), .list (K0.D.pyL es), dpL ((e4.trans (Ex.new hp)) _ _ hx) (rx.ex (e4.trans (Ex.new hp))) (fine_all ds fd).1, dpL upd_same (r.ex (Ex.new hp)) (fine_all es fe).1, shapedL_of fd hn, shapedL_of fe hn, ?_⟩
    exact q _ ((e2.trans e3).trans (Ex.new hp))⟩
end
section
variable {l : Addr} {H : Hp}
theorem ExT.upd {xs ys : List V} (h : H l = some (.lst xs)) : ExT H (L2.upd H l (.lst ys)) := fun b u hb n => by
  by_cases c : b = l
  · subst c
    rw [h] at hb
    exact absurd (Option.some.inj hb).symm (n xs)
  · rw [upd_ne c]
    exact hb
end
end K0

namespace PySem.SeqAt
open AutoSeq1 (wpAny_loadPart')
open MeetsSeq MeetsSeq2 MeetsSeq3 SeqRoads2
section
variable {prog : Program} {w : World}
/-- != of two tuples whose items are equal, one by one -/
theorem own_tupNe (l b : Addr) (us vs : Array Value) (n m : Nat) (dl db : Option Addr) (sl sb : Array (Option Value)) (hz : us.size = vs.size) : MeetsIn prog w (Builtin.«tuple.__ne__» ⟨[.ref l, .ref b], []⟩) (fun A R s =>
    s.heap.get? l = some { cls := .type "tuple", dict := dl, data := .seq us n, slots := sl } ∧ s.heap.get? b = some { cls := .type "tuple", dict := db, data := .seq vs m, slots := sb } ∧
    (∀ j (h1 : j < us.size) (h2 : j < vs.size), EqIn prog w A.in1 s us[j] vs[j] true) ∧ R (.ok (.ret (.bool false))) s) :=
  .of_wp fun A R s h => by
  obtain ⟨hp, g, d, tk, os⟩ := s
  obtain ⟨hl, hb, he, h⟩ := h
  have sub := AutoSeq1.sub_tuple_tuple
  have lz : (us.toList.zip vs.toList).length = us.size := by simp [hz]
  wp_walk using wpAny_loadPart' hl, wpAny_loadPart' hb, wpAny_forIn_list _ (fun rest c s' => c.1 = none ∧ s' = ⟨hp, g, d, tk, os⟩ ∧ ∃ i, rest = (us.toList.zip vs.toList).drop i) _
  case turn =>
    rintro ⟨y, x⟩ rest c s' ⟨hc, rfl, i, hi⟩
    have lt : i < (us.toList.zip vs.toList).length := by
      rcases Nat.lt_or_ge i (us.toList.zip vs.toList).length with z | z
      · exact z
      · rw [List.drop_of_length_le z] at hi
        cases hi
    have h1 : i < us.size := lz ▸ lt
    have h2 : i < vs.size := hz ▸ h1
    rw [List.drop_eq_getElem_cons lt] at hi
    injection hi with e1 e2
    have ey : y = us[i] := by simpa using congrArg Prod.fst e1
    have ex : x = vs[i] := by simpa using congrArg Prod.snd e1
    subst ey ex
    refine wpAny_bind (he i h1 h2 _ _ ?_)
    wp_walk
    exact ⟨rfl, rfl, i + 1, e2⟩
  case fin =>
    rintro ⟨c1, c2⟩ s' ⟨hc, rfl, _⟩
    have hc' : c1 = none := hc
    subst hc'
    wp_walk
    exact ⟨_, rfl, by simpa [Builtin.Tuple.tupleCompareSizes, bne, hz] using h⟩
  case h => exact ⟨rfl, rfl, 0, rfl⟩
/-- the loop of != over two lists whose items are equal -/
theorem own_lstNeLoop (l b : Addr) (us vs : Array Value) (n m : Nat) (dl db : Option Addr) (sl sb : Array (Option Value)) (hz : us.size = vs.size) : ∀ (k i : Nat), us.size - i = k → MeetsIn prog w (Builtin.«list.__eq__.loop» ⟨[.ref l, .ref b, rawInt i, rawInt 3], []⟩) (fun A R s =>
    s.heap.get? l = some { cls := .type "list", dict := dl, data := .seq us n, slots := sl } ∧ s.heap.get? b = some { cls := .type "list", dict := db, data := .seq vs m, slots := sb } ∧
    (∀ j (h1 : j < us.size) (h2 : j < vs.size), EqIn prog w A.in1 s us[j] vs[j] true) ∧ R (.ok (.ret (.bool false))) s)
  | 0, i, hk => by
    intro A R s h
    obtain ⟨hp, g, d, tk, os⟩ := s
    obtain ⟨hl, hb, he, h⟩ := h
    wp_walk using wpAny_loadPart' hl, wpAny_loadPart' hb
    have o1 : us[((i : Nat) : Int).toNat]? = none := by simp; omega
    have o2 : vs[((i : Nat) : Int).toNat]? = none := by simp; omega
    rw [o1, o2]
    wp_walk using wpAny_loadPart' hl, wpAny_loadPart' hb
    show R (.ok (.ret (.bool (us.size != vs.size)))) _
    rw [hz]
    simpa using h
  | k + 1, i, hk => by
    intro A R s h
    obtain ⟨hp, g, d, tk, os⟩ := s
    obtain ⟨hl, hb, he, h⟩ := h
    wp_walk using wpAny_loadPart' hl, wpAny_loadPart' hb
    have l1 : i < us.size := by omega
    have l2 : i < vs.size := by omega
    have o1 : us[((i : Nat) : Int).toNat]? = some us[i] := by simp [l1]
    have o2 : vs[((i : Nat) : Int).toNat]? = some vs[i] := by simp [l2]
    have next : ((i : Int) + 1) = ((i + 1 : Nat) : Int) := by push_cast; rfl
    rw [o1, o2]
    refine wpAny_bind (he i l1 l2 _ _ ?_)
    wp_walk
    rw [next]
    refine ⟨plainId_quiet plain_eq_loop _, codeAny_builtin entry_eq_loop ?_⟩
    rw [Around.under_plainId plain_eq_loop _]
    exact own_lstNeLoop l b us vs n m dl db sl sb hz k (i + 1) (by omega) A R _ ⟨hl, hb, he, h⟩
theorem own_lstNe (l b : Addr) (us vs : Array Value) (n m : Nat) (dl db : Option Addr) (sl sb : Array (Option Value)) (hz : us.size = vs.size) : MeetsIn prog w (Builtin.«list.__ne__» ⟨[.ref l, .ref b], []⟩) (fun A R s =>
    s.heap.get? l = some { cls := .type "list", dict := dl, data := .seq us n, slots := sl } ∧ s.heap.get? b = some { cls := .type "list", dict := db, data := .seq vs m, slots := sb } ∧
    (∀ j (h1 : j < us.size) (h2 : j < vs.size), EqIn prog w A.in1 s us[j] vs[j] true) ∧ R (.ok (.ret (.bool false))) s) := by
  intro A R s h
  obtain ⟨hp, g, d, tk, os⟩ := s
  obtain ⟨hl, hb, he, h⟩ := h
  have sub := AutoSeq1.sub_list_list
  have nz : ¬ (us.size != vs.size) = true := by simp [hz]
  wp_walk using wpAny_loadPart' hl, wpAny_loadPart' hb
  refine ⟨plainId_quiet plain_eq_loop _, codeAny_builtin entry_eq_loop ?_⟩
  rw [Around.under_plainId plain_eq_loop _]
  exact own_lstNeLoop l b us vs n m dl db sl sb hz _ 0 rfl A R _ ⟨hl, hb, he, h⟩
variable {A : Around} {s : Shared} {l b : Addr} {us vs : Array Value}
theorem own_neT (hl : s.heap.IsTuple l us) (hb : s.heap.IsTuple b vs) (hz : us.size = vs.size) (hu : A.units < cLine) (he : ∀ j (h1 : j < us.size) (h2 : j < vs.size), EqIn prog w A.in1 s us[j] vs[j] true)
    {E Q : Value → Shared → Prop} (h : Q (.bool false) s) : wpAny (model prog w) A (richCompare .NotEq (.ref l) (.ref b)) Q E s := by
  obtain ⟨⟨c1, d1, dt1, s1⟩, o1, k1, n1, e1⟩ := id hl
  obtain ⟨⟨c2, d2, dt2, s2⟩, o2, k2, n2, e2⟩ := id hb
  simp only at k1 e1 k2 e2
  subst k1 e1 k2 e2
  have t1 : s.TypeIs (.ref l) "tuple" := ⟨_, o1, rfl⟩
  have t2 : s.TypeIs (.ref b) "tuple" := ⟨_, o2, rfl⟩
  refine wpAny_richCompare_same_room (op := .NotEq) t1 t2 F.slot_tuple_ne (call_meetsIn F.slot_tuple_ne t1 F.entry_tuple_ne (F.args_tuple_ne_2 _ _) (own_tupNe l b us vs n1 n2 d1 d2 s1 s2 hz) ⟨o1, o2, he, ?_⟩) hu
  exact show Value.bool false ≠ Value.notImplemented ∧ Q (.bool false) s from ⟨(fun x => nomatch x), h⟩
theorem own_neL (hl : s.heap.IsList l us) (hb : s.heap.IsList b vs) (hz : us.size = vs.size) (hu : A.units < cLine) (he : ∀ j (h1 : j < us.size) (h2 : j < vs.size), EqIn prog w A.in1 s us[j] vs[j] true)
    {E Q : Value → Shared → Prop} (h : Q (.bool false) s) : wpAny (model prog w) A (richCompare .NotEq (.ref l) (.ref b)) Q E s := by
  obtain ⟨⟨c1, d1, dt1, s1⟩, o1, k1, n1, e1⟩ := id hl
  obtain ⟨⟨c2, d2, dt2, s2⟩, o2, k2, n2, e2⟩ := id hb
  simp only at k1 e1 k2 e2
  subst k1 e1 k2 e2
  have t1 : s.TypeIs (.ref l) "list" := ⟨_, o1, rfl⟩
  have t2 : s.TypeIs (.ref b) "list" := ⟨_, o2, rfl⟩
  refine wpAny_richCompare_same_room (op := .NotEq) t1 t2 F.slot_list_ne (call_meetsIn F.slot_list_ne t1 F.entry_list_ne (F.args_list_ne_2 _ _) (own_lstNe l b us vs n1 n2 d1 d2 s1 s2 hz) ⟨o1, o2, he, ?_⟩) hu
  exact show Value.bool false ≠ Value.notImplemented ∧ Q (.bool false) s from ⟨(fun x => nomatch x), h⟩
end
end PySem.SeqAt

namespace K0
open PySem PySem.Spec PyProof.Rows L2 Evl
/-! ### what compares equal, dicts among it -/
inductive Sam (K : PySem.W.Frag) (H : Hp) : Nat → V → V → Prop where
  | data {n : Nat} {x y : V} {d e : PyData} : Dp K H x d → Dp K H y e → d.canLay0 = true → e.canLay0 = true → d.depth ≤ n → PyData.eqv d e = true → Sam K H n x y
  | dict {n : Nat} {a b : Addr} {ks ls : List (Key × V)} : H a = some (.dK ks) → H b = some (.dK ls) → ks.length = ls.length → (∀ p ∈ ks, valV ls p.1 = some p.2 ∧ flatB p.2 = true) → Sam K H (n + 1) (.ref a) (.ref b)
  | tup {n : Nat} {a b : Addr} {xs ys : List V} : SqT K H a xs → SqT K H b ys → xs.length = ys.length → (∀ (j : Nat) (x y : V), xs[j]? = some x → ys[j]? = some y → Sam K H n x y) → Sam K H (n + 1) (.ref a) (.ref b)
  | lst {n : Nat} {a b : Addr} {xs ys : List V} : SqL K H a xs → SqL K H b ys → xs.length = ys.length → (∀ (j : Nat) (x y : V), xs[j]? = some x → ys[j]? = some y → Sam K H n x y) → Sam K H (n + 1) (.ref a) (.ref b)
theorem Sam.ex {K : PySem.W.Frag} {H H' : Hp} (e : Ex H H') {n : Nat} {x y : V} (h : Sam K H n x y) : Sam K H' n x y := by
  induction h with
  | data h1 h2 c1 c2 l q => exact .data (dp_ex e h1) (dp_ex e h2) c1 c2 l q
  | dict h1 h2 l q => exact .dict (e _ _ h1) (e _ _ h2) l q
  | tup h1 h2 l _ ih => exact .tup (ex_t e h1) (ex_t e h2) l ih
  | lst h1 h2 l _ ih => exact .lst (ex_l e h1) (ex_l e h2) l ih
where
  dp_ex {K : PySem.W.Frag} {H H' : Hp} (e : Ex H H') {v : V} {d : PyData} : Dp K H v d → Dp K H' v d
    | .non => .non
    | .bl b => .bl b
    | .int i => .int i
    | .str s => .str s
    | .lst h r => .lst (ex_l e h) (dpa_ex e r)
    | .tup h r => .tup (ex_t e h) (dpa_ex e r)
  dpa_ex {K : PySem.W.Frag} {H H' : Hp} (e : Ex H H') {vs : List V} {ds : List PyData} : DpAll K H vs ds → DpAll K H' vs ds
    | .nil => .nil
    | .cons h r => .cons (dp_ex e h) (dpa_ex e r)
theorem kv_mem {κ : Type} : ∀ {ks : List (κ × V)} {va : List (κ × Value)}, KV ks va → ∀ p ∈ va, ∃ k ∈ ks, k.1 = p.1 ∧ RelV k.2 p.2 := fun {ks va} r => by
  unfold KV at r
  induction r with
  | nil =>
    intro p hp
    cases hp
  | @cons a b as bs hh _ ih =>
    intro p hp
    rcases List.mem_cons.mp hp with rfl | hp
    · exact ⟨a, List.mem_cons_self .., hh⟩
    · obtain ⟨k, hk, z⟩ := ih p hp
      exact ⟨k, List.mem_cons_of_mem _ hk, z⟩
theorem all_yes {α : Type} (l : List α) : (l.all fun _ => true) = true := List.all_eq_true.mpr fun _ _ => rfl
theorem vals_at {xs : List V} {us : List Value} (r : Vals xs us) (j : Nat) (h : j < us.toArray.size) : ∃ x, xs[j]? = some x ∧ RelV x us.toArray[j] := by
  have h' : j < us.length := by simpa using h
  have e : us.toArray[j] = us[j] := by simp
  rw [e]
  clear e h
  induction r generalizing j with
  | nil => exact absurd h' (Nat.not_lt_zero j)
  | cons a b ih =>
    cases j with
    | zero => exact ⟨_, rfl, a⟩
    | succ j => exact ih j (Nat.lt_of_succ_lt_succ h')
section
variable {X : Cx} {pins : List (Addr × Obj)} {σ : L2.St} {H : Hp} {s : Shared}
theorem sam_tree (I : Inv X pins σ H s) {n : Nat} {x y : V} (h : Sam X.K H n x y) : ∀ v u, RelV x v → RelV y u → PySem.W.EqTree X.prog X.w s n v u true := by
  induction h with
  | data h1 h2 c1 c2 l q =>
    intro v u rx ry
    obtain ⟨as, r1⟩ := Dp.reads I _ _ v h1 rx
    obtain ⟨bs, r2⟩ := Dp.reads I _ _ u h2 ry
    refine .leaf fun A hu => ?_
    have := SeqAt.eqAt_reads _ _ A s v u as bs r1 r2 c1 c2 (by omega)
    rw [q] at this
    exact this
  | @dict n a b ks ls h1 h2 l q =>
    intro v u rx ry
    cases (show v = Value.ref a from rx)
    cases (show u = Value.ref b from ry)
    by_cases ab : a = b
    · subst ab
      exact .same
    obtain ⟨_, ya, va, ra, da⟩ := (show ObjOk X.prog X.w H s.heap a (.dK ks) from I.hok a _ h1)
    obtain ⟨_, yb, vb, rb, db⟩ := (show ObjOk X.prog X.w H s.heap b (.dK ls) from I.hok b _ h2)
    have lv : va.length = vb.length := by rw [← ra.length, ← rb.length]; exact l
    -- each pair of the one is found in the other
    have hit : ∀ p ∈ va, ∃ w', valueAt vb p.1 = some w' ∧ SeqAt.EqAt X.A s p.2 w' true ∧ ∀ A : Around, SeqAt.EqAt A s p.2 w' true := fun p hp => by
      obtain ⟨k, hk, e1, r1⟩ := kv_mem ra p hp
      obtain ⟨g1, g2⟩ := q k hk
      rw [e1] at g1
      have rr := rb.val p.1
      rw [g1] at rr
      obtain ⟨w', hw, rw'⟩ := rr.some_of
      exact ⟨w', hw, eqAt_same r1 rw' g2, fun A => eqAt_same r1 rw' g2⟩
    have t := PySem.W.EqTree.dicts (prog := X.prog) (w := X.w) (s := s) (knd := mixKind X.prog X.w) (n := n) (e := fun _ => true) ab ya yb da db fun k v y hm hv => by
      obtain ⟨w', hw, _, hq⟩ := hit (k, v) hm
      rw [hv] at hw
      cases hw
      exact .leaf fun A _ => hq A
    have e : (va.length == vb.length && va.all fun p => (valueAt vb p.1).isSome && true) = true := by
      rw [lv, beq_self_eq_true, Bool.true_and]
      refine List.all_eq_true.mpr fun p hp => ?_
      obtain ⟨w', hw, _⟩ := hit p hp
      rw [hw]
      rfl
    rw [e] at t
    exact t
  | @tup n a b xs ys h1 h2 l _ ih =>
    intro v u rx ry
    cases (show v = Value.ref a from rx)
    cases (show u = Value.ref b from ry)
    by_cases ab : a = b
    · subst ab
      exact .same
    obtain ⟨us, r1, p1, _⟩ := I.tuple h1
    obtain ⟨ws, r2, p2, _⟩ := I.tuple h2
    have sz : us.toArray.size = ws.toArray.size := by
      rw [List.size_toArray, List.size_toArray, ← r1.length, ← r2.length]
      exact l
    have t := PySem.W.EqTree.tuples (prog := X.prog) (w := X.w) (s := s) (n := n) (e := fun _ => true) ab p1 p2 fun j g1 g2 => by
      obtain ⟨x, hx, a1⟩ := vals_at r1 j g1
      obtain ⟨y, hy, a2⟩ := vals_at r2 j g2
      exact ih j x y hx hy _ _ a1 a2
    rw [all_yes, sz, beq_self_eq_true] at t
    exact t
  | @lst n a b xs ys h1 h2 l _ ih =>
    intro v u rx ry
    cases (show v = Value.ref a from rx)
    cases (show u = Value.ref b from ry)
    by_cases ab : a = b
    · subst ab
      exact .same
    obtain ⟨us, r1, p1, _⟩ := I.list h1
    obtain ⟨ws, r2, p2, _⟩ := I.list h2
    have sz : us.toArray.size = ws.toArray.size := by
      rw [List.size_toArray, List.size_toArray, ← r1.length, ← r2.length]
      exact l
    have t := PySem.W.EqTree.lists (prog := X.prog) (w := X.w) (s := s) (n := n) (e := fun _ => true) ab p1.isList p2.isList sz fun j g1 g2 => by
      obtain ⟨x, hx, a1⟩ := vals_at r1 j g1
      obtain ⟨y, hy, a2⟩ := vals_at r2 j g2
      exact ih j x y hx hy _ _ a1 a2
    rw [all_yes] at t
    exact t
end
/-- x == y, x != y of what is equal -/
def rEqS (K : PySem.W.Frag) : R2 := fun x y H Q => ∃ n, n ≤ 40 ∧ Sam K H n x y ∧ Q (.bl true) H
def rNeS (K : PySem.W.Frag) : R2 := fun x y H Q => ∃ n, n ≤ 40 ∧ Sam K H n x y ∧ Q (.bl false) H
section
variable {X : Cx}
theorem op_eqS (hu : X.A.units + 64 < cLine) : OpR X (compareOp .Eq) (rEqS X.K) := by
  intro pins s σ H x y v u Q I rx ry h
  obtain ⟨n, hn, h, q⟩ := h
  cases h with
  | data h1 h2 c1 c2 l qq =>
    obtain ⟨as, r1⟩ := Dp.reads I _ _ v h1 rx
    obtain ⟨bs, r2⟩ := Dp.reads I _ _ u h2 ry
    exact SeqAt.compareEq_reads r1 r2 c1 c2 (by omega) (by rw [qq]; exact ⟨.bl true, H, I, rfl, q⟩)
  | @dict n a b ks ls h1 h2 l g =>
    exact op_eq_dictA (X := X) (by omega) pins s σ H _ _ v u Q I rx ry ⟨a, b, ks, ls, rfl, rfl, h1, h2, l, g, q⟩
  | @tup n a b xs ys h1 h2 l g =>
    cases (show v = Value.ref a from rx)
    cases (show u = Value.ref b from ry)
    obtain ⟨us, r1, p1, _⟩ := I.tuple h1
    obtain ⟨ws, r2, p2, _⟩ := I.tuple h2
    have sz : us.toArray.size = ws.toArray.size := by
      rw [List.size_toArray, List.size_toArray, ← r1.length, ← r2.length]
      exact l
    refine PySem.W.eq_tuplesT (n := n) (e := fun _ => true) p1 p2 (fun j g1 g2 => ?_) (by omega) ?_
    · obtain ⟨x, hx, a1⟩ := vals_at r1 j g1
      obtain ⟨y, hy, a2⟩ := vals_at r2 j g2
      exact sam_tree I (g j x y hx hy) _ _ a1 a2
    · rw [all_yes, sz, beq_self_eq_true]
      exact ⟨.bl true, H, I, rfl, q⟩
  | @lst n a b xs ys h1 h2 l g =>
    cases (show v = Value.ref a from rx)
    cases (show u = Value.ref b from ry)
    obtain ⟨us, r1, p1, _⟩ := I.list h1
    obtain ⟨ws, r2, p2, _⟩ := I.list h2
    have sz : us.toArray.size = ws.toArray.size := by
      rw [List.size_toArray, List.size_toArray, ← r1.length, ← r2.length]
      exact l
    refine PySem.W.eq_listsT (n := n) (e := fun _ => true) p1.isList p2.isList sz (fun j g1 g2 => ?_) (by omega) ?_
    · obtain ⟨x, hx, a1⟩ := vals_at r1 j g1
      obtain ⟨y, hy, a2⟩ := vals_at r2 j g2
      exact sam_tree I (g j x y hx hy) _ _ a1 a2
    · rw [all_yes]
      exact ⟨.bl true, H, I, rfl, q⟩
theorem op_neS (hu : X.A.units + 64 < cLine) : OpR X (compareOp .NotEq) (rNeS X.K) := by
  intro pins s σ H x y v u Q I rx ry h
  obtain ⟨n, hn, h, q⟩ := h
  cases h with
  | data h1 h2 c1 c2 l qq =>
    obtain ⟨as, r1⟩ := Dp.reads I _ _ v h1 rx
    obtain ⟨bs, r2⟩ := Dp.reads I _ _ u h2 ry
    exact SeqAt.compareNe_reads r1 r2 c1 c2 (by omega) (by rw [qq]; exact ⟨.bl false, H, I, rfl, q⟩)
  | @dict n a b ks ls h1 h2 l g =>
    exact op_ne_dictA (X := X) (by omega) pins s σ H _ _ v u Q I rx ry ⟨a, b, ks, ls, rfl, rfl, h1, h2, l, g, q⟩
  | @tup n a b xs ys h1 h2 l g =>
    cases (show v = Value.ref a from rx)
    cases (show u = Value.ref b from ry)
    obtain ⟨us, r1, p1, _⟩ := I.tuple h1
    obtain ⟨ws, r2, p2, _⟩ := I.tuple h2
    have sz : us.toArray.size = ws.toArray.size := by
      rw [List.size_toArray, List.size_toArray, ← r1.length, ← r2.length]
      exact l
    refine SeqAt.own_neT p1 p2 sz (by omega) (fun j g1 g2 => ?_) ⟨.bl false, H, I, rfl, q⟩
    obtain ⟨x, hx, a1⟩ := vals_at r1 j g1
    obtain ⟨y, hy, a2⟩ := vals_at r2 j g2
    exact (sam_tree I (g j x y hx hy) _ _ a1 a2).at X.A.in1 (by show X.A.units + 1 + n < cLine; omega)
  | @lst n a b xs ys h1 h2 l g =>
    cases (show v = Value.ref a from rx)
    cases (show u = Value.ref b from ry)
    obtain ⟨us, r1, p1, _⟩ := I.list h1
    obtain ⟨ws, r2, p2, _⟩ := I.list h2
    have sz : us.toArray.size = ws.toArray.size := by
      rw [List.size_toArray, List.size_toArray, ← r1.length, ← r2.length]
      exact l
    refine SeqAt.own_neL p1.isList p2.isList sz (by omega) (fun j g1 g2 => ?_) ⟨.bl false, H, I, rfl, q⟩
    obtain ⟨x, hx, a1⟩ := vals_at r1 j g1
    obtain ⟨y, hy, a2⟩ := vals_at r2 j g2
    exact (sam_tree I (g j x y hx hy) _ _ a1 a2).at X.A.in1 (by show X.A.units + 1 + n < cLine; omega)
end
end K0

namespace K0
open PySem PySem.Spec PyProof.Rows L2 Evl
open AutoSeq1 (wpAny_loadPart')
/-! ### enumerate(t), t a tuple -/
theorem own_enumNew (l : Addr) (us : Array Value) (n : Nat) (dd : Option Addr) (sl : Array (Option Value)) : Meets (Builtin.«enumerate.__new__» ⟨[.type "enumerate", .ref l], []⟩) (fun _ R s =>
    s.heap.get? l = some { cls := .type "tuple", dict := dd, data := .seq us n, slots := sl } ∧ R (.ok (.ret (.ref (s.heap.objs.size + 1))))
      { s with heap := (s.heap.push { cls := .type "tuple_iterator", data := .fields #[.ref l, .int 0 0] }).push { cls := .type "enumerate", data := .fields #[.none, .bool false, .ref s.heap.objs.size, rawInt 0, .none, .none] } }) :=
  .of_wp fun prog w A R s h => by
  obtain ⟨hp, g, d, tk, os⟩ := s
  obtain ⟨hl, h⟩ := h
  have sub := sub_enumerate
  have tup : Heap.IsTuple (Shared.heap ⟨hp, g, d, tk, os⟩) l us := ⟨_, hl, rfl, n, rfl⟩
  have sz : (hp.push { cls := .type "tuple_iterator", data := .fields #[.ref l, .int 0 0] }).objs.size = hp.objs.size + 1 := Heap.size_push ..
  have h' := h
  rw [← show (hp.push { cls := .type "tuple_iterator", data := .fields #[.ref l, .int 0 0] }).objs.size = hp.objs.size + 1 from sz] at h'
  wp_walk using wpAny_loadPart' hl
  refine wpAny_stack_any fun st => wpAny_pure ?_
  split
  · rename_i c _ _ _ _ _
    cases (c == Value.type "enumerate") <;> (wp_walk using wpAny_loadPart' hl, wpAny_pyIter_tuple tup; exact ⟨_, rfl, h'⟩)
  · wp_walk using wpAny_loadPart' hl, wpAny_pyIter_tuple tup
    exact ⟨_, rfl, h'⟩
def IteT (K : PySem.W.Frag) (a : Addr) : It :=
  ⟨fun i H => ∃ (xs : List V) (x : V), SqT K H a xs ∧ xs[i]? = some x, fun i H v H' => ∃ p x, v = .ref p ∧ H p = none ∧ H' = upd H p (.tup [.int (i : Nat), x]) ∧ ∀ xs, SqT K H a xs → xs[i]? = some x,
    fun i H => ∃ xs : List V, SqT K H a xs ∧ xs.length = i⟩
theorem turn_enumT {P : Program} {w : World} {K : PySem.W.Frag} {es : List Expr} {kk : Nat} {tp : Pos} (a e it : Addr) :
    Turn P w K (.Tuple es kk tp) (IteT K a) [e, it] e (fun i h => (∃ old, IsEnum h e it ((i : Nat) : Int) old) ∧ h.IsTupleIter it a i ∧ e ≠ it ∧ e ≠ a ∧ a ≠ it) where
  mem := List.mem_cons_self ..
  obj := fun i h st b hb => by
    obtain ⟨⟨old, en⟩, ⟨o, g1, g2, g3⟩, _⟩ := st
    rcases (show b = e ∨ b = it by simpa using hb) with rfl | rfl
    · exact ⟨_, en, fun v q => nomatch q⟩
    · exact ⟨o, g1, fun v q => by rw [g3] at q; cases q⟩
  keep := fun i h h' st k => by
    obtain ⟨⟨old, en⟩, ti, nn⟩ := st
    exact ⟨⟨old, k e (by simp) _ en⟩, ti.at fun o q => k it (by simp) o q, nn⟩
  item := by
    intro X hP hw hK hc i pins s σ H E I hf st hg
    subst hP hw hK
    obtain ⟨⟨old, en⟩, ti, n1, n2, n3⟩ := st
    obtain ⟨xs, x, hq, hx⟩ := hg
    obtain ⟨its, rv, tp, _⟩ := I.tuple hq
    obtain ⟨u, hu, ru⟩ := rv.get hx
    have le : e < s.heap.objs.size := Heap.lt_size en
    have li : it < s.heap.objs.size := by
      obtain ⟨_, q, _⟩ := ti
      exact Heap.lt_size q
    have lt : i < its.toArray.size := by
      rw [List.size_toArray]
      exact (List.getElem?_eq_some_iff.mp hu).1
    refine wpAny_pyNext_enum_itemD (Draws.tuple (prog := X.prog) (w := X.w) (A := X.A.in1) (I.ok.hd hc) it a n3 its.toArray) en ⟨ti, tp⟩ lt n1 (by simp [n1, n2]) fun y h1 tk hy out st1 pr sz kp => ?_
    have ey : y = u := by
      have z : its.toArray[i]? = some y := hy
      rw [List.getElem?_toArray, hu] at z
      exact (Option.some.inj z).symm
    subst ey
    refine ⟨_, rfl, wpAny_letOwnedTupleGo_enum (s := { s with heap := h1, toks := tk + 1 }) out fun h2 en2 sb => ?_⟩
    have pr2 : h2.get? s.heap.objs.size = some { cls := .type "tuple", data := .seq #[.int i tk, y] } := (sb.2 _ (Nat.ne_of_gt le)).trans pr
    have keep2 : ∀ b ob, b ∉ [e, it] → s.heap.get? b = some ob → h2.get? b = some ob := fun b ob hb q => by
      have b1 : b ≠ e := fun z => hb (by simp [z])
      have b2 : b ≠ it := fun z => hb (by simp [z])
      exact (sb.2 b b1).trans (kp b ob b1 b2 q)
    have ok2 : ObjOk X.prog X.w (upd H s.heap.objs.size (.tup [.int (i : Nat), x])) h2 s.heap.objs.size (.tup [.int (i : Nat), x]) := by
      refine ⟨?_, [.int i tk, y], .cons ⟨_, rfl⟩ (.cons ru .nil), ⟨_, pr2, rfl, _, rfl⟩⟩
      show 2 ≤ sizeLine
      decide
    have I2 : Inv X pins σ (upd H s.heap.objs.size (.tup [.int (i : Nat), x])) { s with heap := h2, toks := tk + 1 } := I.turnedNew (ch := [e, it]) keep2 hf (Nat.le_refl _) ok2
    refine ⟨.ref s.heap.objs.size, _, I2, rfl, ⟨_, x, rfl, I.hok.fresh (Nat.le_refl _), rfl, fun ys hy => ?_⟩, ⟨⟨y, ?_⟩, st1.1.at fun o q => (sb.2 it n1.symm).trans q, n1, n2, n3⟩, fun b hb => ?_⟩
    · rw [I.tuple_inj hy hq]
      exact hx
    · have z : ((i + 1 : Nat) : Int) = (i : Int) + 1 := by omega
      rw [z]
      exact en2
    · have lb : b < s.heap.objs.size := by
        rcases (show b = e ∨ b = it by simpa using hb) with rfl | rfl
        · exact le
        · exact li
      rw [upd_ne (Nat.ne_of_lt lb)]
      exact (hf b hb).1
  done := by
    intro X hP hw hK hc i pins s σ H E I hf st hg
    subst hP hw hK
    obtain ⟨⟨old, en⟩, ti, n1, n2, n3⟩ := st
    obtain ⟨xs, hq, hx⟩ := hg
    obtain ⟨its, rv, tp, _⟩ := I.tuple hq
    obtain ⟨f0, f1, f2, f3, f4, f5⟩ := hf it (by simp)
    have ie : i = its.toArray.size := by
      have := rv.length
      simp
      omega
    rw [ie] at ti
    exact wpAny_pyNext_enum_endD (Draws.tuple (prog := X.prog) (w := X.w) (A := X.A.in1) (I.ok.hd hc) it a n3 its.toArray) en ⟨ti, tp⟩ fun h1 eb => ⟨rfl, I.turned (t' := s.toks) (fun b o hb q => eb b o hb q) f0 f1 f3 f4 f5⟩
  self := fun A i s Q E st h => let ⟨⟨_, en⟩, _⟩ := st; wpAny_pyIter_enum en h
theorem own_callEnum {prog : Program} {w : World} {A : Around} {E : Value → Shared → Prop} {s : Shared} {l : Addr} {us : Array Value} {Q : Value → Shared → Prop} (hl : s.heap.IsTuple l us)
    (h : ∀ h', IsEnum h' (s.heap.objs.size + 1) s.heap.objs.size 0 .none → h'.IsTupleIter s.heap.objs.size l 0 → (∀ b o, s.heap.get? b = some o → h'.get? b = some o) → Q (.ref (s.heap.objs.size + 1)) { s with heap := h' }) :
    wpAny (model prog w) A (call (.type "enumerate") [.ref l]) Q E s := by
  obtain ⟨⟨c, dd, dt, sl⟩, g1, g2, n, g3⟩ := hl
  have e2 : c = .type "tuple" := g2
  have e3 : dt = .seq us n := g3
  subst e2 e3
  refine callType_new F.called_enumerate (by decide) (F.typeCall_enumerate_1 _) (F.newCall_enumerate_1 _) (fun o => F.args_object_init_2 o _) F.entry_enumerate_new (own_enumNew l us n dd sl) ⟨g1, ?_⟩
  have sz : (s.heap.push { cls := .type "tuple_iterator", data := .fields #[.ref l, .int 0 0] }).objs.size = s.heap.objs.size + 1 := Heap.size_push ..
  have en : IsEnum ((s.heap.push { cls := .type "tuple_iterator", data := .fields #[.ref l, .int 0 0] }).push { cls := .type "enumerate", data := .fields #[.none, .bool false, .ref s.heap.objs.size, rawInt 0, .none, .none] }) (s.heap.objs.size + 1) s.heap.objs.size 0 .none := by
    have z := Heap.get?_push_size (s.heap.push { cls := .type "tuple_iterator", data := .fields #[.ref l, .int 0 0] }) (o := { cls := .type "enumerate", data := .fields #[.none, .bool false, .ref s.heap.objs.size, rawInt 0, .none, .none] }) rfl
    rwa [sz] at z
  exact ⟨⟨_, en, rfl⟩, h _ en ⟨_, Heap.get?_push_of_some _ (Heap.get?_push_size _ rfl), rfl, rfl⟩ fun b o x => Heap.get?_push_of_some _ (Heap.get?_push_of_some _ x)⟩
def iEnumT (K : PySem.W.Frag) (ta : TA) : TI := fun σ H R => ta σ H fun vs H1 => ∃ a xs, vs = [.ref a] ∧ SqT K H1 a xs ∧ R (IteT K a) H1
theorem pi_enumT {X : Cx} {e : Expr} {ta : TA} {p pos tp : Pos} {es : List Expr} {kk : Nat} (hg : Gl X "enumerate") (hm : X.mg "enumerate" = none) (ha : PA X [e] ta) (hs : starEach [e] X.env = [(false, eval e X.env)] := by rfl) :
    PI X (.Tuple es kk tp) (.Call (.Name "enumerate" p) [e] [] pos) (iEnumT X.K ta) := by
  refine ⟨fun pins s σ H R I h => ?_⟩
  refine Call_ (ld_blt I hg hm boot_enumerate (PyProof.Rows.callWith_type1 (thn (ha.run pos pins s σ H _ I h) fun us s1 z => ?_) hs rfl))
  obtain ⟨vs, H1, I1, r1, a, xs, rfl, hq, q⟩ := z
  cases r1 with
  | cons r rr =>
    cases rr
    cases r
    obtain ⟨its, rv, tp', _⟩ := I1.tuple hq
    refine own_callEnum tp' fun h1 en ti kp => wpAny_pyIter_enum en ?_
    have I2 : Inv X pins σ H1 { s1 with heap := h1 } := I1.kept (t' := s1.toks) kp
    have la : a < s1.heap.objs.size := by
      obtain ⟨_, z, _⟩ := tp'
      exact Heap.lt_size z
    refine ⟨s1.heap.objs.size + 1, [s1.heap.objs.size + 1, s1.heap.objs.size], _, _, H1, rfl, I2, turn_enumT a (s1.heap.objs.size + 1) s1.heap.objs.size, ⟨⟨.none, en⟩, ti, Nat.succ_ne_self _, Nat.ne_of_gt (Nat.lt_succ_of_lt la), Nat.ne_of_lt la⟩, fun b hb => ?_, q⟩
    have lb : s1.heap.objs.size ≤ b := by
      rcases (show b = s1.heap.objs.size + 1 ∨ b = s1.heap.objs.size by simpa using hb) with rfl | rfl
      · exact Nat.le_add_right _ _
      · exact Nat.le_refl _
    exact I1.fpOk lb (I1.hok.fresh lb)
theorem walk_enumT {K : PySem.W.Frag} {a : Addr} {xs : List V} : Walk (IteT K a) xs.length (fun H => SqT K H a xs) (YPair (fun i => some (.int (i : Nat))) (fun i => xs[i]?)) := by
  refine ⟨fun i H hi g => ?_, fun H g => ⟨xs, g, rfl⟩, fun i H v H' hi g y => ?_⟩
  · exact ⟨xs, xs[i], g, List.getElem?_eq_getElem hi⟩
  · obtain ⟨p, x, e1, e2, e3, e4⟩ := y
    exact ⟨p, _, x, e1, e2, e3, rfl, e4 xs g⟩
end K0

namespace SrtO
open PySem PyProof.Rows Srt
section
variable {prog : Program} {w : World} {A : Around} {E : Value → Shared → Prop} {s : Shared}
/-- a tuple of a text and something -/
def IsTx (h : Heap) (v : Value) (x : PySem.Str) : Prop := ∃ a o t u n, v = .ref a ∧ h.get? a = some o ∧ o.cls = .type "tuple" ∧ o.data = .seq #[.str x t, u] n
theorem IsTx.keeps {h h' : Heap} {v : Value} {x : PySem.Str} (p : IsTx h v x) (k : ∀ b o, h.get? b = some o → o.cls = .type "tuple" → h'.get? b = some o) : IsTx h' v x := by
  obtain ⟨a, o, t, u, n, e, g1, g2, g3⟩ := p
  exact ⟨a, o, t, u, n, e, k _ _ g1 g2, g2, g3⟩
def lessB (x y : PySem.Str) : Bool := decide (x.cps.toList < y.cps.toList)
theorem swo_tx {α : Type} (k : α → PySem.Str) : Swo fun v u => lessB (k v) (k u) := by
  refine ⟨fun x y h => ?_, fun x y z h1 h2 => ?_⟩
  · exact decide_eq_false fun q => List.lt_asymm (of_decide_eq_true h) q
  · refine decide_eq_false fun q => ?_
    have a : (k x).cps.toList ≤ (k y).cps.toList := of_decide_eq_false h1
    have b : (k y).cps.toList ≤ (k z).cps.toList := of_decide_eq_false h2
    exact List.le_trans a b q
theorem tx_cmp {vs : List Value} {k : Value → PySem.Str} (hp : ∀ v ∈ vs, IsTx s.heap v (k v)) (hi : ∀ v ∈ vs, ∀ u ∈ vs, k v = k u → v = u) : Cmp prog w A s (tuples' true) (fun p => p.1 ∈ vs) (lt2 fun v u => lessB (k v) (k u)) := by
  intro p q m1 m2
  have i1 := hi _ m1 _ m2
  show wpAny (model prog w) A (keyLt' (tuples' true) p.1 q.1) (fun r s' => s' = s ∧ r = lessB (k p.1) (k q.1)) (fun _ _ => False) s
  obtain ⟨a, o, t, u, n, e, g1, g2, g3⟩ := hp _ m1
  obtain ⟨a', o', t', u', n', e', g1', g2', g3'⟩ := hp _ m2
  have sameV : k p.1 = k q.1 → a = a' := fun z => by
    have := i1 z
    rw [e, e'] at this
    exact Value.ref.inj this
  generalize k p.1 = x at g3 sameV ⊢
  generalize k q.1 = y at g3' sameV ⊢
  rw [e, e']
  refine PySem.W.kat_lt g1 g3 g1' g3' ?_
  show PySem.W.KatLex prog w A true (decide (2 < 2)) _ [(.str x t, .str y t'), (u, u')] 0 s
  refine PySem.W.kat_cons (SeqAt.EqAt.str_str x t y t' prog w _ _ ?_)
  refine PySem.W.kat_go (fun c => ?_) (fun c => ?_)
  · have xy : x = y := by simpa using c
    have aa := sameV xy
    subst aa
    rw [g1] at g1'
    cases g1'
    rw [g3] at g3'
    injection g3' with z1 z2
    have uu : u = u' := by
      have := congrArg (fun l => l[1]?) z1
      simpa using this
    subst uu
    refine PySem.W.kat_yes (PySem.W.kat_cons (SeqAt.EqAt.same u prog w _ _ ?_))
    refine PySem.W.kat_go (fun _ => ?_) (fun z => by cases z)
    refine PySem.W.kat_yes (PySem.W.kat_nil ⟨rfl, ?_⟩)
    rw [xy]
    exact (decide_eq_false (List.lt_irrefl _)).symm
  · exact PySem.W.kat_no (PyProof.Rows.oneLt_str ⟨rfl, rfl⟩)
theorem tx_firsts {h : Heap} {k : Value → PySem.Str} : ∀ {vs : List Value}, (∀ v ∈ vs, IsTx h v (k v)) → ∃ fs : List Value, PySem.W.KatTups h vs fs ∧ fs.length = vs.length ∧ ∀ f ∈ fs, ∃ x t, f = Value.str x t
  | [], _ => ⟨[], .nil, rfl, fun f hf => by cases hf⟩
  | v :: vs, hp => by
    obtain ⟨fs, r1, r2, r3⟩ := tx_firsts (vs := vs) fun u hu => hp u (List.mem_cons_of_mem _ hu)
    obtain ⟨a, o, t, u, n, e, g1, g2, g3⟩ := hp v (List.mem_cons_self ..)
    rw [e] at g3 ⊢
    refine ⟨.str (k (.ref a)) t :: fs, .cons g1 g2 g3 rfl r1, by rw [List.length_cons, List.length_cons, r2], fun f hf => ?_⟩
    rcases List.mem_cons.mp hf with rfl | hf
    · exact ⟨_, _, rfl⟩
    · exact r3 f hf
theorem tx_sortable {a : Addr} {vs : List Value} {k : Value → PySem.Str} (h0 : 0 < vs.length) (hp : ∀ v ∈ vs, IsTx s.heap v (k v)) (hi : ∀ v ∈ vs, ∀ u ∈ vs, k v = k u → v = u) (ha : ∀ o, s.heap.get? a = some o → o.cls ≠ .type "tuple") :
    SortableO prog w A s a vs fun v u => lessB (k v) (k u) := by
  intro h' kp
  have hp' : ∀ v ∈ vs, IsTx h' v (k v) := fun v hv => (hp v hv).keeps fun b o e c => kp b o (fun z => ha o (z ▸ e) c) e
  obtain ⟨fs, r1, r2, r3⟩ := tx_firsts hp'
  refine ⟨tuples' true, fun Q E hq => ?_, tx_cmp hp' hi⟩
  refine PySem.W.kat_kind (T := .type "str") r1 (by omega) (fun f hf => ?_) (by rfl) ?_
  · obtain ⟨x, t, rfl⟩ := r3 f hf
    exact PySem.W.Looks.now
  · rw [show (Value.type "str" != Value.type "tuple") = true by first | decide +kernel | rfl]
    exact hq
end
end SrtO
namespace K0
open PySem PySem.Spec PyProof.Rows L2 Evl
/-- sorted(xs) of tuples whose first members are unlike texts -/
def rSortedTx (K : PySem.W.Frag) : List V → Hp → VK → Prop := fun vs H Q => ∃ (a : Addr) (xs : List V) (k : V → Str), vs = [V.ref a] ∧ SqL K H a xs ∧ (∀ x ∈ xs, ∃ t y, x = V.ref t ∧ SqT K H t [.str (k x), y]) ∧
  (∀ x ∈ xs, ∀ y ∈ xs, k x = k y → x = y) ∧ ∀ ys p, ys.Perm xs → ys.Pairwise (fun x y => SrtO.lessB (k y) (k x) = false) → H p = none → Q (.ref p) (upd H p (.lst ys))
section
variable {X : Cx}
theorem cr_sortedTx : CallR X (.builtin "sorted") (rSortedTx X.K) := by
  intro pins s σ H vs us Q I r h
  obtain ⟨a, xs, k, rfl, hs, hx, hi, q⟩ := h
  obtain ⟨its, rv, hl, hz⟩ := I.list hs
  obtain ⟨u, rfl, ru⟩ := vals1 r
  obtain rfl : u = Value.ref a := ru
  obtain ⟨e1, e2⟩ := refs_back rv fun x m => by
    obtain ⟨t, _, e, _⟩ := hx x m
    exact ⟨t, e⟩
  have tx : ∀ v ∈ its, SrtO.IsTx s.heap v (k (backV v)) := fun v hv => by
    obtain ⟨t, rfl⟩ := e2 v hv
    have hm : V.ref t ∈ xs := by
      rw [e1]
      exact List.mem_map.mpr ⟨_, hv, rfl⟩
    obtain ⟨t', y, e, ht⟩ := hx _ hm
    cases e
    obtain ⟨its2, r2, ⟨o, ho, hc, n, hd⟩, _⟩ := I.tuple ht
    obtain ⟨u1, u2, rfl, ri, rj⟩ := vals2 r2
    obtain ⟨t1, rfl⟩ := ri
    exact ⟨t, o, t1, u2, n, rfl, ho, hc, hd⟩
  have inj : ∀ v ∈ its, ∀ u ∈ its, k (backV v) = k (backV u) → v = u := fun v hv u hu z => by
    obtain ⟨t, rfl⟩ := e2 v hv
    obtain ⟨t', rfl⟩ := e2 u hu
    have m1 : V.ref t ∈ xs := by
      rw [e1]
      exact List.mem_map.mpr ⟨_, hv, rfl⟩
    have m2 : V.ref t' ∈ xs := by
      rw [e1]
      exact List.mem_map.mpr ⟨_, hu, rfl⟩
    have := hi _ m1 _ m2 z
    cases this
    rfl
  refine SrtO.sorted_ord (SrtO.swo_tx fun v => k (backV v)) hl.isList (by rw [← rv.length]; exact hz) (fun h2 h1 b ha kk => ?_) fun out o1 o2 => ?_
  · refine SrtO.tx_sortable (s := { s with heap := h1 }) (by omega) (fun v hv => (tx v hv).keeps fun b o e _ => (kk b o e).2) inj fun o e c => ?_
    have z : some o = some (PyProof.Rows.seqObj "list" its.toArray 0) := e.symm.trans ha
    cases z
    exact absurd (Value.type.inj c) (by decide)
  · have hout : ∀ u ∈ out, ∃ a, u = Value.ref a := fun u hu => e2 u (o2.perm.mem_iff.mp hu)
    obtain ⟨n, hn⟩ := PyProof.Rows.sortedAll_at s.heap its out.toArray
    have pm : (out.map backV).Perm xs := by
      rw [e1]
      exact o2.perm.map _
    refine ⟨.ref _, upd H (s.heap.objs.size + 1) (.lst (out.map backV)), I.laid (t' := s.toks) (fun b o e => PyProof.Rows.sortedAll_old e) (Nat.le_succ _) ⟨?_, out, n, vals_back hout, hn⟩, rfl, q _ _ pm (List.pairwise_map.mpr o1) (I.hok.fresh (Nat.le_succ _))⟩
    rw [pm.length_eq]
    exact hz
end
end K0

namespace K0
open PySem L2 Evl
/-! ### pairs: a dict from texts to ints and texts -/
def D.isAt : D → Bool
  | .int _ => true | .str _ => true | _ => false
/-- an int or a text as a value -/
def atV : D → V
  | .int i => .int i | .str s => .str s | _ => .non
theorem atV_inj {d e : D} (h1 : d.isAt = true) (h2 : e.isAt = true) (h : atV d = atV e) : d = e := by
  cases d <;> cases e <;> first | (cases h1; done) | (cases h2; done) | (simp only [atV, V.int.injEq, V.str.injEq, reduceCtorEq] at h; first | done | rw [h])
theorem atV_flat {d : D} (h : d.isAt = true) : flatB (atV d) = true := by cases d <;> first | rfl | cases h
theorem atV_rp {K : PySem.W.Frag} {H : Hp} {d : D} (h : d.isAt = true) : Rp K H (atV d) d := by cases d <;> first | exact .int _ | exact .str _ | cases h
theorem rp_atV {K : PySem.W.Frag} {H : Hp} {d : D} {v : V} (h : d.isAt = true) (r : Rp K H v d) : v = atV d := by cases r <;> first | rfl | cases h
abbrev Ps := List (Str × D)
def kv1 (p : Str × D) : Key × V := (Sum.inr p.1, atV p.2)
def kv (ps : Ps) : List (Key × V) := ps.map kv1
def lookP (ps : Ps) (k : Str) : Option D := (ps.find? fun p => decide (p.1 = k)).map (·.2)
def dropP (ps : Ps) (k : Str) : Ps := ps.filter fun p => decide (p.1 ≠ k)
def hasP (ps : Ps) (k : Str) : Bool := ps.any fun p => decide (p.1 = k)
def putP (ps : Ps) (k : Str) (d : D) : Ps := if hasP ps k = true then ps.map (fun p => if p.1 = k then (p.1, d) else p) else ps ++ [(k, d)]
theorem inr_iff {a b : Str} : ((Sum.inr a : Key) = Sum.inr b) ↔ a = b := ⟨fun h => by injection h, fun h => by rw [h]⟩
theorem val_kv : ∀ (ps : Ps) (k : Str), valV (kv ps) (.inr k) = (lookP ps k).map atV
  | [], k => rfl
  | p :: r, k => by
    have ih := val_kv r k
    by_cases c : p.1 = k
    · rw [show kv (p :: r) = kv1 p :: kv r from rfl, valV_pos (inr_iff.mpr c)]
      simp [lookP, List.find?_cons, c, kv1]
    · rw [show kv (p :: r) = kv1 p :: kv r from rfl, valV_neg (fun z => c (inr_iff.mp z)), ih]
      simp [lookP, List.find?_cons, c]
theorem look_has (ps : Ps) (k : Str) : (lookP ps k).isSome = hasP ps k := by
  induction ps with
  | nil => rfl
  | cons p r ih =>
    by_cases c : p.1 = k
    · simp [lookP, hasP, List.find?_cons, c]
    · simp only [lookP, hasP, List.find?_cons, List.any_cons] at ih ⊢
      rw [decide_eq_false c]
      simpa using ih
theorem drop_kv (ps : Ps) (k : Str) : dropK (kv ps) (.inr k) = kv (dropP ps k) := by
  unfold dropK dropP kv
  rw [List.filter_map]
  congr 1
  refine congrArg (fun f => List.filter f ps) (funext fun p => ?_)
  show decide ((Sum.inr p.1 : Key) ≠ Sum.inr k) = decide (p.1 ≠ k)
  exact decide_eq_decide.mpr (not_congr inr_iff)
theorem put_kv (ps : Ps) (k : Str) (d : D) : putK (kv ps) (.inr k) (atV d) = kv (putP ps k d) := by
  unfold putK putP
  have e : ((kv ps).any fun q => decide (q.1 = (Sum.inr k : Key))) = hasP ps k := by
    unfold kv hasP
    rw [List.any_map]
    refine congrArg (fun f => List.any ps f) (funext fun p => ?_)
    exact decide_eq_decide.mpr inr_iff
  rw [e]
  by_cases c : hasP ps k = true
  · rw [if_pos c, if_pos c]
    unfold kv
    rw [List.map_map, List.map_map]
    refine congrArg (fun f => List.map f ps) (funext fun p => ?_)
    by_cases z : p.1 = k
    · show (if (Sum.inr p.1 : Key) = Sum.inr k then _ else _) = kv1 (if p.1 = k then _ else _)
      rw [if_pos (inr_iff.mpr z), if_pos z]
      rfl
    · show (if (Sum.inr p.1 : Key) = Sum.inr k then _ else _) = kv1 (if p.1 = k then _ else _)
      rw [if_neg (fun q => z (inr_iff.mp q)), if_neg z]
  · rw [if_neg c, if_neg c]
    unfold kv
    rw [List.map_append]
    rfl
def keysP (ps : Ps) : List Str := ps.map (·.1)
def NoTwo (ps : Ps) : Prop := (keysP ps).Nodup
theorem look_mem {ps : Ps} {k : Str} {d : D} (h : lookP ps k = some d) : (k, d) ∈ ps := by
  unfold lookP at h
  cases z : ps.find? (fun p => decide (p.1 = k)) with
  | none => rw [z] at h; cases h
  | some p =>
    rw [z] at h
    have h1 := List.mem_of_find?_eq_some z
    have h2 : p.1 = k := of_decide_eq_true (List.find?_some (p := fun p : Str × D => decide (p.1 = k)) z)
    cases h
    rw [← h2]
    exact h1
theorem mem_look : ∀ {ps : Ps} {k : Str} {d : D}, NoTwo ps → (k, d) ∈ ps → lookP ps k = some d
  | p :: r, k, d, n, h => by
    unfold NoTwo keysP at n
    rw [List.map_cons, List.nodup_cons] at n
    rcases List.mem_cons.mp h with rfl | h
    · simp [lookP, List.find?_cons]
    · have c : p.1 ≠ k := fun z => n.1 (by rw [z]; exact List.mem_map.mpr ⟨(k, d), h, rfl⟩)
      have ih := mem_look (ps := r) n.2 h
      unfold lookP at ih ⊢
      rw [List.find?_cons, decide_eq_false c]
      exact ih
theorem NoTwo.perm {ps qs : Ps} (h : qs.Perm ps) (n : NoTwo ps) : NoTwo qs := (List.Perm.map (fun p : Str × D => p.1) h).nodup_iff.mpr n
theorem look_perm {ps qs : Ps} (h : qs.Perm ps) (n : NoTwo ps) (k : Str) : lookP qs k = lookP ps k := by
  cases z : lookP ps k with
  | some d => exact mem_look (n.perm h) (h.mem_iff.mpr (look_mem z))
  | none =>
    cases y : lookP qs k with
    | none => rfl
    | some d =>
      rw [mem_look n (h.mem_iff.mp (look_mem y))] at z
      cases z
theorem drop_perm {ps qs : Ps} (h : qs.Perm ps) (k : Str) : (dropP qs k).Perm (dropP ps k) := h.filter _
theorem put_perm {ps qs : Ps} (h : qs.Perm ps) (n : NoTwo ps) (k : Str) (d : D) : (putP qs k d).Perm (putP ps k d) := by
  have e : hasP qs k = hasP ps k := by rw [← look_has, ← look_has, look_perm h n]
  unfold putP
  rw [e]
  by_cases c : hasP ps k = true
  · rw [if_pos c, if_pos c]
    exact h.map _
  · rw [if_neg c, if_neg c]
    exact h.append_right _
theorem has_mem {ps : Ps} {k : Str} : hasP ps k = true ↔ k ∈ keysP ps := by
  unfold hasP keysP
  rw [List.any_eq_true, List.mem_map]
  constructor
  · rintro ⟨p, hp, e⟩
    exact ⟨p, hp, of_decide_eq_true e⟩
  · rintro ⟨p, hp, e⟩
    exact ⟨p, hp, decide_eq_true e⟩
theorem put_keys (ps : Ps) (k : Str) (d : D) : keysP (putP ps k d) = if hasP ps k = true then keysP ps else keysP ps ++ [k] := by
  unfold putP
  split
  · unfold keysP
    rw [List.map_map]
    refine congrArg (fun f => List.map f ps) (funext fun p => ?_)
    show (if p.1 = k then (p.1, d) else p).1 = p.1
    split <;> rfl
  · unfold keysP
    rw [List.map_append]
    rfl
theorem NoTwo.put {ps : Ps} (n : NoTwo ps) (k : Str) (d : D) : NoTwo (putP ps k d) := by
  unfold NoTwo
  rw [put_keys]
  split
  · exact n
  · rename_i c
    rw [List.nodup_append]
    refine ⟨n, by simp, fun a ha b hb => ?_⟩
    rw [List.mem_singleton.mp hb]
    intro z
    exact c (has_mem.mpr (z ▸ ha))
theorem NoTwo.drop {ps : Ps} (n : NoTwo ps) (k : Str) : NoTwo (dropP ps k) := by
  unfold NoTwo keysP dropP
  exact List.Nodup.sublist (List.Sublist.map _ List.filter_sublist) n
theorem drop_no {ps : Ps} {k : Str} (h : hasP ps k = false) : dropP ps k = ps := by
  unfold dropP
  refine List.filter_eq_self.mpr fun p hp => ?_
  refine decide_eq_true fun z => ?_
  have : hasP ps k = true := List.any_eq_true.mpr ⟨p, hp, decide_eq_true z⟩
  rw [h] at this
  cases this
/-- put in its place is put behind the others -/
theorem put_end : ∀ {ps : Ps}, NoTwo ps → ∀ (k : Str) (d : D), (dropP ps k ++ [(k, d)]).Perm (putP ps k d)
  | ps, n, k, d => by
    by_cases c : hasP ps k = true
    · unfold putP
      rw [if_pos c]
      have key : ∀ qs : Ps, NoTwo qs → k ∈ keysP qs → (dropP qs k ++ [(k, d)]).Perm (qs.map fun p => if p.1 = k then (p.1, d) else p) := by
        intro qs
        induction qs with
        | nil =>
          intro _ z
          cases z
        | cons p r ih =>
          intro nn z
          unfold NoTwo keysP at nn
          rw [List.map_cons, List.nodup_cons] at nn
          by_cases q : p.1 = k
          · have hr : hasP r k = false := by
              cases y : hasP r k with
              | false => rfl
              | true => exact absurd (has_mem.mp y) (q ▸ nn.1)
            have e1 : dropP (p :: r) k = r := by
              have : dropP (p :: r) k = dropP r k := by
                unfold dropP
                rw [List.filter_cons, if_neg (by simp [q])]
              rw [this, drop_no hr]
            have e2 : (r.map fun p => if p.1 = k then (p.1, d) else p) = r := by
              have : ∀ x ∈ r, (if x.1 = k then (x.1, d) else x) = x := fun x hx => by
                rw [if_neg]
                intro w
                have : hasP r k = true := List.any_eq_true.mpr ⟨x, hx, decide_eq_true w⟩
                rw [hr] at this
                cases this
              rw [List.map_congr_left this, List.map_id'']
              intro x
              rfl
            rw [e1, List.map_cons, if_pos q, e2, q]
            exact List.perm_append_singleton _ _
          · have z' : k ∈ keysP r := by
              rcases List.mem_cons.mp z with w | w
              · exact absurd w.symm q
              · exact w
            have e1 : dropP (p :: r) k = p :: dropP r k := by
              unfold dropP
              rw [List.filter_cons, if_pos (by simp [q])]
            rw [e1, List.map_cons, if_neg q]
            exact (ih nn.2 z').cons p
      exact key ps n (has_mem.mp c)
    · unfold putP
      rw [if_neg c, drop_no (by cases y : hasP ps k <;> first | rfl | exact absurd y c)]
end K0

namespace K0
open PySem L2 Evl
/-! ### pairs in the heap -/
def AllAt (ps : Ps) : Prop := ∀ p ∈ ps, p.2.isAt = true
/-- at a a dict with these pairs, in whatever order -/
def PairsAt (H : Hp) (a : Addr) (ps : Ps) : Prop := ∃ qs : Ps, qs.Perm ps ∧ NoTwo ps ∧ AllAt ps ∧ H a = some (.dK (kv qs))
theorem AllAt.perm {ps qs : Ps} (h : qs.Perm ps) (n : AllAt ps) : AllAt qs := fun p hp => n p (h.mem_iff.mp hp)
theorem AllAt.put {ps : Ps} (n : AllAt ps) {k : Str} {d : D} (h : d.isAt = true) : AllAt (putP ps k d) := fun p hp => by
  unfold putP at hp
  split at hp
  · obtain ⟨q, hq, rfl⟩ := List.mem_map.mp hp
    split
    · exact h
    · exact n q hq
  · rcases List.mem_append.mp hp with hp | hp
    · exact n p hp
    · rw [List.mem_singleton.mp hp]
      exact h
theorem AllAt.drop {ps : Ps} (n : AllAt ps) (k : Str) : AllAt (dropP ps k) := fun p hp => n p (List.mem_filter.mp hp).1
theorem PairsAt.ex {H H' : Hp} {a : Addr} {ps : Ps} (e : Ex H H') (h : PairsAt H a ps) : PairsAt H' a ps := let ⟨qs, p, n, z, g⟩ := h; ⟨qs, p, n, z, e _ _ g⟩
theorem PairsAt.exT {H H' : Hp} {a : Addr} {ps : Ps} (e : ExT H H') (h : PairsAt H a ps) : PairsAt H' a ps := let ⟨qs, p, n, z, g⟩ := h; ⟨qs, p, n, z, e _ _ g (fun _ z => by cases z)⟩
theorem PairsAt.perm {H : Hp} {a : Addr} {ps qs : Ps} (h : PairsAt H a ps) (p : ps.Perm qs) : PairsAt H a qs := let ⟨rs, p', n, z, g⟩ := h; ⟨rs, p'.trans p, n.perm p.symm, z.perm p.symm, g⟩
theorem PairsAt.no {H : Hp} {a : Addr} {ps : Ps} (h : PairsAt H a ps) : NoTwo ps := let ⟨_, _, n, _⟩ := h; n
theorem PairsAt.at_ {H : Hp} {a : Addr} {ps : Ps} (h : PairsAt H a ps) : AllAt ps := let ⟨_, _, _, z, _⟩ := h; z
theorem pairs_at {H : Hp} {a : Addr} {ps : Ps} (n : NoTwo ps) (z : AllAt ps) (g : H a = some (.dK (kv ps))) : PairsAt H a ps := ⟨ps, .refl _, n, z, g⟩
theorem PairsAt.ne {H : Hp} {a p : Addr} {ps : Ps} (h : PairsAt H a ps) (hp : H p = none) : a ≠ p := let ⟨_, _, _, _, g⟩ := h; ne_of_none g hp
theorem kv_len (ps : Ps) : (kv ps).length = ps.length := List.length_map ..
/-- what a key holds, None for none -/
def gotV (ps : Ps) (k : Str) (z : V) : V := ((lookP ps k).map atV).getD z
section
variable {K : PySem.W.Frag} {σ : L2.St} {H H' : Hp} {td ty tx te ta : TE} {z : V} {a : Addr} {ps : Ps} {k : Str} {D : Ends} {tz : TS} {Q : VK}
theorem dget_of (h : PairsAt H a ps) (k : Str) : DGet H a (.str k) ((lookP ps k).map atV) := by
  obtain ⟨qs, p, n, _, g⟩ := h
  rw [← look_perm p n, ← val_kv]
  exact .inl ⟨_, _, .inl g, rfl, rfl⟩
theorem isd_of (h : PairsAt H a ps) : IsD H a := let ⟨_, _, _, _, g⟩ := h; .inl ⟨_, .inl g⟩
theorem ev_pget1 (h : Ev td σ H (.ref a)) (hk : Ev ty σ H (.str k)) (hp : PairsAt H a ps) : Ev (tDGet1 td ty) σ H (gotV ps k .non) := fun H1 e Q q =>
  h H1 e _ fun H2 e2 => ⟨a, rfl, isd_of (hp.ex (e.trans e2)), hk H2 (e.trans e2) _ fun H3 e3 => ⟨_, dget_of (hp.ex ((e.trans e2).trans e3)) k, q H3 (e2.trans e3)⟩⟩
theorem ev_pget2 (h : Ev td σ H (.ref a)) (hk : Ev ty σ H (.str k)) (hz : Ev tx σ H z) (hp : PairsAt H a ps) : Ev (tDGet2 td ty tx) σ H (gotV ps k z) := fun H1 e Q q =>
  h H1 e _ fun H2 e2 => ⟨a, rfl, isd_of (hp.ex (e.trans e2)), hk H2 (e.trans e2) _ fun H3 e3 => hz H3 ((e.trans e2).trans e3) _ fun H4 e4 =>
    ⟨_, dget_of (hp.ex (((e.trans e2).trans e3).trans e4)) k, q H4 ((e2.trans e3).trans e4)⟩⟩
theorem ev_pitem {d : K0.D} (h : Ev td σ H (.ref a)) (hk : Ev ty σ H (.str k)) (hp : PairsAt H a ps) (hl : lookP ps k = some d) : Ev (tDGet td ty) σ H (atV d) := fun H1 e Q q =>
  h H1 e _ fun H2 e2 => hk H2 (e.trans e2) _ fun H3 e3 => ⟨a, atV d, rfl, by
    have := dget_of (hp.ex ((e.trans e2).trans e3)) k
    rw [hl] at this
    exact this, q H3 (e2.trans e3)⟩
theorem ev_pnotin (hk : Ev ty σ H (.str k)) (h : Ev td σ H (.ref a)) (hp : PairsAt H a ps) : Ev (tDNotIn ty td) σ H (.bl (!hasP ps k)) := fun H1 e Q q =>
  hk H1 e _ fun H2 e2 => h H2 (e.trans e2) _ fun H3 e3 => ⟨a, _, rfl, dget_of (hp.ex ((e.trans e2).trans e3)) k, by
    rw [Option.isSome_map, look_has]
    exact q H3 (e2.trans e3)⟩
theorem ev_pin (hk : Ev ty σ H (.str k)) (h : Ev td σ H (.ref a)) (hp : PairsAt H a ps) : Ev (tDIn ty td) σ H (.bl (hasP ps k)) := fun H1 e Q q =>
  hk H1 e _ fun H2 e2 => h H2 (e.trans e2) _ fun H3 e3 => ⟨a, _, rfl, dget_of (hp.ex ((e.trans e2).trans e3)) k, by
    rw [Option.isSome_map, look_has]
    exact q H3 (e2.trans e3)⟩
def rLenP : List V → Hp → VK → Prop := fun xs H Q => ∃ a kvs, xs = [V.ref a] ∧ H a = some (.dK kvs) ∧ Q (.int kvs.length) H
theorem rc_lenP (hp : PairsAt H a ps) : RC rLenP [.ref a] H (.int (ps.length : Nat)) := fun H1 e Q q => by
  obtain ⟨qs, p, n, _, g⟩ := hp
  refine ⟨a, _, rfl, e _ _ g, ?_⟩
  rw [kv_len, p.length_eq]
  exact q H1 (Ex.refl _)
/-- isinstance(d, dict) -/
theorem rc_isDict (hp : PairsAt H a ps) : RC (rIsi K) [.ref a, .ty "dict"] H (.bl true) := fun H1 e Q q => by
  obtain ⟨qs, p, n, _, g⟩ := hp
  exact ⟨_, _, _, _, _, rfl, .ty _, .base (.dK (e _ _ g)), kit_ty (by decide +kernel), q H1 (Ex.refl _)⟩
/-! what evaluates to pairs -/
def EvP (te : TE) (σ : L2.St) (H : Hp) (ps : Ps) : Prop := ∀ H1, Ex H H1 → ∀ Q : VK, (∀ p H2, Ex H1 H2 → PairsAt H2 p ps → Q (.ref p) H2) → te σ H1 Q
theorem ep_ev (h : Ev te σ H (.ref a)) (hp : PairsAt H a ps) : EvP te σ H ps := fun H1 e Q q => h H1 e Q fun H2 e2 => q a H2 e2 (hp.ex (e.trans e2))
def RetP (ps : Ps) (H : Hp) (Q : VK) : Prop := ∀ p H', Ex H H' → PairsAt H' p ps → Q (.ref p) H'
theorem p_ret (h : EvP te σ H ps) (k : ∀ p H1, Ex H H1 → PairsAt H1 p ps → D.rt (.ref p) H1) : tRet te D σ H := h H (Ex.refl H) _ k
theorem q_asgP {i : Nat} (h : EvP te σ H ps) (k : ∀ p H1, Ex H H1 → PairsAt H1 p ps → tz D (σ.set i (some (.ref p))) H1) : tSeq (tAsg te (gName i)) tz D σ H := h H (Ex.refl H) _ k
theorem s_asgP {i : Nat} (h : EvP te σ H ps) (k : ∀ p H1, Ex H H1 → PairsAt H1 p ps → D.nx (σ.set i (some (.ref p))) H1) : tAsg te (gName i) D σ H := h H (Ex.refl H) _ k
/-- d = dict(pairs) -/
def rCopyP : List V → Hp → VK → Prop := fun xs H Q => ∃ (a : Addr) (kvs : List (Key × V)), xs = [.ref a] ∧ Rd H a (.dK kvs) ∧ ∀ p, H p = none → Q (.ref p) (upd H p (.dK kvs))
theorem q_copyP {i : Nat} (h : Ev td σ H (.ref a)) (hp : PairsAt H a ps) (k : ∀ p qs H1, H p = none → Ex H H1 → H1 p = some (.dK (kv qs)) → qs.Perm ps → tz D (σ.set i (some (.ref p))) H1) :
    tSeq (tAsg (tCB rCopyP (tCons td tNil)) (gName i)) tz D σ H := h H (Ex.refl H) _ fun H1 e => by
  obtain ⟨qs, p, n, _, g⟩ := hp
  exact ⟨a, _, rfl, .inl (e _ _ g), fun q hq => k q qs _ (fresh_back e hq) (e.trans (Ex.new hq)) upd_same p⟩
/-- d[k] = v on an own dict -/
theorem s_putP {tv : TE} {d : Addr} {qs : Ps} {w : K0.D} (hd : H d = some (.dK (kv qs))) (hv : Ev tv σ H (atV w)) (ho : Ev td σ H (.ref d)) (hk : Ev ty σ H (.str k)) (hl : qs.length < 100000)
    (c : ∀ H1, Ex H H1 → D.nx σ (upd H1 d (.dK (kv (putP qs k w))))) : sDPut td ty tv D σ H :=
  hv H (Ex.refl H) _ fun H1 e1 => ho H1 e1 _ fun H2 e2 => hk H2 (e1.trans e2) _ fun H3 e3 => by
    have e := (e1.trans e2).trans e3
    refine ⟨d, _, rfl, .inl ⟨_, .inr k, e _ _ hd, rfl, by rw [kv_len]; exact sz_lt hl, rfl⟩, ?_⟩
    rw [put_kv]
    exact c H3 e
/-- d.pop(k, None) on an own dict -/
theorem s_popP {d : Addr} {qs : Ps} (hd : H d = some (.dK (kv qs))) (ho : Ev td σ H (.ref d)) (hk : Ev ty σ H (.str k)) (hx : Ev tx σ H z)
    (c : ∀ H1, Ex H H1 → D.nx σ (upd H1 d (.dK (kv (dropP qs k))))) : tDrop (tDPop2 td ty tx) D σ H :=
  ho H (Ex.refl H) _ fun H1 e1 => ⟨d, rfl, .inl ⟨_, .inl (e1 _ _ hd)⟩, hk H1 e1 _ fun H2 e2 => hx H2 (e1.trans e2) _ fun H3 e3 => by
    have e := (e1.trans e2).trans e3
    refine ⟨_, .inr k, e _ _ hd, rfl, fun v hv => ?_, fun hv => ?_⟩
    · show D.nx σ (upd H3 d (.dK (dropK (kv qs) (.inr k))))
      rw [drop_kv]
      exact c H3 e
    · have hn : hasP qs k = false := by
        rw [val_kv] at hv
        rw [← look_has]
        cases z : lookP qs k <;> rw [z] at hv <;> first | rfl | cases hv
      have := c H3 e
      rw [drop_no hn] at this
      have same : upd H3 d (.dK (kv qs)) = H3 := by
        funext b
        by_cases w : b = d
        · subst w
          rw [upd_same, e _ _ hd]
        · rw [upd_ne w]
      rw [same] at this
      exact this⟩
end
/-! ### dicts that are equal -/
theorem val_of_perm {ps qs rs : Ps} (hq : qs.Perm ps) (hr : rs.Perm ps) (n : NoTwo ps) (z : AllAt ps) : (kv qs).length = (kv rs).length ∧ ∀ p ∈ kv qs, valV (kv rs) p.1 = some p.2 ∧ flatB p.2 = true := by
  refine ⟨by rw [kv_len, kv_len, hq.length_eq, hr.length_eq], fun p hp => ?_⟩
  obtain ⟨q, hm, rfl⟩ := List.mem_map.mp hp
  have hm' : q ∈ ps := hq.mem_iff.mp hm
  refine ⟨?_, atV_flat (z q hm')⟩
  show valV (kv rs) (.inr q.1) = some (atV q.2)
  rw [val_kv, mem_look (n.perm hr) (hr.mem_iff.mpr hm')]
  rfl
theorem sam_pairs {K : PySem.W.Frag} {H : Hp} {n : Nat} {a b : Addr} {ps : Ps} (h1 : PairsAt H a ps) (h2 : PairsAt H b ps) : Sam K H (n + 1) (.ref a) (.ref b) := by
  obtain ⟨qs, p1, n1, z1, g1⟩ := h1
  obtain ⟨rs, p2, _, _, g2⟩ := h2
  obtain ⟨l, f⟩ := val_of_perm p1 p2 n1 z1
  exact .dict g1 g2 l f
theorem sam_data {K : PySem.W.Frag} {H : Hp} {n m : Nat} {x y : V} {d : D} (h1 : Rp K H x d) (h2 : Rp K H y d) (f : d.fine m = true) (l : m ≤ n) : Sam K H n x y :=
  .data (h1.dp (fine_c f)) (h2.dp (fine_c f)) (fine_l f) (fine_l f) (Nat.le_trans (fine_d f) l) (eqv_self d (fine_c f))
/-- two tuples, of equal pairs and the same data -/
theorem sam_pa {K : PySem.W.Frag} {H : Hp} {n m : Nat} {t u p q : Addr} {x y : V} {ps : Ps} {d : D} (ht : SqT K H t [.ref p, x]) (hu : SqT K H u [.ref q, y]) (hp : PairsAt H p ps) (hq : PairsAt H q ps) (hx : Rp K H x d) (hy : Rp K H y d)
    (f : d.fine m = true) (l : m ≤ n + 1) : Sam K H (n + 2) (.ref t) (.ref u) := by
  refine .tup ht hu rfl fun j v w hv hw => ?_
  match j with
  | 0 =>
    cases hv
    cases hw
    exact sam_pairs hp hq
  | 1 =>
    cases hv
    cases hw
    exact sam_data hx hy f l
  | j + 2 => cases hv
end K0

namespace K0
open PySem PySem.Spec PyProof.Rows L2 Evl
/-! ### a call of a local name that holds one of several defs -/
def tCallS (i : Nat) (SS : List (Addr × Sp)) (t : TA) : TE := fun σ H Q => ∃ p ∈ SS, σ[i]? = some (some (.ref p.1)) ∧ t σ H fun vs H1 => p.2 vs H1 Q fun _ _ _ => False
section
variable {X : Cx} {k i : Nat} {x : Str} {p pos : Pos} {e : Expr} {es : List Expr} {t : TA}
theorem pe_callS {SS : List (Addr × Sp)} (A : ∀ q ∈ SS, Held X.prog X.w X.K X.mg X.base k q.1 q.2) (hr : Room k X.A) (hN : X.N[i]? = some x) (hv : Vis X.env.scope x) (ha : PA X (e :: es) t)
    (d1 : (x == ("__debug__" : Str)) = false := by decide) (d2 : (x == ("__classdict__" : Str)) = false := by decide)
    (st : starEach (e :: es) X.env = (false, eval e X.env) :: starEach es X.env := by rfl) (pl : (backTo pos (starEach es X.env)).any (·.1) = false := by rfl) : PE X (.Call (.Name x p) (e :: es) [] pos) (tCallS i SS t) := by
  refine ⟨fun pins s σ H Q I h => ?_⟩
  obtain ⟨q, hq, hs, ht⟩ := h
  obtain ⟨fd, ps, F, hk, hb⟩ := (A q hq).ex
  refine (pe_callL (i := i) (f := q.1) (sp := q.2) (dvs := []) (E := fun _ _ _ => False) F hr hN hv hk hb .nil (fun _ _ _ _ _ _ _ z => z.elim) ha d1 d2 st pl).run pins s σ H Q I ⟨hs, ?_⟩
  have e0 : (fun (vs : List V) (H1 : Hp) => q.2 (vs ++ []) H1 Q (fun _ _ _ => False)) = fun vs H1 => q.2 vs H1 Q (fun _ _ _ => False) := by
    funext vs H1
    rw [List.append_nil]
  show t σ H (fun vs H1 => q.2 (vs ++ []) H1 Q (fun _ _ _ => False))
  rw [e0]
  exact ht
end
/-! ### what is a deed -/
def D.worth (d : D) : Bool := d.isNon || d.value
def D.wordO : D → Option Str
  | .tup (.str w :: _) => some w | _ => none
def wV : Option Str → V
  | some w => .str w | none => .non
def nth (ds : List D) (i : Nat) : D := ds.getD i .oth
def fPut (ds : List D) : Bool := decide (ds.length = 3) && ((nth ds 1).key && (nth ds 2).value)
def fKey (ds : List D) : Bool := decide (ds.length = 2) && (nth ds 1).key
def fAdd (ds : List D) : Bool := decide (ds.length = 3) && ((nth ds 1).key && (nth ds 2).short)
def fSwap (ds : List D) : Bool := decide (ds.length = 4) && ((nth ds 1).key && ((nth ds 2).worth && (nth ds 3).worth))
def fList (ds : List D) : Bool := decide (ds.length = 3) && ((nth ds 1).key && (nth ds 2).key)
def D.lotSize : D → Bool
  | .tup es => decide (1 ≤ es.length) && decide (es.length ≤ 6) | _ => false
def fCirc (ds : List D) : Bool := decide (ds.length = 2) && (nth ds 1).circle
def lotWords : List Str := ["put", "drop", "get", "add", "swap"]
def isLot : Option Str → Bool
  | some w => lotWords.contains w | none => false
def loneF (w : Str) (ds : List D) : Bool := if w = "put" then fPut ds else if w = "drop" then fKey ds else if w = "get" then fKey ds else if w = "add" then fAdd ds else if w = "swap" then fSwap ds else false
def D.lone : D → Bool
  | .tup (.str w :: r) => loneF w (.str w :: r) | _ => false
def fAll (ds : List D) : Bool := decide (ds.length = 2) && ((nth ds 1).lotSize && (nth ds 1).kids.all fun d => isLot d.wordO && d.lone)
def deedF (w : Str) (ds : List D) : Bool := if w = "list" then fList ds else if w = "all" then fAll ds else if w = "circle" then fCirc ds else loneF w ds
def D.deed : D → Bool
  | .tup (.str w :: r) => deedF w (.str w :: r) | _ => false
section
variable {P : Program} {w : World} {K : PySem.W.Frag} {mg : Str → Option Value} {base : Heap} {A : Ad} {D : Fd}
/-- a judge of tuples -/
def spF (f : List K0.D → Bool) (K : PySem.W.Frag) : Sp := fun vs H Q _ => ∃ x ds, vs = [x] ∧ Rp K H x (.tup ds) ∧ K0.D.sizeL ds ≤ 29000 ∧ RetV (.bl (f ds)) H Q
theorem spF_len {f : List K0.D → Bool} {vs : List V} {H : Hp} {Q : VK} {E : XK} (h : spF f K vs H Q E) : vs.length = 1 := by
  obtain ⟨x, ds, rfl, _⟩ := h
  rfl
theorem svF {f : List K0.D → Bool} {H : Hp} {x : V} {ds : List K0.D} (h : Rp K H x (.tup ds)) (hs : K0.D.sizeL ds ≤ 29000) : SpV (spF f K) [x] H (.bl (f ds)) := fun H1 e Q q E => ⟨x, ds, rfl, h.ex e, hs, q⟩
theorem size_nth {ds : List K0.D} {i : Nat} : (nth ds i).size ≤ K0.D.sizeL ds + 1 := by
  unfold nth
  rw [List.getD_eq_getElem?_getD]
  cases h : ds[i]? with
  | none => exact Nat.le_add_left _ _
  | some d =>
    have := size_mem (List.mem_of_getElem? h)
    show d.size ≤ _
    omega
/-- the i-th of a tuple that is long enough -/
theorem rp_nth {H : Hp} {xs : List V} {ds : List K0.D} {i : Nat} (r : RpAll K H xs ds) (h : i < ds.length) : ∃ x, xs[i]? = some x ∧ Rp K H x (nth ds i) := by
  have hx : i < xs.length := by rw [r.len]; exact h
  obtain ⟨d, h1, h2⟩ := RpAll.get _ _ _ _ r (List.getElem?_eq_getElem hx)
  refine ⟨_, List.getElem?_eq_getElem hx, ?_⟩
  unfold nth
  rw [gd_some h1]
  exact h2
theorem ev_nth {σ : L2.St} {H : Hp} {ta : TE} {a : Addr} {xs : List V} {i : Nat} {x : V} (h : Ev ta σ H (.ref a)) (hs : SqT K H a xs) (hx : xs[i]? = some x) : Ev (tOp (rIxT K) ta (tC (.int (i : Int)))) σ H x :=
  ev_op h ev_c (rv_ixT hs (by
    unfold atI
    rw [ixN_nat (get_lt' hx)]
    exact hx))
where get_lt' {xs : List V} {i : Nat} {x : V} (h : xs[i]? = some x) : i < xs.length := (List.getElem?_eq_some_iff.mp h).1
theorem rv_eqI {H : Hp} {i j : Int} : RV rEq (.int i) (.int j) H (.bl (decide (i = j))) := fun H1 _ Q q => ⟨rfl, by
  have := q H1 (Ex.refl _)
  rw [show decide (V.int i = V.int j) = decide (i = j) from decide_eq_decide.mpr ⟨fun h => V.int.inj h, fun h => by rw [h]⟩]
  exact this⟩
theorem ev_lenIs {σ : L2.St} {H : Hp} {ta : TE} {a : Addr} {xs : List V} {ds : List K0.D} {n : Nat} (h : Ev ta σ H (.ref a)) (hs : SqT K H a xs) (r : RpAll K H xs ds) :
    Ev (tOp rEq (tCB (fun xs H Q => ∃ x n, xs = [x] ∧ LenV K x H n ∧ Q (.int n) H) (tCons ta tNil)) (tC (.int (n : Int)))) σ H (.bl (decide (ds.length = n))) :=
  ev_is (ev_op (ev_cb (ea_cons h ea_nil) (rc_lenT hs)) ev_c rv_eqI) (by rw [r.len]; exact congrArg V.bl (decide_eq_decide.mpr (by omega)))
def sp_is_worth (K : PySem.W.Frag) : Sp := spS K0.D.worth K
theorem len_is_worth {vs : List V} {H : Hp} {Q : VK} {E : XK} (h : sp_is_worth K vs H Q E) : vs.length = 1 := spS_len h
theorem ok_is_worth (T : Txt K mg A D) : FnOk P w K mg base CX0 5 A.is_worth D.is_worth ["value"] (sp_is_worth K) := by
  have G_is_value : FnOk P w K mg base CX0 4 A.is_value D.is_value ["value"] (sp_is_value K) := ok_is_value T
  refine T.F_is_worth.ok sc_is_worth (fun vs H Q E h => len_is_worth h) (fun cdv A0 outer s H vs Q E hr h => ?_)
  refine ⟨_, (pss_one (ps_ret (pe_or (pe_cmpR op_isN (pv 0) pe_non (nomark _)) (pe_one (pe_call G_is_value (hr.mono (by decide)) rfl T.g_is_value T.F_is_value.kp T.b_is_value .nil pass0 (pa_cons (pv 0) pa_nil)))))), ?_⟩
  obtain ⟨x, d, rfl, hx, hs, k⟩ := h
  exact s_ret (ev_orV (a := d.isNon) (b := d.value) (ev_is (ev_op (ev_var rfl) ev_c rv_isN) (congrArg V.bl hx.isN)) fun _ => ev_call (ea_cons (ev_var rfl) ea_nil) (svS hx hs)) fun H2 e2 => k H2 e2
def sp_word_of (K : PySem.W.Frag) : Sp := fun vs H Q _ => ∃ x d, vs = [x] ∧ Rp K H x d ∧ d.size ≤ 30000 ∧ RetV (wV d.wordO) H Q
theorem len_word_of {vs : List V} {H : Hp} {Q : VK} {E : XK} (h : sp_word_of K vs H Q E) : vs.length = 1 := by
  obtain ⟨x, d, rfl, _⟩ := h
  rfl
theorem sv_word {H : Hp} {x : V} {d : K0.D} (h : Rp K H x d) (hs : d.size ≤ 30000) : SpV (sp_word_of K) [x] H (wV d.wordO) := fun H1 e Q q E => ⟨x, d, rfl, h.ex e, hs, q⟩
theorem ok_word_of (T : Txt K mg A D) : FnOk P w K mg base CX0 1 A.word_of D.word_of ["value"] (sp_word_of K) := by
  refine T.F_word_of.ok sc_word_of (fun vs H Q E h => len_word_of h) (fun cdv A0 outer s H vs Q E hr h => ?_)
  refine ⟨_, (pss_cons (ps_if (PW.pt (pw_and (pt_val (pe_callB call_isi (by rfl) T.b_isinstance (by decide +kernel) (pa_cons (pv 0) (pa_cons (pe_bltn (v := .ty "tuple") (u := .type "tuple") (by rfl) T.b_tuple (by decide +kernel) rfl) pa_nil)))) (pw_and (pt_cmpR op_gt (pe_callB call_len (by rfl) T.b_len (by decide +kernel) (pa_cons (pv 0) pa_nil)) pe_int (nomark _)) (pw_and1 (pt_val (pe_callB call_isi (by rfl) T.b_isinstance (by decide +kernel) (pa_cons (pe_ix ix_tup (pv 0) pe_int (fun _ _ => rfl)) (pa_cons (pe_bltn (v := .ty "str") (u := .type "str") (by rfl) T.b_str (by decide +kernel) rfl) pa_nil)))))))) (pss_one (ps_ret (pe_ix ix_tup (pv 0) pe_int (fun _ _ => rfl)))) pss_nil)
  (pss_one (ps_ret pe_non))), ?_⟩
  obtain ⟨x, d, rfl, hx, hs, k⟩ := h
  by_cases ht : d.isTup = true
  · obtain ⟨a, xs, ds, rfl, rfl, hq, hr1⟩ := hx.isT ht
    have hl := hr1.len
    refine q_when (b := decide (0 < ds.length) && (nth ds 0).isStr) (et_is (et_and (a := true) (b := decide (0 < ds.length) && (nth ds 0).isStr) (et_B (ev_is (ev_cb (ea_cons (ev_var rfl) (ea_cons ev_c ea_nil)) (rc_tup hx)) rfl)) fun _ =>
      et_and (a := decide (0 < ds.length)) (et_is (et_test (ev_op (ev_cb (ea_cons (ev_var rfl) ea_nil) (rc_lenT hq)) ev_c rv_I0)) (by rw [hl]; exact decide_eq_decide.mpr (by omega))) fun h0 => ?_) (Bool.true_and _)) (fun hb H1 e1 => ?_) (fun hb H1 e1 => ?_)
    · obtain ⟨y, hy, ry⟩ := rp_nth hr1 (i := 0) (of_decide_eq_true h0)
      exact et_B (ev_cb (ea_cons (ev_nth (ev_var rfl) hq hy) (ea_cons ev_c ea_nil)) (rc_str ry))
    · have hb' := Bool.and_eq_true_iff.mp hb
      obtain ⟨y, hy, ry⟩ := rp_nth hr1 (i := 0) (of_decide_eq_true hb'.1)
      obtain ⟨s, e2, rfl⟩ := ry.isS hb'.2
      refine s_ret (ev_nth (ev_var rfl) (ex_t e1 hq) hy) fun H2 e3 => ?_
      have := k H2 (e1.trans e3)
      have hw : (K0.D.tup ds).wordO = some s := by
        cases ds with
        | nil => cases hb'.1
        | cons d r =>
          have : d = .str s := e2
          rw [this]
          rfl
      rw [hw] at this
      exact this
    · refine s_ret ev_c fun H2 e2 => ?_
      have := k H2 (e1.trans e2)
      have hw : (K0.D.tup ds).wordO = none := by
        cases ds with
        | nil => rfl
        | cons d r =>
          cases d with
          | str s => cases hb
          | _ => rfl
      rw [hw] at this
      exact this
  · have hf : d.wordO = none := by cases d <;> first | rfl | exact absurd rfl ht
    have ht' : d.isTup = false := by cases q : d.isTup <;> first | rfl | exact absurd q ht
    rw [hf] at k
    refine q_when (b := false) (et_is (et_and (a := false) (b := true) (et_is (et_B (ev_cb (ea_cons (ev_var rfl) (ea_cons ev_c ea_nil)) (rc_tup hx))) ht') fun z => by cases z) rfl) (fun z => by cases z) fun _ H1 e1 => ?_
    exact s_ret ev_c fun H2 e2 => k H2 (e1.trans e2)
def sp_is_put (K : PySem.W.Frag) : Sp := spF fPut K
theorem len_is_put {vs : List V} {H : Hp} {Q : VK} {E : XK} (h : sp_is_put K vs H Q E) : vs.length = 1 := spF_len h
theorem ok_is_put (T : Txt K mg A D) : FnOk P w K mg base CX0 5 A.is_put D.is_put ["value"] (sp_is_put K) := by
  have G_is_key : FnOk P w K mg base CX0 2 A.is_key D.is_key ["value"] (sp_is_key K) := ok_is_key T
  have G_is_value : FnOk P w K mg base CX0 4 A.is_value D.is_value ["value"] (sp_is_value K) := ok_is_value T
  refine T.F_is_put.ok sc_is_put (fun vs H Q E h => len_is_put h) (fun cdv A0 outer s H vs Q E hr h => ?_)
  refine ⟨_, (pss_one (ps_ret (pe_and (pe_cmpR op_eq (pe_callB call_len (by rfl) T.b_len (by decide +kernel) (pa_cons (pv 0) pa_nil)) pe_int (nomark _)) (pe_and (pe_call G_is_key (hr.mono (by decide)) rfl T.g_is_key T.F_is_key.kp T.b_is_key .nil pass0 (pa_cons (pe_ix ix_tup (pv 0) pe_int (fun _ _ => rfl)) pa_nil)) (pe_one (pe_call G_is_value (hr.mono (by decide)) rfl T.g_is_value T.F_is_value.kp T.b_is_value .nil pass0 (pa_cons (pe_ix ix_tup (pv 0) pe_int (fun _ _ => rfl)) pa_nil))))))), ?_⟩
  obtain ⟨x, ds, rfl, hx, hs, k⟩ := h
  obtain ⟨a, xs, rfl, hq, hr1⟩ := hx.tupI
  refine s_ret (ev_andV (ev_lenIs (n := 3) (ev_var rfl) hq hr1) fun h0 => ?_) fun H2 e2 => k H2 e2
  have hl := of_decide_eq_true h0
  obtain ⟨y1, hy1, r1⟩ := rp_nth hr1 (i := 1) (by omega)
  obtain ⟨y2, hy2, r2⟩ := rp_nth hr1 (i := 2) (by omega)
  have z1 := size_nth (ds := ds) (i := 1)
  have z2 := size_nth (ds := ds) (i := 2)
  exact ev_andV (ev_call (ea_cons (ev_nth (ev_var rfl) hq hy1) ea_nil) (svS r1 (by omega))) fun _ => ev_call (ea_cons (ev_nth (ev_var rfl) hq hy2) ea_nil) (svS r2 (by omega))
def sp_is_of_key (K : PySem.W.Frag) : Sp := spF fKey K
theorem len_is_of_key {vs : List V} {H : Hp} {Q : VK} {E : XK} (h : sp_is_of_key K vs H Q E) : vs.length = 1 := spF_len h
theorem ok_is_of_key (T : Txt K mg A D) : FnOk P w K mg base CX0 3 A.is_of_key D.is_of_key ["value"] (sp_is_of_key K) := by
  have G_is_key : FnOk P w K mg base CX0 2 A.is_key D.is_key ["value"] (sp_is_key K) := ok_is_key T
  refine T.F_is_of_key.ok sc_is_of_key (fun vs H Q E h => len_is_of_key h) (fun cdv A0 outer s H vs Q E hr h => ?_)
  refine ⟨_, (pss_one (ps_ret (pe_and (pe_cmpR op_eq (pe_callB call_len (by rfl) T.b_len (by decide +kernel) (pa_cons (pv 0) pa_nil)) pe_int (nomark _)) (pe_one (pe_call G_is_key (hr.mono (by decide)) rfl T.g_is_key T.F_is_key.kp T.b_is_key .nil pass0 (pa_cons (pe_ix ix_tup (pv 0) pe_int (fun _ _ => rfl)) pa_nil)))))), ?_⟩
  obtain ⟨x, ds, rfl, hx, hs, k⟩ := h
  obtain ⟨a, xs, rfl, hq, hr1⟩ := hx.tupI
  refine s_ret (ev_andV (ev_lenIs (n := 2) (ev_var rfl) hq hr1) fun h0 => ?_) fun H2 e2 => k H2 e2
  have hl := of_decide_eq_true h0
  obtain ⟨y1, hy1, r1⟩ := rp_nth hr1 (i := 1) (by omega)
  have z1 := size_nth (ds := ds) (i := 1)
  exact ev_call (ea_cons (ev_nth (ev_var rfl) hq hy1) ea_nil) (svS r1 (by omega))
def sp_is_add (K : PySem.W.Frag) : Sp := spF fAdd K
theorem len_is_add {vs : List V} {H : Hp} {Q : VK} {E : XK} (h : sp_is_add K vs H Q E) : vs.length = 1 := spF_len h
theorem ok_is_add (T : Txt K mg A D) : FnOk P w K mg base CX0 4 A.is_add D.is_add ["value"] (sp_is_add K) := by
  have G_is_key : FnOk P w K mg base CX0 2 A.is_key D.is_key ["value"] (sp_is_key K) := ok_is_key T
  have G_is_short_number : FnOk P w K mg base CX0 3 A.is_short_number D.is_short_number ["value"] (sp_is_short_number K) := ok_is_short_number T
  refine T.F_is_add.ok sc_is_add (fun vs H Q E h => len_is_add h) (fun cdv A0 outer s H vs Q E hr h => ?_)
  refine ⟨_, (pss_one (ps_ret (pe_and (pe_cmpR op_eq (pe_callB call_len (by rfl) T.b_len (by decide +kernel) (pa_cons (pv 0) pa_nil)) pe_int (nomark _)) (pe_and (pe_call G_is_key (hr.mono (by decide)) rfl T.g_is_key T.F_is_key.kp T.b_is_key .nil pass0 (pa_cons (pe_ix ix_tup (pv 0) pe_int (fun _ _ => rfl)) pa_nil)) (pe_one (pe_call G_is_short_number (hr.mono (by decide)) rfl T.g_is_short_number T.F_is_short_number.kp T.b_is_short_number .nil pass0 (pa_cons (pe_ix ix_tup (pv 0) pe_int (fun _ _ => rfl)) pa_nil))))))), ?_⟩
  obtain ⟨x, ds, rfl, hx, hs, k⟩ := h
  obtain ⟨a, xs, rfl, hq, hr1⟩ := hx.tupI
  refine s_ret (ev_andV (ev_lenIs (n := 3) (ev_var rfl) hq hr1) fun h0 => ?_) fun H2 e2 => k H2 e2
  have hl := of_decide_eq_true h0
  obtain ⟨y1, hy1, r1⟩ := rp_nth hr1 (i := 1) (by omega)
  obtain ⟨y2, hy2, r2⟩ := rp_nth hr1 (i := 2) (by omega)
  have z1 := size_nth (ds := ds) (i := 1)
  exact ev_andV (ev_call (ea_cons (ev_nth (ev_var rfl) hq hy1) ea_nil) (svS r1 (by omega))) fun _ => ev_call (ea_cons (ev_nth (ev_var rfl) hq hy2) ea_nil) (sv1 r2)
def sp_is_swap (K : PySem.W.Frag) : Sp := spF fSwap K
theorem len_is_swap {vs : List V} {H : Hp} {Q : VK} {E : XK} (h : sp_is_swap K vs H Q E) : vs.length = 1 := spF_len h
theorem ok_is_swap (T : Txt K mg A D) : FnOk P w K mg base CX0 6 A.is_swap D.is_swap ["value"] (sp_is_swap K) := by
  have G_is_key : FnOk P w K mg base CX0 2 A.is_key D.is_key ["value"] (sp_is_key K) := ok_is_key T
  have G_is_worth : FnOk P w K mg base CX0 5 A.is_worth D.is_worth ["value"] (sp_is_worth K) := ok_is_worth T
  refine T.F_is_swap.ok sc_is_swap (fun vs H Q E h => len_is_swap h) (fun cdv A0 outer s H vs Q E hr h => ?_)
  refine ⟨_, (pss_one (ps_ret (pe_and (pe_cmpR op_eq (pe_callB call_len (by rfl) T.b_len (by decide +kernel) (pa_cons (pv 0) pa_nil)) pe_int (nomark _)) (pe_and (pe_call G_is_key (hr.mono (by decide)) rfl T.g_is_key T.F_is_key.kp T.b_is_key .nil pass0 (pa_cons (pe_ix ix_tup (pv 0) pe_int (fun _ _ => rfl)) pa_nil)) (pe_and (pe_call G_is_worth (hr.mono (by decide)) rfl T.g_is_worth T.F_is_worth.kp T.b_is_worth .nil pass0 (pa_cons (pe_ix ix_tup (pv 0) pe_int (fun _ _ => rfl)) pa_nil)) (pe_one (pe_call G_is_worth (hr.mono (by decide)) rfl T.g_is_worth T.F_is_worth.kp T.b_is_worth .nil pass0 (pa_cons (pe_ix ix_tup (pv 0) pe_int (fun _ _ => rfl)) pa_nil)))))))), ?_⟩
  obtain ⟨x, ds, rfl, hx, hs, k⟩ := h
  obtain ⟨a, xs, rfl, hq, hr1⟩ := hx.tupI
  refine s_ret (ev_andV (ev_lenIs (n := 4) (ev_var rfl) hq hr1) fun h0 => ?_) fun H2 e2 => k H2 e2
  have hl := of_decide_eq_true h0
  obtain ⟨y1, hy1, r1⟩ := rp_nth hr1 (i := 1) (by omega)
  obtain ⟨y2, hy2, r2⟩ := rp_nth hr1 (i := 2) (by omega)
  obtain ⟨y3, hy3, r3⟩ := rp_nth hr1 (i := 3) (by omega)
  have z1 := size_nth (ds := ds) (i := 1)
  have z2 := size_nth (ds := ds) (i := 2)
  have z3 := size_nth (ds := ds) (i := 3)
  exact ev_andV (ev_call (ea_cons (ev_nth (ev_var rfl) hq hy1) ea_nil) (svS r1 (by omega))) fun _ => ev_andV (ev_call (ea_cons (ev_nth (ev_var rfl) hq hy2) ea_nil) (svS r2 (by omega))) fun _ => ev_call (ea_cons (ev_nth (ev_var rfl) hq hy3) ea_nil) (svS r3 (by omega))
def sp_is_list (K : PySem.W.Frag) : Sp := spF fList K
theorem len_is_list {vs : List V} {H : Hp} {Q : VK} {E : XK} (h : sp_is_list K vs H Q E) : vs.length = 1 := spF_len h
theorem ok_is_list (T : Txt K mg A D) : FnOk P w K mg base CX0 3 A.is_list D.is_list ["value"] (sp_is_list K) := by
  have G_is_key : FnOk P w K mg base CX0 2 A.is_key D.is_key ["value"] (sp_is_key K) := ok_is_key T
  refine T.F_is_list.ok sc_is_list (fun vs H Q E h => len_is_list h) (fun cdv A0 outer s H vs Q E hr h => ?_)
  refine ⟨_, (pss_one (ps_ret (pe_and (pe_cmpR op_eq (pe_callB call_len (by rfl) T.b_len (by decide +kernel) (pa_cons (pv 0) pa_nil)) pe_int (nomark _)) (pe_and (pe_call G_is_key (hr.mono (by decide)) rfl T.g_is_key T.F_is_key.kp T.b_is_key .nil pass0 (pa_cons (pe_ix ix_tup (pv 0) pe_int (fun _ _ => rfl)) pa_nil)) (pe_one (pe_call G_is_key (hr.mono (by decide)) rfl T.g_is_key T.F_is_key.kp T.b_is_key .nil pass0 (pa_cons (pe_ix ix_tup (pv 0) pe_int (fun _ _ => rfl)) pa_nil))))))), ?_⟩
  obtain ⟨x, ds, rfl, hx, hs, k⟩ := h
  obtain ⟨a, xs, rfl, hq, hr1⟩ := hx.tupI
  refine s_ret (ev_andV (ev_lenIs (n := 3) (ev_var rfl) hq hr1) fun h0 => ?_) fun H2 e2 => k H2 e2
  have hl := of_decide_eq_true h0
  obtain ⟨y1, hy1, r1⟩ := rp_nth hr1 (i := 1) (by omega)
  obtain ⟨y2, hy2, r2⟩ := rp_nth hr1 (i := 2) (by omega)
  have z1 := size_nth (ds := ds) (i := 1)
  have z2 := size_nth (ds := ds) (i := 2)
  exact ev_andV (ev_call (ea_cons (ev_nth (ev_var rfl) hq hy1) ea_nil) (svS r1 (by omega))) fun _ => ev_call (ea_cons (ev_nth (ev_var rfl) hq hy2) ea_nil) (svS r2 (by omega))
def sp_has_lot_size (K : PySem.W.Frag) : Sp := sp1 K0.D.lotSize K
theorem len_has_lot_size {vs : List V} {H : Hp} {Q : VK} {E : XK} (h : sp_has_lot_size K vs H Q E) : vs.length = 1 := sp1_len h
theorem ok_has_lot_size (T : Txt K mg A D) : FnOk P w K mg base CX0 1 A.has_lot_size D.has_lot_size ["value"] (sp_has_lot_size K) := by
  obtain ⟨t_MAX_LOT, c_MAX_LOT⟩ := T.c_MAX_LOT
  refine T.F_has_lot_size.ok sc_has_lot_size (fun vs H Q E h => len_has_lot_size h) (fun cdv A0 outer s H vs Q E hr h => ?_)
  refine ⟨_, (pss_one (ps_ret (pe_and (pe_callB call_isi (by rfl) T.b_isinstance (by decide +kernel) (pa_cons (pv 0) (pa_cons (pe_bltn (v := .ty "tuple") (u := .type "tuple") (by rfl) T.b_tuple (by decide +kernel) rfl) pa_nil))) (pe_one (pe_chain op_le op_le pe_int (pe_callB call_len (by rfl) T.b_len (by decide +kernel) (pa_cons (pv 0) pa_nil)) (pe_glob (v := .int (6)) rfl c_MAX_LOT ⟨_, rfl⟩)))))), ?_⟩
  obtain ⟨x, d, rfl, hx, k⟩ := h
  refine s_ret (ev_is (ev_andV (a := d.isTup) (b := d.lotSize) (ev_cb (ea_cons (ev_var rfl) (ea_cons ev_c ea_nil)) (rc_tup hx)) fun hb => ?_) ?_) fun H2 e2 => k H2 e2
  · obtain ⟨a, xs, ds, rfl, rfl, hq, hr1⟩ := hx.isT hb
    refine ev_is (ev_chain_le (i := 1) (j := (xs.length : Nat)) (k := 6) ev_c (ev_cb (ea_cons (ev_var rfl) ea_nil) (rc_lenT hq)) ev_c) ?_
    rw [hr1.len]
    show V.bl _ = V.bl (decide (1 ≤ ds.length) && decide (ds.length ≤ 6))
    congr 2
    · exact decide_eq_decide.mpr (by omega)
    · exact decide_eq_decide.mpr (by omega)
  · cases d <;> first | rfl | (show V.bl (true && _) = V.bl _; rw [Bool.true_and])
def sp_is_of_circle (K : PySem.W.Frag) : Sp := spF fCirc K
theorem len_is_of_circle {vs : List V} {H : Hp} {Q : VK} {E : XK} (h : sp_is_of_circle K vs H Q E) : vs.length = 1 := spF_len h
theorem ok_is_of_circle (T : Txt K mg A D) : FnOk P w K mg base CX0 5 A.is_of_circle D.is_of_circle ["value"] (sp_is_of_circle K) := by
  have G_is_circle : FnOk P w K mg base CX0 4 A.is_circle D.is_circle ["value"] (sp_is_circle K) := ok_is_circle T
  refine T.F_is_of_circle.ok sc_is_of_circle (fun vs H Q E h => len_is_of_circle h) (fun cdv A0 outer s H vs Q E hr h => ?_)
  refine ⟨_, (pss_one (ps_ret (pe_and (pe_cmpR op_eq (pe_callB call_len (by rfl) T.b_len (by decide +kernel) (pa_cons (pv 0) pa_nil)) pe_int (nomark _)) (pe_one (pe_call G_is_circle (hr.mono (by decide)) rfl T.g_is_circle T.F_is_circle.kp T.b_is_circle .nil pass0 (pa_cons (pe_ix ix_tup (pv 0) pe_int (fun _ _ => rfl)) pa_nil)))))), ?_⟩
  obtain ⟨x, ds, rfl, hx, hs, k⟩ := h
  obtain ⟨a, xs, rfl, hq, hr1⟩ := hx.tupI
  refine s_ret (ev_andV (ev_lenIs (n := 2) (ev_var rfl) hq hr1) fun h0 => ?_) fun H2 e2 => k H2 e2
  have hl := of_decide_eq_true h0
  obtain ⟨y1, hy1, r1⟩ := rp_nth hr1 (i := 1) (by omega)
  have z1 := size_nth (ds := ds) (i := 1)
  exact ev_call (ea_cons (ev_nth (ev_var rfl) hq hy1) ea_nil) (svS r1 (by omega))
end
end K0

namespace K0
open PySem L2 Evl
section
variable {K : PySem.W.Frag} {w : World} {σ : L2.St} {H : Hp} {t : TA} {vs : List V} {z : V}
def rNik (K : PySem.W.Frag) (d : Addr) : R2 := fun x y H Q => ∃ (z : Str) (r : Option Value), x = V.str z ∧ y = V.ref d ∧ PySem.W.nsIn K d z = some r ∧ Q (.bl (!r.isSome)) H
theorem rv_nik {d : Addr} {s : Str} {r : Option Value} (h : PySem.W.nsIn K d s = some r) : RV (rNik K d) (.str s) (.ref d) H (.bl (!r.isSome)) := fun H1 _ Q q => ⟨s, r, rfl, rfl, h, q H1 (Ex.refl _)⟩
theorem rv_kd {d f : Addr} {s : Str} {es : Array DictEntry} {n : Nat} (D : KDict K w d es n) (h : PySem.W.nsIn K d s = some (some (.ref f))) : RV (rIxD K w) (.ref d) (.str s) H (.ref f) := fun H1 _ Q q => ⟨d, s, .ref f, rfl, rfl, ⟨es, n, _, D.at_, D.lit, h, rfl⟩, q H1 (Ex.refl _)⟩
theorem ev_callS {SS : List (Addr × Sp)} {i : Nat} {p : Addr × Sp} (hp : p ∈ SS) (hs : σ[i]? = some (some (.ref p.1))) (h : EvA t σ H vs) (hsp : SpV p.2 vs H z) : Ev (tCallS i SS t) σ H z := fun H1 e Q q =>
  ⟨p, hp, hs, h H1 e _ fun H2 e2 => hsp H2 (e.trans e2) Q (fun H3 e3 => q H3 (e2.trans e3)) _⟩
/-- the same with what may change -/
theorem c_callS {SS : List (Addr × Sp)} {i : Nat} {p : Addr × Sp} {Q : VK} (hp : p ∈ SS) (hs : σ[i]? = some (some (.ref p.1))) (h : EvA t σ H vs) (k : ∀ H1, Ex H H1 → p.2 vs H1 Q fun _ _ _ => False) : tCallS i SS t σ H Q := ⟨p, hp, hs, h H (Ex.refl H) _ k⟩
end
section
variable {P : Program} {w : World} {K : PySem.W.Frag} {mg : Str → Option Value} {base : Heap} {A : Ad} {D : Fd}
def loSS (K : PySem.W.Frag) (A : Ad) : List (Addr × Sp) := [(A.is_put, sp_is_put K), (A.is_of_key, sp_is_of_key K), (A.is_add, sp_is_add K), (A.is_swap, sp_is_swap K)]
/-- a deed for lots -/
def sp_is_deed0 (K : PySem.W.Frag) : Sp := fun vs H Q _ => ∃ x d, vs = [x] ∧ Rp K H x d ∧ d.size ≤ 29000 ∧ isLot d.wordO = true ∧ RetV (.bl d.lone) H Q
theorem len_is_deed0 {vs : List V} {H : Hp} {Q : VK} {E : XK} (h : sp_is_deed0 K vs H Q E) : vs.length = 1 := by
  obtain ⟨x, d, rfl, _⟩ := h
  rfl
theorem word_tup {d : K0.D} {s : Str} (h : d.wordO = some s) : ∃ r, d = .tup (.str s :: r) := by
  cases d with
  | tup ds =>
    cases ds with
    | nil => cases h
    | cons a r =>
      cases a with
      | str s' => exact ⟨r, by cases h; rfl⟩
      | _ => cases h
  | _ => cases h
theorem loneF_put (ds : List K0.D) : loneF "put" ds = fPut ds := by
  unfold loneF
  rw [if_pos rfl]
theorem loneF_drop (ds : List K0.D) : loneF "drop" ds = fKey ds := by
  unfold loneF
  rw [if_neg (by decide +kernel), if_pos rfl]
theorem loneF_get (ds : List K0.D) : loneF "get" ds = fKey ds := by
  unfold loneF
  rw [if_neg (by decide +kernel), if_neg (by decide +kernel), if_pos rfl]
theorem loneF_add (ds : List K0.D) : loneF "add" ds = fAdd ds := by
  unfold loneF
  rw [if_neg (by decide +kernel), if_neg (by decide +kernel), if_neg (by decide +kernel), if_pos rfl]
theorem loneF_swap (ds : List K0.D) : loneF "swap" ds = fSwap ds := by
  unfold loneF
  rw [if_neg (by decide +kernel), if_neg (by decide +kernel), if_neg (by decide +kernel), if_neg (by decide +kernel), if_pos rfl]
theorem sv_is {sp : Sp} {vs : List V} {H : Hp} {a b : Bool} (h : SpV sp vs H (.bl a)) (e : b = a) : SpV sp vs H (.bl b) := e ▸ h
theorem lot_cases {s : Str} (h : isLot (some s) = true) : s = "put" ∨ s = "drop" ∨ s = "get" ∨ s = "add" ∨ s = "swap" := by
  have : s ∈ lotWords := List.elem_iff.mp h
  simpa [lotWords] using this
theorem ok_is_deed0 (T : Txt K mg A D) (U : Tab K w mg A) : FnOk P w K mg base CX0 16 A.is_deed D.is_deed ["value"] (sp_is_deed0 K) := by
  have G_word_of : FnOk P w K mg base CX0 1 A.word_of D.word_of ["value"] (sp_word_of K) := ok_word_of T
  obtain ⟨a_DEED_FORMS, g_DEED_FORMS, _, _, kd_DEED_FORMS, nx_DEED_FORMS⟩ := U.d_DEED_FORMS
  have held : ∀ q ∈ loSS K A, Held P w K mg base 15 q.1 q.2 := by
    intro q hq
    simp only [loSS, List.mem_cons, List.not_mem_nil, or_false] at hq
    rcases hq with rfl | rfl | rfl | rfl
    · exact ⟨_, _, (ok_is_put T).mono (by decide), T.F_is_put.kp, T.b_is_put⟩
    · exact ⟨_, _, (ok_is_of_key T).mono (by decide), T.F_is_of_key.kp, T.b_is_of_key⟩
    · exact ⟨_, _, (ok_is_add T).mono (by decide), T.F_is_add.kp, T.b_is_add⟩
    · exact ⟨_, _, (ok_is_swap T).mono (by decide), T.F_is_swap.kp, T.b_is_swap⟩
  refine T.F_is_deed.ok sc_is_deed (fun vs H Q E h => len_is_deed0 h) (fun cdv A0 outer s H vs Q E hr h => ?_)
  refine ⟨_, (pss_cons (ps_set (i := 1) sc_is_deed.nd rfl (Or.inl rfl) (pe_call G_word_of (hr.mono (by decide)) rfl T.g_word_of T.F_word_of.kp T.b_word_of .nil pass0 (pa_cons (pv 0) pa_nil)))
  (pss_cons (ps_if (pt_cmpR (op_notIn_kd kd_DEED_FORMS) (pv 1) (pe_glob (v := .ref a_DEED_FORMS) rfl g_DEED_FORMS rfl) (by rfl)) (pss_one (ps_ret pe_bl)) pss_nil)
  (pss_cons (ps_set (i := 2) sc_is_deed.nd rfl (Or.inl rfl) (pe_ix ix_kdict (pe_glob (v := .ref a_DEED_FORMS) rfl g_DEED_FORMS rfl) (pv 1) (fun _ _ => rfl)))
  (pss_one (ps_ret (pe_callS (i := 2) held hr rfl (Or.inl rfl) (pa_cons (pv 0) pa_nil))))))), ?_⟩
  obtain ⟨x, d, rfl, hx, hs, hw, k⟩ := h
  cases hwo : d.wordO with
  | none => rw [hwo] at hw; cases hw
  | some s =>
  rw [hwo] at hw
  obtain ⟨r, rfl⟩ := word_tup hwo
  have hs2 : K0.D.sizeL (K0.D.str s :: r) ≤ 29000 := by
    simp only [K0.D.size] at hs
    omega
  refine q_asg (v := .str s) (ev_call (ea_cons (ev_var rfl) ea_nil) (sv_word hx (by omega))) fun H1 e1 => ?_
  have got : ∃ f sp, (f, sp) ∈ loSS K A ∧ PySem.W.nsIn K a_DEED_FORMS s = some (some (.ref f)) ∧ SpV sp [x] H (.bl (K0.D.tup (.str s :: r)).lone) := by
    rcases lot_cases hw with rfl | rfl | rfl | rfl | rfl
    · exact ⟨A.is_put, sp_is_put K, by simp [loSS], nx_DEED_FORMS "put", sv_is (svF (f := fPut) hx hs2) (loneF_put _)⟩
    · exact ⟨A.is_of_key, sp_is_of_key K, by simp [loSS], nx_DEED_FORMS "drop", sv_is (svF (f := fKey) hx hs2) (loneF_drop _)⟩
    · exact ⟨A.is_of_key, sp_is_of_key K, by simp [loSS], nx_DEED_FORMS "get", sv_is (svF (f := fKey) hx hs2) (loneF_get _)⟩
    · exact ⟨A.is_add, sp_is_add K, by simp [loSS], nx_DEED_FORMS "add", sv_is (svF (f := fAdd) hx hs2) (loneF_add _)⟩
    · exact ⟨A.is_swap, sp_is_swap K, by simp [loSS], nx_DEED_FORMS "swap", sv_is (svF (f := fSwap) hx hs2) (loneF_swap _)⟩
  obtain ⟨f, sp, hm, hn, hv⟩ := got
  refine q_when (b := false) (et_test (ev_op (ev_var rfl) ev_c (rv_nik hn))) (fun z => by cases z) fun _ H2 e2 => ?_
  refine q_asg (ev_op ev_c (ev_var rfl) (rv_kd kd_DEED_FORMS hn)) fun H3 e3 => ?_
  exact s_ret (ev_callS (p := (f, sp)) hm rfl (ea_cons (ev_var rfl) ea_nil) fun H4 e4 Q q E => hv H4 (((e1.trans e2).trans e3).trans e4) Q q E) fun H4 e4 => k H4 (((e1.trans e2).trans e3).trans e4)
end
end K0

namespace K0
open PySem L2 Evl
section
variable {P : Program} {w : World} {K : PySem.W.Frag} {mg : Str → Option Value} {base : Heap} {A : Ad} {D : Fd}
def sp_is_all (K : PySem.W.Frag) : Sp := spF fAll K
theorem len_is_all {vs : List V} {H : Hp} {Q : VK} {E : XK} (h : sp_is_all K vs H Q E) : vs.length = 1 := spF_len h
def lotV : List V := [.str "put", .str "drop", .str "get", .str "add", .str "swap"]
theorem inV_strs (x : Str) : ∀ ws : List Str, inV (.str x) (ws.map V.str) = ws.contains x
  | [] => rfl
  | w :: r => by
    have ih := inV_strs x r
    unfold inV at ih ⊢
    rw [List.map_cons, List.any_cons, ih, List.contains_cons]
    congr 1
    show (w == x) = (x == w)
    exact Bool.eq_iff_iff.mpr ⟨fun h => by rw [beq_iff_eq] at h ⊢; exact h.symm, fun h => by rw [beq_iff_eq] at h ⊢; exact h.symm⟩
theorem inV_none : ∀ ws : List Str, inV .non (ws.map V.str) = false
  | [] => rfl
  | w :: r => by
    have ih := inV_none r
    unfold inV at ih ⊢
    rw [List.map_cons, List.any_cons, ih]
    rfl
theorem inV_lot (o : Option Str) : inV (wV o) lotV = isLot o := by
  cases o with
  | none => exact inV_none lotWords
  | some s => exact inV_strs s lotWords
theorem op_in_seqK {X : Cx} {K : PySem.W.Frag} (h : X.K = K) : OpR X (compareOp .In) (rIn K false) := h ▸ op_in_seq
theorem ok_is_all (T : Txt K mg A D) (U : Tab K w mg A) : FnOk P w K mg base CX0 20 A.is_all D.is_all ["value"] (sp_is_all K) := by
  have G_has_lot_size : FnOk P w K mg base CX0 1 A.has_lot_size D.has_lot_size ["value"] (sp_has_lot_size K) := ok_has_lot_size T
  have G_word_of : FnOk P w K mg base CX0 1 A.word_of D.word_of ["value"] (sp_word_of K) := ok_word_of T
  have G_is_deed := ok_is_deed0 (P := P) (base := base) T U
  obtain ⟨a_LOT_WORDS, g_LOT_WORDS, d_LOT_WORDS⟩ := T.t_LOT_WORDS
  refine T.F_is_all.ok sc_is_all (fun vs H Q E h => len_is_all h) (fun cdv A0 outer s H vs Q E hr h => ?_)
  refine ⟨_, (pss_cons (ps_if (PW.pt (pw_or (pt_cmpR op_ne (pe_callB call_len (by rfl) T.b_len (by decide +kernel) (pa_cons (pv 0) pa_nil)) pe_int (nomark _)) (pw_or1 (pt_not (pt_val (pe_call G_has_lot_size (hr.mono (by decide)) rfl T.g_has_lot_size T.F_has_lot_size.kp T.b_has_lot_size .nil pass0 (pa_cons (pe_ix ix_tup (pv 0) pe_int (fun _ _ => rfl)) pa_nil))))))) (pss_one (ps_ret pe_bl)) pss_nil)
  (pss_one (ps_ret (pe_callB (cr_all rfl) (by rfl) T.b_all (by decide +kernel) (pa_cons (pe_lc (own := [("part", 1)]) (g := gName 1) (tt := tYes) rfl sc_is_all.nd (pi_tup (pe_ix ix_tup (pv 0) pe_int (fun _ _ => rfl))) (blkOk_by (own := [("part", 1)]) (N := N_is_all) (sc := defScope s_is_all) (by decide +kernel)) (fun _ _ _ _ _ => by exact pg_name (i := 1) sc_is_all.nd rfl (Or.inl rfl)) (fun _ _ _ _ _ => by exact pts_nil) (fun _ _ _ _ _ => by exact (pe_and (pe_cmpR (op_in_seqK (K := K) (by rfl)) (pe_call G_word_of (hr.mono (by decide)) rfl T.g_word_of T.F_word_of.kp T.b_word_of .nil pass0 (pa_cons (pv 1) pa_nil)) (pe_glob (v := .ref a_LOT_WORDS) rfl g_LOT_WORDS rfl) (by rfl)) (pe_one (pe_call G_is_deed (hr.mono (by decide)) rfl T.g_is_deed T.F_is_deed.kp T.b_is_deed .nil pass0 (pa_cons (pv 1) pa_nil)))))) pa_nil))))), ?_⟩
  obtain ⟨x, ds, rfl, hx, hs, k⟩ := h
  obtain ⟨a, xs, rfl, hq, hr1⟩ := hx.tupI
  refine q_when (b := !(decide (ds.length = 2) && (nth ds 1).lotSize)) (et_is (et_or (a := !decide (ds.length = 2)) (b := !(nth ds 1).lotSize) (et_is (et_test (ev_op (ev_cb (ea_cons (ev_var rfl) ea_nil) (rc_lenT hq)) ev_c (rv_ne rfl))) ?_) fun h0 => ?_) ?_) (fun hb H1 e1 => ?_) (fun hb H1 e1 => ?_)
  · rw [hr1.len]
    congr 1
    exact decide_eq_decide.mpr ⟨fun h => by have := V.int.inj h; omega, fun h => by rw [h]; rfl⟩
  · have hl : ds.length = 2 := by
      cases q : decide (ds.length = 2) with
      | true => exact of_decide_eq_true q
      | false => rw [q] at h0; cases h0
    obtain ⟨y1, hy1, r1⟩ := rp_nth hr1 (i := 1) (by omega)
    exact et_not (et_B (ev_call (ea_cons (ev_nth (ev_var rfl) hq hy1) ea_nil) (sv1 r1)))
  · cases decide (ds.length = 2) <;> cases (nth ds 1).lotSize <;> rfl
  · refine s_ret ev_c fun H2 e2 => ?_
    have := k H2 (e1.trans e2)
    have hf : fAll ds = false := by
      unfold fAll
      rw [← Bool.and_assoc]
      cases q : (decide (ds.length = 2) && (nth ds 1).lotSize) with
      | false => rfl
      | true => rw [q] at hb; cases hb
    rw [hf] at this
    exact this
  · have hb' : (decide (ds.length = 2) && (nth ds 1).lotSize) = true := by
      cases q : (decide (ds.length = 2) && (nth ds 1).lotSize) with
      | true => rfl
      | false => rw [q] at hb; cases hb
    have hb2 := Bool.and_eq_true_iff.mp hb'
    have hl := of_decide_eq_true hb2.1
    obtain ⟨y1, hy1, r1⟩ := rp_nth hr1 (i := 1) (by omega)
    have z1 := size_nth (ds := ds) (i := 1)
    obtain ⟨b, ys, es, e0, rfl, hqb, hrb⟩ := r1.isT (by
      cases q : nth ds 1 <;> first | rfl | (have := hb2.2; rw [q] at this; cases this))
    have hlen := hrb.len
    have zl := sizeL_len es
    have zz : K0.D.sizeL es ≤ 29000 := by
      rw [e0] at z1
      simp only [K0.D.size] at z1
      omega
    refine s_ret (ev_is (ev_all (bs := (List.range ys.length).map fun i => (isLot (es.getD i .non).wordO && (es.getD i .non).lone)) ?_) ?_) fun H2 e2 => k H2 (e1.trans e2)
    · rw [List.map_map, ← given_map (f := fun _ => true) (fun _ => rfl)]
      refine el_lcT (fun _ => true) _ (ev_nth (ev_var rfl) (ex_t e1 hq) hy1) (ex_t e1 hqb) (by omega) (fun _ => rfl) (fun i y H3 e3 hy => et_yes) (fun i y H3 e3 hy _ => ?_)
      obtain ⟨d, hd, hrp⟩ := RpAll.get _ _ _ _ (hrb.ex (e1.trans e3)) hy
      have hsz := size_mem (List.mem_of_getElem? hd)
      refine ev_is (ev_andV (a := isLot d.wordO) (b := d.lone) (ev_is (ev_op (ev_call (ea_cons (ev_var rfl) ea_nil) (sv_word hrp (by omega))) ev_c (rv_isT (xs := lotV) (d_LOT_WORDS _) ?_ (by decide +kernel))) (congrArg V.bl (inV_lot _))) fun hw => ev_call (ea_cons (ev_var rfl) ea_nil) fun H4 e4 Q4 q4 E4 => ⟨_, d, rfl, hrp.ex e4, by omega, hw, q4⟩) ?_
      · cases d.wordO <;> rfl
      · show V.bl (isLot d.wordO && d.lone) = V.bl (isLot (es.getD i .non).wordO && (es.getD i .non).lone)
        rw [gd_some hd]
    · rw [List.all_map, hlen]
      show V.bl ((List.range es.length).all fun i => isLot (es.getD i .non).wordO && (es.getD i .non).lone) = V.bl (fAll ds)
      unfold fAll
      rw [e0, all_getD es fun d => isLot d.wordO && d.lone, hb2.1]
      have : (K0.D.tup es).lotSize = true := by rw [← e0]; exact hb2.2
      rw [this]
      rfl
end
end K0

namespace K0
open PySem L2 Evl
section
variable {P : Program} {w : World} {K : PySem.W.Frag} {mg : Str → Option Value} {base : Heap} {A : Ad} {D : Fd}
def hiSS (K : PySem.W.Frag) (A : Ad) : List (Addr × Sp) := loSS K A ++ [(A.is_list, sp_is_list K), (A.is_all, sp_is_all K), (A.is_of_circle, sp_is_of_circle K)]
def deedWords : List Str := ["put", "drop", "get", "add", "swap", "list", "all", "circle"]
theorem deedF_list (ds : List K0.D) : deedF "list" ds = fList ds := by
  unfold deedF
  rw [if_pos rfl]
theorem deedF_all (ds : List K0.D) : deedF "all" ds = fAll ds := by
  unfold deedF
  rw [if_neg (by decide +kernel), if_pos rfl]
theorem deedF_circle (ds : List K0.D) : deedF "circle" ds = fCirc ds := by
  unfold deedF
  rw [if_neg (by decide +kernel), if_neg (by decide +kernel), if_pos rfl]
theorem deedF_lot {s : Str} (ds : List K0.D) (h : isLot (some s) = true) : deedF s ds = loneF s ds := by
  unfold deedF
  rcases lot_cases h with rfl | rfl | rfl | rfl | rfl <;> rw [if_neg (by decide +kernel), if_neg (by decide +kernel), if_neg (by decide +kernel)]
theorem deedF_not {s : Str} (ds : List K0.D) (h : ¬ s ∈ deedWords) : deedF s ds = false := by
  have hn : ∀ t ∈ deedWords, ¬ (s = t) := fun t ht z => h (z ▸ ht)
  unfold deedF loneF
  rw [if_neg (hn _ (by simp [deedWords])), if_neg (hn _ (by simp [deedWords])), if_neg (hn _ (by simp [deedWords])), if_neg (hn _ (by simp [deedWords])), if_neg (hn _ (by simp [deedWords])), if_neg (hn _ (by simp [deedWords])), if_neg (hn _ (by simp [deedWords])), if_neg (hn _ (by simp [deedWords]))]
theorem lookup_not {s : Str} : ∀ {ts : List (Str × Addr)}, (∀ t ∈ ts, ¬ t.1 = s) → ts.lookup s = none
  | [], _ => rfl
  | t :: r, h => by
    rw [List.lookup_cons]
    have h1 := h t (List.mem_cons_self ..)
    rw [show (s == t.1) = false from beq_eq_false_iff_ne.mpr fun z => h1 z.symm]
    exact lookup_not fun u hu => h u (List.mem_cons_of_mem _ hu)
def sp_is_deed (K : PySem.W.Frag) : Sp := fun vs H Q _ => ∃ x d, vs = [x] ∧ Rp K H x d ∧ d.size ≤ 29000 ∧ d.wordO.isSome = true ∧ RetV (.bl d.deed) H Q
theorem len_is_deed {vs : List V} {H : Hp} {Q : VK} {E : XK} (h : sp_is_deed K vs H Q E) : vs.length = 1 := by
  obtain ⟨x, d, rfl, _⟩ := h
  rfl
theorem sv_deed {H : Hp} {x : V} {d : K0.D} (h : Rp K H x d) (hs : d.size ≤ 29000) (hw : d.wordO.isSome = true) : SpV (sp_is_deed K) [x] H (.bl d.deed) := fun H1 e Q q E => ⟨x, d, rfl, h.ex e, hs, hw, q⟩
theorem ok_is_deed (T : Txt K mg A D) (U : Tab K w mg A) : FnOk P w K mg base CX0 24 A.is_deed D.is_deed ["value"] (sp_is_deed K) := by
  have G_word_of : FnOk P w K mg base CX0 1 A.word_of D.word_of ["value"] (sp_word_of K) := ok_word_of T
  obtain ⟨a_DEED_FORMS, g_DEED_FORMS, _, _, kd_DEED_FORMS, nx_DEED_FORMS⟩ := U.d_DEED_FORMS
  have held : ∀ q ∈ hiSS K A, Held P w K mg base 23 q.1 q.2 := by
    intro q hq
    simp only [hiSS, loSS, List.cons_append, List.nil_append, List.mem_cons, List.not_mem_nil, or_false] at hq
    rcases hq with rfl | rfl | rfl | rfl | rfl | rfl | rfl
    · exact ⟨_, _, (ok_is_put T).mono (by decide), T.F_is_put.kp, T.b_is_put⟩
    · exact ⟨_, _, (ok_is_of_key T).mono (by decide), T.F_is_of_key.kp, T.b_is_of_key⟩
    · exact ⟨_, _, (ok_is_add T).mono (by decide), T.F_is_add.kp, T.b_is_add⟩
    · exact ⟨_, _, (ok_is_swap T).mono (by decide), T.F_is_swap.kp, T.b_is_swap⟩
    · exact ⟨_, _, (ok_is_list T).mono (by decide), T.F_is_list.kp, T.b_is_list⟩
    · exact ⟨_, _, (ok_is_all T U).mono (by decide), T.F_is_all.kp, T.b_is_all⟩
    · exact ⟨_, _, (ok_is_of_circle T).mono (by decide), T.F_is_of_circle.kp, T.b_is_of_circle⟩
  refine T.F_is_deed.ok sc_is_deed (fun vs H Q E h => len_is_deed h) (fun cdv A0 outer s H vs Q E hr h => ?_)
  refine ⟨_, (pss_cons (ps_set (i := 1) sc_is_deed.nd rfl (Or.inl rfl) (pe_call G_word_of (hr.mono (by decide)) rfl T.g_word_of T.F_word_of.kp T.b_word_of .nil pass0 (pa_cons (pv 0) pa_nil)))
  (pss_cons (ps_if (pt_cmpR (op_notIn_kd kd_DEED_FORMS) (pv 1) (pe_glob (v := .ref a_DEED_FORMS) rfl g_DEED_FORMS rfl) (by rfl)) (pss_one (ps_ret pe_bl)) pss_nil)
  (pss_cons (ps_set (i := 2) sc_is_deed.nd rfl (Or.inl rfl) (pe_ix ix_kdict (pe_glob (v := .ref a_DEED_FORMS) rfl g_DEED_FORMS rfl) (pv 1) (fun _ _ => rfl)))
  (pss_one (ps_ret (pe_callS (i := 2) held hr rfl (Or.inl rfl) (pa_cons (pv 0) pa_nil))))))), ?_⟩
  obtain ⟨x, d, rfl, hx, hs, hw, k⟩ := h
  cases hwo : d.wordO with
  | none => rw [hwo] at hw; cases hw
  | some s =>
  obtain ⟨r, rfl⟩ := word_tup hwo
  have hs2 : K0.D.sizeL (K0.D.str s :: r) ≤ 29000 := by
    simp only [K0.D.size] at hs
    omega
  refine q_asg (v := .str s) (ev_call (ea_cons (ev_var rfl) ea_nil) (sv_word hx (by omega))) fun H1 e1 => ?_
  by_cases hin : s ∈ deedWords
  · have got : ∃ f sp, (f, sp) ∈ hiSS K A ∧ PySem.W.nsIn K a_DEED_FORMS s = some (some (.ref f)) ∧ SpV sp [x] H (.bl (K0.D.tup (.str s :: r)).deed) := by
      have hc : s = "put" ∨ s = "drop" ∨ s = "get" ∨ s = "add" ∨ s = "swap" ∨ s = "list" ∨ s = "all" ∨ s = "circle" := by simpa [deedWords] using hin
      rcases hc with rfl | rfl | rfl | rfl | rfl | rfl | rfl | rfl
      · exact ⟨A.is_put, sp_is_put K, by simp [hiSS, loSS], nx_DEED_FORMS "put", sv_is (svF (f := fPut) hx hs2) ((deedF_lot _ (by decide +kernel)).trans (loneF_put _))⟩
      · exact ⟨A.is_of_key, sp_is_of_key K, by simp [hiSS, loSS], nx_DEED_FORMS "drop", sv_is (svF (f := fKey) hx hs2) ((deedF_lot _ (by decide +kernel)).trans (loneF_drop _))⟩
      · exact ⟨A.is_of_key, sp_is_of_key K, by simp [hiSS, loSS], nx_DEED_FORMS "get", sv_is (svF (f := fKey) hx hs2) ((deedF_lot _ (by decide +kernel)).trans (loneF_get _))⟩
      · exact ⟨A.is_add, sp_is_add K, by simp [hiSS, loSS], nx_DEED_FORMS "add", sv_is (svF (f := fAdd) hx hs2) ((deedF_lot _ (by decide +kernel)).trans (loneF_add _))⟩
      · exact ⟨A.is_swap, sp_is_swap K, by simp [hiSS, loSS], nx_DEED_FORMS "swap", sv_is (svF (f := fSwap) hx hs2) ((deedF_lot _ (by decide +kernel)).trans (loneF_swap _))⟩
      · exact ⟨A.is_list, sp_is_list K, by simp [hiSS, loSS], nx_DEED_FORMS "list", sv_is (svF (f := fList) hx hs2) (deedF_list _)⟩
      · exact ⟨A.is_all, sp_is_all K, by simp [hiSS, loSS], nx_DEED_FORMS "all", sv_is (svF (f := fAll) hx hs2) (deedF_all _)⟩
      · exact ⟨A.is_of_circle, sp_is_of_circle K, by simp [hiSS, loSS], nx_DEED_FORMS "circle", sv_is (svF (f := fCirc) hx hs2) (deedF_circle _)⟩
    obtain ⟨f, sp, hm, hn, hv⟩ := got
    refine q_when (b := false) (et_test (ev_op (ev_var rfl) ev_c (rv_nik hn))) (fun z => by cases z) fun _ H2 e2 => ?_
    refine q_asg (ev_op ev_c (ev_var rfl) (rv_kd kd_DEED_FORMS hn)) fun H3 e3 => ?_
    exact s_ret (ev_callS (p := (f, sp)) hm rfl (ea_cons (ev_var rfl) ea_nil) fun H4 e4 Q q E => hv H4 (((e1.trans e2).trans e3).trans e4) Q q E) fun H4 e4 => k H4 (((e1.trans e2).trans e3).trans e4)
  · have hn : PySem.W.nsIn K a_DEED_FORMS s = some none := by
      rw [nx_DEED_FORMS, lookup_not]
      · rfl
      · intro t ht z
        refine hin ?_
        rw [← z]
        simp only [List.mem_cons, List.not_mem_nil, or_false] at ht
        rcases ht with rfl | rfl | rfl | rfl | rfl | rfl | rfl | rfl <;> simp [deedWords]
    refine q_when (b := true) (et_test (ev_op (ev_var rfl) ev_c (rv_nik hn))) (fun _ H2 e2 => ?_) (fun z => by cases z)
    refine s_ret ev_c fun H3 e3 => ?_
    have := k H3 ((e1.trans e2).trans e3)
    rw [show (K0.D.tup (.str s :: r)).deed = false from deedF_not _ hin] at this
    exact this
/-! ### pairs -/
def PVal (ps : Ps) : Prop := ps.length ≤ 24 ∧ ∀ p ∈ ps, (K0.D.str p.1).key = true ∧ p.2.value = true ∧ p.2.size ≤ 100 ∧ (K0.D.str p.1).size ≤ 100
def sp_lacks_room (K : PySem.W.Frag) : Sp := fun vs H Q _ => ∃ a k ps, vs = [.ref a, .str k] ∧ PairsAt H a ps ∧ RetV (.bl (!hasP ps k && decide (24 ≤ ps.length))) H Q
theorem len_lacks_room {vs : List V} {H : Hp} {Q : VK} {E : XK} (h : sp_lacks_room K vs H Q E) : vs.length = 2 := by
  obtain ⟨a, k, ps, rfl, _⟩ := h
  rfl
/-- pairs with a key exchanged, or without it -/
def exchP (ps : Ps) (k : Str) : K0.D → Ps
  | .non => dropP ps k
  | d => putP ps k d
def sp_exchanged (K : PySem.W.Frag) : Sp := fun vs H Q _ => ∃ a k ps v d, vs = [.ref a, .str k, v] ∧ PairsAt H a ps ∧ ps.length ≤ 1000 ∧ Rp K H v d ∧ (d.isNon = true ∨ d.isAt = true) ∧ RetP (exchP ps k d) H Q
theorem len_exchanged {vs : List V} {H : Hp} {Q : VK} {E : XK} (h : sp_exchanged K vs H Q E) : vs.length = 3 := by
  obtain ⟨a, k, ps, v, d, rfl, _⟩ := h
  rfl
end
end K0

namespace K0
open PySem L2 Evl
section
variable {K : PySem.W.Frag} {σ : L2.St} {H : Hp} {te td : TE} {t : TT}
/-- a comprehension while d is locked -/
theorem el_lock {d : Addr} {u : HO} {xs : List V} (hd : H d = some u) (hm : Mut (some u)) (h : ∀ H1 od, Ex H H1 → EvL te σ (upd H1 d (.frz od u)) xs) : EvL (tLockE te) σ H xs := fun H1 e Q q => by
  refine ⟨d, u, e _ _ hd, hm, fun od => h H1 od e _ (Ex.refl _) _ fun p H2 hp e2 h2 => ?_⟩
  have hdl : H2 d = some (.frz od u) := e2 _ _ upd_same
  have npd : p ≠ d := fun z => by
    rw [z, upd_same] at hp
    cases hp
  rw [upd_ne npd] at hp
  refine ⟨hdl, q p _ hp (fun b o hb => ?_) (by rw [upd_ne npd]; exact h2)⟩
  by_cases c : b = d
  · subst c
    rw [upd_same]
    rw [e _ _ hd] at hb
    exact hb
  · rw [upd_ne c]
    exact e2 _ _ (by rw [upd_ne c]; exact hb)
/-- [.. for k, v in d.items()], d locked, without a test -/
theorem el_items {d : Addr} {od : Obj} {kvs : List (Key × V)} {i1 i2 : Nat} {vs : List Nat} (v : Nat → V) (h : Ev td σ H (.ref d)) (hd : H d = some (.frz od (.dK kvs))) (hz : kvs.length ≤ 40000)
    (hw : ∀ x y, wipe (((wipe σ vs).set i1 (some x)).set i2 (some y)) vs = wipe σ vs)
    (he : ∀ (i : Nat) (q : Key × V) H1, Ex H H1 → kvs[i]? = some q → Ev te (((wipe σ vs).set i1 (some (kV q.1))).set i2 (some q.2)) H1 (v i)) :
    EvL (tLc (iItems td) (gTup K 2 (gCons (gName i1) (gCons (gName i2) gNil))) tYes te vs) σ H ((List.range kvs.length).map v) := fun H0 e Q q => h H0 e _ fun H1 e1 => by
  refine ⟨d, od, kvs, rfl, e1 _ _ (e _ _ hd), fun Dl hD => ?_⟩
  have e01 := e.trans e1
  refine lc_it (walk_items (d := d) (o := od) (kvs := kvs)) (Cw H1 (fun _ => true) v Dl) ⟨hD, Ex.new hD, upd_same⟩ (fun i H' _ p => p.2.1 _ _ (e01 _ _ hd)) (fun i x H' H'' hi p yp => ?_) (fun H' p => ?_)
  · obtain ⟨T, a, b, rfl, hT, rfl, ha, hb⟩ := yp
    have hq : kvs[i]? = some kvs[i] := List.getElem?_eq_getElem hi
    have ha' : Option.map (fun kv : Key × V => kV kv.1) kvs[i]? = some a := ha
    have hb' : Option.map Prod.snd kvs[i]? = some b := hb
    rw [hq] at ha' hb'
    cases ha'
    cases hb'
    have hne : Dl ≠ T := ne_of_none p.2.2 hT
    have p' : Cw H1 (fun _ => true) v Dl i (upd H' T (.tup [kV kvs[i].1, kvs[i].2])) := ⟨p.1, p.2.1.trans (Ex.new hT), by rw [upd_ne hne]; exact p.2.2⟩
    refine ⟨T, _, rfl, st_of upd_same, rfl, _, _, rfl, _, _, rfl, rfl, hw _ _, cw_turn p' (by omega) et_yes fun _ => ?_⟩
    exact he i _ H1 e01 hq
  · have := p.2.2
    rw [given_map (fun _ => rfl)] at this
    exact q Dl H' (fresh_back e1 p.1) (e1.trans p.2.1) this
/-- a dict comprehension over a list -/
theorem dc_list {a : Addr} {xs : List V} {g : TG} {tt : TT} {tk tv : TE} {vs : List Nat} {H1 : Hp} {D : Addr} {Qd : Hp → Prop} (Pv : Nat → Hp → Prop) (h0 : Pv 0 (upd H1 D (.dK []))) (hl : ∀ i H, i ≤ xs.length → Pv i H → SqL K H a xs)
    (hs : ∀ i x H, xs[i]? = some x → Pv i H → g x (wipe σ vs) H fun σ2 H2 => wipe σ2 vs = wipe σ vs ∧ tt σ2 H2 fun b H3 =>
      if b = true then tk σ2 H3 fun y H4 => tv σ2 H4 fun z H5 => ∃ kvs k, y = kV k ∧ H5 D = some (.dK kvs) ∧ kvs.length < sizeLine ∧ Pv (i + 1) (upd H5 D (.dK (putK kvs k z))) else Pv (i + 1) H3) (hd : ∀ H, Pv xs.length H → Qd H) :
    ∃ W : Nat → Nat → Hp → Prop, (∃ m, W 0 m (upd H1 D (.dK []))) ∧ ∀ i m H, W i m H → ((Itl K a).stop i H ∧ Qd H) ∨ ((Itl K a).go i H ∧ ∃ Nx : Hp → Prop, (∀ H', Nx H' → ∃ m', m' < m ∧ W (i + 1) m' H') ∧
      ∀ x H', (Itl K a).yld i H x H' → g x (wipe σ vs) H' fun σ2 H2 => wipe σ2 vs = wipe σ vs ∧ tt σ2 H2 fun b H3 => if b = true then tk σ2 H3 fun y H4 => tv σ2 H4 fun z H5 => ∃ kvs k, y = kV k ∧ H5 D = some (.dK kvs) ∧ kvs.length < sizeLine ∧ Nx (upd H5 D (.dK (putK kvs k z))) else Nx H3) := by
  refine ⟨fun i m H => m = xs.length - i ∧ i ≤ xs.length ∧ Pv i H, ⟨_, rfl, Nat.zero_le _, h0⟩, ?_⟩
  rintro i m H ⟨rfl, hi, p⟩
  have sq := hl i H hi p
  by_cases lt : i < xs.length
  · refine .inr ⟨walk_list.goes i H lt sq, Pv (i + 1), fun H' p' => ⟨xs.length - (i + 1), by omega, rfl, lt, p'⟩, fun x H' y => ?_⟩
    obtain ⟨e1, e2⟩ := walk_list.yields i H x H' lt sq y
    subst e1
    exact hs i x _ e2 p
  · obtain rfl : i = xs.length := by omega
    exact .inl ⟨walk_list.stops H sq, hd H p⟩
end
theorem keys_kv (ps : Ps) : (kv ps).map (·.1) = (keysP ps).map Sum.inr := by
  unfold kv keysP
  rw [List.map_map, List.map_map]
  rfl
/-- the pairs with these keys -/
def pick (ps : Ps) (ys : List Str) : Ps := ys.map fun k => (k, (lookP ps k).getD .non)
theorem pick_keys (ps : Ps) (ys : List Str) : keysP (pick ps ys) = ys := by
  unfold keysP pick
  rw [List.map_map]
  exact List.map_id' ys
theorem pick_self {ps : Ps} (n : NoTwo ps) : pick ps (keysP ps) = ps := by
  unfold pick keysP
  rw [List.map_map]
  have : ∀ p ∈ ps, ((fun k => (k, (lookP ps k).getD .non)) ∘ fun p : Str × D => p.1) p = p := fun p hp => by
    show (p.1, (lookP ps p.1).getD .non) = p
    rw [mem_look n hp]
    rfl
  rw [List.map_congr_left this]
  exact List.map_id' ps
theorem pick_perm {ps : Ps} (n : NoTwo ps) {ys : List Str} (h : ys.Perm (keysP ps)) : (pick ps ys).Perm ps := by
  have := h.map fun k => (k, (lookP ps k).getD D.non)
  rw [show (keysP ps).map (fun k => (k, (lookP ps k).getD D.non)) = pick ps (keysP ps) from rfl, pick_self n] at this
  exact this
theorem look_in {ps : Ps} {k : Str} (h : k ∈ keysP ps) : ∃ d, lookP ps k = some d := by
  have := has_mem.mpr h
  rw [← look_has] at this
  exact Option.isSome_iff_exists.mp this
section
variable {P : Program} {w : World} {K : PySem.W.Frag} {mg : Str → Option Value} {base : Heap} {A : Ad} {D : Fd}
def sp_are_pairs (K : PySem.W.Frag) : Sp := fun vs H Q _ => ∃ a ps, vs = [.ref a] ∧ PairsAt H a ps ∧ PVal ps ∧ RetV (.bl true) H Q
theorem len_are_pairs {vs : List V} {H : Hp} {Q : VK} {E : XK} (h : sp_are_pairs K vs H Q E) : vs.length = 1 := by
  obtain ⟨a, ps, rfl, _⟩ := h
  rfl
def sp_by_keys (K : PySem.W.Frag) : Sp := fun vs H Q _ => ∃ a ps, vs = [.ref a] ∧ PairsAt H a ps ∧ ps.length ≤ 60 ∧ ∀ p ys H', Ex H H' → H' p = some (.dK (kv (pick ps ys))) → ys.Perm (keysP ps) → PyProof.Rows.sortedS ys = true → NoTwo ps → AllAt ps → Q (.ref p) H'
theorem len_by_keys {vs : List V} {H : Hp} {Q : VK} {E : XK} (h : sp_by_keys K vs H Q E) : vs.length = 1 := by
  obtain ⟨a, ps, rfl, _⟩ := h
  rfl
end
end K0

namespace K0
open PySem L2 Evl
open SrtO (lessB)
/-! ### texts in order -/
theorem str_ext {x y : Str} (h : x.cps.toList = y.cps.toList) : x = y := by
  obtain ⟨⟨a⟩⟩ := x
  obtain ⟨⟨b⟩⟩ := y
  have h' : a = b := h
  rw [h']
theorem less_anti {x y : Str} (h1 : lessB x y = false) (h2 : lessB y x = false) : x = y := by
  have a : y.cps.toList ≤ x.cps.toList := of_decide_eq_false h1
  have b : x.cps.toList ≤ y.cps.toList := of_decide_eq_false h2
  exact str_ext (List.le_antisymm b a)
theorem less_tr {x y z : Str} (h1 : lessB y x = false) (h2 : lessB z y = false) : lessB z x = false := (SrtO.swo_tx (α := Str) id).tr x y z h1 h2
theorem less_tot (x y : Str) : lessB y x = false ∨ lessB x y = false := by
  cases h : lessB y x with
  | false => exact .inl rfl
  | true => exact .inr ((SrtO.swo_tx (α := Str) id).asym y x h)
theorem rising_pw : ∀ (ys : List Str) (x : Str), PyProof.Rows.risingS x ys = true → (x :: ys).Pairwise fun p q => lessB q p = false
  | [], x, _ => List.pairwise_singleton _ _
  | y :: r, x, h => by
    have h' : (!Spec.ltCps y.cps.toList x.cps.toList && PyProof.Rows.risingS y r) = true := h
    have h2 := Bool.and_eq_true_iff.mp h'
    have ih := rising_pw r y h2.2
    have h3 : lessB y x = false := by
      have := h2.1
      rw [PyProof.Rows.ltCps_eq] at this
      simpa [lessB] using this
    refine List.pairwise_cons.mpr ⟨fun z hz => ?_, ih⟩
    rcases List.mem_cons.mp hz with rfl | hz
    · exact h3
    · exact less_tr h3 ((List.pairwise_cons.mp ih).1 z hz)
theorem sorted_pw {ys : List Str} (h : PyProof.Rows.sortedS ys = true) : ys.Pairwise fun p q => lessB q p = false := by
  cases ys with
  | nil => exact List.Pairwise.nil
  | cons y r => exact rising_pw r y h
def sortP (ps : Ps) : Ps := ps.mergeSort fun p q => !lessB q.1 p.1
theorem sortP_perm (ps : Ps) : (sortP ps).Perm ps := List.mergeSort_perm _ _
theorem sortP_pw (ps : Ps) : (sortP ps).Pairwise fun p q => lessB q.1 p.1 = false := by
  have := List.pairwise_mergeSort (le := fun p q : Str × D => !lessB q.1 p.1) (fun a b c h1 h2 => ?_) (fun a b => ?_) ps
  · exact this.imp fun h => by simpa using h
  · have h1' : lessB b.1 a.1 = false := by simpa using h1
    have h2' : lessB c.1 b.1 = false := by simpa using h2
    rw [less_tr h1' h2']
    rfl
  · rcases less_tot a.1 b.1 with h | h
    · rw [h]
      rfl
    · rw [h]
      simp
theorem sortP_uniq {L M : Ps} (hp : L.Perm M) (n : NoTwo M) (h : L.Pairwise fun p q => lessB q.1 p.1 = false) : L = sortP M := by
  refine List.Perm.eq_of_pairwise (le := fun p q : Str × D => lessB q.1 p.1 = false) (fun a b ha hb h1 h2 => ?_) h (sortP_pw M) (hp.trans (sortP_perm M).symm)
  have ha' : a ∈ M := hp.mem_iff.mp ha
  have hb' : b ∈ M := (sortP_perm M).mem_iff.mp hb
  have e : a.1 = b.1 := less_anti h2 h1
  have l1 := mem_look (k := a.1) (d := a.2) n ha'
  have l2 := mem_look (k := b.1) (d := b.2) n hb'
  rw [e, l2] at l1
  exact Prod.ext e (Option.some.inj l1).symm
def inR (a b k : Str) : Bool := !lessB k a && lessB k b
def rowsP (ps : Ps) (a b : Str) : Ps := sortP (ps.filter fun p => inR a b p.1)
theorem NoTwo.filter {ps : Ps} (n : NoTwo ps) (f : Str × D → Bool) : NoTwo (ps.filter f) := by
  unfold NoTwo keysP
  exact List.Nodup.sublist (List.Sublist.map _ List.filter_sublist) n
theorem rows_uniq {L ps : Ps} {a b : Str} (hp : L.Perm (ps.filter fun p => inR a b p.1)) (n : NoTwo ps) (h : L.Pairwise fun p q => lessB q.1 p.1 = false) : L = rowsP ps a b := sortP_uniq hp (n.filter _) h
def prS (p : Str × D) : D := .tup [.str p.1, p.2]
/-! ### comprehensions of data with a test -/
section
variable {K : PySem.W.Frag} {σ : L2.St} {H H1 : Hp} {te tl : TE} {t : TT} {vs : List Nat} {j : Nat} {Q : VK}
/-- a comprehension over what yields the items f y, one by one, each kept one giving the data G y -/
theorem lc_dataF {α : Type} {J : It} {Gd : Hp → Prop} {ys : List α} {f : α → V} {Pk : α → Bool} {G : α → D} (w : Walk J ys.length Gd (YAt (ys.map f))) (hG : ∀ H', Ex H1 H' → Gd H') (hz : ys.length ≤ 40000)
    (hw : ∀ x, wipe ((wipe σ vs).set j (some x)) vs = wipe σ vs)
    (ht : ∀ y H', y ∈ ys → Ex H1 H' → EvT t ((wipe σ vs).set j (some (f y))) H' (Pk y)) (he : ∀ y H', y ∈ ys → Pk y = true → Ex H1 H' → EvD K te ((wipe σ vs).set j (some (f y))) H' (G y))
    (q : ∀ p xs H2, H1 p = none → Ex H1 H2 → H2 p = some (.lst xs) → RpAll K H2 xs ((ys.filter Pk).map G) → Q (.ref p) H2) :
    ∀ Dl, H1 Dl = none → ∃ W : Nat → Nat → Hp → Prop, (∃ m, W 0 m (upd H1 Dl (.lst []))) ∧ ∀ i m H, W i m H → (J.stop i H ∧ Q (.ref Dl) H) ∨ (J.go i H ∧ ∃ Nx : Hp → Prop, (∀ H', Nx H' → ∃ m', m' < m ∧ W (i + 1) m' H') ∧
      ∀ x H', J.yld i H x H' → gName j x (wipe σ vs) H' fun σ2 H2 => wipe σ2 vs = wipe σ vs ∧ t σ2 H2 fun b H3 => if b = true then te σ2 H3 fun y H4 => ∃ acc, H4 Dl = some (.lst acc) ∧ acc.length < sizeLine ∧ Nx (upd H4 Dl (.lst (acc ++ [y]))) else Nx H3) := fun Dl hD => by
  refine lc_it w (fun i H' => i ≤ ys.length ∧ ∃ acc, H' Dl = some (.lst acc) ∧ RpAll K H' acc (((ys.take i).filter Pk).map G) ∧ Ex H1 H') ⟨Nat.zero_le _, [], upd_same, .nil, Ex.new hD⟩ (fun i H' _ p => hG H' p.2.choose_spec.2.2) (fun i x H' H'' hi p y => ?_) (fun H' p => ?_)
  · obtain ⟨_, acc, p1, p2, p3⟩ := p
    obtain ⟨rfl, hx⟩ := y
    rw [List.getElem?_map, List.getElem?_eq_getElem hi] at hx
    have hx' : f ys[i] = x := Option.some.inj hx
    subst hx'
    have hm : ys[i] ∈ ys := List.getElem_mem hi
    have et : ys.take (i + 1) = ys.take i ++ [ys[i]] := by rw [List.take_succ, List.getElem?_eq_getElem hi]; rfl
    refine ⟨hw _, ht ys[i] H'' hm p3 H'' (Ex.refl _) _ fun H3 e3 => ?_⟩
    have hal : acc.length ≤ i := by
      rw [p2.len, List.length_map]
      refine Nat.le_trans (List.length_filter_le _ _) ?_
      rw [List.length_take]
      omega
    cases hk : Pk ys[i] with
    | true =>
      rw [if_pos rfl]
      refine he ys[i] H3 hm hk (p3.trans e3) H3 (Ex.refl _) _ fun v H4 e4 hv => ?_
      have h4 := e4 _ _ (e3 _ _ p1)
      refine ⟨acc, h4, sz_lt (by omega), hi, acc ++ [v], upd_same, ?_, Ex.mut ((p3.trans e3).trans e4) hD⟩
      rw [et, List.filter_append, List.map_append, show [ys[i]].filter Pk = [ys[i]] from by rw [List.filter_cons, if_pos hk]; rfl]
      exact ((p2.ex (e3.trans e4)).app (.cons hv .nil)).exL (ExL.upd h4)
    | false =>
      rw [if_neg (by decide)]
      refine ⟨hi, acc, e3 _ _ p1, ?_, p3.trans e3⟩
      rw [et, List.filter_append, show [ys[i]].filter Pk = [] from by rw [List.filter_cons, if_neg (by rw [hk]; decide)]; rfl, List.append_nil]
      exact p2.ex e3
  · obtain ⟨_, acc, p1, p2, p3⟩ := p
    rw [List.take_length] at p2
    exact q Dl acc H' hD p3 p1 p2
/-- .. as what evaluates to a new list of data, over a list that stands -/
theorem edl_listF {α : Type} {a : Addr} {ys : List α} {f : α → V} {Pk : α → Bool} {G : α → D} (h : Ev tl σ H (.ref a)) (hx : SqL K H a (ys.map f)) (hz : ys.length ≤ 40000) (hw : ∀ x, wipe ((wipe σ vs).set j (some x)) vs = wipe σ vs)
    (ht : ∀ y H', y ∈ ys → Ex H H' → EvT t ((wipe σ vs).set j (some (f y))) H' (Pk y)) (he : ∀ y H', y ∈ ys → Pk y = true → Ex H H' → EvD K te ((wipe σ vs).set j (some (f y))) H' (G y)) :
    EvDL K (tLc (iList K tl) (gName j) t te vs) σ H ((ys.filter Pk).map G) := fun H0 e Q q => h H0 e _ fun H1 e1 => by
  have wk := walk_list (K := K) (a := a) (xs := ys.map f)
  rw [List.length_map] at wk
  exact ⟨a, rfl, ⟨_, ex_l (e.trans e1) hx⟩, lc_dataF wk (fun H' e' => ex_l ((e.trans e1).trans e') hx) hz hw (fun y H' hy e' => ht y H' hy ((e.trans e1).trans e')) (fun y H' hy hk e' => he y H' hy hk ((e.trans e1).trans e')) fun p xs H2 hp e2 h2 r => q p xs H2 (fresh_back e1 hp) (e1.trans e2) h2 r⟩
/-- tuple([..]) -/
theorem ed_tupNL {ds : List D} (h : EvDL K te σ H ds) : EvD K (tCB (rTupOf K) (tCons te tNil)) σ H (.tup ds) := fun H1 e Q q =>
  h H1 e _ fun p xs H2 hp e2 h2 r => ⟨p, xs, rfl, .inl ⟨sq_of h2, fun l hl => q (.ref l) _ (e2.trans (Ex.new hl)) (.tup (st_of upd_same) (r.ex (Ex.new hl)))⟩⟩
theorem rv_leS {a b : Str} : RV (fun x y H Q => ∃ i j, x = .str i ∧ y = .str j ∧ Q (.bl (!decide (j.cps.toList < i.cps.toList))) H) (.str a) (.str b) H (.bl (!lessB b a)) := fun H1 _ Q q => ⟨a, b, rfl, rfl, q H1 (Ex.refl _)⟩
theorem rv_ltS {a b : Str} : RV (fun x y H Q => ∃ i j, x = .str i ∧ y = .str j ∧ Q (.bl (decide (i.cps.toList < j.cps.toList))) H) (.str a) (.str b) H (.bl (lessB a b)) := fun H1 _ Q q => ⟨a, b, rfl, rfl, q H1 (Ex.refl _)⟩
end
end K0

namespace K0
open PySem L2 Evl
open SrtO (lessB)
/-! ### deeds, and what they do -/
inductive Lone where
  | put (k : Str) (d : D) | drop (k : Str) | get (k : Str) | add (k : Str) (n : Int) | swap (k : Str) (o n : D)
def Lone.enc : Lone → D
  | .put k d => .tup [.str "put", .str k, d]
  | .drop k => .tup [.str "drop", .str k]
  | .get k => .tup [.str "get", .str k]
  | .add k n => .tup [.str "add", .str k, .int n]
  | .swap k o n => .tup [.str "swap", .str k, o, n]
def D.isWo (d : D) : Bool := d.isNon || d.isAt
def Lone.fit : Lone → Bool
  | .put _ d => d.isAt | .swap _ o n => o.isWo && n.isWo | _ => true
def gotD (ps : Ps) (k : Str) : D := (lookP ps k).getD .non
def wasD (ps : Ps) (k : Str) : D := .tup [.str "was", gotD ps k]
def aD (w : Str) : D := .tup [.str w]
def lacks (ps : Ps) (k : Str) : Bool := !hasP ps k && decide (24 ≤ ps.length)
def bigI (t : Int) : Bool := decide ((999999999999 : Int) < (if t < 0 then -t else t))
def sameA (d e : D) : Bool := decide (atV d = atV e)
def addI (ps : Ps) (k : Str) (t : Int) : Ps × D := if bigI t then (ps, aD "bound") else if lacks ps k then (ps, aD "full") else (putP ps k (.int t), .tup [.str "sum", .int t])
def intOf : D → Int
  | .int i => i | _ => 0
def stepL (ps : Ps) : Lone → Ps × D
  | .put k d => if lacks ps k then (ps, aD "full") else (putP ps k d, wasD ps k)
  | .drop k => (dropP ps k, wasD ps k)
  | .get k => (ps, .tup [.str "is", gotD ps k])
  | .add k n => if (gotD ps k).isStr then (ps, aD "kind") else addI ps k (intOf (gotD ps k) + n)
  | .swap k o n => if !sameA (gotD ps k) o then (ps, .tup [.str "other", gotD ps k]) else if !n.isNon && lacks ps k then (ps, aD "full") else (exchP ps k n, aD "swapped")
section
variable {K : PySem.W.Frag} {σ : L2.St} {H : Hp} {te td ty tx : TE} {ta : TA} {D : Ends} {tz : TS} {ps : Ps} {d : K0.D} {k : Str}
/-- what returns a pair of pairs and data -/
def RetPA (K : PySem.W.Frag) (r : Ps × K0.D) (H : Hp) (Q : VK) : Prop := ∀ t p v H', Ex H H' → SqT K H' t [.ref p, v] → PairsAt H' p r.1 → Rp K H' v r.2 → Q (.ref t) H'
theorem r_pa (h1 : EvP te σ H ps) (h2 : EvD K td σ H d) (k : ∀ t p v H', Ex H H' → SqT K H' t [.ref p, v] → PairsAt H' p ps → Rp K H' v d → D.rt (.ref t) H') : tRet (tTup (tCons te (tCons td tNil))) D σ H :=
  h1 H (Ex.refl H) _ fun p H1 e1 hp => h2 H1 e1 _ fun v H2 e2 hv => ⟨sz_of (by simp), fun t ht => k t p v _ ((e1.trans e2).trans (Ex.new ht)) (st_of upd_same) ((hp.ex e2).ex (Ex.new ht)) (hv.ex (Ex.new ht))⟩
theorem q_unp3 {i a b c : Nat} {t : Addr} {x y z : V} (h : σ[i]? = some (some (.ref t))) (ht : SqT K H t [x, y, z]) (k : tz D (((σ.set a (some x)).set b (some y)).set c (some z)) H) :
    tSeq (tAsg (tVar i) (gTup K 3 (gCons (gName a) (gCons (gName b) (gCons (gName c) gNil))))) tz D σ H := ⟨_, h, t, _, rfl, ht, rfl, _, _, rfl, _, _, rfl, _, _, rfl, rfl, k⟩
theorem q_unp4 {i a b c d : Nat} {t : Addr} {x y z u : V} (h : σ[i]? = some (some (.ref t))) (ht : SqT K H t [x, y, z, u]) (k : tz D ((((σ.set a (some x)).set b (some y)).set c (some z)).set d (some u)) H) :
    tSeq (tAsg (tVar i) (gTup K 4 (gCons (gName a) (gCons (gName b) (gCons (gName c) (gCons (gName d) gNil)))))) tz D σ H := ⟨_, h, t, _, rfl, ht, rfl, _, _, rfl, _, _, rfl, _, _, rfl, _, _, rfl, rfl, k⟩
theorem rp_got {ps : Ps} (z : AllAt ps) (k : Str) : Rp K H (gotV ps k .non) (gotD ps k) := by
  unfold gotV gotD
  cases h : lookP ps k with
  | none => exact .non
  | some d => exact atV_rp (z _ (look_mem h))
theorem got_atV (ps : Ps) (k : Str) : gotV ps k .non = atV (gotD ps k) := by
  unfold gotV gotD
  cases lookP ps k <;> rfl
theorem got_wo {ps : Ps} (z : AllAt ps) (k : Str) : (gotD ps k).isWo = true := by
  unfold gotD
  cases h : lookP ps k with
  | none => rfl
  | some d =>
    show (d.isNon || d.isAt) = true
    rw [z _ (look_mem h), Bool.or_true]
theorem ed_pget {a : Addr} (h : Ev td σ H (.ref a)) (hk : Ev ty σ H (.str k)) (hp : PairsAt H a ps) : EvD K (tDGet1 td ty) σ H (gotD ps k) := ed_ev (ev_pget1 h hk hp) (rp_got hp.at_ k)
theorem ed_1 {w : Str} {x : K0.D} (h : EvD K te σ H x) : EvD K (tTup (tCons (tC (.str w)) (tCons te tNil))) σ H (.tup [.str w, x]) := ed_tup (eda_cons ed_str (eda_cons h eda_nil)) (by simp)
theorem ed_0 {w : Str} : EvD K (tTup (tCons (tC (.str w)) tNil)) σ H (aD w) := ed_tup (eda_cons ed_str eda_nil) (by simp)
theorem wo_scal {d e : K0.D} (h1 : d.isWo = true) (h2 : e.isWo = true) : scal (atV d) (atV e) = true := by
  cases d <;> cases e <;> first | rfl | (cases h1; done) | (cases h2; done)
theorem rp_wo {d : K0.D} {v : V} (h : d.isWo = true) (r : Rp K H v d) : v = atV d := by cases r <;> first | rfl | cases h
end
section
variable {P : Program} {w : World} {K : PySem.W.Frag} {mg : Str → Option Value} {base : Heap} {A : Ad} {D : Fd}
/-- a step -/
def spStep (f : Lone → Bool) (K : PySem.W.Frag) : Sp := fun vs H Q _ => ∃ a x ps l, vs = [.ref a, x] ∧ PairsAt H a ps ∧ ps.length ≤ 1000 ∧ Rp K H x (Lone.enc l) ∧ l.fit = true ∧ f l = true ∧ RetPA K (stepL ps l) H Q
theorem spStep_len {f : Lone → Bool} {vs : List V} {H : Hp} {Q : VK} {E : XK} (h : spStep f K vs H Q E) : vs.length = 2 := by
  obtain ⟨a, x, ps, l, rfl, _⟩ := h
  rfl
theorem ep_exch {σ : L2.St} {H : Hp} {ta tk tv : TE} {E : XK} {a : Addr} {ps : Ps} {k : Str} {v : V} {d : K0.D} (h1 : Ev ta σ H (.ref a)) (h2 : Ev tk σ H (.str k)) (h3 : Ev tv σ H v) (hp : PairsAt H a ps) (hl : ps.length ≤ 1000) (hv : Rp K H v d) (hd : d.isWo = true) :
    EvP (tCall (sp_exchanged K) [] E (tCons ta (tCons tk (tCons tv tNil)))) σ H (exchP ps k d) := fun H1 e Q q => by
  refine d_raw ?_
  refine (ea_cons h1 (ea_cons h2 (ea_cons h3 ea_nil)) : EvA _ _ H [.ref a, .str k, v]) H1 e _ fun H2 e2 => ?_
  exact ⟨a, k, ps, v, d, rfl, hp.ex (e.trans e2), hl, hv.ex (e.trans e2), Bool.or_eq_true_iff.mp hd, fun p H3 e3 h3 => q p H3 (e2.trans e3) h3⟩
theorem sv_lacks {H : Hp} {a : Addr} {k : Str} {ps : Ps} (hp : PairsAt H a ps) : SpV (sp_lacks_room K) [.ref a, .str k] H (.bl (lacks ps k)) := fun H1 e Q q E => ⟨a, k, ps, rfl, hp.ex e, q⟩
def isPut : Lone → Bool | .put _ _ => true | _ => false
def isDrop : Lone → Bool | .drop _ => true | _ => false
def isGet : Lone → Bool | .get _ => true | _ => false
def isAdd : Lone → Bool | .add _ _ => true | _ => false
def isSwap : Lone → Bool | .swap _ _ _ => true | _ => false
abbrev sp_do_put (K : PySem.W.Frag) : Sp := spStep isPut K
theorem len_do_put {vs : List V} {H : Hp} {Q : VK} {E : XK} (h : sp_do_put K vs H Q E) : vs.length = 2 := spStep_len h
theorem exch_at {ps : Ps} {k : Str} {d : K0.D} (h : d.isAt = true) : exchP ps k d = putP ps k d := by cases d <;> first | rfl | cases h
theorem at_wo {d : K0.D} (h : d.isAt = true) : d.isWo = true := by
  unfold K0.D.isWo
  rw [h, Bool.or_true]
/-- the members of a deed -/
theorem enc2 {H : Hp} {x : V} {w k : Str} (h : Rp K H x (.tup [.str w, .str k])) : ∃ t, x = .ref t ∧ SqT K H t [.str w, .str k] := by
  obtain ⟨t, xs, rfl, ht, r⟩ := h.tupI
  cases r with | cons r1 r => cases r1; cases r with | cons r2 r => cases r2; cases r; exact ⟨t, rfl, ht⟩
theorem enc3 {H : Hp} {x : V} {w k : Str} {d : K0.D} (h : Rp K H x (.tup [.str w, .str k, d])) : ∃ t v, x = .ref t ∧ SqT K H t [.str w, .str k, v] ∧ Rp K H v d := by
  obtain ⟨t, xs, rfl, ht, r⟩ := h.tupI
  cases r with | cons r1 r => cases r1; cases r with | cons r2 r => cases r2; cases r with | cons r3 r => cases r; exact ⟨t, _, rfl, ht, r3⟩
theorem enc4 {H : Hp} {x : V} {w k : Str} {d e : K0.D} (h : Rp K H x (.tup [.str w, .str k, d, e])) : ∃ t v u, x = .ref t ∧ SqT K H t [.str w, .str k, v, u] ∧ Rp K H v d ∧ Rp K H u e := by
  obtain ⟨t, xs, rfl, ht, r⟩ := h.tupI
  cases r with | cons r1 r => cases r1; cases r with | cons r2 r => cases r2; cases r with | cons r3 r => cases r with | cons r4 r => cases r; exact ⟨t, _, _, rfl, ht, r3, r4⟩
abbrev sp_do_drop (K : PySem.W.Frag) : Sp := spStep isDrop K
theorem len_do_drop {vs : List V} {H : Hp} {Q : VK} {E : XK} (h : sp_do_drop K vs H Q E) : vs.length = 2 := spStep_len h
abbrev sp_do_get (K : PySem.W.Frag) : Sp := spStep isGet K
theorem len_do_get {vs : List V} {H : Hp} {Q : VK} {E : XK} (h : sp_do_get K vs H Q E) : vs.length = 2 := spStep_len h
abbrev sp_do_add (K : PySem.W.Frag) : Sp := spStep isAdd K
theorem len_do_add {vs : List V} {H : Hp} {Q : VK} {E : XK} (h : sp_do_add K vs H Q E) : vs.length = 2 := spStep_len h
/-- what an addition starts from -/
def oldD (ps : Ps) (k : Str) : K0.D := (lookP ps k).getD (.int 0)
theorem old_got {ps : Ps} (z : AllAt ps) (k : Str) : (oldD ps k).isStr = (gotD ps k).isStr ∧ ((oldD ps k).isStr = false → oldD ps k = .int (intOf (gotD ps k))) := by
  unfold oldD gotD
  cases h : lookP ps k with
  | none => exact ⟨rfl, fun _ => rfl⟩
  | some d =>
    have hd := z _ (look_mem h)
    cases d with
    | int i => exact ⟨rfl, fun _ => rfl⟩
    | str s => exact ⟨rfl, fun q => by cases q⟩
    | _ => cases hd
theorem rv_gtI {H : Hp} {i j : Int} : RV (rI0 fun i j => .bl (decide (i > j))) (.int i) (.int j) H (.bl (decide (i > j))) := rv_I0
abbrev sp_do_swap (K : PySem.W.Frag) : Sp := spStep isSwap K
theorem len_do_swap {vs : List V} {H : Hp} {Q : VK} {E : XK} (h : sp_do_swap K vs H Q E) : vs.length = 2 := spStep_len h
theorem rv_notN {H : Hp} {x : V} : RV (fun x y H Q => y = .non ∧ Q (.bl (!decide (x = .non))) H) x .non H (.bl (!decide (x = .non))) := fun H1 _ _ q => ⟨rfl, q H1 (Ex.refl _)⟩
end
end K0

namespace K0
open PySem L2 Evl
open SrtO (lessB)
inductive Deed where
  | one (l : Lone) | list (a b : Str) | all (ls : List Lone) | circle (c : D)
def Deed.enc : Deed → D
  | .one l => l.enc
  | .list a b => .tup [.str "list", .str a, .str b]
  | .all ls => .tup [.str "all", .tup (ls.map Lone.enc)]
  | .circle c => .tup [.str "circle", c]
def runF (r : Ps × List D) (l : Lone) : Ps × List D := ((stepL r.1 l).1, r.2 ++ [(stepL r.1 l).2])
def runL (ps : Ps) (ls : List Lone) : Ps × List D := ls.foldl runF (ps, [])
def barWords : List Str := ["kind", "bound", "full", "other"]
def barD : D → Bool
  | .tup (.str w :: _) => barWords.contains w | _ => false
def rowsD (ps : Ps) (a b : Str) : D := .tup [.str "rows", .tup ((rowsP ps a b).map prS)]
def allR (ps : Ps) (r : Ps × List D) : Ps × D := match r.2.findIdx? barD with
  | some i => (ps, .tup [.str "none", .int (i : Nat)])
  | none => (r.1, .tup [.str "done", .tup r.2])
def stepD (ps : Ps) : Deed → Ps × D
  | .one l => stepL ps l
  | .list a b => (ps, rowsD ps a b)
  | .all ls => allR ps (runL ps ls)
  | .circle c => (ps, .tup [.str "next", c])
def Deed.fit : Deed → Bool
  | .one l => l.fit | .all ls => ls.all Lone.fit && decide (ls.length ≤ 6) | _ => true
theorem runL_take {ps : Ps} {ls : List Lone} {i : Nat} {l : Lone} (h : ls[i]? = some l) : runL ps (ls.take (i + 1)) = runF (runL ps (ls.take i)) l := by
  unfold runL
  rw [List.take_succ, h, List.foldl_append]
  rfl
theorem runF_len (ls : List Lone) : ∀ r : Ps × List D, (ls.foldl runF r).2.length = r.2.length + ls.length := by
  induction ls with
  | nil => intro r; rfl
  | cons l t ih =>
    intro r
    rw [List.foldl_cons, ih]
    simp [runF]
    omega
theorem runL_len (ps : Ps) (ls : List Lone) : (runL ps ls).2.length = ls.length := by
  unfold runL
  rw [runF_len]
  simp
theorem runF_pre (ls : List Lone) : ∀ r : Ps × List D, ∃ t, (ls.foldl runF r).2 = r.2 ++ t := by
  induction ls with
  | nil => intro r; exact ⟨[], by simp⟩
  | cons l t ih =>
    intro r
    obtain ⟨s, e⟩ := ih (runF r l)
    refine ⟨(stepL r.1 l).2 :: s, ?_⟩
    rw [List.foldl_cons, e]
    simp [runF]
theorem runL_pre (ps : Ps) (ls : List Lone) (i : Nat) : ∃ t, (runL ps ls).2 = (runL ps (ls.take i)).2 ++ t := by
  have e : runL ps ls = (ls.drop i).foldl runF (runL ps (ls.take i)) := by
    unfold runL
    rw [← List.foldl_append, List.take_append_drop]
  rw [e]
  exact runF_pre _ _
theorem put_len {ps : Ps} {k : Str} {d : D} (h : ps.length ≤ 24) (hl : lacks ps k = false) : (putP ps k d).length ≤ 24 := by
  unfold putP
  split
  · rw [List.length_map]
    exact h
  · rename_i c
    have c' : hasP ps k = false := by cases q : hasP ps k <;> first | rfl | exact absurd q c
    unfold lacks at hl
    rw [c'] at hl
    have := of_decide_eq_false (show decide (24 ≤ ps.length) = false from by simpa using hl)
    rw [List.length_append]
    show ps.length + 1 ≤ 24
    omega
theorem drop_len {ps : Ps} {k : Str} (h : ps.length ≤ 24) : (dropP ps k).length ≤ 24 := Nat.le_trans (List.length_filter_le _ _) h
theorem stepL_len {ps : Ps} (h : ps.length ≤ 24) (l : Lone) : (stepL ps l).1.length ≤ 24 := by
  cases l with
  | put k d =>
    cases c : lacks ps k with
    | true => rw [show stepL ps (.put k d) = (ps, aD "full") from if_pos c]; exact h
    | false => rw [show stepL ps (.put k d) = (putP ps k d, wasD ps k) from if_neg (by rw [c]; decide)]; exact put_len h c
  | drop k => exact drop_len h
  | get k => exact h
  | add k n =>
    show (if (gotD ps k).isStr = true then _ else _ : Ps × D).1.length ≤ 24
    split
    · exact h
    · unfold addI
      split
      · exact h
      · cases c : lacks ps k with
        | true => rw [if_pos rfl]; exact h
        | false => rw [if_neg (by decide)]; exact put_len h c
  | swap k o n =>
    show (if (!sameA (gotD ps k) o) = true then _ else _ : Ps × D).1.length ≤ 24
    split
    · exact h
    · split
      · exact h
      · rename_i c
        show (exchP ps k n).length ≤ 24
        cases hn : n.isNon with
        | true =>
          have : n = .non := by cases n <;> first | rfl | cases hn
          subst this
          exact drop_len h
        | false =>
          have e : exchP ps k n = putP ps k n := by cases n <;> first | rfl | cases hn
          rw [e]
          rw [hn] at c
          exact put_len h (by simpa using c)
theorem runL_24 {ps : Ps} (h : ps.length ≤ 24) (ls : List Lone) : (runL ps ls).1.length ≤ 24 := by
  unfold runL
  suffices ∀ r : Ps × List D, r.1.length ≤ 24 → (ls.foldl runF r).1.length ≤ 24 from this _ h
  induction ls with
  | nil => intro r hr; exact hr
  | cons l t ih =>
    intro r hr
    rw [List.foldl_cons]
    exact ih _ (stepL_len hr l)
theorem stepD_len {ps : Ps} (h : ps.length ≤ 24) (d : Deed) : (stepD ps d).1.length ≤ 24 := by
  cases d with
  | one l => exact stepL_len h l
  | all ls =>
    show (allR ps (runL ps ls)).1.length ≤ 24
    unfold allR
    split
    · exact h
    · exact runL_24 h ls
  | _ => exact h
theorem ans_word (ps : Ps) (l : Lone) : ∃ w r, (stepL ps l).2 = .tup (.str w :: r) := by
  cases l with
  | put k d => show ∃ w r, (if lacks ps k = true then _ else _ : Ps × D).2 = _; split <;> exact ⟨_, _, rfl⟩
  | drop k => exact ⟨_, _, rfl⟩
  | get k => exact ⟨_, _, rfl⟩
  | add k n =>
    show ∃ w r, (if (gotD ps k).isStr = true then _ else _ : Ps × D).2 = _
    split
    · exact ⟨_, _, rfl⟩
    · unfold addI
      split
      · exact ⟨_, _, rfl⟩
      · split <;> exact ⟨_, _, rfl⟩
  | swap k o n =>
    show ∃ w r, (if (!sameA (gotD ps k) o) = true then _ else _ : Ps × D).2 = _
    split
    · exact ⟨_, _, rfl⟩
    · split <;> exact ⟨_, _, rfl⟩
section
variable {P : Program} {w : World} {K : PySem.W.Frag} {mg : Str → Option Value} {base : Heap} {A : Ad} {D : Fd}
/-- the text at the head of a tuple -/
theorem rp_head {H : Hp} {x : V} {w : Str} {r : List K0.D} (h : Rp K H x (.tup (.str w :: r))) : ∃ t xs, x = .ref t ∧ SqT K H t (.str w :: xs) ∧ RpAll K H xs r := by
  obtain ⟨t, xs, rfl, ht, hr⟩ := h.tupI
  cases hr with
  | cons r1 r2 =>
    cases r1
    exact ⟨t, _, rfl, ht, r2⟩
theorem rp_2 {H : Hp} {x : V} {w : Str} {d : K0.D} (h : Rp K H x (.tup [.str w, d])) : ∃ t v, x = .ref t ∧ SqT K H t [.str w, v] ∧ Rp K H v d := by
  obtain ⟨t, xs, rfl, ht, hr⟩ := rp_head h
  cases hr with
  | cons r1 r2 =>
    cases r2
    exact ⟨t, _, rfl, ht, r1⟩
def sp_do_list (K : PySem.W.Frag) : Sp := fun vs H Q _ => ∃ a x ps b c, vs = [.ref a, x] ∧ PairsAt H a ps ∧ ps.length ≤ 24 ∧ Rp K H x (Deed.enc (.list b c)) ∧ RetPA K (stepD ps (.list b c)) H Q
theorem len_do_list {vs : List V} {H : Hp} {Q : VK} {E : XK} (h : sp_do_list K vs H Q E) : vs.length = 2 := by
  obtain ⟨a, x, ps, b, c, rfl, _⟩ := h
  rfl
def sp_do_circle (K : PySem.W.Frag) : Sp := fun vs H Q _ => ∃ a x ps c, vs = [.ref a, x] ∧ PairsAt H a ps ∧ Rp K H x (Deed.enc (.circle c)) ∧ RetPA K (stepD ps (.circle c)) H Q
theorem len_do_circle {vs : List V} {H : Hp} {Q : VK} {E : XK} (h : sp_do_circle K vs H Q E) : vs.length = 2 := by
  obtain ⟨a, x, ps, c, rfl, _⟩ := h
  rfl
end
end K0

namespace K0
open PySem L2 Evl
section
variable {P : Program} {w : World} {K : PySem.W.Frag} {mg : Str → Option Value} {base : Heap} {A : Ad} {D : Fd}
def sp_do_deed0 (K : PySem.W.Frag) : Sp := fun vs H Q _ => ∃ a x ps l, vs = [.ref a, x] ∧ PairsAt H a ps ∧ ps.length ≤ 1000 ∧ Rp K H x (Lone.enc l) ∧ l.fit = true ∧ RetPA K (stepL ps l) H Q
theorem len_do_deed0 {vs : List V} {H : Hp} {Q : VK} {E : XK} (h : sp_do_deed0 K vs H Q E) : vs.length = 2 := by
  obtain ⟨a, x, ps, l, rfl, _⟩ := h
  rfl
def Lone.word : Lone → Str
  | .put _ _ => "put" | .drop _ => "drop" | .get _ => "get" | .add _ _ => "add" | .swap _ _ _ => "swap"
theorem enc_head (l : Lone) : ∃ r, l.enc = .tup (.str l.word :: r) := by cases l <;> exact ⟨_, rfl⟩
theorem q_callPA {σ : L2.St} {H : Hp} {ta : TA} {sp : Sp} {E : XK} {vs : List V} {r : Ps × K0.D} {i j : Nat} {D : Ends} {tz : TS} (h : EvA ta σ H vs) (hs : ∀ H1 Q, Ex H H1 → RetPA K r H1 Q → sp vs H1 Q E)
    (k : ∀ p v H1, Ex H H1 → PairsAt H1 p r.1 → Rp K H1 v r.2 → tz D ((σ.set i (some (.ref p))).set j (some v)) H1) : tSeq (tAsg (tCall sp [] E ta) (gTup K 2 (gCons (gName i) (gCons (gName j) gNil)))) tz D σ H := by
  refine q_asgG (d_raw (h H (Ex.refl _) _ fun H1 e1 => hs H1 _ e1 fun t p v H2 e2 g1 g2 g3 => ?_))
  exact ⟨t, _, rfl, g1, rfl, _, _, rfl, _, _, rfl, rfl, k p v H2 (e1.trans e2) g2 g3⟩
/-- for i, x in enumerate(t): .. and what follows -/
theorem q_forEnT {σ : L2.St} {H : Hp} {ta : TA} {a : Addr} {xs : List V} {i1 i2 : Nat} {tu tz : TS} {D : Ends} (h : EvA ta σ H [.ref a]) (hx : SqT K H a xs) (Pv : Nat → L2.St → Hp → Prop) (h0 : ∀ H1, Ex H H1 → Pv 0 σ H1) (hG : ∀ i σ' H', Pv i σ' H' → SqT K H' a xs)
    (hs : ∀ i x σ' H' T, xs[i]? = some x → Pv i σ' H' → H' T = none → tu { nx := Pv (i + 1), rt := D.rt, bk := tz D, ct := Pv (i + 1) } ((σ'.set i1 (some (.int (i : Nat)))).set i2 (some x)) (upd H' T (.tup [.int (i : Nat), x])))
    (hd : ∀ σ' H', Pv xs.length σ' H' → tz D σ' H') : tSeq (tFor (iEnumT K ta) (gTup K 2 (gCons (gName i1) (gCons (gName i2) gNil))) tu) tz D σ H := by
  refine h H (Ex.refl _) _ fun H1 e1 => ⟨a, xs, rfl, ex_t e1 hx, ?_⟩
  refine for_it (D := { D with nx := fun σ H => tz D σ H }) walk_enumT Pv (h0 H1 e1) (fun i σ' H' _ p => hG i σ' H' p) (fun i x σ' H' H'' hi p y => ?_) hd
  obtain ⟨T, x1, x2, rfl, hT, rfl, y1, y2⟩ := y
  cases y1
  exact ⟨T, _, rfl, st_of upd_same, rfl, _, _, rfl, _, _, rfl, rfl, hs i x2 σ' H' T y2 p hT⟩
def breakV : List V := [.str "kind", .str "bound", .str "full", .str "other"]
theorem in_break (w : Str) : inV (.str w) breakV = barWords.contains w := inV_strs w barWords
def sp_do_all (K : PySem.W.Frag) : Sp := fun vs H Q _ => ∃ a x ps ls, vs = [.ref a, x] ∧ PairsAt H a ps ∧ ps.length ≤ 24 ∧ Rp K H x (Deed.enc (.all ls)) ∧ (Deed.all ls).fit = true ∧ RetPA K (stepD ps (.all ls)) H Q
theorem len_do_all {vs : List V} {H : Hp} {Q : VK} {E : XK} (h : sp_do_all K vs H Q E) : vs.length = 2 := by
  obtain ⟨a, x, ps, ls, rfl, _⟩ := h
  rfl
theorem find_none_pre {as bs : List K0.D} (h : as.findIdx? barD = none) (hb : ∀ b ∈ bs, barD b = false) : (as ++ bs).findIdx? barD = none := by
  rw [List.findIdx?_eq_none_iff] at h ⊢
  intro x hx
  rcases List.mem_append.mp hx with hx | hx
  · exact h x hx
  · exact hb x hx
end
end K0

namespace K0
open PySem L2 Evl
theorem runD_take {α β : Type} {f : β → α → β} {b : β} {ls : List α} {i : Nat} {l : α} (h : ls[i]? = some l) : (ls.take (i + 1)).foldl f b = f ((ls.take i).foldl f b) l := by
  rw [List.take_succ, h, List.foldl_append]
  rfl
def runDF (r : Ps × List D) (d : Deed) : Ps × List D := ((stepD r.1 d).1, r.2 ++ [(stepD r.1 d).2])
def runD (ps : Ps) (ds : List Deed) : Ps × List D := ds.foldl runDF (ps, [])
theorem runD_24 {ps : Ps} (h : ps.length ≤ 24) (ds : List Deed) : (runD ps ds).1.length ≤ 24 := by
  unfold runD
  suffices ∀ r : Ps × List D, r.1.length ≤ 24 → (ds.foldl runDF r).1.length ≤ 24 from this _ h
  induction ds with
  | nil => intro r hr; exact hr
  | cons l t ih =>
    intro r hr
    rw [List.foldl_cons]
    exact ih _ (stepD_len hr l)
theorem runD_len (ps : Ps) (ds : List Deed) : (runD ps ds).2.length = ds.length := by
  unfold runD
  suffices ∀ r : Ps × List D, (ds.foldl runDF r).2.length = r.2.length + ds.length by
    rw [this]
    simp
  induction ds with
  | nil => intro r; rfl
  | cons l t ih =>
    intro r
    rw [List.foldl_cons, ih]
    simp [runDF]
    omega
structure Deed.Good (d : Deed) : Prop where
  fit : d.fit = true
  deed : d.enc.deed = true
  size : d.enc.size ≤ 2000
def Deed.word : Deed → Str
  | .one l => l.word | .list _ _ => "list" | .all _ => "all" | .circle _ => "circle"
theorem encD_head (d : Deed) : ∃ r, d.enc = .tup (.str d.word :: r) := by
  cases d with
  | one l => exact enc_head l
  | _ => exact ⟨_, rfl⟩
theorem enc_some (d : Deed) : d.enc.wordO.isSome = true := by
  obtain ⟨r, e⟩ := encD_head d
  rw [e]
  rfl
section
variable {P : Program} {w : World} {K : PySem.W.Frag} {mg : Str → Option Value} {base : Heap} {A : Ad} {D : Fd}
def sp_do_deed (K : PySem.W.Frag) : Sp := fun vs H Q _ => ∃ a x ps d, vs = [.ref a, x] ∧ PairsAt H a ps ∧ ps.length ≤ 24 ∧ Rp K H x (Deed.enc d) ∧ d.fit = true ∧ RetPA K (stepD ps d) H Q
theorem len_do_deed {vs : List V} {H : Hp} {Q : VK} {E : XK} (h : sp_do_deed K vs H Q E) : vs.length = 2 := by
  obtain ⟨a, x, ps, d, rfl, _⟩ := h
  rfl
theorem rp_ref {H : Hp} {x : V} {d : Deed} (h : Rp K H x d.enc) : ∃ t, x = .ref t := by
  obtain ⟨r, e⟩ := encD_head d
  rw [e] at h
  obtain ⟨t, _, rfl, _⟩ := rp_head h
  exact ⟨t, rfl⟩
end
end K0

namespace K0
open PySem L2 Evl
section
variable {K : PySem.W.Frag} {H H' : Hp}
mutual
/-- clean data stays where tuples stay -/
theorem Rp.byT {v : V} {d : D} (c : d.clean = true) (h : ∀ a xs, SqT K H a xs → SqT K H' a xs) : Rp K H v d → Rp K H' v d
  | .non => .non
  | .bl b => .bl b
  | .int i => .int i
  | .str s => .str s
  | .tup g r => .tup (h _ _ g) (RpAll.byT c h r)
  | .lst g => by cases c
  | .dct g => by cases c
theorem RpAll.byT {vs : List V} {ds : List D} (c : D.cleanL ds = true) (h : ∀ a xs, SqT K H a xs → SqT K H' a xs) : RpAll K H vs ds → RpAll K H' vs ds
  | .nil => .nil
  | .cons g r => by
    have c' := Bool.and_eq_true_iff.mp c
    exact .cons (Rp.byT c'.1 h g) (RpAll.byT c'.2 h r)
end
end
section
variable {K : PySem.W.Frag} {σ : L2.St} {H : Hp} {te td : TE} {t : TT}
/-- [.. for k in d if ..] of data, d locked -/
theorem edl_keysF {d : Addr} {u : List (Key × V)} {ks : List Str} {j : Nat} {vs : List Nat} {Pk : Str → Bool} {G : Str → D} (h : ∀ H1, Ev td σ H1 (.ref d)) (hd : H d = some (.dK u)) (hk : u.map (·.1) = ks.map Sum.inr) (hz : ks.length ≤ 40000) (hw : ∀ x, wipe ((wipe σ vs).set j (some x)) vs = wipe σ vs)
    (ht : ∀ y H', y ∈ ks → (∀ a xs, SqT K H a xs → SqT K H' a xs) → EvT t ((wipe σ vs).set j (some (.str y))) H' (Pk y)) (he : ∀ y H' od, y ∈ ks → Pk y = true → (∀ a xs, SqT K H a xs → SqT K H' a xs) → H' d = some (.frz od (.dK u)) → EvD K te ((wipe σ vs).set j (some (.str y))) H' (G y)) (hc : ∀ y, y ∈ ks → Pk y = true → (G y).clean = true) :
    EvDL K (tLockE (tLc (iKeys td) (gName j) t te vs)) σ H ((ks.filter Pk).map G) := fun H1 e Q q => by
  have g := e _ _ hd
  refine ⟨d, _, g, trivial, fun od => ?_⟩
  refine h _ _ (Ex.refl _) _ fun H2 e2 => ?_
  have h2 := e2 _ _ (upd_same (H := H1) (a := d) (o := .frz od (.dK u)))
  refine ⟨d, od, rfl, .inl ⟨u, h2, ?_⟩⟩
  have wk0 := walk_keys (d := d) (o := od) (kvs := u)
  have lu : u.length = ks.length := by
    have := congrArg List.length hk
    rwa [List.length_map, List.length_map] at this
  rw [lu] at wk0
  have wk : Walk (Itk d od u) ks.length (fun H => H d = some (.frz od (.dK u))) (YAt (ks.map V.str)) := wk0.mono (fun _ z => z) fun i H x H' hi _ y => by
    obtain ⟨e1, k, v, h1, h3⟩ := y
    refine ⟨e1, ?_⟩
    have h4 : (u.map (·.1))[i]? = some k := by rw [List.getElem?_map, h1]; rfl
    rw [hk, List.getElem?_map] at h4
    rw [List.getElem?_map]
    cases z : ks[i]? with
    | none => rw [z] at h4; cases h4
    | some s =>
      rw [z] at h4
      cases h4
      rw [h3]
      rfl
  have tp : ∀ H', Ex H2 H' → ∀ a xs, SqT K H a xs → SqT K H' a xs := fun H' e' a xs hs => by
    refine ex_t (e2.trans e') ?_
    rcases ex_t e hs with (hs | ⟨o, hs⟩) | hs
    · refine .inl (.inl ?_)
      rw [upd_ne]
      · exact hs
      · intro z
        rw [z, g] at hs
        cases hs
    · refine .inl (.inr ⟨o, ?_⟩)
      rw [upd_ne]
      · exact hs
      · intro z
        rw [z, g] at hs
        cases hs
    · exact .inr hs
  refine lc_dataF (K := K) (Q := fun v H' => H' d = some (.frz od (.dK u)) ∧ Q v (upd H' d (.dK u))) wk (fun H' e' => e' _ _ h2) hz hw (fun y H' hy e' => ht y H' hy (tp H' e')) (fun y H' hy hk e' => he y H' od hy hk (tp H' e') (e' _ _ h2)) fun p xs H3 hp e3 h3 r => ?_
  have hdl : H3 d = some (.frz od (.dK u)) := e3 _ _ h2
  have npd : p ≠ d := fun z => by
    rw [z, h2] at hp
    cases hp
  have hp1 : H1 p = none := by
    have := fresh_back e2 hp
    rwa [upd_ne npd] at this
  refine ⟨hdl, q p xs _ hp1 (fun b o hb => ?_) (by rw [upd_ne npd]; exact h3) ?_⟩
  · by_cases c : b = d
    · subst c
      rw [upd_same]
      rw [g] at hb
      exact hb
    · rw [upd_ne c]
      exact e3 _ _ (e2 _ _ (by rw [upd_ne c]; exact hb))
  · -- unlocked, clean data is as it was
    refine RpAll.byT (H := H3) ?_ (fun a xs hs => ?_) r
    · rw [cleanL_all]
      refine List.all_eq_true.mpr fun x hx => ?_
      obtain ⟨y, hy, rfl⟩ := List.mem_map.mp hx
      obtain ⟨hy1, hy2⟩ := List.mem_filter.mp hy
      exact hc y hy1 hy2
    · rcases hs with (hs | ⟨o, hs⟩) | hs
      · refine .inl (.inl ?_)
        rw [upd_ne]
        · exact hs
        · intro z
          rw [z, hdl] at hs
          cases hs
      · refine .inl (.inr ⟨o, ?_⟩)
        rw [upd_ne]
        · exact hs
        · intro z
          rw [z, hdl] at hs
          cases hs
      · exact .inr hs
end
end K0

namespace K0
open PySem L2 Evl
/-! ### dicts from lists of pairs -/
def rDictP (K : PySem.W.Frag) : List V → Hp → VK → Prop := fun xs H Q => ∃ (a : Addr) (ps : List Addr) (kvs : List (Key × V)), xs = [.ref a] ∧ SqL K H a (ps.map V.ref) ∧ Paired (fun p kv => SqT K H p [kV kv.1, kv.2]) ps kvs ∧ ∀ p, H p = none → Q (.ref p) (upd H p (.dK (mergeK [] kvs)))
theorem paired_rows {K : PySem.W.Frag} {H : Hp} : ∀ {xs : List V} {rows : Ps}, RpAll K H xs (rows.map prS) → AllAt rows → ∃ as : List Addr, xs = as.map V.ref ∧ Paired (fun p (q : Key × V) => SqT K H p [kV q.1, q.2]) as (kv rows)
  | [], [], _, _ => ⟨[], rfl, .nil⟩
  | [], p :: r, h, _ => by cases h
  | x :: xs, [], h, _ => by cases h
  | x :: xs, p :: r, h, z => by
    obtain ⟨d, ds, e, h1, h2⟩ := h.inv
    rw [List.map_cons] at e
    cases e
    obtain ⟨as, rfl, pr⟩ := paired_rows (xs := xs) (rows := r) h2 fun q hq => z q (List.mem_cons_of_mem _ hq)
    obtain ⟨t, v, rfl, ht, hv⟩ := rp_2 h1
    have ev := rp_atV (z p (List.mem_cons_self ..)) hv
    subst ev
    exact ⟨t :: as, rfl, .cons ht pr⟩
theorem merge_kv : ∀ (qs ps : Ps), NoTwo (ps ++ qs) → mergeK (kv ps) (kv qs) = kv (ps ++ qs)
  | [], ps, _ => by rw [List.append_nil]; rfl
  | q :: r, ps, n => by
    have n' : NoTwo ((ps ++ [q]) ++ r) := by rwa [List.append_assoc]
    have hno : hasP ps q.1 = false := by
      cases y : hasP ps q.1 with
      | false => rfl
      | true =>
        have h1 := has_mem.mp y
        unfold NoTwo keysP at n
        rw [List.map_append, List.nodup_append] at n
        exact absurd rfl (n.2.2 q.1 h1 q.1 (by simp))
    have ih := merge_kv r (ps ++ [q]) n'
    rw [List.append_assoc] at ih
    have ih2 : mergeK (kv (ps ++ [q])) (kv r) = kv (ps ++ q :: r) := ih
    rw [← ih2]
    show mergeK (putK (kv ps) (.inr q.1) (atV q.2)) (kv r) = _
    rw [put_kv]
    unfold putP
    rw [if_neg (by rw [hno]; decide)]
section
variable {K : PySem.W.Frag} {σ : L2.St} {H : Hp} {te : TE} {D : Ends} {tz : TS}
theorem q_dictL {i : Nat} {rows : Ps} (h : EvDL K te σ H (rows.map prS)) (n : NoTwo rows) (z : AllAt rows) (k : ∀ p H1, H p = none → Ex H H1 → H1 p = some (.dK (kv rows)) → tz D (σ.set i (some (.ref p))) H1) :
    tSeq (tAsg (tCB (rDictP K) (tCons te tNil)) (gName i)) tz D σ H := h H (Ex.refl _) _ fun l xs H1 hl e1 h1 r => by
  obtain ⟨as, rfl, pr⟩ := paired_rows r z
  refine ⟨l, as, _, rfl, sq_of h1, pr, fun p hp => ?_⟩
  have := merge_kv rows [] n
  rw [List.nil_append] at this
  rw [show mergeK [] (kv rows) = kv rows from this]
  exact k p _ (fresh_back e1 hp) (e1.trans (Ex.new hp)) upd_same
theorem ep_dictL {rows : Ps} (h : EvDL K te σ H (rows.map prS)) (n : NoTwo rows) (z : AllAt rows) : EvP (tCB (rDictP K) (tCons te tNil)) σ H rows := fun H0 e Q q => h H0 e _ fun l xs H1 hl e1 h1 r => by
  obtain ⟨as, rfl, pr⟩ := paired_rows r z
  refine ⟨l, as, _, rfl, sq_of h1, pr, fun p hp => ?_⟩
  have := merge_kv rows [] n
  rw [List.nil_append] at this
  rw [show mergeK [] (kv rows) = kv rows from this]
  exact q p _ (e1.trans (Ex.new hp)) (pairs_at n z upd_same)
end
theorem lacks_drop {ps : Ps} (n : NoTwo ps) (h : ps.length ≤ 24) (k : Str) : decide (23 < (dropP ps k).length) = lacks ps k := by
  unfold lacks
  cases c : hasP ps k with
  | false =>
    rw [drop_no c]
    exact decide_eq_decide.mpr (by omega)
  | true =>
    show decide (23 < (dropP ps k).length) = false
    refine decide_eq_false ?_
    have h1 := (put_end n k .non).length_eq
    have h2 : (putP ps k .non).length = ps.length := by
      unfold putP
      rw [if_pos c, List.length_map]
    rw [List.length_append, h2] at h1
    have h3 : (dropP ps k).length + 1 = ps.length := h1
    omega
section
variable {P : Program} {w : World} {K : PySem.W.Frag} {mg : Str → Option Value} {base : Heap} {A : Ad} {D : Fd}
def D.whole : K0.D → Bool
  | .int _ => true | _ => false
def sp_law_st_is_whole (K : PySem.W.Frag) : Sp := sp1 K0.D.whole K
theorem len_law_st_is_whole {vs : List V} {H : Hp} {Q : VK} {E : XK} (h : sp_law_st_is_whole K vs H Q E) : vs.length = 1 := sp1_len h
/-- what a put of the law gives: None where there is no room -/
theorem neS {a b : Str} : (!decide (V.str a = V.str b)) = decide (a ≠ b) := by
  by_cases c : a = b
  · rw [c]
    simp
  · rw [decide_eq_false (fun z => c (V.str.inj z)), decide_eq_true c]
    rfl
end
end K0

namespace K0
open PySem L2 Evl
section
variable {K : PySem.W.Frag} {σ : L2.St} {H : Hp} {te td : TE} {ta : TA} {t u : TT} {D : Ends} {tz tu tw : TS} {ps : Ps} {d e : K0.D} {k : Str} {v w : V}
theorem q_parE {i j : Nat} (h : EvA ta σ H [v, w]) (k : ∀ H1, Ex H H1 → tz D ((σ.set i (some v)).set j (some w)) H1) : tSeq (tPar i j ta) tz D σ H := h H (Ex.refl H) _ fun H1 e => ⟨v, w, rfl, k H1 e⟩
theorem q_parD {i j : Nat} (h : EvDA K ta σ H [d, e]) (k : ∀ v w H1, Ex H H1 → Rp K H1 v d → Rp K H1 w e → tz D ((σ.set i (some v)).set j (some w)) H1) : tSeq (tPar i j ta) tz D σ H := h H (Ex.refl H) _ fun vs H1 e r => by
  cases r with | cons r1 r => cases r with | cons r2 r => cases r; exact ⟨_, _, rfl, k _ _ H1 e r1 r2⟩
theorem s_parD {i j : Nat} (h : EvDA K ta σ H [d, e]) (k : ∀ v w H1, Ex H H1 → Rp K H1 v d → Rp K H1 w e → D.nx ((σ.set i (some v)).set j (some w)) H1) : tPar i j ta D σ H := h H (Ex.refl H) _ fun vs H1 e r => by
  cases r with | cons r1 r => cases r with | cons r2 r => cases r; exact ⟨_, _, rfl, k _ _ H1 e r1 r2⟩
theorem q_asgD {i : Nat} (h : EvD K te σ H d) (k : ∀ v H1, Ex H H1 → Rp K H1 v d → tz D (σ.set i (some v)) H1) : tSeq (tAsg te (gName i)) tz D σ H := h H (Ex.refl H) _ k
theorem et_w {i : Nat} {x z : Str} {b : Bool} (h : σ[i]? = some (some (.str x))) (e : decide (x = z) = b) : EvT (tTest (tOp rEq (tVar i) (tC (.str z)))) σ H b := et_is (et_test (ev_op (ev_var h) ev_c (rv_eq rfl))) (by
  rw [← e]
  exact decide_eq_decide.mpr ⟨fun q => V.str.inj q, fun q => by rw [q]⟩)
theorem q_skip (h : EvT t σ H false) (k : ∀ H1, Ex H H1 → tz D σ H1) : tSeq (tIfS t tu tNext) tz D σ H := q_when h (fun z => by cases z) fun _ => k
theorem q_take (h : EvT t σ H true) (k : ∀ H1, Ex H H1 → tu { D with nx := tz D } σ H1) : tSeq (tIfS t tu tw) tz D σ H := q_if h (fun _ => k) fun z => by cases z
theorem q_else (h : EvT t σ H false) (k : ∀ H1, Ex H H1 → tw { D with nx := tz D } σ H1) : tSeq (tIfS t tu tw) tz D σ H := q_if h (fun z => by cases z) fun _ => k
theorem s_take (h : EvT t σ H true) (k : ∀ H1, Ex H H1 → tu D σ H1) : tIfS t tu tw D σ H := s_if h (fun _ => k) fun z => by cases z
theorem s_else (h : EvT t σ H false) (k : ∀ H1, Ex H H1 → tw D σ H1) : tIfS t tu tw D σ H := s_if h (fun z => by cases z) fun _ => k
theorem d_pa {Q : VK} (h1 : EvP te σ H ps) (h2 : EvD K td σ H d) (k : ∀ t p v H', Ex H H' → SqT K H' t [.ref p, v] → PairsAt H' p ps → Rp K H' v d → Q (.ref t) H') : tTup (tCons te (tCons td tNil)) σ H Q :=
  h1 H (Ex.refl H) _ fun p H1 e1 hp => h2 H1 e1 _ fun v H2 e2 hv => ⟨sz_of (by simp), fun t ht => k t p v _ ((e1.trans e2).trans (Ex.new ht)) (st_of upd_same) ((hp.ex e2).ex (Ex.new ht)) (hv.ex (Ex.new ht))⟩
end
def Lone.key : Lone → Str
  | .put k _ => k | .drop k => k | .get k => k | .add k _ => k | .swap k _ _ => k
def Lone.tail : Lone → List D
  | .put _ d => [d] | .add _ n => [.int n] | .swap _ o n => [o, n] | _ => []
theorem enc_two (l : Lone) : l.enc = .tup (.str l.word :: .str l.key :: l.tail) := by cases l <;> rfl
section
variable {P : Program} {w : World} {K : PySem.W.Frag} {mg : Str → Option Value} {base : Heap} {A : Ad} {D : Fd}
theorem addI_eq {ps : Ps} {k : Str} {t : Int} (h : bigI t = false) : addI ps k t = if (!(K0.D.int t).isNon && lacks ps k) = true then (ps, aD "full") else (exchP ps k (.int t), .tup [.str "sum", .int t]) := by
  unfold addI
  rw [if_neg (by rw [h]; decide)]
  rfl
end
end K0

namespace K0
open PySem L2 Evl
open SrtO (lessB)
/-! ### sorted([(text, value), ..]), the texts unlike -/
theorem nodup_inj {α β : Type} {f : α → β} : ∀ {l : List α}, (l.map f).Nodup → ∀ a ∈ l, ∀ b ∈ l, f a = f b → a = b
  | [], _, a, h, _, _, _ => by cases h
  | x :: l, n, a, ha, b, hb, e => by
    rw [List.map_cons, List.nodup_cons] at n
    rcases List.mem_cons.mp ha with h1 | h1
    · rcases List.mem_cons.mp hb with h2 | h2
      · rw [h1, h2]
      · rw [h1] at e
        exact absurd (List.mem_map.mpr ⟨b, h2, e.symm⟩) n.1
    · rcases List.mem_cons.mp hb with h2 | h2
      · rw [h2] at e
        exact absurd (List.mem_map.mpr ⟨a, h1, e⟩) n.1
      · exact nodup_inj n.2 a h1 b h2 e
def RowAt (K : PySem.W.Frag) (H : Hp) (x : V) (r : Str × D) : Prop := ∃ t, x = .ref t ∧ SqT K H t [.str r.1, atV r.2]
def rSortedR (K : PySem.W.Frag) : List V → Hp → VK → Prop := fun vs H Q => ∃ (a : Addr) (xs : List V) (rows : Ps), vs = [.ref a] ∧ SqL K H a xs ∧ Paired (RowAt K H) xs rows ∧ NoTwo rows ∧ AllAt rows ∧
  ∀ ys p, Paired (RowAt K H) ys (sortP rows) → H p = none → Q (.ref p) (upd H p (.lst ys))
theorem paired_map {α β : Type} {R : α → β → Prop} {f : α → β} : ∀ {xs : List α} {rs : List β}, Paired R xs rs → (∀ x r, x ∈ xs → r ∈ rs → R x r → f x = r) → xs.map f = rs
  | _, _, .nil, _ => rfl
  | _, _, .cons h r, k => by
    rw [List.map_cons, k _ _ (List.mem_cons_self ..) (List.mem_cons_self ..) h, paired_map r fun x y hx hy hr => k x y (List.mem_cons_of_mem _ hx) (List.mem_cons_of_mem _ hy) hr]
theorem paired_of {α β : Type} {R : α → β → Prop} {f : α → β} : ∀ {xs : List α}, (∀ x ∈ xs, R x (f x)) → Paired R xs (xs.map f)
  | [], _ => .nil
  | x :: xs, h => .cons (h x (List.mem_cons_self ..)) (paired_of fun y hy => h y (List.mem_cons_of_mem _ hy))
theorem paired_mem {α β : Type} {R : α → β → Prop} : ∀ {xs : List α} {rs : List β}, Paired R xs rs → ∀ x ∈ xs, ∃ r ∈ rs, R x r
  | _, _, .nil, x, h => by cases h
  | _, _, .cons h r, x, hx => by
    rcases List.mem_cons.mp hx with rfl | hx
    · exact ⟨_, List.mem_cons_self .., h⟩
    · obtain ⟨q, hq, hr⟩ := paired_mem r x hx
      exact ⟨q, List.mem_cons_of_mem _ hq, hr⟩
theorem cr_sortedR {X : Cx} : CallR X (.builtin "sorted") (rSortedR X.K) := by
  intro pins s σ H vs us Q I r h
  obtain ⟨a, xs, rows, rfl, hs, hp, n, z, q⟩ := h
  let rowOf : V → Str × D := fun x => open Classical in if h : ∃ r : Str × D, r.2.isAt = true ∧ RowAt X.K H x r then h.choose else ("", .non)
  have spec : ∀ x r, r ∈ rows → RowAt X.K H x r → rowOf x = r := fun x r hr hx => by
    have h0 : ∃ r : Str × D, r.2.isAt = true ∧ RowAt X.K H x r := ⟨r, z r hr, hx⟩
    have e : rowOf x = h0.choose := dif_pos h0
    obtain ⟨c1, t1, e1, g1⟩ := h0.choose_spec
    obtain ⟨t2, e2, g2⟩ := hx
    rw [e]
    generalize h0.choose = q at c1 g1
    rw [e1] at e2
    cases e2
    have := I.tuple_inj g1 g2
    have i1 : q.1 = r.1 := V.str.inj (List.cons.inj this).1
    have i2 : atV q.2 = atV r.2 := (List.cons.inj (List.cons.inj this).2).1
    exact Prod.ext i1 (atV_inj c1 (z r hr) i2)
  have em : xs.map rowOf = rows := paired_map hp fun x r _ hr hx => spec x r hr hx
  have at_ : ∀ x ∈ xs, RowAt X.K H x (rowOf x) := fun x hx => by
    obtain ⟨r, hr, h1⟩ := paired_mem hp x hx
    rw [spec x r hr h1]
    exact h1
  have nd : (xs.map fun x => (rowOf x).1).Nodup := by
    have : xs.map (fun x => (rowOf x).1) = keysP rows := by
      unfold keysP
      rw [← em, List.map_map]
      rfl
    rw [this]
    exact n
  refine cr_sortedTx pins s σ H _ us Q I r ⟨a, xs, fun x => (rowOf x).1, rfl, hs, fun x hx => ?_, nodup_inj nd, fun ys p pm pw hp2 => q ys p ?_ hp2⟩
  · obtain ⟨t, e, g⟩ := at_ x hx
    exact ⟨t, _, e, g⟩
  · have el : ys.map rowOf = sortP rows := by
      refine sortP_uniq ?_ n (List.pairwise_map.mpr pw)
      rw [← em]
      exact pm.map _
    rw [← el]
    exact paired_of fun x hx => at_ x (pm.mem_iff.mp hx)
section
variable {K : PySem.W.Frag} {σ : L2.St} {H : Hp} {te : TE}
theorem rows_paired {H : Hp} : ∀ {xs : List V} {rows : Ps}, RpAll K H xs (rows.map prS) → AllAt rows → Paired (RowAt K H) xs rows
  | [], [], _, _ => .nil
  | [], p :: r, h, _ => by cases h
  | x :: xs, [], h, _ => by cases h
  | x :: xs, p :: r, h, z => by
    obtain ⟨d, ds, e, h1, h2⟩ := h.inv
    rw [List.map_cons] at e
    cases e
    obtain ⟨t, v, rfl, ht, hv⟩ := rp_2 h1
    have ev := rp_atV (z p (List.mem_cons_self ..)) hv
    subst ev
    exact .cons ⟨t, rfl, ht⟩ (rows_paired h2 fun q hq => z q (List.mem_cons_of_mem _ hq))
theorem paired_rows2 {H : Hp} : ∀ {xs : List V} {rows : Ps}, Paired (RowAt K H) xs rows → AllAt rows → RpAll K H xs (rows.map prS)
  | _, _, .nil, _ => .nil
  | _, _, .cons h r, z => by
    obtain ⟨t, rfl, ht⟩ := h
    exact .cons (.tup ht (.cons (.str _) (.cons (atV_rp (z _ (List.mem_cons_self ..))) .nil))) (paired_rows2 r fun q hq => z q (List.mem_cons_of_mem _ hq))
theorem ed_sortR {rows : Ps} (h : EvDL K te σ H (rows.map prS)) (n : NoTwo rows) (z : AllAt rows) : EvD K (tCB (rTupOf K) (tCons (tCB (rSortedR K) (tCons te tNil)) tNil)) σ H (.tup ((sortP rows).map prS)) := fun H1 e Q q =>
  h H1 e _ fun p xs H2 hp e2 h2 r => ⟨p, xs, rows, rfl, sq_of h2, rows_paired r z, n, z, fun ys l pd hl => by
    have rr := paired_rows2 pd (z.perm (sortP_perm rows))
    have eN : Ex H2 (upd H2 l (.lst ys)) := Ex.new hl
    exact ⟨l, ys, rfl, .inl ⟨sq_of upd_same, fun m hm => q (.ref m) _ ((e2.trans eN).trans (Ex.new hm)) (.tup (st_of upd_same) ((rr.ex eN).ex (Ex.new hm)))⟩⟩⟩
theorem q_parPL {i j : Nat} {v : V} {D : Ends} {tz : TS} (h : Ev te σ H v) (k : ∀ l H1, H l = none → Ex H H1 → H1 l = some (.lst []) → tz D ((σ.set i (some v)).set j (some (.ref l))) H1) : tSeq (tPar i j (tCons te (tCons (tLst tNil) tNil))) tz D σ H :=
  h H (Ex.refl H) _ fun H1 e => ⟨sz_of (by simp), fun l hl => ⟨v, .ref l, rfl, k l _ (fresh_back e hl) (e.trans (Ex.new hl)) upd_same⟩⟩
end
end K0

namespace K0
open PySem L2 Evl
section
variable {K : PySem.W.Frag} {σ : L2.St} {H : Hp}
theorem et_wn {i : Nat} {x z : Str} {b : Bool} {t : Addr} {xs : List V} (h : σ[i]? = some (some (.ref t))) (ht : SqT K H t (.str x :: xs)) (e : decide (x = z) = b) : EvT (tTest (tOp rEq (tOp (rIxT K) (tVar i) (tC (.int 0))) (tC (.str z)))) σ H b := et_is (et_test (ev_op (ev_nth (i := 0) (ev_var h) ht rfl) ev_c (rv_eq rfl))) (by
  rw [← e]
  exact decide_eq_decide.mpr ⟨fun q => V.str.inj q, fun q => by rw [q]⟩)
end
theorem word_in (l : Lone) : l.word ∈ lotWords := by cases l <;> simp [lotWords, Lone.word]
theorem word_list (l : Lone) : decide (l.word = "list") = false := (by decide +kernel : ∀ s ∈ lotWords, decide (s = "list") = false) _ (word_in l)
theorem word_circle (l : Lone) : decide (l.word = "circle") = false := (by decide +kernel : ∀ s ∈ lotWords, decide (s = "circle") = false) _ (word_in l)
theorem word_all (l : Lone) : decide (l.word = "all") = false := (by decide +kernel : ∀ s ∈ lotWords, decide (s = "all") = false) _ (word_in l)
theorem barU : breakV.all flatV = true := by decide +kernel
theorem allR_brk {ps : Ps} {ls : List Lone} {i : Nat} {l : Lone} (hll : ls[i]? = some l) (hno : (runL ps (ls.take i)).2.findIdx? barD = none) (hbr : barD (stepL (runL ps (ls.take i)).1 l).2 = true) : allR ps (runL ps ls) = (ps, .tup [.str "none", .int (i : Nat)]) := by
  have et := runL_take (ps := ps) hll
  unfold allR
  have fi : (runL ps ls).2.findIdx? barD = some i := by
    obtain ⟨tl, etl⟩ := runL_pre ps ls (i + 1)
    rw [etl, et]
    show ((runL ps (ls.take i)).2 ++ [(stepL (runL ps (ls.take i)).1 l).2] ++ tl).findIdx? barD = some i
    have hlen2 : (runL ps (ls.take i)).2.length = i := by
      rw [runL_len, List.length_take]
      have := (List.getElem?_eq_some_iff.mp hll).1
      omega
    rw [List.append_assoc, List.findIdx?_append, hno]
    simp [List.findIdx?_cons, hbr, hlen2]
  rw [fi]
theorem allR_done {ps : Ps} {ls : List Lone} (hno : (runL ps ls).2.findIdx? barD = none) : allR ps (runL ps ls) = ((runL ps ls).1, .tup [.str "done", .tup (runL ps ls).2]) := by
  unfold allR
  rw [hno]
section
variable {P : Program} {w : World} {K : PySem.W.Frag} {mg : Str → Option Value} {base : Heap} {A : Ad} {D : Fd}
end
end K0

namespace K0
open PySem L2 Evl
/-! ### deeds as they are drawn, and what they keep -/
theorem str_fine {s signs : Str} (hs : signs.cps.toList.all (fun c => decide (c < 0x110000)) = true) {m : Int} (h : D.word signs m (.str s) = true) : (D.str s).fine 1 = true := by
  have h' : (decide ((s.length : Int) ≤ m) && s.cps.toList.all signs.cps.contains) = true := h
  obtain ⟨h1, h2⟩ := Bool.and_eq_true_iff.mp h'
  have ok : PyData.strOk s = true := by
    unfold PyData.strOk
    rw [← Array.all_toList]
    refine List.all_eq_true.mpr fun c hc => ?_
    have m2 : c ∈ signs.cps.toList := by simpa using List.all_eq_true.mp h2 c hc
    exact List.all_eq_true.mp hs c m2
  refine Bool.and_eq_true_iff.mpr ⟨Bool.and_eq_true_iff.mpr ⟨rfl, ?_⟩, ?_⟩
  · simp only [D.py, PyData.canLay0]
    exact ok
  · simp only [D.py, PyData.depth]
    decide
theorem str_size {s signs : Str} {m : Int} (hm : m ≤ 100) (h : D.word signs m (.str s) = true) : (D.str s).size ≤ 2 := by
  have h' : (decide ((s.length : Int) ≤ m) && s.cps.toList.all signs.cps.contains) = true := h
  have h1 := of_decide_eq_true (Bool.and_eq_true_iff.mp h').1
  simp only [D.size]
  omega
theorem int_fine {i : Int} : (D.int i).fine 1 = true := by
  refine Bool.and_eq_true_iff.mpr ⟨Bool.and_eq_true_iff.mpr ⟨rfl, ?_⟩, ?_⟩
  · simp only [D.py, PyData.canLay0]
  · simp only [D.py, PyData.depth]
    decide
theorem non_fine : D.non.fine 1 = true := by
  refine Bool.and_eq_true_iff.mpr ⟨Bool.and_eq_true_iff.mpr ⟨rfl, ?_⟩, ?_⟩
  · simp only [D.py, PyData.canLay0]
  · simp only [D.py, PyData.depth]
    decide
theorem lit_fine {s : Str} (h : PyData.strOk s = true) : (D.str s).fine 1 = true := by
  refine Bool.and_eq_true_iff.mpr ⟨Bool.and_eq_true_iff.mpr ⟨rfl, ?_⟩, ?_⟩
  · simp only [D.py, PyData.canLay0]
    exact h
  · simp only [D.py, PyData.depth]
    decide
theorem signs_ok : signs37.cps.toList.all (fun c => decide (c < 0x110000)) = true := by decide +kernel
theorem letters_ok : letters.cps.toList.all (fun c => decide (c < 0x110000)) = true := by decide +kernel
theorem value_fine {d : D} (h : d.value = true) : d.fine 1 = true ∧ d.isAt = true ∧ d.size ≤ 2 := by
  cases d with
  | int i => exact ⟨int_fine, rfl, by simp only [D.size]; decide⟩
  | str s =>
    have h' : D.word signs37 12 (.str s) = true := by
      have : ((D.str s).short || D.word signs37 12 (.str s)) = true := h
      rwa [show (D.str s).short = false from rfl, Bool.false_or] at this
    exact ⟨str_fine signs_ok h', rfl, str_size (by decide) h'⟩
  | _ => cases h
theorem worth_fine {d : D} (h : d.worth = true) : d.fine 1 = true ∧ d.isWo = true ∧ d.size ≤ 2 := by
  unfold D.worth at h
  cases hn : d.isNon with
  | true =>
    have : d = .non := by cases d <;> first | rfl | cases hn
    subst this
    exact ⟨non_fine, rfl, by simp only [D.size]; decide⟩
  | false =>
    rw [hn, Bool.false_or] at h
    obtain ⟨a, b, c⟩ := value_fine h
    exact ⟨a, at_wo b, c⟩
def okK (k : Str) : Bool := (D.str k).key
theorem key_fine {k : Str} (h : okK k = true) : (D.str k).fine 1 = true ∧ (D.str k).size ≤ 2 := by
  have h' := (Bool.and_eq_true_iff.mp (show (D.word letters 8 (.str k) && (D.str k).nonEmpty) = true from h)).1
  exact ⟨str_fine letters_ok h', str_size (by decide) h'⟩
def Lone.good : Lone → Bool
  | .put k d => okK k && d.value | .drop k => okK k | .get k => okK k | .add k n => okK k && (D.int n).short | .swap k o n => okK k && (o.worth && n.worth)
def Deed.ok : Deed → Bool
  | .one l => l.good | .list a b => okK a && okK b | .all ls => (decide (1 ≤ ls.length) && decide (ls.length ≤ 6)) && ls.all Lone.good | .circle c => c.circle && (c.fine 3 && decide (c.size ≤ 100))
theorem short_value {n : Int} (h : (D.int n).short = true) : (D.int n).value = true := by
  unfold D.value
  rw [h]
  rfl
theorem lone_fit {l : Lone} (h : l.good = true) : l.fit = true := by
  cases l with
  | put k d => exact (value_fine (Bool.and_eq_true_iff.mp h).2).2.1
  | swap k o n =>
    obtain ⟨h1, h2⟩ := Bool.and_eq_true_iff.mp h
    obtain ⟨h2, h3⟩ := Bool.and_eq_true_iff.mp h2
    show (o.isWo && n.isWo) = true
    rw [(worth_fine h2).2.1, (worth_fine h3).2.1]
    rfl
  | _ => rfl
theorem lone_lone {l : Lone} (h : l.good = true) : l.enc.lone = true := by
  cases l with
  | put k d =>
    show loneF "put" _ = true
    unfold loneF
    rw [if_pos rfl]
    exact h
  | drop k =>
    show loneF "drop" _ = true
    unfold loneF
    rw [if_neg (by decide), if_pos rfl]
    exact h
  | get k =>
    show loneF "get" _ = true
    unfold loneF
    rw [if_neg (by decide), if_neg (by decide), if_pos rfl]
    exact h
  | add k n =>
    show loneF "add" _ = true
    unfold loneF
    rw [if_neg (by decide), if_neg (by decide), if_neg (by decide), if_pos rfl]
    exact h
  | swap k o n =>
    show loneF "swap" _ = true
    unfold loneF
    rw [if_neg (by decide), if_neg (by decide), if_neg (by decide), if_neg (by decide), if_pos rfl]
    exact h
theorem deed_lone (l : Lone) : l.enc.deed = l.enc.lone := by
  cases l <;>
  · show deedF _ _ = loneF _ _
    unfold deedF
    rw [if_neg (by decide), if_neg (by decide), if_neg (by decide)]
theorem word_size (l : Lone) : (D.str l.word).size = 1 := (by decide +kernel : ∀ s ∈ lotWords, (D.str s).size = 1) _ (word_in l)
theorem lone_size {l : Lone} (h : l.good = true) : l.enc.size ≤ 100 := by
  have hw := word_size l
  have hk : (D.str l.key).size ≤ 2 := by
    cases l with
    | put k d => exact (key_fine (Bool.and_eq_true_iff.mp h).1).2
    | drop k => exact (key_fine h).2
    | get k => exact (key_fine h).2
    | add k n => exact (key_fine (Bool.and_eq_true_iff.mp h).1).2
    | swap k o n => exact (key_fine (Bool.and_eq_true_iff.mp h).1).2
  have ht : D.sizeL l.tail ≤ 50 := by
    cases l with
    | put k d =>
      have := (value_fine (Bool.and_eq_true_iff.mp h).2).2.2
      simp only [Lone.tail, D.sizeL]
      omega
    | swap k o n =>
      obtain ⟨h1, h2⟩ := Bool.and_eq_true_iff.mp h
      obtain ⟨h2, h3⟩ := Bool.and_eq_true_iff.mp h2
      have a := (worth_fine h2).2.2
      have b := (worth_fine h3).2.2
      simp only [Lone.tail, D.sizeL]
      omega
    | add k n =>
      simp only [Lone.tail, D.sizeL, D.size]
      decide
    | _ =>
      simp only [Lone.tail, D.sizeL]
      decide
  rw [enc_two]
  simp only [D.size, D.sizeL] at hw hk ⊢
  omega
theorem lones_size : ∀ {ls : List Lone}, ls.all Lone.good = true → D.sizeL (ls.map Lone.enc) ≤ 200 * ls.length
  | [], _ => Nat.zero_le _
  | l :: ls, h => by
    obtain ⟨h1, h2⟩ := Bool.and_eq_true_iff.mp (by simpa using h : (l.good && ls.all Lone.good) = true)
    have a := lone_size h1
    have b := lones_size h2
    simp only [List.map_cons, D.sizeL, List.length_cons]
    omega
theorem ok_good {d : Deed} (h : d.ok = true) : d.Good := by
  cases d with
  | one l =>
    refine ⟨lone_fit h, ?_, by have := lone_size (l := l) h; show l.enc.size ≤ 2000; omega⟩
    show l.enc.deed = true
    rw [deed_lone]
    exact lone_lone h
  | list a b =>
    obtain ⟨h1, h2⟩ := Bool.and_eq_true_iff.mp h
    refine ⟨rfl, ?_, ?_⟩
    · show deedF "list" _ = true
      unfold deedF
      rw [if_pos rfl]
      show (true && ((D.str a).key && (D.str b).key)) = true
      rw [show (D.str a).key = true from h1, show (D.str b).key = true from h2]
      rfl
    · have a1 := (key_fine h1).2
      have b1 := (key_fine h2).2
      have c1 : (D.str "list").size = 1 := by decide +kernel
      simp only [Deed.enc, D.size, D.sizeL] at a1 b1 c1 ⊢
      omega
  | circle c =>
    obtain ⟨h1, h2⟩ := Bool.and_eq_true_iff.mp h
    refine ⟨rfl, ?_, ?_⟩
    · show deedF "circle" _ = true
      unfold deedF
      rw [if_neg (by decide), if_neg (by decide), if_pos rfl]
      show (true && c.circle) = true
      rw [h1]
      rfl
    · have a1 := of_decide_eq_true (Bool.and_eq_true_iff.mp h2).2
      have c1 : (D.str "circle").size = 1 := by decide +kernel
      simp only [Deed.enc, D.size, D.sizeL] at a1 c1 ⊢
      omega
  | all ls =>
    obtain ⟨h1, h2⟩ := Bool.and_eq_true_iff.mp h
    obtain ⟨h0, h1⟩ := Bool.and_eq_true_iff.mp h1
    have l6 := of_decide_eq_true h1
    refine ⟨?_, ?_, ?_⟩
    · show (ls.all Lone.fit && decide (ls.length ≤ 6)) = true
      rw [h1, Bool.and_true]
      exact List.all_eq_true.mpr fun l hl => lone_fit (List.all_eq_true.mp h2 l hl)
    · show deedF "all" _ = true
      unfold deedF
      rw [if_neg (by decide), if_pos rfl]
      show (true && ((decide (1 ≤ (ls.map Lone.enc).length) && decide ((ls.map Lone.enc).length ≤ 6)) && (ls.map Lone.enc).all fun d => isLot d.wordO && d.lone)) = true
      rw [List.length_map, h0, h1, List.all_map]
      refine (Bool.true_and _).trans ((Bool.true_and _).trans (List.all_eq_true.mpr fun l hl => ?_))
      show (isLot l.enc.wordO && l.enc.lone) = true
      rw [lone_lone (List.all_eq_true.mp h2 l hl), enc_two]
      show (lotWords.contains l.word && true) = true
      rw [Bool.and_true]
      exact List.contains_iff_mem.mpr (word_in l)
    · have a1 := lones_size h2
      have c1 : (D.str "all").size = 1 := by decide +kernel
      simp only [Deed.enc, D.size, D.sizeL] at a1 c1 ⊢
      omega
/-! ### pairs stay what pairs are -/
theorem put_memP {ps : Ps} {k : Str} {d : D} {p : Str × D} (h : p ∈ putP ps k d) : p ∈ ps ∨ p = (k, d) := by
  unfold putP at h
  split at h
  · obtain ⟨q, hq, e⟩ := List.mem_map.mp h
    by_cases c : q.1 = k
    · rw [if_pos c] at e
      exact .inr (by rw [← e, c])
    · rw [if_neg c] at e
      exact .inl (e ▸ hq)
  · rcases List.mem_append.mp h with h | h
    · exact .inl h
    · exact .inr (List.mem_singleton.mp h)
def PairOk (p : Str × D) : Prop := (D.str p.1).key = true ∧ p.2.value = true ∧ p.2.size ≤ 100 ∧ (D.str p.1).size ≤ 100
theorem pair_ok {k : Str} {d : D} (hk : okK k = true) (hd : d.value = true) : PairOk (k, d) := ⟨hk, hd, by have := (value_fine hd).2.2; show d.size ≤ 100; omega, by have := (key_fine hk).2; show (D.str k).size ≤ 100; omega⟩
theorem putV {ps : Ps} {k : Str} {d : D} (h : ∀ p ∈ ps, PairOk p) (hk : okK k = true) (hd : d.value = true) : ∀ p ∈ putP ps k d, PairOk p := fun p hp => by
  rcases put_memP hp with hp | rfl
  · exact h p hp
  · exact pair_ok hk hd
theorem dropV {ps : Ps} {k : Str} (h : ∀ p ∈ ps, PairOk p) : ∀ p ∈ dropP ps k, PairOk p := fun p hp => h p (List.mem_filter.mp hp).1
theorem short_of {t : Int} (h : bigI t = false) : (D.int t).short = true := by
  have h' := of_decide_eq_false h
  show (numB t && (decide (-(999999999999) ≤ t) && decide (t ≤ 999999999999))) = true
  have a : -(999999999999) ≤ t ∧ t ≤ 999999999999 := by
    split at h' <;> omega
  have b : numB t = true := by
    unfold numB big
    rw [decide_eq_true (by omega), decide_eq_true (by omega)]
    rfl
  rw [b, decide_eq_true a.1, decide_eq_true a.2]
  rfl
theorem stepL_val {ps : Ps} {l : Lone} (h : ∀ p ∈ ps, PairOk p) (hl : l.good = true) : ∀ p ∈ (stepL ps l).1, PairOk p := by
  cases l with
  | put k d =>
    obtain ⟨h1, h2⟩ := Bool.and_eq_true_iff.mp hl
    show ∀ p ∈ (if lacks ps k = true then _ else _ : Ps × D).1, PairOk p
    split
    · exact h
    · exact putV h h1 h2
  | drop k => exact dropV h
  | get k => exact h
  | add k n =>
    obtain ⟨h1, h2⟩ := Bool.and_eq_true_iff.mp hl
    show ∀ p ∈ (if (gotD ps k).isStr = true then _ else _ : Ps × D).1, PairOk p
    split
    · exact h
    · unfold addI
      split
      · exact h
      · rename_i c
        split
        · exact h
        · exact putV h h1 (short_value (short_of (by simpa using c)))
  | swap k o n =>
    obtain ⟨h1, h2⟩ := Bool.and_eq_true_iff.mp hl
    obtain ⟨h2, h3⟩ := Bool.and_eq_true_iff.mp h2
    show ∀ p ∈ (if (!sameA (gotD ps k) o) = true then _ else _ : Ps × D).1, PairOk p
    split
    · exact h
    · split
      · exact h
      · show ∀ p ∈ exchP ps k n, PairOk p
        unfold D.worth at h3
        cases hn : n.isNon with
        | true =>
          have : n = .non := by cases n <;> first | rfl | cases hn
          subst this
          exact dropV h
        | false =>
          rw [hn, Bool.false_or] at h3
          rw [exch_at (value_fine h3).2.1]
          exact putV h h1 h3
theorem runL_val {ls : List Lone} (hl : ls.all Lone.good = true) : ∀ {r : Ps × List D}, (∀ p ∈ r.1, PairOk p) → ∀ p ∈ (ls.foldl runF r).1, PairOk p := by
  induction ls with
  | nil => exact fun h => h
  | cons l t ih =>
    intro r h
    obtain ⟨h1, h2⟩ := Bool.and_eq_true_iff.mp (by simpa using hl : (l.good && t.all Lone.good) = true)
    rw [List.foldl_cons]
    exact ih h2 (stepL_val h h1)
theorem stepD_val {ps : Ps} {d : Deed} (h : PVal ps) (hd : d.ok = true) : PVal (stepD ps d).1 := by
  refine ⟨stepD_len h.1 d, ?_⟩
  cases d with
  | one l => exact stepL_val h.2 hd
  | all ls =>
    obtain ⟨_, h2⟩ := Bool.and_eq_true_iff.mp hd
    show ∀ p ∈ (allR ps (runL ps ls)).1, PairOk p
    unfold allR
    split
    · exact h.2
    · exact runL_val h2 h.2
  | _ => exact h.2
/-! ### answers are data that can be compared -/
theorem got_fine {ps : Ps} (h : ∀ p ∈ ps, PairOk p) (k : Str) : (gotD ps k).fine 1 = true := by
  unfold gotD
  cases c : lookP ps k with
  | none => exact non_fine
  | some d => exact (value_fine (h _ (look_mem c)).2.1).1
theorem tag_fine {s : Str} {ds : List D} {n : Nat} (hs : PyData.strOk s = true) (h : ∀ d ∈ ds, d.fine (n + 1) = true) : (D.tup (.str s :: ds)).fine (n + 2) = true := fine_tup fun d hd => by
  rcases List.mem_cons.mp hd with rfl | hd
  · exact fine_le (lit_fine hs) (by omega)
  · exact h d hd
theorem tag0 {s : Str} (hs : PyData.strOk s = true) : (aD s).fine 2 = true := tag_fine hs fun d hd => by cases hd
theorem tag1 {s : Str} {d : D} (hs : PyData.strOk s = true) (h : d.fine 1 = true) : (D.tup [.str s, d]).fine 2 = true := tag_fine (n := 0) hs fun e he => by rw [List.mem_singleton.mp he]; exact h
theorem tagn {s : Str} {d : D} {n : Nat} (hs : PyData.strOk s = true) (h : d.fine (n + 1) = true) : (D.tup [.str s, d]).fine (n + 2) = true := tag_fine hs fun e he => by rw [List.mem_singleton.mp he]; exact h
theorem stepL_fine {ps : Ps} (h : ∀ p ∈ ps, PairOk p) (l : Lone) : (stepL ps l).2.fine 2 = true := by
  cases l with
  | put k d =>
    show (if lacks ps k = true then _ else _ : Ps × D).2.fine 2 = true
    split
    · exact tag0 (by decide +kernel)
    · exact tag1 (by decide +kernel) (got_fine h k)
  | drop k => exact tag1 (by decide +kernel) (got_fine h k)
  | get k => exact tag1 (by decide +kernel) (got_fine h k)
  | add k n =>
    show (if (gotD ps k).isStr = true then _ else _ : Ps × D).2.fine 2 = true
    split
    · exact tag0 (by decide +kernel)
    · unfold addI
      split
      · exact tag0 (by decide +kernel)
      · split
        · exact tag0 (by decide +kernel)
        · exact tag1 (by decide +kernel) int_fine
  | swap k o n =>
    show (if (!sameA (gotD ps k) o) = true then _ else _ : Ps × D).2.fine 2 = true
    split
    · exact tag1 (by decide +kernel) (got_fine h k)
    · split
      · exact tag0 (by decide +kernel)
      · exact tag0 (by decide +kernel)
theorem runL_fine {ls : List Lone} (hl : ls.all Lone.good = true) : ∀ {r : Ps × List D}, (∀ p ∈ r.1, PairOk p) → (∀ d ∈ r.2, d.fine 2 = true) → ∀ d ∈ (ls.foldl runF r).2, d.fine 2 = true := by
  induction ls with
  | nil => exact fun _ h => h
  | cons l t ih =>
    intro r h g
    obtain ⟨h1, h2⟩ := Bool.and_eq_true_iff.mp (by simpa using hl : (l.good && t.all Lone.good) = true)
    rw [List.foldl_cons]
    refine ih h2 (stepL_val h h1) fun d hd => ?_
    rcases List.mem_append.mp hd with hd | hd
    · exact g d hd
    · rw [List.mem_singleton.mp hd]
      exact stepL_fine h l
theorem prS_fine {p : Str × D} (h : PairOk p) : (prS p).fine 2 = true := fine_tup fun d hd => by
  rcases List.mem_cons.mp hd with rfl | hd
  · exact (key_fine h.1).1
  · rw [List.mem_singleton.mp hd]
    exact (value_fine h.2.1).1
theorem stepD_fine {ps : Ps} {d : Deed} (h : PVal ps) (hd : d.ok = true) : (stepD ps d).2.fine 4 = true := by
  cases d with
  | one l => exact fine_le (stepL_fine h.2 l) (by decide)
  | list a b =>
    refine tagn (n := 2) (by decide +kernel) (fine_tup fun d hd => ?_)
    obtain ⟨p, hp, rfl⟩ := List.mem_map.mp hd
    have := (sortP_perm _).mem_iff.mp hp
    exact prS_fine (h.2 p (List.mem_filter.mp this).1)
  | circle c =>
    obtain ⟨_, h2⟩ := Bool.and_eq_true_iff.mp hd
    exact tagn (n := 2) (by decide +kernel) (Bool.and_eq_true_iff.mp h2).1
  | all ls =>
    obtain ⟨_, h2⟩ := Bool.and_eq_true_iff.mp hd
    show (allR ps (runL ps ls)).2.fine 4 = true
    unfold allR
    split
    · exact fine_le (tag1 (by decide +kernel) int_fine) (by decide)
    · exact tagn (n := 2) (by decide +kernel) (fine_tup (runL_fine h2 h.2 fun d hd => by cases hd))
theorem runD_val {ds : List Deed} : ∀ {r : Ps × List D}, (∀ d ∈ ds, d.ok = true) → PVal r.1 → (∀ d ∈ r.2, d.fine 4 = true) → PVal (ds.foldl runDF r).1 ∧ ∀ d ∈ (ds.foldl runDF r).2, d.fine 4 = true := by
  induction ds with
  | nil => exact fun _ h g => ⟨h, g⟩
  | cons l t ih =>
    intro r hl h g
    rw [List.foldl_cons]
    refine ih (fun d hd => hl d (List.mem_cons_of_mem _ hd)) (stepD_val h (hl l (List.mem_cons_self ..))) fun d hd => ?_
    rcases List.mem_append.mp hd with hd | hd
    · exact g d hd
    · rw [List.mem_singleton.mp hd]
      exact stepD_fine h (hl l (List.mem_cons_self ..))
theorem runD_fine {ds : List Deed} {ps : Ps} (hl : ∀ d ∈ ds, d.ok = true) (h : PVal ps) : (D.tup (runD ps ds).2).fine 5 = true := fine_tup (runD_val hl h fun d hd => by cases hd).2
end K0

namespace K0
open PySem L2 Evl
/-! ### what draws data -/
def clean1 (d : D) : Prop := d.clean = true
section
variable {K : PySem.W.Frag} {σ : L2.St} {H H' : Hp} {a : Addr} {te : TE} {ta : TA} {M : D → Prop}
def EvX (K : PySem.W.Frag) (a : Addr) (te : TE) (σ : L2.St) (M : D → Prop) : Prop := ∀ H1, DiceAt H1 a → ∀ Q : VK, (∀ v d H2, Bt a H1 H2 → DiceAt H2 a → M d → d.clean = true → Rp K H2 v d → Q v H2) → te σ H1 Q
def EvXA (K : PySem.W.Frag) (a : Addr) (ta : TA) (σ : L2.St) (M : List D → Prop) : Prop := ∀ H1, DiceAt H1 a → ∀ Q : List V → Hp → Prop, (∀ vs ds H2, Bt a H1 H2 → DiceAt H2 a → M ds → D.cleanL ds = true → RpAll K H2 vs ds → Q vs H2) → ta σ H1 Q
theorem Rp.bt {v : V} {d : D} (c : d.clean = true) (h : DiceAt H a) (b : Bt a H H') (r : Rp K H v d) : Rp K H' v d := r.exT c (b.exT h)
theorem RpAll.bt {vs : List V} {ds : List D} (c : D.cleanL ds = true) (h : DiceAt H a) (b : Bt a H H') (r : RpAll K H vs ds) : RpAll K H' vs ds := r.exT c (b.exT h)
theorem x_ev {v : V} {d : D} (h : ∀ H1, Ev te σ H1 v) (r : ∀ H1, Rp K H1 v d) (m : M d) (c : d.clean = true) : EvX K a te σ M := fun H1 d1 Q q => h H1 H1 (Ex.refl _) Q fun H2 e2 => q v d H2 (Bt.of e2) (d1.ex e2) m c (r H2)
theorem x_str {s : Str} (m : M (.str s)) : EvX K a (tC (.str s)) σ M := x_ev (fun _ => ev_c) (fun _ => .str s) m rfl
theorem x_int {i : Int} (m : M (.int i)) : EvX K a (tC (.int i)) σ M := x_ev (fun _ => ev_c) (fun _ => .int i) m rfl
theorem x_neg {i : Int} (m : M (.int (-i))) : EvX K a (tUn (rU fun i => V.int (-i)) (tC (.int i))) σ M := x_ev (fun _ => ev_un ev_c ru_neg) (fun _ => .int _) m rfl
theorem x_non (m : M .non) : EvX K a (tC .non) σ M := x_ev (fun _ => ev_c) (fun _ => .non) m rfl
theorem x_var {i : Nat} {d : D} (h : σ[i]? = some (some (atV d))) (w : d.isWo = true) (m : M d) : EvX K a (tVar i) σ M := x_ev (fun _ => ev_var h) (fun _ => by cases d <;> first | exact .non | exact .int _ | exact .str _ | cases w) m (by cases d <;> first | rfl | cases w)
theorem x_imp {N : D → Prop} (h : EvX K a te σ M) (k : ∀ d, M d → N d) : EvX K a te σ N := fun H1 d1 Q q => h H1 d1 Q fun v d H2 b d2 m c r => q v d H2 b d2 (k d m) c r
theorem xa_nil : EvXA K a tNil σ fun ds => ds = [] := fun H1 d1 Q q => q [] [] H1 Bt.refl d1 rfl rfl .nil
theorem xa_cons {N : List D → Prop} (h : EvX K a te σ M) (r : EvXA K a ta σ N) : EvXA K a (tCons te ta) σ fun ds => ∃ d es, ds = d :: es ∧ M d ∧ N es := fun H1 d1 Q q =>
  h H1 d1 _ fun v d H2 b2 d2 m c hv => r H2 d2 _ fun vs ds H3 b3 d3 n c3 hs => q (v :: vs) (d :: ds) H3 (b2.trans b3) d3 ⟨d, ds, rfl, m, n⟩ (Bool.and_eq_true_iff.mpr ⟨c, c3⟩) (.cons (hv.bt c d2 b3) hs)
/-- all of one kind -/
theorem xl_nil : EvXA K a tNil σ fun ds => (∀ d ∈ ds, M d) ∧ ds.length ≤ 0 := fun H1 d1 Q q => q [] [] H1 Bt.refl d1 ⟨(fun d h => by cases h), Nat.le_refl _⟩ rfl .nil
theorem xl_cons {n : Nat} (h : EvX K a te σ M) (r : EvXA K a ta σ fun ds => (∀ d ∈ ds, M d) ∧ ds.length ≤ n) : EvXA K a (tCons te ta) σ fun ds => (∀ d ∈ ds, M d) ∧ ds.length ≤ n + 1 := fun H1 d1 Q q =>
  h H1 d1 _ fun v d H2 b2 d2 m c hv => r H2 d2 _ fun vs ds H3 b3 d3 n c3 hs => q (v :: vs) (d :: ds) H3 (b2.trans b3) d3 ⟨(fun e he => by
    rcases List.mem_cons.mp he with rfl | he
    · exact m
    · exact n.1 e he), by rw [List.length_cons]; exact Nat.succ_le_succ n.2⟩ (Bool.and_eq_true_iff.mpr ⟨c, c3⟩) (.cons (hv.bt c d2 b3) hs)
theorem x_tup {N : List D → Prop} (h : EvXA K a ta σ N) (k : ∀ ds, N ds → ds.length ≤ 1000 ∧ M (.tup ds)) : EvX K a (tTup ta) σ M := fun H1 d1 Q q =>
  h H1 d1 _ fun vs ds H2 b2 d2 n c hs => ⟨by rw [hs.len]; exact sz_of (by have := (k ds n).1; omega), fun p hp => q (.ref p) (.tup ds) _ (b2.trans (Bt.of (Ex.new hp))) (d2.ex (Ex.new hp)) (k ds n).2 c (.tup (st_of upd_same) (hs.ex (Ex.new hp)))⟩
/-- _law_pick(dice, [..]) -/
theorem x_pick {E : XK} {n : Nat} {tx : TE} (hv : σ[0]? = some (some (.ref a))) (hx : EvX K a tx σ M) (h : EvXA K a ta σ fun ds => (∀ d ∈ ds, M d) ∧ ds.length ≤ n) (hn : n ≤ 1000) : EvX K a (tCall (sp_law_pick K) [] E (tCons (tVar 0) (tCons (tLst (tCons tx ta)) tNil))) σ M := fun H1 d1 Q q => by
  refine d_raw (n_cons (n_var hv (n_cons ?_)))
  refine hx H1 d1 _ fun v d H2 b2 d2 m c hv => h H2 d2 _ fun vs ds H3 b3 d3 n3 c3 hs => ?_
  have rr : RpAll K H3 (v :: vs) (d :: ds) := .cons (hv.bt c d2 b3) hs
  have l3 := hs.len
  refine ⟨sz_of (by rw [List.length_cons]; omega), fun p hp => n_nil ⟨a, p, v :: vs, rfl, d3.ex (Ex.new hp), d3.ne hp, sq_of upd_same, by simp, by rw [List.length_cons]; omega, fun x H4 hx4 b4 d4 => ?_⟩⟩
  obtain ⟨y, hy, ry⟩ := (rr.ex (Ex.new hp)).memI x hx4
  have cy : y.clean = true := by
    rcases List.mem_cons.mp hy with rfl | hy
    · exact c
    · rw [cleanL_all] at c3
      exact List.all_eq_true.mp c3 y hy
  refine q x y H4 (((b2.trans b3).trans (Bt.of (Ex.new hp))).trans b4) d4 ?_ cy (ry.bt cy (d3.ex (Ex.new hp)) b4)
  rcases List.mem_cons.mp hy with rfl | hy
  · exact m
  · exact n3.1 y hy
/-- a def that draws -/
def spDraw (M : D → Prop) (K : PySem.W.Frag) : Sp := fun vs H Q _ => ∃ a, vs = [.ref a] ∧ DiceAt H a ∧ ∀ v d H', Bt a H H' → DiceAt H' a → M d → d.clean = true → Rp K H' v d → Q v H'
theorem spDraw_len {vs : List V} {H : Hp} {Q : VK} {E : XK} (h : spDraw M K vs H Q E) : vs.length = 1 := by
  obtain ⟨a, rfl, _⟩ := h
  rfl
theorem x_draw {E : XK} {i : Nat} (hv : σ[i]? = some (some (.ref a))) : EvX K a (tCall (spDraw M K) [] E (tCons (tVar i) tNil)) σ M := fun H1 d1 Q q => d_raw (n_cons (n_var hv (n_nil ⟨a, rfl, d1, fun v d H2 b d2 m c r => q v d H2 b d2 m c r⟩)))
theorem x_ret {D : Ends} (h : EvX K a te σ M) (hd : DiceAt H a) (k : ∀ v d H2, Bt a H H2 → DiceAt H2 a → M d → d.clean = true → Rp K H2 v d → D.rt v H2) : tRet te D σ H := h H hd _ k
theorem x_asg {D : Ends} {tz : TS} {i : Nat} (h : EvX K a te σ M) (hd : DiceAt H a) (k : ∀ v d H2, Bt a H H2 → DiceAt H2 a → M d → d.clean = true → Rp K H2 v d → tz D (σ.set i (some v)) H2) : tSeq (tAsg te (gName i)) tz D σ H := h H hd _ k
end
def mKey (d : D) : Prop := ∃ k, d = .str k ∧ okK k = true
def mVal (d : D) : Prop := d.value = true
def mLone (d : D) : Prop := ∃ l, d = Lone.enc l ∧ l.good = true
def mDeed (d : D) : Prop := ∃ e, d = Deed.enc e ∧ e.ok = true
theorem mk_key {k : Str} (h : okK k = true) : mKey (.str k) := ⟨k, rfl, h⟩
/-- [.. for turn in range(n)], each drawn -/
theorem l_draws {K : PySem.W.Frag} {M : D → Prop} {a : Addr} {te : TE} {vs : List Nat} {σ : L2.St} {j n : Nat} {H1 : Hp} {Q : VK} (hd : DiceAt H1 a) (hn : n ≤ 1000) (hw : ∀ x, wipe ((wipe σ vs).set j (some x)) vs = wipe σ vs) (hx : ∀ i : Int, EvX K a te ((wipe σ vs).set j (some (.int i))) M)
    (k : ∀ p xs ds H2, H1 p = none → Bt a H1 H2 → DiceAt H2 a → H2 p = some (.lst xs) → RpAll K H2 xs ds → ds.length = n → (∀ d ∈ ds, M d) → D.cleanL ds = true → Q (.ref p) H2) :
    ∀ D, H1 D = none → ∃ W : Nat → Nat → Hp → Prop, (∃ m, W 0 m (upd H1 D (.lst []))) ∧ ∀ i m H, W i m H →
      ((Itr 0 n).stop i H ∧ Q (.ref D) H) ∨ ((Itr 0 n).go i H ∧ ∃ Nx : Hp → Prop, (∀ H', Nx H' → ∃ m', m' < m ∧ W (i + 1) m' H') ∧ ∀ x H', (Itr 0 n).yld i H x H' → gName j x (wipe σ vs) H' fun σ2 H2 => wipe σ2 vs = wipe σ vs ∧ tYes σ2 H2 fun b H3 =>
        if b = true then te σ2 H3 fun y H4 => ∃ acc, H4 D = some (.lst acc) ∧ acc.length < sizeLine ∧ Nx (upd H4 D (.lst (acc ++ [y]))) else Nx H3) :=
  lc_draws (te := te) (vs := vs) (σ := σ) (j := j) (a := a) (n := n) (R := fun v H => ∃ d, (M d ∧ d.clean = true) ∧ Rp K (hid (some a) H) v d) (Q := Q) (fun v H H' e ⟨d, hm, hr⟩ => ⟨d, hm, hr.exL e⟩) hd hn hw
    (fun i H' _ b d Q q => hx _ H' d Q fun v d' H2 b2 d2 m c r => q v H2 b2 d2 ⟨d', ⟨m, c⟩, r.exT c (exT_hid d2.hidL)⟩) fun Dl xs H' hDl b d h1 h2 h3 => by
    obtain ⟨ds, rr, mm⟩ := rp_those (K := K) (H := H') (xs := xs) fun x hx => by
      obtain ⟨d, hm, hr⟩ := h3 x hx
      exact ⟨d, hm, hr.ex hid_le⟩
    exact k Dl xs ds H' hDl b d h1 rr (by rw [← rr.len, h2]) (fun d hd => (mm d hd).1) (by rw [cleanL_all]; exact List.all_eq_true.mpr fun d hd => (mm d hd).2)
where
  rp_those {K : PySem.W.Frag} {H : Hp} {M : D → Prop} : ∀ {xs : List V}, (∀ x ∈ xs, ∃ d, M d ∧ Rp K H x d) → ∃ ds, RpAll K H xs ds ∧ ∀ d ∈ ds, M d
    | [], _ => ⟨[], .nil, fun d hd => by cases hd⟩
    | x :: xs, h => by
      obtain ⟨d, hm, hr⟩ := h x (List.mem_cons_self ..)
      obtain ⟨ds, r, m⟩ := rp_those (xs := xs) fun y hy => h y (List.mem_cons_of_mem _ hy)
      refine ⟨d :: ds, .cons hr r, fun e he => ?_⟩
      rcases List.mem_cons.mp he with rfl | he
      · exact hm
      · exact m e he
theorem lones_of : ∀ {ds : List D}, (∀ d ∈ ds, mLone d) → ∃ ls : List Lone, ds = ls.map Lone.enc ∧ ls.all Lone.good = true
  | [], _ => ⟨[], rfl, rfl⟩
  | d :: ds, h => by
    obtain ⟨l, rfl, hl⟩ := h d (List.mem_cons_self ..)
    obtain ⟨ls, rfl, hs⟩ := lones_of (ds := ds) fun e he => h e (List.mem_cons_of_mem _ he)
    exact ⟨l :: ls, rfl, by rw [List.all_cons, hl, hs]; rfl⟩
theorem deeds_of : ∀ {ds : List D}, (∀ d ∈ ds, mDeed d) → ∃ ls : List Deed, ds = ls.map Deed.enc ∧ ∀ d ∈ ls, d.ok = true
  | [], _ => ⟨[], rfl, fun d hd => by cases hd⟩
  | d :: ds, h => by
    obtain ⟨l, rfl, hl⟩ := h d (List.mem_cons_self ..)
    obtain ⟨ls, rfl, hs⟩ := deeds_of (ds := ds) fun e he => h e (List.mem_cons_of_mem _ he)
    refine ⟨l :: ls, rfl, fun e he => ?_⟩
    rcases List.mem_cons.mp he with rfl | he
    · exact hl
    · exact hs e he
def mLot (d : D) : Prop := ∃ ls : List Lone, d = .tup (ls.map Lone.enc) ∧ 1 ≤ ls.length ∧ ls.length ≤ 6 ∧ ls.all Lone.good = true
/-- tuple([.. for turn in range(1 + roll)]) -/
theorem x_lot {K : PySem.W.Frag} {a : Addr} {te : TE} {vs : List Nat} {σ : L2.St} {j : Nat} {E : XK} (hv : σ[0]? = some (some (.ref a))) (hw : ∀ x, wipe ((wipe σ vs).set j (some x)) vs = wipe σ vs) (hx : ∀ i : Int, EvX K a te ((wipe σ vs).set j (some (.int i))) mLone) :
    EvX K a (tCB (rTupOf K) (tCons (tLc (iRng1 (tCons (tOp (rI0 fun i j => V.int (i + j)) (tC (.int 1)) (tCall (sp_law_roll K) [] E (tCons (tVar 0) (tCons (tC (.int 6)) tNil)))) tNil)) (gName j) tYes te vs) tNil)) σ mLot := fun H d1 Q q => by
  refine n_cb (n_cons ?_)
  unfold tLc
  refine n_rng1 (n_cons (n_op ?_))
  show tCall (sp_law_roll K) [] E (tCons (tVar 0) (tCons (tC (.int 6)) tNil)) σ H _
  refine c_call (ea_cons (ev_var hv) (ea_cons ev_c ea_nil)) fun H1 e1 => ?_
  refine ⟨a, 6, rfl, d1.ex e1, by decide, by decide, fun r H2 r0 r1 hb2 hd2 => ?_⟩
  have b2 : Bt a H H2 := (Bt.of e1).trans hb2
  refine ⟨1, r, rfl, rfl, n_nil ⟨1 + r, rfl, by omega, by omega, ?_⟩⟩
  refine l_draws (K := K) (M := mLone) (a := a) (n := (1 + r).toNat) (Q := fun v H1 => tNil σ H1 fun vs H2 => rTupOf K (v :: vs) H2 Q) hd2 (by omega) hw hx fun p xs ds H3 hp b3 d3 h3 rr hl hm hc => ?_
  obtain ⟨ls, rfl, hg⟩ := lones_of hm
  rw [List.length_map] at hl
  refine n_nil ⟨p, xs, rfl, .inl ⟨sq_of h3, fun l hl2 => q (.ref l) _ _ ((b2.trans b3).trans (Bt.of (Ex.new hl2))) (d3.ex (Ex.new hl2)) ⟨ls, rfl, by omega, by omega, hg⟩ hc (.tup (st_of upd_same) (rr.ex (Ex.new hl2)))⟩⟩
def mWord (d : D) : Prop := ∃ w, d = .str w ∧ w ∈ lotWords
theorem mk_word {w : Str} (h : w ∈ lotWords) : mWord (.str w) := ⟨w, rfl, h⟩
def mWorth (d : D) : Prop := d.worth = true
def mShort (d : D) : Prop := ∃ n, d = .int n ∧ (D.int n).short = true
theorem mk_short {n : Int} (h : (D.int n).short = true) : mShort (.int n) := ⟨n, rfl, h⟩
theorem mk_val {d : D} (h : d.value = true) : mVal d := h
theorem mk_worth {d : D} (h : d.worth = true) : mWorth d := h
theorem val_worth {d : D} (h : mVal d) : mWorth d := by
  show (d.isNon || d.value) = true
  rw [show d.value = true from h, Bool.or_true]
section
variable {P : Program} {w : World} {K : PySem.W.Frag} {mg : Str → Option Value} {base : Heap} {A : Ad} {D : Fd}
end
end K0

namespace K0
open PySem PySem.Spec PyProof.Rows L2 Evl
/-! ### list(d.items()), a dict's keys texts or numbers -/
section
variable {X : Cx}
def rItemsK : V → List V → Hp → VK → Prop := fun x xs H Q => ∃ (a : Addr) (kvs : List (Key × V)), x = .ref a ∧ xs = [] ∧ H a = some (.dK kvs) ∧ ∀ p, H p = none → Q (.ref p) (upd H p (L2.DX.itemsO p a))
theorem mt_itemsK : MtR X "dict.items" rItemsK := by
  intro pins s σ H x xs v us Q I rx rxs h
  obtain ⟨a, kvs, rfl, rfl, ha, q⟩ := h
  cases rx
  cases rxs
  obtain ⟨_, hd, va, ra, dd⟩ := (show ObjOk X.prog X.w H s.heap a (.dK kvs) from I.hok a _ ha)
  obtain ⟨ep, o, es, ho, hx, hdat, _⟩ := dd.dictAt
  refine DT.callItems (es := es) (ep := ep) hd ⟨o, ho, hx, hdat⟩ ?_
  have hf : H s.heap.objs.size = none := I.hok.fresh (Nat.le_refl _)
  exact ⟨.ref s.heap.objs.size, upd H s.heap.objs.size (L2.DX.itemsO s.heap.objs.size a), I.laid (t' := s.toks) (fun b u e => Heap.get?_push_of_some _ e) (Nat.le_refl _) (L2.DX.itemsO_ok (Heap.get?_push_size _ rfl)), rfl, q _ hf⟩
def rListIt : List V → Hp → VK → Prop := fun vs H Q => ∃ (p a : Addr) (kvs : List (Key × V)), vs = [.ref p] ∧ H p = some (L2.DX.itemsO p a) ∧ H a = some (.dK kvs) ∧
  ∀ l (ts : List Addr) H', Ex H H' → H l = none → H' l = some (.lst (ts.map V.ref)) → Paired (fun t kv => H' t = some (.tup [kV kv.1, kv.2])) ts kvs → Q (.ref l) H'
theorem paired_ix {α β : Type} {R : α → β → Prop} : ∀ {xs : List α} {ys : List β}, xs.length = ys.length → (∀ (j : Nat) x y, xs[j]? = some x → ys[j]? = some y → R x y) → Paired R xs ys
  | [], [], _, _ => .nil
  | [], _ :: _, h, _ => by simp at h
  | _ :: _, [], h, _ => by simp at h
  | x :: xs, y :: ys, h, f => .cons (f 0 x y rfl rfl) (paired_ix (by simpa using h) fun j x' y' h1 h2 => f (j + 1) x' y' (by simpa using h1) (by simpa using h2))
theorem cr_listIt (hc : X.calm = true) : CallR X (.type "list") rListIt := by
  intro pins s σ H xs us Q I r h
  obtain ⟨p, a, kvs, rfl, hp, ha, q⟩ := h
  obtain rfl := Vals.ref1 r
  have view : s.heap.IsItemsView p a := (show ObjOk X.prog X.w H s.heap p (L2.DX.itemsO p a) from I.hok p _ hp).1
  obtain ⟨z, hd, va, ra, dd⟩ := (show ObjOk X.prog X.w H s.heap a (.dK kvs) from I.hok a _ ha)
  obtain ⟨ep, hat⟩ := dd.dictAt
  have hl : kvs.length = va.length := Paired.length ra
  refine PySem.W.kdx_call (knd := mixKind X.prog X.w) (kvs := va) (ep := ep) (I.ok.hd hc) view hat (by rw [← hl]; exact z) fun h' tk acc c as hk hS hal hG hacc => ?_
  have I1 : Inv X pins σ H { s with heap := h', toks := tk } := I.kept (t' := tk) hk
  have hn0 : H s.heap.objs.size = none := I.hok.fresh (Nat.le_refl _)
  have nd : as.Nodup := List.Pairwise.imp (fun h => Nat.ne_of_lt h) hG.rise
  have rv : Vals (as.map V.ref) acc.toList := by
    rw [hacc]
    exact vals_maps (fun b : Addr => V.ref b) (fun b => Value.ref b) as fun _ _ => rfl
  have I2 : Inv X pins σ (upd H s.heap.objs.size (.lst (as.map V.ref))) { s with heap := h', toks := tk } :=
    I1.take (h' := h') (t' := tk) (fun b ob _ e => e) (I.fpOk (Nat.le_refl _) hn0) ⟨by rw [List.length_map, hal, ← hl]; exact z, acc.toList, c, rv, by rw [Array.toArray_toList]; exact hS⟩
  obtain ⟨H2, I3, g, qt⟩ := L2.DX.takeT (P := fun b vs => ∃ (j : Nat) (kv : Key × V), as[j]? = some b ∧ kvs[j]? = some kv ∧ vs = [kV kv.1, kv.2]) I as _ I2 nd fun b hb => by
    obtain ⟨j, hj⟩ := List.mem_iff_getElem?.mp hb
    obtain ⟨key, k, x, hkv, his, hg⟩ := hG.pairs j b hj
    obtain ⟨v, hv, rx⟩ := KV.at' ra hkv
    have hbl : s.heap.objs.size ≤ b := Nat.le_of_lt (hG.above b hb)
    refine ⟨hbl, ?_, [kV k, v], ⟨j, (k, v), hj, hv, rfl⟩, fun H3 => ⟨(by rw [sizeLine_eq]; show 2 ≤ 16777216; omega), [key, x], .cons (keyIs_rel his) (.cons rx .nil), ⟨_, hg, rfl, 0, rfl⟩⟩⟩
    rw [upd_ne (Nat.ne_of_gt (hG.above b hb))]
    exact I.hok.fresh hbl
  have gr : ∀ b o, H b = some o → H2 b = some o := fun b o e => g b o (by rw [upd_ne (ne_of_none e hn0)]; exact e)
  refine ⟨.ref s.heap.objs.size, H2, I3, rfl, q _ as H2 gr hn0 (g _ _ upd_same) (paired_ix (by rw [hal, hl]) fun j t kv h1 h2 => ?_)⟩
  obtain ⟨vs, ⟨i, kv', i1, i2, ev⟩, hH⟩ := qt t (List.mem_of_getElem? h1)
  have eij : i = j := (List.getElem?_inj (List.getElem?_eq_some_iff.mp i1).1 nd).mp (i1.trans h1.symm)
  subst eij
  have ee : kv' = kv := Option.some.inj (i2.symm.trans h2)
  rw [ev, ee] at hH
  exact hH
theorem cr_reprB : CallR X (.builtin "repr") (fun xs H Q => ∃ b, xs = [.bl b] ∧ Q (.str (if b then "True" else "False")) H) := by
  intro pins s σ H xs us Q I r h
  obtain ⟨b, rfl, q⟩ := h
  obtain ⟨u, rfl, rb⟩ := vals1 r
  cases rb
  exact PySem.P.repr_of_bool ⟨.str _, H, I.tok _, ⟨_, rfl⟩, q⟩
end
section
variable {K : PySem.W.Frag} {σ : L2.St} {H : Hp} {td te : TE} {a : Addr} {ps : Ps}
/-- dict(list(d.items())) -/
theorem ep_dictItems (h : Ev td σ H (.ref a)) (hp : PairsAt H a ps) : EvP (tCB (rDictP K) (tCons (tCB rListIt (tCons (tBM0 K "dict" rItemsK td) tNil)) tNil)) σ H ps := fun H1 e Q q => by
  obtain ⟨qs, pm, n, z, g⟩ := hp
  refine h H1 e _ fun H2 e2 => ?_
  have g2 := e2 _ _ (e _ _ g)
  refine ⟨.inr (.inr (.inl ⟨rfl, .inl ⟨_, g2⟩⟩)), a, _, rfl, rfl, g2, fun p hp => ?_⟩
  have ep : Ex H2 (upd H2 p (L2.DX.itemsO p a)) := Ex.new hp
  refine ⟨p, a, _, rfl, upd_same, ep _ _ g2, fun l ts H3 e3 hl h3 pd => ?_⟩
  refine ⟨l, ts, kv qs, rfl, sq_of h3, paired_tup pd, fun m hm => ?_⟩
  have mk := merge_kv qs [] (by rw [List.nil_append]; exact n.perm pm)
  rw [List.nil_append] at mk
  rw [show mergeK [] (kv qs) = kv qs from mk]
  exact q m _ (((e2.trans ep).trans e3).trans (Ex.new hm)) ⟨qs, pm, n, z, upd_same⟩
where
  paired_tup {H : Hp} : ∀ {ts : List Addr} {kvs : List (Key × V)}, Paired (fun t (kv : Key × V) => H t = some (.tup [kV kv.1, kv.2])) ts kvs → Paired (fun t (kv : Key × V) => SqT K H t [kV kv.1, kv.2]) ts kvs
    | _, _, .nil => .nil
    | _, _, .cons h r => .cons (st_of h) (paired_tup r)
theorem ev_reprB {b : Bool} (h : Ev te σ H (.bl b)) : Ev (tCB (fun xs H Q => ∃ b, xs = [.bl b] ∧ Q (.str (if b then "True" else "False")) H) (tCons te tNil)) σ H (.str (if b then "True" else "False")) := ev_cb (ea_cons h ea_nil) fun H1 _ Q q => ⟨b, rfl, q H1 (Ex.refl _)⟩
end
end K0

namespace K0
open PySem L2 Evl
theorem Bt.mut {a d : Addr} {H H' : Hp} {o : HO} (h : Bt a H H') (hd : H d = none) : Bt a H (L2.upd H' d o) := fun c u hc => by
  have h1 := h c u hc
  have ncd : c ≠ d := fun z => by
    subst z
    have := hid_le _ _ hc
    rw [hd] at this
    cases this
  unfold hid at h1 ⊢
  split at h1
  · cases h1
  · rename_i nn
    rw [if_neg nn, upd_ne ncd]
    exact h1
theorem DiceAt.mut {a d : Addr} {H : Hp} {o : HO} (h : DiceAt H a) (n : d ≠ a) : DiceAt (L2.upd H d o) a := by
  obtain ⟨x, y, z, h⟩ := h
  exact ⟨x, y, z, by rw [upd_ne n.symm]; exact h⟩
theorem put_len1 (ps : Ps) (k : Str) (d : D) : (putP ps k d).length ≤ ps.length + 1 := by
  unfold putP
  split
  · rw [List.length_map]
    omega
  · rw [List.length_append]
    exact Nat.le_refl _
theorem letter_at {i : Nat} (h : i < 26) : atI (PySem.Str.cps (("abcdefghijklmnopqrstuvwxyz" : Str))).toList (i : Int) = some (97 + i) := (by decide +kernel : ∀ j : Fin 26, atI (PySem.Str.cps (("abcdefghijklmnopqrstuvwxyz" : Str))).toList (j.val : Int) = some (97 + j.val)) ⟨i, h⟩
theorem k_ok {i : Nat} (h : i < 26) : okK (("k" : Str) ++ ⟨#[97 + i]⟩) = true := (by decide +kernel : ∀ j : Fin 26, okK (("k" : Str) ++ ⟨#[97 + j.val]⟩) = true) ⟨i, h⟩
theorem full_ok {i : Nat} (h : i < 26) : okK (("full" : Str) ++ ⟨#[97 + i]⟩) = true := (by decide +kernel : ∀ j : Fin 26, okK (("full" : Str) ++ ⟨#[97 + j.val]⟩) = true) ⟨i, h⟩
theorem ev_letter {σ : L2.St} {H : Hp} {w : Str} {j i : Nat} (hw : w.length ≤ 1000) (hj : σ[j]? = some (some (.int (i : Int)))) (h : i < 26) :
    Ev (tOp (fun x y H Q => ∃ i j, x = V.str i ∧ y = V.str j ∧ i.length + j.length ≤ sizeLine ∧ Q (V.str (i ++ j)) H) (tC (.str w)) (tOp rIxS (tC (.str "abcdefghijklmnopqrstuvwxyz")) (tVar j))) σ H (.str (w ++ ⟨#[97 + i]⟩)) :=
  ev_op ev_c (ev_op ev_c (ev_var hj) (rv_ixS (by decide) (letter_at h))) (rv_addS (by show w.length + 1 ≤ 100000; omega))
theorem small_value {i : Nat} (h : i < 100) : (D.int (i : Int)).value = true := short_value (short_of (decide_eq_false (by split <;> omega)))
section
variable {P : Program} {w : World} {K : PySem.W.Frag} {mg : Str → Option Value} {base : Heap} {A : Ad} {D : Fd}
end
end K0

namespace PySem.SeqAt
open AutoSeq1 (wpAny_loadPart')
open MeetsSeq MeetsSeq2 MeetsSeq3 SeqRoads2
section
variable {prog : Program} {w : World}
/-- t != () -/
theorem own_tupNe0 (l b : Addr) (us : Array Value) (n m : Nat) (dl db : Option Addr) (sl sb : Array (Option Value)) : MeetsIn prog w (Builtin.«tuple.__ne__» ⟨[.ref l, .ref b], []⟩) (fun A R s =>
    s.heap.get? l = some { cls := .type "tuple", dict := dl, data := .seq us n, slots := sl } ∧ s.heap.get? b = some { cls := .type "tuple", dict := db, data := .seq #[] m, slots := sb } ∧ R (.ok (.ret (.bool (us.size != 0)))) s) :=
  .of_wp fun A R s h => by
  obtain ⟨hp, g, d, tk, os⟩ := s
  obtain ⟨hl, hb, h⟩ := h
  have sub := AutoSeq1.sub_tuple_tuple
  wp_walk using wpAny_loadPart' hl, wpAny_loadPart' hb, wpAny_forIn_list _ (fun rest c s' => c.1 = none ∧ s' = ⟨hp, g, d, tk, os⟩ ∧ rest = []) _
  case turn =>
    rintro ⟨y, x⟩ rest c s' ⟨_, _, hi⟩
    cases hi
  case fin =>
    rintro ⟨c1, c2⟩ s' ⟨hc, rfl, _⟩
    have hc' : c1 = none := hc
    subst hc'
    wp_walk
    exact ⟨_, rfl, by simpa [Builtin.Tuple.tupleCompareSizes, bne] using h⟩
  case h => exact ⟨rfl, rfl, by simp⟩
/-- a list that is not empty != [] -/
theorem own_lstNe0 (l b : Addr) (us : Array Value) (n m : Nat) (dl db : Option Addr) (sl sb : Array (Option Value)) (hz : us.size ≠ 0) : MeetsIn prog w (Builtin.«list.__ne__» ⟨[.ref l, .ref b], []⟩) (fun A R s =>
    s.heap.get? l = some { cls := .type "list", dict := dl, data := .seq us n, slots := sl } ∧ s.heap.get? b = some { cls := .type "list", dict := db, data := .seq #[] m, slots := sb } ∧ R (.ok (.ret (.bool true))) s) := by
  intro A R s h
  obtain ⟨hp, g, d, tk, os⟩ := s
  obtain ⟨hl, hb, h⟩ := h
  have sub := AutoSeq1.sub_list_list
  have nz : (us.size != (#[] : Array Value).size) = true := by simpa using hz
  wp_walk using wpAny_loadPart' hl, wpAny_loadPart' hb
  all_goals first | exact h | (simp at nz; done) | skip
variable {A : Around} {s : Shared} {l b : Addr} {us : Array Value}
theorem own_neT0 (hl : s.heap.IsTuple l us) (hb : s.heap.IsTuple b #[]) (hu : A.units < cLine) {E Q : Value → Shared → Prop} (h : Q (.bool (us.size != 0)) s) : wpAny (model prog w) A (richCompare .NotEq (.ref l) (.ref b)) Q E s := by
  obtain ⟨⟨c1, d1, dt1, z1⟩, o1, k1, n1, e1⟩ := id hl
  obtain ⟨⟨c2, d2, dt2, z2⟩, o2, k2, n2, e2⟩ := id hb
  simp only at k1 e1 k2 e2
  subst k1 e1 k2 e2
  have t1 : s.TypeIs (.ref l) "tuple" := ⟨_, o1, rfl⟩
  have t2 : s.TypeIs (.ref b) "tuple" := ⟨_, o2, rfl⟩
  refine wpAny_richCompare_same_room (op := .NotEq) t1 t2 F.slot_tuple_ne (call_meetsIn F.slot_tuple_ne t1 F.entry_tuple_ne (F.args_tuple_ne_2 _ _) (own_tupNe0 l b us n1 n2 d1 d2 z1 z2) ⟨o1, o2, ?_⟩) hu
  exact show Value.bool (us.size != 0) ≠ Value.notImplemented ∧ Q (.bool (us.size != 0)) s from ⟨(fun x => nomatch x), h⟩
theorem own_neL0 (hl : s.heap.IsList l us) (hb : s.heap.IsList b #[]) (hz : us.size ≠ 0) (hu : A.units < cLine) {E Q : Value → Shared → Prop} (h : Q (.bool true) s) : wpAny (model prog w) A (richCompare .NotEq (.ref l) (.ref b)) Q E s := by
  obtain ⟨⟨c1, d1, dt1, z1⟩, o1, k1, n1, e1⟩ := id hl
  obtain ⟨⟨c2, d2, dt2, z2⟩, o2, k2, n2, e2⟩ := id hb
  simp only at k1 e1 k2 e2
  subst k1 e1 k2 e2
  have t1 : s.TypeIs (.ref l) "list" := ⟨_, o1, rfl⟩
  have t2 : s.TypeIs (.ref b) "list" := ⟨_, o2, rfl⟩
  refine wpAny_richCompare_same_room (op := .NotEq) t1 t2 F.slot_list_ne (call_meetsIn F.slot_list_ne t1 F.entry_list_ne (F.args_list_ne_2 _ _) (own_lstNe0 l b us n1 n2 d1 d2 z1 z2 hz) ⟨o1, o2, ?_⟩) hu
  exact show Value.bool true ≠ Value.notImplemented ∧ Q (.bool true) s from ⟨(fun x => nomatch x), h⟩
end
end PySem.SeqAt
namespace K0
open PySem PySem.Spec PyProof.Rows L2 Evl
/-! ### more operators -/
section
variable {P : Program} {w : World}
/-- a dict whose keys are texts lacks None -/
theorem lacks_none {hp : Heap} {a : Addr} {g : Str → Option Value} (m : hp.MapOf (strKind P w) a g) : ∃ f, hp.MapOf (noneKind P w) a f ∧ f none = none := by
  obtain ⟨ob, ar, ep, h1, h2, h3, h4, _⟩ := m
  refine ⟨fun key => findBy (noneKind P w).is ar key, ⟨ob, ar, ep, h1, h2, h3, fun e he => ?_, fun _ => rfl⟩, ?_⟩
  · obtain ⟨k, g1, g2⟩ := h4 e he
    exact ⟨some (.inr k), g1, g2⟩
  · have no : (ar.find? fun e => nkIs none e.key) = none := Array.find?_eq_none.mpr fun e he hq => by
      obtain ⟨k, g1, _⟩ := h4 e he
      obtain ⟨t, et⟩ := Value.isStrOf_shape (x := k) (v := e.key) g1
      have e0 := nk_none hq
      rw [et] at e0
      cases e0
    show (ar.find? fun e => nkIs none e.key).map (·.val) = none
    rw [no]
    rfl
end
section
variable {X : Cx} {d : Addr} {es : Array DictEntry} {n : Nat}
/-- a text or None not in a dict of the top -/
def rNikN (K : PySem.W.Frag) (d : Addr) : R2 := fun x y H Q => y = V.ref d ∧ ((∃ (z : Str) (r : Option Value), x = V.str z ∧ PySem.W.nsIn K d z = some r ∧ Q (.bl (!r.isSome)) H) ∨ (x = .non ∧ Q (.bl true) H))
theorem op_notIn_kdN (D : KDict X.K X.w d es n) : OpR X (compareOp .NotIn) (rNikN X.K d) := by
  intro pins s σ H x y v u Q I rx ry h
  obtain ⟨rfl, ⟨z, r, rfl, hn, q⟩ | ⟨rfl, q⟩⟩ := h
  · exact op_notIn_kd D pins s σ H _ _ v u Q I rx ry ⟨z, r, rfl, rfl, hn, q⟩
  · cases rx
    cases ry
    obtain ⟨f, hm, hf⟩ := lacks_none (PySem.W.mapOf_K (prog := X.prog) I.kIn D.at_ D.lit)
    refine wpAny_notIn_of (show (noneKind X.prog X.w).is none .none = true from rfl) D.low hm ?_
    rw [hf]
    exact ⟨.bl true, H, I.tok _, rfl, q⟩
/-- == of two tuples, the items that meet being flat -/
def rEqF (K : PySem.W.Frag) : R2 := fun x y H Q => ∃ a b xs ys, x = V.ref a ∧ y = V.ref b ∧ SqT K H a xs ∧ SqT K H b ys ∧ (∀ (j : Nat) (u v : V), xs[j]? = some u → ys[j]? = some v → flatV u = true ∧ flatV v = true) ∧
  Q (.bl ((List.range (min xs.length ys.length)).all (fun j => eqV (xs.getD j .non) (ys.getD j .non)) && xs.length == ys.length)) H
theorem op_eqF (hu : X.A.units < cLine) : OpR X (compareOp .Eq) (rEqF X.K) := by
  intro pins s σ H x y v u Q I rx ry h
  obtain ⟨a, b, xs, ys, rfl, rfl, ha, hb, hf, q⟩ := h
  cases rx
  cases ry
  obtain ⟨us, r1, p1, _⟩ := I.tuple ha
  obtain ⟨ws, r2, p2, _⟩ := I.tuple hb
  refine SeqAt.eq_tupleAt (e := fun j => eqV (xs.getD j .non) (ys.getD j .non)) p1 p2 hu (fun j g1 g2 => ?_) ?_
  · obtain ⟨x, hx, a1⟩ := vals_at r1 j g1
    obtain ⟨y, hy, a2⟩ := vals_at r2 j g2
    obtain ⟨f1, f2⟩ := hf j x y hx hy
    rw [gd_some hx, gd_some hy]
    exact eqAt_V a1 a2 f1 f2
  · rw [List.size_toArray, List.size_toArray, ← r1.length, ← r2.length]
    exact ⟨.bl _, H, I, rfl, q⟩
/-- != of a tuple and () -/
def rNeT0 (K : PySem.W.Frag) : R2 := fun x y H Q => ∃ a b xs, x = V.ref a ∧ y = V.ref b ∧ SqT K H a xs ∧ SqT K H b [] ∧ Q (.bl (!xs.isEmpty)) H
theorem op_neT0 (hu : X.A.units + 64 < cLine) : OpR X (compareOp .NotEq) (rNeT0 X.K) := by
  intro pins s σ H x y v u Q I rx ry h
  obtain ⟨a, b, xs, rfl, rfl, ha, hb, q⟩ := h
  cases rx
  cases ry
  obtain ⟨us, r1, p1, _⟩ := I.tuple ha
  obtain ⟨ws, r2, p2, _⟩ := I.tuple hb
  cases r2
  refine SeqAt.own_neT0 p1 p2 (by omega) ?_
  have e : (us.toArray.size != 0) = !xs.isEmpty := by
    rw [List.size_toArray, ← r1.length]
    cases xs <;> rfl
  rw [e]
  exact ⟨.bl (!xs.isEmpty), H, I, rfl, q⟩
/-- != of a list and [] -/
def rNeL0 (K : PySem.W.Frag) : R2 := fun x y H Q => ∃ a b xs, x = V.ref a ∧ y = V.ref b ∧ SqL K H a xs ∧ SqL K H b [] ∧ Q (.bl (!xs.isEmpty)) H
theorem op_neL0 (hu : X.A.units + 64 < cLine) : OpR X (compareOp .NotEq) (rNeL0 X.K) := by
  intro pins s σ H x y v u Q I rx ry h
  obtain ⟨a, b, xs, rfl, rfl, ha, hb, q⟩ := h
  cases rx
  cases ry
  obtain ⟨us, r1, p1, _⟩ := I.list ha
  obtain ⟨ws, r2, p2, _⟩ := I.list hb
  cases r2
  cases xs with
  | nil =>
    cases r1
    exact SeqAt.own_neL p1.isList p2.isList rfl (by omega) (fun j g1 _ => absurd g1 (by simp)) ⟨.bl false, H, I, rfl, q⟩
  | cons y ys =>
    refine SeqAt.own_neL0 p1.isList p2.isList ?_ (by omega) ⟨.bl true, H, I, rfl, q⟩
    cases r1 with
    | cons r1 r2 => simp
end
end K0

namespace K0
open PySem PySem.Spec PyProof.Rows L2 Evl
/-! ### dicts from small numbers to data, in their very order -/
section
variable {α : Type} {K : PySem.W.Frag} {enc : α → D} {H H' : Hp}
def lookN (L : List (Nat × α)) (c : Nat) : Option α := (L.find? fun p => decide (p.1 = c)).map (·.2)
def hasN (L : List (Nat × α)) (c : Nat) : Bool := L.any fun p => decide (p.1 = c)
def putN (L : List (Nat × α)) (c : Nat) (x : α) : List (Nat × α) := if hasN L c = true then L.map (fun p => if p.1 = c then (p.1, x) else p) else L ++ [(c, x)]
def keysN (L : List (Nat × α)) : List Nat := L.map (·.1)
def RelN (K : PySem.W.Frag) (H : Hp) (enc : α → D) (kv : Key × V) (p : Nat × α) : Prop := kv.1 = Sum.inl (p.1 : Int) ∧ Rp K H kv.2 (enc p.2)
def DictN (K : PySem.W.Frag) (H : Hp) (a : Addr) (enc : α → D) (L : List (Nat × α)) : Prop := ∃ kvs, H a = some (.dK kvs) ∧ Paired (RelN K H enc) kvs L ∧ (keysN L).Nodup
theorem inl_iff {a b : Nat} : ((Sum.inl (a : Int) : Key) = Sum.inl (b : Int)) ↔ a = b := ⟨fun h => by injection h with h; omega, fun h => by rw [h]⟩
theorem look_hasN (L : List (Nat × α)) (c : Nat) : (lookN L c).isSome = hasN L c := by
  induction L with
  | nil => rfl
  | cons p r ih =>
    by_cases q : p.1 = c
    · simp [lookN, hasN, List.find?_cons, q]
    · simp only [lookN, hasN, List.find?_cons, List.any_cons] at ih ⊢
      rw [decide_eq_false q]
      simpa using ih
theorem lookN_none {L : List (Nat × α)} {c : Nat} : lookN L c = none ↔ ¬ c ∈ keysN L := by
  have e := look_hasN L c
  constructor
  · intro h m
    obtain ⟨p, hp, rfl⟩ := List.mem_map.mp m
    have : hasN L p.1 = true := List.any_eq_true.mpr ⟨p, hp, decide_eq_true rfl⟩
    rw [h, this] at e
    cases e
  · intro h
    cases z : lookN L c with
    | none => rfl
    | some x =>
      rw [z] at e
      obtain ⟨p, hp, q⟩ := List.any_eq_true.mp e.symm
      exact absurd (List.mem_map.mpr ⟨p, hp, of_decide_eq_true q⟩) h
theorem lookN_mem {L : List (Nat × α)} {c : Nat} {x : α} (h : lookN L c = some x) : (c, x) ∈ L := by
  unfold lookN at h
  cases z : L.find? (fun p => decide (p.1 = c)) with
  | none => rw [z] at h; cases h
  | some p =>
    rw [z] at h
    have h1 := List.mem_of_find?_eq_some z
    have h2 : p.1 = c := of_decide_eq_true (List.find?_some (p := fun p : Nat × α => decide (p.1 = c)) z)
    cases h
    rw [← h2]
    exact h1
theorem lookN_of : ∀ {L : List (Nat × α)} {c : Nat} {x : α}, (keysN L).Nodup → (c, x) ∈ L → lookN L c = some x
  | p :: r, c, x, n, h => by
    unfold keysN at n
    rw [List.map_cons, List.nodup_cons] at n
    rcases List.mem_cons.mp h with rfl | h
    · simp [lookN, List.find?_cons]
    · have q : p.1 ≠ c := fun z => n.1 (by rw [z]; exact List.mem_map.mpr ⟨(c, x), h, rfl⟩)
      have ih := lookN_of (L := r) n.2 h
      unfold lookN at ih ⊢
      rw [List.find?_cons, decide_eq_false q]
      exact ih
theorem lookN_put (L : List (Nat × α)) (c d : Nat) (x : α) : lookN (putN L c x) d = if d = c then some x else lookN L d := by
  unfold putN
  by_cases h : hasN L c = true
  · rw [if_pos h]
    have key : ∀ M : List (Nat × α), lookN (M.map fun p => if p.1 = c then (p.1, x) else p) d = if d = c then (lookN M d).map fun _ => x else lookN M d := by
      intro M
      induction M with
      | nil => by_cases q : d = c <;> simp [lookN, q]
      | cons p r ih =>
        by_cases q : p.1 = c
        · by_cases z : p.1 = d
          · have dc : d = c := z.symm.trans q
            simp [lookN, List.find?_cons, q, dc]
          · have dc : ¬ d = c := fun w => z (q.trans w.symm)
            have cd : ¬ c = d := fun w => dc w.symm
            rw [if_neg dc] at ih ⊢
            rw [List.map_cons, if_pos q]
            unfold lookN at ih ⊢
            rw [List.find?_cons, List.find?_cons, decide_eq_false (show ¬ (p.1, x).1 = d from z)]
            exact ih
        · by_cases z : p.1 = d
          · have dc : ¬ d = c := fun w => q (z.trans w)
            rw [if_neg dc, List.map_cons, if_neg q]
            simp [lookN, List.find?_cons, z]
          · rw [List.map_cons, if_neg q]
            unfold lookN at ih ⊢
            rw [List.find?_cons, List.find?_cons, decide_eq_false z]
            exact ih
    rw [key]
    by_cases q : d = c
    · rw [if_pos q, if_pos q]
      have : (lookN L d).isSome = true := by rw [look_hasN, q]; exact h
      obtain ⟨y, hy⟩ := Option.isSome_iff_exists.mp this
      rw [hy]
      rfl
    · rw [if_neg q, if_neg q]
  · rw [if_neg h]
    have hn : lookN L c = none := by
      have := look_hasN L c
      cases z : lookN L c with
      | none => rfl
      | some y => rw [z] at this; exact absurd this.symm h
    have key : ∀ M : List (Nat × α), lookN M c = none → lookN (M ++ [(c, x)]) d = if d = c then some x else lookN M d := by
      intro M
      induction M with
      | nil =>
        intro _
        by_cases q : c = d
        · simp [lookN, List.find?_cons, q]
        · have q' : ¬ d = c := fun w => q w.symm
          simp [lookN, List.find?_cons, q, q']
      | cons p r ih =>
        intro hm
        have pc : ¬ p.1 = c := fun w => by simp [lookN, List.find?_cons, w] at hm
        have hr : lookN r c = none := by
          unfold lookN at hm ⊢
          rw [List.find?_cons, decide_eq_false pc] at hm
          exact hm
        have ih' := ih hr
        by_cases z : p.1 = d
        · have dc : ¬ d = c := fun w => pc (z.trans w)
          rw [if_neg dc]
          simp [lookN, List.find?_cons, z]
        · unfold lookN at ih' ⊢
          rw [List.cons_append, List.find?_cons, List.find?_cons, decide_eq_false z]
          exact ih'
    exact key L hn
theorem keysN_put (L : List (Nat × α)) (c : Nat) (x : α) : keysN (putN L c x) = if hasN L c = true then keysN L else keysN L ++ [c] := by
  unfold putN
  split
  · unfold keysN
    rw [List.map_map]
    refine congrArg (fun f => List.map f L) (funext fun p => ?_)
    show (if p.1 = c then (p.1, x) else p).1 = p.1
    split <;> rfl
  · unfold keysN
    rw [List.map_append]
    rfl
theorem nodupN_put {L : List (Nat × α)} (n : (keysN L).Nodup) (c : Nat) (x : α) : (keysN (putN L c x)).Nodup := by
  rw [keysN_put]
  split
  · exact n
  · rename_i h
    rw [List.nodup_append]
    refine ⟨n, by simp, fun a ha b hb => ?_⟩
    rw [List.mem_singleton.mp hb]
    intro z
    obtain ⟨p, hp, rfl⟩ := List.mem_map.mp ha
    exact h (List.any_eq_true.mpr ⟨p, hp, decide_eq_true z⟩)
/-- .. in the heap -/
theorem paired_len {β γ : Type} {R : β → γ → Prop} : ∀ {xs : List β} {ys : List γ}, Paired R xs ys → xs.length = ys.length
  | _, _, .nil => rfl
  | _, _, .cons _ r => congrArg Nat.succ (paired_len r)
theorem paired_mono {β γ : Type} {R S : β → γ → Prop} : ∀ {xs : List β} {ys : List γ}, Paired R xs ys → (∀ x y, y ∈ ys → R x y → S x y) → Paired S xs ys
  | _, _, .nil, _ => .nil
  | _, _, .cons h r, f => .cons (f _ _ (List.mem_cons_self ..) h) (paired_mono r fun x y hy => f x y (List.mem_cons_of_mem _ hy))
theorem DictN.ex {a : Addr} {L : List (Nat × α)} (e : Ex H H') (h : DictN K H a enc L) : DictN K H' a enc L := let ⟨kvs, g, p, n⟩ := h; ⟨kvs, e _ _ g, paired_mono p fun x y _ r => ⟨r.1, r.2.ex e⟩, n⟩
theorem DictN.exT {a : Addr} {L : List (Nat × α)} (c : ∀ p ∈ L, (enc p.2).clean = true) (e : ExT H H') (h : DictN K H a enc L) : DictN K H' a enc L :=
  let ⟨kvs, g, p, n⟩ := h; ⟨kvs, e _ _ g (fun _ z => by cases z), paired_mono p fun x y hy r => ⟨r.1, r.2.exT (c y hy) e⟩, n⟩
theorem valN : ∀ {kvs : List (Key × V)} {L : List (Nat × α)}, Paired (RelN K H enc) kvs L → ∀ c : Nat, (lookN L c = none → valV kvs (.inl (c : Int)) = none) ∧ ∀ x, lookN L c = some x → ∃ v, valV kvs (.inl (c : Int)) = some v ∧ Rp K H v (enc x)
  | _, _, .nil, c => ⟨fun _ => rfl, fun x h => by cases h⟩
  | kv :: kvs, p :: L, .cons h r, c => by
    have ih := valN r c
    by_cases q : p.1 = c
    · have e : lookN (p :: L) c = some p.2 := by simp [lookN, List.find?_cons, q]
      rw [e]
      refine ⟨(fun z => by cases z), fun x hx => ?_⟩
      cases hx
      exact ⟨kv.2, valV_pos (h.1.trans (inl_iff.mpr q)), h.2⟩
    · have e : lookN (p :: L) c = lookN L c := by
        unfold lookN
        rw [List.find?_cons, decide_eq_false q]
      rw [e, valV_neg fun z => q (inl_iff.mp (h.1.symm.trans z))]
      exact ih
theorem anyN : ∀ {kvs : List (Key × V)} {L : List (Nat × α)}, Paired (RelN K H enc) kvs L → ∀ c : Nat, (kvs.any fun kv => decide (kv.1 = Sum.inl (c : Int))) = hasN L c
  | _, _, .nil, c => rfl
  | kv :: kvs, p :: L, .cons h r, c => by
    unfold hasN
    rw [List.any_cons, List.any_cons, anyN r c, h.1]
    congr 1
    exact decide_eq_decide.mpr inl_iff
theorem relN_put {kvs : List (Key × V)} {L : List (Nat × α)} {c : Nat} {x : α} {v : V} (r : Paired (RelN K H enc) kvs L) (hv : Rp K H v (enc x)) : Paired (RelN K H enc) (putK kvs (.inl (c : Int)) v) (putN L c x) := by
  unfold putK putN
  rw [anyN r c]
  by_cases q : hasN L c = true
  · rw [if_pos q, if_pos q]
    clear q
    have go : ∀ {kvs : List (Key × V)} {L : List (Nat × α)}, Paired (RelN K H enc) kvs L → Paired (RelN K H enc) (kvs.map fun kv => if kv.1 = Sum.inl (c : Int) then (kv.1, v) else kv) (L.map fun p => if p.1 = c then (p.1, x) else p) := by
      intro kvs L r
      induction r with
      | nil => exact .nil
      | @cons kv p kvs L h _ ih =>
        refine .cons ?_ ih
        by_cases z : p.1 = c
        · show RelN K H enc (if kv.1 = Sum.inl (c : Int) then (kv.1, v) else kv) (if p.1 = c then (p.1, x) else p)
          rw [if_pos z, if_pos (h.1.trans (inl_iff.mpr z))]
          exact ⟨h.1, hv⟩
        · show RelN K H enc (if kv.1 = Sum.inl (c : Int) then (kv.1, v) else kv) (if p.1 = c then (p.1, x) else p)
          rw [if_neg z, if_neg fun w => z (inl_iff.mp (h.1.symm.trans w))]
          exact h
    exact go r
  · rw [if_neg q, if_neg q]
    clear q
    induction r with
    | nil => exact .cons ⟨rfl, hv⟩ .nil
    | cons h _ ih => exact .cons h ih
theorem keysN_kv : ∀ {kvs : List (Key × V)} {L : List (Nat × α)}, Paired (RelN K H enc) kvs L → kvs.map (·.1) = ((keysN L).map fun c : Nat => (c : Int)).map Sum.inl
  | _, _, .nil => rfl
  | _, _, .cons h r => by
    unfold keysN
    rw [List.map_cons, List.map_cons, List.map_cons, List.map_cons, h.1, keysN_kv r]
    rfl
theorem DictN.isD {a : Addr} {L : List (Nat × α)} (h : DictN K H a enc L) : IsD H a := let ⟨_, g, _, _⟩ := h; .inl ⟨_, .inl g⟩
theorem DictN.ne {a p : Addr} {L : List (Nat × α)} (h : DictN K H a enc L) (hp : H p = none) : a ≠ p := let ⟨_, g, _⟩ := h; ne_of_none g hp
theorem dgetN {a : Addr} {L : List (Nat × α)} (h : DictN K H a enc L) (c : Nat) : ∃ r, DGet H a (.int (c : Int)) r ∧ (lookN L c = none → r = none) ∧ ∀ x, lookN L c = some x → ∃ v, r = some v ∧ Rp K H v (enc x) := by
  obtain ⟨kvs, g, p, n⟩ := h
  exact ⟨_, .inl ⟨kvs, .inl (c : Int), .inl g, rfl, rfl⟩, (valN p c).1, (valN p c).2⟩
end
section
variable {α : Type} {K : PySem.W.Frag} {enc : α → D} {σ : L2.St} {H H' : Hp} {td ty tx te ta : TE} {a : Addr} {L : List (Nat × α)} {c : Nat} {Dn : Ends} {tz : TS}
/-- c in d, c not in d -/
theorem ev_inN (hk : Ev ty σ H (.int (c : Int))) (h : Ev td σ H (.ref a)) (hd : DictN K H a enc L) : Ev (tDIn ty td) σ H (.bl (hasN L c)) := fun H1 e Q q =>
  hk H1 e _ fun H2 e2 => h H2 (e.trans e2) _ fun H3 e3 => by
    obtain ⟨r, g, r0, r1⟩ := dgetN (hd.ex ((e.trans e2).trans e3)) c
    refine ⟨a, r, rfl, g, ?_⟩
    have z : r.isSome = hasN L c := by
      rw [← look_hasN]
      cases w : lookN L c with
      | none => rw [r0 w]; rfl
      | some x =>
        obtain ⟨v, rfl, _⟩ := r1 x w
        rfl
    rw [z]
    exact q H3 (e2.trans e3)
theorem ev_notinN (hk : Ev ty σ H (.int (c : Int))) (h : Ev td σ H (.ref a)) (hd : DictN K H a enc L) : Ev (tDNotIn ty td) σ H (.bl (!hasN L c)) := fun H1 e Q q =>
  hk H1 e _ fun H2 e2 => h H2 (e.trans e2) _ fun H3 e3 => by
    obtain ⟨r, g, r0, r1⟩ := dgetN (hd.ex ((e.trans e2).trans e3)) c
    refine ⟨a, r, rfl, g, ?_⟩
    have z : r.isSome = hasN L c := by
      rw [← look_hasN]
      cases w : lookN L c with
      | none => rw [r0 w]; rfl
      | some x =>
        obtain ⟨v, rfl, _⟩ := r1 x w
        rfl
    rw [z]
    exact q H3 (e2.trans e3)
/-- d[c] -/
theorem ed_itemN {x : α} (h : Ev td σ H (.ref a)) (hk : Ev ty σ H (.int (c : Int))) (hd : DictN K H a enc L) (hl : lookN L c = some x) : EvD K (tDGet td ty) σ H (enc x) := fun H1 e Q q =>
  h H1 e _ fun H2 e2 => hk H2 (e.trans e2) _ fun H3 e3 => by
    obtain ⟨r, g, r0, r1⟩ := dgetN (hd.ex ((e.trans e2).trans e3)) c
    obtain ⟨v, rfl, hv⟩ := r1 x hl
    exact ⟨a, v, rfl, g, q v H3 (e2.trans e3) hv⟩
/-- d.get(c, z) -/
def gotN (L : List (Nat × α)) (enc : α → D) (c : Nat) (z : D) : D := ((lookN L c).map enc).getD z
theorem ed_get2N {z : D} (h : Ev td σ H (.ref a)) (hk : Ev ty σ H (.int (c : Int))) (hz : EvD K tx σ H z) (hd : DictN K H a enc L) : EvD K (tDGet2 td ty tx) σ H (gotN L enc c z) := fun H1 e Q q =>
  h H1 e _ fun H2 e2 => ⟨a, rfl, (hd.ex (e.trans e2)).isD, hk H2 (e.trans e2) _ fun H3 e3 => hz H3 ((e.trans e2).trans e3) _ fun w H4 e4 hw => by
    obtain ⟨r, g, r0, r1⟩ := dgetN (hd.ex (((e.trans e2).trans e3).trans e4)) c
    refine ⟨r, g, ?_⟩
    cases l : lookN L c with
    | none =>
      rw [r0 l]
      refine q w H4 ((e2.trans e3).trans e4) ?_
      unfold gotN
      rw [l]
      exact hw
    | some x =>
      obtain ⟨v, rfl, hv⟩ := r1 x l
      refine q v H4 ((e2.trans e3).trans e4) ?_
      unfold gotN
      rw [l]
      exact hv⟩
/-- len(d), isinstance(d, dict) -/
theorem rc_lenN (hd : DictN K H a enc L) : RC rLenP [.ref a] H (.int (L.length : Nat)) := fun H1 e Q q => by
  obtain ⟨kvs, g, p, _⟩ := hd
  refine ⟨a, _, rfl, e _ _ g, ?_⟩
  rw [paired_len p]
  exact q H1 (Ex.refl _)
theorem rc_isDictN (hd : DictN K H a enc L) : RC (rIsi K) [.ref a, .ty "dict"] H (.bl true) := fun H1 e Q q => by
  obtain ⟨kvs, g, p, _⟩ := hd
  exact ⟨_, _, _, _, _, rfl, .ty _, .base (.dK (e _ _ g)), kit_ty (by decide +kernel), q H1 (Ex.refl _)⟩
/-- d[c] = v on an own dict -/
theorem s_putN {tv : TE} {d : Addr} {kvs : List (Key × V)} {x : α} (hd : H d = some (.dK kvs)) (hr : Paired (RelN K H enc) kvs L) (hv : EvD K tv σ H (enc x)) (ho : ∀ H1, Ex H H1 → Ev td σ H1 (.ref d)) (hk : ∀ H1, Ex H H1 → Ev ty σ H1 (.int (c : Int))) (hl : L.length < 100000)
    (k : ∀ v H1, Ex H H1 → Rp K H1 v (enc x) → Dn.nx σ (upd H1 d (.dK (putK kvs (.inl (c : Int)) v)))) : sDPut td ty tv Dn σ H :=
  hv H (Ex.refl H) _ fun v H1 e1 r1 => ho H1 e1 H1 (Ex.refl _) _ fun H2 e2 => hk H2 (e1.trans e2) H2 (Ex.refl _) _ fun H3 e3 => by
    have e := (e1.trans e2).trans e3
    exact ⟨d, _, rfl, .inl ⟨_, .inl (c : Int), e _ _ hd, rfl, by rw [paired_len hr]; exact sz_lt hl, rfl⟩, k v H3 e (r1.ex (e2.trans e3))⟩
/-- what a mutated dict leaves as it was -/
theorem sqT_dict {d b : Addr} {kvs : List (Key × V)} {u : HO} {xs : List V} (hd : H d = some (.dK kvs)) (h : SqT K H b xs) : SqT K (upd H d u) b xs := by
  have ne : ∀ o, H b = some o → (∀ z, o ≠ .dK z) → b ≠ d := fun o ho n z => by
    rw [z, hd] at ho
    exact n kvs (Option.some.inj ho).symm
  rcases h with (h | ⟨o, h⟩) | h
  · exact .inl (.inl (by rw [upd_ne (ne _ h fun _ z => by cases z)]; exact h))
  · exact .inl (.inr ⟨o, by rw [upd_ne (ne _ h fun _ z => by cases z)]; exact h⟩)
  · exact .inr h
theorem Rp.dict {d : Addr} {kvs : List (Key × V)} {u : HO} {v : V} {x : D} (cl : x.clean = true) (hd : H d = some (.dK kvs)) (h : Rp K H v x) : Rp K (upd H d u) v x := h.byT cl fun _ _ g => sqT_dict hd g
theorem RpAll.dict {d : Addr} {kvs : List (Key × V)} {u : HO} {vs : List V} {ds : List D} (cl : D.cleanL ds = true) (hd : H d = some (.dK kvs)) (h : RpAll K H vs ds) : RpAll K (upd H d u) vs ds := h.byT cl fun _ _ g => sqT_dict hd g
/-- dict(d): a copy -/
theorem q_copyN {i : Nat} (h : Ev td σ H (.ref a)) (hd : DictN K H a enc L) (k : ∀ p H1, H p = none → Ex H H1 → DictN K H1 p enc L → tz Dn (σ.set i (some (.ref p))) H1) :
    tSeq (tAsg (tCB rCopyP (tCons td tNil)) (gName i)) tz Dn σ H := h H (Ex.refl H) _ fun H1 e => by
  obtain ⟨kvs, g, p, n⟩ := hd
  exact ⟨a, _, rfl, .inl (e _ _ g), fun q hq => k q _ (fresh_back e hq) (e.trans (Ex.new hq)) ⟨kvs, upd_same, paired_mono p fun x y _ r => ⟨r.1, r.2.ex (e.trans (Ex.new hq))⟩, n⟩⟩
end
/-! ### the clients in their order -/
section
variable {α β : Type}
def sortM (m : Nat → Option α) : List (Nat × α) := (List.range 5).filterMap fun c => (m c).map fun x => (c, x)
theorem sortM_keys (m : Nat → Option α) : keysN (sortM m) = (List.range 5).filter fun c => (m c).isSome := by
  unfold keysN sortM
  generalize List.range 5 = l
  induction l with
  | nil => rfl
  | cons c l ih =>
    rw [List.filterMap_cons, List.filter_cons]
    cases z : m c with
    | none => simpa using ih
    | some x => simpa using ih
theorem sortM_nodup (m : Nat → Option α) : (keysN (sortM m)).Nodup := by
  rw [sortM_keys]
  exact List.Nodup.sublist List.filter_sublist List.nodup_range
theorem sortM_look {m : Nat → Option α} (h : ∀ c, (m c).isSome = true → c < 5) (c : Nat) : lookN (sortM m) c = m c := by
  cases z : m c with
  | none =>
    refine lookN_none.mpr fun w => ?_
    rw [sortM_keys] at w
    have := (List.mem_filter.mp w).2
    rw [z] at this
    cases this
  | some x =>
    refine lookN_of (sortM_nodup m) ?_
    unfold sortM
    refine List.mem_filterMap.mpr ⟨c, List.mem_range.mpr (h c (by rw [z]; rfl)), ?_⟩
    rw [z]
    rfl
/-- a list that is sorted by its keys -/
theorem sortM_uniq {L : List (Nat × α)} {m : Nat → Option α} (hm : ∀ c, lookN L c = m c) (h5 : ∀ c ∈ keysN L, c < 5) {ys : List Int} (hp : ys.Perm ((keysN L).map fun c : Nat => (c : Int))) (n : (keysN L).Nodup) (hs : ys.Pairwise (· ≤ ·)) :
    ys = (keysN (sortM m)).map fun c : Nat => (c : Int) := by
  have inj : ∀ a b : Nat, ((a : Int) = (b : Int)) → a = b := fun a b h => by omega
  have n1 : ((keysN L).map fun c : Nat => (c : Int)).Nodup := List.Pairwise.map _ (fun a b h z => h (inj a b z)) n
  have p2 : (keysN (sortM m)).Perm (keysN L) := by
    refine (List.perm_ext_iff_of_nodup (sortM_nodup m) n).mpr fun c => ?_
    rw [sortM_keys, List.mem_filter, List.mem_range]
    constructor
    · rintro ⟨_, h⟩
      by_cases z : c ∈ keysN L
      · exact z
      · rw [← hm c, lookN_none.mpr z] at h
        cases h
    · intro h
      refine ⟨h5 c h, ?_⟩
      rw [← hm c]
      cases z : lookN L c with
      | none => exact absurd h (lookN_none.mp z)
      | some x => rfl
  have s2 : ((keysN (sortM m)).map fun c : Nat => (c : Int)).Pairwise (· ≤ ·) := by
    rw [sortM_keys]
    refine List.Pairwise.map _ (fun a b (h : a < b) => by show (a : Int) ≤ b; omega) ?_
    exact List.Pairwise.sublist List.filter_sublist List.pairwise_lt_range
  exact List.Perm.eq_of_pairwise (le := fun a b : Int => a ≤ b) (fun a b _ _ h1 h2 => Int.le_antisymm h1 h2) hs s2 (hp.trans (p2.map _).symm)
end
end K0

namespace K0
open PySem PySem.Spec PyProof.Rows L2 Evl
/-! ### calls and answers -/
inductive Hs where
  | call (c n : Nat) (e : Deed) | ans (c n : Nat) (x : D) (l : Nat)
def Hs.c : Hs → Nat
  | .call c _ _ => c | .ans c _ _ _ => c
def Hs.n : Hs → Nat
  | .call _ n _ => n | .ans _ n _ _ => n
def Hs.isCall : Hs → Bool
  | .call _ _ _ => true | .ans _ _ _ _ => false
def Hs.enc : Hs → D
  | .call c n e => .tup [.str "call", .int (c : Int), .int (n : Int), e.enc]
  | .ans c n x l => .tup [.str "answer", .int (c : Int), .int (n : Int), x, .int (l : Int)]
structure AnsOk (x : D) : Prop where
  tup : x.isTup = true
  cl : x.clean = true
  pl : x.plain 5 = true
  sz : x.size ≤ 100
def Hs.Ok : Hs → Prop
  | .call c n e => c < 5 ∧ 1 ≤ n ∧ n ≤ 1000 ∧ e.ok = true ∧ e.enc.clean = true ∧ e.enc.size ≤ 690
  | .ans c n x l => c < 5 ∧ 1 ≤ n ∧ n ≤ 1000 ∧ AnsOk x ∧ l ≤ 1000
theorem Hs.Ok.c5 {h : Hs} (o : h.Ok) : h.c < 5 := by cases h <;> exact o.1
theorem Hs.Ok.n1 {h : Hs} (o : h.Ok) : 1 ≤ h.n := by cases h <;> exact o.2.1
theorem Hs.Ok.n2 {h : Hs} (o : h.Ok) : h.n ≤ 1000 := by cases h <;> exact o.2.2.1
/-! ### what is plain -/
theorem sgl_plain {n : Nat} {d : D} (h : d.single = true) : d.plain n = true := by
  cases n <;> cases d <;> first | exact h | cases h
theorem plain_up : ∀ {n : Nat} {d : D}, d.plain n = true → d.plain (n + 1) = true
  | 0, d, h => sgl_plain h
  | n + 1, d, h => by
    cases d with
    | tup ds =>
      have h' : ds.all (D.plain n) = true := h
      show ds.all (D.plain (n + 1)) = true
      exact List.all_eq_true.mpr fun e he => plain_up (List.all_eq_true.mp h' e he)
    | _ => exact h
theorem plain_le {n m : Nat} {d : D} (h : d.plain n = true) (l : n ≤ m) : d.plain m = true := by
  induction l with
  | refl => exact h
  | step _ ih => exact plain_up ih
theorem plain_tup {n : Nat} {ds : List D} (h : ∀ d ∈ ds, d.plain n = true) : (D.tup ds).plain (n + 1) = true := List.all_eq_true.mpr h
theorem letters_in : letters.cps.toList.all signs37.cps.contains = true := by decide +kernel
theorem word_sgl {s signs : Str} {m : Int} (hs : signs.cps.toList.all signs37.cps.contains = true) (hm : m ≤ 3000) (h : D.word signs m (.str s) = true) : (D.str s).single = true := by
  obtain ⟨h1, h2⟩ := Bool.and_eq_true_iff.mp (show (decide ((s.length : Int) ≤ m) && s.cps.toList.all signs.cps.contains) = true from h)
  have h1' := of_decide_eq_true h1
  show (decide ((s.length : Int) ≤ 3000) && s.cps.toList.all signs37.cps.contains) = true
  rw [decide_eq_true (by omega), Bool.true_and]
  refine List.all_eq_true.mpr fun c hc => ?_
  have m2 : c ∈ signs.cps.toList := by simpa using List.all_eq_true.mp h2 c hc
  exact List.all_eq_true.mp hs c m2
theorem signs_in : signs37.cps.toList.all signs37.cps.contains = true := by decide +kernel
theorem key_sgl {k : Str} (h : okK k = true) : (D.str k).single = true :=
  word_sgl letters_in (by decide) (Bool.and_eq_true_iff.mp (show (D.word letters 8 (.str k) && (D.str k).nonEmpty) = true from h)).1
theorem short_sgl {i : Int} (h : (D.int i).short = true) : (D.int i).single = true := (Bool.and_eq_true_iff.mp (show (numB i && _) = true from h)).1
theorem value_sgl {d : D} (h : d.value = true) : d.single = true := by
  cases d with
  | int i =>
    have h' : ((D.int i).short || D.word signs37 12 (.int i)) = true := h
    rw [show D.word signs37 12 (.int i) = false from rfl, Bool.or_false] at h'
    exact short_sgl h'
  | str s =>
    have h' : D.word signs37 12 (.str s) = true := by
      have : ((D.str s).short || D.word signs37 12 (.str s)) = true := h
      rwa [show (D.str s).short = false from rfl, Bool.false_or] at this
    exact word_sgl signs_in (by decide) h'
  | _ => cases h
theorem worth_sgl {d : D} (h : d.worth = true) : d.single = true := by
  unfold D.worth at h
  cases hn : d.isNon with
  | true =>
    have : d = .non := by cases d <;> first | rfl | cases hn
    subst this
    rfl
  | false =>
    rw [hn, Bool.false_or] at h
    exact value_sgl h
theorem lot_sgl {w : Str} (h : w ∈ lotWords) : (D.str w).single = true := (by decide +kernel : ∀ s ∈ lotWords, (D.str s).single = true) w h
theorem lone_plain {l : Lone} (h : l.good = true) : l.enc.plain 1 = true := by
  have hw := lot_sgl (word_in l)
  cases l with
  | put k d =>
    obtain ⟨h1, h2⟩ := Bool.and_eq_true_iff.mp h
    show ((D.str _).single && ((D.str _).single && (d.plain 0 && true))) = true
    rw [show (D.str "put").single = true from hw, key_sgl h1, show d.plain 0 = true from value_sgl h2]
    rfl
  | drop k =>
    show ((D.str _).single && ((D.str _).single && true)) = true
    rw [show (D.str "drop").single = true from hw, key_sgl h]
    rfl
  | get k =>
    show ((D.str _).single && ((D.str _).single && true)) = true
    rw [show (D.str "get").single = true from hw, key_sgl h]
    rfl
  | add k n =>
    obtain ⟨h1, h2⟩ := Bool.and_eq_true_iff.mp h
    show ((D.str _).single && ((D.str _).single && ((D.int n).single && true))) = true
    rw [show (D.str "add").single = true from hw, key_sgl h1, short_sgl h2]
    rfl
  | swap k o n =>
    obtain ⟨h1, h2⟩ := Bool.and_eq_true_iff.mp h
    obtain ⟨h2, h3⟩ := Bool.and_eq_true_iff.mp h2
    show ((D.str _).single && ((D.str _).single && (o.plain 0 && (n.plain 0 && true)))) = true
    rw [show (D.str "swap").single = true from hw, key_sgl h1, show o.plain 0 = true from worth_sgl h2, show n.plain 0 = true from worth_sgl h3]
    rfl
theorem circle_plain {c : D} (h : c.circle = true) : c.plain 1 = true := by
  cases c with
  | tup ds =>
    have h1 := (Bool.and_eq_true_iff.mp (show ((ds.all (D.within 0 8) && ascB (ds.map D.toInt)) && _) = true from h)).1
    have h2 := (Bool.and_eq_true_iff.mp h1).1
    refine plain_tup fun d hd => ?_
    have h3 := List.all_eq_true.mp h2 d hd
    cases d with
    | int i => exact (Bool.and_eq_true_iff.mp (show (numB i && _) = true from h3)).1
    | _ => cases h3
  | _ => cases h
theorem deed_plain {d : Deed} (h : d.ok = true) : d.enc.plain 3 = true := by
  cases d with
  | one l => exact plain_le (lone_plain h) (by decide)
  | list a b =>
    obtain ⟨h1, h2⟩ := Bool.and_eq_true_iff.mp h
    refine plain_le (n := 1) (plain_tup fun d hd => ?_) (by decide)
    rcases List.mem_cons.mp hd with rfl | hd
    · exact (by decide +kernel : (D.str "list").single = true)
    · rcases List.mem_cons.mp hd with rfl | hd
      · exact key_sgl h1
      · rw [List.mem_singleton.mp hd]
        exact key_sgl h2
  | all ls =>
    obtain ⟨_, h2⟩ := Bool.and_eq_true_iff.mp h
    refine plain_tup fun d hd => ?_
    rcases List.mem_cons.mp hd with rfl | hd
    · exact sgl_plain (by decide +kernel)
    · rw [List.mem_singleton.mp hd]
      refine plain_tup fun e he => ?_
      obtain ⟨l, hl, rfl⟩ := List.mem_map.mp he
      exact lone_plain (List.all_eq_true.mp h2 l hl)
  | circle c =>
    obtain ⟨h1, _⟩ := Bool.and_eq_true_iff.mp h
    refine plain_tup fun d hd => ?_
    rcases List.mem_cons.mp hd with rfl | hd
    · exact sgl_plain (by decide +kernel)
    · rw [List.mem_singleton.mp hd]
      exact plain_le (circle_plain h1) (by decide)
theorem nat_sgl {n : Nat} (h : n ≤ 1000) : (D.int (n : Int)).single = true := numB_small h
theorem hs_plain {h : Hs} (o : h.Ok) : h.enc.plain 8 = true := by
  cases h with
  | call c n e =>
    obtain ⟨o1, o2, o3, o4, _⟩ := o
    refine plain_tup fun d hd => ?_
    rcases List.mem_cons.mp hd with rfl | hd
    · exact sgl_plain (by decide +kernel)
    · rcases List.mem_cons.mp hd with rfl | hd
      · exact sgl_plain (nat_sgl (by omega))
      · rcases List.mem_cons.mp hd with rfl | hd
        · exact sgl_plain (nat_sgl o3)
        · rw [List.mem_singleton.mp hd]
          exact plain_le (deed_plain o4) (by decide)
  | ans c n x l =>
    obtain ⟨o1, o2, o3, o4, o5⟩ := o
    refine plain_tup fun d hd => ?_
    rcases List.mem_cons.mp hd with rfl | hd
    · exact sgl_plain (by decide +kernel)
    · rcases List.mem_cons.mp hd with rfl | hd
      · exact sgl_plain (nat_sgl (by omega))
      · rcases List.mem_cons.mp hd with rfl | hd
        · exact sgl_plain (nat_sgl o3)
        · rcases List.mem_cons.mp hd with rfl | hd
          · exact plain_le o4.pl (by decide)
          · rw [List.mem_singleton.mp hd]
            exact sgl_plain (nat_sgl o5)
theorem hs_clean {h : Hs} (o : h.Ok) : h.enc.clean = true := by
  cases h with
  | call c n e =>
    show (true && (true && (true && (e.enc.clean && true)))) = true
    rw [o.2.2.2.2.1]
    rfl
  | ans c n x l =>
    show (true && (true && (true && (x.clean && (true && true))))) = true
    rw [o.2.2.2.1.cl]
    rfl
theorem hs_size {h : Hs} (o : h.Ok) : h.enc.size ≤ 700 := by
  cases h with
  | call c n e =>
    have z := o.2.2.2.2.2
    have w : (D.str "call").size = 1 := by decide +kernel
    simp only [Hs.enc, D.size, D.sizeL] at w ⊢
    omega
  | ans c n x l =>
    have z := o.2.2.2.1.sz
    have w : (D.str "answer").size = 1 := by decide +kernel
    simp only [Hs.enc, D.size, D.sizeL] at w ⊢
    omega
theorem hsL_clean {hs : List Hs} (o : ∀ h ∈ hs, h.Ok) : D.cleanL (hs.map Hs.enc) = true := by
  rw [cleanL_all]
  refine List.all_eq_true.mpr fun x hx => ?_
  obtain ⟨h, hh, rfl⟩ := List.mem_map.mp hx
  exact hs_clean (o h hh)
theorem hsL_size : ∀ {hs : List Hs}, (∀ h ∈ hs, h.Ok) → D.sizeL (hs.map Hs.enc) ≤ 700 * hs.length
  | [], _ => Nat.zero_le _
  | h :: r, o => by
    have a := hs_size (o h List.mem_cons_self)
    have b := hsL_size (hs := r) fun x hx => o x (List.mem_cons_of_mem _ hx)
    simp only [List.map_cons, D.sizeL, List.length_cons]
    omega
theorem hsL_plain {hs : List Hs} (o : ∀ h ∈ hs, h.Ok) : (D.tup (hs.map Hs.enc)).plain 12 = true := plain_le (n := 9) (plain_tup fun x hx => by
  obtain ⟨h, hh, rfl⟩ := List.mem_map.mp hx
  exact hs_plain (o h hh)) (by decide)
/-! ### which rows fit clients -/
abbrev StC := Nat → Nat × Bool
def loneStep (p : Nat × Bool) (h : Hs) : Option (Nat × Bool) :=
  if h.isCall = true then (if h.n = p.1 + 1 then some (h.n, true) else none) else (if p.2 = true ∧ h.n = p.1 then some (p.1, false) else none)
def loneRun : Nat × Bool → List Hs → Option (Nat × Bool)
  | p, [] => some p
  | p, h :: r => (loneStep p h).bind fun q => loneRun q r
def setC (s : StC) (c : Nat) (p : Nat × Bool) : StC := fun k => if k = c then p else s k
def stepH (s : StC) (h : Hs) : Option StC := (loneStep (s h.c) h).map (setC s h.c)
def runH : StC → List Hs → Option StC
  | s, [] => some s
  | s, h :: r => (stepH s h).bind fun t => runH t r
def st0 : StC := fun _ => (0, false)
def ofC (c : Nat) (hs : List Hs) : List Hs := hs.filter fun h => decide (h.c = c)
def loneB (hs : List Hs) : Bool := (loneRun (0, false) hs).isSome
def fitsB (hs : List Hs) : Bool := (List.range 5).all fun c => loneB (ofC c hs)
def doesB (hs : List Hs) : Bool := (runH st0 hs).isSome
theorem all_congr {f g : Nat → Bool} (h : ∀ c, f c = g c) : (List.range 5).all f = (List.range 5).all g := by
  rw [show f = g from funext h]
theorem runs : ∀ (hs : List Hs) (s : StC), (∀ h ∈ hs, h.c < 5) → (runH s hs).isSome = (List.range 5).all fun c => (loneRun (s c) (ofC c hs)).isSome
  | [], s, _ => by
    symm
    exact List.all_eq_true.mpr fun c _ => rfl
  | h :: r, s, o => by
    have oh := o h List.mem_cons_self
    have or' : ∀ x ∈ r, x.c < 5 := fun x hx => o x (List.mem_cons_of_mem _ hx)
    have e1 : ∀ c, ofC c (h :: r) = if h.c = c then h :: ofC c r else ofC c r := fun c => by
      unfold ofC
      rw [List.filter_cons]
      by_cases z : h.c = c
      · rw [if_pos (decide_eq_true z), if_pos z]
      · rw [if_neg (by simpa using z), if_neg z]
    cases z : loneStep (s h.c) h with
    | none =>
      have l0 : runH s (h :: r) = none := by
        show (stepH s h).bind _ = none
        unfold stepH
        rw [z]
        rfl
      rw [l0]
      symm
      refine List.all_eq_false.mpr ⟨h.c, List.mem_range.mpr oh, ?_⟩
      rw [e1, if_pos rfl]
      show ¬ ((loneStep (s h.c) h).bind _).isSome = true
      rw [z]
      simp
    | some p =>
      have l0 : runH s (h :: r) = runH (setC s h.c p) r := by
        show (stepH s h).bind _ = _
        unfold stepH
        rw [z]
        rfl
      rw [l0, runs r _ or']
      refine all_congr fun c => ?_
      rw [e1]
      by_cases q : h.c = c
      · subst q
        rw [if_pos rfl]
        show (loneRun (setC s h.c p h.c) _).isSome = ((loneStep (s h.c) h).bind _).isSome
        rw [z]
        unfold setC
        rw [if_pos rfl]
        rfl
      · rw [if_neg q]
        unfold setC
        rw [if_neg (fun w => q w.symm)]
theorem does_fits {hs : List Hs} (o : ∀ h ∈ hs, h.Ok) : doesB hs = fitsB hs := runs hs st0 fun h hh => (o h hh).c5
theorem runH_app : ∀ (a b : List Hs) (s : StC), runH s (a ++ b) = (runH s a).bind fun t => runH t b
  | [], b, s => rfl
  | h :: r, b, s => by
    show (stepH s h).bind (fun t => runH t (r ++ b)) = ((stepH s h).bind fun t => runH t r).bind _
    cases stepH s h with
    | none => rfl
    | some t => exact runH_app r b t
theorem runH_one (s : StC) (h : Hs) : runH s [h] = stepH s h := by
  show (stepH s h).bind (fun t => some t) = _
  cases stepH s h <;> rfl
theorem take_one {hs : List Hs} {i : Nat} {h : Hs} (g : hs[i]? = some h) : hs.take (i + 1) = hs.take i ++ [h] := by rw [List.take_succ, g]; rfl
theorem runH_none {hs : List Hs} {i : Nat} {h : Hs} {s t : StC} (g : hs[i]? = some h) (hr : runH s (hs.take i) = some t) (z : stepH t h = none) : runH s hs = none := by
  have e : hs = hs.take (i + 1) ++ hs.drop (i + 1) := (List.take_append_drop _ _).symm
  rw [e, runH_app, take_one g, runH_app, hr]
  show ((runH t [h]).bind _) = none
  rw [runH_one, z]
  rfl
theorem runH_next {hs : List Hs} {i : Nat} {h : Hs} {s t u : StC} (g : hs[i]? = some h) (hr : runH s (hs.take i) = some t) (z : stepH t h = some u) : runH s (hs.take (i + 1)) = some u := by
  rw [take_one g, runH_app, hr]
  show runH t [h] = _
  rw [runH_one, z]
theorem loneRun_none {hs : List Hs} {i : Nat} {h : Hs} {s t : Nat × Bool} (g : hs[i]? = some h) (hr : loneRun s (hs.take i) = some t) (z : loneStep t h = none) : loneRun s hs = none := by
  have app : ∀ (a b : List Hs) (s : Nat × Bool), loneRun s (a ++ b) = (loneRun s a).bind fun t => loneRun t b := by
    intro a
    induction a with
    | nil => exact fun b s => rfl
    | cons h r ih =>
      intro b s
      show (loneStep s h).bind (fun t => loneRun t (r ++ b)) = ((loneStep s h).bind fun t => loneRun t r).bind _
      cases loneStep s h with
      | none => rfl
      | some t => exact ih b t
  have e : hs = hs.take (i + 1) ++ hs.drop (i + 1) := (List.take_append_drop _ _).symm
  rw [e, app, take_one g, app, hr]
  show (((loneStep t h).bind fun q => some q).bind _) = none
  rw [z]
  rfl
theorem loneRun_next {hs : List Hs} {i : Nat} {h : Hs} {s t u : Nat × Bool} (g : hs[i]? = some h) (hr : loneRun s (hs.take i) = some t) (z : loneStep t h = some u) : loneRun s (hs.take (i + 1)) = some u := by
  have app : ∀ (a b : List Hs) (s : Nat × Bool), loneRun s (a ++ b) = (loneRun s a).bind fun t => loneRun t b := by
    intro a
    induction a with
    | nil => exact fun b s => rfl
    | cons h r ih =>
      intro b s
      show (loneStep s h).bind (fun t => loneRun t (r ++ b)) = ((loneStep s h).bind fun t => loneRun t r).bind _
      cases loneStep s h with
      | none => rfl
      | some t => exact ih b t
  rw [take_one g, app, hr]
  show ((loneStep t h).bind fun q => some q) = _
  rw [z]
  rfl
/-! ### a key taken out of a dict from small numbers -/
section
variable {α : Type} {K : PySem.W.Frag} {enc : α → D} {H : Hp}
def dropN (L : List (Nat × α)) (c : Nat) : List (Nat × α) := L.filter fun p => decide (p.1 ≠ c)
theorem lookN_drop : ∀ (L : List (Nat × α)) (c d : Nat), lookN (dropN L c) d = if d = c then none else lookN L d
  | [], c, d => by
    show none = _
    split <;> rfl
  | p :: r, c, d => by
    have ih := lookN_drop r c d
    by_cases z : p.1 = c
    · have e : dropN (p :: r) c = dropN r c := by
        unfold dropN
        rw [List.filter_cons, if_neg (by simpa using z)]
      rw [e, ih]
      split
      · rfl
      · rename_i q
        have n : ¬ p.1 = d := fun w => q (w ▸ z)
        unfold lookN
        rw [List.find?_cons, decide_eq_false n]
    · have e : dropN (p :: r) c = p :: dropN r c := by
        unfold dropN
        rw [List.filter_cons, if_pos (by simpa using z)]
      rw [e]
      by_cases q : p.1 = d
      · have n : ¬ d = c := fun w => z (q.trans w)
        rw [if_neg n]
        unfold lookN
        rw [List.find?_cons, List.find?_cons, decide_eq_true q]
      · have : lookN (p :: dropN r c) d = lookN (dropN r c) d := by
          unfold lookN
          rw [List.find?_cons, decide_eq_false q]
        rw [this, ih]
        split
        · rfl
        · unfold lookN
          rw [List.find?_cons, decide_eq_false q]
theorem nodupN_drop {L : List (Nat × α)} (n : (keysN L).Nodup) (c : Nat) : (keysN (dropN L c)).Nodup := by
  unfold keysN dropN
  exact List.Nodup.sublist (List.Sublist.map _ List.filter_sublist) n
theorem relN_drop : ∀ {kvs : List (Key × V)} {L : List (Nat × α)}, Paired (RelN K H enc) kvs L → ∀ c : Nat, Paired (RelN K H enc) (dropK kvs (.inl (c : Int))) (dropN L c)
  | _, _, .nil, c => .nil
  | kv :: kvs, p :: L, .cons r t, c => by
    have ih := relN_drop t c
    by_cases z : p.1 = c
    · have e1 : dropK (kv :: kvs) (.inl (c : Int)) = dropK kvs (.inl (c : Int)) := by
        unfold dropK
        rw [List.filter_cons, if_neg]
        rw [r.1, z]
        simp
      have e2 : dropN (p :: L) c = dropN L c := by
        unfold dropN
        rw [List.filter_cons, if_neg (by simpa using z)]
      rw [e1, e2]
      exact ih
    · have e1 : dropK (kv :: kvs) (.inl (c : Int)) = kv :: dropK kvs (.inl (c : Int)) := by
        unfold dropK
        rw [List.filter_cons, if_pos]
        rw [r.1]
        exact decide_eq_true fun w => z (inl_iff.mp w)
      have e2 : dropN (p :: L) c = p :: dropN L c := by
        unfold dropN
        rw [List.filter_cons, if_pos (by simpa using z)]
      rw [e1, e2]
      exact .cons r ih
theorem dropN_len (L : List (Nat × α)) (c : Nat) : (dropN L c).length ≤ L.length := List.length_filter_le _ _
end
end K0

namespace K0
open PySem PySem.Spec PyProof.Rows L2 Evl
section
variable {P : Program} {w : World} {K : PySem.W.Frag} {mg : Str → Option Value} {base : Heap} {A : Ad} {D : Fd}
/-- the parts of a row in the heap -/
theorem hs_parts {H : Hp} {v : V} {h : Hs} (r : Rp K H v h.enc) : ∃ a xs w, v = .ref a ∧ SqT K H a xs ∧ xs[0]? = some (.str (if h.isCall then "call" else "answer")) ∧ xs[1]? = some (.int (h.c : Int)) ∧ xs[2]? = some (.int (h.n : Int)) ∧ xs[3]? = some w ∧ xs.length = (if h.isCall then 4 else 5) ∧
    (∀ c n e, h = .call c n e → Rp K H w e.enc) ∧ (∀ c n x l, h = .ans c n x l → Rp K H w x ∧ xs[4]? = some (.int (l : Int))) := by
  cases h with
  | call c n e =>
    obtain ⟨a, xs, rfl, hs, hr⟩ := Rp.tupI (ds := [.str "call", .int (c : Int), .int (n : Int), e.enc]) r
    cases hr with | cons r1 hr => ?_
    cases r1
    cases hr with | cons r2 hr => ?_
    cases r2
    cases hr with | cons r3 hr => ?_
    cases r3
    cases hr with | cons r4 hr => ?_
    cases hr
    refine ⟨a, _, _, rfl, hs, rfl, rfl, rfl, rfl, rfl, fun c' n' e' z => ?_, fun c' n' x' l' z => by cases z⟩
    cases z
    exact r4
  | ans c n x l =>
    obtain ⟨a, xs, rfl, hs, hr⟩ := Rp.tupI (ds := [.str "answer", .int (c : Int), .int (n : Int), x, .int (l : Int)]) r
    cases hr with | cons r1 hr => ?_
    cases r1
    cases hr with | cons r2 hr => ?_
    cases r2
    cases hr with | cons r3 hr => ?_
    cases r3
    cases hr with | cons r4 hr => ?_
    cases hr with | cons r5 hr => ?_
    cases r5
    cases hr
    refine ⟨a, _, _, rfl, hs, rfl, rfl, rfl, rfl, rfl, (fun c' n' e' z => by cases z), fun c' n' x' l' z => ?_⟩
    cases z
    exact ⟨r4, rfl⟩
def sp_is_length (K : PySem.W.Frag) : Sp := fun vs H Q _ => ∃ n : Nat, vs = [.int (n : Int)] ∧ n ≤ 1000 ∧ RetV (.bl true) H Q
theorem len_is_length {vs : List V} {H : Hp} {Q : VK} {E : XK} (h : sp_is_length K vs H Q E) : vs.length = 1 := by
  obtain ⟨n, rfl, _⟩ := h
  rfl
theorem ok_is_length (T : Txt K mg A D) : FnOk P w K mg base CX0 2 A.is_length D.is_length ["value"] (sp_is_length K) := by
  have G_is_number : FnOk P w K mg base CX0 1 A.is_number D.is_number ["value"] (sp_is_number K) := ok_is_number T
  refine T.F_is_length.ok sc_is_length (fun vs H Q E h => len_is_length h) (fun cdv A0 outer s H vs Q E hr h => ?_)
  refine ⟨_, (pss_one (ps_ret (pe_and (pe_call G_is_number (hr.mono (by decide)) rfl T.g_is_number T.F_is_number.kp T.b_is_number .nil pass0 (pa_cons (pv 0) pa_nil)) (pe_one (pe_cmpR op_ge (pv 0) pe_int (nomark _)))))), ?_⟩
  obtain ⟨n, rfl, hn, k⟩ := h
  refine s_ret (ev_is (ev_andV (a := true) (b := true) (ev_is (ev_call (ea_cons (ev_var rfl) ea_nil) (sv1 (.int (n : Int)))) (congrArg V.bl (numB_small hn))) fun _ => ev_is (ev_op (ev_var rfl) ev_c rv_I0) ?_) rfl) fun H1 e1 => k H1 e1
  exact congrArg V.bl (decide_eq_true (by omega))
def sp_is_named (K : PySem.W.Frag) : Sp := fun vs H Q _ => ∃ (v : V) (h : Hs), vs = [v] ∧ Rp K H v (Hs.enc h) ∧ h.Ok ∧ RetV (.bl true) H Q
theorem len_is_named {vs : List V} {H : Hp} {Q : VK} {E : XK} (h : sp_is_named K vs H Q E) : vs.length = 1 := by
  obtain ⟨v, h, rfl, _⟩ := h
  rfl
theorem ok_is_named (T : Txt K mg A D) : FnOk P w K mg base CX0 4 A.is_named D.is_named ["value"] (sp_is_named K) := by
  have G_is_number : FnOk P w K mg base CX0 1 A.is_number D.is_number ["value"] (sp_is_number K) := ok_is_number T
  have G_is_client : FnOk P w K mg base CX0 3 A.is_client D.is_client ["value"] (sp_is_client K) := ok_is_client T
  refine T.F_is_named.ok sc_is_named (fun vs H Q E h => len_is_named h) (fun cdv A0 outer s H vs Q E hr h => ?_)
  refine ⟨_, (pss_one (ps_ret (pe_and (pe_call G_is_client (hr.mono (by decide)) rfl T.g_is_client T.F_is_client.kp T.b_is_client .nil pass0 (pa_cons (pe_ix ix_tup (pv 0) pe_int (fun _ _ => rfl)) pa_nil)) (pe_and (pe_call G_is_number (hr.mono (by decide)) rfl T.g_is_number T.F_is_number.kp T.b_is_number .nil pass0 (pa_cons (pe_ix ix_tup (pv 0) pe_int (fun _ _ => rfl)) pa_nil)) (pe_one (pe_cmpR op_ge (pe_ix ix_tup (pv 0) pe_int (fun _ _ => rfl)) pe_int (nomark _))))))), ?_⟩
  obtain ⟨v, x, rfl, hx, ho, k⟩ := h
  obtain ⟨a, xs, u, rfl, hs, x0, x1, x2, x3, xl, _, _⟩ := hs_parts hx
  have c5 := ho.c5
  have n1 := ho.n1
  have n2 := ho.n2
  refine s_ret (ev_is (ev_andV (a := true) (b := true) (ev_is (ev_call (ea_cons (ev_nth (ev_var rfl) hs x1) ea_nil) (sv1 (.int _))) (congrArg V.bl (within_ok (by omega) (by omega) (by omega)))) fun _ =>
    ev_is (ev_andV (a := true) (b := true) (ev_is (ev_call (ea_cons (ev_nth (ev_var rfl) hs x2) ea_nil) (sv1 (.int _))) (congrArg V.bl (numB_small n2))) fun _ => ev_is (ev_op (ev_nth (ev_var rfl) hs x2) ev_c rv_I0) ?_) rfl) rfl) fun H1 e1 => k H1 e1
  exact congrArg V.bl (decide_eq_true (by omega))
def sp_is_row (K : PySem.W.Frag) : Sp := fun vs H Q _ => ∃ (v : V) (h : Hs), vs = [v] ∧ Rp K H v (Hs.enc h) ∧ h.Ok ∧ RetV (.bl true) H Q
theorem len_is_row {vs : List V} {H : Hp} {Q : VK} {E : XK} (h : sp_is_row K vs H Q E) : vs.length = 1 := by
  obtain ⟨v, h, rfl, _⟩ := h
  rfl
theorem dv_call : decide (V.str "call" = V.str "call") = true := decide_eq_true rfl
theorem dv_ans : decide (V.str "answer" = V.str "call") = false := by decide +kernel
theorem dv_ans1 : decide (V.str "answer" = V.str "answer") = true := decide_eq_true rfl
theorem ok_is_row (T : Txt K mg A D) (U : Tab K w mg A) : FnOk P w K mg base CX0 25 A.is_row D.is_row ["value"] (sp_is_row K) := by
  have G_is_deed : FnOk P w K mg base CX0 24 A.is_deed D.is_deed ["value"] (sp_is_deed K) := ok_is_deed T U
  have G_is_named : FnOk P w K mg base CX0 4 A.is_named D.is_named ["value"] (sp_is_named K) := ok_is_named T
  have G_is_length : FnOk P w K mg base CX0 2 A.is_length D.is_length ["value"] (sp_is_length K) := ok_is_length T
  refine T.F_is_row.ok sc_is_row (fun vs H Q E h => len_is_row h) (fun cdv A0 outer s H vs Q E hr h => ?_)
  refine ⟨_, (pss_cons (ps_if (PW.pt (pw_or (pt_not (pt_val (pe_callB call_isi (by rfl) T.b_isinstance (by decide +kernel) (pa_cons (pv 0) (pa_cons (pe_bltn (v := .ty "tuple") (u := .type "tuple") (by rfl) T.b_tuple (by decide +kernel) rfl) pa_nil))))) (pw_or (pt_cmpR op_lt (pe_callB call_len (by rfl) T.b_len (by decide +kernel) (pa_cons (pv 0) pa_nil)) pe_int (nomark _)) (pw_or1 (pt_not (pt_val (pe_call G_is_named (hr.mono (by decide)) rfl T.g_is_named T.F_is_named.kp T.b_is_named .nil pass0 (pa_cons (pv 0) pa_nil)))))))) (pss_one (ps_ret pe_bl)) pss_nil)
  (pss_cons (ps_if (pt_cmpR op_eq (pe_ix ix_tup (pv 0) pe_int (fun _ _ => rfl)) pe_str (nomark _)) (pss_one (ps_ret (pe_and (pe_cmpR op_eq (pe_callB call_len (by rfl) T.b_len (by decide +kernel) (pa_cons (pv 0) pa_nil)) pe_int (nomark _)) (pe_one (pe_call G_is_deed (hr.mono (by decide)) rfl T.g_is_deed T.F_is_deed.kp T.b_is_deed .nil pass0 (pa_cons (pe_ix ix_tup (pv 0) pe_int (fun _ _ => rfl)) pa_nil)))))) pss_nil)
  (pss_one (ps_ret (pe_and (pe_cmpR op_eq (pe_ix ix_tup (pv 0) pe_int (fun _ _ => rfl)) pe_str (nomark _)) (pe_and (pe_cmpR op_eq (pe_callB call_len (by rfl) T.b_len (by decide +kernel) (pa_cons (pv 0) pa_nil)) pe_int (nomark _)) (pe_and (pe_callB call_isi (by rfl) T.b_isinstance (by decide +kernel) (pa_cons (pe_ix ix_tup (pv 0) pe_int (fun _ _ => rfl)) (pa_cons (pe_bltn (v := .ty "tuple") (u := .type "tuple") (by rfl) T.b_tuple (by decide +kernel) rfl) pa_nil))) (pe_one (pe_call G_is_length (hr.mono (by decide)) rfl T.g_is_length T.F_is_length.kp T.b_is_length .nil pass0 (pa_cons (pe_ix ix_tup (pv 0) pe_int (fun _ _ => rfl)) pa_nil)))))))))), ?_⟩
  obtain ⟨v, x, rfl, hx, ho, k⟩ := h
  obtain ⟨a, xs, u, rfl, hs, x0, x1, x2, x3, xl, hcall, hans⟩ := hs_parts hx
  have xlen : 4 ≤ xs.length := by rw [xl]; split <;> omega
  refine q_when (b := false) (et_is (et_or (a := false) (b := false) (et_is (et_not (et_B (ev_cb (ea_cons (ev_var rfl) (ea_cons ev_c ea_nil)) (rc_tup hx)))) ?_) fun _ =>
    et_is (et_or (a := false) (b := false) (et_is (et_test (ev_op (ev_cb (ea_cons (ev_var rfl) ea_nil) (rc_lenT hs)) ev_c rv_I0)) (decide_eq_false (by omega))) fun _ => et_is (et_not (et_B (ev_call (ea_cons (ev_var rfl) ea_nil) fun H1 e Q q E => ⟨_, x, rfl, hx.ex e, ho, q⟩))) rfl) rfl) rfl) (fun z => by cases z) fun _ H1 e1 => ?_
  · cases x <;> rfl
  cases x with
  | call c n e =>
    have hdeed := hcall c n e rfl
    have g := ok_good ho.2.2.2.1
    refine q_take (et_is (et_test (ev_op (ev_nth (ev_var rfl) (ex_t e1 hs) x0) ev_c (rv_eq rfl))) dv_call) fun H2 e2 => ?_
    refine s_ret (ev_is (ev_andV (a := true) (b := true) (ev_is (ev_op (ev_cb (ea_cons (ev_var rfl) ea_nil) (rc_lenT (ex_t (e1.trans e2) hs))) ev_c rv_eqI) ?_) fun _ => ev_is (ev_call (ea_cons (ev_nth (ev_var rfl) (ex_t (e1.trans e2) hs) x3) ea_nil) (sv_deed (hdeed.ex (e1.trans e2)) (by have := g.size; omega) (enc_some e))) (congrArg V.bl g.deed)) rfl) fun H3 e3 => k H3 ((e1.trans e2).trans e3)
    rw [show xs.length = 4 from xl]
    rfl
  | ans c n y l =>
    obtain ⟨hy, x4⟩ := hans c n y l rfl
    refine q_skip (et_is (et_test (ev_op (ev_nth (ev_var rfl) (ex_t e1 hs) x0) ev_c (rv_eq rfl))) dv_ans) fun H2 e2 => ?_
    have e12 := e1.trans e2
    refine s_ret (ev_is (ev_andV (a := true) (b := true) (ev_is (ev_op (ev_nth (ev_var rfl) (ex_t e12 hs) x0) ev_c (rv_eq rfl)) (congrArg V.bl dv_ans1)) fun _ => ev_is (ev_andV (a := true) (b := true) (ev_is (ev_op (ev_cb (ea_cons (ev_var rfl) ea_nil) (rc_lenT (ex_t e12 hs))) ev_c rv_eqI) ?_) fun _ =>
      ev_is (ev_andV (a := true) (b := true) (ev_is (ev_cb (ea_cons (ev_nth (ev_var rfl) (ex_t e12 hs) x3) (ea_cons ev_c ea_nil)) (rc_tup (hy.ex e12))) (congrArg V.bl ho.2.2.2.1.tup)) fun _ => ev_call (ea_cons (ev_nth (ev_var rfl) (ex_t e12 hs) x4) ea_nil) fun H3 e3 Q q E => ⟨l, rfl, ho.2.2.2.2, q⟩) rfl) rfl) rfl) fun H3 e3 => k H3 (e12.trans e3)
    rw [show xs.length = 5 from xl]
    rfl
def sp_are_rows (K : PySem.W.Frag) : Sp := fun vs H Q _ => ∃ (v : V) (hs : List Hs), vs = [v] ∧ Rp K H v (.tup (hs.map Hs.enc)) ∧ (∀ h ∈ hs, h.Ok) ∧ hs.length ≤ 40 ∧ RetV (.bl true) H Q
theorem len_are_rows {vs : List V} {H : Hp} {Q : VK} {E : XK} (h : sp_are_rows K vs H Q E) : vs.length = 1 := by
  obtain ⟨v, hs, rfl, _⟩ := h
  rfl
theorem ok_are_rows (T : Txt K mg A D) (U : Tab K w mg A) : FnOk P w K mg base CX0 26 A.are_rows D.are_rows ["value"] (sp_are_rows K) := by
  have G_is_plain : FnOk P w K mg base CX0 4 A.is_plain D.is_plain ["value"] (sp_is_plain K) := ok_is_plain T
  have G_is_row : FnOk P w K mg base CX0 25 A.is_row D.is_row ["value"] (sp_is_row K) := ok_is_row T U
  obtain ⟨t_MOST_MEMBERS, c_MOST_MEMBERS⟩ := T.c_MOST_MEMBERS
  refine T.F_are_rows.ok sc_are_rows (fun vs H Q E h => len_are_rows h) (fun cdv A0 outer s H vs Q E hr h => ?_)
  refine ⟨_, (pss_cons (ps_if (PW.pt (pw_or (pt_not (pt_val (pe_callB call_isi (by rfl) T.b_isinstance (by decide +kernel) (pa_cons (pv 0) (pa_cons (pe_bltn (v := .ty "tuple") (u := .type "tuple") (by rfl) T.b_tuple (by decide +kernel) rfl) pa_nil))))) (pw_or (pt_cmpR op_gt (pe_callB call_len (by rfl) T.b_len (by decide +kernel) (pa_cons (pv 0) pa_nil)) (pe_glob (v := .int (3000)) rfl c_MOST_MEMBERS ⟨_, rfl⟩) (nomark _)) (pw_or1 (pt_not (pt_val (pe_call G_is_plain (hr.mono (by decide)) rfl T.g_is_plain T.F_is_plain.kp T.b_is_plain .nil pass0 (pa_cons (pv 0) pa_nil)))))))) (pss_one (ps_ret pe_bl)) pss_nil)
  (pss_one (ps_ret (pe_callB (cr_all rfl) (by rfl) T.b_all (by decide +kernel) (pa_cons (pe_lc (own := [("row", 1)]) (g := gName 1) (tt := tYes) rfl sc_are_rows.nd (pi_tup (pv 0)) (blkOk_by (own := [("row", 1)]) (N := N_are_rows) (sc := defScope s_are_rows) (by decide +kernel)) (fun _ _ _ _ _ => by exact pg_name (i := 1) sc_are_rows.nd rfl (Or.inl rfl)) (fun _ _ _ _ _ => by exact pts_nil) (fun _ _ _ _ _ => by exact (pe_call G_is_row (hr.mono (by decide)) rfl T.g_is_row T.F_is_row.kp T.b_is_row .nil pass0 (pa_cons (pv 1) pa_nil)))) pa_nil))))), ?_⟩
  obtain ⟨v, hs, rfl, hv, ho, hl, k⟩ := h
  obtain ⟨a, xs, rfl, hq, hr1⟩ := hv.tupI
  have hlen := hr1.len
  rw [List.length_map] at hlen
  have hsz : (K0.D.tup (hs.map Hs.enc)).size ≤ 30000 := by
    have := hsL_size ho
    simp only [K0.D.size]
    omega
  refine q_when (b := false) (et_is (et_or (a := false) (b := false) (et_is (et_not (et_B (ev_cb (ea_cons (ev_var rfl) (ea_cons ev_c ea_nil)) (rc_tup hv)))) rfl) fun _ =>
    et_is (et_or (a := false) (b := false) (et_is (et_test (ev_op (ev_cb (ea_cons (ev_var rfl) ea_nil) (rc_lenT hq)) ev_c rv_I0)) (decide_eq_false (by omega))) fun _ => et_is (et_not (et_B (ev_call (ea_cons (ev_var rfl) ea_nil) (svS hv hsz)))) (by rw [hsL_plain ho]; rfl)) rfl) rfl) (fun z => by cases z) fun _ H1 e1 => ?_
  refine s_ret (ev_is (ev_all (bs := (List.range xs.length).map fun _ => true) ?_) ?_) fun H2 e2 => k H2 (e1.trans e2)
  · rw [List.map_map, ← given_map (f := fun _ => true) (fun _ => rfl)]
    refine el_lcT (fun _ => true) _ (ev_var rfl) (ex_t e1 hq) (by omega) (fun _ => rfl) (fun i y H3 e3 hy => et_yes) (fun i y H3 e3 hy _ => ?_)
    obtain ⟨d, hd, hrp⟩ := RpAll.get _ _ _ _ (hr1.ex (e1.trans e3)) hy
    rw [List.getElem?_map] at hd
    obtain ⟨h, hh, rfl⟩ := Option.map_eq_some_iff.mp hd
    exact ev_call (ea_cons (ev_var rfl) ea_nil) fun H4 e4 Q q E => ⟨_, h, rfl, hrp.ex e4, ho h (List.mem_of_getElem? hh), q⟩
  · refine congrArg V.bl (List.all_eq_true.mpr fun b hb => ?_)
    obtain ⟨_, _, rfl⟩ := List.mem_map.mp hb
    rfl
end
end K0

namespace K0
open PySem PySem.Spec PyProof.Rows L2 Evl
def numE (n : Nat) : D := .int (n : Int)
section
variable {K : PySem.W.Frag} {σ : L2.St} {H H' : Hp} {te td ty tv ta : TE} {d : Addr} {kvs : List (Key × V)} {W G : List (Nat × Nat)} {c n : Nat} {Dn : Ends} {tz : TS}
theorem ev_ofJ {i : Int} (h : EvD K te σ H (.int i)) : Ev te σ H (.int i) := fun H1 e Q q => h H1 e Q fun v H2 e2 r => by
  cases r
  exact q H2 e2
theorem rp_intA {v : V} {i : Int} (h : Rp K H v (.int i)) : Rp K H' v (.int i) := by
  cases h
  exact .int i
theorem relE {kvs : List (Key × V)} {L : List (Nat × Nat)} (r : Paired (RelN K H numE) kvs L) : Paired (RelN K H' numE) kvs L := paired_mono r fun x y _ r => ⟨r.1, rp_intA r.2⟩
theorem dictE {d : Addr} (h : DictN K H d numE G) (e : H' d = H d) : DictN K H' d numE G := let ⟨kvs, g, p, n⟩ := h; ⟨kvs, by rw [e]; exact g, relE p, n⟩
theorem q_putN {x : Nat} (hd : H d = some (.dK kvs)) (hr : Paired (RelN K H numE) kvs G) (hv : EvD K tv σ H (numE x)) (ho : ∀ H1, Ex H H1 → Ev td σ H1 (.ref d)) (hk : ∀ H1, Ex H H1 → Ev ty σ H1 (.int (c : Int))) (hl : G.length < 100000)
    (k : ∀ v H1, Ex H H1 → Rp K H1 v (numE x) → tz Dn σ (L2.upd H1 d (.dK (putK kvs (.inl (c : Int)) v)))) : tSeq (sDPut td ty tv) tz Dn σ H := s_putN (Dn := { Dn with nx := tz Dn }) hd hr hv ho hk hl k
theorem s_popE {Q : Bool → Hp → Prop} (s2 : σ[2]? = some (some (.ref d))) (s4 : σ[4]? = some (some (.int (c : Int)))) (s5 : σ[5]? = some (some (.int (n : Int)))) (hd : DictN K H d numE W) (g : H d = some (.dK kvs))
    (k1 : ∀ m : Nat, lookN W c = some m → Q (!decide (m = n)) (L2.upd H d (.dK (dropK kvs (.inl (c : Int)))))) (k0 : lookN W c = none → Q true H) :
    tTest (tOp rNe (tDPop2 (tVar 2) (tVar 4) (tC .non)) (tVar 5)) σ H Q := by
  obtain ⟨kvs', g', r, nd⟩ := hd
  rw [g] at g'
  cases g'
  refine ⟨_, s2, d, rfl, .inl ⟨kvs, .inl g⟩, _, s4, kvs, .inl (c : Int), g, rfl, fun v hv => ?_, fun hn => ?_⟩
  · refine ⟨_, s5, ?_⟩
    obtain ⟨v0, v1⟩ := valN r c
    cases l : lookN W c with
    | none =>
      rw [v0 l] at hv
      cases hv
    | some m =>
      obtain ⟨v', hv', rv⟩ := v1 m l
      rw [hv'] at hv
      cases hv
      cases rv
      refine ⟨rfl, _, rfl, ?_⟩
      have := k1 m l
      rw [show (!decide (m = n)) = (!decide (V.int (m : Int) = V.int (n : Int))) from congrArg _ (decide_eq_decide.mpr ⟨fun z => by rw [z], fun z => by have := V.int.inj z; omega⟩)] at this
      exact this
  · refine ⟨_, s5, rfl, _, rfl, ?_⟩
    obtain ⟨v0, v1⟩ := valN r c
    cases l : lookN W c with
    | none => exact k0 l
    | some m =>
      obtain ⟨v', hv', rv⟩ := v1 m l
      rw [hv'] at hn
      cases hn
end
def CallsR (G : List (Nat × Nat)) (s : StC) : Prop := ∀ c, (lookN G c).getD 0 = (s c).1
def WaitR (W : List (Nat × Nat)) (s : StC) : Prop := ∀ c, lookN W c = if (s c).2 = true then some (s c).1 else none
theorem calls0 : CallsR [] st0 := fun c => rfl
theorem wait0 : WaitR [] st0 := fun c => rfl
theorem calls_put {G : List (Nat × Nat)} {s : StC} (h : CallsR G s) (c n : Nat) (b : Bool) : CallsR (putN G c n) (setC s c (n, b)) := fun k => by
  rw [lookN_put]
  unfold setC
  split
  · rfl
  · exact h k
theorem wait_put {W : List (Nat × Nat)} {s : StC} (h : WaitR W s) (c n : Nat) : WaitR (putN W c n) (setC s c (n, true)) := fun k => by
  rw [lookN_put]
  unfold setC
  split
  · rfl
  · exact h k
theorem calls_same {G : List (Nat × Nat)} {s : StC} (h : CallsR G s) (c : Nat) : CallsR G (setC s c ((s c).1, false)) := fun k => by
  unfold setC
  split
  · rename_i e
    rw [e]
    exact h c
  · exact h k
theorem wait_drop {W : List (Nat × Nat)} {s : StC} (h : WaitR W s) (c n : Nat) : WaitR (dropN W c) (setC s c (n, false)) := fun k => by
  rw [lookN_drop]
  unfold setC
  split
  · rfl
  · exact h k
theorem putN_len1 (G : List (Nat × Nat)) (c n : Nat) : (putN G c n).length ≤ G.length + 1 := by
  unfold putN
  split
  · rw [List.length_map]
    omega
  · rw [List.length_append]
    simp
section
variable {P : Program} {w : World} {K : PySem.W.Frag} {mg : Str → Option Value} {base : Heap} {A : Ad} {D : Fd}
def sp_does_fit_clients (K : PySem.W.Frag) : Sp := fun vs H Q _ => ∃ (v : V) (hs : List Hs), vs = [v] ∧ Rp K H v (.tup (hs.map Hs.enc)) ∧ (∀ h ∈ hs, h.Ok) ∧ hs.length ≤ 40 ∧ RetV (.bl (doesB hs)) H Q
theorem len_does_fit_clients {vs : List V} {H : Hp} {Q : VK} {E : XK} (h : sp_does_fit_clients K vs H Q E) : vs.length = 1 := by
  obtain ⟨v, hs, rfl, _⟩ := h
  rfl
structure FitI (K : PySem.W.Frag) (H0 : Hp) (hs : List Hs) (d1 d2 : Addr) (i : Nat) (H : Hp) (s : StC) (G W : List (Nat × Nat)) : Prop where
  ex : Ex H0 H
  f1 : H0 d1 = none
  f2 : H0 d2 = none
  ne : d2 ≠ d1
  run : runH st0 (hs.take i) = some s
  g : DictN K H d1 numE G
  wt : DictN K H d2 numE W
  cg : CallsR G s
  cw : WaitR W s
  gl : G.length ≤ i
  wl : W.length ≤ i
theorem ok_does_fit_clients (T : Txt K mg A D) (U : Tab K w mg A) : FnOk P w K mg base CX0 27 A.does_fit_clients D.does_fit_clients ["history"] (sp_does_fit_clients K) := by
  have G_are_rows : FnOk P w K mg base CX0 26 A.are_rows D.are_rows ["value"] (sp_are_rows K) := ok_are_rows T U
  refine T.F_does_fit_clients.ok sc_does_fit_clients (fun vs H Q E h => len_does_fit_clients h) (fun cdv A0 outer s H vs Q E hr h => ?_)
  refine ⟨_, (pss_cons (ps_if (pt_not (pt_val (pe_call G_are_rows (hr.mono (by decide)) rfl T.g_are_rows T.F_are_rows.kp T.b_are_rows .nil pass0 (pa_cons (pv 0) pa_nil)))) (pss_one ps_never) pss_nil)
  (pss_cons (ps_set (i := 1) sc_does_fit_clients.nd rfl (Or.inl rfl) pe_dnewK)
  (pss_cons (ps_set (i := 2) sc_does_fit_clients.nd rfl (Or.inl rfl) pe_dnewK)
  (pss_cons (ps_for PassesOwn.never rfl (pi_tup (pv 0)) (pg_name (i := 3) sc_does_fit_clients.nd rfl (Or.inl rfl)) (pss_cons (ps_par (i := 4) (j := 5) (by rfl) sc_does_fit_clients.nd rfl rfl (by decide) rfl rfl (pa_cons (pe_ix ix_tup (pv 3) pe_int (fun _ _ => rfl)) (pa_cons (pe_ix ix_tup (pv 3) pe_int (fun _ _ => rfl)) pa_nil)) (by rfl))
  (pss_one (ps_if (pt_cmpR op_eq (pe_ix ix_tup (pv 3) pe_int (fun _ _ => rfl)) pe_str (nomark _)) (pss_cons (ps_if (pt_cmpR op_ne (pv 5) (pe_op op_add (pe_dget2 (hu_of hr) (pv 1) (pv 4) pe_int ⟨by rfl, by rfl, by rfl, by rfl⟩) pe_int) (nomark _)) (pss_one (ps_ret pe_bl)) pss_nil)
  (pss_cons (ps_dput (hu_of hr) (pv 1) (pv 4) (pv 5) (by rfl))
  (pss_one (ps_dput (hu_of hr) (pv 2) (pv 4) (pv 5) (by rfl))))) (pss_one (ps_if (pt_cmpR op_ne (pe_dpop2 (pv 2) (pv 4) pe_non ⟨by rfl, by rfl, by rfl, by rfl⟩) (pv 5) (nomark _)) (pss_one (ps_ret pe_bl)) pss_nil))))))
  (pss_one (ps_ret pe_bl)))))), ?_⟩
  obtain ⟨v, hs, rfl, hv, ho, hl, k⟩ := h
  obtain ⟨a, xs, rfl, hq, hr1⟩ := hv.tupI
  have hlen := hr1.len
  rw [List.length_map] at hlen
  refine q_when (b := false) (et_is (et_not (et_B (ev_call (ea_cons (ev_var rfl) ea_nil) fun H1 e Q q E => ⟨_, hs, rfl, hv.ex e, ho, hl, q⟩))) rfl) (fun z => by cases z) fun _ H1 e1 => ?_
  refine q_asgX fun d1 hd1 => q_asgX fun d2 hd2 => ?_
  have ea : Ex H1 (L2.upd H1 d1 (.dK [])) := Ex.new hd1
  have eb : Ex (L2.upd H1 d1 (.dK [])) (L2.upd (L2.upd H1 d1 (.dK [])) d2 (.dK [])) := Ex.new hd2
  have nd : d2 ≠ d1 := fun z => by rw [z, upd_same] at hd2; cases hd2
  have nf2 : H1 d2 = none := fresh_back ea hd2
  have I0 : FitI K H1 hs d1 d2 0 (L2.upd (L2.upd H1 d1 (.dK [])) d2 (.dK [])) st0 [] [] :=
    ⟨ea.trans eb, hd1, nf2, nd, rfl, ⟨[], eb _ _ upd_same, .nil, List.nodup_nil⟩, ⟨[], upd_same, .nil, List.nodup_nil⟩, calls0, wait0, Nat.le_refl _, Nat.le_refl _⟩
  generalize (L2.upd (L2.upd H1 d1 (.dK [])) d2 (.dK [])) = H2 at I0
  refine q_forT (xs := xs) (ev_var rfl) (ex_t (e1.trans I0.ex) hq) (fun i σ' H' => ∃ v3 v4 v5 s G W, σ' = [some (.ref a), some (.ref d1), some (.ref d2), v3, v4, v5] ∧ FitI K H1 hs d1 d2 i H' s G W)
    (fun H3 e3 => ⟨none, none, none, st0, [], [], rfl, ⟨I0.ex.trans e3, I0.f1, I0.f2, I0.ne, I0.run, I0.g.ex e3, I0.wt.ex e3, I0.cg, I0.cw, I0.gl, I0.wl⟩⟩)
    (fun i σ' H' hi ⟨v3, v4, v5, s, G, W, _, I⟩ => ex_t (e1.trans I.ex) hq) (fun i y σ' H' hy ⟨v3, v4, v5, s, G, W, es, I⟩ => ?_) (fun σ' H' ⟨v3, v4, v5, s, G, W, es, I⟩ => ?_)
  · subst es
    obtain ⟨d, hd, hrp⟩ := RpAll.get _ _ _ _ (hr1.ex (e1.trans I.ex)) hy
    rw [List.getElem?_map] at hd
    obtain ⟨h, hh, rfl⟩ := Option.map_eq_some_iff.mp hd
    have oh := ho h (List.mem_of_getElem? hh)
    obtain ⟨t, ys, u, rfl, hs', x0, x1, x2, x3, xl, _, _⟩ := hs_parts hrp
    have il : i < 40 := by
      have := (List.getElem?_eq_some_iff.mp hh).1
      omega
    refine q_parE (ea_cons (ev_nth (ev_var rfl) hs' x1) (ea_cons (ev_nth (ev_var rfl) hs' x2) ea_nil)) fun H3 e3 => ?_
    have I3 : FitI K H1 hs d1 d2 i H3 s G W := ⟨I.ex.trans e3, I.f1, I.f2, I.ne, I.run, I.g.ex e3, I.wt.ex e3, I.cg, I.cw, I.gl, I.wl⟩
    have none_ret : stepH s h = none → ∀ H9, Ex H1 H9 → Q (.bl false) H9 := fun z H9 e9 => by
      have := k H9 (e1.trans e9)
      have hf : doesB hs = false := by
        unfold doesB
        rw [runH_none hh I.run z]
        rfl
      rw [hf] at this
      exact this
    have gv : gotN G numE h.c (.int 0) = .int ((((lookN G h.c).getD 0 : Nat)) : Int) := by
      unfold gotN
      cases lookN G h.c <;> rfl
    have cgc := I.cg h.c
    cases hc : h.isCall with
    | true =>
      rw [hc] at x0
      refine s_take (et_is (et_test (ev_op (ev_nth (ev_var rfl) (ex_t e3 hs') x0) ev_c (rv_eq rfl))) dv_call) fun H4 e4 => ?_
      have e34 := e3.trans e4
      refine q_when (b := !decide (h.n = (s h.c).1 + 1)) (et_is (et_test (ev_op (ev_var rfl) (ev_op (ev_ofJ (gv ▸ ed_get2N (ev_var rfl) (ev_var rfl) ed_int (I.g.ex e34))) ev_c rv_I0) (rv_ne rfl))) ?_) (fun hb H5 e5 => ?_) (fun hb H5 e5 => ?_)
      · rw [cgc]
        exact congrArg _ (decide_eq_decide.mpr ⟨fun z => by have := V.int.inj z; omega, fun z => by rw [z]; rfl⟩)
      · refine s_ret ev_c fun H6 e6 => none_ret ?_ H6 (((I.ex.trans e34).trans e5).trans e6)
        unfold stepH loneStep
        rw [if_pos hc, if_neg (by simpa using hb)]
        rfl
      · have hn : h.n = (s h.c).1 + 1 := by simpa using hb
        have st : stepH s h = some (setC s h.c (h.n, true)) := by
          unfold stepH loneStep
          rw [if_pos hc, if_pos hn]
          rfl
        have e35 := e34.trans e5
        obtain ⟨kg, gg, rg, ng⟩ := I.g.ex e35
        have d2e := I.wt.ex e35
        refine q_putN (c := h.c) (x := h.n) gg rg (ed_ev (ev_var rfl) (.int _)) (fun _ _ => ev_var rfl) (fun _ _ => ev_var rfl) (by have := I.gl; omega) fun v6 H6 e6 r6 => ?_
        have d2f : DictN K (L2.upd H6 d1 (.dK (putK kg (.inl (h.c : Int)) v6))) d2 numE W := dictE (d2e.ex e6) (upd_ne I.ne)
        obtain ⟨kw, gw, rw', nw⟩ := d2f
        refine s_putN (c := h.c) (x := h.n) (enc := numE) gw rw' (ed_ev (ev_var rfl) (.int _)) (fun _ _ => ev_var rfl) (fun _ _ => ev_var rfl) (by have := I.wl; omega) fun v7 H7 e7 r7 => ?_
        refine ⟨_, _, _, setC s h.c (h.n, true), putN G h.c h.n, putN W h.c h.n, rfl, ?_⟩
        refine ⟨Ex.mut ((Ex.mut ((I.ex.trans e35).trans e6) I.f1).trans e7) I.f2, I.f1, I.f2, I.ne, runH_next hh I.run st, ?_, ⟨_, upd_same, relN_put (relE rw') (rp_intA r7), nodupN_put nw _ _⟩, calls_put I.cg _ _ _, wait_put I.cw _ _, ?_, ?_⟩
        · exact ⟨_, by rw [upd_ne I.ne.symm]; exact e7 _ _ upd_same, relN_put (relE rg) (rp_intA r6), nodupN_put ng _ _⟩
        · have := putN_len1 G h.c h.n
          have := I.gl
          omega
        · have := putN_len1 W h.c h.n
          have := I.wl
          omega
    | false =>
      rw [hc] at x0
      refine s_else (et_is (et_test (ev_op (ev_nth (ev_var rfl) (ex_t e3 hs') x0) ev_c (rv_eq rfl))) dv_ans) fun H4 e4 => ?_
      have e34 := e3.trans e4
      obtain ⟨kw, gw, rw', nw⟩ := I.wt.ex e34
      refine n_ifS (s_popE (c := h.c) (n := h.n) rfl rfl rfl ⟨kw, gw, rw', nw⟩ gw (fun m hm => ?_) fun hm => ?_)
      · have cwc := I.cw h.c
        rw [hm] at cwc
        have op : (s h.c).2 = true := by
          cases z : (s h.c).2 with
          | true => rfl
          | false => rw [z] at cwc; cases cwc
        rw [if_pos op] at cwc
        have em : m = (s h.c).1 := Option.some.inj cwc
        have eX : Ex H1 (L2.upd H4 d2 (.dK (dropK kw (.inl (h.c : Int))))) := Ex.mut (I.ex.trans e34) I.f2
        by_cases q : m = h.n
        · rw [decide_eq_true q]
          have st : stepH s h = some (setC s h.c ((s h.c).1, false)) := by
            unfold stepH loneStep
            rw [if_neg (by rw [hc]; decide), if_pos ⟨op, by omega⟩]
            rfl
          refine ⟨_, _, _, setC s h.c ((s h.c).1, false), G, dropN W h.c, rfl, ?_⟩
          exact ⟨eX, I.f1, I.f2, I.ne, runH_next hh I.run st, dictE (I.g.ex e34) (upd_ne I.ne.symm), ⟨_, upd_same, relE (relN_drop rw' _), nodupN_drop nw _⟩, calls_same I.cg _, wait_drop I.cw _ _, by have := I.gl; omega, by have := I.wl; have := dropN_len W h.c; omega⟩
        · rw [decide_eq_false q]
          refine s_ret ev_c fun H6 e6 => none_ret ?_ H6 (eX.trans e6)
          unfold stepH loneStep
          rw [if_neg (by rw [hc]; decide), if_neg (fun z => q (by omega))]
          rfl
      · have cwc := I.cw h.c
        rw [hm] at cwc
        have op : ¬ (s h.c).2 = true := fun z => by
          rw [if_pos z] at cwc
          cases cwc
        refine s_ret ev_c fun H6 e6 => none_ret ?_ H6 ((I.ex.trans e34).trans e6)
        unfold stepH loneStep
        rw [if_neg (by rw [hc]; decide), if_neg (fun z => op z.1)]
        rfl
  · subst es
    refine s_ret ev_c fun H3 e3 => ?_
    have := k H3 ((e1.trans I.ex).trans e3)
    have hf : doesB hs = true := by
      unfold doesB
      have r := I.run
      rw [show xs.length = hs.length from hlen, List.take_length] at r
      rw [r]
      rfl
    rw [hf] at this
    exact this
end
end K0

namespace K0
open PySem PySem.Spec PyProof.Rows L2 Evl
theorem pi_listK {X : Cx} {K : PySem.W.Frag} {tg e : Expr} {te : TE} (h : X.K = K) (he : PE X e te) : PI X tg e (iList K te) := h ▸ pi_list he
theorem rp_zip {K : PySem.W.Frag} {H : Hp} : ∀ {xs : List V} {hs : List Hs}, RpAll K H xs (hs.map Hs.enc) → ∀ p ∈ xs.zip hs, Rp K H p.1 p.2.enc
  | [], _, _, p, hp => by simp at hp
  | _ :: _, [], _, p, hp => by simp at hp
  | x :: xs, h :: hs, r, p, hp => by
    cases r with
    | cons r1 r2 =>
      rw [List.zip_cons_cons] at hp
      rcases List.mem_cons.mp hp with rfl | hp
      · exact r1
      · exact rp_zip r2 p hp
theorem zip_fst : ∀ {xs : List V} {hs : List Hs}, xs.length = hs.length → (xs.zip hs).map Prod.fst = xs
  | [], [], _ => rfl
  | x :: xs, h :: hs, e => by
    rw [List.zip_cons_cons, List.map_cons, zip_fst (by simpa using e)]
theorem zip_filter {P : Hs → Bool} : ∀ {xs : List V} {hs : List Hs}, xs.length = hs.length → ((xs.zip hs).filter fun p => P p.2).map (fun p => p.2.enc) = (hs.filter P).map Hs.enc
  | [], [], _ => rfl
  | x :: xs, h :: hs, e => by
    have ih := zip_filter (P := P) (xs := xs) (hs := hs) (by simpa using e)
    rw [List.zip_cons_cons, List.filter_cons, List.filter_cons]
    show List.map _ (if P h = true then _ else _) = _
    split
    · rw [List.map_cons, List.map_cons, ih]
    · exact ih
theorem zip_mem {xs : List V} {hs : List Hs} {p : V × Hs} (h : p ∈ xs.zip hs) : p.2 ∈ hs := (List.of_mem_zip h).2
theorem given_empty {f : Nat → Bool} {v : Nat → V} (n : Nat) : (given n f v).isEmpty = (List.range n).all fun i => !f i := by
  unfold given
  rw [List.isEmpty_map]
  generalize List.range n = l
  induction l with
  | nil => rfl
  | cons a l ih =>
    rw [List.filter_cons, List.all_cons]
    cases f a with
    | true => rfl
    | false => simpa using ih
section
variable {K : PySem.W.Frag} {σ : L2.St} {H : Hp} {ta tb te : TE}
theorem n_c {v : V} {Q : VK} (h : Q v H) : tC v σ H Q := h
theorem et_trJ {i : Nat} {b : Bool} (h : σ[i]? = some (some (.bl b))) : EvT (fun σ H Q => tVar i σ H fun x H' => ∃ k, TruV K x H' k ∧ Q k H') σ H b := fun H1 e Q q => ⟨.bl b, h, b, rfl, q H1 (Ex.refl _)⟩
end
section
variable {P : Program} {w : World} {K : PySem.W.Frag} {mg : Str → Option Value} {base : Heap} {A : Ad} {D : Fd}
def sp_law_lone_fits (K : PySem.W.Frag) : Sp := fun vs H Q _ => ∃ (a : Addr) (xs : List V) (hs : List Hs), vs = [.ref a] ∧ H a = some (.lst xs) ∧ RpAll K H xs (hs.map Hs.enc) ∧ RetV (.bl (loneB hs)) H Q
theorem len_law_lone_fits {vs : List V} {H : Hp} {Q : VK} {E : XK} (h : sp_law_lone_fits K vs H Q E) : vs.length = 1 := by
  obtain ⟨a, xs, hs, rfl, _⟩ := h
  rfl
theorem ok_law_lone_fits (T : Txt K mg A D) : FnOk P w K mg base CX0 1 A.law_lone_fits D.law_lone_fits ["events"] (sp_law_lone_fits K) := by
  refine T.F_law_lone_fits.ok sc_law_lone_fits (fun vs H Q E h => len_law_lone_fits h) (fun cdv A0 outer s H vs Q E hr h => ?_)
  refine ⟨_, (pss_cons (ps_asg (pe_tup (pa_cons pe_int (pa_cons pe_bl pa_nil))) (pg_tup rfl (pgs_cons (pg_name (i := 1) sc_law_lone_fits.nd rfl (Or.inl rfl)) (pgs_cons (pg_name (i := 2) sc_law_lone_fits.nd rfl (Or.inl rfl)) pgs_nil))))
  (pss_cons (ps_for PassesOwn.never rfl (pi_list (pv 0)) (pg_name (i := 3) sc_law_lone_fits.nd rfl (Or.inl rfl)) (pss_one (ps_if (pt_cmpR op_eq (pe_ix ix_tup (pv 3) pe_int (fun _ _ => rfl)) pe_str (nomark _)) (pss_cons (ps_if (pt_cmpR op_ne (pe_ix ix_tup (pv 3) pe_int (fun _ _ => rfl)) (pe_op op_add (pv 1) pe_int) (nomark _)) (pss_one (ps_ret pe_bl)) pss_nil)
  (pss_one (ps_par (i := 1) (j := 2) (by rfl) sc_law_lone_fits.nd rfl rfl (by decide) rfl rfl (pa_cons (pe_ix ix_tup (pv 3) pe_int (fun _ _ => rfl)) (pa_cons pe_bl pa_nil)) (by rfl)))) (pss_cons (ps_if (PW.pt (pw_or (pt_not (pt_truth (pv 2) (by intro _; rfl))) (pw_or1 (pt_cmpR op_ne (pe_ix ix_tup (pv 3) pe_int (fun _ _ => rfl)) (pv 1) (nomark _))))) (pss_one (ps_ret pe_bl)) pss_nil)
  (pss_one (ps_set (i := 2) sc_law_lone_fits.nd rfl (Or.inl rfl) pe_bl))))))
  (pss_one (ps_ret pe_bl)))), ?_⟩
  obtain ⟨a, xs, hs, rfl, ha, hr1, k⟩ := h
  have hlen := hr1.len
  rw [List.length_map] at hlen
  refine q_asgG (n_tup (n_cons (n_c (n_cons (n_c (n_nil ⟨sz_of (by simp), fun p hp => ⟨p, _, rfl, st_of upd_same, rfl, _, _, rfl, _, _, rfl, rfl, ?_⟩⟩))))))
  have e1 : Ex H (L2.upd H p (.tup [.int 0, .bl false])) := Ex.new hp
  refine q_forLn (xs := xs) (ev_var rfl) (sq_of (e1 _ _ ha)) (fun i σ' H' => ∃ (s : Nat × Bool) (v3 : Option V), σ' = [some (.ref a), some (.int (s.1 : Int)), some (.bl s.2), v3] ∧ Ex H H' ∧ loneRun (0, false) (hs.take i) = some s)
    (fun H2 e2 => ⟨(0, false), none, rfl, e1.trans e2, rfl⟩) (fun i σ' H' hi ⟨s, v3, _, e, _⟩ => sq_of (e _ _ ha)) (fun i y σ' H' hy ⟨s, v3, es, e, hrun⟩ => ?_) (fun σ' H' ⟨s, v3, es, e, hrun⟩ => ?_)
  · subst es
    obtain ⟨d, hd, hrp⟩ := RpAll.get _ _ _ _ (hr1.ex e) hy
    rw [List.getElem?_map] at hd
    obtain ⟨h, hh, rfl⟩ := Option.map_eq_some_iff.mp hd
    obtain ⟨t, ys, u, rfl, hs', x0, x1, x2, x3, xl, _, _⟩ := hs_parts hrp
    have none_ret : loneStep s h = none → ∀ H9, Ex H H9 → Q (.bl false) H9 := fun z H9 e9 => by
      have := k H9 e9
      have hf : loneB hs = false := by
        unfold loneB
        rw [loneRun_none hh hrun z]
        rfl
      rw [hf] at this
      exact this
    cases hc : h.isCall with
    | true =>
      rw [hc] at x0
      refine s_take (et_is (et_test (ev_op (ev_nth (ev_var rfl) hs' x0) ev_c (rv_eq rfl))) dv_call) fun H4 e4 => ?_
      refine q_when (b := !decide (h.n = s.1 + 1)) (et_is (et_test (ev_op (ev_nth (ev_var rfl) (ex_t e4 hs') x2) (ev_op (ev_var rfl) ev_c rv_I0) (rv_ne rfl))) (congrArg _ (decide_eq_decide.mpr ⟨fun z => by have := V.int.inj z; omega, fun z => by rw [z]; rfl⟩))) (fun hb H5 e5 => ?_) (fun hb H5 e5 => ?_)
      · refine s_ret ev_c fun H6 e6 => none_ret ?_ H6 (((e.trans e4).trans e5).trans e6)
        unfold loneStep
        rw [if_pos hc, if_neg (by simpa using hb)]
      · have hn : h.n = s.1 + 1 := by simpa using hb
        refine (ea_cons (ev_nth (ev_var rfl) (ex_t (e4.trans e5) hs') x2) (ea_cons ev_c ea_nil) : EvA _ _ H5 [.int (h.n : Int), .bl true]) H5 (Ex.refl _) _ fun H6 e6 => ⟨_, _, rfl, (h.n, true), _, rfl, ((e.trans e4).trans e5).trans e6, loneRun_next hh hrun ?_⟩
        unfold loneStep
        rw [if_pos hc, if_pos hn]
    | false =>
      rw [hc] at x0
      refine s_else (et_is (et_test (ev_op (ev_nth (ev_var rfl) hs' x0) ev_c (rv_eq rfl))) dv_ans) fun H4 e4 => ?_
      refine q_when (b := !s.2 || !decide (h.n = s.1)) (et_or (et_not (et_trJ rfl)) fun _ => et_is (et_test (ev_op (ev_nth (ev_var rfl) (ex_t e4 hs') x2) (ev_var rfl) (rv_ne rfl))) (congrArg _ (decide_eq_decide.mpr ⟨fun z => by have := V.int.inj z; omega, fun z => by rw [z]⟩))) (fun hb H5 e5 => ?_) (fun hb H5 e5 => ?_)
      · refine s_ret ev_c fun H6 e6 => none_ret ?_ H6 (((e.trans e4).trans e5).trans e6)
        unfold loneStep
        rw [if_neg (by rw [hc]; decide), if_neg]
        intro z
        rw [z.1, decide_eq_true z.2] at hb
        cases hb
      · refine s_asg ev_c fun H6 e6 => ⟨(s.1, false), _, rfl, ((e.trans e4).trans e5).trans e6, loneRun_next hh hrun ?_⟩
        unfold loneStep
        rw [if_neg (by rw [hc]; decide), if_pos]
        have := Bool.or_eq_false_iff.mp hb
        exact ⟨by simpa using this.1, by simpa using this.2⟩
  · subst es
    refine s_ret ev_c fun H3 e3 => ?_
    have := k H3 (e.trans e3)
    have hf : loneB hs = true := by
      unfold loneB
      rw [show xs.length = hs.length from hlen, List.take_length] at hrun
      rw [hrun]
      rfl
    rw [hf] at this
    exact this
def sp_law_fits (K : PySem.W.Frag) : Sp := fun vs H Q _ => ∃ (a : Addr) (xs : List V) (hs : List Hs), vs = [.ref a] ∧ H a = some (.lst xs) ∧ RpAll K H xs (hs.map Hs.enc) ∧ hs.length ≤ 1000 ∧ RetV (.bl (fitsB hs)) H Q
theorem len_law_fits {vs : List V} {H : Hp} {Q : VK} {E : XK} (h : sp_law_fits K vs H Q E) : vs.length = 1 := by
  obtain ⟨a, xs, hs, rfl, _⟩ := h
  rfl
theorem ok_law_fits (T : Txt K mg A D) : FnOk P w K mg base CX0 2 A.law_fits D.law_fits ["history"] (sp_law_fits K) := by
  have G_law_lone_fits : FnOk P w K mg base CX0 1 A.law_lone_fits D.law_lone_fits ["events"] (sp_law_lone_fits K) := ok_law_lone_fits T
  refine T.F_law_fits.ok sc_law_fits (fun vs H Q E h => len_law_fits h) (fun cdv A0 outer s H vs Q E hr h => ?_)
  refine ⟨_, (pss_one (ps_ret (pe_cmpR (op_eqNil hr.units0) (pe_lc (own := [("client", 1)]) (g := gName 1)  rfl sc_law_fits.nd (pi_range1 rfl T.b_range (pa_cons pe_int pa_nil)) (blkOk_by (own := [("client", 1)]) (N := N_law_fits) (sc := defScope s_law_fits) (by decide +kernel)) (fun _ _ _ _ _ => by exact pg_name (i := 1) sc_law_fits.nd rfl (Or.inr rfl)) (fun _ _ _ _ _ => by exact (pts_one (pt_not (pt_val (pe_call G_law_lone_fits (hr.mono (by decide)) rfl T.g_law_lone_fits T.F_law_lone_fits.kp T.b_law_lone_fits .nil pass0 (pa_cons (pe_lc (own := [("event", 2)]) (g := gName 2)  rfl sc_law_fits.nd (pi_listK (K := K) (by rfl) (pv 0)) (blkOk_by (own := [("event", 2)]) (N := N_law_fits) (sc := { kind := .function, names := [(".0", .local), ("client", .cell), ("_law_lone_fits", .globalImplicit), ("history", .cell)], isGenerator := false, isCoroutine := false }) (by decide +kernel)) (fun _ _ _ _ _ => by exact pg_name (i := 2) sc_law_fits.nd rfl (Or.inl rfl)) (fun _ _ _ _ _ => by exact (pts_one (pt_cmpR op_eq (pe_ix (ix_tupK (K := K) (by rfl)) (pv 2) pe_int (fun _ _ => rfl)) (pv 1) (nomark _)))) (fun _ _ _ _ _ => by exact (pv 2))) pa_nil)))))) (fun _ _ _ _ _ => by exact (pv 1))) (pe_lst pa_nil) (nomark _)))), ?_⟩
  obtain ⟨a, xs, hs, rfl, ha, hr1, hl, k⟩ := h
  have hlen := hr1.len
  rw [List.length_map] at hlen
  refine s_ret (ev_is (ev_opLL (el_lcR1 (fun i => !loneB (ofC i hs)) (fun i => .int (i : Int)) (ea_cons ev_c ea_nil) (by decide) (fun _ => rfl) (fun i H1 e1 hi => et_not (et_B (fun H2 e2 Q2 q2 => ?_))) (fun i H1 e1 hi hf => ev_var rfl)) (el_lst ea_nil (by simp)) (z := .bl (given 5 (fun i => !loneB (ofC i hs)) (fun i => .int (i : Int))).isEmpty) fun p q H1 hp hq e H2 e2 Q2 q2 => ⟨p, q, _, rfl, rfl, sq_of (e2 _ _ hp), sq_of (e2 _ _ hq), q2 H2 (Ex.refl _)⟩) ?_) fun H1 e1 => k H1 e1
  · refine d_raw (n_cons ?_)
    refine (edl_listF (K := K) (a := a) (ys := xs.zip hs) (f := Prod.fst) (Pk := fun p => decide (p.2.c = i)) (G := fun p => p.2.enc) (ev_var rfl) (by rw [zip_fst hlen]; exact sq_of (e2 _ _ (e1 _ _ ha))) (by rw [List.length_zip]; omega) (fun _ => rfl) (fun y H' hy e' => ?_) (fun y H' hy _ e' => ed_ev (ev_var rfl) ((rp_zip hr1 y hy).ex ((e1.trans e2).trans e')))) H2 (Ex.refl _) _ fun p ys H3 hp e3 h3 r3 => n_nil ⟨p, ys, ofC i hs, rfl, h3, ?_, fun H4 e4 => q2 H4 (e3.trans e4)⟩
    · obtain ⟨t, zs, u, hv, hs', x0, x1, x2, x3, xl, _, _⟩ := hs_parts (rp_zip hr1 y hy)
      refine et_is (et_test (ev_op (ev_nth (ev_var ?_) (ex_t ((e1.trans e2).trans e') hs') x1) (ev_var rfl) (rv_eq rfl))) (decide_eq_decide.mpr ⟨fun z => by have := V.int.inj z; omega, fun z => by rw [z]⟩)
      rw [hv]
      rfl
    · rw [zip_filter hlen (P := fun h => decide (h.c = i))] at r3
      exact r3
  · rw [given_empty]
    refine congrArg V.bl (all_congr fun c => ?_)
    rw [Bool.not_not]
end
end K0

namespace K0
open PySem PySem.Spec PyProof.Rows L2 Evl
section
variable {K : PySem.W.Frag} {σ : L2.St} {H : Hp} {a : Addr} {te : TE} {ta : TA} {M : D → Prop}
/-- a number and a roll -/
theorem x_rollOp {E : XK} {g : Int → Int → Int} {b m : Int} (hv : σ[0]? = some (some (.ref a))) (hm : 0 < m ∧ m < 1000000) (h : ∀ r, 0 ≤ r → r < m → M (.int (g b r))) :
    EvX K a (tOp (rI0 fun i j => V.int (g i j)) (tC (.int b)) (tCall (sp_law_roll K) [] E (tCons (tVar 0) (tCons (tC (.int m)) tNil)))) σ M := fun H1 d1 Q q => by
  refine n_op (n_c ?_)
  refine c_call (ea_cons (ev_var hv) (ea_cons ev_c ea_nil)) fun H2 e2 => ⟨a, m, rfl, d1.ex e2, hm.1, hm.2, fun r H3 r0 r1 b3 d3 => ⟨b, r, rfl, rfl, ?_⟩⟩
  exact q _ (.int _) H3 ((Bt.of e2).trans b3) d3 (h r r0 r1) rfl (.int _)
theorem x_roll {E : XK} {m : Int} (hv : σ[0]? = some (some (.ref a))) (hm : 0 < m ∧ m < 1000000) (h : ∀ r, 0 ≤ r → r < m → M (.int r)) :
    EvX K a (tCall (sp_law_roll K) [] E (tCons (tVar 0) (tCons (tC (.int m)) tNil))) σ M := fun H1 d1 Q q => by
  refine c_call (ea_cons (ev_var hv) (ea_cons ev_c ea_nil)) fun H2 e2 => ⟨a, m, rfl, d1.ex e2, hm.1, hm.2, fun r H3 r0 r1 b3 d3 => ?_⟩
  exact q _ (.int _) H3 ((Bt.of e2).trans b3) d3 (h r r0 r1) rfl (.int _)
/-- some = [..], drawn, all of one kind -/
theorem xq_list {Dn : Ends} {tz : TS} {i n : Nat} (hd : DiceAt H a) (hx : EvX K a te σ M) (h : EvXA K a ta σ fun ds => (∀ d ∈ ds, M d) ∧ ds.length ≤ n) (hn : n ≤ 1000)
    (k : ∀ p xs ds H2, H p = none → p ≠ a → Bt a H H2 → DiceAt H2 a → H2 p = some (.lst xs) → RpAll K H2 xs ds → (∀ d ∈ ds, M d) → D.cleanL ds = true → ds ≠ [] → ds.length ≤ n + 1 → tz Dn (σ.set i (some (.ref p))) H2) : tSeq (tAsg (tLst (tCons te ta)) (gName i)) tz Dn σ H := by
  refine q_asgX ?_
  refine hx H hd _ fun v d H1 b1 d1 m1 c1 r1 => h H1 d1 _ fun vs ds H2 b2 d2 m c r => ⟨by rw [List.length_cons, r.len]; exact sz_of (by omega), fun p hp => ?_⟩
  have b : Bt a H (L2.upd H2 p (.lst (v :: vs))) := (b1.trans b2).trans (Bt.of (Ex.new hp))
  have np := d2.ne hp
  refine k p (v :: vs) (d :: ds) _ ((b1.trans b2).free np hp) np b (d2.ex (Ex.new hp)) upd_same ((RpAll.cons (r1.bt c1 d1 b2) r).ex (Ex.new hp)) (fun e he => ?_) (Bool.and_eq_true_iff.mpr ⟨c1, c⟩) (by simp) (by rw [List.length_cons]; omega)
  rcases List.mem_cons.mp he with rfl | he
  · exact m1
  · exact m.1 e he
/-- _law_pick(dice, xs), a list that stands -/
theorem s_pickV {E : XK} {Q : VK} {i : Nat} {p : Addr} {xs : List V} {ds : List D} (hv : σ[0]? = some (some (.ref a))) (hi : σ[i]? = some (some (.ref p))) (hd : DiceAt H a) (n : p ≠ a) (hp : H p = some (.lst xs)) (r : RpAll K H xs ds) (c : D.cleanL ds = true) (hm : ∀ d ∈ ds, M d) (h0 : ds ≠ []) (hl : ds.length ≤ 10000)
    (k : ∀ v d H2, Bt a H H2 → DiceAt H2 a → M d → d.clean = true → Rp K H2 v d → Q v H2) : tCall (sp_law_pick K) [] E (tCons (tVar 0) (tCons (tVar i) tNil)) σ H Q := by
  refine c_call (ea_cons (ev_var hv) (ea_cons (ev_var hi) ea_nil)) fun H2 e2 => ⟨a, p, xs, rfl, hd.ex e2, n, sq_of (e2 _ _ hp), ?_, by rw [r.len]; omega, fun x H4 hx4 b4 d4 => ?_⟩
  · intro z
    rw [z] at r
    cases r
    exact h0 rfl
  · obtain ⟨y, hy, ry⟩ := (r.ex e2).memI x hx4
    have cy : y.clean = true := by
      rw [cleanL_all] at c
      exact List.all_eq_true.mp c y hy
    exact k x y H4 ((Bt.of e2).trans b4) d4 (hm y hy) cy (ry.bt cy (hd.ex e2) b4)
end
def mDeedF (d : D) : Prop := ∃ e, d = Deed.enc e ∧ e.ok = true ∧ e.enc.size ≤ 690
def mLot3 (d : D) : Prop := ∃ ls : List Lone, d = .tup (ls.map Lone.enc) ∧ 1 ≤ ls.length ∧ ls.length ≤ 3 ∧ ls.all Lone.good = true
theorem x_lot3 {K : PySem.W.Frag} {a : Addr} {te : TE} {vs : List Nat} {σ : L2.St} {j : Nat} {E : XK} (hv : σ[0]? = some (some (.ref a))) (hw : ∀ x, wipe ((wipe σ vs).set j (some x)) vs = wipe σ vs) (hx : ∀ i : Int, EvX K a te ((wipe σ vs).set j (some (.int i))) mLone) :
    EvX K a (tCB (rTupOf K) (tCons (tLc (iRng1 (tCons (tOp (rI0 fun i j => V.int (i + j)) (tC (.int 1)) (tCall (sp_law_roll K) [] E (tCons (tVar 0) (tCons (tC (.int 3)) tNil)))) tNil)) (gName j) tYes te vs) tNil)) σ mLot3 := fun H d1 Q q => by
  refine n_cb (n_cons ?_)
  unfold tLc
  refine n_rng1 (n_cons (n_op ?_))
  show tCall (sp_law_roll K) [] E (tCons (tVar 0) (tCons (tC (.int 3)) tNil)) σ H _
  refine c_call (ea_cons (ev_var hv) (ea_cons ev_c ea_nil)) fun H1 e1 => ?_
  refine ⟨a, 3, rfl, d1.ex e1, by decide, by decide, fun r H2 r0 r1 hb2 hd2 => ?_⟩
  have b2 : Bt a H H2 := (Bt.of e1).trans hb2
  refine ⟨1, r, rfl, rfl, n_nil ⟨1 + r, rfl, by omega, by omega, ?_⟩⟩
  refine l_draws (K := K) (M := mLone) (a := a) (n := (1 + r).toNat) (Q := fun v H1 => tNil σ H1 fun vs H2 => rTupOf K (v :: vs) H2 Q) hd2 (by omega) hw hx fun p xs ds H3 hp b3 d3 h3 rr hl hm hc => ?_
  obtain ⟨ls, rfl, hg⟩ := lones_of hm
  rw [List.length_map] at hl
  refine n_nil ⟨p, xs, rfl, .inl ⟨sq_of h3, fun l hl2 => q (.ref l) _ _ ((b2.trans b3).trans (Bt.of (Ex.new hl2))) (d3.ex (Ex.new hl2)) ⟨ls, rfl, by omega, by omega, hg⟩ hc (.tup (st_of upd_same) (rr.ex (Ex.new hl2)))⟩⟩
theorem dfOne {l : Lone} (h : l.good = true) : mDeedF l.enc := ⟨.one l, rfl, h, by have := lone_size h; show l.enc.size ≤ 690; omega⟩
theorem dfList {b c : Str} (hb : okK b = true) (hc : okK c = true) : mDeedF (.tup [.str "list", .str b, .str c]) := ⟨.list b c, rfl, Bool.and_eq_true_iff.mpr ⟨hb, hc⟩, by
  have h1 := (key_fine hb).2
  have h2 := (key_fine hc).2
  have h3 : (D.str "list").size = 1 := by decide +kernel
  simp only [Deed.enc, D.size, D.sizeL] at h1 h2 h3 ⊢
  omega⟩
theorem dfAll {ls : List Lone} (h1 : 1 ≤ ls.length) (h2 : ls.length ≤ 3) (h3 : ls.all Lone.good = true) : mDeedF (.tup [.str "all", .tup (ls.map Lone.enc)]) := ⟨.all ls, rfl, by
  show ((decide (1 ≤ ls.length) && decide (ls.length ≤ 6)) && ls.all Lone.good) = true
  rw [decide_eq_true h1, decide_eq_true (by omega), h3]
  rfl, by
  have a := lones_size h3
  have b : (D.str "all").size = 1 := by decide +kernel
  simp only [Deed.enc, D.size, D.sizeL] at b ⊢
  omega⟩
def twoV : List V := [.str "drop", .str "get"]
section
variable {P : Program} {w : World} {K : PySem.W.Frag} {mg : Str → Option Value} {base : Heap} {A : Ad} {D : Fd}
def sp_law_key_drawn (K : PySem.W.Frag) : Sp := spDraw mKey K
theorem len_law_key_drawn {vs : List V} {H : Hp} {Q : VK} {E : XK} (h : sp_law_key_drawn K vs H Q E) : vs.length = 1 := spDraw_len h
theorem ok_law_key_drawn (T : Txt K mg A D) : FnOk P w K mg base CX0 3 A.law_key_drawn D.law_key_drawn ["dice"] (sp_law_key_drawn K) := by
  have G_law_pick : FnOk P w K mg base CX0 2 A.law_pick D.law_pick ["dice", "items"] (sp_law_pick K) := ok_law_pick T
  refine T.F_law_key_drawn.ok sc_law_key_drawn (fun vs H Q E h => len_law_key_drawn h) (fun cdv A0 outer s H vs Q E hr h => ?_)
  refine ⟨_, (pss_one (ps_ret (pe_call G_law_pick (hr.mono (by decide)) rfl T.g_law_pick T.F_law_pick.kp T.b_law_pick .nil pass0 (pa_cons (pv 0) (pa_cons (pe_lst (pa_cons pe_str (pa_cons pe_str (pa_cons pe_str (pa_cons pe_str (pa_cons pe_str (pa_cons pe_str (pa_cons pe_str pa_nil)))))))) pa_nil))))), ?_⟩
  obtain ⟨a, rfl, ha, k⟩ := h
  exact x_ret (K := K) (M := mKey) (x_pick (n := 6) rfl (x_str (mk_key (by decide +kernel))) (by repeat (first | exact xl_nil | refine xl_cons (x_str (mk_key (by decide +kernel))) ?_)) (by decide)) ha k
def sp_law_value_drawn (K : PySem.W.Frag) : Sp := spDraw mVal K
theorem len_law_value_drawn {vs : List V} {H : Hp} {Q : VK} {E : XK} (h : sp_law_value_drawn K vs H Q E) : vs.length = 1 := spDraw_len h
theorem ok_law_value_drawn (T : Txt K mg A D) : FnOk P w K mg base CX0 3 A.law_value_drawn D.law_value_drawn ["dice"] (sp_law_value_drawn K) := by
  have G_law_roll : FnOk P w K mg base CX0 1 A.law_roll D.law_roll ["dice", "most"] (sp_law_roll K) := ok_law_roll T
  have G_law_pick : FnOk P w K mg base CX0 2 A.law_pick D.law_pick ["dice", "items"] (sp_law_pick K) := ok_law_pick T
  refine T.F_law_value_drawn.ok sc_law_value_drawn (fun vs H Q E h => len_law_value_drawn h) (fun cdv A0 outer s H vs Q E hr h => ?_)
  refine ⟨_, (pss_cons (ps_set (i := 1) sc_law_value_drawn.nd rfl (Or.inl rfl) (pe_lst (pa_cons pe_int (pa_cons pe_int (pa_cons (pe_un un_neg pe_int) (pa_cons pe_int (pa_cons pe_str (pa_cons pe_str (pa_cons pe_str (pa_cons pe_str (pa_cons pe_str (pa_cons (pe_op op_sub pe_int (pe_call G_law_roll (hr.mono (by decide)) rfl T.g_law_roll T.F_law_roll.kp T.b_law_roll .nil pass0 (pa_cons (pv 0) (pa_cons pe_int pa_nil)))) pa_nil))))))))))))
  (pss_one (ps_ret (pe_call G_law_pick (hr.mono (by decide)) rfl T.g_law_pick T.F_law_pick.kp T.b_law_pick .nil pass0 (pa_cons (pv 0) (pa_cons (pv 1) pa_nil)))))), ?_⟩
  obtain ⟨a, rfl, ha, k⟩ := h
  refine xq_list (K := K) (M := fun d => mVal d) (n := 9) ha (x_int (mk_val (by decide +kernel))) ?_ (by decide) fun p xs ds H2 fp np b2 d2 h2 r m c ne l => ?_
  · repeat (first | exact xl_nil | refine xl_cons (x_str (mk_val (by decide +kernel))) ?_ | refine xl_cons (x_int (mk_val (by decide +kernel))) ?_ | refine xl_cons (x_neg (mk_val (by decide +kernel))) ?_ | refine xl_cons (x_rollOp (g := fun i j => i - j) rfl (by decide) fun r r0 r1 => short_value (short_of (decide_eq_false (by split <;> omega)))) ?_)
  exact n_ret (s_pickV rfl rfl d2 np h2 r c m ne (by omega) fun v d H3 b3 d3 m c r => k v d H3 (b2.trans b3) d3 m c r)
def sp_law_single_drawn (K : PySem.W.Frag) : Sp := spDraw mLone K
theorem len_law_single_drawn {vs : List V} {H : Hp} {Q : VK} {E : XK} (h : sp_law_single_drawn K vs H Q E) : vs.length = 1 := spDraw_len h
theorem ok_law_single_drawn (T : Txt K mg A D) : FnOk P w K mg base CX0 4 A.law_single_drawn D.law_single_drawn ["dice"] (sp_law_single_drawn K) := by
  have G_law_roll : FnOk P w K mg base CX0 1 A.law_roll D.law_roll ["dice", "most"] (sp_law_roll K) := ok_law_roll T
  have G_law_pick : FnOk P w K mg base CX0 2 A.law_pick D.law_pick ["dice", "items"] (sp_law_pick K) := ok_law_pick T
  have G_law_key_drawn : FnOk P w K mg base CX0 3 A.law_key_drawn D.law_key_drawn ["dice"] (sp_law_key_drawn K) := ok_law_key_drawn T
  have G_law_value_drawn : FnOk P w K mg base CX0 3 A.law_value_drawn D.law_value_drawn ["dice"] (sp_law_value_drawn K) := ok_law_value_drawn T
  refine T.F_law_single_drawn.ok sc_law_single_drawn (fun vs H Q E h => len_law_single_drawn h) (fun cdv A0 outer s H vs Q E hr h => ?_)
  refine ⟨_, (pss_cons (ps_par (i := 1) (j := 2) (by rfl) sc_law_single_drawn.nd rfl rfl (by decide) rfl rfl (pa_cons (pe_call G_law_pick (hr.mono (by decide)) rfl T.g_law_pick T.F_law_pick.kp T.b_law_pick .nil pass0 (pa_cons (pv 0) (pa_cons (pe_lst (pa_cons pe_str (pa_cons pe_str (pa_cons pe_str (pa_cons pe_str (pa_cons pe_str (pa_cons pe_str (pa_cons pe_str pa_nil)))))))) pa_nil))) (pa_cons (pe_call G_law_key_drawn (hr.mono (by decide)) rfl T.g_law_key_drawn T.F_law_key_drawn.kp T.b_law_key_drawn .nil pass0 (pa_cons (pv 0) pa_nil)) pa_nil)) (by rfl))
  (pss_cons (ps_if (pt_cmpR op_in_seq (pv 1) (pe_tup (pa_cons pe_str (pa_cons pe_str pa_nil))) (by rfl)) (pss_one (ps_ret (pe_tup (pa_cons (pv 1) (pa_cons (pv 2) pa_nil))))) pss_nil)
  (pss_cons (ps_if (pt_cmpR op_eq (pv 1) pe_str (nomark _)) (pss_one (ps_ret (pe_tup (pa_cons (pv 1) (pa_cons (pv 2) (pa_cons (pe_call G_law_pick (hr.mono (by decide)) rfl T.g_law_pick T.F_law_pick.kp T.b_law_pick .nil pass0 (pa_cons (pv 0) (pa_cons (pe_lst (pa_cons pe_int (pa_cons (pe_un un_neg pe_int) (pa_cons pe_int (pa_cons pe_int (pa_cons (pe_op op_sub pe_int (pe_call G_law_roll (hr.mono (by decide)) rfl T.g_law_roll T.F_law_roll.kp T.b_law_roll .nil pass0 (pa_cons (pv 0) (pa_cons pe_int pa_nil)))) pa_nil)))))) pa_nil))) pa_nil)))))) pss_nil)
  (pss_cons (ps_if (pt_cmpR op_eq (pv 1) pe_str (nomark _)) (pss_one (ps_ret (pe_tup (pa_cons (pv 1) (pa_cons (pv 2) (pa_cons (pe_call G_law_pick (hr.mono (by decide)) rfl T.g_law_pick T.F_law_pick.kp T.b_law_pick .nil pass0 (pa_cons (pv 0) (pa_cons (pe_lst (pa_cons pe_non (pa_cons (pe_call G_law_value_drawn (hr.mono (by decide)) rfl T.g_law_value_drawn T.F_law_value_drawn.kp T.b_law_value_drawn .nil pass0 (pa_cons (pv 0) pa_nil)) pa_nil))) pa_nil))) (pa_cons (pe_call G_law_pick (hr.mono (by decide)) rfl T.g_law_pick T.F_law_pick.kp T.b_law_pick .nil pass0 (pa_cons (pv 0) (pa_cons (pe_lst (pa_cons pe_non (pa_cons (pe_call G_law_value_drawn (hr.mono (by decide)) rfl T.g_law_value_drawn T.F_law_value_drawn.kp T.b_law_value_drawn .nil pass0 (pa_cons (pv 0) pa_nil)) pa_nil))) pa_nil))) pa_nil))))))) pss_nil)
  (pss_one (ps_ret (pe_tup (pa_cons (pv 1) (pa_cons (pv 2) (pa_cons (pe_call G_law_value_drawn (hr.mono (by decide)) rfl T.g_law_value_drawn T.F_law_value_drawn.kp T.b_law_value_drawn .nil pass0 (pa_cons (pv 0) pa_nil)) pa_nil)))))))))), ?_⟩
  obtain ⟨a, rfl, ha, kk⟩ := h
  refine q_par ((xa_cons (K := K) (M := mWord) (x_pick (n := 6) rfl (x_str (mk_word (by decide +kernel))) ?_ (by decide)) (xa_cons (M := mKey) (x_draw rfl) xa_nil)) H ha _ fun vs ds H1 b1 d1 m c r => ?_)
  · repeat (first | exact xl_nil | refine xl_cons (x_str (mk_word (by decide +kernel))) ?_)
  obtain ⟨_, _, rfl, ⟨w, rfl, hw⟩, _, _, rfl, ⟨key, rfl, hk⟩, rfl⟩ := m
  cases r with | cons r1 r => ?_
  cases r1
  cases r with | cons r2 r => ?_
  cases r2
  cases r
  refine ⟨_, _, rfl, ?_⟩
  have kb : ∀ v d H2, Bt a H1 H2 → DiceAt H2 a → mLone d → d.clean = true → Rp K H2 v d → Q v H2 := fun v d H2 b2 d2 m c r => kk v d H2 (b1.trans b2) d2 m c r
  have hw' : w = "put" ∨ w = "drop" ∨ w = "get" ∨ w = "add" ∨ w = "swap" := by simpa [lotWords] using hw
  have xk : ∀ {σ : L2.St}, σ[2]? = some (some (.str key)) → EvX K a (tVar 2) σ (fun d => d = .str key) := fun h => x_var (d := .str key) h rfl rfl
  have inT : ∀ {z : Str} {b : Bool} {σ : L2.St} {H : Hp}, σ[1]? = some (some (.str z)) → (["drop", "get"] : List Str).contains z = b → EvT (tTest (tOp (rIn K false) (tVar 1) (tTup (tCons (tC (.str "drop")) (tCons (tC (.str "get")) tNil))))) σ H b := fun h e => et_is (et_test (ev_inU (ev_var h) (eu_tup (ea_cons ev_c (ea_cons ev_c ea_nil)) (by simp)) rfl (by decide +kernel))) ((inV_strs _ (["drop", "get"] : List Str)).trans e)
  rcases hw' with rfl | rfl | rfl | rfl | rfl
  · refine q_skip (inT rfl (by decide +kernel)) fun H2 e2 => q_skip (et_w rfl (by decide)) fun H3 e3 => q_skip (et_w rfl (by decide)) fun H4 e4 => ?_
    have e14 := (e2.trans e3).trans e4
    refine x_ret (K := K) (M := mLone) (x_tup (xa_cons (M := fun d => d = .str "put") (x_var (d := .str "put") rfl rfl rfl) (xa_cons (xk rfl) (xa_cons (x_draw (M := mVal) rfl) xa_nil))) fun ds n => ?_) (d1.ex e14) fun v d H3 b3 d3 m c r => kb v d H3 ((Bt.of e14).trans b3) d3 m c r
    obtain ⟨_, _, rfl, rfl, _, _, rfl, rfl, v, _, rfl, hv, rfl⟩ := n
    exact ⟨by simp, .put key v, rfl, Bool.and_eq_true_iff.mpr ⟨hk, hv⟩⟩
  · refine q_take (inT rfl (by decide +kernel)) fun H2 e2 => ?_
    refine x_ret (K := K) (M := mLone) (x_tup (xa_cons (M := fun d => d = .str "drop") (x_var (d := .str "drop") rfl rfl rfl) (xa_cons (xk rfl) xa_nil)) fun ds n => ?_) (d1.ex e2) fun v d H3 b3 d3 m c r => kb v d H3 ((Bt.of e2).trans b3) d3 m c r
    obtain ⟨_, _, rfl, rfl, _, _, rfl, rfl, rfl⟩ := n
    exact ⟨by simp, .drop key, rfl, hk⟩
  · refine q_take (inT rfl (by decide +kernel)) fun H2 e2 => ?_
    refine x_ret (K := K) (M := mLone) (x_tup (xa_cons (M := fun d => d = .str "get") (x_var (d := .str "get") rfl rfl rfl) (xa_cons (xk rfl) xa_nil)) fun ds n => ?_) (d1.ex e2) fun v d H3 b3 d3 m c r => kb v d H3 ((Bt.of e2).trans b3) d3 m c r
    obtain ⟨_, _, rfl, rfl, _, _, rfl, rfl, rfl⟩ := n
    exact ⟨by simp, .get key, rfl, hk⟩
  · refine q_skip (inT rfl (by decide +kernel)) fun H2 e2 => q_take (et_w rfl (by decide)) fun H3 e3 => ?_
    have e13 := e2.trans e3
    refine x_ret (K := K) (M := mLone) (x_tup (xa_cons (M := fun d => d = .str "add") (x_var (d := .str "add") rfl rfl rfl) (xa_cons (xk rfl) (xa_cons (M := mShort) (x_pick (n := 4) rfl (x_int (mk_short (by decide +kernel))) ?_ (by decide)) xa_nil))) fun ds n => ?_) (d1.ex e13) fun v d H3 b3 d3 m c r => kb v d H3 ((Bt.of e13).trans b3) d3 m c r
    · repeat (first | exact xl_nil | refine xl_cons (x_int (mk_short (by decide +kernel))) ?_ | refine xl_cons (x_neg (mk_short (by decide +kernel))) ?_ | refine xl_cons (x_rollOp (g := fun i j => i - j) rfl (by decide) fun r r0 r1 => mk_short (short_of (decide_eq_false (by split <;> omega)))) ?_)
    obtain ⟨_, _, rfl, rfl, _, _, rfl, rfl, _, _, rfl, ⟨n, rfl, hn⟩, rfl⟩ := n
    exact ⟨by simp, .add key n, rfl, Bool.and_eq_true_iff.mpr ⟨hk, hn⟩⟩
  · refine q_skip (inT rfl (by decide +kernel)) fun H2 e2 => q_skip (et_w rfl (by decide)) fun H3 e3 => q_take (et_w rfl (by decide)) fun H4 e4 => ?_
    have e14 := (e2.trans e3).trans e4
    have xw : ∀ {σ : L2.St}, σ[0]? = some (some (.ref a)) → EvX K a (tCall (sp_law_pick K) [] E0 (tCons (tVar 0) (tCons (tLst (tCons (tC .non) (tCons (tCall (sp_law_value_drawn K) [] E0 (tCons (tVar 0) tNil)) tNil))) tNil))) σ mWorth := fun h => x_pick (n := 1) h (x_non (mk_worth (by decide +kernel))) (xl_cons (x_imp (x_draw (M := mVal) h) fun d => val_worth) xl_nil) (by decide)
    refine x_ret (K := K) (M := mLone) (x_tup (xa_cons (M := fun d => d = .str "swap") (x_var (d := .str "swap") rfl rfl rfl) (xa_cons (xk rfl) (xa_cons (M := mWorth) (xw rfl) (xa_cons (M := mWorth) (xw rfl) xa_nil)))) fun ds n => ?_) (d1.ex e14) fun v d H6 b6 d6 m c r => kb v d H6 ((Bt.of e14).trans b6) d6 m c r
    obtain ⟨_, _, rfl, rfl, _, _, rfl, rfl, o, _, rfl, ho, n, _, rfl, hn, rfl⟩ := n
    exact ⟨by simp, .swap key o n, rfl, Bool.and_eq_true_iff.mpr ⟨hk, Bool.and_eq_true_iff.mpr ⟨ho, hn⟩⟩⟩
def sp_law_deed_drawn (K : PySem.W.Frag) : Sp := spDraw mDeedF K
theorem len_law_deed_drawn {vs : List V} {H : Hp} {Q : VK} {E : XK} (h : sp_law_deed_drawn K vs H Q E) : vs.length = 1 := spDraw_len h
theorem ok_law_deed_drawn (T : Txt K mg A D) : FnOk P w K mg base CX0 5 A.law_deed_drawn D.law_deed_drawn ["dice"] (sp_law_deed_drawn K) := by
  have G_law_roll : FnOk P w K mg base CX0 1 A.law_roll D.law_roll ["dice", "most"] (sp_law_roll K) := ok_law_roll T
  have G_law_key_drawn : FnOk P w K mg base CX0 3 A.law_key_drawn D.law_key_drawn ["dice"] (sp_law_key_drawn K) := ok_law_key_drawn T
  have G_law_single_drawn : FnOk P w K mg base CX0 4 A.law_single_drawn D.law_single_drawn ["dice"] (sp_law_single_drawn K) := ok_law_single_drawn T
  refine T.F_law_deed_drawn.ok sc_law_deed_drawn (fun vs H Q E h => len_law_deed_drawn h) (fun cdv A0 outer s H vs Q E hr h => ?_)
  refine ⟨_, (pss_cons (ps_set (i := 1) sc_law_deed_drawn.nd rfl (Or.inl rfl) (pe_call G_law_roll (hr.mono (by decide)) rfl T.g_law_roll T.F_law_roll.kp T.b_law_roll .nil pass0 (pa_cons (pv 0) (pa_cons pe_int pa_nil))))
  (pss_cons (ps_if (pt_cmpR op_eq (pv 1) pe_int (nomark _)) (pss_one (ps_ret (pe_tup (pa_cons pe_str (pa_cons (pe_call G_law_key_drawn (hr.mono (by decide)) rfl T.g_law_key_drawn T.F_law_key_drawn.kp T.b_law_key_drawn .nil pass0 (pa_cons (pv 0) pa_nil)) (pa_cons (pe_call G_law_key_drawn (hr.mono (by decide)) rfl T.g_law_key_drawn T.F_law_key_drawn.kp T.b_law_key_drawn .nil pass0 (pa_cons (pv 0) pa_nil)) pa_nil)))))) pss_nil)
  (pss_cons (ps_if (pt_cmpR op_eq (pv 1) pe_int (nomark _)) (pss_one (ps_ret (pe_tup (pa_cons pe_str (pa_cons (pe_callTy call_tuple_of (by rfl) T.b_tuple (by decide +kernel) (pa_cons (pe_lc (own := [("turn", 2)]) (g := gName 2) (tt := tYes) rfl sc_law_deed_drawn.nd (pi_range1 rfl T.b_range (pa_cons (pe_op op_add pe_int (pe_call G_law_roll (hr.mono (by decide)) rfl T.g_law_roll T.F_law_roll.kp T.b_law_roll .nil pass0 (pa_cons (pv 0) (pa_cons pe_int pa_nil)))) pa_nil)) (blkOk_by (own := [("turn", 2)]) (N := N_law_deed_drawn) (sc := defScope s_law_deed_drawn) (by decide +kernel)) (fun _ _ _ _ _ => by exact pg_name (i := 2) sc_law_deed_drawn.nd rfl (Or.inl rfl)) (fun _ _ _ _ _ => by exact pts_nil) (fun _ _ _ _ _ => by exact (pe_call G_law_single_drawn (hr.mono (by decide)) rfl T.g_law_single_drawn T.F_law_single_drawn.kp T.b_law_single_drawn .nil pass0 (pa_cons (pv 0) pa_nil)))) pa_nil)) pa_nil))))) pss_nil)
  (pss_one (ps_ret (pe_call G_law_single_drawn (hr.mono (by decide)) rfl T.g_law_single_drawn T.F_law_single_drawn.kp T.b_law_single_drawn .nil pass0 (pa_cons (pv 0) pa_nil))))))), ?_⟩
  obtain ⟨a, rfl, ha, k⟩ := h
  refine q_asgX (c_call (ea_cons (ev_var rfl) (ea_cons ev_c ea_nil)) fun H1 e1 => ⟨a, 8, rfl, ha.ex e1, by decide, by decide, fun r H2 r0 r1 b2 d2 => ?_⟩)
  have kb : ∀ v d H3, Bt a H2 H3 → DiceAt H3 a → mDeedF d → d.clean = true → Rp K H3 v d → Q v H3 := fun v d H3 b3 d3 m c r => k v d H3 (((Bt.of e1).trans b2).trans b3) d3 m c r
  refine q_when (et_test (ev_op (ev_var rfl) ev_c (rv_eq rfl))) (fun hb H3 e3 => ?_) (fun hb H3 e3 => ?_)
  · refine x_ret (K := K) (M := mDeedF) (x_tup (xa_cons (M := fun d => d = .str "list") (x_str rfl) (xa_cons (M := mKey) (x_draw rfl) (xa_cons (M := mKey) (x_draw rfl) xa_nil))) fun ds n => ?_) (d2.ex e3) fun v d H4 b4 d4 m c r => kb v d H4 ((Bt.of e3).trans b4) d4 m c r
    obtain ⟨_, _, rfl, rfl, _, _, rfl, ⟨b, rfl, hb⟩, _, _, rfl, ⟨c, rfl, hc⟩, rfl⟩ := n
    exact ⟨by simp, dfList hb hc⟩
  · refine q_when (et_test (ev_op (ev_var rfl) ev_c (rv_eq rfl))) (fun hb H4 e4 => ?_) (fun hb H4 e4 => ?_)
    · have e34 := e3.trans e4
      refine x_ret (K := K) (M := mDeedF) (x_tup (xa_cons (M := fun d => d = .str "all") (x_str rfl) (xa_cons (M := mLot3) (x_lot3 rfl (fun _ => rfl) fun i => x_draw rfl) xa_nil)) fun ds n => ?_) (d2.ex e34) fun v d H4 b4 d4 m c r => kb v d H4 ((Bt.of e34).trans b4) d4 m c r
      obtain ⟨_, _, rfl, rfl, _, _, rfl, ⟨ls, rfl, h1, h2, h3⟩, rfl⟩ := n
      exact ⟨by simp, dfAll h1 h2 h3⟩
    · have e34 := e3.trans e4
      refine x_ret (K := K) (M := mDeedF) (x_imp (x_draw (M := mLone) rfl) fun d h => ?_) (d2.ex e34) fun v d H4 b4 d4 m c r => kb v d H4 ((Bt.of e34).trans b4) d4 m c r
      obtain ⟨l, rfl, hl⟩ := h
      exact dfOne hl
end
end K0

namespace K0
open PySem PySem.Spec PyProof.Rows L2 Evl
/-! ### numbers in a list -/
theorem in_nats (c : Nat) : ∀ ws : List Nat, inV (.int (c : Int)) (ws.map fun c : Nat => V.int (c : Int)) = decide (c ∈ ws)
  | [] => rfl
  | w :: r => by
    have ih := in_nats c r
    unfold inV at ih ⊢
    rw [List.map_cons, List.any_cons, ih]
    show (((w : Int) == (c : Int)) || _) = _
    by_cases z : w = c
    · subst z
      simp
    · have n1 : ((w : Int) == (c : Int)) = false := by
        rw [beq_eq_false_iff_ne]
        omega
      rw [n1, Bool.false_or]
      refine decide_eq_decide.mpr ⟨fun h => List.mem_cons_of_mem _ h, fun h => ?_⟩
      rcases List.mem_cons.mp h with h | h
      · exact absurd h.symm z
      · exact h
theorem flat_nats (ws : List Nat) : (ws.map fun c : Nat => V.int (c : Int)).all flatV = true := List.all_eq_true.mpr fun v hv => by
  obtain ⟨w, _, rfl⟩ := List.mem_map.mp hv
  rfl
theorem rp_nats {K : PySem.W.Frag} {H : Hp} : ∀ {xs : List V} {ws : List Nat}, RpAll K H xs (ws.map numE) → xs = ws.map fun c : Nat => V.int (c : Int)
  | [], [], _ => rfl
  | x :: xs, w :: ws, h => by
    cases h with
    | cons r1 r2 =>
      cases r1
      rw [List.map_cons, rp_nats r2]
  | [], _ :: _, h => by cases h
  | _ :: _, [], h => by cases h
theorem erase_map (f : Nat → Int) : ∀ (ws : List Nat) (j : Nat), (ws.map f).eraseIdx j = (ws.eraseIdx j).map f
  | [], _ => rfl
  | _ :: _, 0 => rfl
  | w :: r, j + 1 => by
    show f w :: (r.map f).eraseIdx j = f w :: (r.eraseIdx j).map f
    rw [erase_map f r j]
section
variable {σ : L2.St} {H : Hp} {t u : TT} {ta : TA}
theorem n_andJ {Q : Bool → Hp → Prop} (h : t σ H fun b H1 => if b = true then u σ H1 Q else Q false H1) : tAnd t u σ H Q := h
theorem n_testJ {te : TE} {Q : Bool → Hp → Prop} (h : te σ H fun v H1 => ∃ b, v = .bl b ∧ Q b H1) : tTest te σ H Q := h
theorem n_dropJ {te : TE} {Dn : Ends} (h : te σ H fun _ H1 => Dn.nx σ H1) : tDrop te Dn σ H := h
theorem n_rngJ {R : It → Hp → Prop} (h : ta σ H fun vs H1 => ∃ j : Int, vs = [.int j] ∧ -(2 ^ 62) ≤ j ∧ j < 2 ^ 62 ∧ R (Itr 0 j.toNat) H1) : iRng1 ta σ H R := h
/-- for .. in range(what is drawn) -/
theorem q_forRng {g : TG} {tu tz : TS} {Dn : Ends} {G : Int → Hp → Prop} (h : ∀ Q : List V → Hp → Prop, (∀ n H1, G n H1 → Q [.int n] H1) → ta σ H Q) (k : ∀ n H1, G n H1 → tSeq (tFor (iRng1 (tCons (tC (.int n)) tNil)) g tu) tz Dn σ H1) : tSeq (tFor (iRng1 ta) g tu) tz Dn σ H :=
  h _ fun n H1 p => k n H1 p
theorem n_appendJ {K : PySem.W.Frag} {ta te : TE} {Dn : Ends} {l : Addr} {xs : List V} (ha : Ev ta σ H (.ref l)) (hl : H l = some (.lst xs))
    (h : ∀ H1, Ex H H1 → te σ H1 fun v H2 => ∃ l' ys v', V.ref l = V.ref l' ∧ [v] = [v'] ∧ H2 l' = some (.lst ys) ∧ ys.length < sizeLine ∧ Dn.nx σ (L2.upd H2 l' (.lst (ys ++ [v'])))) : tDrop (tBM K "list" rAppend ta (tCons te tNil)) Dn σ H :=
  ha H (Ex.refl H) _ fun H1 e1 => ⟨Or.inl ⟨rfl, xs, sq_of (e1 l _ hl)⟩, h H1 e1⟩
theorem n_asgJ {te : TE} {Dn : Ends} {i : Nat} (h : te σ H fun v H1 => Dn.nx (σ.set i (some v)) H1) : tAsg te (gName i) Dn σ H := h
theorem q_dropJ {te : TE} {tz : TS} {Dn : Ends} (h : te σ H fun _ H1 => tz Dn σ H1) : tSeq (tDrop te) tz Dn σ H := h
theorem n_appendK {K : PySem.W.Frag} {ta te : TE} {Q : VK} {l : Addr} {xs : List V} (ha : Ev ta σ H (.ref l)) (hl : H l = some (.lst xs))
    (h : ∀ H1, Ex H H1 → te σ H1 fun v H2 => ∃ l' ys v', V.ref l = V.ref l' ∧ [v] = [v'] ∧ H2 l' = some (.lst ys) ∧ ys.length < sizeLine ∧ Q .non (L2.upd H2 l' (.lst (ys ++ [v'])))) : tBM K "list" rAppend ta (tCons te tNil) σ H Q :=
  ha H (Ex.refl H) _ fun H1 e1 => ⟨Or.inl ⟨rfl, xs, sq_of (e1 l _ hl)⟩, h H1 e1⟩
theorem q_dputJ {tv td ty : TE} {tz : TS} {Dn : Ends} (h : tv σ H fun v H1 => td σ H1 fun x H2 => ty σ H2 fun y H3 => ∃ a H4, x = V.ref a ∧ DPut H3 a y v H4 ∧ tz Dn σ H4) : tSeq (sDPut td ty tv) tz Dn σ H := h
end
/-! ### a history as it is drawn -/
def natV (ws : List Nat) : List V := ws.map fun c : Nat => V.int (c : Int)
structure HisI (K : PySem.W.Frag) (a d wl l : Addr) (H : Hp) (G : List (Nat × Nat)) (ws : List Nat) (hs : List Hs) (ys : List V) : Prop where
  dice : DiceAt H a
  nd : d ≠ a
  nw : wl ≠ a
  nl : l ≠ a
  dw : d ≠ wl
  dl : d ≠ l
  lw : l ≠ wl
  g : DictN K H d numE G
  hw : H wl = some (.lst (natV ws))
  hl : H l = some (.lst ys)
  rp : RpAll K H ys (hs.map Hs.enc)
  ok : ∀ h ∈ hs, h.Ok
structure HisS (i : Nat) (s : StC) (G : List (Nat × Nat)) (ws : List Nat) (hs : List Hs) : Prop where
  cg : CallsR G s
  gl : G.length ≤ i
  ww : ∀ c, c ∈ ws ↔ (s c).2 = true
  wn : ws.Nodup
  wlen : ws.length ≤ i
  len : hs.length = i
  run : runH st0 hs = some s
  bd : ∀ c, (s c).1 ≤ i
  op : ∀ c, (s c).2 = true → 1 ≤ (s c).1
section
variable {K : PySem.W.Frag} {a d wl l : Addr} {i : Nat} {H H' : Hp} {s : StC} {G : List (Nat × Nat)} {ws : List Nat} {hs : List Hs} {ys : List V}
theorem HisI.yl (h : HisI K a d wl l H G ws hs ys) : ys.length = hs.length := by rw [h.rp.len, List.length_map]
theorem HisI.bt (h : HisI K a d wl l H G ws hs ys) (b : Bt a H H') (d' : DiceAt H' a) : HisI K a d wl l H' G ws hs ys :=
  ⟨d', h.nd, h.nw, h.nl, h.dw, h.dl, h.lw, (let ⟨kvs, g, p, n⟩ := h.g; ⟨kvs, b.at h.nd g, relE p, n⟩), b.at h.nw h.hw, b.at h.nl h.hl, h.rp.exT (hsL_clean h.ok) (b.exT h.dice), h.ok⟩
theorem HisI.ex (h : HisI K a d wl l H G ws hs ys) (e : Ex H H') : HisI K a d wl l H' G ws hs ys := h.bt (Bt.of e) (h.dice.ex e)
/-- another list of those who wait, where the old one stood or in a new place -/
theorem HisI.wset (h : HisI K a d wl l H G ws hs ys) (ws' : List Nat) : HisI K a d wl l (L2.upd H wl (.lst (natV ws'))) G ws' hs ys :=
  ⟨h.dice.mut h.nw, h.nd, h.nw, h.nl, h.dw, h.dl, h.lw, dictE h.g (upd_ne h.dw), upd_same, by rw [upd_ne h.lw]; exact h.hl, h.rp.exT (hsL_clean h.ok) (ExT.upd h.hw), h.ok⟩
theorem HisI.wnew {p : Addr} {ws' : List Nat} (h : HisI K a d wl l H G ws hs ys) (e : Ex H H') (hp : H p = none) (g : H' p = some (.lst (natV ws'))) : HisI K a d p l H' G ws' hs ys := by
  have h' := h.ex e
  obtain ⟨kvs, gg, _, _⟩ := h.g
  exact ⟨h'.dice, h.nd, h.dice.ne hp, h.nl, (fun z => by rw [← z, gg] at hp; cases hp), h.dl, (fun z => by rw [← z, h.hl] at hp; cases hp), h'.g, g, h'.hl, h'.rp, h.ok⟩
theorem HisI.app {v : V} {x : Hs} (h : HisI K a d wl l H G ws hs ys) (hv : Rp K H v x.enc) (ok : x.Ok) : HisI K a d wl l (L2.upd H l (.lst (ys ++ [v]))) G ws (hs ++ [x]) (ys ++ [v]) := by
  have e1 : ExT H (L2.upd H l (.lst (ys ++ [v]))) := ExT.upd h.hl
  refine ⟨h.dice.mut h.nl, h.nd, h.nw, h.nl, h.dw, h.dl, h.lw, dictE h.g (upd_ne h.dl), by rw [upd_ne h.lw.symm]; exact h.hw, upd_same, ?_, fun y hy => ?_⟩
  · rw [List.map_append]
    exact (h.rp.exT (hsL_clean h.ok) e1).app (.cons (hv.exT (hs_clean ok) e1) .nil)
  · rcases List.mem_append.mp hy with hy | hy
    · exact h.ok y hy
    · rw [List.mem_singleton.mp hy]
      exact ok
theorem HisI.gput {kvs : List (Key × V)} {c n : Nat} {v : V} (h : HisI K a d wl l H G ws hs ys) (g : H d = some (.dK kvs)) (r : Rp K H v (numE n)) : HisI K a d wl l (L2.upd H d (.dK (putK kvs (.inl (c : Int)) v))) (putN G c n) ws hs ys := by
  obtain ⟨kvs', g', p, nn⟩ := h.g
  rw [g] at g'
  cases g'
  exact ⟨h.dice.mut h.nd, h.nd, h.nw, h.nl, h.dw, h.dl, h.lw, ⟨_, upd_same, relN_put (relE p) (rp_intA r), nodupN_put nn _ _⟩, by rw [upd_ne h.dw.symm]; exact h.hw, by rw [upd_ne h.dl.symm]; exact h.hl, h.rp.dict (hsL_clean h.ok) g, h.ok⟩
/-- client in waiting and _law_roll(dice, 4) > 0 -/
theorem t_waitRoll {σ : L2.St} {E : XK} {c : Nat} {Q : Bool → Hp → Prop} (s0 : σ[0]? = some (some (.ref a))) (s3 : σ[3]? = some (some (.ref wl))) (s6 : σ[6]? = some (some (.int (c : Int)))) (hd : DiceAt H a) (hw : H wl = some (.lst (natV ws)))
    (k1 : c ∈ ws → ∀ H', Bt a H H' → DiceAt H' a → Q true H') (k0 : ∀ H', Bt a H H' → DiceAt H' a → Q false H') :
    tAnd (tTest (tOp (rIn K false) (tVar 6) (tVar 3))) (tTest (tOp (rI0 fun i j => V.bl (decide (i > j))) (tCall (sp_law_roll K) [] E (tCons (tVar 0) (tCons (tC (.int 4)) tNil))) (tC (.int 0)))) σ H Q := by
  refine n_andJ ((et_test (ev_op (ev_var s6) (ev_var s3) (rv_isL (sq_of hw) rfl (flat_nats ws)))) H (Ex.refl _) _ fun H1 e1 => ?_)
  rw [show inV (.int (c : Int)) (natV ws) = decide (c ∈ ws) from in_nats c ws]
  by_cases m : c ∈ ws
  · rw [decide_eq_true m, if_pos rfl]
    refine n_testJ (n_op (c_call (ea_cons (ev_var s0) (ea_cons ev_c ea_nil)) fun H2 e2 => ⟨a, 4, rfl, (hd.ex e1).ex e2, by decide, by decide, fun r H3 r0 r1 b3 d3 => n_c ⟨_, _, rfl, rfl, _, rfl, ?_⟩⟩))
    have b := (Bt.of (e1.trans e2)).trans b3
    cases z : decide (r > 0) with
    | true => exact k1 m H3 b d3
    | false => exact k0 H3 b d3
  · rw [decide_eq_false m, if_neg (by decide)]
    exact k0 H1 (Bt.of e1) (hd.ex e1)
theorem runH_snoc {hs : List Hs} {h : Hs} {s t : StC} (r : runH st0 hs = some s) (z : stepH s h = some t) : runH st0 (hs ++ [h]) = some t := by
  rw [runH_app, r]
  show runH s [h] = _
  rw [runH_one, z]
theorem hs_rp {H : Hp} {t : Addr} {xs : List V} {h : Hs} (ht : H t = some (.tup xs)) {ds : List D} (e : h.enc = .tup ds) (r : RpAll K H xs ds) : Rp K H (.ref t) h.enc := by
  rw [e]
  exact .tup (st_of ht) r
end
end K0

namespace K0
open PySem PySem.Spec PyProof.Rows L2 Evl
theorem ans_was : AnsOk (.tup [.str "was", .non]) := ⟨rfl, rfl, by decide +kernel, by decide +kernel⟩
theorem ans_is : AnsOk (.tup [.str "is", .int 4]) := ⟨rfl, rfl, by decide +kernel, by decide +kernel⟩
theorem ans_isN : AnsOk (.tup [.str "is", .non]) := ⟨rfl, rfl, by decide +kernel, by decide +kernel⟩
theorem ans_sum : AnsOk (.tup [.str "sum", .int 1]) := ⟨rfl, rfl, by decide +kernel, by decide +kernel⟩
theorem ans_rows : AnsOk (.tup [.str "rows", .tup [.tup [.str "a", .int 1]]]) := ⟨rfl, rfl, by decide +kernel, by decide +kernel⟩
section
variable {K : PySem.W.Frag} {a d wl l : Addr} {i : Nat} {H H' : Hp} {s : StC} {G : List (Nat × Nat)} {ws : List Nat} {hs : List Hs} {ys : List V} {σ : L2.St}
theorem x_c2 {M : D → Prop} {w : Str} {te : TE} {N : D → Prop} (h : EvX K a te σ N) (k : ∀ d, N d → M (.tup [.str w, d])) : EvX K a (tTup (tCons (tC (.str w)) (tCons te tNil))) σ M :=
  x_tup (xa_cons (M := fun d => d = .str w) (x_str rfl) (xa_cons h xa_nil)) fun ds n => by
    obtain ⟨_, _, rfl, rfl, e, _, rfl, hn, rfl⟩ := n
    exact ⟨by simp, k e hn⟩
/-- one of the told answers -/
theorem x_answer {E : XK} (hv : σ[0]? = some (some (.ref a))) :
    EvX K a (tCall (sp_law_pick K) [] E (tCons (tVar 0) (tCons (tLst (tCons (tTup (tCons (tC (.str "was")) (tCons (tC .non) tNil))) (tCons (tTup (tCons (tC (.str "is")) (tCons (tC (.int 4)) tNil)))
      (tCons (tTup (tCons (tC (.str "sum")) (tCons (tC (.int 1)) tNil))) (tCons (tTup (tCons (tC (.str "rows")) (tCons (tTup (tCons (tTup (tCons (tC (.str "a")) (tCons (tC (.int 1)) tNil))) tNil)) tNil))) tNil))))) tNil))) σ AnsOk :=
  x_pick (n := 3) hv (x_c2 (N := fun d => d = .non) (x_non rfl) fun d e => by rw [e]; exact ans_was)
    (xl_cons (x_c2 (N := fun d => d = .int 4) (x_int rfl) fun d e => by rw [e]; exact ans_is)
      (xl_cons (x_c2 (N := fun d => d = .int 1) (x_int rfl) fun d e => by rw [e]; exact ans_sum)
        (xl_cons (x_c2 (N := fun d => d = .tup [.tup [.str "a", .int 1]]) (x_tup (xa_cons (M := fun d => d = .tup [.str "a", .int 1]) (x_c2 (N := fun d => d = .int 1) (x_int rfl) fun d e => by rw [e]) xa_nil) fun ds n => by
          obtain ⟨_, _, rfl, rfl, rfl⟩ := n
          exact ⟨by simp, rfl⟩) fun d e => by rw [e]; exact ans_rows) xl_nil))) (by decide)
end
section
variable {P : Program} {w : World} {K : PySem.W.Frag} {mg : Str → Option Value} {base : Heap} {A : Ad} {D : Fd}
def sp_law_history_drawn (K : PySem.W.Frag) : Sp := fun vs H Q _ => ∃ a, vs = [.ref a] ∧ DiceAt H a ∧ ∀ (l : Addr) (ys : List V) (hs : List Hs) H', H l = none → l ≠ a → Bt a H H' → DiceAt H' a → H' l = some (.lst ys) → RpAll K H' ys (hs.map Hs.enc) → (∀ h ∈ hs, h.Ok) → hs.length ≤ 16 → doesB hs = true → Q (.ref l) H'
theorem len_law_history_drawn {vs : List V} {H : Hp} {Q : VK} {E : XK} (h : sp_law_history_drawn K vs H Q E) : vs.length = 1 := by
  obtain ⟨a, rfl, _⟩ := h
  rfl
theorem ok_law_history_drawn (T : Txt K mg A D) : FnOk P w K mg base CX0 6 A.law_history_drawn D.law_history_drawn ["dice"] (sp_law_history_drawn K) := by
  have G_law_roll : FnOk P w K mg base CX0 1 A.law_roll D.law_roll ["dice", "most"] (sp_law_roll K) := ok_law_roll T
  have G_law_pick : FnOk P w K mg base CX0 2 A.law_pick D.law_pick ["dice", "items"] (sp_law_pick K) := ok_law_pick T
  have G_law_deed_drawn : FnOk P w K mg base CX0 5 A.law_deed_drawn D.law_deed_drawn ["dice"] (sp_law_deed_drawn K) := ok_law_deed_drawn T
  refine T.F_law_history_drawn.ok sc_law_history_drawn (fun vs H Q E h => len_law_history_drawn h) (fun cdv A0 outer s H vs Q E hr h => ?_)
  refine ⟨_, (pss_cons (ps_asg (pe_tup (pa_cons (pe_op op_add pe_int (pe_call G_law_roll (hr.mono (by decide)) rfl T.g_law_roll T.F_law_roll.kp T.b_law_roll .nil pass0 (pa_cons (pv 0) (pa_cons pe_int pa_nil)))) (pa_cons pe_dnewK (pa_cons (pe_lst pa_nil) (pa_cons (pe_lst pa_nil) pa_nil))))) (pg_tup rfl (pgs_cons (pg_name (i := 1) sc_law_history_drawn.nd rfl (Or.inl rfl)) (pgs_cons (pg_name (i := 2) sc_law_history_drawn.nd rfl (Or.inl rfl)) (pgs_cons (pg_name (i := 3) sc_law_history_drawn.nd rfl (Or.inl rfl)) (pgs_cons (pg_name (i := 4) sc_law_history_drawn.nd rfl (Or.inl rfl)) pgs_nil))))))
  (pss_cons (ps_for PassesOwn.never rfl (pi_range1 rfl T.b_range (pa_cons (pe_call G_law_roll (hr.mono (by decide)) rfl T.g_law_roll T.F_law_roll.kp T.b_law_roll .nil pass0 (pa_cons (pv 0) (pa_cons pe_int pa_nil))) pa_nil)) (pg_name (i := 5) sc_law_history_drawn.nd rfl (Or.inl rfl)) (pss_cons (ps_set (i := 6) sc_law_history_drawn.nd rfl (Or.inr rfl) (pe_call G_law_roll (hr.mono (by decide)) rfl T.g_law_roll T.F_law_roll.kp T.b_law_roll .nil pass0 (pa_cons (pv 0) (pa_cons (pv 1) pa_nil))))
  (pss_one (ps_if (PW.pt (pw_and (pt_cmpR op_in_seq (pv 6) (pv 3) (by rfl)) (pw_and1 (pt_cmpR op_gt (pe_call G_law_roll (hr.mono (by decide)) rfl T.g_law_roll T.F_law_roll.kp T.b_law_roll .nil pass0 (pa_cons (pv 0) (pa_cons pe_int pa_nil))) pe_int (nomark _))))) (pss_cons (ps_expr (pe_bm PySem.F.plainAttrs_list PySem.F.slot_list_remove PySem.F.type_list_remove mt_remove (pv 3) (pa_cons (pv 6) pa_nil)))
  (pss_one (ps_expr (pe_bm PySem.F.plainAttrs_list PySem.F.slot_list_append PySem.F.type_list_append mt_append (pv 4) (pa_cons (pe_tup (pa_cons pe_str (pa_cons (pv 6) (pa_cons (pe_dget (hu_of hr) (pv 2) (pv 6) (fun _ _ => rfl)) (pa_cons (pe_call G_law_pick (hr.mono (by decide)) rfl T.g_law_pick T.F_law_pick.kp T.b_law_pick .nil pass0 (pa_cons (pv 0) (pa_cons (pe_lst (pa_cons (pe_tup (pa_cons pe_str (pa_cons pe_non pa_nil))) (pa_cons (pe_tup (pa_cons pe_str (pa_cons pe_int pa_nil))) (pa_cons (pe_tup (pa_cons pe_str (pa_cons pe_int pa_nil))) (pa_cons (pe_tup (pa_cons pe_str (pa_cons (pe_tup (pa_cons (pe_tup (pa_cons pe_str (pa_cons pe_int pa_nil))) pa_nil)) pa_nil))) pa_nil))))) pa_nil))) (pa_cons (pe_call G_law_roll (hr.mono (by decide)) rfl T.g_law_roll T.F_law_roll.kp T.b_law_roll .nil pass0 (pa_cons (pv 0) (pa_cons pe_int pa_nil))) pa_nil)))))) pa_nil))))) (pss_cons (ps_dput (hu_of hr) (pv 2) (pv 6) (pe_op op_add (pe_dget2 (hu_of hr) (pv 2) (pv 6) pe_int ⟨by rfl, by rfl, by rfl, by rfl⟩) pe_int) (by rfl))
  (pss_cons (ps_expr (pe_bm PySem.F.plainAttrs_list PySem.F.slot_list_append PySem.F.type_list_append mt_append (pv 4) (pa_cons (pe_tup (pa_cons pe_str (pa_cons (pv 6) (pa_cons (pe_dget (hu_of hr) (pv 2) (pv 6) (fun _ _ => rfl)) (pa_cons (pe_call G_law_deed_drawn (hr.mono (by decide)) rfl T.g_law_deed_drawn T.F_law_deed_drawn.kp T.b_law_deed_drawn .nil pass0 (pa_cons (pv 0) pa_nil)) pa_nil))))) pa_nil)))
  (pss_one (ps_set (i := 3) sc_law_history_drawn.nd rfl (Or.inl rfl) (pe_op op_cat (pe_lc (own := [("one", 7)]) (g := gName 7)  rfl sc_law_history_drawn.nd (pi_list (pv 3)) (blkOk_by (own := [("one", 7)]) (N := N_law_history_drawn) (sc := defScope s_law_history_drawn) (by decide +kernel)) (fun _ _ _ _ _ => by exact pg_name (i := 7) sc_law_history_drawn.nd rfl (Or.inl rfl)) (fun _ _ _ _ _ => by exact (pts_one (pt_cmpR op_ne (pv 7) (pv 6) (nomark _)))) (fun _ _ _ _ _ => by exact (pv 7))) (pe_lst (pa_cons (pv 6) pa_nil)))))))))))
  (pss_one (ps_ret (pv 4))))), ?_⟩
  obtain ⟨a, rfl, ha, k⟩ := h
  refine q_asgG (n_tup (n_cons (n_op (n_c (c_call (ea_cons (ev_var rfl) (ea_cons ev_c ea_nil)) fun H1 e1 => ⟨a, 5, rfl, ha.ex e1, by decide, by decide, fun m H2 m0 m1 b2 d2 => ⟨1, m, rfl, rfl, n_cons fun d hd => n_cons ⟨sz_of (by simp), fun wl hwl => n_cons ⟨sz_of (by simp), fun l hl => n_nil ⟨sz_of (by simp), fun t ht => ?_⟩⟩⟩⟩⟩)))))
  have eD : Ex H2 (L2.upd H2 d (.dK [])) := Ex.new hd
  have eW : Ex (L2.upd H2 d (.dK [])) (L2.upd (L2.upd H2 d (.dK [])) wl (.lst [])) := Ex.new hwl
  have eL : Ex (L2.upd (L2.upd H2 d (.dK [])) wl (.lst [])) (L2.upd (L2.upd (L2.upd H2 d (.dK [])) wl (.lst [])) l (.lst [])) := Ex.new hl
  have eT : Ex (L2.upd (L2.upd (L2.upd H2 d (.dK [])) wl (.lst [])) l (.lst [])) (L2.upd (L2.upd (L2.upd (L2.upd H2 d (.dK [])) wl (.lst [])) l (.lst [])) t (.tup [.int (1 + m), .ref d, .ref wl, .ref l])) := Ex.new ht
  have fw : H2 wl = none := fresh_back eD hwl
  have fl : H2 l = none := fresh_back (eD.trans eW) hl
  have dw : d ≠ wl := fun z => by rw [← z, upd_same] at hwl; cases hwl
  have dl : d ≠ l := fun z => by
    have : (L2.upd (L2.upd H2 d (.dK [])) wl (.lst [])) d = some (.dK []) := eW _ _ upd_same
    rw [← z] at hl
    rw [hl] at this
    cases this
  have lw : l ≠ wl := fun z => by rw [z, upd_same] at hl; cases hl
  have fd0 := b2.free (d2.ne hd) hd
  have fw0 := b2.free (d2.ne fw) fw
  have fl0 := b2.free (d2.ne fl) fl
  have fd : H d = none := fresh_back e1 fd0
  have fwl : H wl = none := fresh_back e1 fw0
  have fll : H l = none := fresh_back e1 fl0
  have hwe := eT _ _ (eL _ _ (upd_same : (L2.upd (L2.upd H2 d (.dK [])) wl (.lst [])) wl = _))
  refine ⟨t, _, rfl, st_of upd_same, rfl, _, _, rfl, _, _, rfl, _, _, rfl, _, _, rfl, rfl, ?_⟩
  have eAll := ((eD.trans eW).trans eL).trans eT
  have b0 : Bt a H (L2.upd (L2.upd (L2.upd (L2.upd H2 d (.dK [])) wl (.lst [])) l (.lst [])) t (.tup [.int (1 + m), .ref d, .ref wl, .ref l])) := ((Bt.of e1).trans b2).trans (Bt.of eAll)
  have I0 : HisI K a d wl l (L2.upd (L2.upd (L2.upd (L2.upd H2 d (.dK [])) wl (.lst [])) l (.lst [])) t (.tup [.int (1 + m), .ref d, .ref wl, .ref l])) [] [] [] [] :=
    ⟨d2.ex eAll, d2.ne hd, d2.ne fw, d2.ne fl, dw, dl, lw, ⟨[], eT _ _ (eL _ _ (eW _ _ upd_same)), .nil, List.nodup_nil⟩, hwe, eT _ _ upd_same, .nil, fun h hh => by cases hh⟩
  have S0 : HisS 0 st0 [] [] [] := ⟨calls0, Nat.le_refl _, (fun c => ⟨(fun z => by cases z), (fun z => by cases z)⟩), List.nodup_nil, Nat.le_refl _, rfl, rfl, (fun c => Nat.le_refl _), fun c z => by cases z⟩
  generalize (L2.upd (L2.upd (L2.upd (L2.upd H2 d (.dK [])) wl (.lst [])) l (.lst [])) t (.tup [.int (1 + m), .ref d, .ref wl, .ref l])) = H3 at I0 b0
  refine q_forRng (G := fun n H4 => 0 ≤ n ∧ n < 16 ∧ Bt a H H4 ∧ HisI K a d wl l H4 [] [] [] []) (fun Q2 q2 => n_cons (c_call (ea_cons (ev_var rfl) (ea_cons ev_c ea_nil)) fun H4 e4 => ⟨a, 16, rfl, I0.dice.ex e4, by decide, by decide, fun n H5 n0 n1 b5 d5 => n_nil (q2 n H5 ⟨n0, n1, (b0.trans (Bt.of e4)).trans b5, (I0.ex e4).bt b5 d5⟩)⟩)) fun n H4 ⟨n0, n1, b4, I4⟩ => ?_
  clear I0 b0
  refine q_forR1 (n := n) (ea_cons ev_c ea_nil) (by omega) (fun i σ' H' => ∃ wl v5 v6 v7 s G ws hs ys, σ' = [some (.ref a), some (.int (1 + m)), some (.ref d), some (.ref wl), some (.ref l), v5, v6, v7] ∧ H wl = none ∧ Bt a H H' ∧ HisI K a d wl l H' G ws hs ys ∧ HisS i s G ws hs)
    (fun H5 e5 => ⟨wl, none, none, none, st0, [], [], [], [], rfl, fwl, b4.trans (Bt.of e5), I4.ex e5, S0⟩) (fun i σ' H' hi q => ?_) (fun σ' H' q => ?_)
  · obtain ⟨wl, v5, v6, v7, s, G, ws, hs, ys, rfl, fwl, bb, I, S⟩ := q
    refine q_asgX (c_call (ea_cons (ev_var rfl) (ea_cons (ev_var rfl) ea_nil)) fun H5 e5 => ⟨a, 1 + m, rfl, I.dice.ex e5, by omega, by omega, fun r H6 r0 r1 b6 d6 => ?_⟩)
    obtain ⟨c, rfl⟩ : ∃ c : Nat, r = (c : Int) := ⟨r.toNat, by omega⟩
    have c5 : c < 5 := by omega
    have i16 : i < 16 := by omega
    have I6 := (I.ex e5).bt b6 d6
    have bb6 := (bb.trans (Bt.of e5)).trans b6
    have gv : gotN G numE c (.int 0) = .int ((((lookN G c).getD 0 : Nat)) : Int) := by
      unfold gotN
      cases lookN G c <;> rfl
    have cgc := S.cg c
    have bdc := S.bd c
    have yl := I.yl
    have sl := S.len
    refine n_ifS (t_waitRoll (K := K) (c := c) rfl rfl rfl I6.dice I6.hw (fun hm H7 b7 d7 => ?_) fun H7 b7 d7 => ?_)
    · -- an answer
      have I7 := I6.bt b7 d7
      have op : (s c).2 = true := (S.ww c).mp hm
      obtain ⟨x, hx⟩ : ∃ x, lookN G c = some x := by
        cases z : lookN G c with
        | some x => exact ⟨x, rfl⟩
        | none =>
          rw [z] at cgc
          have h1 := S.op c op
          have : (0 : Nat) = (s c).1 := cgc
          omega
      rw [hx] at cgc
      have cgc : x = (s c).1 := cgc
      have hjl : ws.idxOf c < ws.length := List.idxOf_lt_length_of_mem hm
      refine ⟨_, rfl, Or.inl ⟨rfl, _, sq_of I7.hw⟩, _, rfl, wl, ws.map fun c : Nat => (c : Int), (c : Int), ws.idxOf c, rfl, rfl, ?_, ?_, ?_, ?_⟩
      · rw [List.map_map]
        exact I7.hw
      · rw [List.getElem?_map, List.getElem?_eq_getElem hjl]
        simp
      · intro k hk
        rw [List.getElem?_map, List.getElem?_eq_getElem (by omega)]
        intro z
        have z' : ws[k]'(by omega) = c := by
          have h1 : ((ws[k]'(by omega) : Nat) : Int) = (c : Int) := Option.some.inj z
          omega
        have := List.not_of_lt_findIdx (p := (· == c)) hk
        simp [z'] at this
      · rw [erase_map, List.map_map, ← List.erase_eq_eraseIdx_of_idxOf (i := ws.idxOf c) rfl]
        have I8 : HisI K a d wl l (L2.upd H7 wl (.lst ((ws.erase c).map (V.int ∘ fun c : Nat => (c : Int))))) G (ws.erase c) hs ys := I7.wset _
        have bb8 : Bt a H (L2.upd H7 wl (.lst ((ws.erase c).map (V.int ∘ fun c : Nat => (c : Int))))) := (bb6.trans b7).mut fwl
        generalize (L2.upd H7 wl (.lst ((ws.erase c).map (V.int ∘ fun c : Nat => (c : Int))))) = H8 at I8 bb8
        refine n_appendJ (ev_var rfl) I8.hl fun H9 e9 => n_tup (n_cons (n_c (n_cons (n_var rfl (n_cons ?_)))))
        have I9 := I8.ex e9
        refine (ed_itemN (K := K) (enc := numE) (x := x) (c := c) (ev_var rfl) (ev_var rfl) I9.g hx) H9 (Ex.refl _) _ fun v H10 e10 r10 => ?_
        cases r10
        have I10 := I9.ex e10
        refine n_cons (x_answer (K := K) rfl H10 I10.dice _ fun v y H11 b11 d11 my cy ry => n_cons ?_)
        have I11 := I10.bt b11 d11
        refine c_call (ea_cons (ev_var rfl) (ea_cons ev_c ea_nil)) fun H12 e12 => ⟨a, 30, rfl, I11.dice.ex e12, by decide, by decide, fun u H13 u0 u1 b13 d13 => n_nil ⟨sz_of (by simp), fun tt htt => ?_⟩⟩
        obtain ⟨u, rfl⟩ : ∃ k : Nat, u = (k : Int) := ⟨u.toNat, by omega⟩
        have I13 := (I11.ex e12).bt b13 d13
        have r13 := (ry.ex e12).bt cy (I11.dice.ex e12) b13
        have eT : Ex H13 (L2.upd H13 tt (.tup [.str "answer", .int (c : Int), .int (x : Int), v, .int (u : Int)])) := Ex.new htt
        have I14 := I13.ex eT
        have oh : (Hs.ans c x y u).Ok := ⟨c5, by have := S.op c op; omega, by omega, my, by omega⟩
        refine ⟨l, ys, .ref tt, rfl, rfl, I14.hl, sz_lt (by omega), ?_⟩
        have st : stepH s (.ans c x y u) = some (setC s c ((s c).1, false)) := by
          unfold stepH loneStep
          rw [if_neg (by show ¬ false = true; decide), if_pos ⟨op, cgc⟩]
          rfl
        refine ⟨wl, _, _, _, setC s c ((s c).1, false), G, ws.erase c, hs ++ [.ans c x y u], ys ++ [.ref tt], rfl, fwl, ?_, ?_, ?_⟩
        · exact (((((bb8.trans (Bt.of (e9.trans e10))).trans b11).trans (Bt.of e12)).trans b13).trans (Bt.of eT)).mut fll
        · exact I14.app (x := .ans c x y u) (hs_rp upd_same rfl (.cons (.str _) (.cons (.int _) (.cons (.int _) (.cons (r13.ex eT) (.cons (.int _) .nil)))))) oh
        · refine ⟨calls_same S.cg c, by have := S.gl; omega, fun k => ?_, S.wn.erase c, Nat.le_trans (List.length_erase_le) (by have := S.wlen; omega), by rw [List.length_append, sl]; rfl, runH_snoc S.run st, fun k => ?_, fun k => ?_⟩
          · rw [S.wn.mem_erase_iff, S.ww k]
            unfold setC
            by_cases z : k = c
            · simp [z]
            · simp [z]
          · unfold setC
            split
            · show (s c).1 ≤ i + 1
              omega
            · have := S.bd k
              omega
          · unfold setC
            split
            · intro z
              cases z
            · exact S.op k
    · -- a call
      have I7 := I6.bt b7 d7
      refine q_dputJ (n_op ?_)
      refine (ev_ofJ (gv ▸ ed_get2N (ev_var rfl) (ev_var rfl) ed_int I7.g)) H7 (Ex.refl _) _ fun H8 e8 => n_c ⟨_, _, rfl, rfl, n_var rfl (n_var rfl ?_)⟩
      have I8 := I7.ex e8
      obtain ⟨kvs, g8, p8, n8⟩ := I8.g
      have en : (((lookN G c).getD 0 : Nat) : Int) + 1 = (((s c).1 + 1 : Nat) : Int) := by rw [cgc]; omega
      refine ⟨d, L2.upd H8 d (.dK (putK kvs (.inl (c : Int)) (.int (((s c).1 + 1 : Nat) : Int)))), rfl, .inl ⟨kvs, .inl (c : Int), g8, rfl, by rw [paired_len p8]; have := S.gl; exact sz_lt (by omega), by show _ = L2.upd H8 d (.dK (putK kvs (.inl (c : Int)) (.int ((((lookN G c).getD 0 : Nat) : Int) + 1)))); rw [en]⟩, ?_⟩
      have I9 := I8.gput (c := c) (n := (s c).1 + 1) g8 (.int _)
      have bb9 : Bt a H (L2.upd H8 d (.dK (putK kvs (.inl (c : Int)) (.int (((s c).1 + 1 : Nat) : Int))))) := ((bb6.trans b7).trans (Bt.of e8)).mut fd
      generalize (L2.upd H8 d (.dK (putK kvs (.inl (c : Int)) (.int (((s c).1 + 1 : Nat) : Int))))) = H9 at I9 bb9
      refine q_dropJ (n_appendK (ev_var rfl) I9.hl fun H10 e10 => n_tup (n_cons (n_c (n_cons (n_var rfl (n_cons ?_))))))
      have I10 := I9.ex e10
      refine (ed_itemN (K := K) (enc := numE) (x := (s c).1 + 1) (c := c) (ev_var rfl) (ev_var rfl) I10.g (by rw [lookN_put, if_pos rfl])) H10 (Ex.refl _) _ fun v H11 e11 r11 => ?_
      cases r11
      have I11 := I10.ex e11
      refine n_cons (x_draw (K := K) (M := mDeedF) rfl H11 I11.dice _ fun v dd H12 b12 d12 mD cD rD => n_nil ⟨sz_of (by simp), fun tt htt => ?_⟩)
      obtain ⟨e, rfl, oe, se⟩ := mD
      have I12 := I11.bt b12 d12
      have eT : Ex H12 (L2.upd H12 tt (.tup [.str "call", .int (c : Int), .int (((s c).1 + 1 : Nat) : Int), v])) := Ex.new htt
      have I13 := I12.ex eT
      have oh : (Hs.call c ((s c).1 + 1) e).Ok := ⟨c5, by omega, by omega, oe, cD, se⟩
      refine ⟨l, ys, .ref tt, rfl, rfl, I13.hl, sz_lt (by omega), ?_⟩
      have I14 := I13.app (x := .call c ((s c).1 + 1) e) (hs_rp upd_same rfl (.cons (.str _) (.cons (.int _) (.cons (.int _) (.cons (rD.ex eT) .nil))))) oh
      have bb14 : Bt a H (L2.upd (L2.upd H12 tt (.tup [.str "call", .int (c : Int), .int (((s c).1 + 1 : Nat) : Int), v])) l (.lst (ys ++ [.ref tt]))) := (((bb9.trans (Bt.of (e10.trans e11))).trans b12).trans (Bt.of eT)).mut fll
      generalize (L2.upd (L2.upd H12 tt (.tup [.str "call", .int (c : Int), .int (((s c).1 + 1 : Nat) : Int), v])) l (.lst (ys ++ [.ref tt]))) = H14 at I14 bb14
      have st : stepH s (.call c ((s c).1 + 1) e) = some (setC s c ((s c).1 + 1, true)) := by
        unfold stepH loneStep
        rw [if_pos (by rfl), if_pos (by rfl)]
        rfl
      refine n_asgJ (n_op ?_)
      refine (edl_listF (K := K) (a := wl) (ys := ws) (f := fun c : Nat => .int (c : Int)) (Pk := fun k => decide (k ≠ c)) (G := numE) (ev_var rfl) (sq_of I14.hw) (by have := S.wlen; omega) (fun _ => rfl) (fun y H' hy e' => et_is (et_test (ev_op (ev_var rfl) (ev_var rfl) (rv_ne rfl))) ?_) (fun y H' hy _ e' => ed_ev (ev_var rfl) (.int _))) H14 (Ex.refl _) _ fun p xs H15 hp e15 h15 r15 => ?_
      · by_cases z : y = c
        · subst z
          simp
        · rw [decide_eq_true z, decide_eq_false (fun w => z (by have := V.int.inj w; omega))]
          rfl
      have ex := rp_nats r15
      subst ex
      refine ⟨_, rfl, sz_of (by simp), fun q hq => ⟨p, q, _, _, rfl, rfl, by rw [upd_ne (ne_of_none h15 hq)]; exact h15, upd_same, sz_of ?_, fun p2 hp2 => ?_⟩⟩
      · rw [List.length_map]
        have := List.length_filter_le (fun k => decide (k ≠ c)) ws
        have := S.wlen
        show _ + 1 ≤ 100000
        omega
      have eq' : Ex H15 (L2.upd H15 q (.lst [.int (c : Int)])) := Ex.new hq
      have e2 : Ex (L2.upd H15 q (.lst [.int (c : Int)])) (L2.upd (L2.upd H15 q (.lst [.int (c : Int)])) p2 (.lst ((ws.filter fun k => decide (k ≠ c)).map (fun c : Nat => V.int (c : Int)) ++ [.int (c : Int)]))) := Ex.new hp2
      have fp2 : H14 p2 = none := fresh_back (e15.trans eq') hp2
      have ew : (ws.filter fun k => decide (k ≠ c)).map (fun c : Nat => V.int (c : Int)) ++ [.int (c : Int)] = natV ((ws.filter fun k => decide (k ≠ c)) ++ [c]) := by
        unfold natV
        rw [List.map_append]
        rfl
      refine ⟨p2, _, _, _, setC s c ((s c).1 + 1, true), putN G c ((s c).1 + 1), (ws.filter fun k => decide (k ≠ c)) ++ [c], hs ++ [.call c ((s c).1 + 1) e], ys ++ [.ref tt], rfl, bb14.free (I14.dice.ne fp2) fp2, bb14.trans (Bt.of ((e15.trans eq').trans e2)), I14.wnew ((e15.trans eq').trans e2) fp2 (by rw [upd_same, ew]), ?_⟩
      refine ⟨calls_put S.cg c _ true, by have := putN_len1 G c ((s c).1 + 1); have := S.gl; omega, fun k => ?_, ?_, ?_, by rw [List.length_append, sl]; rfl, runH_snoc S.run st, fun k => ?_, fun k => ?_⟩
      · unfold setC
        by_cases z : k = c
        · simp [z]
        · simp [z, S.ww k]
      · rw [List.nodup_append]
        refine ⟨List.Nodup.sublist List.filter_sublist S.wn, by simp, fun x hx y hy => ?_⟩
        rw [List.mem_singleton.mp hy]
        have := (List.mem_filter.mp hx).2
        simpa using this
      · rw [List.length_append]
        have := List.length_filter_le (fun k => decide (k ≠ c)) ws
        have := S.wlen
        show _ + 1 ≤ i + 1
        omega
      · unfold setC
        split
        · show (s c).1 + 1 ≤ i + 1
          omega
        · have := S.bd k
          omega
      · unfold setC
        split
        · intro _
          show 1 ≤ (s c).1 + 1
          omega
        · exact S.op k
  · obtain ⟨wl, v5, v6, v7, s, G, ws, hs, ys, rfl, fwl, bb, I, S⟩ := q
    refine s_ret (ev_var rfl) fun H9 e9 => k l ys hs H9 fll I.nl (bb.trans (Bt.of e9)) (I.dice.ex e9) (e9 _ _ I.hl) (I.rp.ex e9) I.ok (by rw [S.len]; omega) ?_
    unfold doesB
    rw [S.run]
    rfl
end
end K0

namespace K0
open PySem PySem.Spec PyProof.Rows L2 Evl
/-! ### slices of lists and tuples of data -/
theorem rp_dt {K : PySem.W.Frag} {G : Hp} {xs : List V} {ds : List D} (h : RpAll K G xs ds) (i j : Nat) : RpAll K G ((xs.drop i).take j) ((ds.drop i).take j) := by
  have hd : ∀ (i : Nat) {xs : List V} {ds : List D}, RpAll K G xs ds → RpAll K G (xs.drop i) (ds.drop i) := by
    intro i
    induction i with
    | zero => exact fun h => h
    | succ i ih =>
      intro xs ds h
      cases h with
      | nil => exact .nil
      | cons _ h2 => exact ih h2
  have ht : ∀ (j : Nat) {xs : List V} {ds : List D}, RpAll K G xs ds → RpAll K G (xs.take j) (ds.take j) := by
    intro j
    induction j with
    | zero => exact fun _ => .nil
    | succ j ih =>
      intro xs ds h
      cases h with
      | nil => exact .nil
      | cons h1 h2 => exact .cons h1 (ih h2)
  exact ht j (hd i h)
theorem rp_rev {K : PySem.W.Frag} {G : Hp} : ∀ {xs : List V} {ds : List D}, RpAll K G xs ds → RpAll K G xs.reverse ds.reverse
  | _, _, .nil => .nil
  | _, _, .cons h1 h2 => by
    rw [List.reverse_cons, List.reverse_cons]
    exact (rp_rev h2).app (.cons h1 .nil)
def cutD (ds : List D) (lo hi : Option Int) : List D := (ds.drop (HT.sIx ds.length 0 lo)).take (HT.sIx ds.length ds.length hi - HT.sIx ds.length 0 lo)
theorem rp_cut {K : PySem.W.Frag} {G : Hp} {xs : List V} {ds : List D} (h : RpAll K G xs ds) (lo hi : Option Int) : RpAll K G (cutV xs lo hi) (cutD ds lo hi) := by
  unfold cutV cutD
  rw [h.len]
  exact rp_dt h _ _
theorem cutD_to (ds : List D) (k : Nat) : cutD ds none (some (k : Int)) = ds.take k := by
  unfold cutD
  rw [HT.sIx_nat, HT.sIx_none, List.drop_zero, Nat.sub_zero]
  by_cases h : k ≤ ds.length
  · rw [Nat.min_eq_left h]
  · rw [Nat.min_eq_right (by omega), List.take_length, List.take_of_length_le (by omega)]
theorem cutD_from (ds : List D) (k : Nat) : cutD ds (some (k : Int)) none = ds.drop k := by
  unfold cutD
  rw [HT.sIx_nat, HT.sIx_none]
  by_cases h : k ≤ ds.length
  · rw [Nat.min_eq_left h, List.take_of_length_le (by rw [List.length_drop]; exact Nat.le_refl _)]
  · rw [Nat.min_eq_right (by omega), Nat.sub_self, List.take_zero, List.drop_eq_nil_of_le (by omega)]
theorem cutD_mid (ds : List D) (j k : Nat) (h1 : j ≤ ds.length) (h2 : k ≤ ds.length) : cutD ds (some (j : Int)) (some (k : Int)) = (ds.drop j).take (k - j) := by
  unfold cutD
  rw [HT.sIx_nat, HT.sIx_nat, Nat.min_eq_left h1, Nat.min_eq_left h2]
section
variable {K : PySem.W.Frag} {σ : L2.St} {H H' : Hp} {te ta tb : TE} {a : Addr} {ds es : List D} {M N : D → Prop}
theorem ed_slT {tl th : TO} {lo hi : Option Int} (h : EvD K te σ H (.tup ds)) (h1 : ∀ H1, Ex H H1 → EvO tl σ H1 lo) (h2 : ∀ H1, Ex H H1 → EvO th σ H1 hi) : EvD K (tSl (rSlA K) te tl th) σ H (.tup (cutD ds lo hi)) := fun H1 e Q q =>
  h H1 e _ fun v H2 e2 hv => h1 H2 (e.trans e2) H2 (Ex.refl _) _ fun H3 e3 => h2 H3 ((e.trans e2).trans e3) H3 (Ex.refl _) _ fun H4 e4 => by
    obtain ⟨p, xs, rfl, hq, hx⟩ := (hv.ex (e3.trans e4)).tupI
    refine ⟨p, xs, rfl, hq, fun z => ?_, fun _ b hb => ?_⟩
    · have eq1 : cutD ds lo hi = ds := by
        unfold cutD
        rw [← hx.len, z.1, z.2, List.drop_zero, Nat.sub_zero, hx.len, List.take_length]
      rw [eq1] at q
      exact q _ H4 ((e2.trans e3).trans e4) (.tup hq hx)
    · exact q _ _ (((e2.trans e3).trans e4).trans (Ex.new hb)) (.tup (st_of upd_same) ((rp_cut hx lo hi).ex (Ex.new hb)))
end
end K0

namespace K0
open PySem PySem.Spec PyProof.Rows L2 Evl
section
variable {K : PySem.W.Frag} {σ : L2.St} {H H' : Hp} {te ta tb : TE} {a : Addr} {ds es : List D} {M N : D → Prop}
theorem edl_sl {p : Addr} {xs : List V} {tl th : TO} {lo hi : Option Int} (h : Ev te σ H (.ref p)) (hp : H p = some (.lst xs)) (r : RpAll K H xs ds) (h1 : EvO tl σ H lo) (h2 : EvO th σ H hi) : EvDL K (tSl (rSlL K) te tl th) σ H (cutD ds lo hi) := fun H1 e Q q =>
  h H1 e _ fun H2 e2 => h1 H2 (e.trans e2) _ fun H3 e3 => h2 H3 ((e.trans e2).trans e3) _ fun H4 e4 => ⟨p, xs, rfl, sq_of ((((e.trans e2).trans e3).trans e4) _ _ hp), fun q' hq => q q' _ _ (fresh_back ((e2.trans e3).trans e4) hq) (((e2.trans e3).trans e4).trans (Ex.new hq)) upd_same ((rp_cut r lo hi).ex ((((e.trans e2).trans e3).trans e4).trans (Ex.new hq)))⟩
theorem edl_cat (h1 : EvDL K ta σ H ds) (h2 : EvDL K tb σ H es) (l : ds.length + es.length ≤ 100000) : EvDL K (tOp rCat ta tb) σ H (ds ++ es) := fun H1 e Q q =>
  h1 H1 e _ fun p xs H2 hp e2 h3 r3 => h2 H2 (e.trans e2) _ fun p' ys H3 hp' e3 h4 r4 => ⟨p, p', xs, ys, rfl, rfl, e3 _ _ h3, h4, by rw [r3.len, r4.len]; exact sz_of l, fun q' hq => q q' _ _ (fresh_back (e2.trans e3) hq) ((e2.trans e3).trans (Ex.new hq)) upd_same (((r3.ex e3).app r4).ex (Ex.new hq))⟩
theorem edl_one {d : D} (h : EvD K te σ H d) : EvDL K (tLst (tCons te tNil)) σ H [d] := fun H1 e Q q =>
  h H1 e _ fun v H2 e2 r2 => ⟨sz_of (by simp), fun p hp => q p [v] _ (fresh_back e2 hp) (e2.trans (Ex.new hp)) upd_same ((RpAll.cons r2 .nil).ex (Ex.new hp))⟩
theorem edl_rev (h : EvDL K te σ H ds) : EvDL K (tRevL K te) σ H ds.reverse := fun H1 e Q q =>
  h H1 e _ fun p xs H2 hp e2 h2 r2 => ⟨p, xs, rfl, sq_of h2, fun q' hq => q q' _ _ (fresh_back e2 hq) (e2.trans (Ex.new hq)) upd_same ((rp_rev r2).ex (Ex.new hq))⟩
theorem ed_ixL {p : Addr} {xs : List V} {i : Nat} {d : D} (h : Ev ta σ H (.ref p)) (hi : Ev tb σ H (.int (i : Int))) (hp : H p = some (.lst xs)) (r : RpAll K H xs ds) (hd : ds[i]? = some d) : EvD K (tOp (rIxL K) ta tb) σ H d := fun H1 e Q q => by
  have hl : i < xs.length := by rw [r.len]; exact (List.getElem?_eq_some_iff.mp hd).1
  obtain ⟨d', hd', hr⟩ := RpAll.get _ _ _ _ r (List.getElem?_eq_getElem hl)
  rw [hd] at hd'
  cases hd'
  refine h H1 e _ fun H2 e2 => hi H2 (e.trans e2) _ fun H3 e3 => ⟨p, xs, (i : Int), xs[i], rfl, rfl, sq_of (((e.trans e2).trans e3) _ _ hp), ?_, q _ H3 (e2.trans e3) (hr.ex ((e.trans e2).trans e3))⟩
  unfold atI
  rw [ixN_nat hl]
  exact List.getElem?_eq_getElem hl
/-! ### what draws, from a heap on -/
def EvY (K : PySem.W.Frag) (a : Addr) (te : TE) (σ : L2.St) (H : Hp) (M : D → Prop) : Prop := ∀ H1, Bt a H H1 → DiceAt H1 a → ∀ Q : VK, (∀ v d H2, Bt a H1 H2 → DiceAt H2 a → M d → d.clean = true → Rp K H2 v d → Q v H2) → te σ H1 Q
theorem y_d {d : D} (h : ∀ H1, Bt a H H1 → DiceAt H1 a → EvD K te σ H1 d) (c : d.clean = true) (m : M d) : EvY K a te σ H M := fun H1 b1 d1 Q q => h H1 b1 d1 H1 (Ex.refl _) Q fun v H2 e2 r2 => q v d H2 (Bt.of e2) (d1.ex e2) m c r2
theorem y_x (h : EvX K a te σ M) : EvY K a te σ H M := fun H1 _ d1 Q q => h H1 d1 Q q
theorem y_catT (h1 : EvY K a ta σ H M) (h2 : EvY K a tb σ H N) {R : D → Prop} (t1 : ∀ d, M d → d.isTup = true) (t2 : ∀ d, N d → d.isTup = true) (l1 : ∀ d, M d → d.kids.length ≤ 100) (l2 : ∀ d, N d → d.kids.length ≤ 100) (k : ∀ d e, M d → N e → R (.tup (d.kids ++ e.kids))) : EvY K a (tOp (rCatA K) ta tb) σ H R := fun H1 b1 d1 Q q =>
  h1 H1 b1 d1 _ fun v d H2 b2 d2 m c r => h2 H2 (b1.trans b2) d2 _ fun w e H3 b3 d3 n c' r' => by
    cases d with
    | tup ds =>
      cases e with
      | tup es =>
        have l1' : ds.length ≤ 100 := l1 _ m
        have l2' : es.length ≤ 100 := l2 _ n
        obtain ⟨p, xs, rfl, sp, rp⟩ := (r.bt c d2 b3).tupI
        obtain ⟨p', ys, rfl, sp', rp'⟩ := r'.tupI
        have cl : (D.tup (ds ++ es)).clean = true := by
          show D.cleanL (ds ++ es) = true
          rw [cleanL_all, List.all_append, ← cleanL_all, ← cleanL_all, show D.cleanL ds = true from c, show D.cleanL es = true from c']
          rfl
        refine ⟨p, p', xs, ys, rfl, rfl, sp, sp', by rw [rp.len, rp'.len]; exact sz_of (by omega), fun z => ?_, fun _ z => ?_, fun _ _ x hx => ?_⟩
        · subst z
          have k' := k _ _ m n
          cases rp
          exact q _ _ H3 (b2.trans b3) d3 k' cl (.tup sp' rp')
        · subst z
          have k' := k _ _ m n
          cases rp'
          exact q _ _ H3 (b2.trans b3) d3 k' cl (by
            show Rp K H3 (.ref p) (.tup (ds ++ []))
            rw [List.append_nil]
            exact .tup sp rp)
        · exact q _ _ _ ((b2.trans b3).trans (Bt.of (Ex.new hx))) (d3.ex (Ex.new hx)) (k _ _ m n) cl (.tup (st_of upd_same) ((rp.app rp').ex (Ex.new hx)))
      | _ => exact absurd (t2 _ n) (by simp [D.isTup])
    | _ => exact absurd (t1 _ m) (by simp [D.isTup])
theorem ev_minN {i j : Nat} (ha : Ev ta σ H (.int (i : Int))) (hb : Ev tb σ H (.int (j : Int))) : Ev (tCB (fun xs H Q => ∃ i j, xs = [V.int i, V.int j] ∧ Q (.int (if j < i then j else i)) H) (tCons ta (tCons tb tNil))) σ H (.int ((min i j : Nat) : Int)) :=
  ev_is (ev_cb (ea_cons ha (ea_cons hb ea_nil)) rc_min2) (congrArg V.int (by split <;> omega))
theorem ev_maxN {i j : Nat} (ha : Ev ta σ H (.int (i : Int))) (hb : Ev tb σ H (.int (j : Int))) : Ev (tCB (fun xs H Q => ∃ i j, xs = [V.int i, V.int j] ∧ Q (.int (if j > i then j else i)) H) (tCons ta (tCons tb tNil))) σ H (.int ((max i j : Nat) : Int)) :=
  ev_is (ev_cb (ea_cons ha (ea_cons hb ea_nil)) rc_max2) (congrArg V.int (by split <;> omega))
end
/-! ### rows bent -/
def Hs.setN (m : Nat) : Hs → Hs
  | .call c _ e => .call c m e | .ans c _ x l => .ans c m x l
def Hs.setC (m : Nat) : Hs → Hs
  | .call _ n e => .call m n e | .ans _ n x l => .ans m n x l
theorem setN_ok {h : Hs} (o : h.Ok) {m : Nat} (h1 : 1 ≤ m) (h2 : m ≤ 1000) : (h.setN m).Ok := by
  cases h with
  | call c n e => exact ⟨o.1, h1, h2, o.2.2.2⟩
  | ans c n x l => exact ⟨o.1, h1, h2, o.2.2.2⟩
theorem setC_ok {h : Hs} (o : h.Ok) {m : Nat} (h1 : m < 5) : (h.setC m).Ok := by
  cases h with
  | call c n e => exact ⟨h1, o.2⟩
  | ans c n x l => exact ⟨h1, o.2⟩
theorem setN_enc (h : Hs) (m : Nat) : (h.setN m).enc = .tup (h.enc.kids.take 2 ++ [.int (m : Int)] ++ h.enc.kids.drop 3) := by cases h <;> rfl
theorem setC_enc (h : Hs) (m : Nat) : (h.setC m).enc = .tup (h.enc.kids.take 1 ++ [.int (m : Int)] ++ h.enc.kids.drop 2) := by cases h <;> rfl
theorem enc_kids (h : Hs) : h.enc = .tup h.enc.kids ∧ h.enc.kids.length ≤ 5 := by cases h <;> exact ⟨rfl, by simp [Hs.enc, D.kids]⟩
def mHs (d : D) : Prop := ∃ h : Hs, d = h.enc ∧ h.Ok
end K0

namespace K0
open PySem PySem.Spec PyProof.Rows L2 Evl
section
variable {K : PySem.W.Frag} {σ : L2.St} {H H' : Hp} {te ta tb : TE} {tr : TA} {a : Addr} {ds es : List D} {M N : D → Prop}
theorem q_par3J {i j l : Nat} {Dn : Ends} {tz : TS} (h : tr σ H fun vs H1 => ∃ u v w, vs = [u, v, w] ∧ tz Dn (((σ.set i (some u)).set j (some v)).set l (some w)) H1) : tSeq (tPar3 i j l tr) tz Dn σ H := h
theorem x_callG {E : XK} (hv : σ[0]? = some (some (.ref a))) : EvX K a (tTup (tCons (tC (.str "call")) (tCons (tCall (sp_law_roll K) [] E (tCons (tVar 0) (tCons (tC (.int 5)) tNil)))
    (tCons (tOp (rI0 fun i j => V.int (i + j)) (tC (.int 1)) (tCall (sp_law_roll K) [] E (tCons (tVar 0) (tCons (tC (.int 3)) tNil)))) (tCons (tTup (tCons (tC (.str "get")) (tCons (tC (.str "a")) tNil))) tNil))))) σ mHs :=
  x_tup (xa_cons (M := fun d => d = .str "call") (x_str rfl) (xa_cons (M := fun d => ∃ k : Nat, d = .int (k : Int) ∧ k < 5) (x_roll hv (by decide) fun r r0 r1 => ⟨r.toNat, by rw [Int.toNat_of_nonneg r0], by omega⟩)
    (xa_cons (M := fun d => ∃ k : Nat, d = .int (k : Int) ∧ 1 ≤ k ∧ k ≤ 3) (x_rollOp (g := fun i j => i + j) hv (by decide) fun r r0 r1 => ⟨(1 + r).toNat, by rw [Int.toNat_of_nonneg (by omega)], by omega, by omega⟩)
      (xa_cons (M := fun d => d = (Deed.one (.get "a")).enc) (x_tup (xa_cons (M := fun d => d = .str "get") (x_str rfl) (xa_cons (M := fun d => d = .str "a") (x_str rfl) xa_nil)) fun ds n => by
        obtain ⟨_, _, rfl, rfl, _, _, rfl, rfl, rfl⟩ := n
        exact ⟨by simp, rfl⟩) xa_nil)))) fun ds n => by
    obtain ⟨_, _, rfl, rfl, _, _, rfl, ⟨c, rfl, hc⟩, _, _, rfl, ⟨m, rfl, m1, m2⟩, _, _, rfl, rfl, rfl⟩ := n
    exact ⟨by simp, .call c m (.one (.get "a")), rfl, hc, m1, by omega, by decide +kernel, by decide +kernel, by decide +kernel⟩
theorem x_ansG : EvX K a (tTup (tCons (tC (.str "answer")) (tCons (tC (.int 0)) (tCons (tC (.int 1)) (tCons (tTup (tCons (tC (.str "is")) (tCons (tC .non) tNil))) (tCons (tC (.int 0)) tNil)))))) σ mHs :=
  x_tup (xa_cons (M := fun d => d = .str "answer") (x_str rfl) (xa_cons (M := fun d => d = .int 0) (x_int rfl) (xa_cons (M := fun d => d = .int 1) (x_int rfl) (xa_cons (M := fun d => d = .tup [.str "is", .non]) (x_c2 (N := fun d => d = .non) (x_non rfl) fun d e => by rw [e])
    (xa_cons (M := fun d => d = .int 0) (x_int rfl) xa_nil))))) fun ds n => by
    obtain ⟨_, _, rfl, rfl, _, _, rfl, rfl, _, _, rfl, rfl, _, _, rfl, rfl, _, _, rfl, rfl, rfl⟩ := n
    exact ⟨by simp, .ans 0 1 (.tup [.str "is", .non]) 0, rfl, by decide, by decide, by decide, ans_isN, by decide⟩
theorem mapE_len (hs : List Hs) : (hs.map Hs.enc).length = hs.length := List.length_map ..
/-- found[at][..] + (..,) + found[at][..], in its place -/
theorem s_bend {p : Addr} {xs : List V} {hs : List Hs} {h : Hs} {i : Nat} {Dn : Ends} {tn : TE} {o : Hs → Nat → Hs} {hi lo : Nat} {Mn : Nat → Prop}
    (s2 : σ[2]? = some (some (.ref p))) (s5 : σ[5]? = some (some (.int (i : Int)))) (hd : DiceAt H a) (np : p ≠ a) (hp : H p = some (.lst xs)) (r : RpAll K H xs (hs.map Hs.enc)) (ok : ∀ h ∈ hs, h.Ok) (hh : hs[i]? = some h)
    (hx : EvX K a tn σ fun d => ∃ m : Nat, d = .int (m : Int) ∧ Mn m) (ho : ∀ m, (o h m).enc = .tup (h.enc.kids.take hi ++ [.int (m : Int)] ++ h.enc.kids.drop lo))
    (c : ∀ m v H2, Mn m → Bt a H H2 → DiceAt H2 a → H2 p = some (.lst xs) → RpAll K H2 xs (hs.map Hs.enc) → Rp K H2 v (o h m).enc → Dn.nx σ (L2.upd H2 p (.lst (xs.set i v)))) :
    tAsg (tOp (rCatA K) (tOp (rCatA K) (tSl (rSlA K) (tOp (rIxL K) (tVar 2) (tVar 5)) tNoPart (tPart (tC (.int (hi : Int))))) (tTup (tCons tn tNil))) (tSl (rSlA K) (tOp (rIxL K) (tVar 2) (tVar 5)) (tPart (tC (.int (lo : Int)))) tNoPart)) (gSub (tVar 2) (tVar 5) rSetL) Dn σ H := by
  have hm : h ∈ hs := List.mem_of_getElem? hh
  have oh := ok h hm
  obtain ⟨ek, lk⟩ := enc_kids h
  have cl := hs_clean oh
  have ck : D.cleanL h.enc.kids = true := by
    rw [ek] at cl
    exact cl
  have item : ∀ H1, Bt a H H1 → EvD K (tOp (rIxL K) (tVar 2) (tVar 5)) σ H1 (.tup h.enc.kids) := fun H1 b1 => by
    rw [← ek]
    exact ed_ixL (ev_var s2) (ev_var s5) (b1.at np hp) (r.exT (hsL_clean ok) (b1.exT hd)) (by rw [List.getElem?_map, hh]; rfl)
  have clT : ∀ n, D.cleanL (h.enc.kids.take n) = true := fun n => by
    rw [cleanL_all] at ck ⊢
    exact List.all_eq_true.mpr fun x hx => List.all_eq_true.mp ck x (List.mem_of_mem_take hx)
  have clD : ∀ n, D.cleanL (h.enc.kids.drop n) = true := fun n => by
    rw [cleanL_all] at ck ⊢
    exact List.all_eq_true.mpr fun x hx => List.all_eq_true.mp ck x (List.mem_of_mem_drop hx)
  have y1 : EvY K a (tSl (rSlA K) (tOp (rIxL K) (tVar 2) (tVar 5)) tNoPart (tPart (tC (.int (hi : Int))))) σ H fun d => d = .tup (h.enc.kids.take hi) :=
    y_d (d := .tup (h.enc.kids.take hi)) (fun H1 b1 d1 => by
      have := ed_slT (item H1 b1) (fun _ _ => eo_none) (fun _ _ => eo_some (ev_c (v := .int (hi : Int))))
      rwa [cutD_to] at this) (clT hi) rfl
  have y3 : EvY K a (tSl (rSlA K) (tOp (rIxL K) (tVar 2) (tVar 5)) (tPart (tC (.int (lo : Int)))) tNoPart) σ H fun d => d = .tup (h.enc.kids.drop lo) :=
    y_d (d := .tup (h.enc.kids.drop lo)) (fun H1 b1 d1 => by
      have := ed_slT (item H1 b1) (fun _ _ => eo_some (ev_c (v := .int (lo : Int)))) (fun _ _ => eo_none)
      rwa [cutD_from] at this) (clD lo) rfl
  have y2 : EvY K a (tTup (tCons tn tNil)) σ H fun d => ∃ m : Nat, d = .tup [.int (m : Int)] ∧ Mn m := y_x (x_tup (xa_cons hx xa_nil) fun ds n => by
    obtain ⟨_, _, rfl, ⟨m, rfl, hm⟩, rfl⟩ := n
    exact ⟨by simp, m, rfl, hm⟩)
  have y12 := y_catT (R := fun d => ∃ m : Nat, d = .tup (h.enc.kids.take hi ++ [.int (m : Int)]) ∧ Mn m) y1 y2 (fun d e => by rw [e]; rfl) (fun d ⟨m, e, _⟩ => by rw [e]; rfl) (fun d e => by rw [e]; show (h.enc.kids.take hi).length ≤ 100; rw [List.length_take]; omega) (fun d ⟨m, e, _⟩ => by rw [e]; simp [D.kids])
    (fun d e hd ⟨m, he, hmn⟩ => ⟨m, by rw [hd, he]; rfl, hmn⟩)
  have y := y_catT (R := fun d => ∃ m : Nat, d = (o h m).enc ∧ Mn m) y12 y3 (fun d ⟨m, e, _⟩ => by rw [e]; rfl) (fun d e => by rw [e]; rfl) (fun d ⟨m, e, _⟩ => by rw [e]; show (h.enc.kids.take hi ++ [D.int (m : Int)]).length ≤ 100; rw [List.length_append, List.length_take]; simp; omega) (fun d e => by rw [e]; show (h.enc.kids.drop lo).length ≤ 100; rw [List.length_drop]; omega)
    (fun d e ⟨m, hd, hmn⟩ he => ⟨m, by rw [hd, he, ho]; rfl, hmn⟩)
  refine y H Bt.refl hd _ fun v d H2 b2 d2 ⟨m, ed, hmn⟩ cd rd => ?_
  have hp2 := b2.at np hp
  subst ed
  have hl : i < xs.length := by rw [r.len, mapE_len]; exact (List.getElem?_eq_some_iff.mp hh).1
  exact ⟨_, s2, _, s5, p, xs, (i : Int), i, rfl, rfl, hp2, ixN_nat hl, c m v H2 hmn b2 d2 hp2 (r.exT (hsL_clean ok) (b2.exT hd)) rd⟩
end
section
variable {P : Program} {w : World} {K : PySem.W.Frag} {mg : Str → Option Value} {base : Heap} {A : Ad} {D : Fd}
def sp_law_spoilt (K : PySem.W.Frag) : Sp := fun vs H Q _ => ∃ (a L : Addr) (xs : List V) (hs : List Hs), vs = [.ref a, .ref L] ∧ DiceAt H a ∧ L ≠ a ∧ H L = some (.lst xs) ∧ RpAll K H xs (hs.map Hs.enc) ∧ (∀ h ∈ hs, h.Ok) ∧ hs.length ≤ 16 ∧
  ∀ (p : Addr) (ys : List V) (gs : List Hs) H', H p = none → p ≠ a → Bt a H H' → DiceAt H' a → H' p = some (.lst ys) → RpAll K H' ys (gs.map Hs.enc) → (∀ h ∈ gs, h.Ok) → gs.length ≤ 18 → Q (.ref p) H'
theorem len_law_spoilt {vs : List V} {H : Hp} {Q : VK} {E : XK} (h : sp_law_spoilt K vs H Q E) : vs.length = 2 := by
  obtain ⟨a, L, xs, hs, rfl, _⟩ := h
  rfl
def SpI (K : PySem.W.Frag) (a L : Addr) (H : Hp) (i : Nat) (σ' : L2.St) (H' : Hp) : Prop := ∃ (p : Addr) (v3 v4 v5 v6 v7 : Option V) (xs : List V) (hs : List Hs), σ' = [some (.ref a), some (.ref L), some (.ref p), v3, v4, v5, v6, v7] ∧ H p = none ∧ Bt a H H' ∧ DiceAt H' a ∧ H' p = some (.lst xs) ∧ RpAll K H' xs (hs.map Hs.enc) ∧ (∀ h ∈ hs, h.Ok) ∧ hs.length ≤ 16 + i
theorem ok_law_spoilt (T : Txt K mg A D) : FnOk P w K mg base CX0 3 A.law_spoilt D.law_spoilt ["dice", "history"] (sp_law_spoilt K) := by
  have G_law_roll : FnOk P w K mg base CX0 1 A.law_roll D.law_roll ["dice", "most"] (sp_law_roll K) := ok_law_roll T
  have G_law_pick : FnOk P w K mg base CX0 2 A.law_pick D.law_pick ["dice", "items"] (sp_law_pick K) := ok_law_pick T
  refine T.F_law_spoilt.ok sc_law_spoilt (fun vs H Q E h => len_law_spoilt h) (fun cdv A0 outer s H vs Q E hr h => ?_)
  refine ⟨_, (pss_cons (ps_set (i := 2) sc_law_spoilt.nd rfl (Or.inl rfl) (pe_callTy call_list_of (by rfl) T.b_list (by decide +kernel) (pa_cons (pv 1) pa_nil)))
  (pss_cons (ps_for PassesOwn.never rfl (pi_range1 rfl T.b_range (pa_cons (pe_op op_add pe_int (pe_call G_law_roll (hr.mono (by decide)) rfl T.g_law_roll T.F_law_roll.kp T.b_law_roll .nil pass0 (pa_cons (pv 0) (pa_cons pe_int pa_nil)))) pa_nil)) (pg_name (i := 3) sc_law_spoilt.nd rfl (Or.inl rfl)) (pss_cons (ps_par3 (i := 4) (j := 5) (l := 6) (by rfl) sc_law_spoilt.nd rfl rfl rfl (by decide) (by decide) (by decide) rfl rfl rfl (pa_cons (pe_call G_law_roll (hr.mono (by decide)) rfl T.g_law_roll T.F_law_roll.kp T.b_law_roll .nil pass0 (pa_cons (pv 0) (pa_cons pe_int pa_nil))) (pa_cons (pe_call G_law_roll (hr.mono (by decide)) rfl T.g_law_roll T.F_law_roll.kp T.b_law_roll .nil pass0 (pa_cons (pv 0) (pa_cons (pe_op op_add (pe_callB call_len (by rfl) T.b_len (by decide +kernel) (pa_cons (pv 2) pa_nil)) pe_int) pa_nil))) (pa_cons (pe_call G_law_roll (hr.mono (by decide)) rfl T.g_law_roll T.F_law_roll.kp T.b_law_roll .nil pass0 (pa_cons (pv 0) (pa_cons (pe_op op_add (pe_callB call_len (by rfl) T.b_len (by decide +kernel) (pa_cons (pv 2) pa_nil)) pe_int) pa_nil))) pa_nil))) (by rfl))
  (pss_cons (ps_set (i := 7) sc_law_spoilt.nd rfl (Or.inl rfl) (pe_call G_law_pick (hr.mono (by decide)) rfl T.g_law_pick T.F_law_pick.kp T.b_law_pick .nil pass0 (pa_cons (pv 0) (pa_cons (pe_op op_cat (pv 2) (pe_lst (pa_cons (pe_tup (pa_cons pe_str (pa_cons (pe_call G_law_roll (hr.mono (by decide)) rfl T.g_law_roll T.F_law_roll.kp T.b_law_roll .nil pass0 (pa_cons (pv 0) (pa_cons pe_int pa_nil))) (pa_cons (pe_op op_add pe_int (pe_call G_law_roll (hr.mono (by decide)) rfl T.g_law_roll T.F_law_roll.kp T.b_law_roll .nil pass0 (pa_cons (pv 0) (pa_cons pe_int pa_nil)))) (pa_cons (pe_tup (pa_cons pe_str (pa_cons pe_str pa_nil))) pa_nil))))) (pa_cons (pe_tup (pa_cons pe_str (pa_cons pe_int (pa_cons pe_int (pa_cons (pe_tup (pa_cons pe_str (pa_cons pe_non pa_nil))) (pa_cons pe_int pa_nil)))))) pa_nil)))) pa_nil))))
  (pss_one (ps_if (pt_cmpR op_eq (pv 4) pe_int (nomark _)) (pss_one (ps_set (i := 2) sc_law_spoilt.nd rfl (Or.inl rfl) (pe_op op_cat (pe_slice sl_list (pv 2) po_none (po_some (pv 5))) (pe_slice sl_list (pv 2) (po_some (pe_op op_add (pv 5) pe_int)) po_none)))) (pss_one (ps_if (pt_cmpR op_eq (pv 4) pe_int (nomark _)) (pss_one (ps_set (i := 2) sc_law_spoilt.nd rfl (Or.inl rfl) (pe_op op_cat (pe_op op_cat (pe_slice sl_list (pv 2) po_none (po_some (pv 5))) (pe_lst (pa_cons (pv 7) pa_nil))) (pe_slice sl_list (pv 2) (po_some (pv 5)) po_none)))) (pss_one (ps_if (pt_cmpR op_eq (pv 4) pe_int (nomark _)) (pss_one (ps_set (i := 2) sc_law_spoilt.nd rfl (Or.inl rfl) (pe_op op_cat (pe_op op_cat (pe_slice sl_list (pv 2) po_none (po_some (pe_callB (call_min2 rfl) (by rfl) T.b_min (by decide +kernel) (pa_cons (pv 5) (pa_cons (pv 6) pa_nil))))) (pe_revL (pe_slice sl_list (pv 2) (po_some (pe_callB (call_min2 rfl) (by rfl) T.b_min (by decide +kernel) (pa_cons (pv 5) (pa_cons (pv 6) pa_nil)))) (po_some (pe_callB (call_max2 rfl) (by rfl) T.b_max (by decide +kernel) (pa_cons (pv 5) (pa_cons (pv 6) pa_nil))))))) (pe_slice sl_list (pv 2) (po_some (pe_callB (call_max2 rfl) (by rfl) T.b_max (by decide +kernel) (pa_cons (pv 5) (pa_cons (pv 6) pa_nil)))) po_none)))) (pss_one (ps_if (PW.pt (pw_and (pt_cmpR op_lt (pv 5) (pe_callB call_len (by rfl) T.b_len (by decide +kernel) (pa_cons (pv 2) pa_nil)) (nomark _)) (pw_and1 (pt_cmpR op_eq (pv 4) pe_int (nomark _))))) (pss_one (ps_asg (pe_op op_catA (pe_op op_catA (pe_slice sl_tupA (pe_ix ix_list (pv 2) (pv 5) (fun _ _ => rfl)) po_none (po_some pe_int)) (pe_tup (pa_cons (pe_op op_add pe_int (pe_call G_law_roll (hr.mono (by decide)) rfl T.g_law_roll T.F_law_roll.kp T.b_law_roll .nil pass0 (pa_cons (pv 0) (pa_cons pe_int pa_nil)))) pa_nil))) (pe_slice sl_tupA (pe_ix ix_list (pv 2) (pv 5) (fun _ _ => rfl)) (po_some pe_int) po_none)) (pg_sub (pv 2) (pv 5) set_list))) (pss_one (ps_if (pt_cmpR op_lt (pv 5) (pe_callB call_len (by rfl) T.b_len (by decide +kernel) (pa_cons (pv 2) pa_nil)) (nomark _)) (pss_one (ps_asg (pe_op op_catA (pe_op op_catA (pe_slice sl_tupA (pe_ix ix_list (pv 2) (pv 5) (fun _ _ => rfl)) po_none (po_some pe_int)) (pe_tup (pa_cons (pe_call G_law_roll (hr.mono (by decide)) rfl T.g_law_roll T.F_law_roll.kp T.b_law_roll .nil pass0 (pa_cons (pv 0) (pa_cons pe_int pa_nil))) pa_nil))) (pe_slice sl_tupA (pe_ix ix_list (pv 2) (pv 5) (fun _ _ => rfl)) (po_some pe_int) po_none)) (pg_sub (pv 2) (pv 5) set_list))) pss_nil)))))))))))))
  (pss_one (ps_ret (pv 2))))), ?_⟩
  obtain ⟨a, L, xs0, hs0, rfl, ha, nL, hL, r0, ok0, l0, k⟩ := h
  refine q_asgX (n_cb (n_cons (n_var rfl (n_nil ⟨L, xs0, rfl, .inl (sq_of hL), fun p0 hp0 => ?_⟩))))
  have eP : Ex H (L2.upd H p0 (.lst xs0)) := Ex.new hp0
  have b0 : Bt a H (L2.upd H p0 (.lst xs0)) := Bt.of eP
  have d0 := ha.ex eP
  have h0 : (L2.upd H p0 (.lst xs0)) p0 = some (.lst xs0) := upd_same
  have rr0 := r0.ex eP
  generalize (L2.upd H p0 (.lst xs0)) = H1 at b0 d0 h0 rr0
  refine q_forRng (G := fun n H4 => 1 ≤ n ∧ n ≤ 2 ∧ Bt a H1 H4 ∧ DiceAt H4 a) (fun Q2 q2 => n_cons (n_op (n_c (c_call (ea_cons (ev_var rfl) (ea_cons ev_c ea_nil)) fun H4 e4 => ⟨a, 2, rfl, d0.ex e4, by decide, by decide, fun r H5 u0 u1 b5 d5 => ⟨1, r, rfl, rfl, n_nil (q2 (1 + r) H5 ⟨by omega, by omega, (Bt.of e4).trans b5, d5⟩)⟩⟩)))) fun n H4 ⟨n0, n1, b4, d4⟩ => ?_
  refine q_forR1 (n := n) (ea_cons ev_c ea_nil) (by omega) (SpI K a L H)
    (fun H5 e5 => ⟨p0, none, none, none, none, none, xs0, hs0, rfl, hp0, (b0.trans b4).trans (Bt.of e5), d4.ex e5, e5 _ _ (b4.at (ha.ne hp0) h0), (rr0.exT (hsL_clean ok0) (b4.exT d0)).ex e5, ok0, by omega⟩) (fun i σ' H' hi q => ?_) (fun σ' H' q => ?_)
  · obtain ⟨p, v3, v4, v5, v6, v7, xs, hs, rfl, fp, bb, dd, hp, rr, ok, hl⟩ := q
    have np := ha.ne fp
    have i2 : i < 2 := by omega
    have xl : xs.length = hs.length := by rw [rr.len, mapE_len]
    have lenE : ∀ H9, H9 p = some (.lst xs) → Ev (tOp (rI0 fun i j => V.int (i + j)) (tCB (fun xs H Q => ∃ x n, xs = [x] ∧ LenV K x H n ∧ Q (.int n) H) (tCons (tVar 2) tNil)) (tC (.int 1))) [some (.ref a), some (.ref L), some (.ref p), some (.int (i : Int)), v4, v5, v6, v7] H9 (.int ((hs.length : Int) + 1)) := fun H9 h9 =>
      ev_is (ev_op (ev_cb (ea_cons (ev_var rfl) ea_nil) (rc_lenL (sq_of h9))) ev_c rv_I0) (by rw [xl])
    refine q_par3J (n_cons (c_call (ea_cons (ev_var rfl) (ea_cons ev_c ea_nil)) fun H5 e5 => ⟨a, 6, rfl, dd.ex e5, by decide, by decide, fun way H6 w0 w1 b6 d6 => ?_⟩))
    have b56 := (Bt.of e5).trans b6
    have hp6 := b56.at np hp
    refine n_cons (c_call (ea_cons (ev_var rfl) (ea_cons (lenE H6 hp6) ea_nil)) fun H7 e7 => ⟨a, _, rfl, d6.ex e7, by omega, by omega, fun at' H8 a0 a1 b8 d8 => ?_⟩)
    have b58 := (b56.trans (Bt.of e7)).trans b8
    have hp8 := b58.at np hp
    refine n_cons (c_call (ea_cons (ev_var rfl) (ea_cons (lenE H8 hp8) ea_nil)) fun H9 e9 => ⟨a, _, rfl, d8.ex e9, by omega, by omega, fun to H10 t0 t1 b10 d10 => n_nil ⟨_, _, _, rfl, ?_⟩⟩)
    have b510 := (b58.trans (Bt.of e9)).trans b10
    have hp10 := b510.at np hp
    have rr10 := rr.exT (hsL_clean ok) (b510.exT dd)
    have bb10 := bb.trans b510
    obtain ⟨at', rfl⟩ : ∃ z : Nat, at' = (z : Int) := ⟨at'.toNat, by omega⟩
    obtain ⟨to, rfl⟩ : ∃ z : Nat, to = (z : Int) := ⟨to.toNat, by omega⟩
    have hat : at' ≤ hs.length := by omega
    have hto : to ≤ hs.length := by omega
    clear b56 b58 hp6 hp8 lenE
    -- more
    refine q_asgX (d_raw (n_cons (n_var rfl (n_cons (n_op (n_var rfl ?_))))))
    refine (xa_cons (K := K) (M := mHs) (x_callG rfl) (xa_cons (M := mHs) x_ansG xa_nil)) H10 d10 _ fun vs ds H11 b11 d11 mm cc rr' => ?_
    obtain ⟨g1, _, rfl, m1, g2, _, rfl, m2, rfl⟩ := mm
    have vl : vs.length = 2 := rr'.len
    refine ⟨sz_of (by omega), fun q hq => ?_⟩
    have hp11 := b11.at np hp10
    have rr11 := rr10.exT (hsL_clean ok) (b11.exT d10)
    have eq1 : Ex H11 (L2.upd H11 q (.lst vs)) := Ex.new hq
    refine ⟨p, q, xs, vs, rfl, rfl, eq1 _ _ hp11, upd_same, sz_of (by omega), fun q2 hq2 => n_nil ?_⟩
    have eq2 : Ex (L2.upd H11 q (.lst vs)) (L2.upd (L2.upd H11 q (.lst vs)) q2 (.lst (xs ++ vs))) := Ex.new hq2
    have d13 := (d11.ex eq1).ex eq2
    have nq2 : q2 ≠ a := (d11.ex eq1).ne hq2
    have vne : vs ≠ [] := fun z => by rw [z] at vl; cases vl
    have rr13 := (rr11.app rr').ex (eq1.trans eq2)
    have b13 : Bt a H10 (L2.upd (L2.upd H11 q (.lst vs)) q2 (.lst (xs ++ vs))) := b11.trans (Bt.of (eq1.trans eq2))
    refine ⟨a, q2, xs ++ vs, rfl, d13, nq2, sq_of upd_same, by simp [vne], by rw [List.length_append]; omega, fun x H14 hx b14 d14 => ?_⟩
    have hp13 := b13.at np hp10
    generalize (L2.upd (L2.upd H11 q (.lst vs)) q2 (.lst (xs ++ vs))) = H13 at d13 rr13 b13 b14 hp13
    obtain ⟨dm, hdm, rm⟩ := rr13.memI x hx
    have mm : mHs dm := by
      rcases List.mem_append.mp hdm with z | z
      · obtain ⟨h, hh, rfl⟩ := List.mem_map.mp z
        exact ⟨h, rfl, ok h hh⟩
      · rcases List.mem_cons.mp z with rfl | z
        · exact m1
        · rw [List.mem_singleton.mp z]
          exact m2
    obtain ⟨hm, rfl, okm⟩ := mm
    have rm14 := rm.bt (hs_clean okm) d13 b14
    have bb14 := bb10.trans (b13.trans b14)
    have hp14 := b14.at np hp13
    have rr14 := rr10.exT (hsL_clean ok) ((b13.trans b14).exT d10)
    clear hx hdm rm rr13 b13 b14 d13 hp13 rr11 eq1 eq2 hq hq2 nq2 vne b11 d11 hp11 rr' cc m1 m2 bb10 hp10 rr10 b510 bb
    have fin : ∀ (p' : Addr) (ys : List V) (gs : List Hs) (G : Hp), H14 p' = none → Ex H14 G → G p' = some (.lst ys) → RpAll K G ys (gs.map Hs.enc) → (∀ h ∈ gs, h.Ok) → gs.length ≤ 16 + (i + 1) →
        SpI K a L H (i + 1)
          [some (.ref a), some (.ref L), some (.ref p'), some (.int (i : Int)), some (.int way), some (.int (at' : Int)), some (.int (to : Int)), some x] G :=
      fun p' ys gs G f e g r o l => ⟨p', _, _, _, _, _, ys, gs, rfl, bb14.free (d14.ne f) f, bb14.trans (Bt.of e), d14.ex e, g, r, o, l⟩
    have tk : ∀ k, (hs.map Hs.enc).take k = (hs.take k).map Hs.enc := fun k => by rw [List.map_take]
    have dk : ∀ k, (hs.map Hs.enc).drop k = (hs.drop k).map Hs.enc := fun k => by rw [List.map_drop]
    refine s_if (et_test (ev_op (ev_var rfl) ev_c (rv_eq rfl))) (fun _ H15 e15 => ?_) fun _ H15 e15 => ?_
    · -- found[:at] + found[at + 1:]
      refine n_asgJ ((edl_cat (edl_sl (ev_var rfl) (e15 _ _ hp14) (rr14.ex e15) eo_none (eo_some (ev_var rfl))) (edl_sl (ev_var rfl) (e15 _ _ hp14) (rr14.ex e15) (lo := some (((at' + 1 : Nat)) : Int)) (eo_some (ev_op (ev_var rfl) ev_c rv_I0)) eo_none) ?_) H15 (Ex.refl _) _ fun p' ys H16 hp' e16 h16 r16 => ?_)
      · rw [cutD_to, cutD_from, List.length_take, List.length_drop, mapE_len]
        omega
      · rw [cutD_to, cutD_from, tk, dk, ← List.map_append] at r16
        refine fin p' ys _ H16 (fresh_back e15 hp') (e15.trans e16) h16 r16 (fun h hh => ?_) ?_
        · rcases List.mem_append.mp hh with z | z
          · exact ok h (List.mem_of_mem_take z)
          · exact ok h (List.mem_of_mem_drop z)
        · rw [List.length_append, List.length_take, List.length_drop]
          omega
    refine s_if (et_test (ev_op (ev_var rfl) ev_c (rv_eq rfl))) (fun _ H16 e16' => ?_) fun _ H16 e16' => ?_
    · -- found[:at] + [more] + found[at:]
      have e16 := e15.trans e16'
      refine n_asgJ ((edl_cat (edl_cat (edl_sl (ev_var rfl) (e16 _ _ hp14) (rr14.ex e16) eo_none (eo_some (ev_var rfl))) (edl_one (ed_ev (ev_var rfl) (rm14.ex e16))) ?_) (edl_sl (ev_var rfl) (e16 _ _ hp14) (rr14.ex e16) (eo_some (ev_var rfl)) eo_none) ?_) H16 (Ex.refl _) _ fun p' ys H17 hp' e17 h17 r17 => ?_)
      · rw [cutD_to, List.length_take, mapE_len]
        simp
        omega
      · rw [cutD_to, cutD_from, List.length_append, List.length_take, List.length_drop, mapE_len]
        simp
        omega
      · have em : cutD (hs.map Hs.enc) none (some (at' : Int)) ++ [hm.enc] ++ cutD (hs.map Hs.enc) (some (at' : Int)) none = (hs.take at' ++ [hm] ++ hs.drop at').map Hs.enc := by
          rw [cutD_to, cutD_from, tk, dk, List.map_append, List.map_append]
          rfl
        rw [em] at r17
        refine fin p' ys _ H17 (fresh_back e16 hp') (e16.trans e17) h17 r17 (fun h hh => ?_) ?_
        · rcases List.mem_append.mp hh with z | z
          · rcases List.mem_append.mp z with z | z
            · exact ok h (List.mem_of_mem_take z)
            · rw [List.mem_singleton.mp z]
              exact okm
          · exact ok h (List.mem_of_mem_drop z)
        · rw [List.length_append, List.length_append, List.length_take, List.length_drop]
          simp
          omega
    refine s_if (et_test (ev_op (ev_var rfl) ev_c (rv_eq rfl))) (fun _ H17 e17' => ?_) fun _ H17 e17' => ?_
    · -- found[:min] + found[min:max][::-1] + found[max:]
      have e17 := (e15.trans e16').trans e17'
      have hpe := e17 _ _ hp14
      have rre := rr14.ex e17
      have mn : min at' to ≤ (hs.map Hs.enc).length := by rw [mapE_len]; omega
      have mx : max at' to ≤ (hs.map Hs.enc).length := by rw [mapE_len]; omega
      have em : cutD (hs.map Hs.enc) none (some ((min at' to : Nat) : Int)) ++ (cutD (hs.map Hs.enc) (some ((min at' to : Nat) : Int)) (some ((max at' to : Nat) : Int))).reverse ++ cutD (hs.map Hs.enc) (some ((max at' to : Nat) : Int)) none
          = (hs.take (min at' to) ++ ((hs.drop (min at' to)).take (max at' to - min at' to)).reverse ++ hs.drop (max at' to)).map Hs.enc := by
        rw [cutD_to, cutD_from, cutD_mid _ _ _ mn mx]
        simp only [List.map_append, List.map_reverse, List.map_take, List.map_drop]
      have ln : (hs.take (min at' to) ++ ((hs.drop (min at' to)).take (max at' to - min at' to)).reverse ++ hs.drop (max at' to)).length ≤ hs.length := by
        rw [List.length_append, List.length_append, List.length_reverse, List.length_take, List.length_take, List.length_drop, List.length_drop]
        omega
      have l1 : (cutD (hs.map Hs.enc) none (some ((min at' to : Nat) : Int))).length ≤ 100 := by rw [cutD_to, List.length_take, mapE_len]; omega
      have l2 : (cutD (hs.map Hs.enc) (some ((min at' to : Nat) : Int)) (some ((max at' to : Nat) : Int))).reverse.length ≤ 100 := by rw [cutD_mid _ _ _ mn mx, List.length_reverse, List.length_take, List.length_drop, mapE_len]; omega
      have l3 : (cutD (hs.map Hs.enc) (some ((max at' to : Nat) : Int)) none).length ≤ 100 := by rw [cutD_from, List.length_drop, mapE_len]; omega
      refine n_asgJ ((edl_cat (edl_cat (edl_sl (ev_var rfl) hpe rre eo_none (eo_some (ev_minN (ev_var rfl) (ev_var rfl)))) (edl_rev (edl_sl (ev_var rfl) hpe rre (eo_some (ev_minN (ev_var rfl) (ev_var rfl))) (eo_some (ev_maxN (ev_var rfl) (ev_var rfl))))) (by omega)) (edl_sl (ev_var rfl) hpe rre (eo_some (ev_maxN (ev_var rfl) (ev_var rfl))) eo_none) (by rw [List.length_append]; omega)) H17 (Ex.refl _) _ fun p' ys H18 hp' e18 h18 r18 => ?_)
      rw [em] at r18
      refine fin p' ys _ H18 (fresh_back e17 hp') (e17.trans e18) h18 r18 (fun h hh => ?_) (by omega)
      rcases List.mem_append.mp hh with z | z
      · rcases List.mem_append.mp z with z | z
        · exact ok h (List.mem_of_mem_take z)
        · exact ok h (List.mem_of_mem_drop (List.mem_of_mem_take (List.mem_reverse.mp z)))
      · exact ok h (List.mem_of_mem_drop z)
    -- found[at] = ..
    have e17 := (e15.trans e16').trans e17'
    have hpe := e17 _ _ hp14
    have rre := rr14.ex e17
    have bend : ∀ (G : Hp) (h h' : Hs) (v : V) (H2 : Hp), Ex H14 G → hs[at']? = some h → h'.Ok → Bt a G H2 → DiceAt H2 a → H2 p = some (.lst xs) → RpAll K H2 xs (hs.map Hs.enc) → Rp K H2 v h'.enc →
        SpI K a L H (i + 1)
          [some (.ref a), some (.ref L), some (.ref p), some (.int (i : Int)), some (.int way), some (.int (at' : Int)), some (.int (to : Int)), some x] (L2.upd H2 p (.lst (xs.set at' v))) := fun G h h' v H2 eG hh oh' b2 d2 h2 r2 rv => by
      have eX : ExT H2 (L2.upd H2 p (.lst (xs.set at' v))) := ExT.upd h2
      refine ⟨p, _, _, _, _, _, _, hs.set at' h', rfl, fp, ((bb14.trans (Bt.of eG)).trans b2).mut fp, d2.mut np, upd_same, ?_, fun y hy => ?_, by rw [List.length_set]; omega⟩
      · rw [List.map_set]
        exact (r2.exT (hsL_clean ok) eX).setI _ (rv.exT (hs_clean oh') eX)
      · rcases List.mem_or_eq_of_mem_set hy with z | z
        · exact ok y z
        · rw [z]
          exact oh'
    have tlen : ∀ {G : Hp}, G p = some (.lst xs) → EvT (tTest (tOp (rI0 fun i j => V.bl (decide (i < j))) (tVar 5) (tCB (fun xs H Q => ∃ x n, xs = [x] ∧ LenV K x H n ∧ Q (.int n) H) (tCons (tVar 2) tNil)))) [some (.ref a), some (.ref L), some (.ref p), some (.int (i : Int)), some (.int way), some (.int (at' : Int)), some (.int (to : Int)), some x] G (decide (at' < hs.length)) := fun h =>
      et_is (et_test (ev_op (ev_var rfl) (ev_cb (ea_cons (ev_var rfl) ea_nil) (rc_lenL (sq_of h))) rv_I0)) (decide_eq_decide.mpr (by omega))
    refine s_if (et_and (tlen hpe) fun _ => et_test (ev_op (ev_var rfl) ev_c (rv_eq rfl))) (fun hb H18 e18 => ?_) fun _ H18 e18 => ?_
    · have hlt := of_decide_eq_true (Bool.and_eq_true_iff.mp hb).1
      have hh : hs[at']? = some hs[at'] := List.getElem?_eq_getElem hlt
      exact s_bend (K := K) (a := a) (o := fun h m => h.setN m) (hi := 2) (lo := 3) (Mn := fun m => 1 ≤ m ∧ m ≤ 4) rfl rfl ((d14.ex e17).ex e18) np (e18 _ _ hpe) (rre.ex e18) ok hh (x_rollOp (g := fun i j => i + j) rfl (by decide) fun r r0 r1 => ⟨(1 + r).toNat, by rw [Int.toNat_of_nonneg (by omega)], by omega, by omega⟩) (fun m => setN_enc _ m)
        fun m v H2 hm b2 d2 h2 r2 rv => bend H18 _ _ v H2 (e17.trans e18) hh (setN_ok (ok _ (List.mem_of_getElem? hh)) hm.1 (by omega)) b2 d2 h2 r2 rv
    · refine s_when (tlen (e18 _ _ hpe)) (fun hb H19 e19 => ?_) fun _ H19 e19 => ?_
      · have hlt := of_decide_eq_true hb
        have hh : hs[at']? = some hs[at'] := List.getElem?_eq_getElem hlt
        have e89 := e18.trans e19
        exact s_bend (K := K) (a := a) (o := fun h m => h.setC m) (hi := 1) (lo := 2) (Mn := fun m => m < 5) rfl rfl ((d14.ex e17).ex e89) np (e89 _ _ hpe) (rre.ex e89) ok hh (x_roll rfl (by decide) fun r r0 r1 => ⟨r.toNat, by rw [Int.toNat_of_nonneg r0], by omega⟩) (fun m => setC_enc _ m)
          fun m v H2 hm b2 d2 h2 r2 rv => bend H19 _ _ v H2 (e17.trans e89) hh (setC_ok (ok _ (List.mem_of_getElem? hh)) hm) b2 d2 h2 r2 rv
      · have e99 := (e17.trans e18).trans e19
        exact ⟨p, _, _, _, _, _, xs, hs, rfl, fp, bb14.trans (Bt.of e99), d14.ex e99, e99 _ _ hp14, rr14.ex e99, ok, by omega⟩
  · obtain ⟨p, v3, v4, v5, v6, v7, xs, hs, rfl, fp, bb, dd, hp, rr, ok, hl⟩ := q
    refine s_ret (ev_var rfl) fun H9 e9 => k p xs hs H9 fp (ha.ne fp) (bb.trans (Bt.of e9)) (dd.ex e9) (e9 _ _ hp) (rr.ex e9) ok ?_
    have : n.toNat ≤ 2 := by omega
    omega
end
end K0

namespace K0
open PySem PySem.Spec PyProof.Rows L2 Evl
section
variable {K : PySem.W.Frag} {σ : L2.St} {H : Hp} {ta tb te : TE}
theorem et_reprNeJ {b : Bool} (h1 : Ev ta σ H (.bl b)) (h2 : Ev tb σ H (.bl b)) :
    EvT (tTest (tOp rNe (tCB (fun xs H Q => ∃ b, xs = [.bl b] ∧ Q (.str (if b then "True" else "False")) H) (tCons ta tNil)) (tCB (fun xs H Q => ∃ b, xs = [.bl b] ∧ Q (.str (if b then "True" else "False")) H) (tCons tb tNil)))) σ H false :=
  et_is (et_test (ev_op (ev_reprB h1) (ev_reprB h2) (rv_ne rfl))) (by simp)
theorem ev_does {E : XK} {hs : List Hs} (h : EvD K te σ H (.tup (hs.map Hs.enc))) (ok : ∀ h ∈ hs, h.Ok) (l : hs.length ≤ 40) : Ev (tCall (sp_does_fit_clients K) [] E (tCons te tNil)) σ H (.bl (doesB hs)) := fun H1 e Q q =>
  d_raw (n_cons (h H1 e _ fun v H2 e2 r => n_nil ⟨v, hs, rfl, r, ok, l, fun H3 e3 => q H3 (e2.trans e3)⟩))
theorem rv_isnotB {a b : Bool} : RV (fun x y H Q => ∃ a b, x = V.bl a ∧ y = V.bl b ∧ Q (.bl (!decide (a = b))) H) (.bl a) (.bl b) H (.bl (!decide (a = b))) := fun H1 _ Q q => ⟨a, b, rfl, rfl, q H1 (Ex.refl _)⟩
theorem rv_isB {a b : Bool} : RV (fun x y H Q => ∃ a b, x = V.bl a ∧ y = V.bl b ∧ Q (.bl (decide (a = b))) H) (.bl a) (.bl b) H (.bl (decide (a = b))) := fun H1 _ Q q => ⟨a, b, rfl, rfl, q H1 (Ex.refl _)⟩
end
section
variable {P : Program} {w : World} {K : PySem.W.Frag} {mg : Str → Option Value} {base : Heap} {A : Ad} {D : Fd}
def sp_law_right (K : PySem.W.Frag) : Sp := fun vs H Q _ => ∃ a, vs = [.ref a] ∧ DiceAt H a ∧ ∀ H', Bt a H H' → DiceAt H' a → Q (.bl true) H'
theorem len_law_right {vs : List V} {H : Hp} {Q : VK} {E : XK} (h : sp_law_right K vs H Q E) : vs.length = 1 := by
  obtain ⟨a, rfl, _⟩ := h
  rfl
theorem ok_law_right (T : Txt K mg A D) (U : Tab K w mg A) : FnOk P w K mg base CX0 28 A.law_right D.law_right ["dice"] (sp_law_right K) := by
  have G_does_fit_clients : FnOk P w K mg base CX0 27 A.does_fit_clients D.does_fit_clients ["history"] (sp_does_fit_clients K) := ok_does_fit_clients T U
  have G_law_fits : FnOk P w K mg base CX0 2 A.law_fits D.law_fits ["history"] (sp_law_fits K) := ok_law_fits T
  have G_law_history_drawn : FnOk P w K mg base CX0 6 A.law_history_drawn D.law_history_drawn ["dice"] (sp_law_history_drawn K) := ok_law_history_drawn T
  have G_law_spoilt : FnOk P w K mg base CX0 3 A.law_spoilt D.law_spoilt ["dice", "history"] (sp_law_spoilt K) := ok_law_spoilt T
  refine T.F_law_right.ok sc_law_right (fun vs H Q E h => len_law_right h) (fun cdv A0 outer s H vs Q E hr h => ?_)
  refine ⟨_, (pss_cons (ps_set (i := 1) sc_law_right.nd rfl (Or.inl rfl) (pe_call G_law_history_drawn (hr.mono (by decide)) rfl T.g_law_history_drawn T.F_law_history_drawn.kp T.b_law_history_drawn .nil pass0 (pa_cons (pv 0) pa_nil)))
  (pss_cons (ps_if (PW.pt (pw_or (pt_not (pt_val (pe_call G_law_fits (hr.mono (by decide)) rfl T.g_law_fits T.F_law_fits.kp T.b_law_fits .nil pass0 (pa_cons (pv 1) pa_nil)))) (pw_or1 (pt_cmpR op_isnot_bl (pe_call G_does_fit_clients (hr.mono (by decide)) rfl T.g_does_fit_clients T.F_does_fit_clients.kp T.b_does_fit_clients .nil pass0 (pa_cons (pe_callTy call_tuple_of (by rfl) T.b_tuple (by decide +kernel) (pa_cons (pv 1) pa_nil)) pa_nil)) pe_bl (nomark _))))) (pss_one (ps_ret pe_bl)) pss_nil)
  (pss_cons (ps_for PassesOwn.never rfl (pi_range1 rfl T.b_range (pa_cons pe_int pa_nil)) (pg_name (i := 2) sc_law_right.nd rfl (Or.inl rfl)) (pss_cons (ps_set (i := 3) sc_law_right.nd rfl (Or.inl rfl) (pe_call G_law_spoilt (hr.mono (by decide)) rfl T.g_law_spoilt T.F_law_spoilt.kp T.b_law_spoilt .nil pass0 (pa_cons (pv 0) (pa_cons (pv 1) pa_nil))))
  (pss_one (ps_if (pt_cmpR op_ne (pe_callB cr_reprB (by rfl) T.b_repr (by decide +kernel) (pa_cons (pe_call G_does_fit_clients (hr.mono (by decide)) rfl T.g_does_fit_clients T.F_does_fit_clients.kp T.b_does_fit_clients .nil pass0 (pa_cons (pe_callTy call_tuple_of (by rfl) T.b_tuple (by decide +kernel) (pa_cons (pv 3) pa_nil)) pa_nil)) pa_nil)) (pe_callB cr_reprB (by rfl) T.b_repr (by decide +kernel) (pa_cons (pe_call G_law_fits (hr.mono (by decide)) rfl T.g_law_fits T.F_law_fits.kp T.b_law_fits .nil pass0 (pa_cons (pv 3) pa_nil)) pa_nil)) (nomark _)) (pss_one (ps_ret pe_bl)) pss_nil))))
  (pss_one (ps_ret pe_bl))))), ?_⟩
  obtain ⟨a, rfl, ha, k⟩ := h
  refine q_asgX (c_call (ea_cons (ev_var rfl) ea_nil) fun H1 e1 => ⟨a, rfl, ha.ex e1, fun l ys hs H2 fl nl b2 d2 hl rr ok len does => ?_⟩)
  have bb : Bt a H H2 := (Bt.of e1).trans b2
  have fits : fitsB hs = true := by rw [← does_fits ok]; exact does
  refine q_when (b := false) (et_is (et_or (a := false) (b := false) (et_is (et_not (et_B (ev_call (ea_cons (ev_var rfl) ea_nil) fun H3 e3 Q q E => ⟨l, ys, hs, rfl, e3 _ _ hl, rr.ex e3, by omega, q⟩))) (by rw [fits]; rfl)) fun _ => et_is (et_test (ev_op (ev_does (ed_tupOf (ev_var rfl) hl rr) ok (by omega)) ev_c rv_isnotB)) (by rw [does]; rfl)) rfl) (fun z => by cases z) fun _ H3 e3 => ?_
  refine q_forR1 (n := 8) (ea_cons ev_c ea_nil) (by decide) (fun i σ' H' => ∃ v2 v3, σ' = [some (.ref a), some (.ref l), v2, v3] ∧ Bt a H2 H' ∧ DiceAt H' a) (fun H4 e4 => ⟨none, none, rfl, Bt.of (e3.trans e4), (d2.ex e3).ex e4⟩) (fun i σ' H' hi q => ?_) (fun σ' H' q => ?_)
  · obtain ⟨v2, v3, rfl, b, dd⟩ := q
    have hl' := b.at nl hl
    have rr' := rr.exT (hsL_clean ok) (b.exT d2)
    refine q_asgX (c_call (ea_cons (ev_var rfl) (ea_cons (ev_var rfl) ea_nil)) fun H4 e4 => ⟨a, l, ys, hs, rfl, dd.ex e4, nl, e4 _ _ hl', rr'.ex e4, ok, len, fun p zs gs H5 fp np b5 d5 hp rg okg lg => ?_⟩)
    refine s_when (et_reprNeJ (b := doesB gs) (ev_does (ed_tupOf (ev_var rfl) hp rg) okg (by omega)) (ev_is (ev_call (ea_cons (ev_var rfl) ea_nil) fun H3 e3 Q q E => ⟨p, zs, gs, rfl, e3 _ _ hp, rg.ex e3, by omega, q⟩) (by rw [does_fits okg]))) (fun z => by cases z) fun _ H6 e6 => ?_
    exact ⟨_, _, rfl, ((b.trans (Bt.of e4)).trans b5).trans (Bt.of e6), d5.ex e6⟩
  · obtain ⟨v2, v3, rfl, b, dd⟩ := q
    exact s_ret ev_c fun H9 e9 => k H9 ((bb.trans b).trans (Bt.of e9)) (dd.ex e9)
end
end K0

namespace K0
open PySem PySem.Spec PyProof.Rows L2 Evl
def getA : Deed := .one (.get "a")
def rcC : Hs := .call 2 1 getA
def rcA : Hs := .ans 2 1 (.tup [.str "is", .non]) 0
def rcB : Hs := .call 2 2 (.one (.get "b"))
def rcD : Hs := .call 3 1 getA
theorem okC : rcC.Ok := ⟨by decide, by decide, by decide, by decide +kernel, by decide +kernel, by decide +kernel⟩
theorem okAn : rcA.Ok := ⟨by decide, by decide, by decide, ans_isN, by decide⟩
theorem okB' : rcB.Ok := ⟨by decide, by decide, by decide, by decide +kernel, by decide +kernel, by decide +kernel⟩
theorem okD' : rcD.Ok := ⟨by decide, by decide, by decide, by decide +kernel, by decide +kernel, by decide +kernel⟩
theorem ok_of {hs : List Hs} (h : ∀ x ∈ hs, x = rcC ∨ x = rcA ∨ x = rcB ∨ x = rcD) : ∀ x ∈ hs, x.Ok := fun x hx => by
  rcases h x hx with rfl | rfl | rfl | rfl
  · exact okC
  · exact okAn
  · exact okB'
  · exact okD'
def bl7 : List D := [.bl true, .bl true, .bl true, .bl false, .bl false, .bl false, .bl false]
theorem bl7_fine : ∀ d ∈ bl7, d.fine 1 = true := List.all_eq_true.mp (show (bl7.all fun d => d.fine 1) = true by decide +kernel)
section
variable {K : PySem.W.Frag} {σ : L2.St} {H : Hp}
theorem ed_rowC {c n : Nat} {k : Str} : EvD K (tTup (tCons (tC (.str "call")) (tCons (tC (.int (c : Int))) (tCons (tC (.int (n : Int))) (tCons (tTup (tCons (tC (.str "get")) (tCons (tC (.str k)) tNil))) tNil))))) σ H (Hs.call c n (.one (.get k))).enc :=
  ed_tup (eda_cons ed_str (eda_cons ed_int (eda_cons ed_int (eda_cons (ed_tup (eda_cons ed_str (eda_cons ed_str eda_nil)) (by simp)) eda_nil)))) (by simp)
theorem ed_ansI {c n l : Nat} : EvD K (tTup (tCons (tC (.str "answer")) (tCons (tC (.int (c : Int))) (tCons (tC (.int (n : Int))) (tCons (tTup (tCons (tC (.str "is")) (tCons (tC .non) tNil))) (tCons (tC (.int (l : Int))) tNil)))))) σ H (Hs.ans c n (.tup [.str "is", .non]) l).enc :=
  ed_tup (eda_cons ed_str (eda_cons ed_int (eda_cons ed_int (eda_cons (ed_tup (eda_cons ed_str (eda_cons ed_non eda_nil)) (by simp)) (eda_cons ed_int eda_nil))))) (by simp)
end
section
variable {P : Program} {w : World} {K : PySem.W.Frag} {mg : Str → Option Value} {base : Heap} {A : Ad} {D : Fd}
def sp_law (K : PySem.W.Frag) : Sp := fun vs H Q _ => ∃ (a : Addr) (ns : List Int), vs = [.ref a] ∧ SqL K H a (ns.map V.int) ∧ ns.length ≤ 63 ∧ ∀ H', Q (.bl true) H'
theorem len_law {vs : List V} {H : Hp} {Q : VK} {E : XK} (h : sp_law K vs H Q E) : vs.length = 1 := by
  obtain ⟨a, ns, rfl, _⟩ := h
  rfl
theorem ok_law (T : Txt K mg A D) (U : Tab K w mg A) : FnOk P w K mg base CX0 29 A.law D.law ["script"] (sp_law K) := by
  have G_does_fit_clients : FnOk P w K mg base CX0 27 A.does_fit_clients D.does_fit_clients ["history"] (sp_does_fit_clients K) := ok_does_fit_clients T U
  have G_law_dice : FnOk P w K mg base CX0 1 A.law_dice D.law_dice ["script", "spot"] (sp_law_dice K) := ok_law_dice T
  have G_law_right : FnOk P w K mg base CX0 28 A.law_right D.law_right ["dice"] (sp_law_right K) := ok_law_right T U
  refine T.F_law.ok sc_law (fun vs H Q E h => len_law h) (fun cdv A0 outer s H vs Q E hr h => ?_)
  refine ⟨_, (pss_cons (ps_for PassesOwn.never rfl (pi_range1 rfl T.b_range (pa_cons (pe_callB (call_max2 rfl) (by rfl) T.b_max (by decide +kernel) (pa_cons pe_int (pa_cons (pe_callB (call_min2 rfl) (by rfl) T.b_min (by decide +kernel) (pa_cons pe_int (pa_cons (pe_callB call_len (by rfl) T.b_len (by decide +kernel) (pa_cons (pv 0) pa_nil)) pa_nil))) pa_nil))) pa_nil)) (pg_name (i := 1) sc_law.nd rfl (Or.inl rfl)) (pss_cons (ps_set (i := 2) sc_law.nd rfl (Or.inl rfl) (pe_call G_law_dice (hr.mono (by decide)) rfl T.g_law_dice T.F_law_dice.kp T.b_law_dice .nil pass0 (pa_cons (pv 0) (pa_cons (pv 1) pa_nil))))
  (pss_one (ps_if (PW.pt (pw_or (pt_not (pt_val (pe_call G_law_right (hr.mono (by decide)) rfl T.g_law_right T.F_law_right.kp T.b_law_right .nil pass0 (pa_cons (pv 2) pa_nil)))) (pw_or1 (pt_not (pt_val (pe_call G_law_right (hr.mono (by decide)) rfl T.g_law_right T.F_law_right.kp T.b_law_right .nil pass0 (pa_cons (pv 2) pa_nil))))))) (pss_one (ps_ret pe_bl)) pss_nil))))
  (pss_cons (ps_asg (pe_tup (pa_cons (pe_tup (pa_cons pe_str (pa_cons pe_int (pa_cons pe_int (pa_cons (pe_tup (pa_cons pe_str (pa_cons pe_str pa_nil))) pa_nil))))) (pa_cons (pe_tup (pa_cons pe_str (pa_cons pe_int (pa_cons pe_int (pa_cons (pe_tup (pa_cons pe_str (pa_cons pe_non pa_nil))) (pa_cons pe_int pa_nil)))))) pa_nil))) (pg_tup rfl (pgs_cons (pg_name (i := 3) sc_law.nd rfl (Or.inl rfl)) (pgs_cons (pg_name (i := 4) sc_law.nd rfl (Or.inl rfl)) pgs_nil))))
  (pss_cons (ps_set (i := 5) sc_law.nd rfl (Or.inl rfl) (pe_lst (pa_cons (pe_call G_does_fit_clients (hr.mono (by decide)) rfl T.g_does_fit_clients T.F_does_fit_clients.kp T.b_does_fit_clients .nil pass0 (pa_cons (pe_tup pa_nil) pa_nil)) (pa_cons (pe_call G_does_fit_clients (hr.mono (by decide)) rfl T.g_does_fit_clients T.F_does_fit_clients.kp T.b_does_fit_clients .nil pass0 (pa_cons (pe_tup (pa_cons (pv 3) (pa_cons (pv 4) pa_nil))) pa_nil)) (pa_cons (pe_call G_does_fit_clients (hr.mono (by decide)) rfl T.g_does_fit_clients T.F_does_fit_clients.kp T.b_does_fit_clients .nil pass0 (pa_cons (pe_tup (pa_cons (pv 3) (pa_cons (pe_tup (pa_cons pe_str (pa_cons pe_int (pa_cons pe_int (pa_cons (pe_tup (pa_cons pe_str (pa_cons pe_str pa_nil))) pa_nil))))) pa_nil))) pa_nil)) (pa_cons (pe_call G_does_fit_clients (hr.mono (by decide)) rfl T.g_does_fit_clients T.F_does_fit_clients.kp T.b_does_fit_clients .nil pass0 (pa_cons (pe_tup (pa_cons (pv 4) pa_nil)) pa_nil)) pa_nil))))))
  (pss_cons (ps_set (i := 5) sc_law.nd rfl (Or.inl rfl) (pe_op op_cat (pv 5) (pe_lst (pa_cons (pe_call G_does_fit_clients (hr.mono (by decide)) rfl T.g_does_fit_clients T.F_does_fit_clients.kp T.b_does_fit_clients .nil pass0 (pa_cons (pe_tup (pa_cons (pv 3) (pa_cons (pv 4) (pa_cons (pv 4) pa_nil)))) pa_nil)) (pa_cons (pe_call G_does_fit_clients (hr.mono (by decide)) rfl T.g_does_fit_clients T.F_does_fit_clients.kp T.b_does_fit_clients .nil pass0 (pa_cons (pe_tup (pa_cons (pv 3) (pa_cons (pe_tup (pa_cons pe_str (pa_cons pe_int (pa_cons pe_int (pa_cons (pe_tup (pa_cons pe_str (pa_cons pe_str pa_nil))) pa_nil))))) (pa_cons (pv 4) pa_nil)))) pa_nil)) (pa_cons (pe_call G_does_fit_clients (hr.mono (by decide)) rfl T.g_does_fit_clients T.F_does_fit_clients.kp T.b_does_fit_clients .nil pass0 (pa_cons (pe_tup (pa_cons (pv 3) (pa_cons (pv 3) pa_nil))) pa_nil)) pa_nil))))))
  (pss_one (ps_ret (pe_and (pe_cmpR (op_eqD hr.units) (pv 5) (pe_lst (pa_cons pe_bl (pa_cons pe_bl (pa_cons pe_bl (pa_cons pe_bl (pa_cons pe_bl (pa_cons pe_bl (pa_cons pe_bl pa_nil)))))))) (nomark _)) (pe_one (pe_cmpR op_is_bl (pe_call G_does_fit_clients (hr.mono (by decide)) rfl T.g_does_fit_clients T.F_does_fit_clients.kp T.b_does_fit_clients .nil pass0 (pa_cons (pe_tup (pa_cons (pv 3) (pa_cons (pe_tup (pa_cons pe_str (pa_cons pe_int (pa_cons pe_int (pa_cons (pe_tup (pa_cons pe_str (pa_cons pe_str pa_nil))) pa_nil))))) (pa_cons (pv 4) pa_nil)))) pa_nil)) pe_bl (nomark _)))))))))), ?_⟩
  obtain ⟨a, ns, rfl, hS, hlen, k⟩ := h
  have hz : (ns.map V.int).length = ns.length := List.length_map ..
  refine q_forR1 (n := if (if ((ns.map V.int).length : Int) < 3 then ((ns.map V.int).length : Int) else 3) > 1 then (if ((ns.map V.int).length : Int) < 3 then ((ns.map V.int).length : Int) else 3) else 1) (ea_cons (ev_cb (ea_cons ev_c (ea_cons (ev_cb (ea_cons ev_c (ea_cons (ev_cb (ea_cons (ev_var rfl) ea_nil) (rc_lenL hS)) ea_nil)) rc_min2) ea_nil)) rc_max2) ea_nil)
    (by split <;> split <;> omega) (fun i σ' H' => ∃ v1 v2, σ' = [some (.ref a), v1, v2, none, none, none] ∧ SqL K H' a (ns.map V.int)) (fun H1 e1 => ⟨none, none, rfl, ex_l e1 hS⟩) (fun i σ' H' hi g => ?_) (fun σ' H' g => ?_)
  · obtain ⟨v1, v2, rfl, hS'⟩ := g
    refine q_asgC (ea_cons (ev_var rfl) (ea_cons (ev_var rfl) ea_nil)) fun H1 e1 => ⟨a, ns, i, rfl, ex_l e1 hS', fun d H2 hd e2 dd => ?_⟩
    refine n_ifS (n_or (n_not (n_B (c_call (ea_cons (ev_var rfl) ea_nil) fun H5 e5 => ⟨d, rfl, dd.ex e5, fun H6 b6 d6 => ⟨true, rfl, ?_⟩⟩))))
    rw [if_neg (by decide)]
    refine n_not (n_B (c_call (ea_cons (ev_var rfl) ea_nil) fun H7 e7 => ⟨d, rfl, d6.ex e7, fun H8 b8 d8 => ⟨true, rfl, ?_⟩⟩))
    rw [if_neg (by decide)]
    have b28 := ((Bt.of e5).trans b6).trans ((Bt.of e7).trans b8)
    exact n_next ⟨_, _, rfl, sq_btF hd (ex_l e1 hS') e2 b28⟩
  · obtain ⟨w1, w2, rfl, hS'⟩ := g
    refine q_asgG (n_tup ((eda_cons (ed_rowC (K := K) (c := 2) (n := 1) (k := "a")) (eda_cons (ed_ansI (c := 2) (n := 1) (l := 0)) eda_nil)) H' (Ex.refl _) _ fun vs H1 e1 r => ⟨by rw [r.len]; exact sz_of (by simp), fun p hp => ?_⟩))
    cases r with | cons rc r => ?_
    cases r with | cons ra r => ?_
    cases r
    rename_i vc va
    refine ⟨p, _, rfl, st_of upd_same, rfl, _, _, rfl, _, _, rfl, rfl, ?_⟩
    have eT : Ex H1 (L2.upd H1 p (.tup [vc, va])) := Ex.new hp
    have rc := rc.ex eT
    have ra := ra.ex eT
    generalize (L2.upd H1 p (.tup [vc, va])) = H2 at rc ra
    refine q_asgL (xs := [.bl true, .bl true, .bl true, .bl false]) (el_lst (ea_cons (ev_is (ev_does (hs := []) (ed_tup eda_nil (by simp)) (fun x hx => by cases hx) (by decide)) (congrArg V.bl (by decide +kernel)))
      (ea_cons (ev_is (ev_does (hs := [rcC, rcA]) (ed_tup (eda_cons (ed_ev (ev_var rfl) rc) (eda_cons (ed_ev (ev_var rfl) ra) eda_nil)) (by simp)) (ok_of (by simp)) (by decide)) (congrArg V.bl (by decide +kernel)))
      (ea_cons (ev_is (ev_does (hs := [rcC, rcB]) (ed_tup (eda_cons (ed_ev (ev_var rfl) rc) (eda_cons (ed_rowC (c := 2) (n := 2) (k := "b")) eda_nil)) (by simp)) (ok_of (by simp)) (by decide)) (congrArg V.bl (by decide +kernel)))
      (ea_cons (ev_is (ev_does (hs := [rcA]) (ed_tup (eda_cons (ed_ev (ev_var rfl) ra) eda_nil) (by simp)) (ok_of (by simp)) (by decide)) (congrArg V.bl (by decide +kernel))) ea_nil)))) (by simp)) fun L H3 hL e3 h3 => ?_
    have rc := rc.ex e3
    have ra := ra.ex e3
    refine q_asgX (n_op (n_var rfl ((el_lst (vs := [.bl false, .bl false, .bl false]) (ea_cons (ev_is (ev_does (hs := [rcC, rcA, rcA]) (ed_tup (eda_cons (ed_ev (ev_var rfl) rc) (eda_cons (ed_ev (ev_var rfl) ra) (eda_cons (ed_ev (ev_var rfl) ra) eda_nil))) (by simp)) (ok_of (by simp)) (by decide)) (congrArg V.bl (by decide +kernel)))
      (ea_cons (ev_is (ev_does (hs := [rcC, rcB, rcA]) (ed_tup (eda_cons (ed_ev (ev_var rfl) rc) (eda_cons (ed_rowC (c := 2) (n := 2) (k := "b")) (eda_cons (ed_ev (ev_var rfl) ra) eda_nil))) (by simp)) (ok_of (by simp)) (by decide)) (congrArg V.bl (by decide +kernel)))
      (ea_cons (ev_is (ev_does (hs := [rcC, rcC]) (ed_tup (eda_cons (ed_ev (ev_var rfl) rc) (eda_cons (ed_ev (ev_var rfl) rc) eda_nil)) (by simp)) (ok_of (by simp)) (by decide)) (congrArg V.bl (by decide +kernel))) ea_nil))) (by simp)) H3 (Ex.refl _) _ fun q H4 hq e4 h4 => ⟨L, q, _, _, rfl, rfl, e4 _ _ h3, h4, sz_of (by simp), fun p2 hp2 => ?_⟩)))
    have e5 : Ex H4 (L2.upd H4 p2 (.lst ([.bl true, .bl true, .bl true, .bl false] ++ [.bl false, .bl false, .bl false]))) := Ex.new hp2
    have h5 : (L2.upd H4 p2 (.lst ([.bl true, .bl true, .bl true, .bl false] ++ [.bl false, .bl false, .bl false]))) p2 = some (.lst [.bl true, .bl true, .bl true, .bl false, .bl false, .bl false, .bl false]) := upd_same
    have rc := rc.ex (e4.trans e5)
    have ra := ra.ex (e4.trans e5)
    generalize (L2.upd H4 p2 (.lst ([.bl true, .bl true, .bl true, .bl false] ++ [.bl false, .bl false, .bl false]))) = H5 at h5 rc ra
    have rb : ∀ {G : Hp}, RpAll K G [.bl true, .bl true, .bl true, .bl false, .bl false, .bl false, .bl false] bl7 := .cons (.bl _) (.cons (.bl _) (.cons (.bl _) (.cons (.bl _) (.cons (.bl _) (.cons (.bl _) (.cons (.bl _) .nil))))))
    refine s_ret (ev_is (ev_andV (a := true) (b := true) (ev_is (ev_opL (ev_var rfl) (el_lst (vs := [.bl true, .bl true, .bl true, .bl false, .bl false, .bl false, .bl false]) (ea_cons ev_c (ea_cons ev_c (ea_cons ev_c (ea_cons ev_c (ea_cons ev_c (ea_cons ev_c (ea_cons ev_c ea_nil))))))) (by simp)) (z := .bl (PyData.eqvAll (K0.D.pyL bl7) (K0.D.pyL bl7))) fun q H6 hq e6 H7 e7 Q7 q7 => ⟨.list (K0.D.pyL bl7), .list (K0.D.pyL bl7), dpL (e7 _ _ (e6 _ _ h5)) rb (fine_all bl7 bl7_fine).1, dpL (e7 _ _ hq) rb (fine_all bl7 bl7_fine).1, shapedL_of bl7_fine (by decide), shapedL_of bl7_fine (by decide), q7 H7 (Ex.refl _)⟩) (by rw [eqvAll_self _ (fine_all bl7 bl7_fine).1])) fun _ =>
      ev_is (ev_op (ev_does (hs := [rcC, rcD, rcA]) (ed_tup (eda_cons (ed_ev (ev_var rfl) rc) (eda_cons (ed_rowC (c := 3) (n := 1) (k := "a")) (eda_cons (ed_ev (ev_var rfl) ra) eda_nil))) (by simp)) (ok_of (by simp)) (by decide)) ev_c rv_isB) (congrArg V.bl (by decide +kernel))) rfl) fun H9 _ => k H9
end
end K0

namespace K0
open PySem PySem.Spec PyProof.Rows L2 Evl
/-! ### tables of defs, as they lie at the top -/
abbrev Tr := Str × Int × Tok × Addr
def entD (r : Tr) : DictEntry := ⟨r.2.1, .str r.1 r.2.2.1, .ref r.2.2.2⟩
def okH (p : Params) : List Tr → Prop
  | [] => True
  | r :: rs => r.2.1 = PyData.keyHash p r.1 ∧ okH p rs
theorem lit_mk {p : Params} : ∀ rows : List Tr, okH p rows → PySem.W.KeysLit p (rows.map entD)
  | [], _ => by rw [List.map_nil, PySem.W.KeysLit.eq_1]; trivial
  | r :: rs, h => by
    rw [List.map_cons, PySem.W.KeysLit.eq_2]
    exact ⟨⟨r.1, r.2.2.1, rfl, h.1⟩, lit_mk rs h.2⟩
theorem find_mk (z : Str) : ∀ rows : List Tr, (rows.map entD).find? (fun x => x.key.isStr z) = (rows.find? fun r => r.1 == z).map entD
  | [] => rfl
  | r :: rs => by
    rw [List.map_cons, List.find?_cons, List.find?_cons]
    show (match (r.1 == z) with | true => _ | false => _) = _
    cases r.1 == z with
    | true => rfl
    | false => exact find_mk z rs
theorem look_mk (z : Str) : ∀ rows : List Tr, (rows.find? fun r => r.1 == z).map (fun r => r.2.2.2) = (rows.map fun r => (r.1, r.2.2.2)).lookup z
  | [] => rfl
  | r :: rs => by
    rw [List.map_cons, List.find?_cons, List.lookup_cons]
    have e : (r.1 == z) = (z == r.1) := BEq.comm
    rw [e]
    cases z == r.1 with
    | true => rfl
    | false => exact look_mk z rs
theorem any_mk : ∀ rows : List Tr, (rows.map entD).any (fun x => x.refKey) = false
  | [] => rfl
  | r :: rs => by
    rw [List.map_cons, List.any_cons, any_mk rs]
    rfl
theorem tab_mk {K : PySem.W.Frag} {w : World} {d : Addr} {n : Nat} {rows : List Tr} (at_ : List.lookup d K = some { cls := Value.type "dict", data := Data.dict (List.toArray (rows.map entD)) n }) (hl : okH w.params rows) (low : (d == sysModules) = false) :
    TabF K w d (rows.map fun r => (r.1, r.2.2.2)) := by
  refine ⟨_, n, ⟨at_, by rw [List.toList_toArray]; exact lit_mk rows hl, low⟩, fun z => ?_⟩
  unfold PySem.W.nsIn
  rw [at_]
  show (match (List.toArray (rows.map entD)).toList.find? (fun x => x.key.isStr z) with | some e => _ | none => _) = _
  rw [List.toList_toArray, find_mk, ← look_mk]
  cases rows.find? fun r => r.1 == z with
  | some r => rfl
  | none =>
    show (if ((rows.map entD).any fun x => x.refKey) = true then none else some none) = _
    rw [any_mk]
    rfl
end K0

namespace K0
open PySem L2 Evl
theorem all_mk {l : PySem.W.OpenLaw} {w : World} {K : PySem.W.Frag} {h : Heap} {mg : Str → Option Value} {fa f0 f1 f2 f3 f4 f5 f6 f7 f8 f9 f10 f11 f12 f13 f14 f15 f16 f17 f18 f19 f20 f21 f22 f23 f24 f25 f26 f27 f28 f29 f30 f31 f32 f33 f34 f35 f36 f37 f38 f39 f40 f41 : Addr} (X : K.In h) (G : h.Ns mainGlobals mg) (hfa : mg "law" = some (.ref fa))
    {od0 an0 od1 an1 od2 an2 od3 an3 od4 an4 od5 an5 od6 an6 od7 an7 od8 an8 od9 an9 od10 an10 od11 an11 od12 an12 od13 an13 od14 an14 od15 an15 od16 an16 od17 an17 od18 an18 od19 an19 od20 an20 od21 an21 od22 an22 od23 an23 od24 an24 od25 an25 od26 an26 od27 an27 od28 an28 od29 an29 od30 an30 od31 an31 od32 an32 od33 an33 od34 an34 od35 an35 od36 an36 od37 an37 od38 an38 od39 an39 od40 an40 od41 an41 xd0 : Option Addr}
    {sl0 sl1 sl2 sl3 sl4 sl5 sl6 sl7 sl8 sl9 sl10 sl11 sl12 sl13 sl14 sl15 sl16 sl17 sl18 sl19 sl20 sl21 sl22 sl23 sl24 sl25 sl26 sl27 sl28 sl29 sl30 sl31 sl32 sl33 sl34 sl35 sl36 sl37 sl38 sl39 sl40 sl41 xs0 : Array (Option Value)}
    {oc0 kV0 dc0 pm0 cd0 ct0 oc1 kV1 dc1 pm1 cd1 ct1 oc2 kV2 dc2 pm2 cd2 ct2 oc3 kV3 dc3 pm3 cd3 ct3 oc4 kV4 dc4 pm4 cd4 ct4 oc5 kV5 dc5 pm5 cd5 ct5 oc6 kV6 dc6 pm6 cd6 ct6 oc7 kV7 dc7 pm7 cd7 ct7 oc8 kV8 dc8 pm8 cd8 ct8 oc9 kV9 dc9 pm9 cd9 ct9 oc10 kV10 dc10 pm10 cd10 ct10 oc11 kV11 dc11 pm11 cd11 ct11 oc12 kV12 dc12 pm12 cd12 ct12 oc13 kV13 dc13 pm13 cd13 ct13 oc14 kV14 dc14 pm14 cd14 ct14 oc15 kV15 dc15 pm15 cd15 ct15 oc16 kV16 dc16 pm16 cd16 ct16 oc17 kV17 dc17 pm17 cd17 ct17 oc18 kV18 dc18 pm18 cd18 ct18 oc19 kV19 dc19 pm19 cd19 ct19 oc20 kV20 dc20 pm20 cd20 ct20 oc21 kV21 dc21 pm21 cd21 ct21 oc22 kV22 dc22 pm22 cd22 ct22 oc23 kV23 dc23 pm23 cd23 ct23 oc24 kV24 dc24 pm24 cd24 ct24 oc25 kV25 dc25 pm25 cd25 ct25 oc26 kV26 dc26 pm26 cd26 ct26 oc27 kV27 dc27 pm27 cd27 ct27 oc28 kV28 dc28 pm28 cd28 ct28 oc29 kV29 dc29 pm29 cd29 ct29 oc30 kV30 dc30 pm30 cd30 ct30 oc31 kV31 dc31 pm31 cd31 ct31 oc32 kV32 dc32 pm32 cd32 ct32 oc33 kV33 dc33 pm33 cd33 ct33 oc34 kV34 dc34 pm34 cd34 ct34 oc35 kV35 dc35 pm35 cd35 ct35 oc36 kV36 dc36 pm36 cd36 ct36 oc37 kV37 dc37 pm37 cd37 ct37 oc38 kV38 dc38 pm38 cd38 ct38 oc39 kV39 dc39 pm39 cd39 ct39 oc40 kV40 dc40 pm40 cd40 ct40 oc41 kV41 dc41 pm41 cd41 ct41 : Value}
    {tk0 tk1 tk2 tk3 tk4 tk5 tk6 tk7 tk8 tk9 tk10 tk11 tk12 xk0_0 xk0_1 xk0_2 xk0_3 xk0_4 wk0_0 wk0_1 wk0_2 wk0_3 wk0_4 wk0_5 wk0_6 wk0_7 : Tok}
    {xa0 wa0 : Addr}
    {xn0 wn0 : Nat}
    {wh0_0 wh0_1 wh0_2 wh0_3 wh0_4 wh0_5 wh0_6 wh0_7 : Int}
    (a0 : PySem.W.nsIn K mainGlobals "is_number" = some (some (.ref f0)))
    (l0 : K.lookup f0 = some ⟨oc0, od0, .func (PySem.W.fnOf "is_number" "is_number" (defArgs s_is_number) (defBody s_is_number) (defScope s_is_number) .none kV0 dc0 pm0 an0 cd0 ct0), sl0⟩)
    (c0 : PySem.W.codeIn K cd0 "is_number" = true)
    (k0 : PySem.W.keepIn K (.ref f0) = true)
    (a1 : PySem.W.nsIn K mainGlobals "is_within" = some (some (.ref f1)))
    (l1 : K.lookup f1 = some ⟨oc1, od1, .func (PySem.W.fnOf "is_within" "is_within" (defArgs s_is_within) (defBody s_is_within) (defScope s_is_within) .none kV1 dc1 pm1 an1 cd1 ct1), sl1⟩)
    (c1 : PySem.W.codeIn K cd1 "is_within" = true)
    (k1 : PySem.W.keepIn K (.ref f1) = true)
    (a2 : PySem.W.nsIn K mainGlobals "is_client" = some (some (.ref f2)))
    (l2 : K.lookup f2 = some ⟨oc2, od2, .func (PySem.W.fnOf "is_client" "is_client" (defArgs s_is_client) (defBody s_is_client) (defScope s_is_client) .none kV2 dc2 pm2 an2 cd2 ct2), sl2⟩)
    (c2 : PySem.W.codeIn K cd2 "is_client" = true)
    (k2 : PySem.W.keepIn K (.ref f2) = true)
    (a3 : PySem.W.nsIn K mainGlobals "is_circle" = some (some (.ref f3)))
    (l3 : K.lookup f3 = some ⟨oc3, od3, .func (PySem.W.fnOf "is_circle" "is_circle" (defArgs s_is_circle) (defBody s_is_circle) (defScope s_is_circle) .none kV3 dc3 pm3 an3 cd3 ct3), sl3⟩)
    (c3 : PySem.W.codeIn K cd3 "is_circle" = true)
    (k3 : PySem.W.keepIn K (.ref f3) = true)
    (a4 : PySem.W.nsIn K mainGlobals "are_indices" = some (some (.ref f4)))
    (l4 : K.lookup f4 = some ⟨oc4, od4, .func (PySem.W.fnOf "are_indices" "are_indices" (defArgs s_are_indices) (defBody s_are_indices) (defScope s_are_indices) .none kV4 dc4 pm4 an4 cd4 ct4), sl4⟩)
    (c4 : PySem.W.codeIn K cd4 "are_indices" = true)
    (k4 : PySem.W.keepIn K (.ref f4) = true)
    (a5 : PySem.W.nsIn K mainGlobals "are_ascending" = some (some (.ref f5)))
    (l5 : K.lookup f5 = some ⟨oc5, od5, .func (PySem.W.fnOf "are_ascending" "are_ascending" (defArgs s_are_ascending) (defBody s_are_ascending) (defScope s_are_ascending) .none kV5 dc5 pm5 an5 cd5 ct5), sl5⟩)
    (c5 : PySem.W.codeIn K cd5 "are_ascending" = true)
    (k5 : PySem.W.keepIn K (.ref f5) = true)
    (a6 : PySem.W.nsIn K mainGlobals "is_made_of" = some (some (.ref f6)))
    (l6 : K.lookup f6 = some ⟨oc6, od6, .func (PySem.W.fnOf "is_made_of" "is_made_of" (defArgs s_is_made_of) (defBody s_is_made_of) (defScope s_is_made_of) .none kV6 dc6 pm6 an6 cd6 ct6), sl6⟩)
    (c6 : PySem.W.codeIn K cd6 "is_made_of" = true)
    (k6 : PySem.W.keepIn K (.ref f6) = true)
    (a7 : PySem.W.nsIn K mainGlobals "is_key" = some (some (.ref f7)))
    (l7 : K.lookup f7 = some ⟨oc7, od7, .func (PySem.W.fnOf "is_key" "is_key" (defArgs s_is_key) (defBody s_is_key) (defScope s_is_key) .none kV7 dc7 pm7 an7 cd7 ct7), sl7⟩)
    (c7 : PySem.W.codeIn K cd7 "is_key" = true)
    (k7 : PySem.W.keepIn K (.ref f7) = true)
    (a8 : PySem.W.nsIn K mainGlobals "is_short_number" = some (some (.ref f8)))
    (l8 : K.lookup f8 = some ⟨oc8, od8, .func (PySem.W.fnOf "is_short_number" "is_short_number" (defArgs s_is_short_number) (defBody s_is_short_number) (defScope s_is_short_number) .none kV8 dc8 pm8 an8 cd8 ct8), sl8⟩)
    (c8 : PySem.W.codeIn K cd8 "is_short_number" = true)
    (k8 : PySem.W.keepIn K (.ref f8) = true)
    (a9 : PySem.W.nsIn K mainGlobals "is_value" = some (some (.ref f9)))
    (l9 : K.lookup f9 = some ⟨oc9, od9, .func (PySem.W.fnOf "is_value" "is_value" (defArgs s_is_value) (defBody s_is_value) (defScope s_is_value) .none kV9 dc9 pm9 an9 cd9 ct9), sl9⟩)
    (c9 : PySem.W.codeIn K cd9 "is_value" = true)
    (k9 : PySem.W.keepIn K (.ref f9) = true)
    (a10 : PySem.W.nsIn K mainGlobals "is_plain" = some (some (.ref f10)))
    (l10 : K.lookup f10 = some ⟨oc10, od10, .func (PySem.W.fnOf "is_plain" "is_plain" (defArgs s_is_plain) (defBody s_is_plain) (defScope s_is_plain) .none kV10 dc10 pm10 an10 cd10 ct10), sl10⟩)
    (c10 : PySem.W.codeIn K cd10 "is_plain" = true)
    (k10 : PySem.W.keepIn K (.ref f10) = true)
    (a11 : PySem.W.nsIn K mainGlobals "is_plain_within" = some (some (.ref f11)))
    (l11 : K.lookup f11 = some ⟨oc11, od11, .func (PySem.W.fnOf "is_plain_within" "is_plain_within" (defArgs s_is_plain_within) (defBody s_is_plain_within) (defScope s_is_plain_within) .none kV11 dc11 pm11 an11 cd11 ct11), sl11⟩)
    (c11 : PySem.W.codeIn K cd11 "is_plain_within" = true)
    (k11 : PySem.W.keepIn K (.ref f11) = true)
    (a12 : PySem.W.nsIn K mainGlobals "_is_single" = some (some (.ref f12)))
    (l12 : K.lookup f12 = some ⟨oc12, od12, .func (PySem.W.fnOf "_is_single" "_is_single" (defArgs s_is_single) (defBody s_is_single) (defScope s_is_single) .none kV12 dc12 pm12 an12 cd12 ct12), sl12⟩)
    (c12 : PySem.W.codeIn K cd12 "_is_single" = true)
    (k12 : PySem.W.keepIn K (.ref f12) = true)
    (a13 : PySem.W.nsIn K mainGlobals "_is_worth" = some (some (.ref f13)))
    (l13 : K.lookup f13 = some ⟨oc13, od13, .func (PySem.W.fnOf "_is_worth" "_is_worth" (defArgs s_is_worth) (defBody s_is_worth) (defScope s_is_worth) .none kV13 dc13 pm13 an13 cd13 ct13), sl13⟩)
    (c13 : PySem.W.codeIn K cd13 "_is_worth" = true)
    (k13 : PySem.W.keepIn K (.ref f13) = true)
    (a14 : PySem.W.nsIn K mainGlobals "word_of" = some (some (.ref f14)))
    (l14 : K.lookup f14 = some ⟨oc14, od14, .func (PySem.W.fnOf "word_of" "word_of" (defArgs s_word_of) (defBody s_word_of) (defScope s_word_of) .none kV14 dc14 pm14 an14 cd14 ct14), sl14⟩)
    (c14 : PySem.W.codeIn K cd14 "word_of" = true)
    (k14 : PySem.W.keepIn K (.ref f14) = true)
    (a15 : PySem.W.nsIn K mainGlobals "_is_put" = some (some (.ref f15)))
    (l15 : K.lookup f15 = some ⟨oc15, od15, .func (PySem.W.fnOf "_is_put" "_is_put" (defArgs s_is_put) (defBody s_is_put) (defScope s_is_put) .none kV15 dc15 pm15 an15 cd15 ct15), sl15⟩)
    (c15 : PySem.W.codeIn K cd15 "_is_put" = true)
    (k15 : PySem.W.keepIn K (.ref f15) = true)
    (a16 : PySem.W.nsIn K mainGlobals "_is_of_key" = some (some (.ref f16)))
    (l16 : K.lookup f16 = some ⟨oc16, od16, .func (PySem.W.fnOf "_is_of_key" "_is_of_key" (defArgs s_is_of_key) (defBody s_is_of_key) (defScope s_is_of_key) .none kV16 dc16 pm16 an16 cd16 ct16), sl16⟩)
    (c16 : PySem.W.codeIn K cd16 "_is_of_key" = true)
    (k16 : PySem.W.keepIn K (.ref f16) = true)
    (a17 : PySem.W.nsIn K mainGlobals "_is_add" = some (some (.ref f17)))
    (l17 : K.lookup f17 = some ⟨oc17, od17, .func (PySem.W.fnOf "_is_add" "_is_add" (defArgs s_is_add) (defBody s_is_add) (defScope s_is_add) .none kV17 dc17 pm17 an17 cd17 ct17), sl17⟩)
    (c17 : PySem.W.codeIn K cd17 "_is_add" = true)
    (k17 : PySem.W.keepIn K (.ref f17) = true)
    (a18 : PySem.W.nsIn K mainGlobals "_is_swap" = some (some (.ref f18)))
    (l18 : K.lookup f18 = some ⟨oc18, od18, .func (PySem.W.fnOf "_is_swap" "_is_swap" (defArgs s_is_swap) (defBody s_is_swap) (defScope s_is_swap) .none kV18 dc18 pm18 an18 cd18 ct18), sl18⟩)
    (c18 : PySem.W.codeIn K cd18 "_is_swap" = true)
    (k18 : PySem.W.keepIn K (.ref f18) = true)
    (a19 : PySem.W.nsIn K mainGlobals "_is_list" = some (some (.ref f19)))
    (l19 : K.lookup f19 = some ⟨oc19, od19, .func (PySem.W.fnOf "_is_list" "_is_list" (defArgs s_is_list) (defBody s_is_list) (defScope s_is_list) .none kV19 dc19 pm19 an19 cd19 ct19), sl19⟩)
    (c19 : PySem.W.codeIn K cd19 "_is_list" = true)
    (k19 : PySem.W.keepIn K (.ref f19) = true)
    (a20 : PySem.W.nsIn K mainGlobals "_is_all" = some (some (.ref f20)))
    (l20 : K.lookup f20 = some ⟨oc20, od20, .func (PySem.W.fnOf "_is_all" "_is_all" (defArgs s_is_all) (defBody s_is_all) (defScope s_is_all) .none kV20 dc20 pm20 an20 cd20 ct20), sl20⟩)
    (c20 : PySem.W.codeIn K cd20 "_is_all" = true)
    (k20 : PySem.W.keepIn K (.ref f20) = true)
    (a21 : PySem.W.nsIn K mainGlobals "_has_lot_size" = some (some (.ref f21)))
    (l21 : K.lookup f21 = some ⟨oc21, od21, .func (PySem.W.fnOf "_has_lot_size" "_has_lot_size" (defArgs s_has_lot_size) (defBody s_has_lot_size) (defScope s_has_lot_size) .none kV21 dc21 pm21 an21 cd21 ct21), sl21⟩)
    (c21 : PySem.W.codeIn K cd21 "_has_lot_size" = true)
    (k21 : PySem.W.keepIn K (.ref f21) = true)
    (a22 : PySem.W.nsIn K mainGlobals "_is_of_circle" = some (some (.ref f22)))
    (l22 : K.lookup f22 = some ⟨oc22, od22, .func (PySem.W.fnOf "_is_of_circle" "_is_of_circle" (defArgs s_is_of_circle) (defBody s_is_of_circle) (defScope s_is_of_circle) .none kV22 dc22 pm22 an22 cd22 ct22), sl22⟩)
    (c22 : PySem.W.codeIn K cd22 "_is_of_circle" = true)
    (k22 : PySem.W.keepIn K (.ref f22) = true)
    (a23 : PySem.W.nsIn K mainGlobals "is_deed" = some (some (.ref f23)))
    (l23 : K.lookup f23 = some ⟨oc23, od23, .func (PySem.W.fnOf "is_deed" "is_deed" (defArgs s_is_deed) (defBody s_is_deed) (defScope s_is_deed) .none kV23 dc23 pm23 an23 cd23 ct23), sl23⟩)
    (c23 : PySem.W.codeIn K cd23 "is_deed" = true)
    (k23 : PySem.W.keepIn K (.ref f23) = true)
    (a24 : PySem.W.nsIn K mainGlobals "is_row" = some (some (.ref f24)))
    (l24 : K.lookup f24 = some ⟨oc24, od24, .func (PySem.W.fnOf "is_row" "is_row" (defArgs s_is_row) (defBody s_is_row) (defScope s_is_row) .none kV24 dc24 pm24 an24 cd24 ct24), sl24⟩)
    (c24 : PySem.W.codeIn K cd24 "is_row" = true)
    (k24 : PySem.W.keepIn K (.ref f24) = true)
    (a25 : PySem.W.nsIn K mainGlobals "_is_named" = some (some (.ref f25)))
    (l25 : K.lookup f25 = some ⟨oc25, od25, .func (PySem.W.fnOf "_is_named" "_is_named" (defArgs s_is_named) (defBody s_is_named) (defScope s_is_named) .none kV25 dc25 pm25 an25 cd25 ct25), sl25⟩)
    (c25 : PySem.W.codeIn K cd25 "_is_named" = true)
    (k25 : PySem.W.keepIn K (.ref f25) = true)
    (a26 : PySem.W.nsIn K mainGlobals "_is_length" = some (some (.ref f26)))
    (l26 : K.lookup f26 = some ⟨oc26, od26, .func (PySem.W.fnOf "_is_length" "_is_length" (defArgs s_is_length) (defBody s_is_length) (defScope s_is_length) .none kV26 dc26 pm26 an26 cd26 ct26), sl26⟩)
    (c26 : PySem.W.codeIn K cd26 "_is_length" = true)
    (k26 : PySem.W.keepIn K (.ref f26) = true)
    (a27 : PySem.W.nsIn K mainGlobals "are_rows" = some (some (.ref f27)))
    (l27 : K.lookup f27 = some ⟨oc27, od27, .func (PySem.W.fnOf "are_rows" "are_rows" (defArgs s_are_rows) (defBody s_are_rows) (defScope s_are_rows) .none kV27 dc27 pm27 an27 cd27 ct27), sl27⟩)
    (c27 : PySem.W.codeIn K cd27 "are_rows" = true)
    (k27 : PySem.W.keepIn K (.ref f27) = true)
    (a28 : PySem.W.nsIn K mainGlobals "does_fit_clients" = some (some (.ref f28)))
    (l28 : K.lookup f28 = some ⟨oc28, od28, .func (PySem.W.fnOf "does_fit_clients" "does_fit_clients" (defArgs s_does_fit_clients) (defBody s_does_fit_clients) (defScope s_does_fit_clients) .none kV28 dc28 pm28 an28 cd28 ct28), sl28⟩)
    (c28 : PySem.W.codeIn K cd28 "does_fit_clients" = true)
    (k28 : PySem.W.keepIn K (.ref f28) = true)
    (a29 : PySem.W.nsIn K mainGlobals "_law_dice" = some (some (.ref f29)))
    (l29 : K.lookup f29 = some ⟨oc29, od29, .func (PySem.W.fnOf "_law_dice" "_law_dice" (defArgs s_law_dice) (defBody s_law_dice) (defScope s_law_dice) .none kV29 dc29 pm29 an29 cd29 ct29), sl29⟩)
    (c29 : PySem.W.codeIn K cd29 "_law_dice" = true)
    (k29 : PySem.W.keepIn K (.ref f29) = true)
    (a30 : PySem.W.nsIn K mainGlobals "_law_roll" = some (some (.ref f30)))
    (l30 : K.lookup f30 = some ⟨oc30, od30, .func (PySem.W.fnOf "_law_roll" "_law_roll" (defArgs s_law_roll) (defBody s_law_roll) (defScope s_law_roll) .none kV30 dc30 pm30 an30 cd30 ct30), sl30⟩)
    (c30 : PySem.W.codeIn K cd30 "_law_roll" = true)
    (k30 : PySem.W.keepIn K (.ref f30) = true)
    (a31 : PySem.W.nsIn K mainGlobals "_law_pick" = some (some (.ref f31)))
    (l31 : K.lookup f31 = some ⟨oc31, od31, .func (PySem.W.fnOf "_law_pick" "_law_pick" (defArgs s_law_pick) (defBody s_law_pick) (defScope s_law_pick) .none kV31 dc31 pm31 an31 cd31 ct31), sl31⟩)
    (c31 : PySem.W.codeIn K cd31 "_law_pick" = true)
    (k31 : PySem.W.keepIn K (.ref f31) = true)
    (a32 : PySem.W.nsIn K mainGlobals "_law_key_drawn" = some (some (.ref f32)))
    (l32 : K.lookup f32 = some ⟨oc32, od32, .func (PySem.W.fnOf "_law_key_drawn" "_law_key_drawn" (defArgs s_law_key_drawn) (defBody s_law_key_drawn) (defScope s_law_key_drawn) .none kV32 dc32 pm32 an32 cd32 ct32), sl32⟩)
    (c32 : PySem.W.codeIn K cd32 "_law_key_drawn" = true)
    (k32 : PySem.W.keepIn K (.ref f32) = true)
    (a33 : PySem.W.nsIn K mainGlobals "_law_value_drawn" = some (some (.ref f33)))
    (l33 : K.lookup f33 = some ⟨oc33, od33, .func (PySem.W.fnOf "_law_value_drawn" "_law_value_drawn" (defArgs s_law_value_drawn) (defBody s_law_value_drawn) (defScope s_law_value_drawn) .none kV33 dc33 pm33 an33 cd33 ct33), sl33⟩)
    (c33 : PySem.W.codeIn K cd33 "_law_value_drawn" = true)
    (k33 : PySem.W.keepIn K (.ref f33) = true)
    (a34 : PySem.W.nsIn K mainGlobals "_law_single_drawn" = some (some (.ref f34)))
    (l34 : K.lookup f34 = some ⟨oc34, od34, .func (PySem.W.fnOf "_law_single_drawn" "_law_single_drawn" (defArgs s_law_single_drawn) (defBody s_law_single_drawn) (defScope s_law_single_drawn) .none kV34 dc34 pm34 an34 cd34 ct34), sl34⟩)
    (c34 : PySem.W.codeIn K cd34 "_law_single_drawn" = true)
    (k34 : PySem.W.keepIn K (.ref f34) = true)
    (a35 : PySem.W.nsIn K mainGlobals "_law_deed_drawn" = some (some (.ref f35)))
    (l35 : K.lookup f35 = some ⟨oc35, od35, .func (PySem.W.fnOf "_law_deed_drawn" "_law_deed_drawn" (defArgs s_law_deed_drawn) (defBody s_law_deed_drawn) (defScope s_law_deed_drawn) .none kV35 dc35 pm35 an35 cd35 ct35), sl35⟩)
    (c35 : PySem.W.codeIn K cd35 "_law_deed_drawn" = true)
    (k35 : PySem.W.keepIn K (.ref f35) = true)
    (a36 : PySem.W.nsIn K mainGlobals "_law_lone_fits" = some (some (.ref f36)))
    (l36 : K.lookup f36 = some ⟨oc36, od36, .func (PySem.W.fnOf "_law_lone_fits" "_law_lone_fits" (defArgs s_law_lone_fits) (defBody s_law_lone_fits) (defScope s_law_lone_fits) .none kV36 dc36 pm36 an36 cd36 ct36), sl36⟩)
    (c36 : PySem.W.codeIn K cd36 "_law_lone_fits" = true)
    (k36 : PySem.W.keepIn K (.ref f36) = true)
    (a37 : PySem.W.nsIn K mainGlobals "_law_fits" = some (some (.ref f37)))
    (l37 : K.lookup f37 = some ⟨oc37, od37, .func (PySem.W.fnOf "_law_fits" "_law_fits" (defArgs s_law_fits) (defBody s_law_fits) (defScope s_law_fits) .none kV37 dc37 pm37 an37 cd37 ct37), sl37⟩)
    (c37 : PySem.W.codeIn K cd37 "_law_fits" = true)
    (k37 : PySem.W.keepIn K (.ref f37) = true)
    (a38 : PySem.W.nsIn K mainGlobals "_law_history_drawn" = some (some (.ref f38)))
    (l38 : K.lookup f38 = some ⟨oc38, od38, .func (PySem.W.fnOf "_law_history_drawn" "_law_history_drawn" (defArgs s_law_history_drawn) (defBody s_law_history_drawn) (defScope s_law_history_drawn) .none kV38 dc38 pm38 an38 cd38 ct38), sl38⟩)
    (c38 : PySem.W.codeIn K cd38 "_law_history_drawn" = true)
    (k38 : PySem.W.keepIn K (.ref f38) = true)
    (a39 : PySem.W.nsIn K mainGlobals "_law_spoilt" = some (some (.ref f39)))
    (l39 : K.lookup f39 = some ⟨oc39, od39, .func (PySem.W.fnOf "_law_spoilt" "_law_spoilt" (defArgs s_law_spoilt) (defBody s_law_spoilt) (defScope s_law_spoilt) .none kV39 dc39 pm39 an39 cd39 ct39), sl39⟩)
    (c39 : PySem.W.codeIn K cd39 "_law_spoilt" = true)
    (k39 : PySem.W.keepIn K (.ref f39) = true)
    (a40 : PySem.W.nsIn K mainGlobals "_law_right" = some (some (.ref f40)))
    (l40 : K.lookup f40 = some ⟨oc40, od40, .func (PySem.W.fnOf "_law_right" "_law_right" (defArgs s_law_right) (defBody s_law_right) (defScope s_law_right) .none kV40 dc40 pm40 an40 cd40 ct40), sl40⟩)
    (c40 : PySem.W.codeIn K cd40 "_law_right" = true)
    (k40 : PySem.W.keepIn K (.ref f40) = true)
    (a41 : PySem.W.nsIn K mainGlobals "law" = some (some (.ref f41)))
    (l41 : K.lookup f41 = some ⟨oc41, od41, .func (PySem.W.fnOf "law" "law" (defArgs s_law) (defBody s_law) (defScope s_law) .none kV41 dc41 pm41 an41 cd41 ct41), sl41⟩)
    (c41 : PySem.W.codeIn K cd41 "law" = true)
    (k41 : PySem.W.keepIn K (.ref f41) = true)
    (x0 : PySem.W.nsIn K mainGlobals "MAX_HOUSES" = some (some (.int (9) tk0)))
    (x1 : PySem.W.nsIn K mainGlobals "MAX_CIRCLE" = some (some (.int (7) tk1)))
    (x2 : PySem.W.nsIn K mainGlobals "MAX_CLIENTS" = some (some (.int (5) tk2)))
    (x3 : PySem.W.nsIn K mainGlobals "MAX_SIGNS" = some (some (.int (12) tk3)))
    (x4 : PySem.W.nsIn K mainGlobals "MAX_LOT" = some (some (.int (6) tk4)))
    (x5 : PySem.W.nsIn K mainGlobals "MAX_NEST" = some (some (.int (12) tk5)))
    (x6 : PySem.W.nsIn K mainGlobals "MAX_STRING" = some (some (.int (3000) tk6)))
    (x7 : PySem.W.nsIn K mainGlobals "MAX_KEY_SIGNS" = some (some (.int (8) tk7)))
    (x8 : PySem.W.nsIn K mainGlobals "MAX_NUMBER" = some (some (.int (999999999999999999999999999999999999999999999999999999999999) tk8)))
    (x9 : PySem.W.nsIn K mainGlobals "MAX_SHORT_NUMBER" = some (some (.int (999999999999) tk9)))
    (x10 : PySem.W.nsIn K mainGlobals "LETTERS" = some (some (.str "abcdefghijklmnopqrstuvwxyz" tk10)))
    (x11 : PySem.W.nsIn K mainGlobals "SIGNS" = some (some (.str "abcdefghijklmnopqrstuvwxyz0123456789 " tk11)))
    (x12 : PySem.W.nsIn K mainGlobals "MOST_MEMBERS" = some (some (.int (3000) tk12)))
    (y0 : PySem.W.nsIn K mainGlobals "abs" = some none)
    (y1 : PySem.W.nsIn K mainGlobals "all" = some none)
    (y2 : PySem.W.nsIn K mainGlobals "bool" = some none)
    (y3 : PySem.W.nsIn K mainGlobals "int" = some none)
    (y4 : PySem.W.nsIn K mainGlobals "isinstance" = some none)
    (y5 : PySem.W.nsIn K mainGlobals "len" = some none)
    (y6 : PySem.W.nsIn K mainGlobals "list" = some none)
    (y7 : PySem.W.nsIn K mainGlobals "max" = some none)
    (y8 : PySem.W.nsIn K mainGlobals "min" = some none)
    (y9 : PySem.W.nsIn K mainGlobals "range" = some none)
    (y10 : PySem.W.nsIn K mainGlobals "repr" = some none)
    (y11 : PySem.W.nsIn K mainGlobals "str" = some none)
    (y12 : PySem.W.nsIn K mainGlobals "tuple" = some none)
    (y13 : PySem.W.nsIn K mainGlobals "zip" = some none)
    (xx0 : PySem.W.nsIn K mainGlobals "LOT_WORDS" = some (some (.ref xa0)))
    (xl0 : K.lookup xa0 = some ⟨.type "tuple", xd0, .seq (List.toArray [.str "put" xk0_0, .str "drop" xk0_1, .str "get" xk0_2, .str "add" xk0_3, .str "swap" xk0_4]) xn0, xs0⟩)
    (wx0 : PySem.W.nsIn K mainGlobals "DEED_FORMS" = some (some (.ref wa0)))
    (wl0 : K.lookup wa0 = some ⟨.type "dict", none, .dict (List.toArray [⟨wh0_0, .str "put" wk0_0, .ref f15⟩, ⟨wh0_1, .str "drop" wk0_1, .ref f16⟩, ⟨wh0_2, .str "get" wk0_2, .ref f16⟩, ⟨wh0_3, .str "add" wk0_3, .ref f17⟩, ⟨wh0_4, .str "swap" wk0_4, .ref f18⟩, ⟨wh0_5, .str "list" wk0_5, .ref f19⟩, ⟨wh0_6, .str "all" wk0_6, .ref f20⟩, ⟨wh0_7, .str "circle" wk0_7, .ref f22⟩]) wn0, #[]⟩)
    (wH0_0 : wh0_0 = PyData.keyHash w.params "put")
    (wH0_1 : wh0_1 = PyData.keyHash w.params "drop")
    (wH0_2 : wh0_2 = PyData.keyHash w.params "get")
    (wH0_3 : wh0_3 = PyData.keyHash w.params "add")
    (wH0_4 : wh0_4 = PyData.keyHash w.params "swap")
    (wH0_5 : wh0_5 = PyData.keyHash w.params "list")
    (wH0_6 : wh0_6 = PyData.keyHash w.params "all")
    (wH0_7 : wh0_7 = PyData.keyHash w.params "circle")
    (wz0 : (wa0 == sysModules) = false)
    : ∃ fd : FuncData, (∀ (s : Shared) (v : Value), BindsTo s fd ⟨[v], []⟩ [("script", v)]) ∧ ∀ base : Heap, K.In base → base.Ns mainGlobals mg → FnOk l.prog w K mg base CX0 29 fa fd ["script"] (sp_law K) := by
  have e := hfa.symm.trans (PySem.W.mg_of X G a41)
  cases e
  have F0 := fun_mk (st := s_is_number) l0 c0 k0
  have b0 := F0.binds (ps := ["value"]) fun _ _ _ _ _ _ us hl => match us, hl with | [_], _ => rfl
  have F1 := fun_mk (st := s_is_within) l1 c1 k1
  have b1 := F1.binds (ps := ["value", "least", "most"]) fun _ _ _ _ _ _ us hl => match us, hl with | [_, _, _], _ => rfl
  have F2 := fun_mk (st := s_is_client) l2 c2 k2
  have b2 := F2.binds (ps := ["value"]) fun _ _ _ _ _ _ us hl => match us, hl with | [_], _ => rfl
  have F3 := fun_mk (st := s_is_circle) l3 c3 k3
  have b3 := F3.binds (ps := ["value"]) fun _ _ _ _ _ _ us hl => match us, hl with | [_], _ => rfl
  have F4 := fun_mk (st := s_are_indices) l4 c4 k4
  have b4 := F4.binds (ps := ["value", "many"]) fun _ _ _ _ _ _ us hl => match us, hl with | [_, _], _ => rfl
  have F5 := fun_mk (st := s_are_ascending) l5 c5 k5
  have b5 := F5.binds (ps := ["row"]) fun _ _ _ _ _ _ us hl => match us, hl with | [_], _ => rfl
  have F6 := fun_mk (st := s_is_made_of) l6 c6 k6
  have b6 := F6.binds (ps := ["value", "signs", "most"]) fun _ _ _ _ _ _ us hl => match us, hl with | [_, _, _], _ => rfl
  have F7 := fun_mk (st := s_is_key) l7 c7 k7
  have b7 := F7.binds (ps := ["value"]) fun _ _ _ _ _ _ us hl => match us, hl with | [_], _ => rfl
  have F8 := fun_mk (st := s_is_short_number) l8 c8 k8
  have b8 := F8.binds (ps := ["value"]) fun _ _ _ _ _ _ us hl => match us, hl with | [_], _ => rfl
  have F9 := fun_mk (st := s_is_value) l9 c9 k9
  have b9 := F9.binds (ps := ["value"]) fun _ _ _ _ _ _ us hl => match us, hl with | [_], _ => rfl
  have F10 := fun_mk (st := s_is_plain) l10 c10 k10
  have b10 := F10.binds (ps := ["value"]) fun _ _ _ _ _ _ us hl => match us, hl with | [_], _ => rfl
  have F11 := fun_mk (st := s_is_plain_within) l11 c11 k11
  have b11 := F11.binds (ps := ["value", "most"]) fun _ _ _ _ _ _ us hl => match us, hl with | [_, _], _ => rfl
  have F12 := fun_mk (st := s_is_single) l12 c12 k12
  have b12 := F12.binds (ps := ["value"]) fun _ _ _ _ _ _ us hl => match us, hl with | [_], _ => rfl
  have F13 := fun_mk (st := s_is_worth) l13 c13 k13
  have b13 := F13.binds (ps := ["value"]) fun _ _ _ _ _ _ us hl => match us, hl with | [_], _ => rfl
  have F14 := fun_mk (st := s_word_of) l14 c14 k14
  have b14 := F14.binds (ps := ["value"]) fun _ _ _ _ _ _ us hl => match us, hl with | [_], _ => rfl
  have F15 := fun_mk (st := s_is_put) l15 c15 k15
  have b15 := F15.binds (ps := ["value"]) fun _ _ _ _ _ _ us hl => match us, hl with | [_], _ => rfl
  have F16 := fun_mk (st := s_is_of_key) l16 c16 k16
  have b16 := F16.binds (ps := ["value"]) fun _ _ _ _ _ _ us hl => match us, hl with | [_], _ => rfl
  have F17 := fun_mk (st := s_is_add) l17 c17 k17
  have b17 := F17.binds (ps := ["value"]) fun _ _ _ _ _ _ us hl => match us, hl with | [_], _ => rfl
  have F18 := fun_mk (st := s_is_swap) l18 c18 k18
  have b18 := F18.binds (ps := ["value"]) fun _ _ _ _ _ _ us hl => match us, hl with | [_], _ => rfl
  have F19 := fun_mk (st := s_is_list) l19 c19 k19
  have b19 := F19.binds (ps := ["value"]) fun _ _ _ _ _ _ us hl => match us, hl with | [_], _ => rfl
  have F20 := fun_mk (st := s_is_all) l20 c20 k20
  have b20 := F20.binds (ps := ["value"]) fun _ _ _ _ _ _ us hl => match us, hl with | [_], _ => rfl
  have F21 := fun_mk (st := s_has_lot_size) l21 c21 k21
  have b21 := F21.binds (ps := ["value"]) fun _ _ _ _ _ _ us hl => match us, hl with | [_], _ => rfl
  have F22 := fun_mk (st := s_is_of_circle) l22 c22 k22
  have b22 := F22.binds (ps := ["value"]) fun _ _ _ _ _ _ us hl => match us, hl with | [_], _ => rfl
  have F23 := fun_mk (st := s_is_deed) l23 c23 k23
  have b23 := F23.binds (ps := ["value"]) fun _ _ _ _ _ _ us hl => match us, hl with | [_], _ => rfl
  have F24 := fun_mk (st := s_is_row) l24 c24 k24
  have b24 := F24.binds (ps := ["value"]) fun _ _ _ _ _ _ us hl => match us, hl with | [_], _ => rfl
  have F25 := fun_mk (st := s_is_named) l25 c25 k25
  have b25 := F25.binds (ps := ["value"]) fun _ _ _ _ _ _ us hl => match us, hl with | [_], _ => rfl
  have F26 := fun_mk (st := s_is_length) l26 c26 k26
  have b26 := F26.binds (ps := ["value"]) fun _ _ _ _ _ _ us hl => match us, hl with | [_], _ => rfl
  have F27 := fun_mk (st := s_are_rows) l27 c27 k27
  have b27 := F27.binds (ps := ["value"]) fun _ _ _ _ _ _ us hl => match us, hl with | [_], _ => rfl
  have F28 := fun_mk (st := s_does_fit_clients) l28 c28 k28
  have b28 := F28.binds (ps := ["history"]) fun _ _ _ _ _ _ us hl => match us, hl with | [_], _ => rfl
  have F29 := fun_mk (st := s_law_dice) l29 c29 k29
  have b29 := F29.binds (ps := ["script", "spot"]) fun _ _ _ _ _ _ us hl => match us, hl with | [_, _], _ => rfl
  have F30 := fun_mk (st := s_law_roll) l30 c30 k30
  have b30 := F30.binds (ps := ["dice", "most"]) fun _ _ _ _ _ _ us hl => match us, hl with | [_, _], _ => rfl
  have F31 := fun_mk (st := s_law_pick) l31 c31 k31
  have b31 := F31.binds (ps := ["dice", "items"]) fun _ _ _ _ _ _ us hl => match us, hl with | [_, _], _ => rfl
  have F32 := fun_mk (st := s_law_key_drawn) l32 c32 k32
  have b32 := F32.binds (ps := ["dice"]) fun _ _ _ _ _ _ us hl => match us, hl with | [_], _ => rfl
  have F33 := fun_mk (st := s_law_value_drawn) l33 c33 k33
  have b33 := F33.binds (ps := ["dice"]) fun _ _ _ _ _ _ us hl => match us, hl with | [_], _ => rfl
  have F34 := fun_mk (st := s_law_single_drawn) l34 c34 k34
  have b34 := F34.binds (ps := ["dice"]) fun _ _ _ _ _ _ us hl => match us, hl with | [_], _ => rfl
  have F35 := fun_mk (st := s_law_deed_drawn) l35 c35 k35
  have b35 := F35.binds (ps := ["dice"]) fun _ _ _ _ _ _ us hl => match us, hl with | [_], _ => rfl
  have F36 := fun_mk (st := s_law_lone_fits) l36 c36 k36
  have b36 := F36.binds (ps := ["events"]) fun _ _ _ _ _ _ us hl => match us, hl with | [_], _ => rfl
  have F37 := fun_mk (st := s_law_fits) l37 c37 k37
  have b37 := F37.binds (ps := ["history"]) fun _ _ _ _ _ _ us hl => match us, hl with | [_], _ => rfl
  have F38 := fun_mk (st := s_law_history_drawn) l38 c38 k38
  have b38 := F38.binds (ps := ["dice"]) fun _ _ _ _ _ _ us hl => match us, hl with | [_], _ => rfl
  have F39 := fun_mk (st := s_law_spoilt) l39 c39 k39
  have b39 := F39.binds (ps := ["dice", "history"]) fun _ _ _ _ _ _ us hl => match us, hl with | [_, _], _ => rfl
  have F40 := fun_mk (st := s_law_right) l40 c40 k40
  have b40 := F40.binds (ps := ["dice"]) fun _ _ _ _ _ _ us hl => match us, hl with | [_], _ => rfl
  have F41 := fun_mk (st := s_law) l41 c41 k41
  have b41 := F41.binds (ps := ["script"]) fun _ _ _ _ _ _ us hl => match us, hl with | [_], _ => rfl
  have T : Txt K mg ⟨f0, f1, f2, f3, f4, f5, f6, f7, f8, f9, f10, f11, f12, f13, f14, f15, f16, f17, f18, f19, f20, f21, f22, f23, f24, f25, f26, f27, f28, f29, f30, f31, f32, f33, f34, f35, f36, f37, f38, f39, f40, fa⟩ ⟨_, _, _, _, _, _, _, _, _, _, _, _, _, _, _, _, _, _, _, _, _, _, _, _, _, _, _, _, _, _, _, _, _, _, _, _, _, _, _, _, _, _⟩ :=
    ⟨PySem.W.mg_of X G a0,
     F0,
     b0,
     PySem.W.mg_of X G a1,
     F1,
     b1,
     PySem.W.mg_of X G a2,
     F2,
     b2,
     PySem.W.mg_of X G a3,
     F3,
     b3,
     PySem.W.mg_of X G a4,
     F4,
     b4,
     PySem.W.mg_of X G a5,
     F5,
     b5,
     PySem.W.mg_of X G a6,
     F6,
     b6,
     PySem.W.mg_of X G a7,
     F7,
     b7,
     PySem.W.mg_of X G a8,
     F8,
     b8,
     PySem.W.mg_of X G a9,
     F9,
     b9,
     PySem.W.mg_of X G a10,
     F10,
     b10,
     PySem.W.mg_of X G a11,
     F11,
     b11,
     PySem.W.mg_of X G a12,
     F12,
     b12,
     PySem.W.mg_of X G a13,
     F13,
     b13,
     PySem.W.mg_of X G a14,
     F14,
     b14,
     PySem.W.mg_of X G a15,
     F15,
     b15,
     PySem.W.mg_of X G a16,
     F16,
     b16,
     PySem.W.mg_of X G a17,
     F17,
     b17,
     PySem.W.mg_of X G a18,
     F18,
     b18,
     PySem.W.mg_of X G a19,
     F19,
     b19,
     PySem.W.mg_of X G a20,
     F20,
     b20,
     PySem.W.mg_of X G a21,
     F21,
     b21,
     PySem.W.mg_of X G a22,
     F22,
     b22,
     PySem.W.mg_of X G a23,
     F23,
     b23,
     PySem.W.mg_of X G a24,
     F24,
     b24,
     PySem.W.mg_of X G a25,
     F25,
     b25,
     PySem.W.mg_of X G a26,
     F26,
     b26,
     PySem.W.mg_of X G a27,
     F27,
     b27,
     PySem.W.mg_of X G a28,
     F28,
     b28,
     PySem.W.mg_of X G a29,
     F29,
     b29,
     PySem.W.mg_of X G a30,
     F30,
     b30,
     PySem.W.mg_of X G a31,
     F31,
     b31,
     PySem.W.mg_of X G a32,
     F32,
     b32,
     PySem.W.mg_of X G a33,
     F33,
     b33,
     PySem.W.mg_of X G a34,
     F34,
     b34,
     PySem.W.mg_of X G a35,
     F35,
     b35,
     PySem.W.mg_of X G a36,
     F36,
     b36,
     PySem.W.mg_of X G a37,
     F37,
     b37,
     PySem.W.mg_of X G a38,
     F38,
     b38,
     PySem.W.mg_of X G a39,
     F39,
     b39,
     PySem.W.mg_of X G a40,
     F40,
     b40,
     PySem.W.mg_of X G a41,
     F41,
     b41,
     ⟨_, PySem.W.mg_of X G x0⟩,
     ⟨_, PySem.W.mg_of X G x1⟩,
     ⟨_, PySem.W.mg_of X G x2⟩,
     ⟨_, PySem.W.mg_of X G x3⟩,
     ⟨_, PySem.W.mg_of X G x4⟩,
     ⟨_, PySem.W.mg_of X G x5⟩,
     ⟨_, PySem.W.mg_of X G x6⟩,
     ⟨_, PySem.W.mg_of X G x7⟩,
     ⟨_, PySem.W.mg_of X G x8⟩,
     ⟨_, PySem.W.mg_of X G x9⟩,
     ⟨_, PySem.W.mg_of X G x10⟩,
     ⟨_, PySem.W.mg_of X G x11⟩,
     ⟨_, PySem.W.mg_of X G x12⟩,
     ⟨xa0, PySem.W.mg_of X G xx0, fun _ => .inr ⟨_, _, _, xl0, rfl, rfl, by rw [sizeLine_eq]; exact (by decide : 5 ≤ 16777216), (.cons ⟨_, rfl⟩ (.cons ⟨_, rfl⟩ (.cons ⟨_, rfl⟩ (.cons ⟨_, rfl⟩ (.cons ⟨_, rfl⟩ .nil)))))⟩⟩,
     PySem.W.mg_none_of X G y0,
     PySem.W.mg_none_of X G y1,
     PySem.W.mg_none_of X G y2,
     PySem.W.mg_none_of X G y3,
     PySem.W.mg_none_of X G y4,
     PySem.W.mg_none_of X G y5,
     PySem.W.mg_none_of X G y6,
     PySem.W.mg_none_of X G y7,
     PySem.W.mg_none_of X G y8,
     PySem.W.mg_none_of X G y9,
     PySem.W.mg_none_of X G y10,
     PySem.W.mg_none_of X G y11,
     PySem.W.mg_none_of X G y12,
     PySem.W.mg_none_of X G y13⟩
  have U : Tab K w mg ⟨f0, f1, f2, f3, f4, f5, f6, f7, f8, f9, f10, f11, f12, f13, f14, f15, f16, f17, f18, f19, f20, f21, f22, f23, f24, f25, f26, f27, f28, f29, f30, f31, f32, f33, f34, f35, f36, f37, f38, f39, f40, fa⟩ :=
    ⟨⟨wa0, PySem.W.mg_of X G wx0, tab_mk (rows := [("put", wh0_0, wk0_0, f15), ("drop", wh0_1, wk0_1, f16), ("get", wh0_2, wk0_2, f16), ("add", wh0_3, wk0_3, f17), ("swap", wh0_4, wk0_4, f18), ("list", wh0_5, wk0_5, f19), ("all", wh0_6, wk0_6, f20), ("circle", wh0_7, wk0_7, f22)]) wl0 ⟨wH0_0, wH0_1, wH0_2, wH0_3, wH0_4, wH0_5, wH0_6, wH0_7, trivial⟩ wz0⟩⟩
  exact ⟨PySem.W.fnOf "law" "law" (defArgs s_law) (defBody s_law) (defScope s_law) .none kV41 dc41 pm41 an41 cd41 ct41, fun s v => .of_eq rfl, fun base _ _ => ok_law T U⟩
theorem walk {l : PySem.W.OpenLaw} {q : Program} {loose : List Str} {XP : (Str → Option Value) → Heap → Prop} {YP : World → Heap → Prop} {d : DefRec} {K : Params → PySem.W.Frag} (hn : l.most = some 63) (hdf : d.params.defaults = [])
    (hY : ∀ (w : World) (h : Heap), YP w h → (K w.params).In h)
    (F : ∀ (w : World) (mg : Str → Option Value) (fa : Addr) (h : Heap), (K w.params).In h → h.Ns mainGlobals mg → mg d.name = some (.ref fa) →
      ∃ fd : FuncData, (∀ (s : Shared) (u : Value), BindsTo s fd ⟨[u], []⟩ [("script", u)]) ∧ ∀ base : Heap, (K w.params).In base → base.Ns mainGlobals mg → FnOk l.prog w (K w.params) mg base CX0 29 fa fd ["script"] (sp_law (K w.params))) :
    PySem.W.WalkO q loose XP YP l.row.toRowW d [] (fun f vs => PySem.call f vs) :=
  L2.walk_of (n := 63) (k := 29) (x := "script") (CX := fun _ => CX0) (sp := fun w => sp_law (K w.params)) hn (by decide) hdf ⟨rfl, by decide, by decide⟩ hY F (fun _ _ a ns hl _ hS => ⟨a, ns, rfl, hS, hl, fun _ => rfl⟩) fun _ _ _ _ _ z => z
end K0
open PySem PySem.W PyProof.Rows
set_option maxRecDepth 100000 in
set_option maxHeartbeats 0 in
theorem PySem.Challenge.cw_halvesmeet_k53_whole_histories_that_fit_holds : PySem.Challenge.rw_halvesmeet_k53_whole_histories_that_fit.Holds := by
  w_on; o_law; k_head; (case hw => w_witness2)
  k_fill
  refine K0.walk (l := PySem.Challenge.rw_halvesmeet_k53_whole_histories_that_fit) rfl rfl (fun w h Y => PySem.W.kIn_of Y) ?F
  case F =>
    intro w mg fa h KX G hmg
    refine' K0.all_mk KX G hmg ?a0 ?l0 ?c0 ?k0 ?a1 ?l1 ?c1 ?k1 ?a2 ?l2 ?c2 ?k2 ?a3 ?l3 ?c3 ?k3 ?a4 ?l4 ?c4 ?k4 ?a5 ?l5 ?c5 ?k5 ?a6 ?l6 ?c6 ?k6 ?a7 ?l7 ?c7 ?k7 ?a8 ?l8 ?c8 ?k8 ?a9 ?l9 ?c9 ?k9 ?a10 ?l10 ?c10 ?k10 ?a11 ?l11 ?c11 ?k11 ?a12 ?l12 ?c12 ?k12 ?a13 ?l13 ?c13 ?k13 ?a14 ?l14 ?c14 ?k14 ?a15 ?l15 ?c15 ?k15 ?a16 ?l16 ?c16 ?k16 ?a17 ?l17 ?c17 ?k17 ?a18 ?l18 ?c18 ?k18 ?a19 ?l19 ?c19 ?k19 ?a20 ?l20 ?c20 ?k20 ?a21 ?l21 ?c21 ?k21 ?a22 ?l22 ?c22 ?k22 ?a23 ?l23 ?c23 ?k23 ?a24 ?l24 ?c24 ?k24 ?a25 ?l25 ?c25 ?k25 ?a26 ?l26 ?c26 ?k26 ?a27 ?l27 ?c27 ?k27 ?a28 ?l28 ?c28 ?k28 ?a29 ?l29 ?c29 ?k29 ?a30 ?l30 ?c30 ?k30 ?a31 ?l31 ?c31 ?k31 ?a32 ?l32 ?c32 ?k32 ?a33 ?l33 ?c33 ?k33 ?a34 ?l34 ?c34 ?k34 ?a35 ?l35 ?c35 ?k35 ?a36 ?l36 ?c36 ?k36 ?a37 ?l37 ?c37 ?k37 ?a38 ?l38 ?c38 ?k38 ?a39 ?l39 ?c39 ?k39 ?a40 ?l40 ?c40 ?k40 ?a41 ?l41 ?c41 ?k41 ?x0 ?x1 ?x2 ?x3 ?x4 ?x5 ?x6 ?x7 ?x8 ?x9 ?x10 ?x11 ?x12 ?y0 ?y1 ?y2 ?y3 ?y4 ?y5 ?y6 ?y7 ?y8 ?y9 ?y10 ?y11 ?y12 ?y13 ?xx0 ?xl0 ?wx0 ?wl0 ?wH0_0 ?wH0_1 ?wH0_2 ?wH0_3 ?wH0_4 ?wH0_5 ?wH0_6 ?wH0_7 ?wz0
    (case a0 => k_is)
    (case l0 => k_is)
    (case c0 => k_is)
    (case k0 => k_is)
    (case a1 => k_is)
    (case l1 => k_is)
    (case c1 => k_is)
    (case k1 => k_is)
    (case a2 => k_is)
    (case l2 => k_is)
    (case c2 => k_is)
    (case k2 => k_is)
    (case a3 => k_is)
    (case l3 => k_is)
    (case c3 => k_is)
    (case k3 => k_is)
    (case a4 => k_is)
    (case l4 => k_is)
    (case c4 => k_is)
    (case k4 => k_is)
    (case a5 => k_is)
    (case l5 => k_is)
    (case c5 => k_is)
    (case k5 => k_is)
    (case a6 => k_is)
    (case l6 => k_is)
    (case c6 => k_is)
    (case k6 => k_is)
    (case a7 => k_is)
    (case l7 => k_is)
    (case c7 => k_is)
    (case k7 => k_is)
    (case a8 => k_is)
    (case l8 => k_is)
    (case c8 => k_is)
    (case k8 => k_is)
    (case a9 => k_is)
    (case l9 => k_is)
    (case c9 => k_is)
    (case k9 => k_is)
    (case a10 => k_is)
    (case l10 => k_is)
    (case c10 => k_is)
    (case k10 => k_is)
    (case a11 => k_is)
    (case l11 => k_is)
    (case c11 => k_is)
    (case k11 => k_is)
    (case a12 => k_is)
    (case l12 => k_is)
    (case c12 => k_is)
    (case k12 => k_is)
    (case a13 => k_is)
    (case l13 => k_is)
    (case c13 => k_is)
    (case k13 => k_is)
    (case a14 => k_is)
    (case l14 => k_is)
    (case c14 => k_is)
    (case k14 => k_is)
    (case a15 => k_is)
    (case l15 => k_is)
    (case c15 => k_is)
    (case k15 => k_is)
    (case a16 => k_is)
    (case l16 => k_is)
    (case c16 => k_is)
    (case k16 => k_is)
    (case a17 => k_is)
    (case l17 => k_is)
    (case c17 => k_is)
    (case k17 => k_is)
    (case a18 => k_is)
    (case l18 => k_is)
    (case c18 => k_is)
    (case k18 => k_is)
    (case a19 => k_is)
    (case l19 => k_is)
    (case c19 => k_is)
    (case k19 => k_is)
    (case a20 => k_is)
    (case l20 => k_is)
    (case c20 => k_is)
    (case k20 => k_is)
    (case a21 => k_is)
    (case l21 => k_is)
    (case c21 => k_is)
    (case k21 => k_is)
    (case a22 => k_is)
    (case l22 => k_is)
    (case c22 => k_is)
    (case k22 => k_is)
    (case a23 => k_is)
    (case l23 => k_is)
    (case c23 => k_is)
    (case k23 => k_is)
    (case a24 => k_is)
    (case l24 => k_is)
    (case c24 => k_is)
    (case k24 => k_is)
    (case a25 => k_is)
    (case l25 => k_is)
    (case c25 => k_is)
    (case k25 => k_is)
    (case a26 => k_is)
    (case l26 => k_is)
    (case c26 => k_is)
    (case k26 => k_is)
    (case a27 => k_is)
    (case l27 => k_is)
    (case c27 => k_is)
    (case k27 => k_is)
    (case a28 => k_is)
    (case l28 => k_is)
    (case c28 => k_is)
    (case k28 => k_is)
    (case a29 => k_is)
    (case l29 => k_is)
    (case c29 => k_is)
    (case k29 => k_is)
    (case a30 => k_is)
    (case l30 => k_is)
    (case c30 => k_is)
    (case k30 => k_is)
    (case a31 => k_is)
    (case l31 => k_is)
    (case c31 => k_is)
    (case k31 => k_is)
    (case a32 => k_is)
    (case l32 => k_is)
    (case c32 => k_is)
    (case k32 => k_is)
    (case a33 => k_is)
    (case l33 => k_is)
    (case c33 => k_is)
    (case k33 => k_is)
    (case a34 => k_is)
    (case l34 => k_is)
    (case c34 => k_is)
    (case k34 => k_is)
    (case a35 => k_is)
    (case l35 => k_is)
    (case c35 => k_is)
    (case k35 => k_is)
    (case a36 => k_is)
    (case l36 => k_is)
    (case c36 => k_is)
    (case k36 => k_is)
    (case a37 => k_is)
    (case l37 => k_is)
    (case c37 => k_is)
    (case k37 => k_is)
    (case a38 => k_is)
    (case l38 => k_is)
    (case c38 => k_is)
    (case k38 => k_is)
    (case a39 => k_is)
    (case l39 => k_is)
    (case c39 => k_is)
    (case k39 => k_is)
    (case a40 => k_is)
    (case l40 => k_is)
    (case c40 => k_is)
    (case k40 => k_is)
    (case a41 => k_is)
    (case l41 => k_is)
    (case c41 => k_is)
    (case k41 => k_is)
    (case x0 => k_is)
    (case x1 => k_is)
    (case x2 => k_is)
    (case x3 => k_is)
    (case x4 => k_is)
    (case x5 => k_is)
    (case x6 => k_is)
    (case x7 => k_is)
    (case x8 => k_is)
    (case x9 => k_is)
    (case x10 => k_is)
    (case x11 => k_is)
    (case x12 => k_is)
    (case y0 => k_is)
    (case y1 => k_is)
    (case y2 => k_is)
    (case y3 => k_is)
    (case y4 => k_is)
    (case y5 => k_is)
    (case y6 => k_is)
    (case y7 => k_is)
    (case y8 => k_is)
    (case y9 => k_is)
    (case y10 => k_is)
    (case y11 => k_is)
    (case y12 => k_is)
    (case y13 => k_is)
    (case xx0 => k_is)
    (case xl0 => k_is)
    (case wx0 => k_is)
    (case wl0 => k_is)
    (case wH0_0 => rfl)
    (case wH0_1 => rfl)
    (case wH0_2 => rfl)
    (case wH0_3 => rfl)
    (case wH0_4 => rfl)
    (case wH0_5 => rfl)
    (case wH0_6 => rfl)
    (case wH0_7 => rfl)
    (case wz0 => rfl)

