import PyProof.Rows.All
import Wide.All
import OpenK.AllK
import Wide.FinOn
import HandS.ForMost
import HandS.Evl
import HandS.IsInst
import HandS.StrMore
import HandS.Strs
import HandS.TupAny
import HandS.Zip
import HandS.Walk
import HandS.Wide
import HandS.Conv
import HandS.Property
import HandS.ClsMeth
import HandS.CallLocal
import HandS.Defaults
import HandS.FStr
import HandS.TupMul
import HandS.Exc
import HandS.ExcInit
import HandS.ExcField
import PySem.Challenge.RW_halvesmeet_k07_errors_of_deeds
import HandS.SetFor
import KE.KEqNest
import PyProof.NeKinds
import HandS.DictComp
import KE.GoesEnum
import KE.GoesMore
import HandS.SortRule
import HandS.DictTup
import KE.KItemsList
import HandS.NoneIn
import KE.KRevSl
import HandS.WordsExc
import HandS.ExcOwn
import HandS.TryMany
import HandS.Lambda
import HandS.EndTab
import HandS.TupLe
import HandS.Iter
set_option Elab.async false
set_option linter.all false
set_option maxRecDepth 100000
set_option maxHeartbeats 8000000
namespace K0
open PySem L2 Evl
/-- a dict of the top from texts to defs -/
def TabF (K : PySem.W.Frag) (w : World) (a : Addr) (ts : List (Str × Addr)) : Prop := ∃ es n, KDict K w a es n ∧ ∀ z, PySem.W.nsIn K a z = some ((ts.lookup z).map Value.ref)
/-- an own class has what isinstance asks -/
structure ObjC (K : PySem.W.Frag) (C : Addr) : Prop where
  ca : PySem.W.findIn K (.ref C) "__class__" = some (some (.builtin "object.__class__"))
  cg : PySem.W.specialIn K (.builtin "object.__class__") "__get__" = some (some (.builtin "getset_descriptor.__get__"))
  ct : PySem.W.takesIn K (.builtin "object.__class__") = some true
  co : PySem.W.mroIn K C (.type "object") = some true
def bmVE : List Value := [.type "ValueError", .type "Exception", .type "BaseException", .type "object"]
/-- an exception class over ValueError, without an __init__ of its own -/
structure ExcF (K : PySem.W.Frag) (mg : Str → Option Value) (x : Str) (C : Addr) : Prop where
  g : mg x = some (.ref C)
  q : PySem.W.excIn K C bmVE "ValueError.__new__" = true
  k : PySem.W.keepIn K (.ref C) = true
  b : PySem.W.subIn K (.ref C) (.type "BaseException") = some true
  t : PySem.W.typeIn K (.ref C) = some (.type "type")
/-- an exception class over ValueError with an __init__ of its own alone -/
def oexIn (K : PySem.W.Frag) (C : Addr) : Bool := match K.lookup C with
  | some ⟨.type "type", _, .cls cd, sl⟩ => (match cd.mro, sl.toList with
    | .ref C' :: bm, [_, _, _, _, some (.builtin n), _] => C' == C && n == "ValueError.__new__" && !cd.hasDel && cd.hasDict && PySem.HandSPX.refsVE bm
    | _, _ => false)
  | _ => false
theorem oexC {K : PySem.W.Frag} {C : Addr} (q : oexIn K C = true) (sa : PySem.W.findIn K (.ref C) "__setattr__" = some (some (.builtin "object.__setattr__"))) (exC : PySem.W.subIn K (.ref C) (.type "BaseException") = some true)
    (tyC : PySem.W.typeIn K (.ref C) = some (.type "type")) (kC : PySem.W.keepIn K (.ref C) = true) : OexC K C := by
  refine ⟨?_, sa, exC, tyC, kC⟩
  unfold oexIn at q
  split at q
  · rename_i dd cd sl ho
    split at q
    · rename_i C' bm k0 k1 k2 k3 n k5 hm hs
      simp only [Bool.and_eq_true, beq_iff_eq, Bool.not_eq_true'] at q
      obtain ⟨⟨⟨⟨rfl, rfl⟩, hdel⟩, hdi⟩, ht⟩ := q
      obtain ⟨nm, bs, mro, ns, qn, hd, sn, sub, ab, col, del⟩ := cd
      dsimp only at hm hdel hdi
      subst hm hdel hdi
      have hsl : sl = #[k0, k1, k2, k3, some (.builtin "ValueError.__new__"), k5] := by
        obtain ⟨l⟩ := sl
        simp only at hs
        rw [hs]
      subst hsl
      exact ⟨nm, qn, ns, bs, bm, sn, sub, ab, col, dd, k0, k1, k2, k3, k5, ho, ht⟩
    · cases q
  · cases q
structure ExI (K : PySem.W.Frag) (mg : Str → Option Value) (x : Str) (C fI : Addr) : Prop where
  g : mg x = some (.ref C)
  o : OexC K C
  x : XfC K C
  i : PySem.W.findIn K (.ref C) "__init__" = some (some (.ref fI))
  t : PySem.W.typeIn K (.ref fI) = some (.type "function")
def top (i : Nat) : Stmt := PySem.Challenge.pw_halvesmeet_k07_errors_of_deeds.main.body.getD i (.Pass ⟨0, 0, 0, 0⟩)
abbrev s_is_number : Stmt := top 15
abbrev N_is_number : List Str := ["value"]
theorem sc_is_number : FnScope N_is_number ["value"] (defScope s_is_number) := ⟨rfl, rfl, rfl, by decide +kernel, rfl, by decide +kernel, by decide +kernel⟩
abbrev s_is_within : Stmt := top 16
abbrev N_is_within : List Str := ["value", "least", "most"]
theorem sc_is_within : FnScope N_is_within ["value", "least", "most"] (defScope s_is_within) := ⟨rfl, rfl, rfl, by decide +kernel, rfl, by decide +kernel, by decide +kernel⟩
abbrev s_is_circle : Stmt := top 17
abbrev N_is_circle : List Str := ["value"]
theorem sc_is_circle : FnScope N_is_circle ["value"] (defScope s_is_circle) := ⟨rfl, rfl, rfl, by decide +kernel, rfl, by decide +kernel, by decide +kernel⟩
abbrev s_are_indices : Stmt := top 18
abbrev N_are_indices : List Str := ["value", "many", "index"]
theorem sc_are_indices : FnScope N_are_indices ["value", "many"] (defScope s_are_indices) := ⟨rfl, rfl, rfl, by decide +kernel, rfl, by decide +kernel, by decide +kernel⟩
abbrev s_are_ascending : Stmt := top 19
abbrev N_are_ascending : List Str := ["row", "one", "other"]
theorem sc_are_ascending : FnScope N_are_ascending ["row"] (defScope s_are_ascending) := ⟨rfl, rfl, rfl, by decide +kernel, rfl, by decide +kernel, by decide +kernel⟩
abbrev s_is_made_of : Stmt := top 20
abbrev N_is_made_of : List Str := ["value", "signs", "most"]
theorem sc_is_made_of : FnScope N_is_made_of ["value", "signs", "most"] (defScope s_is_made_of) := ⟨rfl, rfl, rfl, by decide +kernel, rfl, by decide +kernel, by decide +kernel⟩
abbrev s_is_key : Stmt := top 21
abbrev N_is_key : List Str := ["value"]
theorem sc_is_key : FnScope N_is_key ["value"] (defScope s_is_key) := ⟨rfl, rfl, rfl, by decide +kernel, rfl, by decide +kernel, by decide +kernel⟩
abbrev s_is_short_number : Stmt := top 22
abbrev N_is_short_number : List Str := ["value"]
theorem sc_is_short_number : FnScope N_is_short_number ["value"] (defScope s_is_short_number) := ⟨rfl, rfl, rfl, by decide +kernel, rfl, by decide +kernel, by decide +kernel⟩
abbrev s_is_value : Stmt := top 23
abbrev N_is_value : List Str := ["value"]
theorem sc_is_value : FnScope N_is_value ["value"] (defScope s_is_value) := ⟨rfl, rfl, rfl, by decide +kernel, rfl, by decide +kernel, by decide +kernel⟩
abbrev s_are_pairs : Stmt := top 29
abbrev N_are_pairs : List Str := ["value", "key", "worth"]
theorem sc_are_pairs : FnScope N_are_pairs ["value"] (defScope s_are_pairs) := ⟨rfl, rfl, rfl, by decide +kernel, rfl, by decide +kernel, by decide +kernel⟩
abbrev s_is_worth : Stmt := top 30
abbrev N_is_worth : List Str := ["value"]
theorem sc_is_worth : FnScope N_is_worth ["value"] (defScope s_is_worth) := ⟨rfl, rfl, rfl, by decide +kernel, rfl, by decide +kernel, by decide +kernel⟩
abbrev s_word_of : Stmt := top 31
abbrev N_word_of : List Str := ["value"]
theorem sc_word_of : FnScope N_word_of ["value"] (defScope s_word_of) := ⟨rfl, rfl, rfl, by decide +kernel, rfl, by decide +kernel, by decide +kernel⟩
abbrev s_is_put : Stmt := top 32
abbrev N_is_put : List Str := ["value"]
theorem sc_is_put : FnScope N_is_put ["value"] (defScope s_is_put) := ⟨rfl, rfl, rfl, by decide +kernel, rfl, by decide +kernel, by decide +kernel⟩
abbrev s_is_of_key : Stmt := top 33
abbrev N_is_of_key : List Str := ["value"]
theorem sc_is_of_key : FnScope N_is_of_key ["value"] (defScope s_is_of_key) := ⟨rfl, rfl, rfl, by decide +kernel, rfl, by decide +kernel, by decide +kernel⟩
abbrev s_is_add : Stmt := top 34
abbrev N_is_add : List Str := ["value"]
theorem sc_is_add : FnScope N_is_add ["value"] (defScope s_is_add) := ⟨rfl, rfl, rfl, by decide +kernel, rfl, by decide +kernel, by decide +kernel⟩
abbrev s_is_swap : Stmt := top 35
abbrev N_is_swap : List Str := ["value"]
theorem sc_is_swap : FnScope N_is_swap ["value"] (defScope s_is_swap) := ⟨rfl, rfl, rfl, by decide +kernel, rfl, by decide +kernel, by decide +kernel⟩
abbrev s_is_list : Stmt := top 36
abbrev N_is_list : List Str := ["value"]
theorem sc_is_list : FnScope N_is_list ["value"] (defScope s_is_list) := ⟨rfl, rfl, rfl, by decide +kernel, rfl, by decide +kernel, by decide +kernel⟩
abbrev s_is_all : Stmt := top 37
abbrev N_is_all : List Str := ["value", "part"]
theorem sc_is_all : FnScope N_is_all ["value"] (defScope s_is_all) := ⟨rfl, rfl, rfl, by decide +kernel, rfl, by decide +kernel, by decide +kernel⟩
abbrev s_has_lot_size : Stmt := top 38
abbrev N_has_lot_size : List Str := ["value"]
theorem sc_has_lot_size : FnScope N_has_lot_size ["value"] (defScope s_has_lot_size) := ⟨rfl, rfl, rfl, by decide +kernel, rfl, by decide +kernel, by decide +kernel⟩
abbrev s_is_of_circle : Stmt := top 39
abbrev N_is_of_circle : List Str := ["value"]
theorem sc_is_of_circle : FnScope N_is_of_circle ["value"] (defScope s_is_of_circle) := ⟨rfl, rfl, rfl, by decide +kernel, rfl, by decide +kernel, by decide +kernel⟩
abbrev s_is_deed : Stmt := top 41
abbrev N_is_deed : List Str := ["value", "word", "form"]
theorem sc_is_deed : FnScope N_is_deed ["value"] (defScope s_is_deed) := ⟨rfl, rfl, rfl, by decide +kernel, rfl, by decide +kernel, by decide +kernel⟩
abbrev s_check_deed : Stmt := top 42
abbrev N_check_deed : List Str := ["deed"]
theorem sc_check_deed : FnScope N_check_deed ["deed"] (defScope s_check_deed) := ⟨rfl, rfl, rfl, by decide +kernel, rfl, by decide +kernel, by decide +kernel⟩
abbrev s_is_read : Stmt := top 43
abbrev N_is_read : List Str := ["deed"]
theorem sc_is_read : FnScope N_is_read ["deed"] (defScope s_is_read) := ⟨rfl, rfl, rfl, by decide +kernel, rfl, by decide +kernel, by decide +kernel⟩
abbrev s_keys_of : Stmt := top 44
abbrev N_keys_of : List Str := ["deed", "part"]
theorem sc_keys_of : FnScope N_keys_of ["deed"] (defScope s_keys_of) := ⟨rfl, rfl, rfl, by decide +kernel, rfl, by decide +kernel, by decide +kernel⟩
abbrev s_lacks_room : Stmt := top 45
abbrev N_lacks_room : List Str := ["pairs", "key"]
theorem sc_lacks_room : FnScope N_lacks_room ["pairs", "key"] (defScope s_lacks_room) := ⟨rfl, rfl, rfl, by decide +kernel, rfl, by decide +kernel, by decide +kernel⟩
abbrev s_exchanged : Stmt := top 46
abbrev N_exchanged : List Str := ["pairs", "key", "worth", "later"]
theorem sc_exchanged : FnScope N_exchanged ["pairs", "key", "worth"] (defScope s_exchanged) := ⟨rfl, rfl, rfl, by decide +kernel, rfl, by decide +kernel, by decide +kernel⟩
abbrev s_do_put : Stmt := top 47
abbrev N_do_put : List Str := ["pairs", "deed", "_", "key", "worth"]
theorem sc_do_put : FnScope N_do_put ["pairs", "deed"] (defScope s_do_put) := ⟨rfl, rfl, rfl, by decide +kernel, rfl, by decide +kernel, by decide +kernel⟩
abbrev s_do_drop : Stmt := top 48
abbrev N_do_drop : List Str := ["pairs", "deed"]
theorem sc_do_drop : FnScope N_do_drop ["pairs", "deed"] (defScope s_do_drop) := ⟨rfl, rfl, rfl, by decide +kernel, rfl, by decide +kernel, by decide +kernel⟩
abbrev s_do_get : Stmt := top 49
abbrev N_do_get : List Str := ["pairs", "deed"]
theorem sc_do_get : FnScope N_do_get ["pairs", "deed"] (defScope s_do_get) := ⟨rfl, rfl, rfl, by decide +kernel, rfl, by decide +kernel, by decide +kernel⟩
abbrev s_do_add : Stmt := top 50
abbrev N_do_add : List Str := ["pairs", "deed", "_", "key", "number", "old", "total"]
theorem sc_do_add : FnScope N_do_add ["pairs", "deed"] (defScope s_do_add) := ⟨rfl, rfl, rfl, by decide +kernel, rfl, by decide +kernel, by decide +kernel⟩
abbrev s_do_swap : Stmt := top 51
abbrev N_do_swap : List Str := ["pairs", "deed", "_", "key", "old", "new"]
theorem sc_do_swap : FnScope N_do_swap ["pairs", "deed"] (defScope s_do_swap) := ⟨rfl, rfl, rfl, by decide +kernel, rfl, by decide +kernel, by decide +kernel⟩
abbrev s_do_list : Stmt := top 52
abbrev N_do_list : List Str := ["pairs", "deed", "_", "first", "last", "key"]
theorem sc_do_list : FnScope N_do_list ["pairs", "deed"] (defScope s_do_list) := ⟨rfl, rfl, rfl, by decide +kernel, rfl, by decide +kernel, by decide +kernel⟩
abbrev s_do_all : Stmt := top 53
abbrev N_do_all : List Str := ["pairs", "deed", "later", "answers", "index", "part", "answer"]
theorem sc_do_all : FnScope N_do_all ["pairs", "deed"] (defScope s_do_all) := ⟨rfl, rfl, rfl, by decide +kernel, rfl, by decide +kernel, by decide +kernel⟩
abbrev s_do_circle : Stmt := top 54
abbrev N_do_circle : List Str := ["pairs", "deed"]
theorem sc_do_circle : FnScope N_do_circle ["pairs", "deed"] (defScope s_do_circle) := ⟨rfl, rfl, rfl, by decide +kernel, rfl, by decide +kernel, by decide +kernel⟩
abbrev s_do_deed : Stmt := top 56
abbrev N_do_deed : List Str := ["pairs", "deed", "step"]
theorem sc_do_deed : FnScope N_do_deed ["pairs", "deed"] (defScope s_do_deed) := ⟨rfl, rfl, rfl, by decide +kernel, rfl, by decide +kernel, by decide +kernel⟩
abbrev s_done : Stmt := top 57
abbrev N_done : List Str := ["pairs", "deed", "later", "answer"]
theorem sc_done : FnScope N_done ["pairs", "deed"] (defScope s_done) := ⟨rfl, rfl, rfl, by decide +kernel, rfl, by decide +kernel, by decide +kernel⟩
abbrev s_run_deeds : Stmt := top 58
abbrev N_run_deeds : List Str := ["pairs", "deeds", "deed", "answers", "later", "answer"]
theorem sc_run_deeds : FnScope N_run_deeds ["pairs", "deeds"] (defScope s_run_deeds) := ⟨rfl, rfl, rfl, by decide +kernel, rfl, by decide +kernel, by decide +kernel⟩
abbrev s_check_pairs : Stmt := top 59
abbrev N_check_pairs : List Str := ["pairs"]
theorem sc_check_pairs : FnScope N_check_pairs ["pairs"] (defScope s_check_pairs) := ⟨rfl, rfl, rfl, by decide +kernel, rfl, by decide +kernel, by decide +kernel⟩
abbrev s_by_keys : Stmt := top 60
abbrev N_by_keys : List Str := ["table", "key"]
theorem sc_by_keys : FnScope N_by_keys ["table"] (defScope s_by_keys) := ⟨rfl, rfl, rfl, by decide +kernel, rfl, by decide +kernel, by decide +kernel⟩
abbrev s_law_dice : Stmt := top 62
abbrev N_law_dice : List Str := ["script", "spot", "cell", "left"]
theorem sc_law_dice : FnScope N_law_dice ["script", "spot"] (defScope s_law_dice) := ⟨rfl, rfl, rfl, by decide +kernel, rfl, by decide +kernel, by decide +kernel⟩
abbrev s_law_roll : Stmt := top 63
abbrev N_law_roll : List Str := ["dice", "most", "found", "one", "two"]
theorem sc_law_roll : FnScope N_law_roll ["dice", "most"] (defScope s_law_roll) := ⟨rfl, rfl, rfl, by decide +kernel, rfl, by decide +kernel, by decide +kernel⟩
abbrev s_law_pick : Stmt := top 64
abbrev N_law_pick : List Str := ["dice", "items"]
theorem sc_law_pick : FnScope N_law_pick ["dice", "items"] (defScope s_law_pick) := ⟨rfl, rfl, rfl, by decide +kernel, rfl, by decide +kernel, by decide +kernel⟩
abbrev s_law_met : Stmt := top 65
abbrev N_law_met : List Str := ["call"]
theorem sc_law_met : FnScope N_law_met ["call"] (defScope s_law_met) := ⟨rfl, rfl, rfl, by decide +kernel, rfl, by decide +kernel, by decide +kernel⟩
abbrev s_law_right : Stmt := top 66
abbrev N_law_right : List Str := ["dice", "wrong", "pairs", "sign", "some", "deed", "row", "told", "due", "word"]
theorem sc_law_right : FnScope N_law_right ["dice"] (defScope s_law_right) := ⟨rfl, rfl, rfl, by decide +kernel, rfl, by decide +kernel, by decide +kernel⟩
abbrev s_law : Stmt := top 67
abbrev N_law : List Str := ["script", "spot", "dice", "full", "sign", "told"]
theorem sc_law : FnScope N_law ["script"] (defScope s_law) := ⟨rfl, rfl, rfl, by decide +kernel, rfl, by decide +kernel, by decide +kernel⟩
structure Ad where
  is_number : Addr
  is_within : Addr
  is_circle : Addr
  are_indices : Addr
  are_ascending : Addr
  is_made_of : Addr
  is_key : Addr
  is_short_number : Addr
  is_value : Addr
  are_pairs : Addr
  is_worth : Addr
  word_of : Addr
  is_put : Addr
  is_of_key : Addr
  is_add : Addr
  is_swap : Addr
  is_list : Addr
  is_all : Addr
  has_lot_size : Addr
  is_of_circle : Addr
  is_deed : Addr
  check_deed : Addr
  is_read : Addr
  keys_of : Addr
  lacks_room : Addr
  exchanged : Addr
  do_put : Addr
  do_drop : Addr
  do_get : Addr
  do_add : Addr
  do_swap : Addr
  do_list : Addr
  do_all : Addr
  do_circle : Addr
  do_deed : Addr
  done : Addr
  run_deeds : Addr
  check_pairs : Addr
  by_keys : Addr
  law_dice : Addr
  law_roll : Addr
  law_pick : Addr
  law_met : Addr
  law_right : Addr
  law : Addr
  EInvalidDeed : Addr
  EInvalidState : Addr
structure Fd where
  is_number : FuncData
  is_within : FuncData
  is_circle : FuncData
  are_indices : FuncData
  are_ascending : FuncData
  is_made_of : FuncData
  is_key : FuncData
  is_short_number : FuncData
  is_value : FuncData
  are_pairs : FuncData
  is_worth : FuncData
  word_of : FuncData
  is_put : FuncData
  is_of_key : FuncData
  is_add : FuncData
  is_swap : FuncData
  is_list : FuncData
  is_all : FuncData
  has_lot_size : FuncData
  is_of_circle : FuncData
  is_deed : FuncData
  check_deed : FuncData
  is_read : FuncData
  keys_of : FuncData
  lacks_room : FuncData
  exchanged : FuncData
  do_put : FuncData
  do_drop : FuncData
  do_get : FuncData
  do_add : FuncData
  do_swap : FuncData
  do_list : FuncData
  do_all : FuncData
  do_circle : FuncData
  do_deed : FuncData
  done : FuncData
  run_deeds : FuncData
  check_pairs : FuncData
  by_keys : FuncData
  law_dice : FuncData
  law_roll : FuncData
  law_pick : FuncData
  law_met : FuncData
  law_right : FuncData
  law : FuncData
/-- what the top has written -/
structure Txt (K : PySem.W.Frag) (mg : Str → Option Value) (A : Ad) (D : Fd) : Prop where
  g_is_number : mg "is_number" = some (.ref A.is_number)
  F_is_number : Fun K "is_number" "is_number" s_is_number A.is_number D.is_number
  b_is_number : Binds K D.is_number ["value"] []
  g_is_within : mg "is_within" = some (.ref A.is_within)
  F_is_within : Fun K "is_within" "is_within" s_is_within A.is_within D.is_within
  b_is_within : Binds K D.is_within ["value", "least", "most"] []
  g_is_circle : mg "is_circle" = some (.ref A.is_circle)
  F_is_circle : Fun K "is_circle" "is_circle" s_is_circle A.is_circle D.is_circle
  b_is_circle : Binds K D.is_circle ["value"] []
  g_are_indices : mg "are_indices" = some (.ref A.are_indices)
  F_are_indices : Fun K "are_indices" "are_indices" s_are_indices A.are_indices D.are_indices
  b_are_indices : Binds K D.are_indices ["value", "many"] []
  g_are_ascending : mg "are_ascending" = some (.ref A.are_ascending)
  F_are_ascending : Fun K "are_ascending" "are_ascending" s_are_ascending A.are_ascending D.are_ascending
  b_are_ascending : Binds K D.are_ascending ["row"] []
  g_is_made_of : mg "is_made_of" = some (.ref A.is_made_of)
  F_is_made_of : Fun K "is_made_of" "is_made_of" s_is_made_of A.is_made_of D.is_made_of
  b_is_made_of : Binds K D.is_made_of ["value", "signs", "most"] []
  g_is_key : mg "is_key" = some (.ref A.is_key)
  F_is_key : Fun K "is_key" "is_key" s_is_key A.is_key D.is_key
  b_is_key : Binds K D.is_key ["value"] []
  g_is_short_number : mg "is_short_number" = some (.ref A.is_short_number)
  F_is_short_number : Fun K "is_short_number" "is_short_number" s_is_short_number A.is_short_number D.is_short_number
  b_is_short_number : Binds K D.is_short_number ["value"] []
  g_is_value : mg "is_value" = some (.ref A.is_value)
  F_is_value : Fun K "is_value" "is_value" s_is_value A.is_value D.is_value
  b_is_value : Binds K D.is_value ["value"] []
  g_are_pairs : mg "are_pairs" = some (.ref A.are_pairs)
  F_are_pairs : Fun K "are_pairs" "are_pairs" s_are_pairs A.are_pairs D.are_pairs
  b_are_pairs : Binds K D.are_pairs ["value"] []
  g_is_worth : mg "_is_worth" = some (.ref A.is_worth)
  F_is_worth : Fun K "_is_worth" "_is_worth" s_is_worth A.is_worth D.is_worth
  b_is_worth : Binds K D.is_worth ["value"] []
  g_word_of : mg "word_of" = some (.ref A.word_of)
  F_word_of : Fun K "word_of" "word_of" s_word_of A.word_of D.word_of
  b_word_of : Binds K D.word_of ["value"] []
  g_is_put : mg "_is_put" = some (.ref A.is_put)
  F_is_put : Fun K "_is_put" "_is_put" s_is_put A.is_put D.is_put
  b_is_put : Binds K D.is_put ["value"] []
  g_is_of_key : mg "_is_of_key" = some (.ref A.is_of_key)
  F_is_of_key : Fun K "_is_of_key" "_is_of_key" s_is_of_key A.is_of_key D.is_of_key
  b_is_of_key : Binds K D.is_of_key ["value"] []
  g_is_add : mg "_is_add" = some (.ref A.is_add)
  F_is_add : Fun K "_is_add" "_is_add" s_is_add A.is_add D.is_add
  b_is_add : Binds K D.is_add ["value"] []
  g_is_swap : mg "_is_swap" = some (.ref A.is_swap)
  F_is_swap : Fun K "_is_swap" "_is_swap" s_is_swap A.is_swap D.is_swap
  b_is_swap : Binds K D.is_swap ["value"] []
  g_is_list : mg "_is_list" = some (.ref A.is_list)
  F_is_list : Fun K "_is_list" "_is_list" s_is_list A.is_list D.is_list
  b_is_list : Binds K D.is_list ["value"] []
  g_is_all : mg "_is_all" = some (.ref A.is_all)
  F_is_all : Fun K "_is_all" "_is_all" s_is_all A.is_all D.is_all
  b_is_all : Binds K D.is_all ["value"] []
  g_has_lot_size : mg "_has_lot_size" = some (.ref A.has_lot_size)
  F_has_lot_size : Fun K "_has_lot_size" "_has_lot_size" s_has_lot_size A.has_lot_size D.has_lot_size
  b_has_lot_size : Binds K D.has_lot_size ["value"] []
  g_is_of_circle : mg "_is_of_circle" = some (.ref A.is_of_circle)
  F_is_of_circle : Fun K "_is_of_circle" "_is_of_circle" s_is_of_circle A.is_of_circle D.is_of_circle
  b_is_of_circle : Binds K D.is_of_circle ["value"] []
  g_is_deed : mg "is_deed" = some (.ref A.is_deed)
  F_is_deed : Fun K "is_deed" "is_deed" s_is_deed A.is_deed D.is_deed
  b_is_deed : Binds K D.is_deed ["value"] []
  g_check_deed : mg "check_deed" = some (.ref A.check_deed)
  F_check_deed : Fun K "check_deed" "check_deed" s_check_deed A.check_deed D.check_deed
  b_check_deed : Binds K D.check_deed ["deed"] []
  g_is_read : mg "is_read" = some (.ref A.is_read)
  F_is_read : Fun K "is_read" "is_read" s_is_read A.is_read D.is_read
  b_is_read : Binds K D.is_read ["deed"] []
  g_keys_of : mg "keys_of" = some (.ref A.keys_of)
  F_keys_of : Fun K "keys_of" "keys_of" s_keys_of A.keys_of D.keys_of
  b_keys_of : Binds K D.keys_of ["deed"] []
  g_lacks_room : mg "_lacks_room" = some (.ref A.lacks_room)
  F_lacks_room : Fun K "_lacks_room" "_lacks_room" s_lacks_room A.lacks_room D.lacks_room
  b_lacks_room : Binds K D.lacks_room ["pairs", "key"] []
  g_exchanged : mg "_exchanged" = some (.ref A.exchanged)
  F_exchanged : Fun K "_exchanged" "_exchanged" s_exchanged A.exchanged D.exchanged
  b_exchanged : Binds K D.exchanged ["pairs", "key", "worth"] []
  g_do_put : mg "_do_put" = some (.ref A.do_put)
  F_do_put : Fun K "_do_put" "_do_put" s_do_put A.do_put D.do_put
  b_do_put : Binds K D.do_put ["pairs", "deed"] []
  g_do_drop : mg "_do_drop" = some (.ref A.do_drop)
  F_do_drop : Fun K "_do_drop" "_do_drop" s_do_drop A.do_drop D.do_drop
  b_do_drop : Binds K D.do_drop ["pairs", "deed"] []
  g_do_get : mg "_do_get" = some (.ref A.do_get)
  F_do_get : Fun K "_do_get" "_do_get" s_do_get A.do_get D.do_get
  b_do_get : Binds K D.do_get ["pairs", "deed"] []
  g_do_add : mg "_do_add" = some (.ref A.do_add)
  F_do_add : Fun K "_do_add" "_do_add" s_do_add A.do_add D.do_add
  b_do_add : Binds K D.do_add ["pairs", "deed"] []
  g_do_swap : mg "_do_swap" = some (.ref A.do_swap)
  F_do_swap : Fun K "_do_swap" "_do_swap" s_do_swap A.do_swap D.do_swap
  b_do_swap : Binds K D.do_swap ["pairs", "deed"] []
  g_do_list : mg "_do_list" = some (.ref A.do_list)
  F_do_list : Fun K "_do_list" "_do_list" s_do_list A.do_list D.do_list
  b_do_list : Binds K D.do_list ["pairs", "deed"] []
  g_do_all : mg "_do_all" = some (.ref A.do_all)
  F_do_all : Fun K "_do_all" "_do_all" s_do_all A.do_all D.do_all
  b_do_all : Binds K D.do_all ["pairs", "deed"] []
  g_do_circle : mg "_do_circle" = some (.ref A.do_circle)
  F_do_circle : Fun K "_do_circle" "_do_circle" s_do_circle A.do_circle D.do_circle
  b_do_circle : Binds K D.do_circle ["pairs", "deed"] []
  g_do_deed : mg "do_deed" = some (.ref A.do_deed)
  F_do_deed : Fun K "do_deed" "do_deed" s_do_deed A.do_deed D.do_deed
  b_do_deed : Binds K D.do_deed ["pairs", "deed"] []
  g_done : mg "done" = some (.ref A.done)
  F_done : Fun K "done" "done" s_done A.done D.done
  b_done : Binds K D.done ["pairs", "deed"] []
  g_run_deeds : mg "run_deeds" = some (.ref A.run_deeds)
  F_run_deeds : Fun K "run_deeds" "run_deeds" s_run_deeds A.run_deeds D.run_deeds
  b_run_deeds : Binds K D.run_deeds ["pairs", "deeds"] []
  g_check_pairs : mg "_check_pairs" = some (.ref A.check_pairs)
  F_check_pairs : Fun K "_check_pairs" "_check_pairs" s_check_pairs A.check_pairs D.check_pairs
  b_check_pairs : Binds K D.check_pairs ["pairs"] []
  g_by_keys : mg "by_keys" = some (.ref A.by_keys)
  F_by_keys : Fun K "by_keys" "by_keys" s_by_keys A.by_keys D.by_keys
  b_by_keys : Binds K D.by_keys ["table"] []
  g_law_dice : mg "_law_dice" = some (.ref A.law_dice)
  F_law_dice : Fun K "_law_dice" "_law_dice" s_law_dice A.law_dice D.law_dice
  b_law_dice : Binds K D.law_dice ["script", "spot"] []
  g_law_roll : mg "_law_roll" = some (.ref A.law_roll)
  F_law_roll : Fun K "_law_roll" "_law_roll" s_law_roll A.law_roll D.law_roll
  b_law_roll : Binds K D.law_roll ["dice", "most"] []
  g_law_pick : mg "_law_pick" = some (.ref A.law_pick)
  F_law_pick : Fun K "_law_pick" "_law_pick" s_law_pick A.law_pick D.law_pick
  b_law_pick : Binds K D.law_pick ["dice", "items"] []
  g_law_met : mg "_law_met" = some (.ref A.law_met)
  F_law_met : Fun K "_law_met" "_law_met" s_law_met A.law_met D.law_met
  b_law_met : Binds K D.law_met ["call"] []
  g_law_right : mg "_law_right" = some (.ref A.law_right)
  F_law_right : Fun K "_law_right" "_law_right" s_law_right A.law_right D.law_right
  b_law_right : Binds K D.law_right ["dice"] []
  g_law : mg "law" = some (.ref A.law)
  F_law : Fun K "law" "law" s_law A.law D.law
  b_law : Binds K D.law ["script"] []
  c_MAX_HOUSES : ∃ t, mg "MAX_HOUSES" = some (.int (9) t)
  c_MAX_CIRCLE : ∃ t, mg "MAX_CIRCLE" = some (.int (7) t)
  c_MAX_KEYS : ∃ t, mg "MAX_KEYS" = some (.int (24) t)
  c_MAX_SIGNS : ∃ t, mg "MAX_SIGNS" = some (.int (12) t)
  c_MAX_LOT : ∃ t, mg "MAX_LOT" = some (.int (6) t)
  c_MAX_KEY_SIGNS : ∃ t, mg "MAX_KEY_SIGNS" = some (.int (8) t)
  c_MAX_NUMBER : ∃ t, mg "MAX_NUMBER" = some (.int (999999999999999999999999999999999999999999999999999999999999) t)
  c_MAX_SHORT_NUMBER : ∃ t, mg "MAX_SHORT_NUMBER" = some (.int (999999999999) t)
  c_LETTERS : ∃ t, mg "LETTERS" = some (.str "abcdefghijklmnopqrstuvwxyz" t)
  c_SIGNS : ∃ t, mg "SIGNS" = some (.str "abcdefghijklmnopqrstuvwxyz0123456789 " t)
  c_MAX_SUM : ∃ t, mg "MAX_SUM" = some (.int (999999999999) t)
  t_LOT_WORDS : ∃ a, mg "LOT_WORDS" = some (.ref a) ∧ ∀ H, SqT K H a [.str "put", .str "drop", .str "get", .str "add", .str "swap"]
  t_READ_WORDS : ∃ a, mg "READ_WORDS" = some (.ref a) ∧ ∀ H, SqT K H a [.str "get", .str "list"]
  t_BREAKS : ∃ a, mg "BREAKS" = some (.ref a) ∧ ∀ H, SqT K H a [.str "kind", .str "bound", .str "full", .str "other"]
  b_abs : mg "abs" = none
  b_all : mg "all" = none
  b_bool : mg "bool" = none
  b_dict : mg "dict" = none
  b_enumerate : mg "enumerate" = none
  b_int : mg "int" = none
  b_isinstance : mg "isinstance" = none
  b_len : mg "len" = none
  b_max : mg "max" = none
  b_min : mg "min" = none
  b_range : mg "range" = none
  b_sorted : mg "sorted" = none
  b_str : mg "str" = none
  b_tuple : mg "tuple" = none
  b_zip : mg "zip" = none
  e_InvalidDeed : ExcF K mg "InvalidDeed" A.EInvalidDeed
  e_InvalidState : ExcF K mg "InvalidState" A.EInvalidState
  m_InvalidDeed_InvalidDeed : PySem.W.exmOne K (.ref A.EInvalidDeed) (.ref A.EInvalidDeed) = some true
  m_InvalidDeed_InvalidState : PySem.W.exmOne K (.ref A.EInvalidDeed) (.ref A.EInvalidState) = some false
  m_InvalidState_InvalidDeed : PySem.W.exmOne K (.ref A.EInvalidState) (.ref A.EInvalidDeed) = some false
  m_InvalidState_InvalidState : PySem.W.exmOne K (.ref A.EInvalidState) (.ref A.EInvalidState) = some true
/-- the tables of defs -/
structure Tab (K : PySem.W.Frag) (w : World) (mg : Str → Option Value) (A : Ad) : Prop where
  d_DEED_FORMS : ∃ a, mg "DEED_FORMS" = some (.ref a) ∧ TabF K w a [("put", A.is_put), ("drop", A.is_of_key), ("get", A.is_of_key), ("add", A.is_add), ("swap", A.is_swap), ("list", A.is_list), ("all", A.is_all), ("circle", A.is_of_circle)]
  d_DEED_STEPS : ∃ a, mg "DEED_STEPS" = some (.ref a) ∧ TabF K w a [("put", A.do_put), ("drop", A.do_drop), ("get", A.do_get), ("add", A.do_add), ("swap", A.do_swap), ("list", A.do_list), ("all", A.do_all), ("circle", A.do_circle)]
/-! ### values as data -/
inductive D where
  | non | bl (b : Bool) | int (i : Int) | str (s : Str) | tup (ds : List D) | oth
mutual
inductive Rp (K : PySem.W.Frag) (H : Hp) : V → D → Prop where
  | non : Rp K H .non .non
  | bl (b : Bool) : Rp K H (.bl b) (.bl b)
  | int (i : Int) : Rp K H (.int i) (.int i)
  | str (s : Str) : Rp K H (.str s) (.str s)
  | tup {a : Addr} {xs : List V} {ds : List D} : SqT K H a xs → RpAll K H xs ds → Rp K H (.ref a) (.tup ds)
  | lst {a : Addr} {xs : List V} : H a = some (.lst xs) → Rp K H (.ref a) .oth
  | dct {a : Addr} {kvs : List (Key × V)} : H a = some (.dK kvs) → Rp K H (.ref a) .oth
inductive RpAll (K : PySem.W.Frag) (H : Hp) : List V → List D → Prop where
  | nil : RpAll K H [] []
  | cons {v : V} {vs : List V} {d : D} {ds : List D} : Rp K H v d → RpAll K H vs ds → RpAll K H (v :: vs) (d :: ds)
end
section
variable {K : PySem.W.Frag} {H H' : Hp}
mutual
theorem Rp.ex {v : V} {d : D} (e : Ex H H') : Rp K H v d → Rp K H' v d
  | .non => .non
  | .bl b => .bl b
  | .int i => .int i
  | .str s => .str s
  | .tup h r => .tup (ex_t e h) (RpAll.ex e r)
  | .lst h => .lst (e _ _ h)
  | .dct h => .dct (e _ _ h)
theorem RpAll.ex {vs : List V} {ds : List D} (e : Ex H H') : RpAll K H vs ds → RpAll K H' vs ds
  | .nil => .nil
  | .cons h r => .cons (Rp.ex e h) (RpAll.ex e r)
end
theorem RpAll.len {vs : List V} {ds : List D} : RpAll K H vs ds → vs.length = ds.length
  | .nil => rfl
  | .cons _ r => by rw [List.length_cons, List.length_cons, RpAll.len r]
theorem RpAll.inv {v : V} {vs : List V} {ds : List D} (h : RpAll K H (v :: vs) ds) : ∃ d es, ds = d :: es ∧ Rp K H v d ∧ RpAll K H vs es := by
  cases h with
  | cons h r => exact ⟨_, _, rfl, h, r⟩
theorem RpAll.get : ∀ (vs : List V) (ds : List D) (i : Nat) (v : V), RpAll K H vs ds → vs[i]? = some v → ∃ d, ds[i]? = some d ∧ Rp K H v d
  | [], _, _, _, _, h => by simp at h
  | u :: us, ds, 0, v, h, e => by
    have e' := Option.some.inj e
    subst e'
    obtain ⟨d, es, rfl, h1, _⟩ := h.inv
    exact ⟨d, rfl, h1⟩
  | u :: us, ds, i + 1, v, h, e => by
    obtain ⟨d, es, rfl, _, h2⟩ := h.inv
    obtain ⟨c, h3, h4⟩ := RpAll.get us es i v h2 (by simpa using e)
    exact ⟨c, by simpa using h3, h4⟩
theorem RpAll.app {vs ws : List V} {ds es : List D} : RpAll K H vs ds → RpAll K H ws es → RpAll K H (vs ++ ws) (ds ++ es)
  | .nil, s => s
  | .cons h r, s => .cons h (RpAll.app r s)
/-! ### kinds -/
def D.isInt : D → Bool
  | .int _ => true | .bl _ => true | _ => false
def D.isBl : D → Bool
  | .bl _ => true | _ => false
def D.isStr : D → Bool
  | .str _ => true | _ => false
def D.isTup : D → Bool
  | .tup _ => true | _ => false
theorem ty_tup {a : Addr} {xs : List V} (h : SqT K H a xs) : TyX K H (.ref a) (.type "tuple") := by
  rcases h with (h | ⟨o, h⟩) | ⟨o, its, n, lk, c, _⟩
  · exact .base (.tup h)
  · exact .fTuple h
  · exact .kTuple lk c
theorem rc_isi {n : String} {f : D → Bool} (hn : kitB "NoneType" n = some (f .non)) (hb : ∀ b, kitB "bool" n = some (f (.bl b))) (hi : ∀ i, kitB "int" n = some (f (.int i))) (hs : ∀ s, kitB "str" n = some (f (.str s)))
    (ht : ∀ ds, kitB "tuple" n = some (f (.tup ds))) (hl : kitB "list" n = some (f .oth)) (hd : kitB "dict" n = some (f .oth)) {x : V} {d : D} (h : Rp K H x d) : RC (rIsi K) [x, .ty n] H (.bl (f d)) := fun H1 e Q q => by
  have h1 := Rp.ex e h
  cases h1 with
  | non => exact ⟨_, _, _, _, _, rfl, .ty _, .base .non, kit_ty hn, q H1 (Ex.refl _)⟩
  | bl b => exact ⟨_, _, _, _, _, rfl, .ty _, .base (.bl _), kit_ty (hb b), q H1 (Ex.refl _)⟩
  | int i => exact ⟨_, _, _, _, _, rfl, .ty _, .base (.int _), kit_ty (hi i), q H1 (Ex.refl _)⟩
  | str s => exact ⟨_, _, _, _, _, rfl, .ty _, .base (.str _), kit_ty (hs s), q H1 (Ex.refl _)⟩
  | tup h2 _ => exact ⟨_, _, _, _, _, rfl, .ty _, ty_tup h2, kit_ty (ht _), q H1 (Ex.refl _)⟩
  | lst h2 => exact ⟨_, _, _, _, _, rfl, .ty _, .base (.lst h2), kit_ty hl, q H1 (Ex.refl _)⟩
  | dct h2 => exact ⟨_, _, _, _, _, rfl, .ty _, .base (.dK h2), kit_ty hd, q H1 (Ex.refl _)⟩
theorem rc_int {x : V} {d : D} (h : Rp K H x d) : RC (rIsi K) [x, .ty "int"] H (.bl d.isInt) :=
  rc_isi (f := D.isInt) (show kitB "NoneType" "int" = some false by decide +kernel) (fun _ => show kitB "bool" "int" = some true by decide +kernel) (fun _ => show kitB "int" "int" = some true by decide +kernel) (fun _ => show kitB "str" "int" = some false by decide +kernel)
    (fun _ => show kitB "tuple" "int" = some false by decide +kernel) (show kitB "list" "int" = some false by decide +kernel) (show kitB "dict" "int" = some false by decide +kernel) h
theorem rc_bool {x : V} {d : D} (h : Rp K H x d) : RC (rIsi K) [x, .ty "bool"] H (.bl d.isBl) :=
  rc_isi (f := D.isBl) (show kitB "NoneType" "bool" = some false by decide +kernel) (fun _ => show kitB "bool" "bool" = some true by decide +kernel) (fun _ => show kitB "int" "bool" = some false by decide +kernel) (fun _ => show kitB "str" "bool" = some false by decide +kernel)
    (fun _ => show kitB "tuple" "bool" = some false by decide +kernel) (show kitB "list" "bool" = some false by decide +kernel) (show kitB "dict" "bool" = some false by decide +kernel) h
theorem rc_str {x : V} {d : D} (h : Rp K H x d) : RC (rIsi K) [x, .ty "str"] H (.bl d.isStr) :=
  rc_isi (f := D.isStr) (show kitB "NoneType" "str" = some false by decide +kernel) (fun _ => show kitB "bool" "str" = some false by decide +kernel) (fun _ => show kitB "int" "str" = some false by decide +kernel) (fun _ => show kitB "str" "str" = some true by decide +kernel)
    (fun _ => show kitB "tuple" "str" = some false by decide +kernel) (show kitB "list" "str" = some false by decide +kernel) (show kitB "dict" "str" = some false by decide +kernel) h
theorem rc_tup {x : V} {d : D} (h : Rp K H x d) : RC (rIsi K) [x, .ty "tuple"] H (.bl d.isTup) :=
  rc_isi (f := D.isTup) (show kitB "NoneType" "tuple" = some false by decide +kernel) (fun _ => show kitB "bool" "tuple" = some false by decide +kernel) (fun _ => show kitB "int" "tuple" = some false by decide +kernel) (fun _ => show kitB "str" "tuple" = some false by decide +kernel)
    (fun _ => show kitB "tuple" "tuple" = some true by decide +kernel) (show kitB "list" "tuple" = some false by decide +kernel) (show kitB "dict" "tuple" = some false by decide +kernel) h
theorem Rp.isI {x : V} {d : D} (h : Rp K H x d) (h1 : d.isInt = true) (h2 : d.isBl = false) : ∃ i, d = .int i ∧ x = .int i := by
  cases h <;> first | exact ⟨_, rfl, rfl⟩ | (simp [D.isInt] at h1; done) | (simp [D.isBl] at h2; done)
theorem Rp.isS {x : V} {d : D} (h : Rp K H x d) (h1 : d.isStr = true) : ∃ s, d = .str s ∧ x = .str s := by
  cases h <;> first | exact ⟨_, rfl, rfl⟩ | cases h1
theorem Rp.isT {x : V} {d : D} (h : Rp K H x d) (h1 : d.isTup = true) : ∃ a xs ds, d = .tup ds ∧ x = .ref a ∧ SqT K H a xs ∧ RpAll K H xs ds := by
  cases h <;> first | exact ⟨_, _, _, rfl, rfl, by assumption, by assumption⟩ | cases h1
end
/-! ### the promises of pure judges -/
def sp1 (f : D → Bool) (K : PySem.W.Frag) : Sp := fun vs H Q _ => ∃ x d, vs = [x] ∧ Rp K H x d ∧ RetV (.bl (f d)) H Q
theorem sp1_len {f : D → Bool} {K : PySem.W.Frag} {vs : List V} {H : Hp} {Q : VK} {E : XK} (h : sp1 f K vs H Q E) : vs.length = 1 := by
  obtain ⟨x, d, rfl, _⟩ := h
  rfl
theorem sv1 {f : D → Bool} {K : PySem.W.Frag} {H : Hp} {x : V} {d : D} (h : Rp K H x d) : SpV (sp1 f K) [x] H (.bl (f d)) := fun H1 e Q q E => ⟨x, d, rfl, h.ex e, q⟩
abbrev big : Int := 10 ^ 60 - 1
def numB (i : Int) : Bool := decide (-big ≤ i) && decide (i ≤ big)
def D.num : D → Bool
  | .int i => numB i | _ => false
section
variable {P : Program} {w : World} {K : PySem.W.Frag} {mg : Str → Option Value} {base : Heap} {A : Ad} {D : Fd}
abbrev sp_is_number (K : PySem.W.Frag) : Sp := sp1 K0.D.num K
theorem len_is_number {vs : List V} {H : Hp} {Q : VK} {E : XK} (h : sp_is_number K vs H Q E) : vs.length = 1 := sp1_len h
/-- a chain a <= b <= c of ints -/
theorem ev_chain_le {σ : L2.St} {H : Hp} {ta tb tc : TE} {i j k : Int} (ha : Ev ta σ H (.int i)) (hb : Ev tb σ H (.int j)) (hc : Ev tc σ H (.int k)) :
    Ev (tChain (rI0 fun i j => .bl (decide (i ≤ j))) (rI0 fun i j => .bl (decide (i ≤ j))) ta tb tc) σ H (.bl (decide (i ≤ j) && decide (j ≤ k))) := fun H1 e Q q =>
  ha H1 e _ fun H2 e2 => hb H2 (e.trans e2) _ fun H3 e3 => ⟨i, j, rfl, rfl, _, rfl, by
    by_cases c : i ≤ j
    · rw [if_pos (decide_eq_true c)]
      refine hc H3 ((e.trans e2).trans e3) _ fun H4 e4 => ⟨j, k, rfl, rfl, ?_⟩
      have := q H4 ((e2.trans e3).trans e4)
      rw [decide_eq_true c, Bool.true_and] at this
      exact this
    · rw [if_neg (by rw [decide_eq_false c]; decide)]
      have := q H3 (e2.trans e3)
      rw [decide_eq_false c, Bool.false_and] at this
      exact this⟩
theorem ok_is_number (T : Txt K mg A D) : FnOk P w K mg base CX0 1 A.is_number D.is_number ["value"] (sp_is_number K) := by
  obtain ⟨t_MAX_NUMBER, c_MAX_NUMBER⟩ := T.c_MAX_NUMBER
  refine T.F_is_number.ok sc_is_number (fun vs H Q E h => len_is_number h) (fun cdv A0 outer s H vs Q E hr h => ?_)
  refine ⟨_, (pss_cons (ps_if (PW.pt (pw_or (pt_not (pt_val (pe_callB call_isi (by rfl) T.b_isinstance (by decide +kernel) (pa_cons (pv 0) (pa_cons (pe_bltn (v := .ty "int") (u := .type "int") (by rfl) T.b_int (by decide +kernel) rfl) pa_nil))))) (pw_or1 (pt_val (pe_callB call_isi (by rfl) T.b_isinstance (by decide +kernel) (pa_cons (pv 0) (pa_cons (pe_bltn (v := .ty "bool") (u := .type "bool") (by rfl) T.b_bool (by decide +kernel) rfl) pa_nil))))))) (pss_one (ps_ret pe_bl)) pss_nil)
  (pss_one (ps_ret (pe_chain op_le op_le (pe_un un_neg (pe_glob (v := .int (999999999999999999999999999999999999999999999999999999999999)) rfl c_MAX_NUMBER ⟨_, rfl⟩)) (pv 0) (pe_glob (v := .int (999999999999999999999999999999999999999999999999999999999999)) rfl c_MAX_NUMBER ⟨_, rfl⟩))))), ?_⟩
  obtain ⟨x, d, rfl, hx, k⟩ := h
  refine q_when (et_or (et_not (et_B (ev_cb (ea_cons (ev_var rfl) (ea_cons ev_c ea_nil)) (rc_int hx)))) fun _ => et_B (ev_cb (ea_cons (ev_var rfl) (ea_cons ev_c ea_nil)) (rc_bool hx))) (fun hb H1 e1 => ?_) (fun hb H1 e1 => ?_)
  · refine s_ret ev_c fun H2 e2 => ?_
    have hf : K0.D.num d = false := by cases d <;> first | rfl | simp [K0.D.isInt, K0.D.isBl] at hb
    have := k H2 (e1.trans e2)
    rw [hf] at this
    exact this
  · have h1 : K0.D.isInt d = true := by cases z : K0.D.isInt d <;> rw [z] at hb <;> simp at hb <;> rfl
    have h2 : K0.D.isBl d = false := by cases z : K0.D.isBl d <;> rw [z] at hb <;> simp at hb <;> rfl
    obtain ⟨i, rfl, rfl⟩ := hx.isI h1 h2
    refine s_ret (ev_chain_le (i := -big) (j := i) (k := big) (ev_un ev_c ru_neg) (ev_var rfl) ev_c) fun H2 e2 => ?_
    exact k H2 (e1.trans e2)
end
end K0

namespace K0
open PySem L2 Evl
open PySem.Builtin.Str (strSub)
/-! ### texts -/
theorem takeWhile_le {α : Type} (p : α → Bool) : ∀ l : List α, (l.takeWhile p).length ≤ l.length
  | [] => Nat.le_refl _
  | a :: l => by
    rw [List.takeWhile_cons]
    split
    · simp only [List.length_cons]
      have := takeWhile_le p l
      omega
    · simp
theorem takeWhile_all {α : Type} (p : α → Bool) : ∀ l : List α, (l.takeWhile p).length = l.length → l.all p = true
  | [], _ => rfl
  | a :: l, h => by
    rw [List.takeWhile_cons] at h
    split at h
    · rename_i ha
      simp only [List.length_cons] at h
      rw [List.all_cons, ha, takeWhile_all p l (by omega)]
      rfl
    · simp at h
theorem all_takeWhile {α : Type} (p : α → Bool) : ∀ l : List α, l.all p = true → l.takeWhile p = l
  | [], _ => rfl
  | a :: l, h => by
    rw [List.all_cons, Bool.and_eq_true] at h
    rw [List.takeWhile_cons, if_pos h.1, all_takeWhile p l h.2]
theorem drop_takeWhile {α : Type} (p : α → Bool) : ∀ l : List α, (l.drop (l.takeWhile p).length).all p = true → l.all p = true
  | [], _ => rfl
  | a :: l, h => by
    rw [List.takeWhile_cons] at h
    split at h
    · rename_i ha
      rw [List.all_cons, ha, drop_takeWhile p l (by simpa using h)]
      rfl
    · simpa using h
theorem str_nil {x : Str} : x = ("" : Str) ↔ x.cps.toList.length = 0 := by
  constructor
  · intro h
    subst h
    decide +kernel
  · intro h
    obtain ⟨⟨l⟩⟩ := x
    cases l with
    | nil => decide +kernel
    | cons a l => simp at h
theorem strip_all (x y : Str) : decide (V.str (Txt.stripChars x y) = V.str "") = x.cps.toList.all y.cps.contains := by
  have key : (Txt.stripChars x y = ("" : Str)) ↔ x.cps.toList.all y.cps.contains = true := by
    unfold Txt.stripChars
    rw [PySem.W.stripBy_eq]
    show strSub x (stripLo y.cps.contains true x) (stripHi y.cps.contains true x (stripLo y.cps.contains true x)) = ("" : Str) ↔ _
    rw [str_nil]
    have e1 : stripLo y.cps.contains true x = (x.cps.toList.takeWhile y.cps.contains).length := rfl
    have e2 : stripHi y.cps.contains true x (stripLo y.cps.contains true x) = x.cps.toList.length - ((x.cps.toList.drop (stripLo y.cps.contains true x)).reverse.takeWhile y.cps.contains).length := by
      show x.cps.size - _ = _
      rw [Array.length_toList] <;> rfl
    have e3 : (strSub x (stripLo y.cps.contains true x) (stripHi y.cps.contains true x (stripLo y.cps.contains true x))).cps.toList.length = min (stripHi y.cps.contains true x (stripLo y.cps.contains true x)) x.cps.toList.length - stripLo y.cps.contains true x := by
      show (x.cps.extract _ _).toList.length = _
      rw [Array.length_toList, Array.size_extract, Array.length_toList]
    rw [e3, e2, e1]
    generalize x.cps.toList = l
    generalize y.cps.contains = p
    have h1 := takeWhile_le p l
    have h2 := takeWhile_le p (l.drop (l.takeWhile p).length).reverse
    rw [List.length_reverse, List.length_drop] at h2
    constructor
    · intro h
      have h3 : ((l.drop (l.takeWhile p).length).reverse.takeWhile p).length = (l.drop (l.takeWhile p).length).reverse.length := by
        rw [List.length_reverse, List.length_drop]
        omega
      have h4 := takeWhile_all p _ h3
      rw [List.all_reverse] at h4
      exact drop_takeWhile p l h4
    · intro h
      have h3 := all_takeWhile p l h
      rw [h3, List.drop_length]
      simp
  by_cases c : x.cps.toList.all y.cps.contains = true
  · rw [c]
    exact decide_eq_true (congrArg V.str (key.mpr c))
  · rw [Bool.not_eq_true] at c
    rw [c]
    refine decide_eq_false fun q => ?_
    have := key.mp (V.str.inj q)
    rw [c] at this
    cases this
/-! ### more of what evaluates to what -/
section
variable {K : PySem.W.Frag} {σ : L2.St} {H H' : Hp} {ta tb te tx : TE} {t u : TT} {x y z v : V}
/-- a tuple with these items, new or not -/
def EvW (K : PySem.W.Frag) (te : TE) (σ : L2.St) (H : Hp) (xs : List V) : Prop := ∀ H1, Ex H H1 → ∀ Q : VK, (∀ p H2, Ex H1 H2 → SqT K H2 p xs → Q (.ref p) H2) → te σ H1 Q
theorem ew_sl {tl th : TO} {a : Addr} {xs : List V} {lo hi : Option Int} (h : Ev te σ H (.ref a)) (h1 : EvO tl σ H lo) (h2 : EvO th σ H hi) (hs : SqT K H a xs) : EvW K (tSl (rSlA K) te tl th) σ H (cutV xs lo hi) := fun H1 e Q q =>
  h H1 e _ fun H2 e2 => h1 H2 (e.trans e2) _ fun H3 e3 => h2 H3 ((e.trans e2).trans e3) _ fun H4 e4 => by
    have hx := ex_t (((e.trans e2).trans e3).trans e4) hs
    refine ⟨a, xs, rfl, hx, fun hw => ?_, fun _ p hp => ?_⟩
    · refine q a H4 ((e2.trans e3).trans e4) ?_
      have : cutV xs lo hi = xs := by
        unfold cutV
        rw [hw.1, hw.2]
        simp
      rw [this]
      exact hx
    · exact q p _ (((e2.trans e3).trans e4).trans (Ex.new hp)) (st_of upd_same)
/-- comprehensions over a tuple, over zip of two tuples -/
theorem el_lcT {a : Addr} {xs : List V} {tl : TE} {j : Nat} {vs : List Nat} (f : Nat → Bool) (v : Nat → V) (h : Ev tl σ H (.ref a)) (hx : SqT K H a xs) (hz : xs.length ≤ 40000) (hw : ∀ x, wipe ((wipe σ vs).set j (some x)) vs = wipe σ vs)
    (ht : ∀ (i : Nat) (x : V) H1, Ex H H1 → xs[i]? = some x → EvT t ((wipe σ vs).set j (some x)) H1 (f i)) (he : ∀ (i : Nat) (x : V) H1, Ex H H1 → xs[i]? = some x → f i = true → Ev te ((wipe σ vs).set j (some x)) H1 (v i)) :
    EvL (tLc (iTup K tl) (gName j) t te vs) σ H (given xs.length f v) := fun H0 e Q q => h H0 e _ fun H1 e1 => ⟨a, rfl, ⟨xs, ex_t (e.trans e1) hx⟩, fun Dl hD =>
  lc_tup (xs := xs) (Cw H1 f v Dl) ⟨hD, Ex.new hD, upd_same⟩ (fun i H' _ p => ex_t ((e.trans e1).trans p.2.1) hx)
    (fun i x H' hi p => ⟨hw x, cw_turn p (by have := (List.getElem?_eq_some_iff.mp hi).1; omega) (ht i x H1 (e.trans e1) hi) (fun hf => he i x H1 (e.trans e1) hi hf)⟩)
    (fun H' p => q Dl H' (fresh_back e1 p.1) (e1.trans p.2.1) p.2.2)⟩
theorem walk_zipT {a b : Addr} {xs ys : List V} {n : Nat} (hn : n = min xs.length ys.length) : Walk (RZ.ItzT K a b) n (fun H => SqT K H a xs ∧ SqT K H b ys) (YPair (fun i => xs[i]?) (fun i => ys[i]?)) := by
  subst hn
  refine ⟨fun i _ hi g => ?_, fun _ g => ⟨xs, ys, g.1, g.2, by omega⟩, fun i H v H' _ g yy => ?_⟩
  · have l1 : i < xs.length := by omega
    have l2 : i < ys.length := by omega
    exact ⟨xs, ys, xs[i], ys[i], g.1, g.2, List.getElem?_eq_getElem l1, List.getElem?_eq_getElem l2⟩
  · obtain ⟨T, x, z, e1, e2, e3, e4, e5⟩ := yy
    exact ⟨T, x, z, e1, e2, e3, e4 xs g.1, e5 ys g.2⟩
theorem given_map {n : Nat} {f : Nat → Bool} {v : Nat → V} (hf : ∀ i, f i = true) : given n f v = (List.range n).map v := by
  unfold given
  rw [List.filter_eq_self.mpr (fun a _ => hf a)]
theorem rc_all {a : Addr} {bs : List Bool} (h : SqL K H a (bs.map V.bl)) : RC (rAll K) [.ref a] H (.bl (bs.all id)) := fun H1 e Q q => ⟨a, bs, rfl, ex_l e h, q H1 (Ex.refl _)⟩
/-- all([..]) of a new list of truths -/
theorem ev_all {bs : List Bool} (h : EvL te σ H (bs.map V.bl)) : Ev (tCB (rAll K) (tCons te tNil)) σ H (.bl (bs.all id)) := fun H1 e Q q =>
  h H1 e _ fun p H2 _ e2 h2 => ⟨p, bs, rfl, sq_of h2, q H2 e2⟩
theorem et_yes : EvT tYes σ H true := fun H1 _ _ q => q H1 (Ex.refl _)
end
end K0

namespace K0
open PySem L2 Evl
section
variable {K : PySem.W.Frag} {σ : L2.St} {H H' : Hp} {ta tb te tx : TE} {t u : TT} {x y z v : V}
theorem ev_chain_of {σ : L2.St} {H : Hp} {ta tb tc : TE} {r r' : R2} {x y z : V} {a b : Bool} (ha : Ev ta σ H x) (hb : Ev tb σ H y) (hr : RV r x y H (.bl a)) (hc : Ev tc σ H z) (hr' : RV r' y z H (.bl b)) :
    Ev (tChain r r' ta tb tc) σ H (.bl (a && b)) := fun H1 e Q q =>
  ha H1 e _ fun H2 e2 => hb H2 (e.trans e2) _ fun H3 e3 => hr H3 ((e.trans e2).trans e3) _ fun H4 e4 => ⟨a, rfl, by
    cases a with
    | true => exact hc H4 (((e.trans e2).trans e3).trans e4) _ fun H5 e5 => hr' H5 ((((e.trans e2).trans e3).trans e4).trans e5) Q fun H6 e6 => q H6 ((((e2.trans e3).trans e4).trans e5).trans e6)
    | false => exact q H4 ((e2.trans e3).trans e4)⟩
theorem ev_one (h : Ev te σ H v) : Ev te σ H v := h
theorem rc_lenT {a : Addr} {xs : List V} (h : SqT K H a xs) : RC (fun xs H Q => ∃ x n, xs = [x] ∧ LenV K x H n ∧ Q (.int n) H) [.ref a] H (.int (xs.length : Nat)) := fun H1 e Q q =>
  ⟨_, xs.length, rfl, Or.inr ⟨xs, ex_t e h, rfl⟩, q H1 (Ex.refl _)⟩
theorem rc_lenL {a : Addr} {xs : List V} (h : SqL K H a xs) : RC (fun xs H Q => ∃ x n, xs = [x] ∧ LenV K x H n ∧ Q (.int n) H) [.ref a] H (.int (xs.length : Nat)) := fun H1 e Q q =>
  ⟨_, xs.length, rfl, Or.inl ⟨xs, ex_l e h, rfl⟩, q H1 (Ex.refl _)⟩
theorem rc_lenS {s : Str} (h : s.length ≤ sizeLine) : RC (fun xs H Q => ∃ x n, xs = [x] ∧ LenV K x H n ∧ Q (.int n) H) [.str s] H (.int (s.length : Nat)) := fun H1 e Q q =>
  ⟨_, s.length, rfl, ⟨h, rfl⟩, q H1 (Ex.refl _)⟩
/-- a comprehension over zip of two tuples, no test -/
theorem el_lcZ {a : Addr} {xs ys : List V} {t1 t2 : TE} {g : TG} {vs : List Nat} {n : Nat} (v : Nat → V) (h1 : Ev t1 σ H (.ref a)) (hx : SqT K H a xs) (h2 : EvW K t2 σ H ys) (hn : n = min xs.length ys.length) (hz : n ≤ 40000)
    (hg : ∀ i x y T H', xs[i]? = some x → ys[i]? = some y → H' T = some (.tup [x, y]) → ∃ σ2, (∀ k : L2.St → Hp → Prop, k σ2 H' → g (.ref T) (wipe σ vs) H' k) ∧ wipe σ2 vs = wipe σ vs ∧ Ev te σ2 H (v i)) :
    EvL (tLc (RZ.iZipA K (tCons t1 (tCons t2 tNil))) g tYes te vs) σ H ((List.range n).map v) := fun H0 e Q q =>
  h1 H0 e _ fun H1 e1 => h2 H1 (e.trans e1) _ fun b H2 e2 hy => ⟨a, b, xs, ys, rfl, Or.inr ⟨ex_t ((e.trans e1).trans e2) hx, hy, fun Dl hD => by
    have e02 := (e.trans e1).trans e2
    refine lc_it (walk_zipT hn) (Cw H2 (fun _ => true) v Dl) ⟨hD, Ex.new hD, upd_same⟩ (fun i H' _ p => ⟨ex_t p.2.1 (ex_t e02 hx), ex_t p.2.1 hy⟩) (fun i w H' H'' hi p yp => ?_) (fun H' p => ?_)
    · obtain ⟨T, x, y, rfl, hT, rfl, ex, ey⟩ := yp
      obtain ⟨σ2, k1, k2, k3⟩ := hg i x y T (upd H' T (.tup [x, y])) ex ey upd_same
      have hne : Dl ≠ T := ne_of_none p.2.2 hT
      have p' : Cw H2 (fun _ => true) v Dl i (upd H' T (.tup [x, y])) := ⟨p.1, p.2.1.trans (Ex.new hT), by rw [upd_ne hne]; exact p.2.2⟩
      exact k1 _ ⟨k2, cw_turn p' (by omega) et_yes (fun _ => k3.mono e02)⟩
    · have := p.2.2
      rw [given_map (fun _ => rfl)] at this
      exact q Dl H' (fresh_back (e1.trans e2) p.1) ((e1.trans e2).trans p.2.1) this⟩⟩
theorem rv_le {i j : Int} : RV (rI0 fun i j => .bl (decide (i ≤ j))) (.int i) (.int j) H (.bl (decide (i ≤ j))) := rv_I0
theorem rv_lt {i j : Int} : RV (rI0 fun i j => .bl (decide (i < j))) (.int i) (.int j) H (.bl (decide (i < j))) := rv_I0
theorem rv_isN : RV (fun x y H Q => y = .non ∧ Q (.bl (decide (x = .non))) H) x .non H (.bl (decide (x = .non))) := fun H1 _ _ q => ⟨rfl, q H1 (Ex.refl _)⟩
theorem rc_strip {a b : Str} (h : a.length ≤ sizeLine) : ∀ H1, Ex H H1 → ∀ Q : VK, (∀ H2, Ex H1 H2 → Q (.str (Txt.stripChars a b)) H2) → (fun (x : V) (xs : List V) (H : Hp) (Q : VK) => ∃ a b, x = .str a ∧ xs = [.str b] ∧ a.length ≤ sizeLine ∧ Q (.str (Txt.stripChars a b)) H) (.str a) [.str b] H1 Q :=
  fun H1 _ _ q => ⟨a, b, rfl, rfl, h, q H1 (Ex.refl _)⟩
end
/-! ### the judges of stage 1 as functions of data -/
def D.within (lo hi : Int) : D → Bool
  | .int i => numB i && (decide (lo ≤ i) && decide (i ≤ hi)) | _ => false
def D.toInt : D → Int
  | .int i => i | _ => 0
def ascB : List Int → Bool
  | a :: b :: r => decide (a < b) && ascB (b :: r)
  | _ => true
def D.indices (m : Int) : D → Bool
  | .tup ds => ds.all (D.within 0 (m - 1)) && ascB (ds.map D.toInt) | _ => false
def D.circle : D → Bool
  | .tup ds => D.indices 9 (.tup ds) && (decide (1 ≤ ds.length) && decide (ds.length ≤ 7)) | _ => false
def D.word (signs : Str) (most : Int) : D → Bool
  | .str s => decide ((s.length : Int) ≤ most) && s.cps.toList.all signs.cps.contains | _ => false
def D.nonEmpty : D → Bool
  | .str s => decide (0 < s.length) | _ => false
abbrev letters : Str := "abcdefghijklmnopqrstuvwxyz"
abbrev signs37 : Str := "abcdefghijklmnopqrstuvwxyz0123456789 "
def D.key (d : D) : Bool := d.word letters 8 && d.nonEmpty
def D.short (d : D) : Bool := d.within (-(999999999999)) 999999999999
def D.value (d : D) : Bool := d.short || d.word signs37 12
def D.single : D → Bool
  | .non => true
  | .int i => numB i
  | .str s => D.word signs37 3000 (.str s)
  | _ => false
/-- plain, at most n deep -/
def D.plain : Nat → D → Bool
  | 0, d => d.single
  | n + 1, .tup ds => ds.all (D.plain n)
  | _ + 1, d => d.single
def D.small : D → Prop
  | .tup ds => ds.length ≤ 40000 | _ => True
theorem all_getD (ds : List D) (f : D → Bool) : ((List.range ds.length).all fun i => f (ds.getD i .non)) = ds.all f := by
  induction ds with
  | nil => rfl
  | cons d ds ih =>
    rw [List.length_cons, List.range_succ_eq_map, List.all_cons, List.all_cons, List.all_map, ← ih]
    rfl
theorem ints_of {K : PySem.W.Frag} {H : Hp} {lo hi : Int} : ∀ (xs : List V) (ds : List D), RpAll K H xs ds → ds.all (D.within lo hi) = true → xs = (ds.map D.toInt).map V.int
  | _, _, .nil, _ => rfl
  | _, _, .cons (d := d) h r, e => by
    rw [List.all_cons, Bool.and_eq_true] at e
    rw [List.map_cons, List.map_cons, ← ints_of _ _ r e.2]
    cases h with
    | int i => rfl
    | _ => exact absurd e.1 (by simp [D.within])
section
variable {P : Program} {w : World} {K : PySem.W.Frag} {mg : Str → Option Value} {base : Heap} {A : Ad} {D : Fd}
def sp_is_within (K : PySem.W.Frag) : Sp := fun vs H Q _ => ∃ x d lo hi, vs = [x, .int lo, .int hi] ∧ Rp K H x d ∧ RetV (.bl (d.within lo hi)) H Q
theorem len_is_within {vs : List V} {H : Hp} {Q : VK} {E : XK} (h : sp_is_within K vs H Q E) : vs.length = 3 := by
  obtain ⟨x, d, lo, hi, rfl, _⟩ := h
  rfl
theorem sv_within {H : Hp} {x : V} {d : K0.D} {lo hi : Int} (h : Rp K H x d) : SpV (sp_is_within K) [x, .int lo, .int hi] H (.bl (d.within lo hi)) := fun H1 e Q q E => ⟨x, d, lo, hi, rfl, h.ex e, q⟩
theorem ok_is_within (T : Txt K mg A D) : FnOk P w K mg base CX0 2 A.is_within D.is_within ["value", "least", "most"] (sp_is_within K) := by
  have G_is_number : FnOk P w K mg base CX0 1 A.is_number D.is_number ["value"] (sp_is_number K) := ok_is_number T
  refine T.F_is_within.ok sc_is_within (fun vs H Q E h => len_is_within h) (fun cdv A0 outer s H vs Q E hr h => ?_)
  refine ⟨_, (pss_one (ps_ret (pe_and (pe_call G_is_number (hr.mono (by decide)) rfl T.g_is_number T.F_is_number.kp T.b_is_number .nil pass0 (pa_cons (pv 0) pa_nil)) (pe_one (pe_chain op_le op_le (pv 1) (pv 0) (pv 2)))))), ?_⟩
  obtain ⟨x, d, lo, hi, rfl, hx, k⟩ := h
  refine s_ret (ev_is (ev_andV (a := d.num) (b := d.within lo hi) (ev_call (ea_cons (ev_var rfl) ea_nil) (sv1 hx)) fun hb => ?_) ?_) fun H2 e2 => k H2 e2
  · cases hx with
    | int i =>
      have hb' : numB i = true := hb
      refine ev_is (ev_chain_le (i := lo) (j := i) (k := hi) (ev_var rfl) (ev_var rfl) (ev_var rfl)) ?_
      show V.bl (decide (lo ≤ i) && decide (i ≤ hi)) = V.bl (numB i && (decide (lo ≤ i) && decide (i ≤ hi)))
      rw [hb', Bool.true_and]
    | _ => cases hb
  · cases d with
    | int i =>
      show V.bl (numB i && (numB i && _)) = V.bl (numB i && _)
      cases numB i <;> rfl
    | _ => rfl
abbrev sp_is_short_number (K : PySem.W.Frag) : Sp := sp1 K0.D.short K
theorem len_is_short_number {vs : List V} {H : Hp} {Q : VK} {E : XK} (h : sp_is_short_number K vs H Q E) : vs.length = 1 := sp1_len h
theorem ok_is_short_number (T : Txt K mg A D) : FnOk P w K mg base CX0 3 A.is_short_number D.is_short_number ["value"] (sp_is_short_number K) := by
  have G_is_within : FnOk P w K mg base CX0 2 A.is_within D.is_within ["value", "least", "most"] (sp_is_within K) := ok_is_within T
  obtain ⟨t_MAX_SHORT_NUMBER, c_MAX_SHORT_NUMBER⟩ := T.c_MAX_SHORT_NUMBER
  refine T.F_is_short_number.ok sc_is_short_number (fun vs H Q E h => len_is_short_number h) (fun cdv A0 outer s H vs Q E hr h => ?_)
  refine ⟨_, (pss_one (ps_ret (pe_call G_is_within (hr.mono (by decide)) rfl T.g_is_within T.F_is_within.kp T.b_is_within .nil pass0 (pa_cons (pv 0) (pa_cons (pe_un un_neg (pe_glob (v := .int (999999999999)) rfl c_MAX_SHORT_NUMBER ⟨_, rfl⟩)) (pa_cons (pe_glob (v := .int (999999999999)) rfl c_MAX_SHORT_NUMBER ⟨_, rfl⟩) pa_nil)))))), ?_⟩
  obtain ⟨x, d, rfl, hx, k⟩ := h
  exact s_ret (ev_call (ea_cons (ev_var rfl) (ea_cons (ev_un ev_c ru_neg) (ea_cons ev_c ea_nil))) (sv_within hx)) fun H2 e2 => k H2 e2
/-- row: a tuple of ints -/
def sp_are_ascending (K : PySem.W.Frag) : Sp := fun vs H Q _ => ∃ a ns, vs = [.ref a] ∧ SqT K H a (ns.map V.int) ∧ ns.length ≤ 40000 ∧ RetV (.bl (ascB ns)) H Q
theorem len_are_ascending {vs : List V} {H : Hp} {Q : VK} {E : XK} (h : sp_are_ascending K vs H Q E) : vs.length = 1 := by
  obtain ⟨a, ns, rfl, _⟩ := h
  rfl
theorem sv_asc {H : Hp} {a : Addr} {ns : List Int} (h : SqT K H a (ns.map V.int)) (hl : ns.length ≤ 40000) : SpV (sp_are_ascending K) [.ref a] H (.bl (ascB ns)) := fun H1 e Q q E => ⟨a, ns, rfl, ex_t e h, hl, q⟩
theorem cut1 (xs : List V) : cutV xs (some 1) none = xs.drop 1 := by
  unfold cutV
  have h1 : HT.sIx xs.length 0 (some 1) = min 1 xs.length := HT.sIx_nat _ _ 1
  have h2 : HT.sIx xs.length xs.length none = xs.length := rfl
  rw [h1, h2]
  cases xs with
  | nil => rfl
  | cons x xs =>
    have : min 1 (x :: xs).length = 1 := by simp
    rw [this]
    exact List.take_of_length_le (by simp)
theorem asc_all : ∀ ns : List Int, ((List.range (ns.length - 1)).map fun i => decide (ns.getD i 0 < ns.getD (i + 1) 0)).all id = ascB ns
  | [] => rfl
  | [a] => rfl
  | a :: b :: r => by
    have ih := asc_all (b :: r)
    have e1 : (a :: b :: r).length - 1 = ((b :: r).length - 1) + 1 := by simp
    rw [e1, List.range_succ_eq_map, List.map_cons, List.all_cons, List.map_map]
    show (decide (a < b) && _) = (decide (a < b) && ascB (b :: r))
    rw [← ih]
    rfl
theorem ok_are_ascending (T : Txt K mg A D) : FnOk P w K mg base CX0 1 A.are_ascending D.are_ascending ["row"] (sp_are_ascending K) := by
  refine T.F_are_ascending.ok sc_are_ascending (fun vs H Q E h => len_are_ascending h) (fun cdv A0 outer s H vs Q E hr h => ?_)
  refine ⟨_, (pss_one (ps_ret (pe_callB (cr_all rfl) (by rfl) T.b_all (by decide +kernel) (pa_cons (pe_lc (own := [("one", 1), ("other", 2)]) (g := gTup K 2 (gCons (gName 1) (gCons (gName 2) gNil))) (tt := tYes) rfl sc_are_ascending.nd (RZ.pi_zipA (by rfl) T.b_zip (pa_cons (pv 0) (pa_cons (pe_slice sl_tupA (pv 0) (po_some pe_int) po_none) pa_nil))) (blkOk_by (own := [("one", 1), ("other", 2)]) (N := N_are_ascending) (sc := defScope s_are_ascending) (by decide +kernel)) (fun _ _ _ _ _ => by exact (pg_tup rfl (pgs_cons (pg_name (i := 1) sc_are_ascending.nd rfl (Or.inl rfl)) (pgs_cons (pg_name (i := 2) sc_are_ascending.nd rfl (Or.inl rfl)) pgs_nil)))) (fun _ _ _ _ _ => by exact pts_nil) (fun _ _ _ _ _ => by exact (pe_cmpR op_lt (pv 1) (pv 2) (nomark _)))) pa_nil)))), ?_⟩
  obtain ⟨a, ns, rfl, ha, hl, k⟩ := h
  refine s_ret (ev_is (ev_all (bs := (List.range (ns.length - 1)).map fun i => decide (ns.getD i 0 < ns.getD (i + 1) 0)) ?_) (congrArg V.bl (asc_all ns))) fun H2 e2 => k H2 e2
  rw [List.map_map]
  refine el_lcZ (ys := (ns.map V.int).drop 1) _ (ev_var rfl) ha ?_ (by rw [List.length_drop, List.length_map]; omega) (by omega) (fun i x y T H' hx hy hT => ?_)
  · have := ew_sl (K := K) (lo := some 1) (hi := none) (ev_var rfl : Ev (tVar 0) (start N_are_ascending [V.ref a]) H (.ref a)) (eo_some ev_c) eo_none ha
    rw [cut1] at this
    exact this
  · rw [List.getElem?_map] at hx
    rw [List.getElem?_drop, List.getElem?_map, Nat.add_comm] at hy
    obtain ⟨p, hp, rfl⟩ : ∃ p, ns[i]? = some p ∧ V.int p = x := by
      cases z : ns[i]? with
      | none => rw [z] at hx; cases hx
      | some p => rw [z] at hx; exact ⟨p, rfl, Option.some.inj hx⟩
    obtain ⟨r, hr', rfl⟩ : ∃ p, ns[i + 1]? = some p ∧ V.int p = y := by
      cases z : ns[i + 1]? with
      | none => rw [z] at hy; cases hy
      | some p => rw [z] at hy; exact ⟨p, rfl, Option.some.inj hy⟩
    refine ⟨[some (.ref a), some (.int p), some (.int r)], fun kk hk => ⟨T, _, rfl, st_of hT, rfl, _, _, rfl, _, _, rfl, rfl, hk⟩, rfl, ?_⟩
    refine ev_is (ev_op (ev_var rfl) (ev_var rfl) rv_I0) ?_
    show V.bl (decide (p < r)) = V.bl (decide (ns.getD i 0 < ns.getD (i + 1) 0))
    rw [List.getD_eq_getElem?_getD, List.getD_eq_getElem?_getD, hp, hr']
    rfl
def sp_are_indices (K : PySem.W.Frag) : Sp := fun vs H Q _ => ∃ x d m, vs = [x, .int m] ∧ Rp K H x d ∧ d.small ∧ RetV (.bl (d.indices m)) H Q
theorem len_are_indices {vs : List V} {H : Hp} {Q : VK} {E : XK} (h : sp_are_indices K vs H Q E) : vs.length = 2 := by
  obtain ⟨x, d, m, rfl, _⟩ := h
  rfl
theorem sv_indices {H : Hp} {x : V} {d : K0.D} {m : Int} (h : Rp K H x d) (hs : d.small) : SpV (sp_are_indices K) [x, .int m] H (.bl (d.indices m)) := fun H1 e Q q E => ⟨x, d, m, rfl, h.ex e, hs, q⟩
theorem ok_are_indices (T : Txt K mg A D) : FnOk P w K mg base CX0 3 A.are_indices D.are_indices ["value", "many"] (sp_are_indices K) := by
  have G_is_within : FnOk P w K mg base CX0 2 A.is_within D.is_within ["value", "least", "most"] (sp_is_within K) := ok_is_within T
  have G_are_ascending : FnOk P w K mg base CX0 1 A.are_ascending D.are_ascending ["row"] (sp_are_ascending K) := ok_are_ascending T
  refine T.F_are_indices.ok sc_are_indices (fun vs H Q E h => len_are_indices h) (fun cdv A0 outer s H vs Q E hr h => ?_)
  refine ⟨_, (pss_cons (ps_if (pt_not (pt_val (pe_callB call_isi (by rfl) T.b_isinstance (by decide +kernel) (pa_cons (pv 0) (pa_cons (pe_bltn (v := .ty "tuple") (u := .type "tuple") (by rfl) T.b_tuple (by decide +kernel) rfl) pa_nil))))) (pss_one (ps_ret pe_bl)) pss_nil)
  (pss_cons (ps_if (pt_not (pt_val (pe_callB (cr_all rfl) (by rfl) T.b_all (by decide +kernel) (pa_cons (pe_lc (own := [("index", 2)]) (g := gName 2) (tt := tYes) rfl sc_are_indices.nd (pi_tup (pv 0)) (blkOk_by (own := [("index", 2)]) (N := N_are_indices) (sc := defScope s_are_indices) (by decide +kernel)) (fun _ _ _ _ _ => by exact pg_name (i := 2) sc_are_indices.nd rfl (Or.inl rfl)) (fun _ _ _ _ _ => by exact pts_nil) (fun _ _ _ _ _ => by exact (pe_call G_is_within (hr.mono (by decide)) rfl T.g_is_within T.F_is_within.kp T.b_is_within .nil pass0 (pa_cons (pv 2) (pa_cons pe_int (pa_cons (pe_op op_sub (pv 1) pe_int) pa_nil)))))) pa_nil)))) (pss_one (ps_ret pe_bl)) pss_nil)
  (pss_one (ps_ret (pe_call G_are_ascending (hr.mono (by decide)) rfl T.g_are_ascending T.F_are_ascending.kp T.b_are_ascending .nil pass0 (pa_cons (pv 0) pa_nil)))))), ?_⟩
  obtain ⟨x, d, m, rfl, hx, hs, k⟩ := h
  refine q_when (et_not (et_B (ev_cb (ea_cons (ev_var rfl) (ea_cons ev_c ea_nil)) (rc_tup hx)))) (fun hb H1 e1 => ?_) (fun hb H1 e1 => ?_)
  · refine s_ret ev_c fun H2 e2 => ?_
    have hf : d.indices m = false := by cases d <;> first | rfl | (simp [K0.D.isTup] at hb; done)
    have := k H2 (e1.trans e2)
    rw [hf] at this
    exact this
  · have h1 : d.isTup = true := by cases z : d.isTup <;> rw [z] at hb <;> simp at hb <;> rfl
    obtain ⟨a, xs, ds, rfl, rfl, hq, hr1⟩ := hx.isT h1
    have hl := hr1.len
    have hq1 := ex_t e1 hq
    have hr2 := hr1.ex e1
    have hsz : ds.length ≤ 40000 := hs
    refine q_when (b := !(ds.all (K0.D.within 0 (m - 1)))) (et_not (et_B (ev_is (ev_all (bs := (List.range xs.length).map fun i => (ds.getD i .non).within 0 (m - 1)) ?_) ?_))) (fun hb H2 e2 => ?_) (fun hb H2 e2 => ?_)
    · rw [List.map_map, ← given_map (f := fun _ => true) (fun _ => rfl)]
      refine el_lcT (fun _ => true) _ (ev_var rfl) hq1 (by omega) (fun _ => rfl) (fun i y H3 e3 hy => et_yes) (fun i y H3 e3 hy _ => ?_)
      obtain ⟨d, hd, hrp⟩ := RpAll.get _ _ _ _ (hr2.ex e3) hy
      refine ev_is (ev_call (ea_cons (ev_var rfl) (ea_cons ev_c (ea_cons (ev_op (ev_var rfl) ev_c rv_I0) ea_nil))) (sv_within hrp)) ?_
      show V.bl (d.within 0 (m - 1)) = V.bl ((ds.getD i .non).within 0 (m - 1))
      rw [List.getD_eq_getElem?_getD, hd]
      rfl
    · rw [List.all_map, hl]
      congr 1
      exact all_getD ds _
    · refine s_ret ev_c fun H3 e3 => ?_
      have := k H3 ((e1.trans e2).trans e3)
      have hf : (K0.D.tup ds).indices m = false := by
        show (ds.all (K0.D.within 0 (m - 1)) && _) = false
        cases z : ds.all (K0.D.within 0 (m - 1)) with
        | true => rw [z] at hb; cases hb
        | false => rfl
      rw [hf] at this
      exact this
    · have hall : ds.all (K0.D.within 0 (m - 1)) = true := by
        cases z : ds.all (K0.D.within 0 (m - 1)) with
        | true => rfl
        | false => rw [z] at hb; cases hb
      have hints : xs = (ds.map K0.D.toInt).map V.int := ints_of _ _ hr1 hall
      have hq2 : SqT K H2 a ((ds.map K0.D.toInt).map V.int) := by rw [← hints]; exact ex_t (e1.trans e2) hq
      refine s_ret (ev_call (ea_cons (ev_var rfl) ea_nil) (sv_asc hq2 (by rw [List.length_map]; exact hsz))) fun H3 e3 => ?_
      have := k H3 ((e1.trans e2).trans e3)
      have hf : (K0.D.tup ds).indices m = ascB (ds.map K0.D.toInt) := by
        show (ds.all (K0.D.within 0 (m - 1)) && _) = _
        rw [hall, Bool.true_and]
      rw [hf] at this
      exact this
end
end K0

namespace K0
open PySem L2 Evl
section
variable {K : PySem.W.Frag} {σ : L2.St} {H H' : Hp} {ta tb te tx : TE} {t u : TT} {x y z v : V}
theorem et_truL {a : Addr} {xs : List V} (h : Ev te σ H (.ref a)) (hx : SqL K H a xs) : EvT (fun σ H Q => te σ H fun x H' => ∃ k, TruV K x H' k ∧ Q k H') σ H (!xs.isEmpty) := fun H1 e Q q =>
  h H1 e _ fun H2 e2 => ⟨_, Or.inl ⟨xs, ex_l (e.trans e2) hx, rfl⟩, q H2 e2⟩
/-- [y for row in rows for y in row]: rows a list of tuples -/
theorem el_flat {a : Addr} {rs : List Addr} {rows : List (List V)} {tl : TE} {j j1 : Nat} {vs vs1 : List Nat} (h : Ev tl σ H (.ref a)) (hx : SqL K H a (rs.map V.ref)) (hl : rs.length = rows.length)
    (hr : ∀ (i : Nat) r row, rs[i]? = some r → rows[i]? = some row → SqT K H r row) (hz : rows.flatten.length ≤ 40000)
    (hw : ∀ x, wipe ((wipe σ vs).set j (some x)) vs = wipe σ vs) (hj : ∀ x, ((wipe σ vs).set j (some x))[j]? = some (some x))
    (hw1 : ∀ x y, wipe ((wipe ((wipe σ vs).set j (some x)) vs1).set j1 (some y)) vs1 = wipe ((wipe σ vs).set j (some x)) vs1) (hj1 : ∀ x y, ((wipe ((wipe σ vs).set j (some x)) vs1).set j1 (some y))[j1]? = some (some y)) :
    EvL (tLc2 (iList K tl) (gName j) tYes (iTup K (tVar j)) (gName j1) tYes (tVar j1) vs vs1) σ H rows.flatten := fun H0 e Q q =>
  h H0 e _ fun H1 e1 => ⟨a, rfl, ⟨_, ex_l (e.trans e1) hx⟩, fun Dl hD => by
    refine ⟨fun i m H' => m = rs.length - i ∧ i ≤ rs.length ∧ Ex H1 H' ∧ H' Dl = some (.lst (rows.take i).flatten), ⟨rs.length, by simp, Nat.zero_le _, Ex.new hD, upd_same⟩, ?_⟩
    rintro i m H' ⟨rfl, hi, p1, p2⟩
    have hxl := ex_l ((e.trans e1).trans p1) hx
    by_cases hlt : i < rs.length
    · have hlt2 : i < rows.length := by omega
      have g1 : rs[i]? = some rs[i] := List.getElem?_eq_getElem hlt
      have g2 : rows[i]? = some rows[i] := List.getElem?_eq_getElem hlt2
      have et : rows.take (i + 1) = rows.take i ++ [rows[i]] := by rw [List.take_succ, g2] <;> rfl
      have efl : ((rows.take (i + 1)).flatten).length ≤ rows.flatten.length := by
        have : rows.flatten = (rows.take (i + 1)).flatten ++ (rows.drop (i + 1)).flatten := by rw [← List.flatten_append, List.take_append_drop]
        rw [this, List.length_append]
        omega
      have efl2 : ((rows.take (i + 1)).flatten).length = ((rows.take i).flatten).length + rows[i].length := by rw [et, List.flatten_append]; simp
      have hrow := hr i _ _ g1 g2
      refine .inr ⟨⟨rs.map V.ref, .ref rs[i], hxl, by rw [List.getElem?_map, g1]; rfl⟩, fun H2 => Ex H1 H2 ∧ H2 Dl = some (.lst (rows.take (i + 1)).flatten), fun H2 k => ⟨rs.length - (i + 1), by omega, rfl, hlt, k⟩, fun y H2 yy => ?_⟩
      obtain ⟨rfl, yy⟩ := yy
      have ey := yy _ hxl
      rw [List.getElem?_map, g1] at ey
      have ey : V.ref rs[i] = y := Option.some.inj ey
      subst ey
      refine ⟨hw _, ?_⟩
      refine ⟨_, hj _, rs[i], rfl, ⟨_, ex_t ((e.trans e1).trans p1) hrow⟩, fun jj kk H3 => kk = rows[i].length - jj ∧ jj ≤ rows[i].length ∧ Ex H1 H3 ∧ H3 Dl = some (.lst ((rows.take i).flatten ++ rows[i].take jj)), ⟨_, rfl, Nat.zero_le _, p1, by rw [p2]; simp⟩, ?_⟩
      rintro jj kk H3 ⟨rfl, hjj, q1, q2⟩
      have hrow3 := ex_t ((e.trans e1).trans q1) hrow
      by_cases hlj : jj < rows[i].length
      · have g3 : rows[i][jj]? = some rows[i][jj] := List.getElem?_eq_getElem hlj
        refine .inr ⟨⟨rows[i], rows[i][jj], hrow3, g3⟩, fun H4 => Ex H1 H4 ∧ H4 Dl = some (.lst ((rows.take i).flatten ++ rows[i].take (jj + 1))), fun H4 k => ⟨rows[i].length - (jj + 1), by omega, rfl, hlj, k⟩, fun y H4 yy => ?_⟩
        obtain ⟨rfl, yy⟩ := yy
        have ey := yy _ hrow3
        rw [g3] at ey
        have ey : rows[i][jj] = y := Option.some.inj ey
        subst ey
        refine ⟨hw1 _ _, _, hj1 _ _, _, q2, ?_, ?_, ?_⟩
        · have : ((rows.take i).flatten ++ rows[i].take jj).length ≤ 40000 := by rw [List.length_append, List.length_take]; omega
          exact sz_lt (by omega)
        · exact Ex.mut q1 hD
        · rw [upd_same, List.append_assoc, List.take_succ, g3]
          rfl
      · have : jj = rows[i].length := by omega
        subst this
        refine .inl ⟨⟨rows[i], hrow3, Nat.le_refl _⟩, q1, ?_⟩
        rw [q2, et, List.flatten_append, List.take_length]
        simp
    · have : i = rs.length := by omega
      subst this
      refine .inl ⟨⟨_, hxl, by rw [List.length_map]; exact Nat.le_refl _⟩, q Dl H' (fresh_back e1 hD) (e1.trans p1) ?_⟩
      rw [p2, hl, List.take_length]⟩
end
mutual
/-- how much of a value there is: signs and members -/
def D.size : D → Nat
  | .str s => 1 + s.length / 100
  | .tup ds => 1 + D.sizeL ds
  | _ => 1
def D.sizeL : List D → Nat
  | [] => 0
  | d :: ds => d.size + D.sizeL ds
end
theorem sizeL_len : ∀ ds : List D, ds.length ≤ D.sizeL ds
  | [] => Nat.le_refl _
  | d :: ds => by
    have := sizeL_len ds
    have h1 : 1 ≤ d.size := by cases d <;> simp [D.size]
    simp only [List.length_cons, D.sizeL]
    omega
theorem sizeL_app : ∀ ds es : List D, D.sizeL (ds ++ es) = D.sizeL ds + D.sizeL es
  | [], es => by simp [D.sizeL]
  | d :: ds, es => by
    show d.size + D.sizeL (ds ++ es) = d.size + D.sizeL ds + D.sizeL es
    rw [sizeL_app ds es]
    omega
theorem size_mem : ∀ {ds : List D} {d : D}, d ∈ ds → d.size ≤ D.sizeL ds
  | a :: ds, d, h => by
    rcases List.mem_cons.mp h with h | h
    · subst h
      simp only [D.sizeL]
      omega
    · have := size_mem h
      simp only [D.sizeL]
      omega
def D.kids : D → List D
  | .tup ds => ds | _ => []
end K0

namespace K0
open PySem L2 Evl
section
variable {P : Program} {w : World} {K : PySem.W.Frag} {mg : Str → Option Value} {base : Heap} {A : Ad} {D : Fd}
/-- a judge of values that are not too great -/
def spS (f : K0.D → Bool) (K : PySem.W.Frag) : Sp := fun vs H Q _ => ∃ x d, vs = [x] ∧ Rp K H x d ∧ d.size ≤ 30000 ∧ RetV (.bl (f d)) H Q
theorem spS_len {f : K0.D → Bool} {vs : List V} {H : Hp} {Q : VK} {E : XK} (h : spS f K vs H Q E) : vs.length = 1 := by
  obtain ⟨x, d, rfl, _⟩ := h
  rfl
theorem svS {f : K0.D → Bool} {H : Hp} {x : V} {d : K0.D} (h : Rp K H x d) (hs : d.size ≤ 30000) : SpV (spS f K) [x] H (.bl (f d)) := fun H1 e Q q E => ⟨x, d, rfl, h.ex e, hs, q⟩
theorem small_of {d : K0.D} (h : d.size ≤ 30000) : d.small := by
  cases d with
  | tup ds =>
    have := sizeL_len ds
    simp only [K0.D.size] at h
    show ds.length ≤ 40000
    omega
  | _ => trivial
theorem sline {n : Nat} (h : n ≤ 3000000) : n ≤ sizeLine := by rw [sizeLine_eq]; omega
def sp_is_made_of (K : PySem.W.Frag) : Sp := fun vs H Q _ => ∃ x d sg m, vs = [x, .str sg, .int m] ∧ Rp K H x d ∧ d.size ≤ 30000 ∧ RetV (.bl (d.word sg m)) H Q
theorem len_is_made_of {vs : List V} {H : Hp} {Q : VK} {E : XK} (h : sp_is_made_of K vs H Q E) : vs.length = 3 := by
  obtain ⟨x, d, sg, m, rfl, _⟩ := h
  rfl
theorem sv_made {H : Hp} {x : V} {d : K0.D} {sg : Str} {m : Int} (h : Rp K H x d) (hs : d.size ≤ 30000) : SpV (sp_is_made_of K) [x, .str sg, .int m] H (.bl (d.word sg m)) := fun H1 e Q q E => ⟨x, d, sg, m, rfl, h.ex e, hs, q⟩
/-- s.strip(t) -/
theorem ev_strip {σ : L2.St} {H : Hp} {ta tb : TE} {a b : Str} (ha : Ev ta σ H (.str a)) (hb : Ev tb σ H (.str b)) (h : a.length ≤ sizeLine) :
    Ev (tBM K "str" (fun (x : V) (xs : List V) (H : Hp) (Q : VK) => ∃ a b, x = .str a ∧ xs = [.str b] ∧ a.length ≤ sizeLine ∧ Q (.str (Txt.stripChars a b)) H) ta (tCons tb tNil)) σ H (.str (Txt.stripChars a b)) := fun H1 e Q q =>
  ha H1 e _ fun H2 e2 => ⟨rfl, hb H2 (e.trans e2) _ fun H3 e3 => ⟨a, b, rfl, rfl, h, q H3 (e2.trans e3)⟩⟩
theorem ok_is_made_of (T : Txt K mg A D) : FnOk P w K mg base CX0 1 A.is_made_of D.is_made_of ["value", "signs", "most"] (sp_is_made_of K) := by
  refine T.F_is_made_of.ok sc_is_made_of (fun vs H Q E h => len_is_made_of h) (fun cdv A0 outer s H vs Q E hr h => ?_)
  refine ⟨_, (pss_one (ps_ret (pe_and (pe_callB call_isi (by rfl) T.b_isinstance (by decide +kernel) (pa_cons (pv 0) (pa_cons (pe_bltn (v := .ty "str") (u := .type "str") (by rfl) T.b_str (by decide +kernel) rfl) pa_nil))) (pe_and (pe_cmpR op_le (pe_callB call_len (by rfl) T.b_len (by decide +kernel) (pa_cons (pv 0) pa_nil)) (pv 2) (nomark _)) (pe_one (pe_cmpR op_eq (pe_bm PySem.F.plainAttrs_str PySem.F.slot_str_strip PySem.F.type_str_strip mt_stripChars (pv 0) (pa_cons (pv 1) pa_nil)) pe_str (nomark _))))))), ?_⟩
  obtain ⟨x, d, sg, m, rfl, hx, hs, k⟩ := h
  refine s_ret (ev_is (ev_andV (a := d.isStr) (b := d.word sg m) (ev_cb (ea_cons (ev_var rfl) (ea_cons ev_c ea_nil)) (rc_str hx)) fun hb => ?_) ?_) fun H2 e2 => k H2 e2
  · obtain ⟨s, rfl, rfl⟩ := hx.isS hb
    have hl : s.length ≤ sizeLine := sline (by simp only [K0.D.size] at hs; omega)
    refine ev_andV (a := decide ((s.length : Int) ≤ m)) (ev_op (ev_cb (ea_cons (ev_var rfl) ea_nil) (rc_lenS hl)) (ev_var rfl) rv_I0) fun _ => ?_
    refine ev_is (ev_op (ev_strip (ev_var rfl) (ev_var rfl) hl) ev_c (rv_eq rfl)) ?_
    exact congrArg V.bl (strip_all _ _)
  · cases d <;> rfl
def sp_is_key (K : PySem.W.Frag) : Sp := spS K0.D.key K
theorem len_is_key {vs : List V} {H : Hp} {Q : VK} {E : XK} (h : sp_is_key K vs H Q E) : vs.length = 1 := spS_len h
theorem ok_is_key (T : Txt K mg A D) : FnOk P w K mg base CX0 2 A.is_key D.is_key ["value"] (sp_is_key K) := by
  have G_is_made_of : FnOk P w K mg base CX0 1 A.is_made_of D.is_made_of ["value", "signs", "most"] (sp_is_made_of K) := ok_is_made_of T
  obtain ⟨t_LETTERS, c_LETTERS⟩ := T.c_LETTERS
  obtain ⟨t_MAX_KEY_SIGNS, c_MAX_KEY_SIGNS⟩ := T.c_MAX_KEY_SIGNS
  refine T.F_is_key.ok sc_is_key (fun vs H Q E h => len_is_key h) (fun cdv A0 outer s H vs Q E hr h => ?_)
  refine ⟨_, (pss_one (ps_ret (pe_and (pe_call G_is_made_of (hr.mono (by decide)) rfl T.g_is_made_of T.F_is_made_of.kp T.b_is_made_of .nil pass0 (pa_cons (pv 0) (pa_cons (pe_glob (v := .str "abcdefghijklmnopqrstuvwxyz") rfl c_LETTERS ⟨_, rfl⟩) (pa_cons (pe_glob (v := .int (8)) rfl c_MAX_KEY_SIGNS ⟨_, rfl⟩) pa_nil)))) (pe_one (pe_cmpR op_gt (pe_callB call_len (by rfl) T.b_len (by decide +kernel) (pa_cons (pv 0) pa_nil)) pe_int (nomark _)))))), ?_⟩
  obtain ⟨x, d, rfl, hx, hs, k⟩ := h
  refine s_ret (ev_andV (a := d.word letters 8) (b := d.nonEmpty) (ev_call (ea_cons (ev_var rfl) (ea_cons ev_c (ea_cons ev_c ea_nil))) (sv_made hx hs)) fun hb => ?_) fun H2 e2 => k H2 e2
  cases hx with
  | str s =>
    have hl : s.length ≤ sizeLine := sline (by simp only [K0.D.size] at hs; omega)
    refine ev_is (ev_op (ev_cb (ea_cons (ev_var rfl) ea_nil) (rc_lenS hl)) ev_c rv_I0) ?_
    show V.bl (decide ((0 : Int) < (s.length : Int))) = V.bl (decide (0 < s.length))
    congr 1
    exact decide_eq_decide.mpr (by omega)
  | _ => cases hb
def sp_is_value (K : PySem.W.Frag) : Sp := spS K0.D.value K
theorem len_is_value {vs : List V} {H : Hp} {Q : VK} {E : XK} (h : sp_is_value K vs H Q E) : vs.length = 1 := spS_len h
theorem ok_is_value (T : Txt K mg A D) : FnOk P w K mg base CX0 4 A.is_value D.is_value ["value"] (sp_is_value K) := by
  have G_is_made_of : FnOk P w K mg base CX0 1 A.is_made_of D.is_made_of ["value", "signs", "most"] (sp_is_made_of K) := ok_is_made_of T
  have G_is_short_number : FnOk P w K mg base CX0 3 A.is_short_number D.is_short_number ["value"] (sp_is_short_number K) := ok_is_short_number T
  obtain ⟨t_MAX_SIGNS, c_MAX_SIGNS⟩ := T.c_MAX_SIGNS
  obtain ⟨t_SIGNS, c_SIGNS⟩ := T.c_SIGNS
  refine T.F_is_value.ok sc_is_value (fun vs H Q E h => len_is_value h) (fun cdv A0 outer s H vs Q E hr h => ?_)
  refine ⟨_, (pss_one (ps_ret (pe_or (pe_call G_is_short_number (hr.mono (by decide)) rfl T.g_is_short_number T.F_is_short_number.kp T.b_is_short_number .nil pass0 (pa_cons (pv 0) pa_nil)) (pe_one (pe_call G_is_made_of (hr.mono (by decide)) rfl T.g_is_made_of T.F_is_made_of.kp T.b_is_made_of .nil pass0 (pa_cons (pv 0) (pa_cons (pe_glob (v := .str "abcdefghijklmnopqrstuvwxyz0123456789 ") rfl c_SIGNS ⟨_, rfl⟩) (pa_cons (pe_glob (v := .int (12)) rfl c_MAX_SIGNS ⟨_, rfl⟩) pa_nil)))))))), ?_⟩
  obtain ⟨x, d, rfl, hx, hs, k⟩ := h
  exact s_ret (ev_orV (a := d.short) (b := d.word signs37 12) (ev_call (ea_cons (ev_var rfl) ea_nil) (sv1 hx)) fun hb => ev_call (ea_cons (ev_var rfl) (ea_cons ev_c (ea_cons ev_c ea_nil))) (sv_made hx hs)) fun H2 e2 => k H2 e2
def D.isNon : K0.D → Bool
  | .non => true | _ => false
theorem Rp.isN {H : Hp} {x : V} {d : K0.D} (h : Rp K H x d) : decide (x = V.non) = d.isNon := by cases h <;> rfl
def sp_is_circle (K : PySem.W.Frag) : Sp := spS K0.D.circle K
theorem len_is_circle {vs : List V} {H : Hp} {Q : VK} {E : XK} (h : sp_is_circle K vs H Q E) : vs.length = 1 := spS_len h
theorem ok_is_circle (T : Txt K mg A D) : FnOk P w K mg base CX0 4 A.is_circle D.is_circle ["value"] (sp_is_circle K) := by
  have G_are_indices : FnOk P w K mg base CX0 3 A.are_indices D.are_indices ["value", "many"] (sp_are_indices K) := ok_are_indices T
  obtain ⟨t_MAX_CIRCLE, c_MAX_CIRCLE⟩ := T.c_MAX_CIRCLE
  obtain ⟨t_MAX_HOUSES, c_MAX_HOUSES⟩ := T.c_MAX_HOUSES
  refine T.F_is_circle.ok sc_is_circle (fun vs H Q E h => len_is_circle h) (fun cdv A0 outer s H vs Q E hr h => ?_)
  refine ⟨_, (pss_one (ps_ret (pe_and (pe_call G_are_indices (hr.mono (by decide)) rfl T.g_are_indices T.F_are_indices.kp T.b_are_indices .nil pass0 (pa_cons (pv 0) (pa_cons (pe_glob (v := .int (9)) rfl c_MAX_HOUSES ⟨_, rfl⟩) pa_nil))) (pe_one (pe_chain op_le op_le pe_int (pe_callB call_len (by rfl) T.b_len (by decide +kernel) (pa_cons (pv 0) pa_nil)) (pe_glob (v := .int (7)) rfl c_MAX_CIRCLE ⟨_, rfl⟩)))))), ?_⟩
  obtain ⟨x, d, rfl, hx, hs, k⟩ := h
  refine s_ret (ev_is (ev_andV (a := d.indices 9) (b := d.circle) (ev_call (ea_cons (ev_var rfl) (ea_cons ev_c ea_nil)) (sv_indices hx (small_of hs))) fun hb => ?_) ?_) fun H2 e2 => k H2 e2
  · cases hx with
    | tup hq hr1 =>
      have hl := hr1.len
      refine ev_is (ev_chain_le (ev_c (v := .int 1)) (ev_cb (ea_cons (ev_var rfl) ea_nil) (rc_lenT hq)) ev_c) ?_
      rename_i a xs ds
      show V.bl (decide ((1 : Int) ≤ (xs.length : Int)) && decide ((xs.length : Int) ≤ 7)) = V.bl (K0.D.indices 9 (.tup ds) && (decide (1 ≤ ds.length) && decide (ds.length ≤ 7)))
      rw [hb, Bool.true_and, hl]
      congr 2
      · exact decide_eq_decide.mpr (by omega)
      · exact decide_eq_decide.mpr (by omega)
    | _ => cases hb
  · cases d with
    | tup ds =>
      show V.bl (K0.D.indices 9 (.tup ds) && (K0.D.indices 9 (.tup ds) && _)) = V.bl (K0.D.indices 9 (.tup ds) && _)
      cases K0.D.indices 9 (.tup ds) <;> rfl
    | _ => rfl
end
end K0

namespace K0
open PySem L2 Evl
def tupsL : List D → List (List D)
  | [] => []
  | .tup es :: r => es :: tupsL r
  | _ :: r => tupsL r
theorem tupsL_app : ∀ a b : List D, tupsL (a ++ b) = tupsL a ++ tupsL b
  | [], _ => rfl
  | d :: r, b => by
    cases d <;> first | exact congrArg _ (tupsL_app r b) | exact tupsL_app r b
def okTop (d : D) : Bool := d.isTup || d.single
theorem plain_flat {j : Nat} : ∀ ds : List D, ds.all okTop = true → ds.all (D.plain (j + 1)) = (tupsL ds).flatten.all (D.plain j)
  | [], _ => rfl
  | d :: r, h => by
    rw [List.all_cons, Bool.and_eq_true] at h
    have ih := plain_flat (j := j) r h.2
    rw [List.all_cons, ih]
    cases d with
    | tup es =>
      show (es.all (D.plain j) && _) = ((es :: tupsL r).flatten).all _
      rw [List.flatten_cons, List.all_append]
    | non => rfl
    | bl b => exact absurd h.1 (by simp [okTop, D.isTup, D.single])
    | int i =>
      have hs : D.single (.int i) = true := h.1
      show (D.single (.int i) && _) = _
      rw [hs, Bool.true_and]
      rfl
    | str s =>
      have hs : D.single (.str s) = true := h.1
      show (D.single (.str s) && _) = _
      rw [hs, Bool.true_and]
      rfl
    | oth => exact absurd h.1 (by simp [okTop, D.isTup, D.single])
theorem plain_single {n : Nat} {d : D} (h : d.isTup = false) : d.plain n = d.single := by
  cases n <;> cases d <;> first | rfl | cases h
theorem plain_none : ∀ {ds : List D} {n : Nat}, ds.all okTop = true → tupsL ds = [] → ds.all (D.plain n) = true
  | [], _, _, _ => rfl
  | d :: r, n, h, e => by
    rw [List.all_cons, Bool.and_eq_true] at h
    cases ht : d.isTup with
    | true =>
      cases d with
      | tup es => exact absurd e (by simp [tupsL])
      | _ => cases ht
    | false =>
      have h1 : d.single = true := by
        have := h.1
        unfold okTop at this
        rw [ht, Bool.false_or] at this
        exact this
      have e' : tupsL r = [] := by cases d <;> first | exact e | cases ht
      rw [List.all_cons, plain_single ht, h1, Bool.true_and]
      exact plain_none h.2 e'
theorem plain_deep : ∀ {ds : List D}, tupsL ds ≠ [] → ds.all (D.plain 0) = false
  | [], h => absurd rfl h
  | d :: r, h => by
    cases ht : d.isTup with
    | true =>
      cases d with
      | tup es => rfl
      | _ => cases ht
    | false =>
      have h' : tupsL r ≠ [] := by cases d <;> first | exact h | cases ht
      rw [List.all_cons, plain_deep h', Bool.and_false]
theorem size_flat : ∀ ds : List D, D.sizeL (tupsL ds).flatten + (tupsL ds).length ≤ D.sizeL ds
  | [] => Nat.le_refl _
  | d :: r => by
    have ih := size_flat r
    cases d with
    | tup es =>
      show D.sizeL (es :: tupsL r).flatten + (tupsL r).length.succ ≤ D.size (.tup es) + D.sizeL r
      rw [List.flatten_cons, sizeL_app]
      simp only [D.size]
      omega
    | _ =>
      simp only [D.sizeL]
      show D.sizeL (tupsL r).flatten + (tupsL r).length ≤ _
      omega
theorem tups_nil_empty : D.sizeL ([] : List D) = 0 := rfl
inductive Rows (K : PySem.W.Frag) (H : Hp) : List Addr → List (List V) → List (List D) → Prop where
  | nil : Rows K H [] [] []
  | cons {r : Addr} {row : List V} {es : List D} {rs : List Addr} {rows : List (List V)} {ess : List (List D)} : SqT K H r row → RpAll K H row es → Rows K H rs rows ess → Rows K H (r :: rs) (row :: rows) (es :: ess)
section
variable {K : PySem.W.Frag} {H H' : Hp}
theorem Rows.snoc {r : Addr} {row : List V} {es : List D} (h : SqT K H r row) (hr : RpAll K H row es) : ∀ {rs : List Addr} {rows : List (List V)} {ess : List (List D)}, Rows K H rs rows ess → Rows K H (rs ++ [r]) (rows ++ [row]) (ess ++ [es])
  | _, _, _, .nil => .cons h hr .nil
  | _, _, _, .cons a b c => .cons a b (Rows.snoc h hr c)
theorem Rows.len : ∀ {rs : List Addr} {rows : List (List V)} {ess : List (List D)}, Rows K H rs rows ess → rs.length = rows.length ∧ rs.length = ess.length
  | _, _, _, .nil => ⟨rfl, rfl⟩
  | _, _, _, .cons _ _ c => ⟨by rw [List.length_cons, List.length_cons, c.len.1], by rw [List.length_cons, List.length_cons, c.len.2]⟩
theorem Rows.get : ∀ {rs : List Addr} {rows : List (List V)} {ess : List (List D)}, Rows K H rs rows ess → ∀ (i : Nat) r row, rs[i]? = some r → rows[i]? = some row → SqT K H r row
  | _, _, _, .nil, i, r, row, h, _ => by simp at h
  | _, _, _, .cons a _ c, 0, r, row, h, h' => by
    have e1 := Option.some.inj h
    have e2 := Option.some.inj h'
    subst e1 e2
    exact a
  | _, _, _, .cons _ _ c, i + 1, r, row, h, h' => Rows.get c i r row (by simpa using h) (by simpa using h')
theorem Rows.flat : ∀ {rs : List Addr} {rows : List (List V)} {ess : List (List D)}, Rows K H rs rows ess → RpAll K H rows.flatten ess.flatten
  | _, _, _, .nil => .nil
  | _, _, _, .cons _ b c => by
    rw [List.flatten_cons, List.flatten_cons]
    exact RpAll.app b (Rows.flat c)
end
section
variable {P : Program} {w : World} {K : PySem.W.Frag} {mg : Str → Option Value} {base : Heap} {A : Ad} {D : Fd}
def sp_is_plain_within (K : PySem.W.Frag) : Sp := fun vs H Q _ => ∃ x d, ∃ n : Nat, vs = [x, .int (n : Int)] ∧ Rp K H x d ∧ d.size ≤ 30000 ∧ RetV (.bl (d.plain n)) H Q
theorem len_is_plain_within {vs : List V} {H : Hp} {Q : VK} {E : XK} (h : sp_is_plain_within K vs H Q E) : vs.length = 2 := by
  obtain ⟨x, d, n, rfl, _⟩ := h
  rfl
theorem sv_within_plain {H : Hp} {x : V} {d : K0.D} {n : Nat} (h : Rp K H x d) (hs : d.size ≤ 30000) : SpV (sp_is_plain_within K) [x, .int (n : Int)] H (.bl (d.plain n)) := fun H1 e Q q E => ⟨x, d, n, rfl, h.ex e, hs, q⟩
def PlainW (K : PySem.W.Frag) (H : Hp) (x : V) (d : K0.D) (n : Nat) (m : Nat) (σ : L2.St) (H' : Hp) : Prop :=
  ∃ (lv : Addr) (xs : List V) (ds : List K0.D) (k : Nat) (v4 v5 : Option V), σ = [some x, some (.int (n : Int)), some (.ref lv), some (.int (k : Int)), v4, v5, none, none] ∧ H' lv = some (.lst xs) ∧ RpAll K H' xs ds ∧ Ex H H' ∧
    K0.D.sizeL ds = m ∧ m ≤ 30000 ∧ k ≤ n ∧ d.plain n = ds.all (K0.D.plain (n - k))
def PlainP (K : PySem.W.Frag) (H1 : Hp) (x : V) (n k : Nat) (lv p : Addr) (ds : List K0.D) (i : Nat) (σ : L2.St) (H' : Hp) : Prop :=
  ∃ (ys : List Addr) (rows : List (List V)) (v5 : Option V), σ = [some x, some (.int (n : Int)), some (.ref lv), some (.int (k : Int)), some (.ref p), v5, none, none] ∧ Ex H1 H' ∧ H' p = some (.lst (ys.map V.ref)) ∧
    Rows K H1 ys rows (tupsL (ds.take i)) ∧ (ds.take i).all okTop = true ∧ ys.length ≤ i
end
end K0

namespace K0
open PySem PySem.Spec PyProof.Rows L2 Evl
/-! ### more rules -/
section
variable {X : Cx}
/-- xs == [] for two lists of which one is empty -/
theorem op_eqNil (hu : X.A.units < cLine) : OpR X (compareOp .Eq) (fun x y H Q => ∃ a b xs, x = V.ref a ∧ y = V.ref b ∧ SqL X.K H a xs ∧ SqL X.K H b [] ∧ Q (.bl xs.isEmpty) H) := by
  intro pins s σ H x y v u Q I rx ry h
  obtain ⟨a, b, xs, rfl, rfl, ha, hb, q⟩ := h
  cases rx
  cases ry
  obtain ⟨its, r, p, _⟩ := I.list ha
  obtain ⟨its2, r2, p2, _⟩ := I.list hb
  cases r2
  cases xs with
  | nil =>
    cases r
    exact SeqAt.eq_listAt (e := fun _ => true) p.isList p2.isList rfl hu (fun j h1 _ => absurd h1 (by simp)) ⟨.bl true, H, I, rfl, q⟩
  | cons y ys =>
    refine SeqAt.eq_list_lengthsAt p.isList p2.isList ?_ hu ⟨.bl false, H, I, rfl, q⟩
    cases r with
    | cons r1 r2 => simp
theorem fold_size (x : Array Nat) : ∀ (n : Nat) (acc : Array Nat), ((List.replicate n x).foldl (· ++ ·) acc).size = acc.size + n * x.size
  | 0, acc => by simp
  | n + 1, acc => by
    rw [List.replicate_succ, List.foldl_cons, fold_size x n, Array.size_append, Nat.succ_mul]
    omega
/-- a text times a number: some text of that length -/
theorem op_mulS : OpR X (binaryOp .Mult) (fun x y H Q => ∃ (s : Str) (n : Nat), x = V.str s ∧ y = V.int (n : Int) ∧ 1 < n ∧ n ≤ 5000 ∧ s.length = 1 ∧ ∀ z : Str, z.length = n → Q (.str z) H) := by
  intro pins s σ H x y v u Q I rx ry h
  obtain ⟨a, n, rfl, rfl, h1, h2, hl, q⟩ := h
  obtain ⟨t, rfl⟩ := rx
  obtain ⟨t', rfl⟩ := ry
  have hs : sizeLine = 16777216 := sizeLine_eq
  have hn : ¬ ((n : Int) < 1) := by omega
  have hb : ((n : Int) == 1 || a.length == 0) = false := by
    rw [hl]
    simp
    omega
  have e : (⟨(List.replicate ((n : Int)).toNat a.cps).foldl (· ++ ·) #[]⟩ : Str).length = n := by
    show ((List.replicate ((n : Int)).toNat a.cps).foldl (· ++ ·) #[]).size = n
    rw [fold_size]
    show 0 + ((n : Int)).toNat * a.length = n
    rw [hl]
    omega
  refine PySem.P.mul_str ?_ (fun _ _ => ?_) (fun _ _ => ?_) ?_
  · have c1 : ¬ ((n : Int) < -(2 ^ 63 : Int)) := by omega
    have c2 : ¬ ((n : Int) ≥ 2 ^ 63) := by omega
    rw [decide_eq_false c1, decide_eq_false c2]
    rfl
  · rw [hl]
    have h3 : 1 ≤ (2 ^ 63 - 1 : Int) / (n : Int) := by
      rw [Int.le_ediv_iff_mul_le (by omega)]
      omega
    omega
  · rw [hl]
    unfold Builtin.Str.tooLong
    exact decide_eq_false (by omega)
  · rw [if_neg hn, if_neg (by rw [hb]; decide)]
    exact ⟨by rw [e, hs]; omega, ⟨.str _, H, I.tok _, ⟨_, rfl⟩, q _ e⟩⟩
/-- set(t), t a tuple of ints -/
def rSetT (K : PySem.W.Frag) (w : World) : List V → Hp → VK → Prop := fun vs H Q => ∃ (a : Addr) (ns : List Int), vs = [V.ref a] ∧ SqT K H a (ns.map V.int) ∧ ns.length ≤ 60 ∧
  ∀ (p : Addr) (c : Nat), c ≤ ns.length → H p = none → Q (.ref p) (upd H p (SetO w p (fun j => decide (j ∈ ns)) c))
theorem cr_setT (hc : X.calm = true) : CallR X (.type "set") (rSetT X.K X.w) := by
  intro pins s σ H xs us Q I r h
  obtain ⟨a, ns, rfl, ha, hl, q⟩ := h
  obtain ⟨u, rfl, rx⟩ := vals1 r
  cases rx
  obtain ⟨its, ri, p, _⟩ := I.tuple ha
  have hb : ns.length + 1 < scanBound := Nat.lt_of_le_of_lt (Nat.succ_le_succ hl) (by decide)
  refine L2.call_set_tupI ns (I.ok.hd hc) p (by simpa using intsAre_of ri) hb fun h' tk c R hcl hk => ?_
  exact ⟨.ref _, upd H s.heap.objs.size (SetO X.w s.heap.objs.size (fun j => decide (j ∈ ns)) c), I.laid (t' := tk) hk (Nat.le_refl _) (setO_new R), rfl, q _ c hcl (I.hok.fresh (Nat.le_refl _))⟩
/-- repr of data (where no repr is under way) -/
def rRepr (K : PySem.W.Frag) : List V → Hp → VK → Prop := fun vs H Q => ∃ x d, vs = [V.ref x] ∧ Dp K H (.ref x) d ∧ d.showable = true ∧ d.hasDict = false ∧ d.depth ≤ 60 ∧ d.shown.length ≤ sizeLine ∧ Q (.str d.shown) H
theorem cr_repr (hg : X.A.guards = some []) (hu : X.A.units + 64 < cLine) : CallR X (.builtin "repr") (rRepr X.K) := by
  intro pins s σ H xs us Q I r h
  obtain ⟨a, d, rfl, hd, h1, h2, h3, h4, q⟩ := h
  obtain ⟨u, rfl, rx⟩ := vals1 r
  cases rx
  obtain ⟨as, rr⟩ := Dp.reads I d _ _ hd rfl
  refine repr_of_reads' rr h1 (fun z => by rw [h2] at z; cases z) hg (by omega) (fun b o e => e) (fun h' u tk hk => ?_) h4
  exact ⟨.str d.shown, H, I.kept hk, ⟨_, rfl⟩, q⟩
end
end K0

namespace K0
open PySem L2 Evl
/-! ### the heap but for one list -/
def hid (o : Option Addr) (H : Hp) : Hp := fun b => if o = some b then none else H b
section
variable {o : Option Addr} {a : Addr} {H H' H'' : Hp}
theorem hid_ex (e : Ex H H') : Ex (hid o H) (hid o H') := fun b u h => by
  unfold hid at h ⊢
  split at h
  · cases h
  · rename_i n
    rw [if_neg n]
    exact e b u h
theorem hid_le : Ex (hid o H) H := fun b u h => by
  unfold hid at h
  split at h
  · cases h
  · exact h
theorem hid_none : hid none H = H := by
  funext b
  unfold hid
  rw [if_neg (by simp)]
theorem hid_at {b : Addr} {u : HO} (h : H b = some u) (n : b ≠ a) : hid (some a) H b = some u := by
  unfold hid
  rw [if_neg (by simpa using fun z => n z.symm)]
  exact h
/-- all but what stands at a is as it was -/
def Bt (a : Addr) (H H' : Hp) : Prop := Ex (hid (some a) H) (hid (some a) H')
theorem Bt.refl : Bt a H H := Ex.refl _
theorem Bt.trans (h : Bt a H H') (h' : Bt a H' H'') : Bt a H H'' := Ex.trans h h'
theorem Bt.of (e : Ex H H') : Bt a H H' := hid_ex e
theorem Bt.upd {u : HO} : Bt a H (L2.upd H a u) := fun b v h => by
  unfold hid at h ⊢
  split at h
  · cases h
  · rename_i n
    have n' : b ≠ a := fun z => n (by rw [z])
    rw [if_neg n, upd_ne n']
    exact h
theorem Bt.at {b : Addr} {u : HO} (e : Bt a H H') (n : b ≠ a) (h : H b = some u) : H' b = some u := hid_le _ _ (e _ _ (hid_at h n))
theorem Bt.sqL {K : PySem.W.Frag} {b : Addr} {xs : List V} (e : Bt a H H') (n : b ≠ a) (h : SqL K H b xs) : SqL K H' b xs := by
  rcases h with (h | ⟨o, h⟩) | h
  · exact .inl (.inl (e.at n h))
  · exact .inl (.inr ⟨o, e.at n h⟩)
  · exact .inr h
theorem Bt.sqT {K : PySem.W.Frag} {b : Addr} {xs : List V} (e : Bt a H H') (n : b ≠ a) (h : SqT K H b xs) : SqT K H' b xs := by
  rcases h with (h | ⟨o, h⟩) | h
  · exact .inl (.inl (e.at n h))
  · exact .inl (.inr ⟨o, e.at n h⟩)
  · exact .inr h
theorem Bt.free {b : Addr} (e : Bt a H H') (n : b ≠ a) (h : H' b = none) : H b = none := by
  cases z : H b with
  | none => rfl
  | some u =>
    rw [e.at n z] at h
    cases h
end
def DiceAt (H : Hp) (a : Addr) : Prop := ∃ d0 d1 d2 : Int, H a = some (.lst [.int d0, .int d1, .int d2])
theorem DiceAt.ex {H H' : Hp} {a : Addr} (e : Ex H H') (h : DiceAt H a) : DiceAt H' a := by
  obtain ⟨x, y, z, h⟩ := h
  exact ⟨x, y, z, e _ _ h⟩
theorem DiceAt.ne {H : Hp} {a p : Addr} (h : DiceAt H a) (hp : H p = none) : p ≠ a := by
  obtain ⟨x, y, z, h⟩ := h
  exact (ne_of_none h hp).symm
section
variable {K : PySem.W.Frag} {σ : L2.St} {H H' : Hp} {ta tb te tx : TE} {t u : TT} {x y z v : V}
theorem rc_abs {i : Int} : RC (fun xs H Q => ∃ i, xs = [.int i] ∧ Q (.int (if i < 0 then -i else i)) H) [.int i] H (.int (if i < 0 then -i else i)) := fun H1 _ _ q => ⟨i, rfl, q H1 (Ex.refl _)⟩
theorem rc_max2 {i j : Int} : RC (fun xs H Q => ∃ i j, xs = [.int i, .int j] ∧ Q (.int (if j > i then j else i)) H) [.int i, .int j] H (.int (if j > i then j else i)) := fun H1 _ _ q => ⟨i, j, rfl, q H1 (Ex.refl _)⟩
theorem rc_min2 {i j : Int} : RC (fun xs H Q => ∃ i j, xs = [.int i, .int j] ∧ Q (.int (if j < i then j else i)) H) [.int i, .int j] H (.int (if j < i then j else i)) := fun H1 _ _ q => ⟨i, j, rfl, q H1 (Ex.refl _)⟩
theorem rc_int1 {i : Int} : RC (fun xs H Q => (∃ i, xs = [.int i] ∧ Q (.int i) H) ∨ ∃ k, xs = [.bl k] ∧ Q (.int (if k then 1 else 0)) H) [.int i] H (.int i) := fun H1 _ _ q => Or.inl ⟨i, rfl, q H1 (Ex.refl _)⟩
theorem rc_intB {b : Bool} : RC (fun xs H Q => (∃ i, xs = [.int i] ∧ Q (.int i) H) ∨ ∃ k, xs = [.bl k] ∧ Q (.int (if k then 1 else 0)) H) [.bl b] H (.int (if b then 1 else 0)) := fun H1 _ _ q => Or.inr ⟨b, rfl, q H1 (Ex.refl _)⟩
theorem rv_pow {i : Int} {n : Nat} (h : n ≤ 1000000) (hi : i.natAbs < 2 ^ 64) : RV (rI CPow fun i j => .int (i ^ j.toNat)) (.int i) (.int (n : Int)) H (.int (i ^ n)) := rv_I (by exact ⟨by omega, by omega, hi⟩)
/-- a chosen value -/
theorem ev_ifv {b : Bool} {v w : V} (h : EvT t σ H b) (h1 : b = true → Ev ta σ H v) (h2 : b = false → Ev tb σ H w) : Ev (tIf t ta tb) σ H (if b then v else w) := by
  cases b with
  | true => exact ev_if h (fun _ => h1 rfl) (fun z => by cases z)
  | false => exact ev_if h (fun z => by cases z) (fun _ => h2 rfl)
end
section
variable {P : Program} {w : World} {K : PySem.W.Frag} {mg : Str → Option Value} {base : Heap} {A : Ad} {D : Fd}
def sp_law_dice (K : PySem.W.Frag) : Sp := fun vs H Q _ => ∃ (a : Addr) (ns : List Int) (i : Nat), vs = [.ref a, .int (i : Int)] ∧ SqL K H a (ns.map V.int) ∧ ∀ p H', H p = none → Ex H H' → DiceAt H' p → Q (.ref p) H'
theorem len_law_dice {vs : List V} {H : Hp} {Q : VK} {E : XK} (h : sp_law_dice K vs H Q E) : vs.length = 2 := by
  obtain ⟨a, ns, i, rfl, _⟩ := h
  rfl
theorem ok_law_dice (T : Txt K mg A D) : FnOk P w K mg base CX0 1 A.law_dice D.law_dice ["script", "spot"] (sp_law_dice K) := by
  refine T.F_law_dice.ok sc_law_dice (fun vs H Q E h => len_law_dice h) (fun cdv A0 outer s H vs Q E hr h => ?_)
  refine ⟨_, (pss_cons (ps_set (i := 2) sc_law_dice.nd rfl (Or.inl rfl) (pe_ifExp (pt_cmpR op_lt (pv 1) (pe_callB call_len (by rfl) T.b_len (by decide +kernel) (pa_cons (pv 0) pa_nil)) (nomark _)) (pe_callTy call_int1 (by rfl) T.b_int (by decide +kernel) (pa_cons (pe_ix ix_list (pv 0) (pv 1) (fun _ _ => rfl)) pa_nil)) (pe_op op_add (pe_op op_mul pe_int (pv 1)) pe_int)))
  (pss_cons (ps_set (i := 3) sc_law_dice.nd rfl (Or.inl rfl) (pe_op op_mod (pe_callB (call_max2 rfl) (by rfl) T.b_max (by decide +kernel) (pa_cons pe_int (pa_cons (pe_op op_sub (pe_callB call_abs (by rfl) T.b_abs (by decide +kernel) (pa_cons (pv 2) pa_nil)) (pe_op op_pow pe_int pe_int)) pa_nil))) (pe_op op_mulW (pe_op op_pow pe_int pe_int) (pe_op op_pow pe_int pe_int))))
  (pss_one (ps_ret (pe_lst (pa_cons (pv 3) (pa_cons (pe_op op_add (pe_op op_add (pe_op op_add (pe_op op_mul (pe_op op_mod (pe_callB call_abs (by rfl) T.b_abs (by decide +kernel) (pa_cons (pv 2) pa_nil)) pe_int) pe_int) (pe_op op_mul pe_int (pv 1))) (pe_op op_mul pe_int (pe_callTy call_int1 (by rfl) T.b_int (by decide +kernel) (pa_cons (pe_cmpR op_lt (pv 2) pe_int (nomark _)) pa_nil)))) pe_int) (pa_cons pe_int pa_nil)))))))), ?_⟩
  obtain ⟨a, ns, i, rfl, ha, k⟩ := h
  refine q_asg (v := .int (if i < ns.length then ns.getD i 0 else 97 * (i : Int) + 61)) ?_ fun H1 e1 => ?_
  · refine ev_is (ev_ifv (b := decide ((i : Int) < (ns.length : Int))) (v := .int (ns.getD i 0)) (w := .int (97 * (i : Int) + 61)) (et_test (ev_is (ev_op (ev_var rfl) (ev_cb (ea_cons (ev_var rfl) ea_nil) (rc_lenL ha)) rv_I0) (by rw [List.length_map]))) (fun hb => ?_) (fun hb => ?_)) ?_
    · have hi : i < ns.length := by have := of_decide_eq_true hb; omega
      refine ev_cb (ea_cons (ev_op (ev_var rfl) (ev_var rfl) (rv_ixL ha (at_of (j := i) rfl ?_))) ea_nil) rc_int1
      rw [List.getElem?_map, List.getD_eq_getElem?_getD, List.getElem?_eq_getElem hi]
      rfl
    · exact ev_op (ev_op ev_c (ev_var rfl) (rv_I (.inl ⟨by decide, by decide⟩))) ev_c rv_I0
    · by_cases c : i < ns.length
      · rw [if_pos c, if_pos (decide_eq_true (by omega))]
      · rw [if_neg c, if_neg (by rw [decide_eq_false (by omega)]; decide)]
  generalize (if i < ns.length then ns.getD i 0 else 97 * (i : Int) + 61) = c
  refine q_asg (ev_op (ev_cb (ea_cons ev_c (ea_cons (ev_op (ev_cb (ea_cons (ev_var rfl) ea_nil) rc_abs) (ev_op ev_c ev_c (rv_pow (n := 16) (by decide) (by decide))) rv_I0) ea_nil)) rc_max2)
    (ev_op (ev_op ev_c ev_c (rv_pow (n := 57) (by decide) (by decide))) (ev_op ev_c ev_c (rv_pow (n := 60) (by decide) (by decide))) (rv_I (by show _ < _; decide +kernel))) (rv_I (by decide +kernel))) fun H2 e2 => ?_
  refine s_retL (el_lst (ea_cons (ev_var rfl) (ea_cons (ev_op (ev_op (ev_op (ev_op (ev_op (ev_cb (ea_cons (ev_var rfl) ea_nil) rc_abs) ev_c (rv_I (by decide))) ev_c (rv_I (.inr ⟨by decide, by decide⟩)))
    (ev_op ev_c (ev_var rfl) (rv_I (.inl ⟨by decide, by decide⟩))) rv_I0) (ev_op ev_c (ev_cb (ea_cons (ev_op (ev_var rfl) ev_c rv_I0) ea_nil) rc_intB) (rv_I (.inl ⟨by decide, by decide⟩))) rv_I0) ev_c rv_I0) (ea_cons ev_c ea_nil))) (by simp)) fun p H3 hp e3 h3 => ?_
  exact k p H3 (fresh_back (e1.trans e2) hp) ((e1.trans e2).trans e3) ⟨_, _, _, h3⟩
def sp_law_roll (K : PySem.W.Frag) : Sp := fun vs H Q _ => ∃ (a : Addr) (m : Int), vs = [.ref a, .int m] ∧ DiceAt H a ∧ 0 < m ∧ m < 1000000 ∧ ∀ r H', 0 ≤ r → r < m → Bt a H H' → DiceAt H' a → Q (.int r) H'
theorem len_law_roll {vs : List V} {H : Hp} {Q : VK} {E : XK} (h : sp_law_roll K vs H Q E) : vs.length = 2 := by
  obtain ⟨a, m, rfl, _⟩ := h
  rfl
theorem ok_law_roll (T : Txt K mg A D) : FnOk P w K mg base CX0 1 A.law_roll D.law_roll ["dice", "most"] (sp_law_roll K) := by
  refine T.F_law_roll.ok sc_law_roll (fun vs H Q E h => len_law_roll h) (fun cdv A0 outer s H vs Q E hr h => ?_)
  refine ⟨_, (pss_cons (ps_if (pt_cmpR op_gt (pe_ix ix_list (pv 0) pe_int (fun _ _ => rfl)) pe_int (nomark _)) (pss_cons (ps_set (i := 2) sc_law_roll.nd rfl (Or.inl rfl) (pe_op op_mod (pe_callTy call_int1 (by rfl) T.b_int (by decide +kernel) (pa_cons (pe_ix ix_list (pv 0) pe_int (fun _ _ => rfl)) pa_nil)) (pv 1)))
  (pss_cons (ps_asg (pe_op op_fdiv (pe_ix ix_list (pv 0) pe_int (fun _ _ => rfl)) (pv 1)) (pg_sub (pv 0) pe_int set_list))
  (pss_one (ps_ret (pv 2))))) pss_nil)
  (pss_cons (ps_asg (pe_op op_add (pe_ix ix_list (pv 0) pe_int (fun _ _ => rfl)) pe_int) (pg_sub (pv 0) pe_int set_list))
  (pss_cons (ps_set (i := 3) sc_law_roll.nd rfl (Or.inl rfl) (pe_op op_mod (pe_callTy call_int1 (by rfl) T.b_int (by decide +kernel) (pa_cons (pe_op op_add (pe_ix ix_list (pv 0) pe_int (fun _ _ => rfl)) (pe_op op_mul pe_int (pe_ix ix_list (pv 0) pe_int (fun _ _ => rfl)))) pa_nil)) pe_int))
  (pss_cons (ps_set (i := 4) sc_law_roll.nd rfl (Or.inl rfl) (pe_op op_add (pe_op op_mul (pe_op op_mod (pe_callTy call_int1 (by rfl) T.b_int (by decide +kernel) (pa_cons (pe_op op_add (pe_op op_mul (pv 3) (pv 3)) (pe_op op_mul pe_int (pe_ix ix_list (pv 0) pe_int (fun _ _ => rfl)))) pa_nil)) pe_int) pe_int) (pv 3)))
  (pss_one (ps_ret (pe_op op_mod (pe_callTy call_int1 (by rfl) T.b_int (by decide +kernel) (pa_cons (pe_op op_fdiv (pv 4) pe_int) pa_nil)) (pv 1)))))))), ?_⟩
  obtain ⟨a, m, rfl, ⟨d0, d1, d2, ha⟩, hm, hm2, k⟩ := h
  have hmod : ∀ x : Int, 0 ≤ x % m ∧ x % m < m := fun x => ⟨Int.emod_nonneg _ (by omega), Int.emod_lt_of_pos _ hm⟩
  refine q_when (b := decide (0 < d0)) (et_test (ev_op (ev_op (ev_var rfl) ev_c (rv_ixL (sq_of ha) (at_of (j := 0) rfl rfl))) ev_c rv_I0)) (fun hb H1 e1 => ?_) (fun hb H1 e1 => ?_)
  · have h1 := e1 _ _ ha
    refine q_asg (ev_op (ev_cb (ea_cons (ev_op (ev_var rfl) ev_c (rv_ixL (sq_of h1) (at_of (j := 0) rfl rfl))) ea_nil) rc_int1) (ev_var rfl) (rv_I hm)) fun H2 e2 => ?_
    have h2 := e2 _ _ h1
    refine q_setL (j := 0) h2 (ev_op (ev_op (ev_var rfl) ev_c (rv_ixL (sq_of h2) (at_of (j := 0) rfl rfl))) (ev_var rfl) (rv_I ⟨hm, by omega⟩)) (ev_var rfl) ev_c (by simp) fun H3 e3 => ?_
    refine s_ret (ev_var rfl) fun H4 e4 => ?_
    exact k _ H4 (hmod _).1 (hmod _).2 ((Bt.of ((e1.trans e2).trans e3)).trans (Bt.upd.trans (Bt.of e4))) ⟨_, _, _, e4 _ _ upd_same⟩
  · have h1 := e1 _ _ ha
    refine q_setL (j := 2) h1 (ev_op (ev_op (ev_var rfl) ev_c (rv_ixL (sq_of h1) (at_of (j := 2) rfl rfl))) ev_c rv_I0) (ev_var rfl) ev_c (by simp) fun H2 e2 => ?_
    have h2 : (L2.upd H2 a (.lst [.int d0, .int d1, .int (d2 + 1)])) a = some (.lst [.int d0, .int d1, .int (d2 + 1)]) := upd_same
    refine q_asg (v := .int ((d1 + 71593063 * (d2 + 1)) % 2305843009213693487)) (ev_op (ev_cb (ea_cons (ev_op (ev_op (ev_var rfl) ev_c (rv_ixL (sq_of h2) (at_of (j := 1) rfl rfl))) (ev_op ev_c (ev_op (ev_var rfl) ev_c (rv_ixL (sq_of h2) (at_of (j := 2) rfl rfl))) (rv_I (.inl ⟨by decide, by decide⟩))) rv_I0) ea_nil) rc_int1) ev_c (rv_I (by decide))) fun H3 e3 => ?_
    have h3 := e3 _ _ h2
    have hone : 0 ≤ (d1 + 71593063 * (d2 + 1)) % 2305843009213693487 ∧ (d1 + 71593063 * (d2 + 1)) % 2305843009213693487 < 2305843009213693487 := ⟨Int.emod_nonneg _ (by decide), Int.emod_lt_of_pos _ (by decide)⟩
    generalize (d1 + 71593063 * (d2 + 1)) % 2305843009213693487 = one at hone ⊢
    refine q_asg (v := .int ((one * one + 89 * (d2 + 1)) % 2305843009213693253 * 6700417 + one)) (ev_op (ev_op (ev_op (ev_cb (ea_cons (ev_op (ev_op (ev_var rfl) (ev_var rfl) (rv_I (.inl ⟨by omega, by omega⟩))) (ev_op ev_c (ev_op (ev_var rfl) ev_c (rv_ixL (sq_of h3) (at_of (j := 2) rfl rfl))) (rv_I (.inl ⟨by decide, by decide⟩))) rv_I0) ea_nil) rc_int1) ev_c (rv_I (by decide))) ev_c (rv_I (.inr ⟨by decide, by decide⟩))) (ev_var rfl) rv_I0) fun H4 e4 => ?_
    refine s_ret (ev_op (ev_cb (ea_cons (ev_op (ev_var rfl) ev_c (rv_I ⟨by decide, by decide⟩)) ea_nil) rc_int1) (ev_var rfl) (rv_I hm)) fun H5 e5 => ?_
    exact k _ H5 (hmod _).1 (hmod _).2 ((Bt.of (e1.trans e2)).trans (Bt.upd.trans (Bt.of ((e3.trans e4).trans e5)))) ⟨_, _, _, ((e3.trans e4).trans e5) _ _ h2⟩
def sp_law_pick (K : PySem.W.Frag) : Sp := fun vs H Q _ => ∃ (a p : Addr) (xs : List V), vs = [.ref a, .ref p] ∧ DiceAt H a ∧ p ≠ a ∧ SqL K H p xs ∧ xs ≠ [] ∧ xs.length < 1000000 ∧ ∀ x H', x ∈ xs → Bt a H H' → DiceAt H' a → Q x H'
theorem len_law_pick {vs : List V} {H : Hp} {Q : VK} {E : XK} (h : sp_law_pick K vs H Q E) : vs.length = 2 := by
  obtain ⟨a, p, xs, rfl, _⟩ := h
  rfl
theorem ok_law_pick (T : Txt K mg A D) : FnOk P w K mg base CX0 2 A.law_pick D.law_pick ["dice", "items"] (sp_law_pick K) := by
  have G_law_roll : FnOk P w K mg base CX0 1 A.law_roll D.law_roll ["dice", "most"] (sp_law_roll K) := ok_law_roll T
  refine T.F_law_pick.ok sc_law_pick (fun vs H Q E h => len_law_pick h) (fun cdv A0 outer s H vs Q E hr h => ?_)
  refine ⟨_, (pss_one (ps_ret (pe_ix ix_list (pv 1) (pe_call G_law_roll (hr.mono (by decide)) rfl T.g_law_roll T.F_law_roll.kp T.b_law_roll .nil pass0 (pa_cons (pv 0) (pa_cons (pe_callB call_len (by rfl) T.b_len (by decide +kernel) (pa_cons (pv 1) pa_nil)) pa_nil))) (fun _ _ => rfl)))), ?_⟩
  obtain ⟨a, p, xs, rfl, ha, hne, hp, hx, hx2, k⟩ := h
  have hpos : 0 < xs.length := List.length_pos_iff.mpr hx
  refine ⟨_, rfl, ?_⟩
  refine (ea_cons (ev_var rfl) (ea_cons (ev_cb (ea_cons (ev_var rfl) ea_nil) (rc_lenL hp)) ea_nil) : EvA _ _ H [.ref a, .int (xs.length : Nat)]) H (Ex.refl _) _ fun H1 e1 => ?_
  refine ⟨a, _, rfl, ha.ex e1, by omega, by omega, fun r H2 h0 h1 hb hd => ?_⟩
  have hbt := (Bt.of e1).trans hb
  have hj : r.toNat < xs.length := by omega
  refine ⟨p, xs, r, xs[r.toNat], rfl, rfl, hbt.sqL hne hp, at_of (j := r.toNat) (by omega) (List.getElem?_eq_getElem hj), ?_⟩
  exact k _ H2 (List.getElem_mem hj) hbt hd
end
end K0

namespace K0
open PySem L2 Evl
/-! ### what evaluates to some value of which R holds -/
def Mono (R : V → Hp → Prop) : Prop := ∀ v H H', Ex H H' → R v H → R v H'
def EvR (te : TE) (σ : L2.St) (H : Hp) (R : V → Hp → Prop) : Prop := ∀ H1, Ex H H1 → ∀ Q : VK, (∀ v H2, Ex H1 H2 → R v H2 → Q v H2) → te σ H1 Q
def EvAR (ta : TA) (σ : L2.St) (H : Hp) (n : Nat) (R : V → Hp → Prop) : Prop := ∀ H1, Ex H H1 → ∀ Q : List V → Hp → Prop, (∀ vs H2, Ex H1 H2 → vs.length = n → (∀ v ∈ vs, R v H2) → Q vs H2) → ta σ H1 Q
/-- a value of which the part of the heap but for o tells data of at most this size -/
def Rz (K : PySem.W.Frag) (o : Option Addr) (s : Nat) : V → Hp → Prop := fun v H => ∃ d, Rp K (hid o H) v d ∧ d.size ≤ s
def live (o : Option Addr) (H : Hp) : Prop := ∀ a, o = some a → H a ≠ none
section
variable {K : PySem.W.Frag} {σ : L2.St} {H H' : Hp} {ta tb te tx : TE} {tr : TA} {t u : TT} {x y z v : V} {R : V → Hp → Prop} {n s s' : Nat} {o : Option Addr}
theorem mono_Rz : Mono (Rz K o s) := fun v H H' e ⟨d, h, hs⟩ => ⟨d, h.ex (hid_ex e), hs⟩
theorem Rz.le (h : Rz K o s v H) (hs : s ≤ s') : Rz K o s' v H := let ⟨d, r, z⟩ := h; ⟨d, r, Nat.le_trans z hs⟩
theorem live.ex (h : live o H) (e : Ex H H') : live o H' := fun a ha => by
  cases z : H a with
  | none => exact absurd z (h a ha)
  | some u =>
    rw [e a u z]
    simp
theorem live.new {p : Addr} {u : HO} (h : live o H) (hp : H p = none) : hid o (upd H p u) p = some u := by
  unfold hid
  rw [if_neg, upd_same]
  intro z
  exact h p z hp
theorem live_of {a : Addr} (h : DiceAt H a) : live (some a) H := fun b hb => by
  obtain ⟨d0, d1, d2, h⟩ := h
  have e := Option.some.inj hb
  subst e
  rw [h]
  simp
theorem live_none : live none H := fun b hb => by cases hb
theorem er_ev (h : Ev te σ H v) (hr : ∀ H', R v H') : EvR te σ H R := fun H1 e Q q => h H1 e Q fun H2 e2 => q v H2 e2 (hr H2)
theorem ear_nil : EvAR tNil σ H 0 R := fun H1 _ _ q => q [] H1 (Ex.refl _) rfl (fun v h => by cases h)
theorem ear_cons (hm : Mono R) (h : EvR te σ H R) (hr : EvAR tr σ H n R) : EvAR (tCons te tr) σ H (n + 1) R := fun H1 e Q q =>
  h H1 e _ fun v H2 e2 hv => hr H2 (e.trans e2) _ fun vs H3 e3 hl hvs => q (v :: vs) H3 (e2.trans e3) (by rw [List.length_cons, hl]) fun w hw => by
    rcases List.mem_cons.mp hw with hw | hw
    · rw [hw]
      exact hm _ _ _ e3 hv
    · exact hvs w hw
def EvAL (ta : TA) (σ : L2.St) (H : Hp) (n : Nat) (R : V → Hp → Prop) : Prop := ∀ H1, Ex H H1 → ∀ Q : List V → Hp → Prop, (∀ vs H2, Ex H1 H2 → vs.length ≤ n → (∀ v ∈ vs, R v H2) → Q vs H2) → ta σ H1 Q
theorem eal_nil : EvAL tNil σ H n R := fun H1 _ _ q => q [] H1 (Ex.refl _) (Nat.zero_le _) (fun v h => by cases h)
theorem eal_cons (hm : Mono R) (h : EvR te σ H R) (hr : EvAL tr σ H n R) : EvAL (tCons te tr) σ H (n + 1) R := fun H1 e Q q =>
  h H1 e _ fun v H2 e2 hv => hr H2 (e.trans e2) _ fun vs H3 e3 hl hvs => q (v :: vs) H3 (e2.trans e3) (by rw [List.length_cons]; omega) fun w hw => by
    rcases List.mem_cons.mp hw with hw | hw
    · rw [hw]
      exact hm _ _ _ e3 hv
    · exact hvs w hw
theorem rpAll_of {G : Hp} : ∀ {vs : List V}, (∀ v ∈ vs, ∃ d, Rp K G v d ∧ d.size ≤ s) → ∃ ds, RpAll K G vs ds ∧ D.sizeL ds ≤ vs.length * s
  | [], _ => ⟨[], .nil, Nat.zero_le _⟩
  | v :: vs, h => by
    obtain ⟨d, h1, h2⟩ := h v List.mem_cons_self
    obtain ⟨ds, h3, h4⟩ := rpAll_of (vs := vs) fun w hw => h w (List.mem_cons_of_mem _ hw)
    refine ⟨d :: ds, .cons h1 h3, ?_⟩
    rw [List.length_cons, Nat.succ_mul]
    simp only [D.sizeL]
    omega
theorem er_tup (hl : live o H) (h : EvAL tr σ H n (Rz K o s)) (hn : n ≤ 1000) (hs : 1 + n * s ≤ s') : EvR (tTup tr) σ H (Rz K o s') := fun H1 e Q q =>
  h H1 e _ fun vs H2 e2 hlen hvs => ⟨sz_of (by omega), fun p hp => by
    have hl2 := hl.ex (e.trans e2)
    refine q (.ref p) _ (e2.trans (Ex.new hp)) ?_
    obtain ⟨ds, h1, h2⟩ := rpAll_of hvs
    refine ⟨.tup ds, .tup (st_of (hl2.new hp)) (h1.ex (hid_ex (Ex.new hp))), ?_⟩
    have h5 : vs.length * s ≤ n * s := Nat.mul_le_mul_right s hlen
    simp only [D.size]
    omega⟩
theorem er_lst (hl : live o H) (h : EvAL tr σ H n R) (hn : n ≤ 1000) (hs : 1 ≤ s') : EvR (tLst tr) σ H (Rz K o s') := fun H1 e Q q =>
  h H1 e _ fun vs H2 e2 hlen hvs => ⟨sz_of (by omega), fun p hp => q (.ref p) _ (e2.trans (Ex.new hp)) ⟨.oth, .lst ((hl.ex (e.trans e2)).new hp), hs⟩⟩
theorem er_dict (hl : live o H) (hs : 1 ≤ s') : EvR tDNewK σ H (Rz K o s') := fun H1 e Q q => fun p hp => q (.ref p) _ (Ex.new hp) ⟨.oth, .dct ((hl.ex e).new hp), hs⟩
theorem rz_non (h : 1 ≤ s) : Rz K o s .non H := ⟨.non, .non, h⟩
theorem rz_bl {b : Bool} (h : 1 ≤ s) : Rz K o s (.bl b) H := ⟨.bl b, .bl b, h⟩
theorem rz_int {i : Int} (h : 1 ≤ s) : Rz K o s (.int i) H := ⟨.int i, .int i, h⟩
theorem rz_str {z : Str} (h : 1 + z.length / 100 ≤ s) : Rz K o s (.str z) H := ⟨.str z, .str z, h⟩
theorem rv_pw {i j : Int} (h : 0 ≤ j ∧ j ≤ 1000000 ∧ i.natAbs < 2 ^ 64) : RV (rI CPow fun i j => .int (i ^ j.toNat)) (.int i) (.int j) H (.int (i ^ j.toNat)) := rv_I h
theorem er_mulS {a : Str} {n : Nat} (ha : Ev ta σ H (.str a)) (hb : Ev tb σ H (.int (n : Int))) (h1 : 1 < n) (h2 : n ≤ 5000) (hl : a.length = 1) (hs : 1 + n / 100 ≤ s) :
    EvR (tOp (fun x y H Q => ∃ (s : Str) (n : Nat), x = V.str s ∧ y = V.int (n : Int) ∧ 1 < n ∧ n ≤ 5000 ∧ s.length = 1 ∧ ∀ z : Str, z.length = n → Q (.str z) H) ta tb) σ H (Rz K o s) := fun H1 e Q q =>
  ha H1 e _ fun H2 e2 => hb H2 (e.trans e2) _ fun H3 e3 => ⟨a, n, rfl, rfl, h1, h2, hl, fun z hz => q (.str z) H3 (e2.trans e3) ⟨.str z, .str z, by simp only [D.size]; omega⟩⟩
/-- a call in a def that changes the heap -/
theorem c_call {sp : Sp} {dvs vs : List V} {E : XK} {ta : TA} {Q : VK} (h : EvA ta σ H vs) (k : ∀ H1, Ex H H1 → sp (vs ++ dvs) H1 Q E) : tCall sp dvs E ta σ H Q := h H (Ex.refl H) _ k
theorem s_retC {D : Ends} {sp : Sp} {dvs vs : List V} {E : XK} {ta : TA} (h : EvA ta σ H vs) (k : ∀ H1, Ex H H1 → sp (vs ++ dvs) H1 D.rt E) : tRet (tCall sp dvs E ta) D σ H := h H (Ex.refl H) _ k
theorem s_asgC {D : Ends} {sp : Sp} {dvs vs : List V} {E : XK} {ta : TA} {i : Nat} (h : EvA ta σ H vs) (k : ∀ H1, Ex H H1 → sp (vs ++ dvs) H1 (fun v H2 => D.nx (σ.set i (some v)) H2) E) : tAsg (tCall sp dvs E ta) (gName i) D σ H := h H (Ex.refl H) _ k
theorem q_asgC {D : Ends} {tz : TS} {sp : Sp} {dvs vs : List V} {E : XK} {ta : TA} {i : Nat} (h : EvA ta σ H vs) (k : ∀ H1, Ex H H1 → sp (vs ++ dvs) H1 (fun v H2 => tz D (σ.set i (some v)) H2) E) : tSeq (tAsg (tCall sp dvs E ta) (gName i)) tz D σ H := h H (Ex.refl H) _ k
/-- some = [..], some = some + [..] -/
theorem q_asgLR {D : Ends} {tz : TS} {i : Nat} (hm : Mono R) (h : EvAR tr σ H n R) (hn : n ≤ 1000) (k : ∀ p xs H1, H p = none → Ex H H1 → H1 p = some (.lst xs) → xs.length = n → (∀ v ∈ xs, R v H1) → tz D (σ.set i (some (.ref p))) H1) :
    tSeq (tAsg (tLst tr) (gName i)) tz D σ H :=
  h H (Ex.refl H) _ fun vs H1 e1 hl hvs => ⟨sz_of (by omega), fun p hp => k p vs _ (fresh_back e1 hp) (e1.trans (Ex.new hp)) upd_same hl fun v hv => hm _ _ _ (Ex.new hp) (hvs v hv)⟩
theorem q_asgCR {D : Ends} {tz : TS} {i : Nat} {q0 : Addr} {ys : List V} (hm : Mono R) (ha : Ev ta σ H (.ref q0)) (h0 : H q0 = some (.lst ys)) (hy : ∀ v ∈ ys, R v H) (h : EvAR tr σ H n R) (hn : n + ys.length ≤ 1000)
    (k : ∀ p xs H1, H p = none → Ex H H1 → H1 p = some (.lst xs) → xs.length = ys.length + n → (∀ v ∈ xs, R v H1) → tz D (σ.set i (some (.ref p))) H1) :
    tSeq (tAsg (tOp rCat ta (tLst tr)) (gName i)) tz D σ H :=
  ha H (Ex.refl H) _ fun H1 e1 => h H1 e1 _ fun vs H2 e2 hl hvs => ⟨sz_of (by omega), fun p hp => by
    have hq : q0 ≠ p := ne_of_none (e2 _ _ (e1 _ _ h0)) hp
    refine ⟨q0, p, ys, vs, rfl, rfl, by rw [upd_ne hq]; exact e2 _ _ (e1 _ _ h0), upd_same, sz_of (by omega), fun p2 hp2 => ?_⟩
    have e3 : Ex H2 (upd H2 p (.lst vs)) := Ex.new hp
    have e4 : Ex (upd H2 p (.lst vs)) (upd (upd H2 p (.lst vs)) p2 (.lst (ys ++ vs))) := Ex.new hp2
    refine k p2 (ys ++ vs) _ (fresh_back ((e1.trans e2).trans e3) hp2) (((e1.trans e2).trans e3).trans e4) upd_same (by rw [List.length_append, hl]) fun v hv => ?_
    rcases List.mem_append.mp hv with hv | hv
    · exact hm _ _ _ (((e1.trans e2).trans e3).trans e4) (hy v hv)
    · exact hm _ _ _ (e3.trans e4) (hvs v hv)⟩
end
end K0

namespace K0
open PySem L2 Evl
/-! ### lists may change, nothing else -/
def ExL (G G' : Hp) : Prop := ∀ b u, G b = some u → G' b = some u ∨ ∃ xs ys, u = .lst xs ∧ G' b = some (.lst ys)
theorem ExL.of {G G' : Hp} (e : Ex G G') : ExL G G' := fun b u h => .inl (e b u h)
theorem ExL.upd {G : Hp} {p : Addr} {xs ys : List V} (h : G p = some (.lst xs)) : ExL G (L2.upd G p (.lst ys)) := fun b u hb => by
  by_cases c : b = p
  · subst c
    rw [h] at hb
    exact .inr ⟨xs, ys, (Option.some.inj hb).symm, upd_same⟩
  · exact .inl (by rw [upd_ne c]; exact hb)
theorem ExL.trans {G G' G'' : Hp} (a : ExL G G') (b : ExL G' G'') : ExL G G'' := fun c u h => by
  rcases a c u h with h1 | ⟨xs, ys, rfl, h1⟩
  · exact b c u h1
  · rcases b c _ h1 with h2 | ⟨_, zs, _, h2⟩
    · exact .inr ⟨xs, ys, rfl, h2⟩
    · exact .inr ⟨xs, zs, rfl, h2⟩
theorem ExL.sqT {K : PySem.W.Frag} {G G' : Hp} {a : Addr} {xs : List V} (e : ExL G G') (h : SqT K G a xs) : SqT K G' a xs := by
  rcases h with (h | ⟨o, h⟩) | h
  · rcases e a _ h with h1 | ⟨_, _, z, _⟩
    · exact .inl (.inl h1)
    · cases z
  · rcases e a _ h with h1 | ⟨_, _, z, _⟩
    · exact .inl (.inr ⟨o, h1⟩)
    · cases z
  · exact .inr h
section
variable {K : PySem.W.Frag} {H H' : Hp}
mutual
theorem Rp.exL {v : V} {d : D} (e : ExL H H') : Rp K H v d → Rp K H' v d
  | .non => .non
  | .bl b => .bl b
  | .int i => .int i
  | .str s => .str s
  | .tup h r => .tup (e.sqT h) (RpAll.exL e r)
  | .lst h => by
    rcases e _ _ h with h1 | ⟨_, ys, _, h1⟩
    · exact .lst h1
    · exact .lst h1
  | .dct h => by
    rcases e _ _ h with h1 | ⟨_, _, z, _⟩
    · exact .dct h1
    · cases z
theorem RpAll.exL {vs : List V} {ds : List D} (e : ExL H H') : RpAll K H vs ds → RpAll K H' vs ds
  | .nil => .nil
  | .cons h r => .cons (Rp.exL e h) (RpAll.exL e r)
end
end
theorem hid_upd {a p : Addr} {H : Hp} {u : HO} (h : p ≠ a) : hid (some a) (upd H p u) = upd (hid (some a) H) p u := by
  funext b
  unfold hid upd
  by_cases c : b = p
  · subst c
    rw [if_neg (by simpa using fun z => h z.symm), if_pos rfl, if_pos rfl]
  · rw [if_neg c, if_neg c]
/-- a comprehension over a range whose elements are drawn -/
theorem lc_draws {te : TE} {vs : List Nat} {σ : L2.St} {j : Nat} {a : Addr} {n : Nat} {H1 : Hp} {R : V → Hp → Prop} {Q : VK} (hR : ∀ v H H', ExL (hid (some a) H) (hid (some a) H') → R v H → R v H') (hd : DiceAt H1 a) (hn : n ≤ 1000)
    (hw : ∀ x, wipe ((wipe σ vs).set j (some x)) vs = wipe σ vs)
    (turn : ∀ (i : Nat) H', i < n → Bt a H1 H' → DiceAt H' a → ∀ Q : VK, (∀ x H'', Bt a H' H'' → DiceAt H'' a → R x H'' → Q x H'') → te ((wipe σ vs).set j (some (.int ((0 : Int) + (i : Int))))) H' Q)
    (k : ∀ D xs H', H1 D = none → Bt a H1 H' → DiceAt H' a → H' D = some (.lst xs) → xs.length = n → (∀ x ∈ xs, R x H') → Q (.ref D) H') :
    ∀ D, H1 D = none → ∃ W : Nat → Nat → Hp → Prop, (∃ m, W 0 m (upd H1 D (.lst []))) ∧ ∀ i m H, W i m H →
      ((Itr 0 n).stop i H ∧ Q (.ref D) H) ∨ ((Itr 0 n).go i H ∧ ∃ Nx : Hp → Prop, (∀ H', Nx H' → ∃ m', m' < m ∧ W (i + 1) m' H') ∧ ∀ x H', (Itr 0 n).yld i H x H' → gName j x (wipe σ vs) H' fun σ2 H2 => wipe σ2 vs = wipe σ vs ∧ tYes σ2 H2 fun b H3 =>
        if b = true then te σ2 H3 fun y H4 => ∃ acc, H4 D = some (.lst acc) ∧ acc.length < sizeLine ∧ Nx (upd H4 D (.lst (acc ++ [y]))) else Nx H3) := fun D hD => by
  have hne : D ≠ a := hd.ne hD
  refine lc_range (lo := 0) (n := n) (fun i H' => i ≤ n ∧ ∃ acc, H' D = some (.lst acc) ∧ acc.length = i ∧ (∀ x ∈ acc, R x H') ∧ Bt a H1 H' ∧ DiceAt H' a) ⟨Nat.zero_le _, [], upd_same, rfl, fun x h => (by cases h), Bt.of (Ex.new hD), hd.ex (Ex.new hD)⟩ (fun i H' hi p => ?_) (fun H' p => ?_)
  · obtain ⟨_, acc, p1, p2, p3, p4, p5⟩ := p
    refine ⟨hw _, turn i H' hi p4 p5 _ fun x H'' hb hd2 hx => ?_⟩
    have h2 : H'' D = some (.lst acc) := hb.at hne p1
    have eL : ExL (hid (some a) H'') (hid (some a) (upd H'' D (.lst (acc ++ [x])))) := by
      rw [hid_upd hne]
      exact ExL.upd (hid_at h2 hne)
    refine ⟨acc, h2, sz_lt (by omega), hi, acc ++ [x], upd_same, by rw [List.length_append, p2]; rfl, fun y hy => ?_, ?_, ?_⟩
    · rcases List.mem_append.mp hy with hy | hy
      · exact hR _ _ _ ((ExL.of hb).trans eL) (p3 y hy)
      · rw [List.mem_singleton.mp hy]
        exact hR _ _ _ eL hx
    · have h3 := p4.trans hb
      intro b u hbu
      have := h3 b u hbu
      rw [hid_upd hne]
      have hbD : b ≠ D := fun z => by
        subst z
        have := hid_le _ _ hbu
        rw [hD] at this
        cases this
      rw [upd_ne hbD]
      exact this
    · obtain ⟨x0, x1, x2, h⟩ := hd2
      exact ⟨x0, x1, x2, by rw [upd_ne hne.symm]; exact h⟩
  · obtain ⟨_, acc, p1, p2, p3, p4, p5⟩ := p
    exact k D acc H' hD p4 p5 p1 p2 p3
/-- tuple(xs) -/
def rTupOf (K : PySem.W.Frag) : List V → Hp → VK → Prop := fun xs H Q => ∃ p ys, xs = [.ref p] ∧ ((SqL K H p ys ∧ ∀ l, H l = none → Q (.ref l) (upd H l (.tup ys))) ∨ (SqT K H p ys ∧ Q (.ref p) H))
theorem n_next {D : Ends} {σ : L2.St} {H : Hp} (h : D.nx σ H) : tNext D σ H := h
theorem n_ret {D : Ends} {σ : L2.St} {H : Hp} {te : TE} (h : te σ H D.rt) : tRet te D σ H := h
theorem n_cb {r : List V → Hp → VK → Prop} {t : TA} {σ : L2.St} {H : Hp} {Q : VK} (h : t σ H fun vs H1 => r vs H1 Q) : tCB r t σ H Q := h
theorem n_cons {te : TE} {t : TA} {σ : L2.St} {H : Hp} {Q : List V → Hp → Prop} (h : te σ H fun v H1 => t σ H1 fun vs H2 => Q (v :: vs) H2) : tCons te t σ H Q := h
theorem n_rng1 {ta : TA} {σ : L2.St} {H : Hp} {R : It → Hp → Prop} (h : ta σ H fun vs H1 => ∃ j : Int, vs = [.int j] ∧ -(2 ^ 62) ≤ j ∧ j < 2 ^ 62 ∧ R (Itr 0 j.toNat) H1) : iRng1 ta σ H R := h
end K0

namespace K0
open PySem L2 Evl
/-! ### data: what can be compared -/
mutual
def D.clean : D → Bool
  | .oth => false
  | .tup ds => D.cleanL ds
  | _ => true
def D.cleanL : List D → Bool
  | [] => true
  | d :: ds => d.clean && D.cleanL ds
end
mutual
def D.py : D → PyData
  | .non => .none
  | .bl b => .bool b
  | .int i => .int i
  | .str s => .str s
  | .tup ds => .tuple (D.pyL ds)
  | .oth => .none
def D.pyL : List D → List PyData
  | [] => []
  | d :: ds => d.py :: D.pyL ds
end
theorem pyL_map : ∀ ds : List D, D.pyL ds = ds.map D.py
  | [] => rfl
  | d :: ds => by
    show d.py :: D.pyL ds = _
    rw [pyL_map ds]
    rfl
theorem cleanL_all : ∀ ds : List D, D.cleanL ds = ds.all D.clean
  | [] => rfl
  | d :: ds => by
    show (d.clean && D.cleanL ds) = _
    rw [cleanL_all ds]
    rfl
section
variable {K : PySem.W.Frag} {H : Hp}
mutual
theorem Rp.dp {v : V} {d : D} (c : d.clean = true) : Rp K H v d → Dp K H v d.py
  | .non => .non
  | .bl b => .bl b
  | .int i => .int i
  | .str s => .str s
  | .tup h r => .tup h (RpAll.dp c r)
  | .lst h => by cases c
  | .dct h => by cases c
theorem RpAll.dp {vs : List V} {ds : List D} (c : D.cleanL ds = true) : RpAll K H vs ds → DpAll K H vs (D.pyL ds)
  | .nil => .nil
  | .cons h r => by
    have c' := Bool.and_eq_true_iff.mp c
    exact .cons (Rp.dp c'.1 h) (RpAll.dp c'.2 r)
end
end
mutual
theorem eqv_self : ∀ d : D, d.clean = true → PyData.eqv d.py d.py = true
  | .non, _ => rfl
  | .bl b, _ => by simp [D.py, PyData.eqv]
  | .int i, _ => by simp [D.py, PyData.eqv]
  | .str s, _ => by simp [D.py, PyData.eqv]
  | .tup ds, c => by
    simp only [D.py, PyData.eqv]
    exact eqvAll_self ds c
  | .oth, c => by cases c
theorem eqvAll_self : ∀ ds : List D, D.cleanL ds = true → PyData.eqvAll (D.pyL ds) (D.pyL ds) = true
  | [], _ => rfl
  | d :: ds, c => by
    have c' := Bool.and_eq_true_iff.mp c
    simp only [D.pyL, PyData.eqvAll]
    rw [eqv_self d c'.1, eqvAll_self ds c'.2]
    rfl
end
/-- clean, of texts that can lie there, not deep -/
def D.fine (n : Nat) (d : D) : Bool := d.clean && d.py.canLay0 && decide (d.py.depth ≤ n)
theorem fine_c {n : Nat} {d : D} (h : d.fine n = true) : d.clean = true := (Bool.and_eq_true_iff.mp (Bool.and_eq_true_iff.mp h).1).1
theorem fine_l {n : Nat} {d : D} (h : d.fine n = true) : d.py.canLay0 = true := (Bool.and_eq_true_iff.mp (Bool.and_eq_true_iff.mp h).1).2
theorem fine_d {n : Nat} {d : D} (h : d.fine n = true) : d.py.depth ≤ n := of_decide_eq_true (Bool.and_eq_true_iff.mp h).2
theorem fine_all {n : Nat} : ∀ ds : List D, (∀ d ∈ ds, d.fine n = true) → D.cleanL ds = true ∧ PyData.canLayAll0 (D.pyL ds) = true ∧ PyData.depthAll (D.pyL ds) ≤ n
  | [], _ => ⟨rfl, rfl, Nat.zero_le _⟩
  | d :: ds, h => by
    have h1 := h d (List.mem_cons_self ..)
    obtain ⟨a, b, c⟩ := fine_all ds fun e he => h e (List.mem_cons_of_mem _ he)
    refine ⟨Bool.and_eq_true_iff.mpr ⟨fine_c h1, a⟩, ?_, ?_⟩
    · simp only [D.pyL, PyData.canLayAll0]
      rw [fine_l h1, b]
      rfl
    · simp only [D.pyL, PyData.depthAll]
      exact Nat.max_le.mpr ⟨fine_d h1, c⟩
theorem fine_tup {n : Nat} {ds : List D} (h : ∀ d ∈ ds, d.fine n = true) : (D.tup ds).fine (n + 1) = true := by
  obtain ⟨a, b, c⟩ := fine_all ds h
  refine Bool.and_eq_true_iff.mpr ⟨Bool.and_eq_true_iff.mpr ⟨a, ?_⟩, decide_eq_true ?_⟩
  · simp only [D.py, PyData.canLay0]
    exact b
  · simp only [D.py, PyData.depth]
    omega
theorem fine_le {n m : Nat} {d : D} (h : d.fine n = true) (l : n ≤ m) : d.fine m = true :=
  Bool.and_eq_true_iff.mpr ⟨Bool.and_eq_true_iff.mpr ⟨fine_c h, fine_l h⟩, decide_eq_true (Nat.le_trans (fine_d h) l)⟩
theorem shaped_of {n : Nat} {d : D} (h : d.fine n = true) (l : n ≤ 64) : SeqAt.shaped d.py = true :=
  Bool.and_eq_true_iff.mpr ⟨fine_l h, decide_eq_true (Nat.le_trans (fine_d h) l)⟩
theorem shapedL_of {n : Nat} {ds : List D} (h : ∀ d ∈ ds, d.fine n = true) (l : n + 1 ≤ 64) : SeqAt.shaped (.list (D.pyL ds)) = true := by
  obtain ⟨a, b, c⟩ := fine_all ds h
  refine Bool.and_eq_true_iff.mpr ⟨?_, decide_eq_true ?_⟩
  · simp only [PyData.canLay0]
    exact b
  · simp only [PyData.depth]
    omega
theorem Rp.tupI {K : PySem.W.Frag} {H : Hp} {v : V} {ds : List D} (h : Rp K H v (.tup ds)) : ∃ a xs, v = .ref a ∧ SqT K H a xs ∧ RpAll K H xs ds := by
  cases h with
  | tup h r => exact ⟨_, _, rfl, h, r⟩
theorem RpAll.setI {K : PySem.W.Frag} {H : Hp} : ∀ {vs : List V} {ds : List D} (i : Nat) {v : V} {d : D}, RpAll K H vs ds → Rp K H v d → RpAll K H (vs.set i v) (ds.set i d)
  | _, _, i, _, _, .nil, _ => by cases i <;> exact .nil
  | _, _, 0, _, _, .cons h r, g => .cons g r
  | _, _, i + 1, _, _, .cons h r, g => .cons h (RpAll.setI i r g)
/-! ### readings -/
section
variable {K : PySem.W.Frag} {σ : L2.St} {H H' : Hp} {ta tb te tv : TE} {x y z v : V} {C a dx : Addr} {fs : List (Str × V)} {f : Str} {D : Ends} {tz : TS}
theorem ev_fld (h : Ev ta σ H (.ref a)) (ha : H a = some (.ins C dx fs)) (c : Cls K C) (n : NoAttr K C f) (l : fs.lookup f = some v) : Ev (tFld K ta f) σ H v := fun H1 e Q q =>
  h H1 e _ fun H2 e2 => ⟨a, C, dx, fs, v, rfl, (e.trans e2) _ _ ha, c, n, l, q H2 e2⟩
theorem q_fld (hv : Ev tv σ H v) (ho : Ev ta σ H (.ref a)) (ha : H a = some (.ins C dx fs)) (c : Cls K C) (n : NoAttr K C f) (hl : fs.length < 1000) (k : ∀ H1, Ex H H1 → tz D σ (upd H1 a (.ins C dx (putF f v fs)))) :
    tSeq (sFld K ta tv f) tz D σ H := hv H (Ex.refl H) _ fun H1 e1 => ho H1 e1 _ fun H2 e2 => ⟨a, C, dx, fs, rfl, (e1.trans e2) _ _ ha, c, n, hl, k H2 (e1.trans e2)⟩
theorem s_fldU {xs : List V} (hv : EvU tv σ H xs) (ho : Ev ta σ H (.ref a)) (ha : H a = some (.ins C dx fs)) (c : Cls K C) (n : NoAttr K C f) (hl : fs.length < 1000)
    (k : ∀ p H1, H p = none → Ex H H1 → H1 p = some (.tup xs) → D.nx σ (upd H1 a (.ins C dx (putF f (.ref p) fs)))) :
    sFld K ta tv f D σ H := hv H (Ex.refl H) _ fun p H1 hp e1 h1 => ho H1 e1 _ fun H2 e2 => ⟨a, C, dx, fs, rfl, (e1.trans e2) _ _ ha, c, n, hl, k p H2 hp (e1.trans e2) (e2 _ _ h1)⟩
theorem q_asgMk {sp : Sp} {E : XK} {i : Nat} {xs : List V} (h : EvU te σ H xs)
    (k : ∀ p H1, H p = none → Ex H H1 → H1 p = some (.tup xs) → ∀ x dx, H1 x = none → H1 dx = none → dx ≠ x → sp [.ref x, .ref p] (upd (upd H1 dx (.own x)) x (.ins C dx [])) (fun v H2 => v = .non ∧ tz D (σ.set i (some (.ref x))) H2) E) :
    tSeq (tAsg (tMake C sp [] E (tCons te tNil)) (gName i)) tz D σ H := h H (Ex.refl H) _ fun p H1 hp e h1 => k p H1 hp e h1
theorem eu_tupOf {p : Addr} {xs : List V} (h : Ev ta σ H (.ref p)) (hx : SqL K H p xs) : EvU (tCB (rTupOf K) (tCons ta tNil)) σ H xs := fun H1 e Q q =>
  h H1 e _ fun H2 e2 => ⟨p, xs, rfl, .inl ⟨ex_l (e.trans e2) hx, fun l hl => q l _ (fresh_back e2 hl) (e2.trans (Ex.new hl)) upd_same⟩⟩
theorem el_listT {p : Addr} {xs : List V} (h : Ev ta σ H (.ref p)) (hx : SqT K H p xs) : EvL (tCB (rListS K) (tCons ta tNil)) σ H xs := fun H1 e Q q =>
  h H1 e _ fun H2 e2 => ⟨p, xs, rfl, .inr (ex_t (e.trans e2) hx), fun l hl => q l _ (fresh_back e2 hl) (e2.trans (Ex.new hl)) upd_same⟩
theorem rc_kitI {P : V → Prop} {n : String} {b : Bool} {dy : Addr} {gs : List (Str × V)} {p : Addr} (o : ObjC K C) (cl : Cls K C) (hp : H p = some (.ins C dy gs)) : RC (rIsi K) [.ref p, .ref C] H (.bl true) := fun H1 e Q q =>
  ⟨_, _, _, _, _, rfl, .own C, .base (.ins (e _ _ hp) cl o.ca o.cg o.ct o.co), by unfold PySem.W.kitOne; rw [if_pos (by simp)], q H1 (Ex.refl _)⟩
end
/-- the promise of a value, by what it is -/
def RetR (K : PySem.W.Frag) (d : D) (H : Hp) (Q : VK) : Prop := ∀ v H', Ex H H' → Rp K H' v d → Q v H'
/-! ### what evaluates to data -/
section
variable {K : PySem.W.Frag} {σ : L2.St} {H H' : Hp} {ta tb te : TE} {tr : TA} {x y z v : V} {d e : D} {ds es : List D}
def EvD (K : PySem.W.Frag) (te : TE) (σ : L2.St) (H : Hp) (d : D) : Prop := ∀ H1, Ex H H1 → ∀ Q : VK, (∀ v H2, Ex H1 H2 → Rp K H2 v d → Q v H2) → te σ H1 Q
def EvDA (K : PySem.W.Frag) (ta : TA) (σ : L2.St) (H : Hp) (ds : List D) : Prop := ∀ H1, Ex H H1 → ∀ Q : List V → Hp → Prop, (∀ vs H2, Ex H1 H2 → RpAll K H2 vs ds → Q vs H2) → ta σ H1 Q
theorem EvD.mono (a : Ex H H') (h : EvD K te σ H d) : EvD K te σ H' d := fun H1 e Q q => h H1 (a.trans e) Q q
theorem ed_ev (h : Ev te σ H v) (r : Rp K H v d) : EvD K te σ H d := fun H1 a Q q => h H1 a Q fun H2 b => q v H2 b (r.ex (a.trans b))
theorem ed_int {i : Int} : EvD K (tC (.int i)) σ H (.int i) := ed_ev ev_c (.int i)
theorem ed_non : EvD K (tC .non) σ H .non := ed_ev ev_c .non
theorem ed_str {s : Str} : EvD K (tC (.str s)) σ H (.str s) := ed_ev ev_c (.str s)
theorem eda_nil : EvDA K tNil σ H [] := fun H1 _ Q q => q [] H1 (Ex.refl _) .nil
theorem eda_cons (h : EvD K te σ H d) (r : EvDA K tr σ H ds) : EvDA K (tCons te tr) σ H (d :: ds) := fun H1 a Q q =>
  h H1 a _ fun v H2 b hv => r H2 (a.trans b) _ fun vs H3 c hs => q (v :: vs) H3 (b.trans c) (.cons (hv.ex c) hs)
theorem ed_tup (h : EvDA K tr σ H ds) (l : ds.length ≤ 100000) : EvD K (tTup tr) σ H (.tup ds) := fun H1 a Q q =>
  h H1 a _ fun vs H2 b hs => ⟨by rw [hs.len]; exact sz_of l, fun p hp => q (.ref p) _ (b.trans (Ex.new hp)) (.tup (st_of upd_same) (hs.ex (Ex.new hp)))⟩
theorem ed_cat (h1 : EvD K ta σ H (.tup ds)) (h2 : EvD K tb σ H (.tup es)) (l : ds.length + es.length ≤ 100000) : EvD K (tOp (rCatA K) ta tb) σ H (.tup (ds ++ es)) := fun H1 a Q q =>
  h1 H1 a _ fun v H2 b hv => h2 H2 (a.trans b) _ fun w H3 c hw => by
    obtain ⟨p, xs, rfl, sp, rp⟩ := (hv.ex c).tupI
    obtain ⟨r, ys, rfl, sr, rr⟩ := hw.tupI
    refine ⟨p, r, xs, ys, rfl, rfl, sp, sr, by rw [rp.len, rr.len]; exact sz_of l, fun h => ?_, fun _ h => ?_, fun _ _ n hn => ?_⟩
    · subst h
      cases rp
      exact q _ _ (b.trans c) (.tup sr rr)
    · subst h
      cases rr
      rw [List.append_nil] at q
      exact q _ _ (b.trans c) (.tup sp rp)
    · exact q _ _ ((b.trans c).trans (Ex.new hn)) (.tup (st_of upd_same) ((rp.app rr).ex (Ex.new hn)))
theorem ed_ix {i : Nat} (h : EvD K ta σ H (.tup ds)) (hb : ∀ H1, Ex H H1 → Ev tb σ H1 (.int (i : Int))) (hi : ds[i]? = some d) : EvD K (tOp (rIxT K) ta tb) σ H d := fun H1 a Q q =>
  h H1 a _ fun v H2 b hv => hb H2 (a.trans b) H2 (Ex.refl _) _ fun H3 c => by
    obtain ⟨p, xs, rfl, sp, rp⟩ := (hv.ex c).tupI
    have hlt : i < ds.length := by
      rcases Nat.lt_or_ge i ds.length with h | h
      · exact h
      · rw [List.getElem?_eq_none h] at hi
        cases hi
    have hxl : i < xs.length := by
      rw [rp.len]
      exact hlt
    have hx : xs[i]? = some xs[i] := List.getElem?_eq_getElem hxl
    obtain ⟨d', hd', hr'⟩ := RpAll.get _ _ _ _ rp hx
    rw [hi] at hd'
    cases hd'
    refine ⟨p, xs, (i : Int), xs[i], rfl, rfl, sp, ?_, q _ _ (b.trans c) hr'⟩
    unfold atI
    rw [ixN_nat (by rw [rp.len]; exact hlt)]
    exact hx
theorem d_call {sp : Sp} {E : XK} {Q : VK} (h : EvDA K tr σ H ds) (k : ∀ vs H1, Ex H H1 → RpAll K H1 vs ds → sp vs H1 Q E) : tCall sp [] E tr σ H Q := h H (Ex.refl H) _ fun vs H1 a r => by
  show sp (vs ++ []) H1 Q E
  rw [List.append_nil]
  exact k vs H1 a r
theorem d_ret {D : Ends} (h : EvD K te σ H d) (k : ∀ v H1, Ex H H1 → Rp K H1 v d → D.rt v H1) : tRet te D σ H := h H (Ex.refl H) _ k
/-- a method without arguments that gives data -/
theorem ed_meth0 {C a dx : Addr} {fs : List (Str × V)} {m : Str} {sp : Sp} {E : XK} (h : Ev ta σ H (.ref a)) (ha : H a = some (.ins C dx fs)) (l : fs.lookup m = none) (k : ∀ H1, Ex H H1 → ∀ Q : VK, RetR K d H1 Q → sp [.ref a] H1 Q E) :
    EvD K (tMeth C m sp [] E ta tNil) σ H d := fun H1 a1 Q q => h H1 a1 _ fun H2 b => ⟨a, dx, fs, rfl, (a1.trans b) _ _ ha, l, k H2 (a1.trans b) Q fun v H3 c hv => q v H3 (b.trans c) hv⟩
theorem ed_call {sp : Sp} {E : XK} (h : EvDA K tr σ H ds) (k : ∀ vs H1, Ex H H1 → RpAll K H1 vs ds → ∀ Q : VK, RetR K d H1 Q → sp vs H1 Q E) : EvD K (tCall sp [] E tr) σ H d := fun H1 a Q q => h H1 a _ fun vs H2 b r => by
  show sp (vs ++ []) H2 Q E
  rw [List.append_nil]
  exact k vs H2 (a.trans b) r Q fun v H3 c hv => q v H3 (b.trans c) hv
theorem rv_eqD (hx : Rp K H x d) (hy : Rp K H y e) {n : Nat} (fd : d.fine n = true) (fe : e.fine n = true) (hn : n ≤ 64) : RV (rEqD K) x y H (.bl (PyData.eqv d.py e.py)) := fun H1 a Q q =>
  ⟨d.py, e.py, (hx.ex a).dp (fine_c fd), (hy.ex a).dp (fine_c fe), shaped_of fd hn, shaped_of fe hn, q H1 (Ex.refl _)⟩
theorem rv_neD (hx : Rp K H x d) (hy : Rp K H y e) {n : Nat} (fd : d.fine n = true) (fe : e.fine n = true) (hn : n ≤ 64) : RV (rNeD K) x y H (.bl (!PyData.eqv d.py e.py)) := fun H1 a Q q =>
  ⟨d.py, e.py, (hx.ex a).dp (fine_c fd), (hy.ex a).dp (fine_c fe), shaped_of fd hn, shaped_of fe hn, q H1 (Ex.refl _)⟩
/-- compared as data -/
theorem ev_neD (h1 : EvD K ta σ H d) (h2 : EvD K tb σ H e) {n : Nat} (fd : d.fine n = true) (fe : e.fine n = true) (hn : n ≤ 64) : Ev (tOp (rNeD K) ta tb) σ H (.bl (!PyData.eqv d.py e.py)) := fun H1 a Q q =>
  h1 H1 a _ fun v H2 b hv => h2 H2 (a.trans b) _ fun w H3 c hw => rv_neD (hv.ex c) hw fd fe hn H3 (Ex.refl _) Q fun H4 g => q H4 ((b.trans c).trans g)
theorem ev_eqD (h1 : EvD K ta σ H d) (h2 : EvD K tb σ H e) {n : Nat} (fd : d.fine n = true) (fe : e.fine n = true) (hn : n ≤ 64) : Ev (tOp (rEqD K) ta tb) σ H (.bl (PyData.eqv d.py e.py)) := fun H1 a Q q =>
  h1 H1 a _ fun v H2 b hv => h2 H2 (a.trans b) _ fun w H3 c hw => rv_eqD (hv.ex c) hw fd fe hn H3 (Ex.refl _) Q fun H4 g => q H4 ((b.trans c).trans g)
theorem Rp.tupR {a : Addr} (h : Rp K H (.ref a) (.tup ds)) : ∃ xs, SqT K H a xs ∧ RpAll K H xs ds := by
  cases h with
  | tup h r => exact ⟨_, h, r⟩
/-! ### f-strings -/
def EvJ (ts : List TE) (acc : Str) (σ : L2.St) (H : Hp) (out : Str) : Prop := ∀ H1, Ex H H1 → ∀ Q : Str → Hp → Prop, (∀ H2, Ex H1 H2 → Q out H2) → tJs ts acc σ H1 Q
theorem ej_nil {acc : Str} : EvJ [] acc σ H acc := fun H1 _ Q q => q H1 (Ex.refl _)
theorem ej_cons {t : TE} {ts : List TE} {acc s out : Str} (h : Ev t σ H (.str s)) (l : (acc ++ s).length ≤ 100000) (r : EvJ ts (acc ++ s) σ H out) : EvJ (t :: ts) acc σ H out := fun H1 a Q q =>
  h H1 a _ fun H2 b => ⟨s, rfl, sz_of l, r H2 (a.trans b) Q fun H3 c => q H3 (b.trans c)⟩
theorem ev_js {ts : List TE} {out : Str} (h : EvJ ts Str.empty σ H out) : Ev (fun σ H Q => tJs ts Str.empty σ H fun out H1 => Q (.str out) H1) σ H (.str out) := fun H1 a Q q => h H1 a _ fun H2 b => q H2 b
theorem ev_fmt {i : Int} (h : Ev te σ H (.int i)) (l : i.natAbs.log2 < 1920) : Ev (tFmt te) σ H (.str (toString i)) := fun H1 a Q q => h H1 a _ fun H2 b => .inr ⟨i, rfl, l, q H2 b⟩
end
/-- the text of a small number -/
def tos (n : Nat) : Str := toString (n : Int)
theorem tos_len {n : Nat} (h : n ≤ 400) : (tos n).length ≤ 8 := by
  have z : ∀ i : Fin 401, (tos i.val).length ≤ 8 := by decide +kernel
  exact z ⟨n, by omega⟩
theorem log_small {n : Nat} (h : n ≤ 400) : (n : Int).natAbs.log2 < 1920 := by
  have z : ∀ i : Fin 401, (i.val : Int).natAbs.log2 < 1920 := by decide +kernel
  exact z ⟨n, by omega⟩
theorem app_len (a b : Str) : (a ++ b).length = a.length + b.length := by
  show (a.cps ++ b.cps).size = _
  rw [Array.size_append]
  rfl
theorem numB_small {n : Nat} (h : n ≤ 1000) : numB (n : Int) = true := by
  unfold numB big
  rw [decide_eq_true (by omega), decide_eq_true (by omega)]
  rfl
theorem within_ok {n : Nat} {lo hi : Int} (h : n ≤ 1000) (h1 : lo ≤ (n : Int)) (h2 : (n : Int) ≤ hi) : (D.int (n : Int)).within lo hi = true := by
  show (numB (n : Int) && (decide (lo ≤ (n : Int)) && decide ((n : Int) ≤ hi))) = true
  rw [numB_small h, decide_eq_true h1, decide_eq_true h2]
  rfl
end K0

namespace K0
open PySem L2 Evl
theorem ix_tupK {X : Cx} {K : PySem.W.Frag} (h : X.K = K) : IxR X (rIxT K) := h ▸ ix_tup
theorem pe_fldK {X : Cx} {K : PySem.W.Frag} {e : Expr} {f : Str} {pos : Pos} {ta : TE} (he : PE X e ta) (hb : attributeBase e f X.env (eval e X.env) = eval e X.env) (h : X.K = K) : PE X (.Attribute e f pos) (tFld K ta f) := h ▸ pe_fld he hb
section
variable {K : PySem.W.Frag} {A : Ad}
theorem d_raw {σ : L2.St} {H : Hp} {tr : TA} {sp : Sp} {E : XK} {Q : VK} (h : tr σ H fun vs H1 => sp vs H1 Q E) : tCall sp [] E tr σ H Q := by
  have e : (fun (vs : List V) H1 => sp (vs ++ []) H1 Q E) = fun vs H1 => sp vs H1 Q E := by
    funext vs H1
    rw [List.append_nil]
  show tr σ H fun vs H1 => sp (vs ++ []) H1 Q E
  rw [e]
  exact h
theorem gd_some {α : Type} {l : List α} {i : Nat} {x y : α} (h : l[i]? = some x) : l.getD i y = x := by
  rw [List.getD_eq_getElem?_getD, h]
  rfl
theorem getD_mem {α : Type} {l : List α} {i : Nat} {x : α} (h : i < l.length) : l.getD i x ∈ l := by
  rw [List.getD_eq_getElem?_getD, List.getElem?_eq_getElem h]
  exact List.getElem_mem h
theorem rp_maps {H : Hp} {α : Type} {v : α → V} {f : α → K0.D} : ∀ (l : List α), (∀ i ∈ l, Rp K H (v i) (f i)) → RpAll K H (l.map v) (l.map f)
  | [], _ => .nil
  | a :: l, h => .cons (h a (List.mem_cons_self ..)) (rp_maps l fun i hi => h i (List.mem_cons_of_mem _ hi))
theorem map_rangeD {α β : Type} (g : α → β) (x : α) : ∀ l : List α, (List.range l.length).map (fun i => g (l.getD i x)) = l.map g
  | [] => rfl
  | a :: l => by
    rw [List.length_cons, List.range_succ_eq_map, List.map_cons, List.map_cons, List.map_map, ← map_rangeD g x l]
    rfl
end
/-! ### all but lists stays -/
def ExT (H H' : Hp) : Prop := ∀ b u, H b = some u → (∀ xs, u ≠ HO.lst xs) → H' b = some u
section
variable {K : PySem.W.Frag} {H H' : Hp}
theorem ExT.of (e : Ex H H') : ExT H H' := fun b u h _ => e b u h
theorem ExT.trans {H'' : Hp} (a : ExT H H') (b : ExT H' H'') : ExT H H'' := fun c u h n => b c u (a c u h n) n
theorem ExT.sqT {a : Addr} {xs : List V} (e : ExT H H') (h : SqT K H a xs) : SqT K H' a xs := by
  rcases h with (h | ⟨o, h⟩) | h
  · exact .inl (.inl (e _ _ h fun _ z => by cases z))
  · exact .inl (.inr ⟨o, e _ _ h fun _ z => by cases z⟩)
  · exact .inr h
mutual
theorem Rp.exT {v : V} {d : D} (c : d.clean = true) (e : ExT H H') : Rp K H v d → Rp K H' v d
  | .non => .non
  | .bl b => .bl b
  | .int i => .int i
  | .str s => .str s
  | .tup h r => .tup (e.sqT h) (RpAll.exT c e r)
  | .lst h => by cases c
  | .dct h => by cases c
theorem RpAll.exT {vs : List V} {ds : List D} (c : D.cleanL ds = true) (e : ExT H H') : RpAll K H vs ds → RpAll K H' vs ds
  | .nil => .nil
  | .cons h r => by
    have c' := Bool.and_eq_true_iff.mp c
    exact .cons (Rp.exT c'.1 e h) (RpAll.exT c'.2 e r)
end
/-- what is hidden is a list -/
def hidL (o : Option Addr) (H : Hp) : Prop := ∀ a, o = some a → ∃ xs, H a = some (.lst xs)
theorem exT_hid {o : Option Addr} (h : hidL o H) : ExT H (hid o H) := fun b u hb n => by
  unfold hid
  by_cases c : o = some b
  · obtain ⟨xs, hx⟩ := h b c
    rw [hb] at hx
    exact absurd (Option.some.inj hx) (n xs)
  · rw [if_neg c]
    exact hb
theorem DiceAt.hidL {a : Addr} (h : DiceAt H a) : hidL (some a) H := fun b e => by
  obtain ⟨x, y, z, h⟩ := h
  cases e
  exact ⟨_, h⟩
theorem Bt.exT {a : Addr} (h : DiceAt H a) (b : Bt a H H') : ExT H H' := ((exT_hid h.hidL).trans (ExT.of b)).trans (ExT.of hid_le)
theorem RpAll.memI : ∀ {vs : List V} {ds : List D}, RpAll K H vs ds → ∀ v ∈ vs, ∃ d ∈ ds, Rp K H v d
  | _, _, .nil, v, h => by cases h
  | _, _, .cons h r, v, hv => by
    rcases List.mem_cons.mp hv with rfl | hv
    · exact ⟨_, List.mem_cons_self .., h⟩
    · obtain ⟨d, hd, hr⟩ := RpAll.memI r v hv
      exact ⟨d, List.mem_cons_of_mem _ hd, hr⟩
end
section
variable {K : PySem.W.Frag} {σ : L2.St} {H H' : Hp} {ta tb te tn : TE} {tr : TA} {ds : List D} {d : D}
theorem l_lst {Q : VK} (h : EvDA K tr σ H ds) (l : ds.length ≤ 100000) (k : ∀ p xs H1, H p = none → Ex H H1 → H1 p = some (.lst xs) → RpAll K H1 xs ds → Q (.ref p) H1) : tLst tr σ H Q := h H (Ex.refl H) _ fun vs H1 e r =>
  ⟨by rw [r.len]; exact sz_of l, fun p hp => k p vs _ (fresh_back e hp) (e.trans (Ex.new hp)) upd_same (r.ex (Ex.new hp))⟩
/-- a new list of data -/
def EvDL (K : PySem.W.Frag) (te : TE) (σ : L2.St) (H : Hp) (ds : List D) : Prop := ∀ H1, Ex H H1 → ∀ Q : VK, (∀ p xs H2, H1 p = none → Ex H1 H2 → H2 p = some (.lst xs) → RpAll K H2 xs ds → Q (.ref p) H2) → te σ H1 Q
/-- [e for j in range(n)], each e data -/
theorem edl_range {n j : Nat} {vs : List Nat} {f : Nat → D} (hn : ∀ H1, Ex H H1 → Ev tn σ H1 (.int (n : Int))) (hz : n ≤ 1000) (hw : ∀ x, wipe ((wipe σ vs).set j (some x)) vs = wipe σ vs)
    (he : ∀ i H1, Ex H H1 → i < n → EvD K te ((wipe σ vs).set j (some (.int (i : Int)))) H1 (f i)) : EvDL K (tLc (iRng1 (tCons tn tNil)) (gName j) tYes te vs) σ H ((List.range n).map f) := fun H0 e0 Q q => by
  unfold tLc
  refine n_rng1 (n_cons (hn H0 e0 H0 (Ex.refl _) _ fun H1 e1 => ⟨(n : Int), rfl, by omega, by omega, fun Dl hD => ?_⟩))
  refine lc_range (lo := 0) (n := (n : Int).toNat) (fun i H' => i ≤ n ∧ ∃ acc, H' Dl = some (.lst acc) ∧ RpAll K H' acc ((List.range i).map f) ∧ Ex H1 H') ⟨Nat.zero_le _, [], upd_same, .nil, Ex.new hD⟩ (fun i H' hi p => ?_) (fun H' p => ?_)
  · obtain ⟨_, acc, p1, p2, p3⟩ := p
    rw [Int.toNat_natCast] at hi
    have ez : (0 : Int) + (i : Int) = (i : Int) := Int.zero_add _
    rw [ez]
    refine ⟨hw _, he i H' ((e0.trans e1).trans p3) hi H' (Ex.refl _) _ fun v H'' e2 hv => ?_⟩
    have h2 := e2 _ _ p1
    have hl : acc.length = i := by rw [p2.len, List.length_map, List.length_range]
    refine ⟨acc, h2, sz_lt (by omega), hi, acc ++ [v], upd_same, ?_, Ex.mut (p3.trans e2) hD⟩
    rw [List.range_succ, List.map_append]
    exact ((p2.ex e2).app (.cons hv .nil)).exL (ExL.upd h2)
  · obtain ⟨_, acc, p1, p2, p3⟩ := p
    rw [Int.toNat_natCast] at p2
    exact q Dl acc H' (fresh_back e1 hD) (e1.trans p3) p1 p2
theorem dpL {a : Addr} {xs : List V} (h : H a = some (.lst xs)) (r : RpAll K H xs ds) (c : D.cleanL ds = true) : Dp K H (.ref a) (.list (D.pyL ds)) := .lst (sq_of h) (r.dp c)
/-- two lists compared as data -/
theorem ev_neLL {es : List D} {n : Nat} (h1 : EvDL K ta σ H ds) (h2 : ∀ H1, Ex H H1 → ∃ b ys, Ev tb σ H1 (.ref b) ∧ H1 b = some (.lst ys) ∧ RpAll K H1 ys es) (fd : ∀ d ∈ ds, d.fine n = true) (fe : ∀ d ∈ es, d.fine n = true) (hn : n + 1 ≤ 64) :
    Ev (tOp (rNeD K) ta tb) σ H (.bl (!PyData.eqvAll (D.pyL ds) (D.pyL es))) := fun H1 a Q q =>
  h1 H1 a _ fun p xs H2 hp b hx rx => by
    obtain ⟨r, ys, ev, hy, ry⟩ := h2 H2 (a.trans b)
    refine ev H2 (Ex.refl _) _ fun H3 c => ?_
    refine ⟨.list (D.pyL ds), .list (D.pyL es), dpL (c _ _ hx) (rx.ex c) (fine_all ds fd).1, dpL (c _ _ hy) (ry.ex c) (fine_all es fe).1, shapedL_of fd hn, shapedL_of fe hn, ?_⟩
    show Q (.bl (!PyData.eqvAll (D.pyL ds) (D.pyL es))) H3
    exact q H3 (b.trans c)
/-- two lists that stand -/
theorem ev_eqLs {a b : Addr} {xs ys : List V} {es : List D} {n : Nat} (h1 : Ev ta σ H (.ref a)) (h2 : Ev tb σ H (.ref b)) (hx : H a = some (.lst xs)) (hy : H b = some (.lst ys)) (rx : RpAll K H xs ds) (ry : RpAll K H ys es) (fd : ∀ d ∈ ds, d.fine n = true) (fe : ∀ d ∈ es, d.fine n = true) (hn : n + 1 ≤ 64) :
    Ev (tOp (rEqD K) ta tb) σ H (.bl (PyData.eqvAll (D.pyL ds) (D.pyL es))) := ev_op h1 h2 fun H1 e Q q => ⟨.list (D.pyL ds), .list (D.pyL es), dpL (e _ _ hx) (rx.ex e) (fine_all ds fd).1, dpL (e _ _ hy) (ry.ex e) (fine_all es fe).1, shapedL_of fd hn, shapedL_of fe hn, q H1 (Ex.refl _)⟩
/-- tuple(xs), xs a list of data -/
theorem ed_tupOf {a : Addr} {xs : List V} (h : Ev ta σ H (.ref a)) (hx : H a = some (.lst xs)) (r : RpAll K H xs ds) : EvD K (tCB (rTupOf K) (tCons ta tNil)) σ H (.tup ds) := fun H1 e Q q =>
  eu_tupOf h (sq_of hx) H1 e Q fun p H2 hp e2 h2 => q (.ref p) H2 e2 (.tup (st_of h2) (r.ex (e.trans e2)))
/-- a property that gives data -/
theorem ed_prop {C a dx : Addr} {fs : List (Str × V)} {sp : Sp} {E : XK} (h : Ev ta σ H (.ref a)) (ha : H a = some (.ins C dx fs)) (k : ∀ H1, Ex H H1 → ∀ Q : VK, RetR K d H1 Q → sp [.ref a] H1 Q E) :
    EvD K (tProp C sp [] E ta) σ H d := fun H1 a1 Q q => h H1 a1 _ fun H2 b => ⟨a, dx, fs, rfl, (a1.trans b) _ _ ha, k H2 (a1.trans b) Q fun v H3 c hv => q v H3 (b.trans c) hv⟩
/-- a method with one argument that gives data -/
theorem ed_meth1 {C a dx : Addr} {fs : List (Str × V)} {m : Str} {sp : Sp} {E : XK} {y : V} (h : Ev ta σ H (.ref a)) (ha : H a = some (.ins C dx fs)) (l : fs.lookup m = none) (hb : ∀ H1, Ex H H1 → Ev tb σ H1 y) (k : ∀ H1, Ex H H1 → ∀ Q : VK, RetR K d H1 Q → sp [.ref a, y] H1 Q E) :
    EvD K (tMeth C m sp [] E ta (tCons tb tNil)) σ H d := fun H1 a1 Q q => h H1 a1 _ fun H2 b => ⟨a, dx, fs, rfl, (a1.trans b) _ _ ha, l, hb H2 (a1.trans b) H2 (Ex.refl _) _ fun H3 c => k H3 ((a1.trans b).trans c) Q fun v H4 g hv => q v H4 ((b.trans c).trans g) hv⟩
theorem rv_addS {a b : Str} (h : a.length + b.length ≤ 100000) : RV (fun x y H Q => ∃ i j, x = .str i ∧ y = .str j ∧ i.length + j.length ≤ sizeLine ∧ Q (.str (i ++ j)) H) (.str a) (.str b) H (.str (a ++ b)) := fun H1 _ Q q => ⟨a, b, rfl, rfl, sz_of h, q H1 (Ex.refl _)⟩
theorem rc_strI {i : Int} (h : i.natAbs.log2 < 1920) : RC (fun xs H Q => ∃ i, xs = [.int i] ∧ i.natAbs.log2 < 1920 ∧ Q (.str (toString i)) H) [.int i] H (.str (toString i)) := fun H1 _ Q q => ⟨i, rfl, h, q H1 (Ex.refl _)⟩
end
theorem range_all {α : Type} (x : α) (l : List α) {n : Nat} (h : l.length = n) : (List.range n).map (fun i => l.getD i x) = l := by
  subst h
  have := map_rangeD (fun y : α => y) x l
  rw [List.map_id''] at this
  · exact this
  · intro y
    rfl
section
variable {K : PySem.W.Frag}
theorem et_neD {σ : L2.St} {H : Hp} {ta tb : TE} {d : K0.D} {n : Nat} (h1 : EvD K ta σ H d) (h2 : EvD K tb σ H d) (fd : d.fine n = true) (hn : n ≤ 64) : EvT (tTest (tOp (rNeD K) ta tb)) σ H false := et_is (et_test (ev_neD h1 h2 fd fd hn)) (by
  rw [eqv_self d (fine_c fd)]
  rfl)
end
section
variable {σ : L2.St} {H H' : Hp} {ta tb te tx : TE} {t u : TT} {tr : TA} {Q : VK} {D : Ends} {tz : TS}
theorem q_par {i j : Nat} (h : tr σ H fun vs H1 => ∃ v w, vs = [v, w] ∧ tz D ((σ.set i (some v)).set j (some w)) H1) : tSeq (tPar i j tr) tz D σ H := h
theorem q_asgX {i : Nat} (h : te σ H fun v H1 => tz D (σ.set i (some v)) H1) : tSeq (tAsg te (gName i)) tz D σ H := h
theorem n_tup (h : tr σ H fun xs H1 => xs.length ≤ sizeLine ∧ ∀ p, H1 p = none → Q (.ref p) (upd H1 p (.tup xs))) : tTup tr σ H Q := h
theorem n_var {i : Nat} {v : V} (h : σ[i]? = some (some v)) (k : Q v H) : tVar i σ H Q := ⟨v, h, k⟩
theorem n_op {r : R2} (h : ta σ H fun x H1 => tb σ H1 fun y H2 => r x y H2 Q) : tOp r ta tb σ H Q := h
theorem n_nil {k : List V → Hp → Prop} (h : k [] H) : tNil σ H k := h
theorem n_if {b : Bool} (h : EvT t σ H b) (h1 : b = true → ∀ H1, Ex H H1 → ta σ H1 Q) (h2 : b = false → ∀ H1, Ex H H1 → tb σ H1 Q) : tIf t ta tb σ H Q := h H (Ex.refl H) _ fun H1 e => by
  cases b with
  | true => exact h1 rfl H1 e
  | false => exact h2 rfl H1 e
theorem c_meth {C p dx : Addr} {fs : List (Str × V)} {m : Str} {sp : Sp} {E : XK} {vs : List V} (h : Ev ta σ H (.ref p)) (hp : H p = some (.ins C dx fs)) (l : fs.lookup m = none) (ha : ∀ H1, Ex H H1 → EvA tr σ H1 vs) (k : ∀ H1, Ex H H1 → sp (.ref p :: vs) H1 Q E) :
    tMeth C m sp [] E ta tr σ H Q := h H (Ex.refl H) _ fun H1 e1 => ⟨p, dx, fs, rfl, e1 _ _ hp, l, ha H1 e1 H1 (Ex.refl _) _ fun H2 e2 => by
  show sp (.ref p :: (vs ++ [])) H2 Q E
  rw [List.append_nil]
  exact k H2 (e1.trans e2)⟩
theorem c_methD {K : PySem.W.Frag} {C p dx : Addr} {fs : List (Str × V)} {m : Str} {sp : Sp} {E : XK} {d : K0.D} (h : Ev ta σ H (.ref p)) (hp : H p = some (.ins C dx fs)) (l : fs.lookup m = none) (ha : ∀ H1, Ex H H1 → EvD K tb σ H1 d) (k : ∀ v H1, Ex H H1 → Rp K H1 v d → sp [.ref p, v] H1 Q E) :
    tMeth C m sp [] E ta (tCons tb tNil) σ H Q := h H (Ex.refl H) _ fun H1 e1 => ⟨p, dx, fs, rfl, e1 _ _ hp, l, ha H1 e1 H1 (Ex.refl _) _ fun v H2 e2 hv => k v H2 (e1.trans e2) hv⟩
end
theorem asc_snoc : ∀ (l : List Int) (y : Int), ascB l = true → (∀ x ∈ l, x < y) → ascB (l ++ [y]) = true
  | [], y, _, _ => rfl
  | [x], y, _, h => by
    show (decide (x < y) && ascB [y]) = true
    rw [decide_eq_true (h x (List.mem_cons_self ..))]
    rfl
  | x :: z :: r, y, h, g => by
    have h' : (decide (x < z) && ascB (z :: r)) = true := h
    have h1 := Bool.and_eq_true_iff.mp h'
    show (decide (x < z) && ascB ((z :: r) ++ [y])) = true
    rw [h1.1, asc_snoc (z :: r) y h1.2 fun w hw => g w (List.mem_cons_of_mem _ hw)]
    rfl
section
variable {K : PySem.W.Frag} {σ : L2.St} {H H' : Hp} {ta tb te tx tn : TE} {t u : TT} {tr : TA} {Q : VK} {D : Ends} {tz : TS} {g : TG}
theorem q_asgG (h : te σ H fun v H1 => g v σ H1 fun σ2 H2 => tz D σ2 H2) : tSeq (tAsg te g) tz D σ H := h
end
section
variable {K : PySem.W.Frag} {σ : L2.St} {H H' : Hp} {ta tb te tx tn : TE} {t u : TT} {tr : TA} {Q : VK} {D : Ends} {tz tu tw : TS}
theorem n_ifS (h : t σ H fun b H1 => if b = true then tu D σ H1 else tw D σ H1) : tIfS t tu tw D σ H := h
theorem n_or {Q : Bool → Hp → Prop} (h : t σ H fun b H1 => if b = true then Q true H1 else u σ H1 Q) : tOr t u σ H Q := h
theorem n_not {Q : Bool → Hp → Prop} (h : t σ H fun b H1 => Q (!b) H1) : tNot t σ H Q := h
theorem n_B {Q : Bool → Hp → Prop} (h : te σ H fun v H1 => ∃ b, v = .bl b ∧ Q b H1) : tB te σ H Q := h
theorem sq_btF {p a : Addr} {xs : List V} {H1 H2 : Hp} (hp : H p = none) (h : SqL K H a xs) (e : Ex H H1) (b : Bt p H1 H2) : SqL K H2 a xs := by
  rcases h with (h | ⟨o, h⟩) | h
  · exact .inl (.inl (b.at (ne_of_none h hp) (e _ _ h)))
  · exact .inl (.inr ⟨o, b.at (ne_of_none h hp) (e _ _ h)⟩)
  · exact .inr h
theorem ev_neVL {a : Addr} {xs : List V} {ds es : List K0.D} {n : Nat} (h1 : Ev ta σ H (.ref a)) (hx : H a = some (.lst xs)) (rx : RpAll K H xs ds) (h2 : EvDA K tr σ H es) (l : es.length ≤ 1000) (fd : ∀ d ∈ ds, d.fine n = true) (fe : ∀ d ∈ es, d.fine n = true) (hn : n + 1 ≤ 64) :
    Ev (tOp (rNeD K) ta (tLst tr)) σ H (.bl (!PyData.eqvAll (K0.D.pyL ds) (K0.D.pyL es))) := fun H1 e Q q =>
  h1 H1 e _ fun H2 e2 => h2 H2 (e.trans e2) _ fun vs H3 e3 r => ⟨by rw [r.len]; exact sz_of (by omega), fun p hp => by
    have e4 := (e.trans e2).trans e3
    refine ⟨.list (K0.D.pyL ds), .list (K0.D.pyL es), dpL ((e4.trans (Ex.new hp)) _ _ hx) (rx.ex (e4.trans (Ex.new hp))) (fine_all ds fd).1, dpL upd_same (r.ex (Ex.new hp)) (fine_all es fe).1, shapedL_of fd hn, shapedL_of fe hn, ?_⟩
    exact q _ ((e2.trans e3).trans (Ex.new hp))⟩
end
section
variable {l : Addr} {H : Hp}
theorem ExT.upd {xs ys : List V} (h : H l = some (.lst xs)) : ExT H (L2.upd H l (.lst ys)) := fun b u hb n => by
  by_cases c : b = l
  · subst c
    rw [h] at hb
    exact absurd (Option.some.inj hb).symm (n xs)
  · rw [upd_ne c]
    exact hb
end
end K0

namespace PySem.SeqAt
open AutoSeq1 (wpAny_loadPart')
open MeetsSeq MeetsSeq2 MeetsSeq3 SeqRoads2
section
variable {prog : Program} {w : World}
/-- != of two tuples whose items are equal, one by one -/
theorem own_tupNe (l b : Addr) (us vs : Array Value) (n m : Nat) (dl db : Option Addr) (sl sb : Array (Option Value)) (hz : us.size = vs.size) : MeetsIn prog w (Builtin.«tuple.__ne__» ⟨[.ref l, .ref b], []⟩) (fun A R s =>
    s.heap.get? l = some { cls := .type "tuple", dict := dl, data := .seq us n, slots := sl } ∧ s.heap.get? b = some { cls := .type "tuple", dict := db, data := .seq vs m, slots := sb } ∧
    (∀ j (h1 : j < us.size) (h2 : j < vs.size), EqIn prog w A.in1 s us[j] vs[j] true) ∧ R (.ok (.ret (.bool false))) s) :=
  .of_wp fun A R s h => by
  obtain ⟨hp, g, d, tk, os⟩ := s
  obtain ⟨hl, hb, he, h⟩ := h
  have sub := AutoSeq1.sub_tuple_tuple
  have lz : (us.toList.zip vs.toList).length = us.size := by simp [hz]
  wp_walk using wpAny_loadPart' hl, wpAny_loadPart' hb, wpAny_forIn_list _ (fun rest c s' => c.1 = none ∧ s' = ⟨hp, g, d, tk, os⟩ ∧ ∃ i, rest = (us.toList.zip vs.toList).drop i) _
  case turn =>
    rintro ⟨y, x⟩ rest c s' ⟨hc, rfl, i, hi⟩
    have lt : i < (us.toList.zip vs.toList).length := by
      rcases Nat.lt_or_ge i (us.toList.zip vs.toList).length with z | z
      · exact z
      · rw [List.drop_of_length_le z] at hi
        cases hi
    have h1 : i < us.size := lz ▸ lt
    have h2 : i < vs.size := hz ▸ h1
    rw [List.drop_eq_getElem_cons lt] at hi
    injection hi with e1 e2
    have ey : y = us[i] := by simpa using congrArg Prod.fst e1
    have ex : x = vs[i] := by simpa using congrArg Prod.snd e1
    subst ey ex
    refine wpAny_bind (he i h1 h2 _ _ ?_)
    wp_walk
    exact ⟨rfl, rfl, i + 1, e2⟩
  case fin =>
    rintro ⟨c1, c2⟩ s' ⟨hc, rfl, _⟩
    have hc' : c1 = none := hc
    subst hc'
    wp_walk
    exact ⟨_, rfl, by simpa [Builtin.Tuple.tupleCompareSizes, bne, hz] using h⟩
  case h => exact ⟨rfl, rfl, 0, rfl⟩
/-- the loop of != over two lists whose items are equal -/
theorem own_lstNeLoop (l b : Addr) (us vs : Array Value) (n m : Nat) (dl db : Option Addr) (sl sb : Array (Option Value)) (hz : us.size = vs.size) : ∀ (k i : Nat), us.size - i = k → MeetsIn prog w (Builtin.«list.__eq__.loop» ⟨[.ref l, .ref b, rawInt i, rawInt 3], []⟩) (fun A R s =>
    s.heap.get? l = some { cls := .type "list", dict := dl, data := .seq us n, slots := sl } ∧ s.heap.get? b = some { cls := .type "list", dict := db, data := .seq vs m, slots := sb } ∧
    (∀ j (h1 : j < us.size) (h2 : j < vs.size), EqIn prog w A.in1 s us[j] vs[j] true) ∧ R (.ok (.ret (.bool false))) s)
  | 0, i, hk => by
    intro A R s h
    obtain ⟨hp, g, d, tk, os⟩ := s
    obtain ⟨hl, hb, he, h⟩ := h
    wp_walk using wpAny_loadPart' hl, wpAny_loadPart' hb
    have o1 : us[((i : Nat) : Int).toNat]? = none := by simp; omega
    have o2 : vs[((i : Nat) : Int).toNat]? = none := by simp; omega
    rw [o1, o2]
    wp_walk using wpAny_loadPart' hl, wpAny_loadPart' hb
    show R (.ok (.ret (.bool (us.size != vs.size)))) _
    rw [hz]
    simpa using h
  | k + 1, i, hk => by
    intro A R s h
    obtain ⟨hp, g, d, tk, os⟩ := s
    obtain ⟨hl, hb, he, h⟩ := h
    wp_walk using wpAny_loadPart' hl, wpAny_loadPart' hb
    have l1 : i < us.size := by omega
    have l2 : i < vs.size := by omega
    have o1 : us[((i : Nat) : Int).toNat]? = some us[i] := by simp [l1]
    have o2 : vs[((i : Nat) : Int).toNat]? = some vs[i] := by simp [l2]
    have next : ((i : Int) + 1) = ((i + 1 : Nat) : Int) := by push_cast; rfl
    rw [o1, o2]
    refine wpAny_bind (he i l1 l2 _ _ ?_)
    wp_walk
    rw [next]
    refine ⟨plainId_quiet plain_eq_loop _, codeAny_builtin entry_eq_loop ?_⟩
    rw [Around.under_plainId plain_eq_loop _]
    exact own_lstNeLoop l b us vs n m dl db sl sb hz k (i + 1) (by omega) A R _ ⟨hl, hb, he, h⟩
theorem own_lstNe (l b : Addr) (us vs : Array Value) (n m : Nat) (dl db : Option Addr) (sl sb : Array (Option Value)) (hz : us.size = vs.size) : MeetsIn prog w (Builtin.«list.__ne__» ⟨[.ref l, .ref b], []⟩) (fun A R s =>
    s.heap.get? l = some { cls := .type "list", dict := dl, data := .seq us n, slots := sl } ∧ s.heap.get? b = some { cls := .type "list", dict := db, data := .seq vs m, slots := sb } ∧
    (∀ j (h1 : j < us.size) (h2 : j < vs.size), EqIn prog w A.in1 s us[j] vs[j] true) ∧ R (.ok (.ret (.bool false))) s) := by
  intro A R s h
  obtain ⟨hp, g, d, tk, os⟩ := s
  obtain ⟨hl, hb, he, h⟩ := h
  have sub := AutoSeq1.sub_list_list
  have nz : ¬ (us.size != vs.size) = true := by simp [hz]
  wp_walk using wpAny_loadPart' hl, wpAny_loadPart' hb
  refine ⟨plainId_quiet plain_eq_loop _, codeAny_builtin entry_eq_loop ?_⟩
  rw [Around.under_plainId plain_eq_loop _]
  exact own_lstNeLoop l b us vs n m dl db sl sb hz _ 0 rfl A R _ ⟨hl, hb, he, h⟩
variable {A : Around} {s : Shared} {l b : Addr} {us vs : Array Value}
theorem own_neT (hl : s.heap.IsTuple l us) (hb : s.heap.IsTuple b vs) (hz : us.size = vs.size) (hu : A.units < cLine) (he : ∀ j (h1 : j < us.size) (h2 : j < vs.size), EqIn prog w A.in1 s us[j] vs[j] true)
    {E Q : Value → Shared → Prop} (h : Q (.bool false) s) : wpAny (model prog w) A (richCompare .NotEq (.ref l) (.ref b)) Q E s := by
  obtain ⟨⟨c1, d1, dt1, s1⟩, o1, k1, n1, e1⟩ := id hl
  obtain ⟨⟨c2, d2, dt2, s2⟩, o2, k2, n2, e2⟩ := id hb
  simp only at k1 e1 k2 e2
  subst k1 e1 k2 e2
  have t1 : s.TypeIs (.ref l) "tuple" := ⟨_, o1, rfl⟩
  have t2 : s.TypeIs (.ref b) "tuple" := ⟨_, o2, rfl⟩
  refine wpAny_richCompare_same_room (op := .NotEq) t1 t2 F.slot_tuple_ne (call_meetsIn F.slot_tuple_ne t1 F.entry_tuple_ne (F.args_tuple_ne_2 _ _) (own_tupNe l b us vs n1 n2 d1 d2 s1 s2 hz) ⟨o1, o2, he, ?_⟩) hu
  exact show Value.bool false ≠ Value.notImplemented ∧ Q (.bool false) s from ⟨(fun x => nomatch x), h⟩
theorem own_neL (hl : s.heap.IsList l us) (hb : s.heap.IsList b vs) (hz : us.size = vs.size) (hu : A.units < cLine) (he : ∀ j (h1 : j < us.size) (h2 : j < vs.size), EqIn prog w A.in1 s us[j] vs[j] true)
    {E Q : Value → Shared → Prop} (h : Q (.bool false) s) : wpAny (model prog w) A (richCompare .NotEq (.ref l) (.ref b)) Q E s := by
  obtain ⟨⟨c1, d1, dt1, s1⟩, o1, k1, n1, e1⟩ := id hl
  obtain ⟨⟨c2, d2, dt2, s2⟩, o2, k2, n2, e2⟩ := id hb
  simp only at k1 e1 k2 e2
  subst k1 e1 k2 e2
  have t1 : s.TypeIs (.ref l) "list" := ⟨_, o1, rfl⟩
  have t2 : s.TypeIs (.ref b) "list" := ⟨_, o2, rfl⟩
  refine wpAny_richCompare_same_room (op := .NotEq) t1 t2 F.slot_list_ne (call_meetsIn F.slot_list_ne t1 F.entry_list_ne (F.args_list_ne_2 _ _) (own_lstNe l b us vs n1 n2 d1 d2 s1 s2 hz) ⟨o1, o2, he, ?_⟩) hu
  exact show Value.bool false ≠ Value.notImplemented ∧ Q (.bool false) s from ⟨(fun x => nomatch x), h⟩
end
end PySem.SeqAt

namespace K0
open PySem PySem.Spec PyProof.Rows L2 Evl
/-! ### what compares equal, dicts among it -/
inductive Sam (K : PySem.W.Frag) (H : Hp) : Nat → V → V → Prop where
  | data {n : Nat} {x y : V} {d e : PyData} : Dp K H x d → Dp K H y e → d.canLay0 = true → e.canLay0 = true → d.depth ≤ n → PyData.eqv d e = true → Sam K H n x y
  | dict {n : Nat} {a b : Addr} {ks ls : List (Key × V)} : H a = some (.dK ks) → H b = some (.dK ls) → ks.length = ls.length → (∀ p ∈ ks, valV ls p.1 = some p.2 ∧ flatB p.2 = true) → Sam K H (n + 1) (.ref a) (.ref b)
  | tup {n : Nat} {a b : Addr} {xs ys : List V} : SqT K H a xs → SqT K H b ys → xs.length = ys.length → (∀ (j : Nat) (x y : V), xs[j]? = some x → ys[j]? = some y → Sam K H n x y) → Sam K H (n + 1) (.ref a) (.ref b)
  | lst {n : Nat} {a b : Addr} {xs ys : List V} : SqL K H a xs → SqL K H b ys → xs.length = ys.length → (∀ (j : Nat) (x y : V), xs[j]? = some x → ys[j]? = some y → Sam K H n x y) → Sam K H (n + 1) (.ref a) (.ref b)
theorem Sam.ex {K : PySem.W.Frag} {H H' : Hp} (e : Ex H H') {n : Nat} {x y : V} (h : Sam K H n x y) : Sam K H' n x y := by
  induction h with
  | data h1 h2 c1 c2 l q => exact .data (dp_ex e h1) (dp_ex e h2) c1 c2 l q
  | dict h1 h2 l q => exact .dict (e _ _ h1) (e _ _ h2) l q
  | tup h1 h2 l _ ih => exact .tup (ex_t e h1) (ex_t e h2) l ih
  | lst h1 h2 l _ ih => exact .lst (ex_l e h1) (ex_l e h2) l ih
where
  dp_ex {K : PySem.W.Frag} {H H' : Hp} (e : Ex H H') {v : V} {d : PyData} : Dp K H v d → Dp K H' v d
    | .non => .non
    | .bl b => .bl b
    | .int i => .int i
    | .str s => .str s
    | .lst h r => .lst (ex_l e h) (dpa_ex e r)
    | .tup h r => .tup (ex_t e h) (dpa_ex e r)
  dpa_ex {K : PySem.W.Frag} {H H' : Hp} (e : Ex H H') {vs : List V} {ds : List PyData} : DpAll K H vs ds → DpAll K H' vs ds
    | .nil => .nil
    | .cons h r => .cons (dp_ex e h) (dpa_ex e r)
theorem kv_mem {κ : Type} : ∀ {ks : List (κ × V)} {va : List (κ × Value)}, KV ks va → ∀ p ∈ va, ∃ k ∈ ks, k.1 = p.1 ∧ RelV k.2 p.2 := fun {ks va} r => by
  unfold KV at r
  induction r with
  | nil =>
    intro p hp
    cases hp
  | @cons a b as bs hh _ ih =>
    intro p hp
    rcases List.mem_cons.mp hp with rfl | hp
    · exact ⟨a, List.mem_cons_self .., hh⟩
    · obtain ⟨k, hk, z⟩ := ih p hp
      exact ⟨k, List.mem_cons_of_mem _ hk, z⟩
theorem all_yes {α : Type} (l : List α) : (l.all fun _ => true) = true := List.all_eq_true.mpr fun _ _ => rfl
theorem vals_at {xs : List V} {us : List Value} (r : Vals xs us) (j : Nat) (h : j < us.toArray.size) : ∃ x, xs[j]? = some x ∧ RelV x us.toArray[j] := by
  have h' : j < us.length := by simpa using h
  have e : us.toArray[j] = us[j] := by simp
  rw [e]
  clear e h
  induction r generalizing j with
  | nil => exact absurd h' (Nat.not_lt_zero j)
  | cons a b ih =>
    cases j with
    | zero => exact ⟨_, rfl, a⟩
    | succ j => exact ih j (Nat.lt_of_succ_lt_succ h')
section
variable {X : Cx} {pins : List (Addr × Obj)} {σ : L2.St} {H : Hp} {s : Shared}
theorem sam_tree (I : Inv X pins σ H s) {n : Nat} {x y : V} (h : Sam X.K H n x y) : ∀ v u, RelV x v → RelV y u → PySem.W.EqTree X.prog X.w s n v u true := by
  induction h with
  | data h1 h2 c1 c2 l q =>
    intro v u rx ry
    obtain ⟨as, r1⟩ := Dp.reads I _ _ v h1 rx
    obtain ⟨bs, r2⟩ := Dp.reads I _ _ u h2 ry
    refine .leaf fun A hu => ?_
    have := SeqAt.eqAt_reads _ _ A s v u as bs r1 r2 c1 c2 (by omega)
    rw [q] at this
    exact this
  | @dict n a b ks ls h1 h2 l q =>
    intro v u rx ry
    cases (show v = Value.ref a from rx)
    cases (show u = Value.ref b from ry)
    by_cases ab : a = b
    · subst ab
      exact .same
    obtain ⟨_, ya, va, ra, da⟩ := (show ObjOk X.prog X.w H s.heap a (.dK ks) from I.hok a _ h1)
    obtain ⟨_, yb, vb, rb, db⟩ := (show ObjOk X.prog X.w H s.heap b (.dK ls) from I.hok b _ h2)
    have lv : va.length = vb.length := by rw [← ra.length, ← rb.length]; exact l
    -- each pair of the one is found in the other
    have hit : ∀ p ∈ va, ∃ w', valueAt vb p.1 = some w' ∧ SeqAt.EqAt X.A s p.2 w' true ∧ ∀ A : Around, SeqAt.EqAt A s p.2 w' true := fun p hp => by
      obtain ⟨k, hk, e1, r1⟩ := kv_mem ra p hp
      obtain ⟨g1, g2⟩ := q k hk
      rw [e1] at g1
      have rr := rb.val p.1
      rw [g1] at rr
      obtain ⟨w', hw, rw'⟩ := rr.some_of
      exact ⟨w', hw, eqAt_same r1 rw' g2, fun A => eqAt_same r1 rw' g2⟩
    have t := PySem.W.EqTree.dicts (prog := X.prog) (w := X.w) (s := s) (knd := mixKind X.prog X.w) (n := n) (e := fun _ => true) ab ya yb da db fun k v y hm hv => by
      obtain ⟨w', hw, _, hq⟩ := hit (k, v) hm
      rw [hv] at hw
      cases hw
      exact .leaf fun A _ => hq A
    have e : (va.length == vb.length && va.all fun p => (valueAt vb p.1).isSome && true) = true := by
      rw [lv, beq_self_eq_true, Bool.true_and]
      refine List.all_eq_true.mpr fun p hp => ?_
      obtain ⟨w', hw, _⟩ := hit p hp
      rw [hw]
      rfl
    rw [e] at t
    exact t
  | @tup n a b xs ys h1 h2 l _ ih =>
    intro v u rx ry
    cases (show v = Value.ref a from rx)
    cases (show u = Value.ref b from ry)
    by_cases ab : a = b
    · subst ab
      exact .same
    obtain ⟨us, r1, p1, _⟩ := I.tuple h1
    obtain ⟨ws, r2, p2, _⟩ := I.tuple h2
    have sz : us.toArray.size = ws.toArray.size := by
      rw [List.size_toArray, List.size_toArray, ← r1.length, ← r2.length]
      exact l
    have t := PySem.W.EqTree.tuples (prog := X.prog) (w := X.w) (s := s) (n := n) (e := fun _ => true) ab p1 p2 fun j g1 g2 => by
      obtain ⟨x, hx, a1⟩ := vals_at r1 j g1
      obtain ⟨y, hy, a2⟩ := vals_at r2 j g2
      exact ih j x y hx hy _ _ a1 a2
    rw [all_yes, sz, beq_self_eq_true] at t
    exact t
  | @lst n a b xs ys h1 h2 l _ ih =>
    intro v u rx ry
    cases (show v = Value.ref a from rx)
    cases (show u = Value.ref b from ry)
    by_cases ab : a = b
    · subst ab
      exact .same
    obtain ⟨us, r1, p1, _⟩ := I.list h1
    obtain ⟨ws, r2, p2, _⟩ := I.list h2
    have sz : us.toArray.size = ws.toArray.size := by
      rw [List.size_toArray, List.size_toArray, ← r1.length, ← r2.length]
      exact l
    have t := PySem.W.EqTree.lists (prog := X.prog) (w := X.w) (s := s) (n := n) (e := fun _ => true) ab p1.isList p2.isList sz fun j g1 g2 => by
      obtain ⟨x, hx, a1⟩ := vals_at r1 j g1
      obtain ⟨y, hy, a2⟩ := vals_at r2 j g2
      exact ih j x y hx hy _ _ a1 a2
    rw [all_yes] at t
    exact t
end
/-- x == y, x != y of what is equal -/
def rEqS (K : PySem.W.Frag) : R2 := fun x y H Q => ∃ n, n ≤ 40 ∧ Sam K H n x y ∧ Q (.bl true) H
def rNeS (K : PySem.W.Frag) : R2 := fun x y H Q => ∃ n, n ≤ 40 ∧ Sam K H n x y ∧ Q (.bl false) H
section
variable {X : Cx}
theorem op_eqS (hu : X.A.units + 64 < cLine) : OpR X (compareOp .Eq) (rEqS X.K) := by
  intro pins s σ H x y v u Q I rx ry h
  obtain ⟨n, hn, h, q⟩ := h
  cases h with
  | data h1 h2 c1 c2 l qq =>
    obtain ⟨as, r1⟩ := Dp.reads I _ _ v h1 rx
    obtain ⟨bs, r2⟩ := Dp.reads I _ _ u h2 ry
    exact SeqAt.compareEq_reads r1 r2 c1 c2 (by omega) (by rw [qq]; exact ⟨.bl true, H, I, rfl, q⟩)
  | @dict n a b ks ls h1 h2 l g =>
    exact op_eq_dictA (X := X) (by omega) pins s σ H _ _ v u Q I rx ry ⟨a, b, ks, ls, rfl, rfl, h1, h2, l, g, q⟩
  | @tup n a b xs ys h1 h2 l g =>
    cases (show v = Value.ref a from rx)
    cases (show u = Value.ref b from ry)
    obtain ⟨us, r1, p1, _⟩ := I.tuple h1
    obtain ⟨ws, r2, p2, _⟩ := I.tuple h2
    have sz : us.toArray.size = ws.toArray.size := by
      rw [List.size_toArray, List.size_toArray, ← r1.length, ← r2.length]
      exact l
    refine PySem.W.eq_tuplesT (n := n) (e := fun _ => true) p1 p2 (fun j g1 g2 => ?_) (by omega) ?_
    · obtain ⟨x, hx, a1⟩ := vals_at r1 j g1
      obtain ⟨y, hy, a2⟩ := vals_at r2 j g2
      exact sam_tree I (g j x y hx hy) _ _ a1 a2
    · rw [all_yes, sz, beq_self_eq_true]
      exact ⟨.bl true, H, I, rfl, q⟩
  | @lst n a b xs ys h1 h2 l g =>
    cases (show v = Value.ref a from rx)
    cases (show u = Value.ref b from ry)
    obtain ⟨us, r1, p1, _⟩ := I.list h1
    obtain ⟨ws, r2, p2, _⟩ := I.list h2
    have sz : us.toArray.size = ws.toArray.size := by
      rw [List.size_toArray, List.size_toArray, ← r1.length, ← r2.length]
      exact l
    refine PySem.W.eq_listsT (n := n) (e := fun _ => true) p1.isList p2.isList sz (fun j g1 g2 => ?_) (by omega) ?_
    · obtain ⟨x, hx, a1⟩ := vals_at r1 j g1
      obtain ⟨y, hy, a2⟩ := vals_at r2 j g2
      exact sam_tree I (g j x y hx hy) _ _ a1 a2
    · rw [all_yes]
      exact ⟨.bl true, H, I, rfl, q⟩
theorem op_neS (hu : X.A.units + 64 < cLine) : OpR X (compareOp .NotEq) (rNeS X.K) := by
  intro pins s σ H x y v u Q I rx ry h
  obtain ⟨n, hn, h, q⟩ := h
  cases h with
  | data h1 h2 c1 c2 l qq =>
    obtain ⟨as, r1⟩ := Dp.reads I _ _ v h1 rx
    obtain ⟨bs, r2⟩ := Dp.reads I _ _ u h2 ry
    exact SeqAt.compareNe_reads r1 r2 c1 c2 (by omega) (by rw [qq]; exact ⟨.bl false, H, I, rfl, q⟩)
  | @dict n a b ks ls h1 h2 l g =>
    exact op_ne_dictA (X := X) (by omega) pins s σ H _ _ v u Q I rx ry ⟨a, b, ks, ls, rfl, rfl, h1, h2, l, g, q⟩
  | @tup n a b xs ys h1 h2 l g =>
    cases (show v = Value.ref a from rx)
    cases (show u = Value.ref b from ry)
    obtain ⟨us, r1, p1, _⟩ := I.tuple h1
    obtain ⟨ws, r2, p2, _⟩ := I.tuple h2
    have sz : us.toArray.size = ws.toArray.size := by
      rw [List.size_toArray, List.size_toArray, ← r1.length, ← r2.length]
      exact l
    refine SeqAt.own_neT p1 p2 sz (by omega) (fun j g1 g2 => ?_) ⟨.bl false, H, I, rfl, q⟩
    obtain ⟨x, hx, a1⟩ := vals_at r1 j g1
    obtain ⟨y, hy, a2⟩ := vals_at r2 j g2
    exact (sam_tree I (g j x y hx hy) _ _ a1 a2).at X.A.in1 (by show X.A.units + 1 + n < cLine; omega)
  | @lst n a b xs ys h1 h2 l g =>
    cases (show v = Value.ref a from rx)
    cases (show u = Value.ref b from ry)
    obtain ⟨us, r1, p1, _⟩ := I.list h1
    obtain ⟨ws, r2, p2, _⟩ := I.list h2
    have sz : us.toArray.size = ws.toArray.size := by
      rw [List.size_toArray, List.size_toArray, ← r1.length, ← r2.length]
      exact l
    refine SeqAt.own_neL p1.isList p2.isList sz (by omega) (fun j g1 g2 => ?_) ⟨.bl false, H, I, rfl, q⟩
    obtain ⟨x, hx, a1⟩ := vals_at r1 j g1
    obtain ⟨y, hy, a2⟩ := vals_at r2 j g2
    exact (sam_tree I (g j x y hx hy) _ _ a1 a2).at X.A.in1 (by show X.A.units + 1 + n < cLine; omega)
end
end K0

namespace K0
open PySem PySem.Spec PyProof.Rows L2 Evl
open AutoSeq1 (wpAny_loadPart')
/-! ### enumerate(t), t a tuple -/
theorem own_enumNew (l : Addr) (us : Array Value) (n : Nat) (dd : Option Addr) (sl : Array (Option Value)) : Meets (Builtin.«enumerate.__new__» ⟨[.type "enumerate", .ref l], []⟩) (fun _ R s =>
    s.heap.get? l = some { cls := .type "tuple", dict := dd, data := .seq us n, slots := sl } ∧ R (.ok (.ret (.ref (s.heap.objs.size + 1))))
      { s with heap := (s.heap.push { cls := .type "tuple_iterator", data := .fields #[.ref l, .int 0 0] }).push { cls := .type "enumerate", data := .fields #[.none, .bool false, .ref s.heap.objs.size, rawInt 0, .none, .none] } }) :=
  .of_wp fun prog w A R s h => by
  obtain ⟨hp, g, d, tk, os⟩ := s
  obtain ⟨hl, h⟩ := h
  have sub := sub_enumerate
  have tup : Heap.IsTuple (Shared.heap ⟨hp, g, d, tk, os⟩) l us := ⟨_, hl, rfl, n, rfl⟩
  have sz : (hp.push { cls := .type "tuple_iterator", data := .fields #[.ref l, .int 0 0] }).objs.size = hp.objs.size + 1 := Heap.size_push ..
  have h' := h
  rw [← show (hp.push { cls := .type "tuple_iterator", data := .fields #[.ref l, .int 0 0] }).objs.size = hp.objs.size + 1 from sz] at h'
  wp_walk using wpAny_loadPart' hl
  refine wpAny_stack_any fun st => wpAny_pure ?_
  split
  · rename_i c _ _ _ _ _
    cases (c == Value.type "enumerate") <;> (wp_walk using wpAny_loadPart' hl, wpAny_pyIter_tuple tup; exact ⟨_, rfl, h'⟩)
  · wp_walk using wpAny_loadPart' hl, wpAny_pyIter_tuple tup
    exact ⟨_, rfl, h'⟩
def IteT (K : PySem.W.Frag) (a : Addr) : It :=
  ⟨fun i H => ∃ (xs : List V) (x : V), SqT K H a xs ∧ xs[i]? = some x, fun i H v H' => ∃ p x, v = .ref p ∧ H p = none ∧ H' = upd H p (.tup [.int (i : Nat), x]) ∧ ∀ xs, SqT K H a xs → xs[i]? = some x,
    fun i H => ∃ xs : List V, SqT K H a xs ∧ xs.length = i⟩
theorem turn_enumT {P : Program} {w : World} {K : PySem.W.Frag} {es : List Expr} {kk : Nat} {tp : Pos} (a e it : Addr) :
    Turn P w K (.Tuple es kk tp) (IteT K a) [e, it] e (fun i h => (∃ old, IsEnum h e it ((i : Nat) : Int) old) ∧ h.IsTupleIter it a i ∧ e ≠ it ∧ e ≠ a ∧ a ≠ it) where
  mem := List.mem_cons_self ..
  obj := fun i h st b hb => by
    obtain ⟨⟨old, en⟩, ⟨o, g1, g2, g3⟩, _⟩ := st
    rcases (show b = e ∨ b = it by simpa using hb) with rfl | rfl
    · exact ⟨_, en, fun v q => nomatch q⟩
    · exact ⟨o, g1, fun v q => by rw [g3] at q; cases q⟩
  keep := fun i h h' st k => by
    obtain ⟨⟨old, en⟩, ti, nn⟩ := st
    exact ⟨⟨old, k e (by simp) _ en⟩, ti.at fun o q => k it (by simp) o q, nn⟩
  item := by
    intro X hP hw hK hc i pins s σ H E I hf st hg
    subst hP hw hK
    obtain ⟨⟨old, en⟩, ti, n1, n2, n3⟩ := st
    obtain ⟨xs, x, hq, hx⟩ := hg
    obtain ⟨its, rv, tp, _⟩ := I.tuple hq
    obtain ⟨u, hu, ru⟩ := rv.get hx
    have le : e < s.heap.objs.size := Heap.lt_size en
    have li : it < s.heap.objs.size := by
      obtain ⟨_, q, _⟩ := ti
      exact Heap.lt_size q
    have lt : i < its.toArray.size := by
      rw [List.size_toArray]
      exact (List.getElem?_eq_some_iff.mp hu).1
    refine wpAny_pyNext_enum_itemD (Draws.tuple (prog := X.prog) (w := X.w) (A := X.A.in1) (I.ok.hd hc) it a n3 its.toArray) en ⟨ti, tp⟩ lt n1 (by simp [n1, n2]) fun y h1 tk hy out st1 pr sz kp => ?_
    have ey : y = u := by
      have z : its.toArray[i]? = some y := hy
      rw [List.getElem?_toArray, hu] at z
      exact (Option.some.inj z).symm
    subst ey
    refine ⟨_, rfl, wpAny_letOwnedTupleGo_enum (s := { s with heap := h1, toks := tk + 1 }) out fun h2 en2 sb => ?_⟩
    have pr2 : h2.get? s.heap.objs.size = some { cls := .type "tuple", data := .seq #[.int i tk, y] } := (sb.2 _ (Nat.ne_of_gt le)).trans pr
    have keep2 : ∀ b ob, b ∉ [e, it] → s.heap.get? b = some ob → h2.get? b = some ob := fun b ob hb q => by
      have b1 : b ≠ e := fun z => hb (by simp [z])
      have b2 : b ≠ it := fun z => hb (by simp [z])
      exact (sb.2 b b1).trans (kp b ob b1 b2 q)
    have ok2 : ObjOk X.prog X.w (upd H s.heap.objs.size (.tup [.int (i : Nat), x])) h2 s.heap.objs.size (.tup [.int (i : Nat), x]) := by
      refine ⟨?_, [.int i tk, y], .cons ⟨_, rfl⟩ (.cons ru .nil), ⟨_, pr2, rfl, _, rfl⟩⟩
      show 2 ≤ sizeLine
      decide
    have I2 : Inv X pins σ (upd H s.heap.objs.size (.tup [.int (i : Nat), x])) { s with heap := h2, toks := tk + 1 } := I.turnedNew (ch := [e, it]) keep2 hf (Nat.le_refl _) ok2
    refine ⟨.ref s.heap.objs.size, _, I2, rfl, ⟨_, x, rfl, I.hok.fresh (Nat.le_refl _), rfl, fun ys hy => ?_⟩, ⟨⟨y, ?_⟩, st1.1.at fun o q => (sb.2 it n1.symm).trans q, n1, n2, n3⟩, fun b hb => ?_⟩
    · rw [I.tuple_inj hy hq]
      exact hx
    · have z : ((i + 1 : Nat) : Int) = (i : Int) + 1 := by omega
      rw [z]
      exact en2
    · have lb : b < s.heap.objs.size := by
        rcases (show b = e ∨ b = it by simpa using hb) with rfl | rfl
        · exact le
        · exact li
      rw [upd_ne (Nat.ne_of_lt lb)]
      exact (hf b hb).1
  done := by
    intro X hP hw hK hc i pins s σ H E I hf st hg
    subst hP hw hK
    obtain ⟨⟨old, en⟩, ti, n1, n2, n3⟩ := st
    obtain ⟨xs, hq, hx⟩ := hg
    obtain ⟨its, rv, tp, _⟩ := I.tuple hq
    obtain ⟨f0, f1, f2, f3, f4, f5⟩ := hf it (by simp)
    have ie : i = its.toArray.size := by
      have := rv.length
      simp
      omega
    rw [ie] at ti
    exact wpAny_pyNext_enum_endD (Draws.tuple (prog := X.prog) (w := X.w) (A := X.A.in1) (I.ok.hd hc) it a n3 its.toArray) en ⟨ti, tp⟩ fun h1 eb => ⟨rfl, I.turned (t' := s.toks) (fun b o hb q => eb b o hb q) f0 f1 f3 f4 f5⟩
  self := fun A i s Q E st h => let ⟨⟨_, en⟩, _⟩ := st; wpAny_pyIter_enum en h
theorem own_callEnum {prog : Program} {w : World} {A : Around} {E : Value → Shared → Prop} {s : Shared} {l : Addr} {us : Array Value} {Q : Value → Shared → Prop} (hl : s.heap.IsTuple l us)
    (h : ∀ h', IsEnum h' (s.heap.objs.size + 1) s.heap.objs.size 0 .none → h'.IsTupleIter s.heap.objs.size l 0 → (∀ b o, s.heap.get? b = some o → h'.get? b = some o) → Q (.ref (s.heap.objs.size + 1)) { s with heap := h' }) :
    wpAny (model prog w) A (call (.type "enumerate") [.ref l]) Q E s := by
  obtain ⟨⟨c, dd, dt, sl⟩, g1, g2, n, g3⟩ := hl
  have e2 : c = .type "tuple" := g2
  have e3 : dt = .seq us n := g3
  subst e2 e3
  refine callType_new F.called_enumerate (by decide) (F.typeCall_enumerate_1 _) (F.newCall_enumerate_1 _) (fun o => F.args_object_init_2 o _) F.entry_enumerate_new (own_enumNew l us n dd sl) ⟨g1, ?_⟩
  have sz : (s.heap.push { cls := .type "tuple_iterator", data := .fields #[.ref l, .int 0 0] }).objs.size = s.heap.objs.size + 1 := Heap.size_push ..
  have en : IsEnum ((s.heap.push { cls := .type "tuple_iterator", data := .fields #[.ref l, .int 0 0] }).push { cls := .type "enumerate", data := .fields #[.none, .bool false, .ref s.heap.objs.size, rawInt 0, .none, .none] }) (s.heap.objs.size + 1) s.heap.objs.size 0 .none := by
    have z := Heap.get?_push_size (s.heap.push { cls := .type "tuple_iterator", data := .fields #[.ref l, .int 0 0] }) (o := { cls := .type "enumerate", data := .fields #[.none, .bool false, .ref s.heap.objs.size, rawInt 0, .none, .none] }) rfl
    rwa [sz] at z
  exact ⟨⟨_, en, rfl⟩, h _ en ⟨_, Heap.get?_push_of_some _ (Heap.get?_push_size _ rfl), rfl, rfl⟩ fun b o x => Heap.get?_push_of_some _ (Heap.get?_push_of_some _ x)⟩
def iEnumT (K : PySem.W.Frag) (ta : TA) : TI := fun σ H R => ta σ H fun vs H1 => ∃ a xs, vs = [.ref a] ∧ SqT K H1 a xs ∧ R (IteT K a) H1
theorem pi_enumT {X : Cx} {e : Expr} {ta : TA} {p pos tp : Pos} {es : List Expr} {kk : Nat} (hg : Gl X "enumerate") (hm : X.mg "enumerate" = none) (ha : PA X [e] ta) (hs : starEach [e] X.env = [(false, eval e X.env)] := by rfl) :
    PI X (.Tuple es kk tp) (.Call (.Name "enumerate" p) [e] [] pos) (iEnumT X.K ta) := by
  refine ⟨fun pins s σ H R I h => ?_⟩
  refine Call_ (ld_blt I hg hm boot_enumerate (PyProof.Rows.callWith_type1 (thn (ha.run pos pins s σ H _ I h) fun us s1 z => ?_) hs rfl))
  obtain ⟨vs, H1, I1, r1, a, xs, rfl, hq, q⟩ := z
  cases r1 with
  | cons r rr =>
    cases rr
    cases r
    obtain ⟨its, rv, tp', _⟩ := I1.tuple hq
    refine own_callEnum tp' fun h1 en ti kp => wpAny_pyIter_enum en ?_
    have I2 : Inv X pins σ H1 { s1 with heap := h1 } := I1.kept (t' := s1.toks) kp
    have la : a < s1.heap.objs.size := by
      obtain ⟨_, z, _⟩ := tp'
      exact Heap.lt_size z
    refine ⟨s1.heap.objs.size + 1, [s1.heap.objs.size + 1, s1.heap.objs.size], _, _, H1, rfl, I2, turn_enumT a (s1.heap.objs.size + 1) s1.heap.objs.size, ⟨⟨.none, en⟩, ti, Nat.succ_ne_self _, Nat.ne_of_gt (Nat.lt_succ_of_lt la), Nat.ne_of_lt la⟩, fun b hb => ?_, q⟩
    have lb : s1.heap.objs.size ≤ b := by
      rcases (show b = s1.heap.objs.size + 1 ∨ b = s1.heap.objs.size by simpa using hb) with rfl | rfl
      · exact Nat.le_add_right _ _
      · exact Nat.le_refl _
    exact I1.fpOk lb (I1.hok.fresh lb)
theorem walk_enumT {K : PySem.W.Frag} {a : Addr} {xs : List V} : Walk (IteT K a) xs.length (fun H => SqT K H a xs) (YPair (fun i => some (.int (i : Nat))) (fun i => xs[i]?)) := by
  refine ⟨fun i H hi g => ?_, fun H g => ⟨xs, g, rfl⟩, fun i H v H' hi g y => ?_⟩
  · exact ⟨xs, xs[i], g, List.getElem?_eq_getElem hi⟩
  · obtain ⟨p, x, e1, e2, e3, e4⟩ := y
    exact ⟨p, _, x, e1, e2, e3, rfl, e4 xs g⟩
end K0

namespace SrtO
open PySem PyProof.Rows Srt
section
variable {prog : Program} {w : World} {A : Around} {E : Value → Shared → Prop} {s : Shared}
/-- a tuple of a text and something -/
def IsTx (h : Heap) (v : Value) (x : PySem.Str) : Prop := ∃ a o t u n, v = .ref a ∧ h.get? a = some o ∧ o.cls = .type "tuple" ∧ o.data = .seq #[.str x t, u] n
theorem IsTx.keeps {h h' : Heap} {v : Value} {x : PySem.Str} (p : IsTx h v x) (k : ∀ b o, h.get? b = some o → o.cls = .type "tuple" → h'.get? b = some o) : IsTx h' v x := by
  obtain ⟨a, o, t, u, n, e, g1, g2, g3⟩ := p
  exact ⟨a, o, t, u, n, e, k _ _ g1 g2, g2, g3⟩
def lessB (x y : PySem.Str) : Bool := decide (x.cps.toList < y.cps.toList)
theorem swo_tx {α : Type} (k : α → PySem.Str) : Swo fun v u => lessB (k v) (k u) := by
  refine ⟨fun x y h => ?_, fun x y z h1 h2 => ?_⟩
  · exact decide_eq_false fun q => List.lt_asymm (of_decide_eq_true h) q
  · refine decide_eq_false fun q => ?_
    have a : (k x).cps.toList ≤ (k y).cps.toList := of_decide_eq_false h1
    have b : (k y).cps.toList ≤ (k z).cps.toList := of_decide_eq_false h2
    exact List.le_trans a b q
theorem tx_cmp {vs : List Value} {k : Value → PySem.Str} (hp : ∀ v ∈ vs, IsTx s.heap v (k v)) (hi : ∀ v ∈ vs, ∀ u ∈ vs, k v = k u → v = u) : Cmp prog w A s (tuples' true) (fun p => p.1 ∈ vs) (lt2 fun v u => lessB (k v) (k u)) := by
  intro p q m1 m2
  have i1 := hi _ m1 _ m2
  show wpAny (model prog w) A (keyLt' (tuples' true) p.1 q.1) (fun r s' => s' = s ∧ r = lessB (k p.1) (k q.1)) (fun _ _ => False) s
  obtain ⟨a, o, t, u, n, e, g1, g2, g3⟩ := hp _ m1
  obtain ⟨a', o', t', u', n', e', g1', g2', g3'⟩ := hp _ m2
  have sameV : k p.1 = k q.1 → a = a' := fun z => by
    have := i1 z
    rw [e, e'] at this
    exact Value.ref.inj this
  generalize k p.1 = x at g3 sameV ⊢
  generalize k q.1 = y at g3' sameV ⊢
  rw [e, e']
  refine PySem.W.kat_lt g1 g3 g1' g3' ?_
  show PySem.W.KatLex prog w A true (decide (2 < 2)) _ [(.str x t, .str y t'), (u, u')] 0 s
  refine PySem.W.kat_cons (SeqAt.EqAt.str_str x t y t' prog w _ _ ?_)
  refine PySem.W.kat_go (fun c => ?_) (fun c => ?_)
  · have xy : x = y := by simpa using c
    have aa := sameV xy
    subst aa
    rw [g1] at g1'
    cases g1'
    rw [g3] at g3'
    injection g3' with z1 z2
    have uu : u = u' := by
      have := congrArg (fun l => l[1]?) z1
      simpa using this
    subst uu
    refine PySem.W.kat_yes (PySem.W.kat_cons (SeqAt.EqAt.same u prog w _ _ ?_))
    refine PySem.W.kat_go (fun _ => ?_) (fun z => by cases z)
    refine PySem.W.kat_yes (PySem.W.kat_nil ⟨rfl, ?_⟩)
    rw [xy]
    exact (decide_eq_false (List.lt_irrefl _)).symm
  · exact PySem.W.kat_no (PyProof.Rows.oneLt_str ⟨rfl, rfl⟩)
theorem tx_firsts {h : Heap} {k : Value → PySem.Str} : ∀ {vs : List Value}, (∀ v ∈ vs, IsTx h v (k v)) → ∃ fs : List Value, PySem.W.KatTups h vs fs ∧ fs.length = vs.length ∧ ∀ f ∈ fs, ∃ x t, f = Value.str x t
  | [], _ => ⟨[], .nil, rfl, fun f hf => by cases hf⟩
  | v :: vs, hp => by
    obtain ⟨fs, r1, r2, r3⟩ := tx_firsts (vs := vs) fun u hu => hp u (List.mem_cons_of_mem _ hu)
    obtain ⟨a, o, t, u, n, e, g1, g2, g3⟩ := hp v (List.mem_cons_self ..)
    rw [e] at g3 ⊢
    refine ⟨.str (k (.ref a)) t :: fs, .cons g1 g2 g3 rfl r1, by rw [List.length_cons, List.length_cons, r2], fun f hf => ?_⟩
    rcases List.mem_cons.mp hf with rfl | hf
    · exact ⟨_, _, rfl⟩
    · exact r3 f hf
theorem tx_sortable {a : Addr} {vs : List Value} {k : Value → PySem.Str} (h0 : 0 < vs.length) (hp : ∀ v ∈ vs, IsTx s.heap v (k v)) (hi : ∀ v ∈ vs, ∀ u ∈ vs, k v = k u → v = u) (ha : ∀ o, s.heap.get? a = some o → o.cls ≠ .type "tuple") :
    SortableO prog w A s a vs fun v u => lessB (k v) (k u) := by
  intro h' kp
  have hp' : ∀ v ∈ vs, IsTx h' v (k v) := fun v hv => (hp v hv).keeps fun b o e c => kp b o (fun z => ha o (z ▸ e) c) e
  obtain ⟨fs, r1, r2, r3⟩ := tx_firsts hp'
  refine ⟨tuples' true, fun Q E hq => ?_, tx_cmp hp' hi⟩
  refine PySem.W.kat_kind (T := .type "str") r1 (by omega) (fun f hf => ?_) (by rfl) ?_
  · obtain ⟨x, t, rfl⟩ := r3 f hf
    exact PySem.W.Looks.now
  · rw [show (Value.type "str" != Value.type "tuple") = true by first | decide +kernel | rfl]
    exact hq
end
end SrtO
namespace K0
open PySem PySem.Spec PyProof.Rows L2 Evl
/-- sorted(xs) of tuples whose first members are unlike texts -/
def rSortedTx (K : PySem.W.Frag) : List V → Hp → VK → Prop := fun vs H Q => ∃ (a : Addr) (xs : List V) (k : V → Str), vs = [V.ref a] ∧ SqL K H a xs ∧ (∀ x ∈ xs, ∃ t y, x = V.ref t ∧ SqT K H t [.str (k x), y]) ∧
  (∀ x ∈ xs, ∀ y ∈ xs, k x = k y → x = y) ∧ ∀ ys p, ys.Perm xs → ys.Pairwise (fun x y => SrtO.lessB (k y) (k x) = false) → H p = none → Q (.ref p) (upd H p (.lst ys))
section
variable {X : Cx}
theorem cr_sortedTx : CallR X (.builtin "sorted") (rSortedTx X.K) := by
  intro pins s σ H vs us Q I r h
  obtain ⟨a, xs, k, rfl, hs, hx, hi, q⟩ := h
  obtain ⟨its, rv, hl, hz⟩ := I.list hs
  obtain ⟨u, rfl, ru⟩ := vals1 r
  obtain rfl : u = Value.ref a := ru
  obtain ⟨e1, e2⟩ := refs_back rv fun x m => by
    obtain ⟨t, _, e, _⟩ := hx x m
    exact ⟨t, e⟩
  have tx : ∀ v ∈ its, SrtO.IsTx s.heap v (k (backV v)) := fun v hv => by
    obtain ⟨t, rfl⟩ := e2 v hv
    have hm : V.ref t ∈ xs := by
      rw [e1]
      exact List.mem_map.mpr ⟨_, hv, rfl⟩
    obtain ⟨t', y, e, ht⟩ := hx _ hm
    cases e
    obtain ⟨its2, r2, ⟨o, ho, hc, n, hd⟩, _⟩ := I.tuple ht
    obtain ⟨u1, u2, rfl, ri, rj⟩ := vals2 r2
    obtain ⟨t1, rfl⟩ := ri
    exact ⟨t, o, t1, u2, n, rfl, ho, hc, hd⟩
  have inj : ∀ v ∈ its, ∀ u ∈ its, k (backV v) = k (backV u) → v = u := fun v hv u hu z => by
    obtain ⟨t, rfl⟩ := e2 v hv
    obtain ⟨t', rfl⟩ := e2 u hu
    have m1 : V.ref t ∈ xs := by
      rw [e1]
      exact List.mem_map.mpr ⟨_, hv, rfl⟩
    have m2 : V.ref t' ∈ xs := by
      rw [e1]
      exact List.mem_map.mpr ⟨_, hu, rfl⟩
    have := hi _ m1 _ m2 z
    cases this
    rfl
  refine SrtO.sorted_ord (SrtO.swo_tx fun v => k (backV v)) hl.isList (by rw [← rv.length]; exact hz) (fun h2 h1 b ha kk => ?_) fun out o1 o2 => ?_
  · refine SrtO.tx_sortable (s := { s with heap := h1 }) (by omega) (fun v hv => (tx v hv).keeps fun b o e _ => (kk b o e).2) inj fun o e c => ?_
    have z : some o = some (PyProof.Rows.seqObj "list" its.toArray 0) := e.symm.trans ha
    cases z
    exact absurd (Value.type.inj c) (by decide)
  · have hout : ∀ u ∈ out, ∃ a, u = Value.ref a := fun u hu => e2 u (o2.perm.mem_iff.mp hu)
    obtain ⟨n, hn⟩ := PyProof.Rows.sortedAll_at s.heap its out.toArray
    have pm : (out.map backV).Perm xs := by
      rw [e1]
      exact o2.perm.map _
    refine ⟨.ref _, upd H (s.heap.objs.size + 1) (.lst (out.map backV)), I.laid (t' := s.toks) (fun b o e => PyProof.Rows.sortedAll_old e) (Nat.le_succ _) ⟨?_, out, n, vals_back hout, hn⟩, rfl, q _ _ pm (List.pairwise_map.mpr o1) (I.hok.fresh (Nat.le_succ _))⟩
    rw [pm.length_eq]
    exact hz
end
end K0

namespace K0
open PySem L2 Evl
/-! ### pairs: a dict from texts to ints and texts -/
def D.isAt : D → Bool
  | .int _ => true | .str _ => true | _ => false
/-- an int or a text as a value -/
def atV : D → V
  | .int i => .int i | .str s => .str s | _ => .non
theorem atV_inj {d e : D} (h1 : d.isAt = true) (h2 : e.isAt = true) (h : atV d = atV e) : d = e := by
  cases d <;> cases e <;> first | (cases h1; done) | (cases h2; done) | (simp only [atV, V.int.injEq, V.str.injEq, reduceCtorEq] at h; first | done | rw [h])
theorem atV_flat {d : D} (h : d.isAt = true) : flatB (atV d) = true := by cases d <;> first | rfl | cases h
theorem atV_rp {K : PySem.W.Frag} {H : Hp} {d : D} (h : d.isAt = true) : Rp K H (atV d) d := by cases d <;> first | exact .int _ | exact .str _ | cases h
theorem rp_atV {K : PySem.W.Frag} {H : Hp} {d : D} {v : V} (h : d.isAt = true) (r : Rp K H v d) : v = atV d := by cases r <;> first | rfl | cases h
abbrev Ps := List (Str × D)
def kv1 (p : Str × D) : Key × V := (Sum.inr p.1, atV p.2)
def kv (ps : Ps) : List (Key × V) := ps.map kv1
def lookP (ps : Ps) (k : Str) : Option D := (ps.find? fun p => decide (p.1 = k)).map (·.2)
def dropP (ps : Ps) (k : Str) : Ps := ps.filter fun p => decide (p.1 ≠ k)
def hasP (ps : Ps) (k : Str) : Bool := ps.any fun p => decide (p.1 = k)
def putP (ps : Ps) (k : Str) (d : D) : Ps := if hasP ps k = true then ps.map (fun p => if p.1 = k then (p.1, d) else p) else ps ++ [(k, d)]
theorem inr_iff {a b : Str} : ((Sum.inr a : Key) = Sum.inr b) ↔ a = b := ⟨fun h => by injection h, fun h => by rw [h]⟩
theorem val_kv : ∀ (ps : Ps) (k : Str), valV (kv ps) (.inr k) = (lookP ps k).map atV
  | [], k => rfl
  | p :: r, k => by
    have ih := val_kv r k
    by_cases c : p.1 = k
    · rw [show kv (p :: r) = kv1 p :: kv r from rfl, valV_pos (inr_iff.mpr c)]
      simp [lookP, List.find?_cons, c, kv1]
    · rw [show kv (p :: r) = kv1 p :: kv r from rfl, valV_neg (fun z => c (inr_iff.mp z)), ih]
      simp [lookP, List.find?_cons, c]
theorem look_has (ps : Ps) (k : Str) : (lookP ps k).isSome = hasP ps k := by
  induction ps with
  | nil => rfl
  | cons p r ih =>
    by_cases c : p.1 = k
    · simp [lookP, hasP, List.find?_cons, c]
    · simp only [lookP, hasP, List.find?_cons, List.any_cons] at ih ⊢
      rw [decide_eq_false c]
      simpa using ih
theorem drop_kv (ps : Ps) (k : Str) : dropK (kv ps) (.inr k) = kv (dropP ps k) := by
  unfold dropK dropP kv
  rw [List.filter_map]
  congr 1
  refine congrArg (fun f => List.filter f ps) (funext fun p => ?_)
  show decide ((Sum.inr p.1 : Key) ≠ Sum.inr k) = decide (p.1 ≠ k)
  exact decide_eq_decide.mpr (not_congr inr_iff)
theorem put_kv (ps : Ps) (k : Str) (d : D) : putK (kv ps) (.inr k) (atV d) = kv (putP ps k d) := by
  unfold putK putP
  have e : ((kv ps).any fun q => decide (q.1 = (Sum.inr k : Key))) = hasP ps k := by
    unfold kv hasP
    rw [List.any_map]
    refine congrArg (fun f => List.any ps f) (funext fun p => ?_)
    exact decide_eq_decide.mpr inr_iff
  rw [e]
  by_cases c : hasP ps k = true
  · rw [if_pos c, if_pos c]
    unfold kv
    rw [List.map_map, List.map_map]
    refine congrArg (fun f => List.map f ps) (funext fun p => ?_)
    by_cases z : p.1 = k
    · show (if (Sum.inr p.1 : Key) = Sum.inr k then _ else _) = kv1 (if p.1 = k then _ else _)
      rw [if_pos (inr_iff.mpr z), if_pos z]
      rfl
    · show (if (Sum.inr p.1 : Key) = Sum.inr k then _ else _) = kv1 (if p.1 = k then _ else _)
      rw [if_neg (fun q => z (inr_iff.mp q)), if_neg z]
  · rw [if_neg c, if_neg c]
    unfold kv
    rw [List.map_append]
    rfl
def keysP (ps : Ps) : List Str := ps.map (·.1)
def NoTwo (ps : Ps) : Prop := (keysP ps).Nodup
theorem look_mem {ps : Ps} {k : Str} {d : D} (h : lookP ps k = some d) : (k, d) ∈ ps := by
  unfold lookP at h
  cases z : ps.find? (fun p => decide (p.1 = k)) with
  | none => rw [z] at h; cases h
  | some p =>
    rw [z] at h
    have h1 := List.mem_of_find?_eq_some z
    have h2 : p.1 = k := of_decide_eq_true (List.find?_some (p := fun p : Str × D => decide (p.1 = k)) z)
    cases h
    rw [← h2]
    exact h1
theorem mem_look : ∀ {ps : Ps} {k : Str} {d : D}, NoTwo ps → (k, d) ∈ ps → lookP ps k = some d
  | p :: r, k, d, n, h => by
    unfold NoTwo keysP at n
    rw [List.map_cons, List.nodup_cons] at n
    rcases List.mem_cons.mp h with rfl | h
    · simp [lookP, List.find?_cons]
    · have c : p.1 ≠ k := fun z => n.1 (by rw [z]; exact List.mem_map.mpr ⟨(k, d), h, rfl⟩)
      have ih := mem_look (ps := r) n.2 h
      unfold lookP at ih ⊢
      rw [List.find?_cons, decide_eq_false c]
      exact ih
theorem NoTwo.perm {ps qs : Ps} (h : qs.Perm ps) (n : NoTwo ps) : NoTwo qs := (List.Perm.map (fun p : Str × D => p.1) h).nodup_iff.mpr n
theorem look_perm {ps qs : Ps} (h : qs.Perm ps) (n : NoTwo ps) (k : Str) : lookP qs k = lookP ps k := by
  cases z : lookP ps k with
  | some d => exact mem_look (n.perm h) (h.mem_iff.mpr (look_mem z))
  | none =>
    cases y : lookP qs k with
    | none => rfl
    | some d =>
      rw [mem_look n (h.mem_iff.mp (look_mem y))] at z
      cases z
theorem drop_perm {ps qs : Ps} (h : qs.Perm ps) (k : Str) : (dropP qs k).Perm (dropP ps k) := h.filter _
theorem put_perm {ps qs : Ps} (h : qs.Perm ps) (n : NoTwo ps) (k : Str) (d : D) : (putP qs k d).Perm (putP ps k d) := by
  have e : hasP qs k = hasP ps k := by rw [← look_has, ← look_has, look_perm h n]
  unfold putP
  rw [e]
  by_cases c : hasP ps k = true
  · rw [if_pos c, if_pos c]
    exact h.map _
  · rw [if_neg c, if_neg c]
    exact h.append_right _
theorem has_mem {ps : Ps} {k : Str} : hasP ps k = true ↔ k ∈ keysP ps := by
  unfold hasP keysP
  rw [List.any_eq_true, List.mem_map]
  constructor
  · rintro ⟨p, hp, e⟩
    exact ⟨p, hp, of_decide_eq_true e⟩
  · rintro ⟨p, hp, e⟩
    exact ⟨p, hp, decide_eq_true e⟩
theorem put_keys (ps : Ps) (k : Str) (d : D) : keysP (putP ps k d) = if hasP ps k = true then keysP ps else keysP ps ++ [k] := by
  unfold putP
  split
  · unfold keysP
    rw [List.map_map]
    refine congrArg (fun f => List.map f ps) (funext fun p => ?_)
    show (if p.1 = k then (p.1, d) else p).1 = p.1
    split <;> rfl
  · unfold keysP
    rw [List.map_append]
    rfl
theorem NoTwo.put {ps : Ps} (n : NoTwo ps) (k : Str) (d : D) : NoTwo (putP ps k d) := by
  unfold NoTwo
  rw [put_keys]
  split
  · exact n
  · rename_i c
    rw [List.nodup_append]
    refine ⟨n, by simp, fun a ha b hb => ?_⟩
    rw [List.mem_singleton.mp hb]
    intro z
    exact c (has_mem.mpr (z ▸ ha))
theorem NoTwo.drop {ps : Ps} (n : NoTwo ps) (k : Str) : NoTwo (dropP ps k) := by
  unfold NoTwo keysP dropP
  exact List.Nodup.sublist (List.Sublist.map _ List.filter_sublist) n
theorem drop_no {ps : Ps} {k : Str} (h : hasP ps k = false) : dropP ps k = ps := by
  unfold dropP
  refine List.filter_eq_self.mpr fun p hp => ?_
  refine decide_eq_true fun z => ?_
  have : hasP ps k = true := List.any_eq_true.mpr ⟨p, hp, decide_eq_true z⟩
  rw [h] at this
  cases this
/-- put in its place is put behind the others -/
theorem put_end : ∀ {ps : Ps}, NoTwo ps → ∀ (k : Str) (d : D), (dropP ps k ++ [(k, d)]).Perm (putP ps k d)
  | ps, n, k, d => by
    by_cases c : hasP ps k = true
    · unfold putP
      rw [if_pos c]
      have key : ∀ qs : Ps, NoTwo qs → k ∈ keysP qs → (dropP qs k ++ [(k, d)]).Perm (qs.map fun p => if p.1 = k then (p.1, d) else p) := by
        intro qs
        induction qs with
        | nil =>
          intro _ z
          cases z
        | cons p r ih =>
          intro nn z
          unfold NoTwo keysP at nn
          rw [List.map_cons, List.nodup_cons] at nn
          by_cases q : p.1 = k
          · have hr : hasP r k = false := by
              cases y : hasP r k with
              | false => rfl
              | true => exact absurd (has_mem.mp y) (q ▸ nn.1)
            have e1 : dropP (p :: r) k = r := by
              have : dropP (p :: r) k = dropP r k := by
                unfold dropP
                rw [List.filter_cons, if_neg (by simp [q])]
              rw [this, drop_no hr]
            have e2 : (r.map fun p => if p.1 = k then (p.1, d) else p) = r := by
              have : ∀ x ∈ r, (if x.1 = k then (x.1, d) else x) = x := fun x hx => by
                rw [if_neg]
                intro w
                have : hasP r k = true := List.any_eq_true.mpr ⟨x, hx, decide_eq_true w⟩
                rw [hr] at this
                cases this
              rw [List.map_congr_left this, List.map_id'']
              intro x
              rfl
            rw [e1, List.map_cons, if_pos q, e2, q]
            exact List.perm_append_singleton _ _
          · have z' : k ∈ keysP r := by
              rcases List.mem_cons.mp z with w | w
              · exact absurd w.symm q
              · exact w
            have e1 : dropP (p :: r) k = p :: dropP r k := by
              unfold dropP
              rw [List.filter_cons, if_pos (by simp [q])]
            rw [e1, List.map_cons, if_neg q]
            exact (ih nn.2 z').cons p
      exact key ps n (has_mem.mp c)
    · unfold putP
      rw [if_neg c, drop_no (by cases y : hasP ps k <;> first | rfl | exact absurd y c)]
end K0

namespace K0
open PySem L2 Evl
/-! ### pairs in the heap -/
def AllAt (ps : Ps) : Prop := ∀ p ∈ ps, p.2.isAt = true
/-- at a a dict with these pairs, in whatever order -/
def PairsAt (H : Hp) (a : Addr) (ps : Ps) : Prop := ∃ qs : Ps, qs.Perm ps ∧ NoTwo ps ∧ AllAt ps ∧ H a = some (.dK (kv qs))
theorem AllAt.perm {ps qs : Ps} (h : qs.Perm ps) (n : AllAt ps) : AllAt qs := fun p hp => n p (h.mem_iff.mp hp)
theorem AllAt.put {ps : Ps} (n : AllAt ps) {k : Str} {d : D} (h : d.isAt = true) : AllAt (putP ps k d) := fun p hp => by
  unfold putP at hp
  split at hp
  · obtain ⟨q, hq, rfl⟩ := List.mem_map.mp hp
    split
    · exact h
    · exact n q hq
  · rcases List.mem_append.mp hp with hp | hp
    · exact n p hp
    · rw [List.mem_singleton.mp hp]
      exact h
theorem AllAt.drop {ps : Ps} (n : AllAt ps) (k : Str) : AllAt (dropP ps k) := fun p hp => n p (List.mem_filter.mp hp).1
theorem PairsAt.ex {H H' : Hp} {a : Addr} {ps : Ps} (e : Ex H H') (h : PairsAt H a ps) : PairsAt H' a ps := let ⟨qs, p, n, z, g⟩ := h; ⟨qs, p, n, z, e _ _ g⟩
theorem PairsAt.exT {H H' : Hp} {a : Addr} {ps : Ps} (e : ExT H H') (h : PairsAt H a ps) : PairsAt H' a ps := let ⟨qs, p, n, z, g⟩ := h; ⟨qs, p, n, z, e _ _ g (fun _ z => by cases z)⟩
theorem PairsAt.perm {H : Hp} {a : Addr} {ps qs : Ps} (h : PairsAt H a ps) (p : ps.Perm qs) : PairsAt H a qs := let ⟨rs, p', n, z, g⟩ := h; ⟨rs, p'.trans p, n.perm p.symm, z.perm p.symm, g⟩
theorem PairsAt.no {H : Hp} {a : Addr} {ps : Ps} (h : PairsAt H a ps) : NoTwo ps := let ⟨_, _, n, _⟩ := h; n
theorem PairsAt.at_ {H : Hp} {a : Addr} {ps : Ps} (h : PairsAt H a ps) : AllAt ps := let ⟨_, _, _, z, _⟩ := h; z
theorem pairs_at {H : Hp} {a : Addr} {ps : Ps} (n : NoTwo ps) (z : AllAt ps) (g : H a = some (.dK (kv ps))) : PairsAt H a ps := ⟨ps, .refl _, n, z, g⟩
theorem PairsAt.ne {H : Hp} {a p : Addr} {ps : Ps} (h : PairsAt H a ps) (hp : H p = none) : a ≠ p := let ⟨_, _, _, _, g⟩ := h; ne_of_none g hp
theorem kv_len (ps : Ps) : (kv ps).length = ps.length := List.length_map ..
/-- what a key holds, None for none -/
def gotV (ps : Ps) (k : Str) (z : V) : V := ((lookP ps k).map atV).getD z
section
variable {K : PySem.W.Frag} {σ : L2.St} {H H' : Hp} {td ty tx te ta : TE} {z : V} {a : Addr} {ps : Ps} {k : Str} {D : Ends} {tz : TS} {Q : VK}
theorem dget_of (h : PairsAt H a ps) (k : Str) : DGet H a (.str k) ((lookP ps k).map atV) := by
  obtain ⟨qs, p, n, _, g⟩ := h
  rw [← look_perm p n, ← val_kv]
  exact .inl ⟨_, _, .inl g, rfl, rfl⟩
theorem isd_of (h : PairsAt H a ps) : IsD H a := let ⟨_, _, _, _, g⟩ := h; .inl ⟨_, .inl g⟩
theorem ev_pget1 (h : Ev td σ H (.ref a)) (hk : Ev ty σ H (.str k)) (hp : PairsAt H a ps) : Ev (tDGet1 td ty) σ H (gotV ps k .non) := fun H1 e Q q =>
  h H1 e _ fun H2 e2 => ⟨a, rfl, isd_of (hp.ex (e.trans e2)), hk H2 (e.trans e2) _ fun H3 e3 => ⟨_, dget_of (hp.ex ((e.trans e2).trans e3)) k, q H3 (e2.trans e3)⟩⟩
theorem ev_pget2 (h : Ev td σ H (.ref a)) (hk : Ev ty σ H (.str k)) (hz : Ev tx σ H z) (hp : PairsAt H a ps) : Ev (tDGet2 td ty tx) σ H (gotV ps k z) := fun H1 e Q q =>
  h H1 e _ fun H2 e2 => ⟨a, rfl, isd_of (hp.ex (e.trans e2)), hk H2 (e.trans e2) _ fun H3 e3 => hz H3 ((e.trans e2).trans e3) _ fun H4 e4 =>
    ⟨_, dget_of (hp.ex (((e.trans e2).trans e3).trans e4)) k, q H4 ((e2.trans e3).trans e4)⟩⟩
theorem ev_pitem {d : K0.D} (h : Ev td σ H (.ref a)) (hk : Ev ty σ H (.str k)) (hp : PairsAt H a ps) (hl : lookP ps k = some d) : Ev (tDGet td ty) σ H (atV d) := fun H1 e Q q =>
  h H1 e _ fun H2 e2 => hk H2 (e.trans e2) _ fun H3 e3 => ⟨a, atV d, rfl, by
    have := dget_of (hp.ex ((e.trans e2).trans e3)) k
    rw [hl] at this
    exact this, q H3 (e2.trans e3)⟩
theorem ev_pnotin (hk : Ev ty σ H (.str k)) (h : Ev td σ H (.ref a)) (hp : PairsAt H a ps) : Ev (tDNotIn ty td) σ H (.bl (!hasP ps k)) := fun H1 e Q q =>
  hk H1 e _ fun H2 e2 => h H2 (e.trans e2) _ fun H3 e3 => ⟨a, _, rfl, dget_of (hp.ex ((e.trans e2).trans e3)) k, by
    rw [Option.isSome_map, look_has]
    exact q H3 (e2.trans e3)⟩
theorem ev_pin (hk : Ev ty σ H (.str k)) (h : Ev td σ H (.ref a)) (hp : PairsAt H a ps) : Ev (tDIn ty td) σ H (.bl (hasP ps k)) := fun H1 e Q q =>
  hk H1 e _ fun H2 e2 => h H2 (e.trans e2) _ fun H3 e3 => ⟨a, _, rfl, dget_of (hp.ex ((e.trans e2).trans e3)) k, by
    rw [Option.isSome_map, look_has]
    exact q H3 (e2.trans e3)⟩
def rLenP : List V → Hp → VK → Prop := fun xs H Q => ∃ a kvs, xs = [V.ref a] ∧ H a = some (.dK kvs) ∧ Q (.int kvs.length) H
theorem rc_lenP (hp : PairsAt H a ps) : RC rLenP [.ref a] H (.int (ps.length : Nat)) := fun H1 e Q q => by
  obtain ⟨qs, p, n, _, g⟩ := hp
  refine ⟨a, _, rfl, e _ _ g, ?_⟩
  rw [kv_len, p.length_eq]
  exact q H1 (Ex.refl _)
/-- isinstance(d, dict) -/
theorem rc_isDict (hp : PairsAt H a ps) : RC (rIsi K) [.ref a, .ty "dict"] H (.bl true) := fun H1 e Q q => by
  obtain ⟨qs, p, n, _, g⟩ := hp
  exact ⟨_, _, _, _, _, rfl, .ty _, .base (.dK (e _ _ g)), kit_ty (by decide +kernel), q H1 (Ex.refl _)⟩
/-! what evaluates to pairs -/
def EvP (te : TE) (σ : L2.St) (H : Hp) (ps : Ps) : Prop := ∀ H1, Ex H H1 → ∀ Q : VK, (∀ p H2, Ex H1 H2 → PairsAt H2 p ps → Q (.ref p) H2) → te σ H1 Q
theorem ep_ev (h : Ev te σ H (.ref a)) (hp : PairsAt H a ps) : EvP te σ H ps := fun H1 e Q q => h H1 e Q fun H2 e2 => q a H2 e2 (hp.ex (e.trans e2))
def RetP (ps : Ps) (H : Hp) (Q : VK) : Prop := ∀ p H', Ex H H' → PairsAt H' p ps → Q (.ref p) H'
theorem p_ret (h : EvP te σ H ps) (k : ∀ p H1, Ex H H1 → PairsAt H1 p ps → D.rt (.ref p) H1) : tRet te D σ H := h H (Ex.refl H) _ k
theorem q_asgP {i : Nat} (h : EvP te σ H ps) (k : ∀ p H1, Ex H H1 → PairsAt H1 p ps → tz D (σ.set i (some (.ref p))) H1) : tSeq (tAsg te (gName i)) tz D σ H := h H (Ex.refl H) _ k
theorem s_asgP {i : Nat} (h : EvP te σ H ps) (k : ∀ p H1, Ex H H1 → PairsAt H1 p ps → D.nx (σ.set i (some (.ref p))) H1) : tAsg te (gName i) D σ H := h H (Ex.refl H) _ k
/-- d = dict(pairs) -/
def rCopyP : List V → Hp → VK → Prop := fun xs H Q => ∃ (a : Addr) (kvs : List (Key × V)), xs = [.ref a] ∧ Rd H a (.dK kvs) ∧ ∀ p, H p = none → Q (.ref p) (upd H p (.dK kvs))
theorem q_copyP {i : Nat} (h : Ev td σ H (.ref a)) (hp : PairsAt H a ps) (k : ∀ p qs H1, H p = none → Ex H H1 → H1 p = some (.dK (kv qs)) → qs.Perm ps → tz D (σ.set i (some (.ref p))) H1) :
    tSeq (tAsg (tCB rCopyP (tCons td tNil)) (gName i)) tz D σ H := h H (Ex.refl H) _ fun H1 e => by
  obtain ⟨qs, p, n, _, g⟩ := hp
  exact ⟨a, _, rfl, .inl (e _ _ g), fun q hq => k q qs _ (fresh_back e hq) (e.trans (Ex.new hq)) upd_same p⟩
/-- d[k] = v on an own dict -/
theorem s_putP {tv : TE} {d : Addr} {qs : Ps} {w : K0.D} (hd : H d = some (.dK (kv qs))) (hv : Ev tv σ H (atV w)) (ho : Ev td σ H (.ref d)) (hk : Ev ty σ H (.str k)) (hl : qs.length < 100000)
    (c : ∀ H1, Ex H H1 → D.nx σ (upd H1 d (.dK (kv (putP qs k w))))) : sDPut td ty tv D σ H :=
  hv H (Ex.refl H) _ fun H1 e1 => ho H1 e1 _ fun H2 e2 => hk H2 (e1.trans e2) _ fun H3 e3 => by
    have e := (e1.trans e2).trans e3
    refine ⟨d, _, rfl, .inl ⟨_, .inr k, e _ _ hd, rfl, by rw [kv_len]; exact sz_lt hl, rfl⟩, ?_⟩
    rw [put_kv]
    exact c H3 e
/-- d.pop(k, None) on an own dict -/
theorem s_popP {d : Addr} {qs : Ps} (hd : H d = some (.dK (kv qs))) (ho : Ev td σ H (.ref d)) (hk : Ev ty σ H (.str k)) (hx : Ev tx σ H z)
    (c : ∀ H1, Ex H H1 → D.nx σ (upd H1 d (.dK (kv (dropP qs k))))) : tDrop (tDPop2 td ty tx) D σ H :=
  ho H (Ex.refl H) _ fun H1 e1 => ⟨d, rfl, .inl ⟨_, .inl (e1 _ _ hd)⟩, hk H1 e1 _ fun H2 e2 => hx H2 (e1.trans e2) _ fun H3 e3 => by
    have e := (e1.trans e2).trans e3
    refine ⟨_, .inr k, e _ _ hd, rfl, fun v hv => ?_, fun hv => ?_⟩
    · show D.nx σ (upd H3 d (.dK (dropK (kv qs) (.inr k))))
      rw [drop_kv]
      exact c H3 e
    · have hn : hasP qs k = false := by
        rw [val_kv] at hv
        rw [← look_has]
        cases z : lookP qs k <;> rw [z] at hv <;> first | rfl | cases hv
      have := c H3 e
      rw [drop_no hn] at this
      have same : upd H3 d (.dK (kv qs)) = H3 := by
        funext b
        by_cases w : b = d
        · subst w
          rw [upd_same, e _ _ hd]
        · rw [upd_ne w]
      rw [same] at this
      exact this⟩
end
/-! ### dicts that are equal -/
theorem val_of_perm {ps qs rs : Ps} (hq : qs.Perm ps) (hr : rs.Perm ps) (n : NoTwo ps) (z : AllAt ps) : (kv qs).length = (kv rs).length ∧ ∀ p ∈ kv qs, valV (kv rs) p.1 = some p.2 ∧ flatB p.2 = true := by
  refine ⟨by rw [kv_len, kv_len, hq.length_eq, hr.length_eq], fun p hp => ?_⟩
  obtain ⟨q, hm, rfl⟩ := List.mem_map.mp hp
  have hm' : q ∈ ps := hq.mem_iff.mp hm
  refine ⟨?_, atV_flat (z q hm')⟩
  show valV (kv rs) (.inr q.1) = some (atV q.2)
  rw [val_kv, mem_look (n.perm hr) (hr.mem_iff.mpr hm')]
  rfl
theorem sam_pairs {K : PySem.W.Frag} {H : Hp} {n : Nat} {a b : Addr} {ps : Ps} (h1 : PairsAt H a ps) (h2 : PairsAt H b ps) : Sam K H (n + 1) (.ref a) (.ref b) := by
  obtain ⟨qs, p1, n1, z1, g1⟩ := h1
  obtain ⟨rs, p2, _, _, g2⟩ := h2
  obtain ⟨l, f⟩ := val_of_perm p1 p2 n1 z1
  exact .dict g1 g2 l f
theorem sam_data {K : PySem.W.Frag} {H : Hp} {n m : Nat} {x y : V} {d : D} (h1 : Rp K H x d) (h2 : Rp K H y d) (f : d.fine m = true) (l : m ≤ n) : Sam K H n x y :=
  .data (h1.dp (fine_c f)) (h2.dp (fine_c f)) (fine_l f) (fine_l f) (Nat.le_trans (fine_d f) l) (eqv_self d (fine_c f))
/-- two tuples, of equal pairs and the same data -/
theorem sam_pa {K : PySem.W.Frag} {H : Hp} {n m : Nat} {t u p q : Addr} {x y : V} {ps : Ps} {d : D} (ht : SqT K H t [.ref p, x]) (hu : SqT K H u [.ref q, y]) (hp : PairsAt H p ps) (hq : PairsAt H q ps) (hx : Rp K H x d) (hy : Rp K H y d)
    (f : d.fine m = true) (l : m ≤ n + 1) : Sam K H (n + 2) (.ref t) (.ref u) := by
  refine .tup ht hu rfl fun j v w hv hw => ?_
  match j with
  | 0 =>
    cases hv
    cases hw
    exact sam_pairs hp hq
  | 1 =>
    cases hv
    cases hw
    exact sam_data hx hy f l
  | j + 2 => cases hv
end K0

namespace K0
open PySem PySem.Spec PyProof.Rows L2 Evl
/-! ### a call of a local name that holds one of several defs -/
def tCallS (i : Nat) (SS : List (Addr × Sp)) (t : TA) : TE := fun σ H Q => ∃ p ∈ SS, σ[i]? = some (some (.ref p.1)) ∧ t σ H fun vs H1 => p.2 vs H1 Q fun _ _ _ => False
section
variable {X : Cx} {k i : Nat} {x : Str} {p pos : Pos} {e : Expr} {es : List Expr} {t : TA}
theorem pe_callS {SS : List (Addr × Sp)} (A : ∀ q ∈ SS, Held X.prog X.w X.K X.mg X.base k q.1 q.2) (hr : Room k X.A) (hN : X.N[i]? = some x) (hv : Vis X.env.scope x) (ha : PA X (e :: es) t)
    (d1 : (x == ("__debug__" : Str)) = false := by decide) (d2 : (x == ("__classdict__" : Str)) = false := by decide)
    (st : starEach (e :: es) X.env = (false, eval e X.env) :: starEach es X.env := by rfl) (pl : (backTo pos (starEach es X.env)).any (·.1) = false := by rfl) : PE X (.Call (.Name x p) (e :: es) [] pos) (tCallS i SS t) := by
  refine ⟨fun pins s σ H Q I h => ?_⟩
  obtain ⟨q, hq, hs, ht⟩ := h
  obtain ⟨fd, ps, F, hk, hb⟩ := (A q hq).ex
  refine (pe_callL (i := i) (f := q.1) (sp := q.2) (dvs := []) (E := fun _ _ _ => False) F hr hN hv hk hb .nil (fun _ _ _ _ _ _ _ z => z.elim) ha d1 d2 st pl).run pins s σ H Q I ⟨hs, ?_⟩
  have e0 : (fun (vs : List V) (H1 : Hp) => q.2 (vs ++ []) H1 Q (fun _ _ _ => False)) = fun vs H1 => q.2 vs H1 Q (fun _ _ _ => False) := by
    funext vs H1
    rw [List.append_nil]
  show t σ H (fun vs H1 => q.2 (vs ++ []) H1 Q (fun _ _ _ => False))
  rw [e0]
  exact ht
end
/-! ### what is a deed -/
def D.worth (d : D) : Bool := d.isNon || d.value
def D.wordO : D → Option Str
  | .tup (.str w :: _) => some w | _ => none
def wV : Option Str → V
  | some w => .str w | none => .non
def nth (ds : List D) (i : Nat) : D := ds.getD i .oth
def fPut (ds : List D) : Bool := decide (ds.length = 3) && ((nth ds 1).key && (nth ds 2).value)
def fKey (ds : List D) : Bool := decide (ds.length = 2) && (nth ds 1).key
def fAdd (ds : List D) : Bool := decide (ds.length = 3) && ((nth ds 1).key && (nth ds 2).short)
def fSwap (ds : List D) : Bool := decide (ds.length = 4) && ((nth ds 1).key && ((nth ds 2).worth && (nth ds 3).worth))
def fList (ds : List D) : Bool := decide (ds.length = 3) && ((nth ds 1).key && (nth ds 2).key)
def D.lotSize : D → Bool
  | .tup es => decide (1 ≤ es.length) && decide (es.length ≤ 6) | _ => false
def fCirc (ds : List D) : Bool := decide (ds.length = 2) && (nth ds 1).circle
def lotWords : List Str := ["put", "drop", "get", "add", "swap"]
def isLot : Option Str → Bool
  | some w => lotWords.contains w | none => false
def loneF (w : Str) (ds : List D) : Bool := if w = "put" then fPut ds else if w = "drop" then fKey ds else if w = "get" then fKey ds else if w = "add" then fAdd ds else if w = "swap" then fSwap ds else false
def D.lone : D → Bool
  | .tup (.str w :: r) => loneF w (.str w :: r) | _ => false
def fAll (ds : List D) : Bool := decide (ds.length = 2) && ((nth ds 1).lotSize && (nth ds 1).kids.all fun d => isLot d.wordO && d.lone)
def deedF (w : Str) (ds : List D) : Bool := if w = "list" then fList ds else if w = "all" then fAll ds else if w = "circle" then fCirc ds else loneF w ds
def D.deed : D → Bool
  | .tup (.str w :: r) => deedF w (.str w :: r) | _ => false
section
variable {P : Program} {w : World} {K : PySem.W.Frag} {mg : Str → Option Value} {base : Heap} {A : Ad} {D : Fd}
/-- a judge of tuples -/
def spF (f : List K0.D → Bool) (K : PySem.W.Frag) : Sp := fun vs H Q _ => ∃ x ds, vs = [x] ∧ Rp K H x (.tup ds) ∧ K0.D.sizeL ds ≤ 29000 ∧ RetV (.bl (f ds)) H Q
theorem spF_len {f : List K0.D → Bool} {vs : List V} {H : Hp} {Q : VK} {E : XK} (h : spF f K vs H Q E) : vs.length = 1 := by
  obtain ⟨x, ds, rfl, _⟩ := h
  rfl
theorem svF {f : List K0.D → Bool} {H : Hp} {x : V} {ds : List K0.D} (h : Rp K H x (.tup ds)) (hs : K0.D.sizeL ds ≤ 29000) : SpV (spF f K) [x] H (.bl (f ds)) := fun H1 e Q q E => ⟨x, ds, rfl, h.ex e, hs, q⟩
theorem size_nth {ds : List K0.D} {i : Nat} : (nth ds i).size ≤ K0.D.sizeL ds + 1 := by
  unfold nth
  rw [List.getD_eq_getElem?_getD]
  cases h : ds[i]? with
  | none => exact Nat.le_add_left _ _
  | some d =>
    have := size_mem (List.mem_of_getElem? h)
    show d.size ≤ _
    omega
/-- the i-th of a tuple that is long enough -/
theorem rp_nth {H : Hp} {xs : List V} {ds : List K0.D} {i : Nat} (r : RpAll K H xs ds) (h : i < ds.length) : ∃ x, xs[i]? = some x ∧ Rp K H x (nth ds i) := by
  have hx : i < xs.length := by rw [r.len]; exact h
  obtain ⟨d, h1, h2⟩ := RpAll.get _ _ _ _ r (List.getElem?_eq_getElem hx)
  refine ⟨_, List.getElem?_eq_getElem hx, ?_⟩
  unfold nth
  rw [gd_some h1]
  exact h2
theorem ev_nth {σ : L2.St} {H : Hp} {ta : TE} {a : Addr} {xs : List V} {i : Nat} {x : V} (h : Ev ta σ H (.ref a)) (hs : SqT K H a xs) (hx : xs[i]? = some x) : Ev (tOp (rIxT K) ta (tC (.int (i : Int)))) σ H x :=
  ev_op h ev_c (rv_ixT hs (by
    unfold atI
    rw [ixN_nat (get_lt' hx)]
    exact hx))
where get_lt' {xs : List V} {i : Nat} {x : V} (h : xs[i]? = some x) : i < xs.length := (List.getElem?_eq_some_iff.mp h).1
theorem rv_eqI {H : Hp} {i j : Int} : RV rEq (.int i) (.int j) H (.bl (decide (i = j))) := fun H1 _ Q q => ⟨rfl, by
  have := q H1 (Ex.refl _)
  rw [show decide (V.int i = V.int j) = decide (i = j) from decide_eq_decide.mpr ⟨fun h => V.int.inj h, fun h => by rw [h]⟩]
  exact this⟩
theorem ev_lenIs {σ : L2.St} {H : Hp} {ta : TE} {a : Addr} {xs : List V} {ds : List K0.D} {n : Nat} (h : Ev ta σ H (.ref a)) (hs : SqT K H a xs) (r : RpAll K H xs ds) :
    Ev (tOp rEq (tCB (fun xs H Q => ∃ x n, xs = [x] ∧ LenV K x H n ∧ Q (.int n) H) (tCons ta tNil)) (tC (.int (n : Int)))) σ H (.bl (decide (ds.length = n))) :=
  ev_is (ev_op (ev_cb (ea_cons h ea_nil) (rc_lenT hs)) ev_c rv_eqI) (by rw [r.len]; exact congrArg V.bl (decide_eq_decide.mpr (by omega)))
def sp_is_worth (K : PySem.W.Frag) : Sp := spS K0.D.worth K
theorem len_is_worth {vs : List V} {H : Hp} {Q : VK} {E : XK} (h : sp_is_worth K vs H Q E) : vs.length = 1 := spS_len h
theorem ok_is_worth (T : Txt K mg A D) : FnOk P w K mg base CX0 5 A.is_worth D.is_worth ["value"] (sp_is_worth K) := by
  have G_is_value : FnOk P w K mg base CX0 4 A.is_value D.is_value ["value"] (sp_is_value K) := ok_is_value T
  refine T.F_is_worth.ok sc_is_worth (fun vs H Q E h => len_is_worth h) (fun cdv A0 outer s H vs Q E hr h => ?_)
  refine ⟨_, (pss_one (ps_ret (pe_or (pe_cmpR op_isN (pv 0) pe_non (nomark _)) (pe_one (pe_call G_is_value (hr.mono (by decide)) rfl T.g_is_value T.F_is_value.kp T.b_is_value .nil pass0 (pa_cons (pv 0) pa_nil)))))), ?_⟩
  obtain ⟨x, d, rfl, hx, hs, k⟩ := h
  exact s_ret (ev_orV (a := d.isNon) (b := d.value) (ev_is (ev_op (ev_var rfl) ev_c rv_isN) (congrArg V.bl hx.isN)) fun _ => ev_call (ea_cons (ev_var rfl) ea_nil) (svS hx hs)) fun H2 e2 => k H2 e2
def sp_word_of (K : PySem.W.Frag) : Sp := fun vs H Q _ => ∃ x d, vs = [x] ∧ Rp K H x d ∧ d.size ≤ 30000 ∧ RetV (wV d.wordO) H Q
theorem len_word_of {vs : List V} {H : Hp} {Q : VK} {E : XK} (h : sp_word_of K vs H Q E) : vs.length = 1 := by
  obtain ⟨x, d, rfl, _⟩ := h
  rfl
theorem sv_word {H : Hp} {x : V} {d : K0.D} (h : Rp K H x d) (hs : d.size ≤ 30000) : SpV (sp_word_of K) [x] H (wV d.wordO) := fun H1 e Q q E => ⟨x, d, rfl, h.ex e, hs, q⟩
theorem ok_word_of (T : Txt K mg A D) : FnOk P w K mg base CX0 1 A.word_of D.word_of ["value"] (sp_word_of K) := by
  refine T.F_word_of.ok sc_word_of (fun vs H Q E h => len_word_of h) (fun cdv A0 outer s H vs Q E hr h => ?_)
  refine ⟨_, (pss_cons (ps_if (PW.pt (pw_and (pt_val (pe_callB call_isi (by rfl) T.b_isinstance (by decide +kernel) (pa_cons (pv 0) (pa_cons (pe_bltn (v := .ty "tuple") (u := .type "tuple") (by rfl) T.b_tuple (by decide +kernel) rfl) pa_nil)))) (pw_and (pt_cmpR op_gt (pe_callB call_len (by rfl) T.b_len (by decide +kernel) (pa_cons (pv 0) pa_nil)) pe_int (nomark _)) (pw_and1 (pt_val (pe_callB call_isi (by rfl) T.b_isinstance (by decide +kernel) (pa_cons (pe_ix ix_tup (pv 0) pe_int (fun _ _ => rfl)) (pa_cons (pe_bltn (v := .ty "str") (u := .type "str") (by rfl) T.b_str (by decide +kernel) rfl) pa_nil)))))))) (pss_one (ps_ret (pe_ix ix_tup (pv 0) pe_int (fun _ _ => rfl)))) pss_nil)
  (pss_one (ps_ret pe_non))), ?_⟩
  obtain ⟨x, d, rfl, hx, hs, k⟩ := h
  by_cases ht : d.isTup = true
  · obtain ⟨a, xs, ds, rfl, rfl, hq, hr1⟩ := hx.isT ht
    have hl := hr1.len
    refine q_when (b := decide (0 < ds.length) && (nth ds 0).isStr) (et_is (et_and (a := true) (b := decide (0 < ds.length) && (nth ds 0).isStr) (et_B (ev_is (ev_cb (ea_cons (ev_var rfl) (ea_cons ev_c ea_nil)) (rc_tup hx)) rfl)) fun _ =>
      et_and (a := decide (0 < ds.length)) (et_is (et_test (ev_op (ev_cb (ea_cons (ev_var rfl) ea_nil) (rc_lenT hq)) ev_c rv_I0)) (by rw [hl]; exact decide_eq_decide.mpr (by omega))) fun h0 => ?_) (Bool.true_and _)) (fun hb H1 e1 => ?_) (fun hb H1 e1 => ?_)
    · obtain ⟨y, hy, ry⟩ := rp_nth hr1 (i := 0) (of_decide_eq_true h0)
      exact et_B (ev_cb (ea_cons (ev_nth (ev_var rfl) hq hy) (ea_cons ev_c ea_nil)) (rc_str ry))
    · have hb' := Bool.and_eq_true_iff.mp hb
      obtain ⟨y, hy, ry⟩ := rp_nth hr1 (i := 0) (of_decide_eq_true hb'.1)
      obtain ⟨s, e2, rfl⟩ := ry.isS hb'.2
      refine s_ret (ev_nth (ev_var rfl) (ex_t e1 hq) hy) fun H2 e3 => ?_
      have := k H2 (e1.trans e3)
      have hw : (K0.D.tup ds).wordO = some s := by
        cases ds with
        | nil => cases hb'.1
        | cons d r =>
          have : d = .str s := e2
          rw [this]
          rfl
      rw [hw] at this
      exact this
    · refine s_ret ev_c fun H2 e2 => ?_
      have := k H2 (e1.trans e2)
      have hw : (K0.D.tup ds).wordO = none := by
        cases ds with
        | nil => rfl
        | cons d r =>
          cases d with
          | str s => cases hb
          | _ => rfl
      rw [hw] at this
      exact this
  · have hf : d.wordO = none := by cases d <;> first | rfl | exact absurd rfl ht
    have ht' : d.isTup = false := by cases q : d.isTup <;> first | rfl | exact absurd q ht
    rw [hf] at k
    refine q_when (b := false) (et_is (et_and (a := false) (b := true) (et_is (et_B (ev_cb (ea_cons (ev_var rfl) (ea_cons ev_c ea_nil)) (rc_tup hx))) ht') fun z => by cases z) rfl) (fun z => by cases z) fun _ H1 e1 => ?_
    exact s_ret ev_c fun H2 e2 => k H2 (e1.trans e2)
def sp_is_put (K : PySem.W.Frag) : Sp := spF fPut K
theorem len_is_put {vs : List V} {H : Hp} {Q : VK} {E : XK} (h : sp_is_put K vs H Q E) : vs.length = 1 := spF_len h
theorem ok_is_put (T : Txt K mg A D) : FnOk P w K mg base CX0 5 A.is_put D.is_put ["value"] (sp_is_put K) := by
  have G_is_key : FnOk P w K mg base CX0 2 A.is_key D.is_key ["value"] (sp_is_key K) := ok_is_key T
  have G_is_value : FnOk P w K mg base CX0 4 A.is_value D.is_value ["value"] (sp_is_value K) := ok_is_value T
  refine T.F_is_put.ok sc_is_put (fun vs H Q E h => len_is_put h) (fun cdv A0 outer s H vs Q E hr h => ?_)
  refine ⟨_, (pss_one (ps_ret (pe_and (pe_cmpR op_eq (pe_callB call_len (by rfl) T.b_len (by decide +kernel) (pa_cons (pv 0) pa_nil)) pe_int (nomark _)) (pe_and (pe_call G_is_key (hr.mono (by decide)) rfl T.g_is_key T.F_is_key.kp T.b_is_key .nil pass0 (pa_cons (pe_ix ix_tup (pv 0) pe_int (fun _ _ => rfl)) pa_nil)) (pe_one (pe_call G_is_value (hr.mono (by decide)) rfl T.g_is_value T.F_is_value.kp T.b_is_value .nil pass0 (pa_cons (pe_ix ix_tup (pv 0) pe_int (fun _ _ => rfl)) pa_nil))))))), ?_⟩
  obtain ⟨x, ds, rfl, hx, hs, k⟩ := h
  obtain ⟨a, xs, rfl, hq, hr1⟩ := hx.tupI
  refine s_ret (ev_andV (ev_lenIs (n := 3) (ev_var rfl) hq hr1) fun h0 => ?_) fun H2 e2 => k H2 e2
  have hl := of_decide_eq_true h0
  obtain ⟨y1, hy1, r1⟩ := rp_nth hr1 (i := 1) (by omega)
  obtain ⟨y2, hy2, r2⟩ := rp_nth hr1 (i := 2) (by omega)
  have z1 := size_nth (ds := ds) (i := 1)
  have z2 := size_nth (ds := ds) (i := 2)
  exact ev_andV (ev_call (ea_cons (ev_nth (ev_var rfl) hq hy1) ea_nil) (svS r1 (by omega))) fun _ => ev_call (ea_cons (ev_nth (ev_var rfl) hq hy2) ea_nil) (svS r2 (by omega))
def sp_is_of_key (K : PySem.W.Frag) : Sp := spF fKey K
theorem len_is_of_key {vs : List V} {H : Hp} {Q : VK} {E : XK} (h : sp_is_of_key K vs H Q E) : vs.length = 1 := spF_len h
theorem ok_is_of_key (T : Txt K mg A D) : FnOk P w K mg base CX0 3 A.is_of_key D.is_of_key ["value"] (sp_is_of_key K) := by
  have G_is_key : FnOk P w K mg base CX0 2 A.is_key D.is_key ["value"] (sp_is_key K) := ok_is_key T
  refine T.F_is_of_key.ok sc_is_of_key (fun vs H Q E h => len_is_of_key h) (fun cdv A0 outer s H vs Q E hr h => ?_)
  refine ⟨_, (pss_one (ps_ret (pe_and (pe_cmpR op_eq (pe_callB call_len (by rfl) T.b_len (by decide +kernel) (pa_cons (pv 0) pa_nil)) pe_int (nomark _)) (pe_one (pe_call G_is_key (hr.mono (by decide)) rfl T.g_is_key T.F_is_key.kp T.b_is_key .nil pass0 (pa_cons (pe_ix ix_tup (pv 0) pe_int (fun _ _ => rfl)) pa_nil)))))), ?_⟩
  obtain ⟨x, ds, rfl, hx, hs, k⟩ := h
  obtain ⟨a, xs, rfl, hq, hr1⟩ := hx.tupI
  refine s_ret (ev_andV (ev_lenIs (n := 2) (ev_var rfl) hq hr1) fun h0 => ?_) fun H2 e2 => k H2 e2
  have hl := of_decide_eq_true h0
  obtain ⟨y1, hy1, r1⟩ := rp_nth hr1 (i := 1) (by omega)
  have z1 := size_nth (ds := ds) (i := 1)
  exact ev_call (ea_cons (ev_nth (ev_var rfl) hq hy1) ea_nil) (svS r1 (by omega))
def sp_is_add (K : PySem.W.Frag) : Sp := spF fAdd K
theorem len_is_add {vs : List V} {H : Hp} {Q : VK} {E : XK} (h : sp_is_add K vs H Q E) : vs.length = 1 := spF_len h
theorem ok_is_add (T : Txt K mg A D) : FnOk P w K mg base CX0 4 A.is_add D.is_add ["value"] (sp_is_add K) := by
  have G_is_key : FnOk P w K mg base CX0 2 A.is_key D.is_key ["value"] (sp_is_key K) := ok_is_key T
  have G_is_short_number : FnOk P w K mg base CX0 3 A.is_short_number D.is_short_number ["value"] (sp_is_short_number K) := ok_is_short_number T
  refine T.F_is_add.ok sc_is_add (fun vs H Q E h => len_is_add h) (fun cdv A0 outer s H vs Q E hr h => ?_)
  refine ⟨_, (pss_one (ps_ret (pe_and (pe_cmpR op_eq (pe_callB call_len (by rfl) T.b_len (by decide +kernel) (pa_cons (pv 0) pa_nil)) pe_int (nomark _)) (pe_and (pe_call G_is_key (hr.mono (by decide)) rfl T.g_is_key T.F_is_key.kp T.b_is_key .nil pass0 (pa_cons (pe_ix ix_tup (pv 0) pe_int (fun _ _ => rfl)) pa_nil)) (pe_one (pe_call G_is_short_number (hr.mono (by decide)) rfl T.g_is_short_number T.F_is_short_number.kp T.b_is_short_number .nil pass0 (pa_cons (pe_ix ix_tup (pv 0) pe_int (fun _ _ => rfl)) pa_nil))))))), ?_⟩
  obtain ⟨x, ds, rfl, hx, hs, k⟩ := h
  obtain ⟨a, xs, rfl, hq, hr1⟩ := hx.tupI
  refine s_ret (ev_andV (ev_lenIs (n := 3) (ev_var rfl) hq hr1) fun h0 => ?_) fun H2 e2 => k H2 e2
  have hl := of_decide_eq_true h0
  obtain ⟨y1, hy1, r1⟩ := rp_nth hr1 (i := 1) (by omega)
  obtain ⟨y2, hy2, r2⟩ := rp_nth hr1 (i := 2) (by omega)
  have z1 := size_nth (ds := ds) (i := 1)
  exact ev_andV (ev_call (ea_cons (ev_nth (ev_var rfl) hq hy1) ea_nil) (svS r1 (by omega))) fun _ => ev_call (ea_cons (ev_nth (ev_var rfl) hq hy2) ea_nil) (sv1 r2)
def sp_is_swap (K : PySem.W.Frag) : Sp := spF fSwap K
theorem len_is_swap {vs : List V} {H : Hp} {Q : VK} {E : XK} (h : sp_is_swap K vs H Q E) : vs.length = 1 := spF_len h
theorem ok_is_swap (T : Txt K mg A D) : FnOk P w K mg base CX0 6 A.is_swap D.is_swap ["value"] (sp_is_swap K) := by
  have G_is_key : FnOk P w K mg base CX0 2 A.is_key D.is_key ["value"] (sp_is_key K) := ok_is_key T
  have G_is_worth : FnOk P w K mg base CX0 5 A.is_worth D.is_worth ["value"] (sp_is_worth K) := ok_is_worth T
  refine T.F_is_swap.ok sc_is_swap (fun vs H Q E h => len_is_swap h) (fun cdv A0 outer s H vs Q E hr h => ?_)
  refine ⟨_, (pss_one (ps_ret (pe_and (pe_cmpR op_eq (pe_callB call_len (by rfl) T.b_len (by decide +kernel) (pa_cons (pv 0) pa_nil)) pe_int (nomark _)) (pe_and (pe_call G_is_key (hr.mono (by decide)) rfl T.g_is_key T.F_is_key.kp T.b_is_key .nil pass0 (pa_cons (pe_ix ix_tup (pv 0) pe_int (fun _ _ => rfl)) pa_nil)) (pe_and (pe_call G_is_worth (hr.mono (by decide)) rfl T.g_is_worth T.F_is_worth.kp T.b_is_worth .nil pass0 (pa_cons (pe_ix ix_tup (pv 0) pe_int (fun _ _ => rfl)) pa_nil)) (pe_one (pe_call G_is_worth (hr.mono (by decide)) rfl T.g_is_worth T.F_is_worth.kp T.b_is_worth .nil pass0 (pa_cons (pe_ix ix_tup (pv 0) pe_int (fun _ _ => rfl)) pa_nil)))))))), ?_⟩
  obtain ⟨x, ds, rfl, hx, hs, k⟩ := h
  obtain ⟨a, xs, rfl, hq, hr1⟩ := hx.tupI
  refine s_ret (ev_andV (ev_lenIs (n := 4) (ev_var rfl) hq hr1) fun h0 => ?_) fun H2 e2 => k H2 e2
  have hl := of_decide_eq_true h0
  obtain ⟨y1, hy1, r1⟩ := rp_nth hr1 (i := 1) (by omega)
  obtain ⟨y2, hy2, r2⟩ := rp_nth hr1 (i := 2) (by omega)
  obtain ⟨y3, hy3, r3⟩ := rp_nth hr1 (i := 3) (by omega)
  have z1 := size_nth (ds := ds) (i := 1)
  have z2 := size_nth (ds := ds) (i := 2)
  have z3 := size_nth (ds := ds) (i := 3)
  exact ev_andV (ev_call (ea_cons (ev_nth (ev_var rfl) hq hy1) ea_nil) (svS r1 (by omega))) fun _ => ev_andV (ev_call (ea_cons (ev_nth (ev_var rfl) hq hy2) ea_nil) (svS r2 (by omega))) fun _ => ev_call (ea_cons (ev_nth (ev_var rfl) hq hy3) ea_nil) (svS r3 (by omega))
def sp_is_list (K : PySem.W.Frag) : Sp := spF fList K
theorem len_is_list {vs : List V} {H : Hp} {Q : VK} {E : XK} (h : sp_is_list K vs H Q E) : vs.length = 1 := spF_len h
theorem ok_is_list (T : Txt K mg A D) : FnOk P w K mg base CX0 3 A.is_list D.is_list ["value"] (sp_is_list K) := by
  have G_is_key : FnOk P w K mg base CX0 2 A.is_key D.is_key ["value"] (sp_is_key K) := ok_is_key T
  refine T.F_is_list.ok sc_is_list (fun vs H Q E h => len_is_list h) (fun cdv A0 outer s H vs Q E hr h => ?_)
  refine ⟨_, (pss_one (ps_ret (pe_and (pe_cmpR op_eq (pe_callB call_len (by rfl) T.b_len (by decide +kernel) (pa_cons (pv 0) pa_nil)) pe_int (nomark _)) (pe_and (pe_call G_is_key (hr.mono (by decide)) rfl T.g_is_key T.F_is_key.kp T.b_is_key .nil pass0 (pa_cons (pe_ix ix_tup (pv 0) pe_int (fun _ _ => rfl)) pa_nil)) (pe_one (pe_call G_is_key (hr.mono (by decide)) rfl T.g_is_key T.F_is_key.kp T.b_is_key .nil pass0 (pa_cons (pe_ix ix_tup (pv 0) pe_int (fun _ _ => rfl)) pa_nil))))))), ?_⟩
  obtain ⟨x, ds, rfl, hx, hs, k⟩ := h
  obtain ⟨a, xs, rfl, hq, hr1⟩ := hx.tupI
  refine s_ret (ev_andV (ev_lenIs (n := 3) (ev_var rfl) hq hr1) fun h0 => ?_) fun H2 e2 => k H2 e2
  have hl := of_decide_eq_true h0
  obtain ⟨y1, hy1, r1⟩ := rp_nth hr1 (i := 1) (by omega)
  obtain ⟨y2, hy2, r2⟩ := rp_nth hr1 (i := 2) (by omega)
  have z1 := size_nth (ds := ds) (i := 1)
  have z2 := size_nth (ds := ds) (i := 2)
  exact ev_andV (ev_call (ea_cons (ev_nth (ev_var rfl) hq hy1) ea_nil) (svS r1 (by omega))) fun _ => ev_call (ea_cons (ev_nth (ev_var rfl) hq hy2) ea_nil) (svS r2 (by omega))
def sp_has_lot_size (K : PySem.W.Frag) : Sp := sp1 K0.D.lotSize K
theorem len_has_lot_size {vs : List V} {H : Hp} {Q : VK} {E : XK} (h : sp_has_lot_size K vs H Q E) : vs.length = 1 := sp1_len h
theorem ok_has_lot_size (T : Txt K mg A D) : FnOk P w K mg base CX0 1 A.has_lot_size D.has_lot_size ["value"] (sp_has_lot_size K) := by
  obtain ⟨t_MAX_LOT, c_MAX_LOT⟩ := T.c_MAX_LOT
  refine T.F_has_lot_size.ok sc_has_lot_size (fun vs H Q E h => len_has_lot_size h) (fun cdv A0 outer s H vs Q E hr h => ?_)
  refine ⟨_, (pss_one (ps_ret (pe_and (pe_callB call_isi (by rfl) T.b_isinstance (by decide +kernel) (pa_cons (pv 0) (pa_cons (pe_bltn (v := .ty "tuple") (u := .type "tuple") (by rfl) T.b_tuple (by decide +kernel) rfl) pa_nil))) (pe_one (pe_chain op_le op_le pe_int (pe_callB call_len (by rfl) T.b_len (by decide +kernel) (pa_cons (pv 0) pa_nil)) (pe_glob (v := .int (6)) rfl c_MAX_LOT ⟨_, rfl⟩)))))), ?_⟩
  obtain ⟨x, d, rfl, hx, k⟩ := h
  refine s_ret (ev_is (ev_andV (a := d.isTup) (b := d.lotSize) (ev_cb (ea_cons (ev_var rfl) (ea_cons ev_c ea_nil)) (rc_tup hx)) fun hb => ?_) ?_) fun H2 e2 => k H2 e2
  · obtain ⟨a, xs, ds, rfl, rfl, hq, hr1⟩ := hx.isT hb
    refine ev_is (ev_chain_le (i := 1) (j := (xs.length : Nat)) (k := 6) ev_c (ev_cb (ea_cons (ev_var rfl) ea_nil) (rc_lenT hq)) ev_c) ?_
    rw [hr1.len]
    show V.bl _ = V.bl (decide (1 ≤ ds.length) && decide (ds.length ≤ 6))
    congr 2
    · exact decide_eq_decide.mpr (by omega)
    · exact decide_eq_decide.mpr (by omega)
  · cases d <;> first | rfl | (show V.bl (true && _) = V.bl _; rw [Bool.true_and])
def sp_is_of_circle (K : PySem.W.Frag) : Sp := spF fCirc K
theorem len_is_of_circle {vs : List V} {H : Hp} {Q : VK} {E : XK} (h : sp_is_of_circle K vs H Q E) : vs.length = 1 := spF_len h
theorem ok_is_of_circle (T : Txt K mg A D) : FnOk P w K mg base CX0 5 A.is_of_circle D.is_of_circle ["value"] (sp_is_of_circle K) := by
  have G_is_circle : FnOk P w K mg base CX0 4 A.is_circle D.is_circle ["value"] (sp_is_circle K) := ok_is_circle T
  refine T.F_is_of_circle.ok sc_is_of_circle (fun vs H Q E h => len_is_of_circle h) (fun cdv A0 outer s H vs Q E hr h => ?_)
  refine ⟨_, (pss_one (ps_ret (pe_and (pe_cmpR op_eq (pe_callB call_len (by rfl) T.b_len (by decide +kernel) (pa_cons (pv 0) pa_nil)) pe_int (nomark _)) (pe_one (pe_call G_is_circle (hr.mono (by decide)) rfl T.g_is_circle T.F_is_circle.kp T.b_is_circle .nil pass0 (pa_cons (pe_ix ix_tup (pv 0) pe_int (fun _ _ => rfl)) pa_nil)))))), ?_⟩
  obtain ⟨x, ds, rfl, hx, hs, k⟩ := h
  obtain ⟨a, xs, rfl, hq, hr1⟩ := hx.tupI
  refine s_ret (ev_andV (ev_lenIs (n := 2) (ev_var rfl) hq hr1) fun h0 => ?_) fun H2 e2 => k H2 e2
  have hl := of_decide_eq_true h0
  obtain ⟨y1, hy1, r1⟩ := rp_nth hr1 (i := 1) (by omega)
  have z1 := size_nth (ds := ds) (i := 1)
  exact ev_call (ea_cons (ev_nth (ev_var rfl) hq hy1) ea_nil) (svS r1 (by omega))
end
end K0

namespace K0
open PySem L2 Evl
section
variable {K : PySem.W.Frag} {w : World} {σ : L2.St} {H : Hp} {t : TA} {vs : List V} {z : V}
def rNik (K : PySem.W.Frag) (d : Addr) : R2 := fun x y H Q => ∃ (z : Str) (r : Option Value), x = V.str z ∧ y = V.ref d ∧ PySem.W.nsIn K d z = some r ∧ Q (.bl (!r.isSome)) H
theorem rv_nik {d : Addr} {s : Str} {r : Option Value} (h : PySem.W.nsIn K d s = some r) : RV (rNik K d) (.str s) (.ref d) H (.bl (!r.isSome)) := fun H1 _ Q q => ⟨s, r, rfl, rfl, h, q H1 (Ex.refl _)⟩
theorem rv_kd {d f : Addr} {s : Str} {es : Array DictEntry} {n : Nat} (D : KDict K w d es n) (h : PySem.W.nsIn K d s = some (some (.ref f))) : RV (rIxD K w) (.ref d) (.str s) H (.ref f) := fun H1 _ Q q => ⟨d, s, .ref f, rfl, rfl, ⟨es, n, _, D.at_, D.lit, h, rfl⟩, q H1 (Ex.refl _)⟩
theorem ev_callS {SS : List (Addr × Sp)} {i : Nat} {p : Addr × Sp} (hp : p ∈ SS) (hs : σ[i]? = some (some (.ref p.1))) (h : EvA t σ H vs) (hsp : SpV p.2 vs H z) : Ev (tCallS i SS t) σ H z := fun H1 e Q q =>
  ⟨p, hp, hs, h H1 e _ fun H2 e2 => hsp H2 (e.trans e2) Q (fun H3 e3 => q H3 (e2.trans e3)) _⟩
/-- the same with what may change -/
theorem c_callS {SS : List (Addr × Sp)} {i : Nat} {p : Addr × Sp} {Q : VK} (hp : p ∈ SS) (hs : σ[i]? = some (some (.ref p.1))) (h : EvA t σ H vs) (k : ∀ H1, Ex H H1 → p.2 vs H1 Q fun _ _ _ => False) : tCallS i SS t σ H Q := ⟨p, hp, hs, h H (Ex.refl H) _ k⟩
end
section
variable {P : Program} {w : World} {K : PySem.W.Frag} {mg : Str → Option Value} {base : Heap} {A : Ad} {D : Fd}
def loSS (K : PySem.W.Frag) (A : Ad) : List (Addr × Sp) := [(A.is_put, sp_is_put K), (A.is_of_key, sp_is_of_key K), (A.is_add, sp_is_add K), (A.is_swap, sp_is_swap K)]
/-- a deed for lots -/
def sp_is_deed0 (K : PySem.W.Frag) : Sp := fun vs H Q _ => ∃ x d, vs = [x] ∧ Rp K H x d ∧ d.size ≤ 29000 ∧ isLot d.wordO = true ∧ RetV (.bl d.lone) H Q
theorem len_is_deed0 {vs : List V} {H : Hp} {Q : VK} {E : XK} (h : sp_is_deed0 K vs H Q E) : vs.length = 1 := by
  obtain ⟨x, d, rfl, _⟩ := h
  rfl
theorem word_tup {d : K0.D} {s : Str} (h : d.wordO = some s) : ∃ r, d = .tup (.str s :: r) := by
  cases d with
  | tup ds =>
    cases ds with
    | nil => cases h
    | cons a r =>
      cases a with
      | str s' => exact ⟨r, by cases h; rfl⟩
      | _ => cases h
  | _ => cases h
theorem loneF_put (ds : List K0.D) : loneF "put" ds = fPut ds := by
  unfold loneF
  rw [if_pos rfl]
theorem loneF_drop (ds : List K0.D) : loneF "drop" ds = fKey ds := by
  unfold loneF
  rw [if_neg (by decide +kernel), if_pos rfl]
theorem loneF_get (ds : List K0.D) : loneF "get" ds = fKey ds := by
  unfold loneF
  rw [if_neg (by decide +kernel), if_neg (by decide +kernel), if_pos rfl]
theorem loneF_add (ds : List K0.D) : loneF "add" ds = fAdd ds := by
  unfold loneF
  rw [if_neg (by decide +kernel), if_neg (by decide +kernel), if_neg (by decide +kernel), if_pos rfl]
theorem loneF_swap (ds : List K0.D) : loneF "swap" ds = fSwap ds := by
  unfold loneF
  rw [if_neg (by decide +kernel), if_neg (by decide +kernel), if_neg (by decide +kernel), if_neg (by decide +kernel), if_pos rfl]
theorem sv_is {sp : Sp} {vs : List V} {H : Hp} {a b : Bool} (h : SpV sp vs H (.bl a)) (e : b = a) : SpV sp vs H (.bl b) := e ▸ h
theorem lot_cases {s : Str} (h : isLot (some s) = true) : s = "put" ∨ s = "drop" ∨ s = "get" ∨ s = "add" ∨ s = "swap" := by
  have : s ∈ lotWords := List.elem_iff.mp h
  simpa [lotWords] using this
theorem ok_is_deed0 (T : Txt K mg A D) (U : Tab K w mg A) : FnOk P w K mg base CX0 16 A.is_deed D.is_deed ["value"] (sp_is_deed0 K) := by
  have G_word_of : FnOk P w K mg base CX0 1 A.word_of D.word_of ["value"] (sp_word_of K) := ok_word_of T
  obtain ⟨a_DEED_FORMS, g_DEED_FORMS, _, _, kd_DEED_FORMS, nx_DEED_FORMS⟩ := U.d_DEED_FORMS
  have held : ∀ q ∈ loSS K A, Held P w K mg base 15 q.1 q.2 := by
    intro q hq
    simp only [loSS, List.mem_cons, List.not_mem_nil, or_false] at hq
    rcases hq with rfl | rfl | rfl | rfl
    · exact ⟨_, _, (ok_is_put T).mono (by decide), T.F_is_put.kp, T.b_is_put⟩
    · exact ⟨_, _, (ok_is_of_key T).mono (by decide), T.F_is_of_key.kp, T.b_is_of_key⟩
    · exact ⟨_, _, (ok_is_add T).mono (by decide), T.F_is_add.kp, T.b_is_add⟩
    · exact ⟨_, _, (ok_is_swap T).mono (by decide), T.F_is_swap.kp, T.b_is_swap⟩
  refine T.F_is_deed.ok sc_is_deed (fun vs H Q E h => len_is_deed0 h) (fun cdv A0 outer s H vs Q E hr h => ?_)
  refine ⟨_, (pss_cons (ps_set (i := 1) sc_is_deed.nd rfl (Or.inl rfl) (pe_call G_word_of (hr.mono (by decide)) rfl T.g_word_of T.F_word_of.kp T.b_word_of .nil pass0 (pa_cons (pv 0) pa_nil)))
  (pss_cons (ps_if (pt_cmpR (op_notIn_kd kd_DEED_FORMS) (pv 1) (pe_glob (v := .ref a_DEED_FORMS) rfl g_DEED_FORMS rfl) (by rfl)) (pss_one (ps_ret pe_bl)) pss_nil)
  (pss_cons (ps_set (i := 2) sc_is_deed.nd rfl (Or.inl rfl) (pe_ix ix_kdict (pe_glob (v := .ref a_DEED_FORMS) rfl g_DEED_FORMS rfl) (pv 1) (fun _ _ => rfl)))
  (pss_one (ps_ret (pe_callS (i := 2) held hr rfl (Or.inl rfl) (pa_cons (pv 0) pa_nil))))))), ?_⟩
  obtain ⟨x, d, rfl, hx, hs, hw, k⟩ := h
  cases hwo : d.wordO with
  | none => rw [hwo] at hw; cases hw
  | some s =>
  rw [hwo] at hw
  obtain ⟨r, rfl⟩ := word_tup hwo
  have hs2 : K0.D.sizeL (K0.D.str s :: r) ≤ 29000 := by
    simp only [K0.D.size] at hs
    omega
  refine q_asg (v := .str s) (ev_call (ea_cons (ev_var rfl) ea_nil) (sv_word hx (by omega))) fun H1 e1 => ?_
  have got : ∃ f sp, (f, sp) ∈ loSS K A ∧ PySem.W.nsIn K a_DEED_FORMS s = some (some (.ref f)) ∧ SpV sp [x] H (.bl (K0.D.tup (.str s :: r)).lone) := by
    rcases lot_cases hw with rfl | rfl | rfl | rfl | rfl
    · exact ⟨A.is_put, sp_is_put K, by simp [loSS], nx_DEED_FORMS "put", sv_is (svF (f := fPut) hx hs2) (loneF_put _)⟩
    · exact ⟨A.is_of_key, sp_is_of_key K, by simp [loSS], nx_DEED_FORMS "drop", sv_is (svF (f := fKey) hx hs2) (loneF_drop _)⟩
    · exact ⟨A.is_of_key, sp_is_of_key K, by simp [loSS], nx_DEED_FORMS "get", sv_is (svF (f := fKey) hx hs2) (loneF_get _)⟩
    · exact ⟨A.is_add, sp_is_add K, by simp [loSS], nx_DEED_FORMS "add", sv_is (svF (f := fAdd) hx hs2) (loneF_add _)⟩
    · exact ⟨A.is_swap, sp_is_swap K, by simp [loSS], nx_DEED_FORMS "swap", sv_is (svF (f := fSwap) hx hs2) (loneF_swap _)⟩
  obtain ⟨f, sp, hm, hn, hv⟩ := got
  refine q_when (b := false) (et_test (ev_op (ev_var rfl) ev_c (rv_nik hn))) (fun z => by cases z) fun _ H2 e2 => ?_
  refine q_asg (ev_op ev_c (ev_var rfl) (rv_kd kd_DEED_FORMS hn)) fun H3 e3 => ?_
  exact s_ret (ev_callS (p := (f, sp)) hm rfl (ea_cons (ev_var rfl) ea_nil) fun H4 e4 Q q E => hv H4 (((e1.trans e2).trans e3).trans e4) Q q E) fun H4 e4 => k H4 (((e1.trans e2).trans e3).trans e4)
end
end K0

namespace K0
open PySem L2 Evl
section
variable {P : Program} {w : World} {K : PySem.W.Frag} {mg : Str → Option Value} {base : Heap} {A : Ad} {D : Fd}
def sp_is_all (K : PySem.W.Frag) : Sp := spF fAll K
theorem len_is_all {vs : List V} {H : Hp} {Q : VK} {E : XK} (h : sp_is_all K vs H Q E) : vs.length = 1 := spF_len h
def lotV : List V := [.str "put", .str "drop", .str "get", .str "add", .str "swap"]
theorem inV_strs (x : Str) : ∀ ws : List Str, inV (.str x) (ws.map V.str) = ws.contains x
  | [] => rfl
  | w :: r => by
    have ih := inV_strs x r
    unfold inV at ih ⊢
    rw [List.map_cons, List.any_cons, ih, List.contains_cons]
    congr 1
    show (w == x) = (x == w)
    exact Bool.eq_iff_iff.mpr ⟨fun h => by rw [beq_iff_eq] at h ⊢; exact h.symm, fun h => by rw [beq_iff_eq] at h ⊢; exact h.symm⟩
theorem inV_none : ∀ ws : List Str, inV .non (ws.map V.str) = false
  | [] => rfl
  | w :: r => by
    have ih := inV_none r
    unfold inV at ih ⊢
    rw [List.map_cons, List.any_cons, ih]
    rfl
theorem inV_lot (o : Option Str) : inV (wV o) lotV = isLot o := by
  cases o with
  | none => exact inV_none lotWords
  | some s => exact inV_strs s lotWords
theorem op_in_seqK {X : Cx} {K : PySem.W.Frag} (h : X.K = K) : OpR X (compareOp .In) (rIn K false) := h ▸ op_in_seq
theorem ok_is_all (T : Txt K mg A D) (U : Tab K w mg A) : FnOk P w K mg base CX0 20 A.is_all D.is_all ["value"] (sp_is_all K) := by
  have G_has_lot_size : FnOk P w K mg base CX0 1 A.has_lot_size D.has_lot_size ["value"] (sp_has_lot_size K) := ok_has_lot_size T
  have G_word_of : FnOk P w K mg base CX0 1 A.word_of D.word_of ["value"] (sp_word_of K) := ok_word_of T
  have G_is_deed := ok_is_deed0 (P := P) (base := base) T U
  obtain ⟨a_LOT_WORDS, g_LOT_WORDS, d_LOT_WORDS⟩ := T.t_LOT_WORDS
  refine T.F_is_all.ok sc_is_all (fun vs H Q E h => len_is_all h) (fun cdv A0 outer s H vs Q E hr h => ?_)
  refine ⟨_, (pss_cons (ps_if (PW.pt (pw_or (pt_cmpR op_ne (pe_callB call_len (by rfl) T.b_len (by decide +kernel) (pa_cons (pv 0) pa_nil)) pe_int (nomark _)) (pw_or1 (pt_not (pt_val (pe_call G_has_lot_size (hr.mono (by decide)) rfl T.g_has_lot_size T.F_has_lot_size.kp T.b_has_lot_size .nil pass0 (pa_cons (pe_ix ix_tup (pv 0) pe_int (fun _ _ => rfl)) pa_nil))))))) (pss_one (ps_ret pe_bl)) pss_nil)
  (pss_one (ps_ret (pe_callB (cr_all rfl) (by rfl) T.b_all (by decide +kernel) (pa_cons (pe_lc (own := [("part", 1)]) (g := gName 1) (tt := tYes) rfl sc_is_all.nd (pi_tup (pe_ix ix_tup (pv 0) pe_int (fun _ _ => rfl))) (blkOk_by (own := [("part", 1)]) (N := N_is_all) (sc := defScope s_is_all) (by decide +kernel)) (fun _ _ _ _ _ => by exact pg_name (i := 1) sc_is_all.nd rfl (Or.inl rfl)) (fun _ _ _ _ _ => by exact pts_nil) (fun _ _ _ _ _ => by exact (pe_and (pe_cmpR (op_in_seqK (K := K) (by rfl)) (pe_call G_word_of (hr.mono (by decide)) rfl T.g_word_of T.F_word_of.kp T.b_word_of .nil pass0 (pa_cons (pv 1) pa_nil)) (pe_glob (v := .ref a_LOT_WORDS) rfl g_LOT_WORDS rfl) (by rfl)) (pe_one (pe_call G_is_deed (hr.mono (by decide)) rfl T.g_is_deed T.F_is_deed.kp T.b_is_deed .nil pass0 (pa_cons (pv 1) pa_nil)))))) pa_nil))))), ?_⟩
  obtain ⟨x, ds, rfl, hx, hs, k⟩ := h
  obtain ⟨a, xs, rfl, hq, hr1⟩ := hx.tupI
  refine q_when (b := !(decide (ds.length = 2) && (nth ds 1).lotSize)) (et_is (et_or (a := !decide (ds.length = 2)) (b := !(nth ds 1).lotSize) (et_is (et_test (ev_op (ev_cb (ea_cons (ev_var rfl) ea_nil) (rc_lenT hq)) ev_c (rv_ne rfl))) ?_) fun h0 => ?_) ?_) (fun hb H1 e1 => ?_) (fun hb H1 e1 => ?_)
  · rw [hr1.len]
    congr 1
    exact decide_eq_decide.mpr ⟨fun h => by have := V.int.inj h; omega, fun h => by rw [h]; rfl⟩
  · have hl : ds.length = 2 := by
      cases q : decide (ds.length = 2) with
      | true => exact of_decide_eq_true q
      | false => rw [q] at h0; cases h0
    obtain ⟨y1, hy1, r1⟩ := rp_nth hr1 (i := 1) (by omega)
    exact et_not (et_B (ev_call (ea_cons (ev_nth (ev_var rfl) hq hy1) ea_nil) (sv1 r1)))
  · cases decide (ds.length = 2) <;> cases (nth ds 1).lotSize <;> rfl
  · refine s_ret ev_c fun H2 e2 => ?_
    have := k H2 (e1.trans e2)
    have hf : fAll ds = false := by
      unfold fAll
      rw [← Bool.and_assoc]
      cases q : (decide (ds.length = 2) && (nth ds 1).lotSize) with
      | false => rfl
      | true => rw [q] at hb; cases hb
    rw [hf] at this
    exact this
  · have hb' : (decide (ds.length = 2) && (nth ds 1).lotSize) = true := by
      cases q : (decide (ds.length = 2) && (nth ds 1).lotSize) with
      | true => rfl
      | false => rw [q] at hb; cases hb
    have hb2 := Bool.and_eq_true_iff.mp hb'
    have hl := of_decide_eq_true hb2.1
    obtain ⟨y1, hy1, r1⟩ := rp_nth hr1 (i := 1) (by omega)
    have z1 := size_nth (ds := ds) (i := 1)
    obtain ⟨b, ys, es, e0, rfl, hqb, hrb⟩ := r1.isT (by
      cases q : nth ds 1 <;> first | rfl | (have := hb2.2; rw [q] at this; cases this))
    have hlen := hrb.len
    have zl := sizeL_len es
    have zz : K0.D.sizeL es ≤ 29000 := by
      rw [e0] at z1
      simp only [K0.D.size] at z1
      omega
    refine s_ret (ev_is (ev_all (bs := (List.range ys.length).map fun i => (isLot (es.getD i .non).wordO && (es.getD i .non).lone)) ?_) ?_) fun H2 e2 => k H2 (e1.trans e2)
    · rw [List.map_map, ← given_map (f := fun _ => true) (fun _ => rfl)]
      refine el_lcT (fun _ => true) _ (ev_nth (ev_var rfl) (ex_t e1 hq) hy1) (ex_t e1 hqb) (by omega) (fun _ => rfl) (fun i y H3 e3 hy => et_yes) (fun i y H3 e3 hy _ => ?_)
      obtain ⟨d, hd, hrp⟩ := RpAll.get _ _ _ _ (hrb.ex (e1.trans e3)) hy
      have hsz := size_mem (List.mem_of_getElem? hd)
      refine ev_is (ev_andV (a := isLot d.wordO) (b := d.lone) (ev_is (ev_op (ev_call (ea_cons (ev_var rfl) ea_nil) (sv_word hrp (by omega))) ev_c (rv_isT (xs := lotV) (d_LOT_WORDS _) ?_ (by decide +kernel))) (congrArg V.bl (inV_lot _))) fun hw => ev_call (ea_cons (ev_var rfl) ea_nil) fun H4 e4 Q4 q4 E4 => ⟨_, d, rfl, hrp.ex e4, by omega, hw, q4⟩) ?_
      · cases d.wordO <;> rfl
      · show V.bl (isLot d.wordO && d.lone) = V.bl (isLot (es.getD i .non).wordO && (es.getD i .non).lone)
        rw [gd_some hd]
    · rw [List.all_map, hlen]
      show V.bl ((List.range es.length).all fun i => isLot (es.getD i .non).wordO && (es.getD i .non).lone) = V.bl (fAll ds)
      unfold fAll
      rw [e0, all_getD es fun d => isLot d.wordO && d.lone, hb2.1]
      have : (K0.D.tup es).lotSize = true := by rw [← e0]; exact hb2.2
      rw [this]
      rfl
end
end K0

namespace K0
open PySem L2 Evl
section
variable {P : Program} {w : World} {K : PySem.W.Frag} {mg : Str → Option Value} {base : Heap} {A : Ad} {D : Fd}
def hiSS (K : PySem.W.Frag) (A : Ad) : List (Addr × Sp) := loSS K A ++ [(A.is_list, sp_is_list K), (A.is_all, sp_is_all K), (A.is_of_circle, sp_is_of_circle K)]
def deedWords : List Str := ["put", "drop", "get", "add", "swap", "list", "all", "circle"]
theorem deedF_list (ds : List K0.D) : deedF "list" ds = fList ds := by
  unfold deedF
  rw [if_pos rfl]
theorem deedF_all (ds : List K0.D) : deedF "all" ds = fAll ds := by
  unfold deedF
  rw [if_neg (by decide +kernel), if_pos rfl]
theorem deedF_circle (ds : List K0.D) : deedF "circle" ds = fCirc ds := by
  unfold deedF
  rw [if_neg (by decide +kernel), if_neg (by decide +kernel), if_pos rfl]
theorem deedF_lot {s : Str} (ds : List K0.D) (h : isLot (some s) = true) : deedF s ds = loneF s ds := by
  unfold deedF
  rcases lot_cases h with rfl | rfl | rfl | rfl | rfl <;> rw [if_neg (by decide +kernel), if_neg (by decide +kernel), if_neg (by decide +kernel)]
theorem deedF_not {s : Str} (ds : List K0.D) (h : ¬ s ∈ deedWords) : deedF s ds = false := by
  have hn : ∀ t ∈ deedWords, ¬ (s = t) := fun t ht z => h (z ▸ ht)
  unfold deedF loneF
  rw [if_neg (hn _ (by simp [deedWords])), if_neg (hn _ (by simp [deedWords])), if_neg (hn _ (by simp [deedWords])), if_neg (hn _ (by simp [deedWords])), if_neg (hn _ (by simp [deedWords])), if_neg (hn _ (by simp [deedWords])), if_neg (hn _ (by simp [deedWords])), if_neg (hn _ (by simp [deedWords]))]
theorem lookup_not {s : Str} : ∀ {ts : List (Str × Addr)}, (∀ t ∈ ts, ¬ t.1 = s) → ts.lookup s = none
  | [], _ => rfl
  | t :: r, h => by
    rw [List.lookup_cons]
    have h1 := h t (List.mem_cons_self ..)
    rw [show (s == t.1) = false from beq_eq_false_iff_ne.mpr fun z => h1 z.symm]
    exact lookup_not fun u hu => h u (List.mem_cons_of_mem _ hu)
def sp_is_deed (K : PySem.W.Frag) : Sp := fun vs H Q _ => ∃ x d, vs = [x] ∧ Rp K H x d ∧ d.size ≤ 29000 ∧ d.wordO.isSome = true ∧ RetV (.bl d.deed) H Q
theorem len_is_deed {vs : List V} {H : Hp} {Q : VK} {E : XK} (h : sp_is_deed K vs H Q E) : vs.length = 1 := by
  obtain ⟨x, d, rfl, _⟩ := h
  rfl
theorem sv_deed {H : Hp} {x : V} {d : K0.D} (h : Rp K H x d) (hs : d.size ≤ 29000) (hw : d.wordO.isSome = true) : SpV (sp_is_deed K) [x] H (.bl d.deed) := fun H1 e Q q E => ⟨x, d, rfl, h.ex e, hs, hw, q⟩
theorem ok_is_deed (T : Txt K mg A D) (U : Tab K w mg A) : FnOk P w K mg base CX0 24 A.is_deed D.is_deed ["value"] (sp_is_deed K) := by
  have G_word_of : FnOk P w K mg base CX0 1 A.word_of D.word_of ["value"] (sp_word_of K) := ok_word_of T
  obtain ⟨a_DEED_FORMS, g_DEED_FORMS, _, _, kd_DEED_FORMS, nx_DEED_FORMS⟩ := U.d_DEED_FORMS
  have held : ∀ q ∈ hiSS K A, Held P w K mg base 23 q.1 q.2 := by
    intro q hq
    simp only [hiSS, loSS, List.cons_append, List.nil_append, List.mem_cons, List.not_mem_nil, or_false] at hq
    rcases hq with rfl | rfl | rfl | rfl | rfl | rfl | rfl
    · exact ⟨_, _, (ok_is_put T).mono (by decide), T.F_is_put.kp, T.b_is_put⟩
    · exact ⟨_, _, (ok_is_of_key T).mono (by decide), T.F_is_of_key.kp, T.b_is_of_key⟩
    · exact ⟨_, _, (ok_is_add T).mono (by decide), T.F_is_add.kp, T.b_is_add⟩
    · exact ⟨_, _, (ok_is_swap T).mono (by decide), T.F_is_swap.kp, T.b_is_swap⟩
    · exact ⟨_, _, (ok_is_list T).mono (by decide), T.F_is_list.kp, T.b_is_list⟩
    · exact ⟨_, _, (ok_is_all T U).mono (by decide), T.F_is_all.kp, T.b_is_all⟩
    · exact ⟨_, _, (ok_is_of_circle T).mono (by decide), T.F_is_of_circle.kp, T.b_is_of_circle⟩
  refine T.F_is_deed.ok sc_is_deed (fun vs H Q E h => len_is_deed h) (fun cdv A0 outer s H vs Q E hr h => ?_)
  refine ⟨_, (pss_cons (ps_set (i := 1) sc_is_deed.nd rfl (Or.inl rfl) (pe_call G_word_of (hr.mono (by decide)) rfl T.g_word_of T.F_word_of.kp T.b_word_of .nil pass0 (pa_cons (pv 0) pa_nil)))
  (pss_cons (ps_if (pt_cmpR (op_notIn_kd kd_DEED_FORMS) (pv 1) (pe_glob (v := .ref a_DEED_FORMS) rfl g_DEED_FORMS rfl) (by rfl)) (pss_one (ps_ret pe_bl)) pss_nil)
  (pss_cons (ps_set (i := 2) sc_is_deed.nd rfl (Or.inl rfl) (pe_ix ix_kdict (pe_glob (v := .ref a_DEED_FORMS) rfl g_DEED_FORMS rfl) (pv 1) (fun _ _ => rfl)))
  (pss_one (ps_ret (pe_callS (i := 2) held hr rfl (Or.inl rfl) (pa_cons (pv 0) pa_nil))))))), ?_⟩
  obtain ⟨x, d, rfl, hx, hs, hw, k⟩ := h
  cases hwo : d.wordO with
  | none => rw [hwo] at hw; cases hw
  | some s =>
  obtain ⟨r, rfl⟩ := word_tup hwo
  have hs2 : K0.D.sizeL (K0.D.str s :: r) ≤ 29000 := by
    simp only [K0.D.size] at hs
    omega
  refine q_asg (v := .str s) (ev_call (ea_cons (ev_var rfl) ea_nil) (sv_word hx (by omega))) fun H1 e1 => ?_
  by_cases hin : s ∈ deedWords
  · have got : ∃ f sp, (f, sp) ∈ hiSS K A ∧ PySem.W.nsIn K a_DEED_FORMS s = some (some (.ref f)) ∧ SpV sp [x] H (.bl (K0.D.tup (.str s :: r)).deed) := by
      have hc : s = "put" ∨ s = "drop" ∨ s = "get" ∨ s = "add" ∨ s = "swap" ∨ s = "list" ∨ s = "all" ∨ s = "circle" := by simpa [deedWords] using hin
      rcases hc with rfl | rfl | rfl | rfl | rfl | rfl | rfl | rfl
      · exact ⟨A.is_put, sp_is_put K, by simp [hiSS, loSS], nx_DEED_FORMS "put", sv_is (svF (f := fPut) hx hs2) ((deedF_lot _ (by decide +kernel)).trans (loneF_put _))⟩
      · exact ⟨A.is_of_key, sp_is_of_key K, by simp [hiSS, loSS], nx_DEED_FORMS "drop", sv_is (svF (f := fKey) hx hs2) ((deedF_lot _ (by decide +kernel)).trans (loneF_drop _))⟩
      · exact ⟨A.is_of_key, sp_is_of_key K, by simp [hiSS, loSS], nx_DEED_FORMS "get", sv_is (svF (f := fKey) hx hs2) ((deedF_lot _ (by decide +kernel)).trans (loneF_get _))⟩
      · exact ⟨A.is_add, sp_is_add K, by simp [hiSS, loSS], nx_DEED_FORMS "add", sv_is (svF (f := fAdd) hx hs2) ((deedF_lot _ (by decide +kernel)).trans (loneF_add _))⟩
      · exact ⟨A.is_swap, sp_is_swap K, by simp [hiSS, loSS], nx_DEED_FORMS "swap", sv_is (svF (f := fSwap) hx hs2) ((deedF_lot _ (by decide +kernel)).trans (loneF_swap _))⟩
      · exact ⟨A.is_list, sp_is_list K, by simp [hiSS, loSS], nx_DEED_FORMS "list", sv_is (svF (f := fList) hx hs2) (deedF_list _)⟩
      · exact ⟨A.is_all, sp_is_all K, by simp [hiSS, loSS], nx_DEED_FORMS "all", sv_is (svF (f := fAll) hx hs2) (deedF_all _)⟩
      · exact ⟨A.is_of_circle, sp_is_of_circle K, by simp [hiSS, loSS], nx_DEED_FORMS "circle", sv_is (svF (f := fCirc) hx hs2) (deedF_circle _)⟩
    obtain ⟨f, sp, hm, hn, hv⟩ := got
    refine q_when (b := false) (et_test (ev_op (ev_var rfl) ev_c (rv_nik hn))) (fun z => by cases z) fun _ H2 e2 => ?_
    refine q_asg (ev_op ev_c (ev_var rfl) (rv_kd kd_DEED_FORMS hn)) fun H3 e3 => ?_
    exact s_ret (ev_callS (p := (f, sp)) hm rfl (ea_cons (ev_var rfl) ea_nil) fun H4 e4 Q q E => hv H4 (((e1.trans e2).trans e3).trans e4) Q q E) fun H4 e4 => k H4 (((e1.trans e2).trans e3).trans e4)
  · have hn : PySem.W.nsIn K a_DEED_FORMS s = some none := by
      rw [nx_DEED_FORMS, lookup_not]
      · rfl
      · intro t ht z
        refine hin ?_
        rw [← z]
        simp only [List.mem_cons, List.not_mem_nil, or_false] at ht
        rcases ht with rfl | rfl | rfl | rfl | rfl | rfl | rfl | rfl <;> simp [deedWords]
    refine q_when (b := true) (et_test (ev_op (ev_var rfl) ev_c (rv_nik hn))) (fun _ H2 e2 => ?_) (fun z => by cases z)
    refine s_ret ev_c fun H3 e3 => ?_
    have := k H3 ((e1.trans e2).trans e3)
    rw [show (K0.D.tup (.str s :: r)).deed = false from deedF_not _ hin] at this
    exact this
def sp_check_deed (K : PySem.W.Frag) : Sp := fun vs H Q _ => ∃ x d, vs = [x] ∧ Rp K H x d ∧ d.size ≤ 29000 ∧ d.wordO.isSome = true ∧ d.deed = true ∧ RetV .non H Q
theorem len_check_deed {vs : List V} {H : Hp} {Q : VK} {E : XK} (h : sp_check_deed K vs H Q E) : vs.length = 1 := by
  obtain ⟨x, d, rfl, _⟩ := h
  rfl
theorem sv_check_deed {H : Hp} {x : V} {d : K0.D} (h : Rp K H x d) (hs : d.size ≤ 29000) (hw : d.wordO.isSome = true) (hd : d.deed = true) : SpV (sp_check_deed K) [x] H .non := fun H1 e Q q E => ⟨x, d, rfl, h.ex e, hs, hw, hd, q⟩
theorem ok_check_deed (T : Txt K mg A D) (U : Tab K w mg A) : FnOk P w K mg base CX0 25 A.check_deed D.check_deed ["deed"] (sp_check_deed K) := by
  have G_is_deed : FnOk P w K mg base CX0 24 A.is_deed D.is_deed ["value"] (sp_is_deed K) := ok_is_deed T U
  refine T.F_check_deed.ok sc_check_deed (fun vs H Q E h => len_check_deed h) (fun cdv A0 outer s H vs Q E hr h => ?_)
  refine ⟨_, (pss_one (ps_if (pt_not (pt_val (pe_call G_is_deed (hr.mono (by decide)) rfl T.g_is_deed T.F_is_deed.kp T.b_is_deed .nil pass0 (pa_cons (pv 0) pa_nil)))) (pss_one ps_never) pss_nil)), ?_⟩
  obtain ⟨x, d, rfl, hx, hs, hw, hd, k⟩ := h
  refine s_when (et_is (et_not (et_B (ev_call (ea_cons (ev_var rfl) ea_nil) (sv_deed hx hs hw)))) (b := false) (by rw [hd]; rfl)) (fun z => by cases z) fun _ H1 e1 => ?_
  exact k H1 e1
/-! ### pairs -/
def PVal (ps : Ps) : Prop := ps.length ≤ 24 ∧ ∀ p ∈ ps, (K0.D.str p.1).key = true ∧ p.2.value = true ∧ p.2.size ≤ 100 ∧ (K0.D.str p.1).size ≤ 100
def sp_lacks_room (K : PySem.W.Frag) : Sp := fun vs H Q _ => ∃ a k ps, vs = [.ref a, .str k] ∧ PairsAt H a ps ∧ RetV (.bl (!hasP ps k && decide (24 ≤ ps.length))) H Q
theorem len_lacks_room {vs : List V} {H : Hp} {Q : VK} {E : XK} (h : sp_lacks_room K vs H Q E) : vs.length = 2 := by
  obtain ⟨a, k, ps, rfl, _⟩ := h
  rfl
theorem ok_lacks_room (T : Txt K mg A D) : FnOk P w K mg base CX0 1 A.lacks_room D.lacks_room ["pairs", "key"] (sp_lacks_room K) := by
  obtain ⟨t_MAX_KEYS, c_MAX_KEYS⟩ := T.c_MAX_KEYS
  refine T.F_lacks_room.ok sc_lacks_room (fun vs H Q E h => len_lacks_room h) (fun cdv A0 outer s H vs Q E hr h => ?_)
  refine ⟨_, (pss_one (ps_ret (pe_and (pe_cmp (pc_dnotin (hu_of hr) (pv 1) (pv 0)) rfl) (pe_one (pe_cmpR op_ge (pe_callB call_lenD (by rfl) T.b_len (by decide +kernel) (pa_cons (pv 0) pa_nil)) (pe_glob (v := .int (24)) rfl c_MAX_KEYS ⟨_, rfl⟩) (nomark _)))))), ?_⟩
  obtain ⟨a, k, ps, rfl, hp, kk⟩ := h
  refine s_ret (ev_andV (ev_pnotin (ev_var rfl) (ev_var rfl) hp) fun _ => ev_is (ev_op (ev_cb (ea_cons (ev_var rfl) ea_nil) (rc_lenP hp)) ev_c rv_I0) ?_) fun H1 e1 => kk H1 e1
  show V.bl (decide ((24 : Int) ≤ (ps.length : Int))) = V.bl (decide (24 ≤ ps.length))
  exact congrArg V.bl (decide_eq_decide.mpr (by omega))
/-- pairs with a key exchanged, or without it -/
def exchP (ps : Ps) (k : Str) : K0.D → Ps
  | .non => dropP ps k
  | d => putP ps k d
def sp_exchanged (K : PySem.W.Frag) : Sp := fun vs H Q _ => ∃ a k ps v d, vs = [.ref a, .str k, v] ∧ PairsAt H a ps ∧ ps.length ≤ 1000 ∧ Rp K H v d ∧ (d.isNon = true ∨ d.isAt = true) ∧ RetP (exchP ps k d) H Q
theorem len_exchanged {vs : List V} {H : Hp} {Q : VK} {E : XK} (h : sp_exchanged K vs H Q E) : vs.length = 3 := by
  obtain ⟨a, k, ps, v, d, rfl, _⟩ := h
  rfl
theorem ok_exchanged (T : Txt K mg A D) : FnOk P w K mg base CX0 1 A.exchanged D.exchanged ["pairs", "key", "worth"] (sp_exchanged K) := by
  refine T.F_exchanged.ok sc_exchanged (fun vs H Q E h => len_exchanged h) (fun cdv A0 outer s H vs Q E hr h => ?_)
  refine ⟨_, (pss_cons (ps_set (i := 3) sc_exchanged.nd rfl (Or.inl rfl) (pe_callTy call_dictD (by rfl) T.b_dict (by decide +kernel) (pa_cons (pv 0) pa_nil)))
  (pss_cons (ps_if (pt_cmpR op_isN (pv 2) pe_non (nomark _)) (pss_one (ps_expr (pe_dpop2 (pv 3) (pv 1) pe_non ⟨by rfl, by rfl, by rfl, by rfl⟩))) (pss_one (ps_dput (hu_of hr) (pv 3) (pv 1) (pv 2) (by rfl))))
  (pss_one (ps_ret (pv 3))))), ?_⟩
  obtain ⟨a, k, ps, v, d, rfl, hp, hl, hv, hd, kk⟩ := h
  refine q_copyP (ev_var rfl) hp fun q qs H1 hq e1 h1 pm => ?_
  have n := hp.no
  have z := hp.at_
  refine q_if (b := d.isNon) (et_is (et_test (ev_op (ev_var rfl) ev_c rv_isN)) hv.isN) (fun hb H2 e2 => ?_) (fun hb H2 e2 => ?_)
  · have e0 : d = .non := by cases d <;> first | rfl | cases hb
    subst e0
    refine s_popP (e2 _ _ h1) (ev_var rfl) (ev_var rfl) ev_c fun H3 e3 => ?_
    refine s_ret (ev_var rfl) fun H4 e4 => kk q H4 ((Ex.mut ((e1.trans e2).trans e3) hq).trans e4) ?_
    exact ⟨_, drop_perm pm k, n.drop k, z.drop k, e4 _ _ upd_same⟩
  · have hat : d.isAt = true := by
      rcases hd with hd | hd
      · rw [hb] at hd; cases hd
      · exact hd
    have ev := rp_atV hat hv
    subst ev
    have ee : exchP ps k d = putP ps k d := by cases d <;> first | rfl | cases hb
    rw [ee] at kk
    refine s_putP (w := d) (e2 _ _ h1) (ev_var rfl) (ev_var rfl) (ev_var rfl) (by rw [pm.length_eq]; omega) fun H3 e3 => ?_
    refine s_ret (ev_var rfl) fun H4 e4 => kk q H4 ((Ex.mut (e1.trans (e2.trans e3)) hq).trans e4) ?_
    exact ⟨_, put_perm pm n k d, n.put k d, z.put hat, e4 _ _ upd_same⟩
end
end K0

namespace K0
open PySem L2 Evl
section
variable {K : PySem.W.Frag} {σ : L2.St} {H : Hp} {te td : TE} {t : TT}
/-- a comprehension while d is locked -/
theorem el_lock {d : Addr} {u : HO} {xs : List V} (hd : H d = some u) (hm : Mut (some u)) (h : ∀ H1 od, Ex H H1 → EvL te σ (upd H1 d (.frz od u)) xs) : EvL (tLockE te) σ H xs := fun H1 e Q q => by
  refine ⟨d, u, e _ _ hd, hm, fun od => h H1 od e _ (Ex.refl _) _ fun p H2 hp e2 h2 => ?_⟩
  have hdl : H2 d = some (.frz od u) := e2 _ _ upd_same
  have npd : p ≠ d := fun z => by
    rw [z, upd_same] at hp
    cases hp
  rw [upd_ne npd] at hp
  refine ⟨hdl, q p _ hp (fun b o hb => ?_) (by rw [upd_ne npd]; exact h2)⟩
  by_cases c : b = d
  · subst c
    rw [upd_same]
    rw [e _ _ hd] at hb
    exact hb
  · rw [upd_ne c]
    exact e2 _ _ (by rw [upd_ne c]; exact hb)
/-- [.. for k, v in d.items()], d locked, without a test -/
theorem el_items {d : Addr} {od : Obj} {kvs : List (Key × V)} {i1 i2 : Nat} {vs : List Nat} (v : Nat → V) (h : Ev td σ H (.ref d)) (hd : H d = some (.frz od (.dK kvs))) (hz : kvs.length ≤ 40000)
    (hw : ∀ x y, wipe (((wipe σ vs).set i1 (some x)).set i2 (some y)) vs = wipe σ vs)
    (he : ∀ (i : Nat) (q : Key × V) H1, Ex H H1 → kvs[i]? = some q → Ev te (((wipe σ vs).set i1 (some (kV q.1))).set i2 (some q.2)) H1 (v i)) :
    EvL (tLc (iItems td) (gTup K 2 (gCons (gName i1) (gCons (gName i2) gNil))) tYes te vs) σ H ((List.range kvs.length).map v) := fun H0 e Q q => h H0 e _ fun H1 e1 => by
  refine ⟨d, od, kvs, rfl, e1 _ _ (e _ _ hd), fun Dl hD => ?_⟩
  have e01 := e.trans e1
  refine lc_it (walk_items (d := d) (o := od) (kvs := kvs)) (Cw H1 (fun _ => true) v Dl) ⟨hD, Ex.new hD, upd_same⟩ (fun i H' _ p => p.2.1 _ _ (e01 _ _ hd)) (fun i x H' H'' hi p yp => ?_) (fun H' p => ?_)
  · obtain ⟨T, a, b, rfl, hT, rfl, ha, hb⟩ := yp
    have hq : kvs[i]? = some kvs[i] := List.getElem?_eq_getElem hi
    have ha' : Option.map (fun kv : Key × V => kV kv.1) kvs[i]? = some a := ha
    have hb' : Option.map Prod.snd kvs[i]? = some b := hb
    rw [hq] at ha' hb'
    cases ha'
    cases hb'
    have hne : Dl ≠ T := ne_of_none p.2.2 hT
    have p' : Cw H1 (fun _ => true) v Dl i (upd H' T (.tup [kV kvs[i].1, kvs[i].2])) := ⟨p.1, p.2.1.trans (Ex.new hT), by rw [upd_ne hne]; exact p.2.2⟩
    refine ⟨T, _, rfl, st_of upd_same, rfl, _, _, rfl, _, _, rfl, rfl, hw _ _, cw_turn p' (by omega) et_yes fun _ => ?_⟩
    exact he i _ H1 e01 hq
  · have := p.2.2
    rw [given_map (fun _ => rfl)] at this
    exact q Dl H' (fresh_back e1 p.1) (e1.trans p.2.1) this
/-- a dict comprehension over a list -/
theorem dc_list {a : Addr} {xs : List V} {g : TG} {tt : TT} {tk tv : TE} {vs : List Nat} {H1 : Hp} {D : Addr} {Qd : Hp → Prop} (Pv : Nat → Hp → Prop) (h0 : Pv 0 (upd H1 D (.dK []))) (hl : ∀ i H, i ≤ xs.length → Pv i H → SqL K H a xs)
    (hs : ∀ i x H, xs[i]? = some x → Pv i H → g x (wipe σ vs) H fun σ2 H2 => wipe σ2 vs = wipe σ vs ∧ tt σ2 H2 fun b H3 =>
      if b = true then tk σ2 H3 fun y H4 => tv σ2 H4 fun z H5 => ∃ kvs k, y = kV k ∧ H5 D = some (.dK kvs) ∧ kvs.length < sizeLine ∧ Pv (i + 1) (upd H5 D (.dK (putK kvs k z))) else Pv (i + 1) H3) (hd : ∀ H, Pv xs.length H → Qd H) :
    ∃ W : Nat → Nat → Hp → Prop, (∃ m, W 0 m (upd H1 D (.dK []))) ∧ ∀ i m H, W i m H → ((Itl K a).stop i H ∧ Qd H) ∨ ((Itl K a).go i H ∧ ∃ Nx : Hp → Prop, (∀ H', Nx H' → ∃ m', m' < m ∧ W (i + 1) m' H') ∧
      ∀ x H', (Itl K a).yld i H x H' → g x (wipe σ vs) H' fun σ2 H2 => wipe σ2 vs = wipe σ vs ∧ tt σ2 H2 fun b H3 => if b = true then tk σ2 H3 fun y H4 => tv σ2 H4 fun z H5 => ∃ kvs k, y = kV k ∧ H5 D = some (.dK kvs) ∧ kvs.length < sizeLine ∧ Nx (upd H5 D (.dK (putK kvs k z))) else Nx H3) := by
  refine ⟨fun i m H => m = xs.length - i ∧ i ≤ xs.length ∧ Pv i H, ⟨_, rfl, Nat.zero_le _, h0⟩, ?_⟩
  rintro i m H ⟨rfl, hi, p⟩
  have sq := hl i H hi p
  by_cases lt : i < xs.length
  · refine .inr ⟨walk_list.goes i H lt sq, Pv (i + 1), fun H' p' => ⟨xs.length - (i + 1), by omega, rfl, lt, p'⟩, fun x H' y => ?_⟩
    obtain ⟨e1, e2⟩ := walk_list.yields i H x H' lt sq y
    subst e1
    exact hs i x _ e2 p
  · obtain rfl : i = xs.length := by omega
    exact .inl ⟨walk_list.stops H sq, hd H p⟩
end
theorem keys_kv (ps : Ps) : (kv ps).map (·.1) = (keysP ps).map Sum.inr := by
  unfold kv keysP
  rw [List.map_map, List.map_map]
  rfl
/-- the pairs with these keys -/
def pick (ps : Ps) (ys : List Str) : Ps := ys.map fun k => (k, (lookP ps k).getD .non)
theorem pick_keys (ps : Ps) (ys : List Str) : keysP (pick ps ys) = ys := by
  unfold keysP pick
  rw [List.map_map]
  exact List.map_id' ys
theorem pick_self {ps : Ps} (n : NoTwo ps) : pick ps (keysP ps) = ps := by
  unfold pick keysP
  rw [List.map_map]
  have : ∀ p ∈ ps, ((fun k => (k, (lookP ps k).getD .non)) ∘ fun p : Str × D => p.1) p = p := fun p hp => by
    show (p.1, (lookP ps p.1).getD .non) = p
    rw [mem_look n hp]
    rfl
  rw [List.map_congr_left this]
  exact List.map_id' ps
theorem pick_perm {ps : Ps} (n : NoTwo ps) {ys : List Str} (h : ys.Perm (keysP ps)) : (pick ps ys).Perm ps := by
  have := h.map fun k => (k, (lookP ps k).getD D.non)
  rw [show (keysP ps).map (fun k => (k, (lookP ps k).getD D.non)) = pick ps (keysP ps) from rfl, pick_self n] at this
  exact this
theorem look_in {ps : Ps} {k : Str} (h : k ∈ keysP ps) : ∃ d, lookP ps k = some d := by
  have := has_mem.mpr h
  rw [← look_has] at this
  exact Option.isSome_iff_exists.mp this
section
variable {P : Program} {w : World} {K : PySem.W.Frag} {mg : Str → Option Value} {base : Heap} {A : Ad} {D : Fd}
def sp_are_pairs (K : PySem.W.Frag) : Sp := fun vs H Q _ => ∃ a ps, vs = [.ref a] ∧ PairsAt H a ps ∧ PVal ps ∧ RetV (.bl true) H Q
theorem len_are_pairs {vs : List V} {H : Hp} {Q : VK} {E : XK} (h : sp_are_pairs K vs H Q E) : vs.length = 1 := by
  obtain ⟨a, ps, rfl, _⟩ := h
  rfl
theorem ok_are_pairs (T : Txt K mg A D) : FnOk P w K mg base CX0 5 A.are_pairs D.are_pairs ["value"] (sp_are_pairs K) := by
  have G_is_key : FnOk P w K mg base CX0 2 A.is_key D.is_key ["value"] (sp_is_key K) := ok_is_key T
  have G_is_value : FnOk P w K mg base CX0 4 A.is_value D.is_value ["value"] (sp_is_value K) := ok_is_value T
  obtain ⟨t_MAX_KEYS, c_MAX_KEYS⟩ := T.c_MAX_KEYS
  refine T.F_are_pairs.ok sc_are_pairs (fun vs H Q E h => len_are_pairs h) (fun cdv A0 outer s H vs Q E hr h => ?_)
  refine ⟨_, (pss_cons (ps_if (PW.pt (pw_or (pt_not (pt_val (pe_callB call_isi (by rfl) T.b_isinstance (by decide +kernel) (pa_cons (pv 0) (pa_cons (pe_bltn (v := .ty "dict") (u := .type "dict") (by rfl) T.b_dict (by decide +kernel) rfl) pa_nil))))) (pw_or1 (pt_cmpR op_gt (pe_callB call_lenD (by rfl) T.b_len (by decide +kernel) (pa_cons (pv 0) pa_nil)) (pe_glob (v := .int (24)) rfl c_MAX_KEYS ⟨_, rfl⟩) (nomark _))))) (pss_one (ps_ret pe_bl)) pss_nil)
  (pss_one (ps_ret (pe_callB (cr_all rfl) (by rfl) T.b_all (by decide +kernel) (pa_cons (pe_lock (pe_lc (own := [("key", 1), ("worth", 2)]) (g := gTup K 2 (gCons (gName 1) (gCons (gName 2) gNil))) (tt := tYes) rfl sc_are_pairs.nd (pi_items (pv 0)) (blkOk_by (own := [("key", 1), ("worth", 2)]) (N := N_are_pairs) (sc := defScope s_are_pairs) (by decide +kernel)) (fun _ _ _ _ _ => by exact (pg_tup rfl (pgs_cons (pg_name (i := 1) sc_are_pairs.nd rfl (Or.inl rfl)) (pgs_cons (pg_name (i := 2) sc_are_pairs.nd rfl (Or.inl rfl)) pgs_nil)))) (fun _ _ _ _ _ => by exact pts_nil) (fun _ _ _ _ _ => by exact (pe_and (pe_call G_is_key (hr.mono (by decide)) rfl T.g_is_key T.F_is_key.kp T.b_is_key .nil pass0 (pa_cons (pv 1) pa_nil)) (pe_one (pe_call G_is_value (hr.mono (by decide)) rfl T.g_is_value T.F_is_value.kp T.b_is_value .nil pass0 (pa_cons (pv 2) pa_nil))))))) pa_nil))))), ?_⟩
  obtain ⟨a, ps, rfl, hp, hv, k⟩ := h
  refine q_when (b := false) (et_is (et_or (a := false) (b := false) (et_is (et_not (et_B (ev_cb (ea_cons (ev_var rfl) (ea_cons ev_c ea_nil)) (rc_isDict hp)))) rfl) fun _ => et_is (et_test (ev_op (ev_cb (ea_cons (ev_var rfl) ea_nil) (rc_lenP hp)) ev_c rv_I0)) (decide_eq_false (by have := hv.1; omega))) rfl) (fun z => by cases z) fun _ H1 e1 => ?_
  obtain ⟨qs, pm, n, z, g⟩ := hp
  refine s_ret (ev_is (ev_all (bs := (List.range qs.length).map fun _ => true) ?_) ?_) fun H2 e2 => k H2 (e1.trans e2)
  · refine el_lock (e1 _ _ g) trivial fun H3 od e3 => ?_
    have hlen : (kv qs).length = qs.length := kv_len qs
    have l24 : qs.length ≤ 24 := by rw [pm.length_eq]; exact hv.1
    rw [List.map_map, ← hlen]
    refine el_items (fun _ => .bl true) (ev_var rfl) upd_same (by omega) (fun _ _ => rfl) (fun i q H4 e4 hq => ?_)
    unfold kv at hq
    rw [List.getElem?_map] at hq
    obtain ⟨p, hp, rfl⟩ : ∃ p, qs[i]? = some p ∧ kv1 p = q := by
      cases y : qs[i]? with
      | none => rw [y] at hq; cases hq
      | some p => rw [y] at hq; exact ⟨p, rfl, Option.some.inj hq⟩
    have hm : p ∈ ps := pm.mem_iff.mp (List.mem_of_getElem? hp)
    obtain ⟨h1, h2, h3, h4⟩ := hv.2 p hm
    refine ev_is (ev_andV (a := true) (b := true) (ev_is (ev_call (ea_cons (ev_var rfl) ea_nil) (svS (d := .str p.1) (.str p.1) (by omega))) (congrArg V.bl h1)) fun _ => ev_is (ev_call (ea_cons (ev_var rfl) ea_nil) (svS (atV_rp (z p hm)) (by omega))) (congrArg V.bl h2)) rfl
  · rw [List.all_map]
    exact congrArg V.bl (all_yes _)
def sp_check_pairs (K : PySem.W.Frag) : Sp := fun vs H Q _ => ∃ a ps, vs = [.ref a] ∧ PairsAt H a ps ∧ PVal ps ∧ RetV .non H Q
theorem len_check_pairs {vs : List V} {H : Hp} {Q : VK} {E : XK} (h : sp_check_pairs K vs H Q E) : vs.length = 1 := by
  obtain ⟨a, ps, rfl, _⟩ := h
  rfl
theorem sv_check_pairs {H : Hp} {a : Addr} {ps : Ps} (h : PairsAt H a ps) (hv : PVal ps) : SpV (sp_check_pairs K) [.ref a] H .non := fun H1 e Q q E => ⟨a, ps, rfl, h.ex e, hv, q⟩
theorem ok_check_pairs (T : Txt K mg A D) : FnOk P w K mg base CX0 6 A.check_pairs D.check_pairs ["pairs"] (sp_check_pairs K) := by
  have G_are_pairs : FnOk P w K mg base CX0 5 A.are_pairs D.are_pairs ["value"] (sp_are_pairs K) := ok_are_pairs T
  refine T.F_check_pairs.ok sc_check_pairs (fun vs H Q E h => len_check_pairs h) (fun cdv A0 outer s H vs Q E hr h => ?_)
  refine ⟨_, (pss_one (ps_if (pt_not (pt_val (pe_call G_are_pairs (hr.mono (by decide)) rfl T.g_are_pairs T.F_are_pairs.kp T.b_are_pairs .nil pass0 (pa_cons (pv 0) pa_nil)))) (pss_one ps_never) pss_nil)), ?_⟩
  obtain ⟨a, ps, rfl, hp, hv, k⟩ := h
  refine s_when (et_is (et_not (et_B (ev_call (ea_cons (ev_var rfl) ea_nil) fun H1 e Q q E => ⟨a, ps, rfl, hp.ex e, hv, q⟩))) (b := false) rfl) (fun z => by cases z) fun _ H1 e1 => ?_
  exact k H1 e1
def sp_by_keys (K : PySem.W.Frag) : Sp := fun vs H Q _ => ∃ a ps, vs = [.ref a] ∧ PairsAt H a ps ∧ ps.length ≤ 60 ∧ ∀ p ys H', Ex H H' → H' p = some (.dK (kv (pick ps ys))) → ys.Perm (keysP ps) → PyProof.Rows.sortedS ys = true → NoTwo ps → AllAt ps → Q (.ref p) H'
theorem len_by_keys {vs : List V} {H : Hp} {Q : VK} {E : XK} (h : sp_by_keys K vs H Q E) : vs.length = 1 := by
  obtain ⟨a, ps, rfl, _⟩ := h
  rfl
theorem ok_by_keys (T : Txt K mg A D) : FnOk P w K mg base CX0 1 A.by_keys D.by_keys ["table"] (sp_by_keys K) := by
  refine T.F_by_keys.ok sc_by_keys (fun vs H Q E h => len_by_keys h) (fun cdv A0 outer s H vs Q E hr h => ?_)
  refine ⟨_, (pss_one (ps_ret (pe_dc (own := [("key", 1)]) (g := gName 1) (tt := tYes) rfl sc_by_keys.nd (pi_list (pe_callB (call_sortedD rfl) (by rfl) T.b_sorted (by decide +kernel) (pa_cons (pv 0) pa_nil))) (blkOk_by (own := [("key", 1)]) (N := N_by_keys) (sc := defScope s_by_keys) (by decide +kernel)) (fun _ _ _ _ _ => by exact pg_name (i := 1) sc_by_keys.nd rfl (Or.inl rfl)) (fun _ _ _ _ _ => by exact pts_nil) (fun _ _ _ _ _ => by exact (pv 1)) (fun _ _ _ _ _ => by exact (pe_dget (hu_of hr) (pv 0) (pv 1) (fun _ _ => rfl)))))), ?_⟩
  obtain ⟨a, ps, rfl, hp, hl, k⟩ := h
  have hp0 := hp
  obtain ⟨qs, pm, n, z, g⟩ := hp
  have lq : qs.length = ps.length := pm.length_eq
  refine n_ret ?_
  refine ⟨_, rfl, a, kv qs, keysP qs, rfl, .inl g, keys_kv qs, by unfold keysP; rw [List.length_map]; omega, fun ys l ym ysd hlf => ?_⟩
  have yp : ys.Perm (keysP ps) := ym.trans (pm.map _)
  have ylen : ys.length = ps.length := by rw [yp.length_eq]; unfold keysP; rw [List.length_map]
  have eL : Ex H (upd H l (.lst (ys.map V.str))) := Ex.new hlf
  refine ⟨l, rfl, ⟨_, sq_of upd_same⟩, fun Dl hD => ?_⟩
  refine dc_list (K := K) (xs := ys.map V.str) (fun i H' => i ≤ ys.length ∧ Ex (upd H l (.lst (ys.map V.str))) H' ∧ H' Dl = some (.dK (kv (pick ps (ys.take i))))) ⟨Nat.zero_le _, Ex.new hD, upd_same⟩ (fun i H' _ p => sq_of (p.2.1 _ _ upd_same)) (fun i x H' hx p => ?_) (fun H' p => ?_)
  · obtain ⟨p0, p1, p2⟩ := p
    rw [List.getElem?_map] at hx
    obtain ⟨y, hy, rfl⟩ : ∃ y, ys[i]? = some y ∧ V.str y = x := by
      cases q : ys[i]? with
      | none => rw [q] at hx; cases hx
      | some y => rw [q] at hx; exact ⟨y, rfl, Option.some.inj hx⟩
    have hyl : i < ys.length := (List.getElem?_eq_some_iff.mp hy).1
    obtain ⟨d, hd⟩ := look_in (yp.mem_iff.mp (List.mem_of_getElem? hy))
    refine ⟨rfl, et_yes (H := H') _ (Ex.refl _) _ fun H3 e3 => ?_⟩
    rw [if_pos rfl]
    refine ev_var (v := .str y) rfl H3 (Ex.refl _) _ fun H4' e4' => ?_
    have e4 := e3.trans e4'
    refine ev_pitem (ev_var rfl) (ev_var rfl) (hp0.ex ((eL.trans p1).trans e4)) hd H4' (Ex.refl _) _ fun H5 e5 => ?_
    refine ⟨_, .inr y, rfl, e5 _ _ (e4 _ _ p2), ?_, hyl, Ex.mut ((p1.trans e4).trans e5) hD, ?_⟩
    · rw [kv_len]
      unfold pick
      rw [List.length_map, List.length_take]
      exact sz_lt (by omega)
    · rw [upd_same, put_kv]
      have et : ys.take (i + 1) = ys.take i ++ [y] := by rw [List.take_succ, hy]; rfl
      have nod : ys.Nodup := yp.nodup_iff.mpr n
      have hno : hasP (pick ps (ys.take i)) y = false := by
        cases q : hasP (pick ps (ys.take i)) y with
        | false => rfl
        | true =>
          have h1 := has_mem.mp q
          rw [pick_keys] at h1
          have h2 : (ys.take (i + 1)).Nodup := nod.sublist (List.take_sublist _ _)
          rw [et, List.nodup_append] at h2
          exact absurd rfl (h2.2.2 y h1 y (List.mem_singleton.mpr rfl))
      unfold putP
      rw [if_neg (by rw [hno]; decide), et]
      unfold pick
      rw [List.map_append, List.map_cons, List.map_nil, hd]
      rfl
  · obtain ⟨_, p1, p2⟩ := p
    rw [List.length_map, List.take_length] at p2
    exact k Dl ys H' (eL.trans p1) p2 yp ysd n z
end
end K0

namespace K0
open PySem L2 Evl
open SrtO (lessB)
/-! ### texts in order -/
theorem str_ext {x y : Str} (h : x.cps.toList = y.cps.toList) : x = y := by
  obtain ⟨⟨a⟩⟩ := x
  obtain ⟨⟨b⟩⟩ := y
  have h' : a = b := h
  rw [h']
theorem less_anti {x y : Str} (h1 : lessB x y = false) (h2 : lessB y x = false) : x = y := by
  have a : y.cps.toList ≤ x.cps.toList := of_decide_eq_false h1
  have b : x.cps.toList ≤ y.cps.toList := of_decide_eq_false h2
  exact str_ext (List.le_antisymm b a)
theorem less_tr {x y z : Str} (h1 : lessB y x = false) (h2 : lessB z y = false) : lessB z x = false := (SrtO.swo_tx (α := Str) id).tr x y z h1 h2
theorem less_tot (x y : Str) : lessB y x = false ∨ lessB x y = false := by
  cases h : lessB y x with
  | false => exact .inl rfl
  | true => exact .inr ((SrtO.swo_tx (α := Str) id).asym y x h)
theorem rising_pw : ∀ (ys : List Str) (x : Str), PyProof.Rows.risingS x ys = true → (x :: ys).Pairwise fun p q => lessB q p = false
  | [], x, _ => List.pairwise_singleton _ _
  | y :: r, x, h => by
    have h' : (!Spec.ltCps y.cps.toList x.cps.toList && PyProof.Rows.risingS y r) = true := h
    have h2 := Bool.and_eq_true_iff.mp h'
    have ih := rising_pw r y h2.2
    have h3 : lessB y x = false := by
      have := h2.1
      rw [PyProof.Rows.ltCps_eq] at this
      simpa [lessB] using this
    refine List.pairwise_cons.mpr ⟨fun z hz => ?_, ih⟩
    rcases List.mem_cons.mp hz with rfl | hz
    · exact h3
    · exact less_tr h3 ((List.pairwise_cons.mp ih).1 z hz)
theorem sorted_pw {ys : List Str} (h : PyProof.Rows.sortedS ys = true) : ys.Pairwise fun p q => lessB q p = false := by
  cases ys with
  | nil => exact List.Pairwise.nil
  | cons y r => exact rising_pw r y h
def sortP (ps : Ps) : Ps := ps.mergeSort fun p q => !lessB q.1 p.1
theorem sortP_perm (ps : Ps) : (sortP ps).Perm ps := List.mergeSort_perm _ _
theorem sortP_pw (ps : Ps) : (sortP ps).Pairwise fun p q => lessB q.1 p.1 = false := by
  have := List.pairwise_mergeSort (le := fun p q : Str × D => !lessB q.1 p.1) (fun a b c h1 h2 => ?_) (fun a b => ?_) ps
  · exact this.imp fun h => by simpa using h
  · have h1' : lessB b.1 a.1 = false := by simpa using h1
    have h2' : lessB c.1 b.1 = false := by simpa using h2
    rw [less_tr h1' h2']
    rfl
  · rcases less_tot a.1 b.1 with h | h
    · rw [h]
      rfl
    · rw [h]
      simp
theorem sortP_uniq {L M : Ps} (hp : L.Perm M) (n : NoTwo M) (h : L.Pairwise fun p q => lessB q.1 p.1 = false) : L = sortP M := by
  refine List.Perm.eq_of_pairwise (le := fun p q : Str × D => lessB q.1 p.1 = false) (fun a b ha hb h1 h2 => ?_) h (sortP_pw M) (hp.trans (sortP_perm M).symm)
  have ha' : a ∈ M := hp.mem_iff.mp ha
  have hb' : b ∈ M := (sortP_perm M).mem_iff.mp hb
  have e : a.1 = b.1 := less_anti h2 h1
  have l1 := mem_look (k := a.1) (d := a.2) n ha'
  have l2 := mem_look (k := b.1) (d := b.2) n hb'
  rw [e, l2] at l1
  exact Prod.ext e (Option.some.inj l1).symm
def inR (a b k : Str) : Bool := !lessB k a && lessB k b
def rowsP (ps : Ps) (a b : Str) : Ps := sortP (ps.filter fun p => inR a b p.1)
theorem NoTwo.filter {ps : Ps} (n : NoTwo ps) (f : Str × D → Bool) : NoTwo (ps.filter f) := by
  unfold NoTwo keysP
  exact List.Nodup.sublist (List.Sublist.map _ List.filter_sublist) n
theorem rows_uniq {L ps : Ps} {a b : Str} (hp : L.Perm (ps.filter fun p => inR a b p.1)) (n : NoTwo ps) (h : L.Pairwise fun p q => lessB q.1 p.1 = false) : L = rowsP ps a b := sortP_uniq hp (n.filter _) h
def prS (p : Str × D) : D := .tup [.str p.1, p.2]
/-! ### comprehensions of data with a test -/
section
variable {K : PySem.W.Frag} {σ : L2.St} {H H1 : Hp} {te tl : TE} {t : TT} {vs : List Nat} {j : Nat} {Q : VK}
/-- a comprehension over what yields the items f y, one by one, each kept one giving the data G y -/
theorem lc_dataF {α : Type} {J : It} {Gd : Hp → Prop} {ys : List α} {f : α → V} {Pk : α → Bool} {G : α → D} (w : Walk J ys.length Gd (YAt (ys.map f))) (hG : ∀ H', Ex H1 H' → Gd H') (hz : ys.length ≤ 40000)
    (hw : ∀ x, wipe ((wipe σ vs).set j (some x)) vs = wipe σ vs)
    (ht : ∀ y H', y ∈ ys → Ex H1 H' → EvT t ((wipe σ vs).set j (some (f y))) H' (Pk y)) (he : ∀ y H', y ∈ ys → Pk y = true → Ex H1 H' → EvD K te ((wipe σ vs).set j (some (f y))) H' (G y))
    (q : ∀ p xs H2, H1 p = none → Ex H1 H2 → H2 p = some (.lst xs) → RpAll K H2 xs ((ys.filter Pk).map G) → Q (.ref p) H2) :
    ∀ Dl, H1 Dl = none → ∃ W : Nat → Nat → Hp → Prop, (∃ m, W 0 m (upd H1 Dl (.lst []))) ∧ ∀ i m H, W i m H → (J.stop i H ∧ Q (.ref Dl) H) ∨ (J.go i H ∧ ∃ Nx : Hp → Prop, (∀ H', Nx H' → ∃ m', m' < m ∧ W (i + 1) m' H') ∧
      ∀ x H', J.yld i H x H' → gName j x (wipe σ vs) H' fun σ2 H2 => wipe σ2 vs = wipe σ vs ∧ t σ2 H2 fun b H3 => if b = true then te σ2 H3 fun y H4 => ∃ acc, H4 Dl = some (.lst acc) ∧ acc.length < sizeLine ∧ Nx (upd H4 Dl (.lst (acc ++ [y]))) else Nx H3) := fun Dl hD => by
  refine lc_it w (fun i H' => i ≤ ys.length ∧ ∃ acc, H' Dl = some (.lst acc) ∧ RpAll K H' acc (((ys.take i).filter Pk).map G) ∧ Ex H1 H') ⟨Nat.zero_le _, [], upd_same, .nil, Ex.new hD⟩ (fun i H' _ p => hG H' p.2.choose_spec.2.2) (fun i x H' H'' hi p y => ?_) (fun H' p => ?_)
  · obtain ⟨_, acc, p1, p2, p3⟩ := p
    obtain ⟨rfl, hx⟩ := y
    rw [List.getElem?_map, List.getElem?_eq_getElem hi] at hx
    have hx' : f ys[i] = x := Option.some.inj hx
    subst hx'
    have hm : ys[i] ∈ ys := List.getElem_mem hi
    have et : ys.take (i + 1) = ys.take i ++ [ys[i]] := by rw [List.take_succ, List.getElem?_eq_getElem hi]; rfl
    refine ⟨hw _, ht ys[i] H'' hm p3 H'' (Ex.refl _) _ fun H3 e3 => ?_⟩
    have hal : acc.length ≤ i := by
      rw [p2.len, List.length_map]
      refine Nat.le_trans (List.length_filter_le _ _) ?_
      rw [List.length_take]
      omega
    cases hk : Pk ys[i] with
    | true =>
      rw [if_pos rfl]
      refine he ys[i] H3 hm hk (p3.trans e3) H3 (Ex.refl _) _ fun v H4 e4 hv => ?_
      have h4 := e4 _ _ (e3 _ _ p1)
      refine ⟨acc, h4, sz_lt (by omega), hi, acc ++ [v], upd_same, ?_, Ex.mut ((p3.trans e3).trans e4) hD⟩
      rw [et, List.filter_append, List.map_append, show [ys[i]].filter Pk = [ys[i]] from by rw [List.filter_cons, if_pos hk]; rfl]
      exact ((p2.ex (e3.trans e4)).app (.cons hv .nil)).exL (ExL.upd h4)
    | false =>
      rw [if_neg (by decide)]
      refine ⟨hi, acc, e3 _ _ p1, ?_, p3.trans e3⟩
      rw [et, List.filter_append, show [ys[i]].filter Pk = [] from by rw [List.filter_cons, if_neg (by rw [hk]; decide)]; rfl, List.append_nil]
      exact p2.ex e3
  · obtain ⟨_, acc, p1, p2, p3⟩ := p
    rw [List.take_length] at p2
    exact q Dl acc H' hD p3 p1 p2
/-- .. as what evaluates to a new list of data, over a list that stands -/
theorem edl_listF {α : Type} {a : Addr} {ys : List α} {f : α → V} {Pk : α → Bool} {G : α → D} (h : Ev tl σ H (.ref a)) (hx : SqL K H a (ys.map f)) (hz : ys.length ≤ 40000) (hw : ∀ x, wipe ((wipe σ vs).set j (some x)) vs = wipe σ vs)
    (ht : ∀ y H', y ∈ ys → Ex H H' → EvT t ((wipe σ vs).set j (some (f y))) H' (Pk y)) (he : ∀ y H', y ∈ ys → Pk y = true → Ex H H' → EvD K te ((wipe σ vs).set j (some (f y))) H' (G y)) :
    EvDL K (tLc (iList K tl) (gName j) t te vs) σ H ((ys.filter Pk).map G) := fun H0 e Q q => h H0 e _ fun H1 e1 => by
  have wk := walk_list (K := K) (a := a) (xs := ys.map f)
  rw [List.length_map] at wk
  exact ⟨a, rfl, ⟨_, ex_l (e.trans e1) hx⟩, lc_dataF wk (fun H' e' => ex_l ((e.trans e1).trans e') hx) hz hw (fun y H' hy e' => ht y H' hy ((e.trans e1).trans e')) (fun y H' hy hk e' => he y H' hy hk ((e.trans e1).trans e')) fun p xs H2 hp e2 h2 r => q p xs H2 (fresh_back e1 hp) (e1.trans e2) h2 r⟩
/-- tuple([..]) -/
theorem ed_tupNL {ds : List D} (h : EvDL K te σ H ds) : EvD K (tCB (rTupOf K) (tCons te tNil)) σ H (.tup ds) := fun H1 e Q q =>
  h H1 e _ fun p xs H2 hp e2 h2 r => ⟨p, xs, rfl, .inl ⟨sq_of h2, fun l hl => q (.ref l) _ (e2.trans (Ex.new hl)) (.tup (st_of upd_same) (r.ex (Ex.new hl)))⟩⟩
theorem rv_leS {a b : Str} : RV (fun x y H Q => ∃ i j, x = .str i ∧ y = .str j ∧ Q (.bl (!decide (j.cps.toList < i.cps.toList))) H) (.str a) (.str b) H (.bl (!lessB b a)) := fun H1 _ Q q => ⟨a, b, rfl, rfl, q H1 (Ex.refl _)⟩
theorem rv_ltS {a b : Str} : RV (fun x y H Q => ∃ i j, x = .str i ∧ y = .str j ∧ Q (.bl (decide (i.cps.toList < j.cps.toList))) H) (.str a) (.str b) H (.bl (lessB a b)) := fun H1 _ Q q => ⟨a, b, rfl, rfl, q H1 (Ex.refl _)⟩
end
end K0

namespace K0
open PySem L2 Evl
open SrtO (lessB)
/-! ### deeds, and what they do -/
inductive Lone where
  | put (k : Str) (d : D) | drop (k : Str) | get (k : Str) | add (k : Str) (n : Int) | swap (k : Str) (o n : D)
def Lone.enc : Lone → D
  | .put k d => .tup [.str "put", .str k, d]
  | .drop k => .tup [.str "drop", .str k]
  | .get k => .tup [.str "get", .str k]
  | .add k n => .tup [.str "add", .str k, .int n]
  | .swap k o n => .tup [.str "swap", .str k, o, n]
def D.isWo (d : D) : Bool := d.isNon || d.isAt
def Lone.fit : Lone → Bool
  | .put _ d => d.isAt | .swap _ o n => o.isWo && n.isWo | _ => true
def gotD (ps : Ps) (k : Str) : D := (lookP ps k).getD .non
def wasD (ps : Ps) (k : Str) : D := .tup [.str "was", gotD ps k]
def aD (w : Str) : D := .tup [.str w]
def lacks (ps : Ps) (k : Str) : Bool := !hasP ps k && decide (24 ≤ ps.length)
def bigI (t : Int) : Bool := decide ((999999999999 : Int) < (if t < 0 then -t else t))
def sameA (d e : D) : Bool := decide (atV d = atV e)
def addI (ps : Ps) (k : Str) (t : Int) : Ps × D := if bigI t then (ps, aD "bound") else if lacks ps k then (ps, aD "full") else (putP ps k (.int t), .tup [.str "sum", .int t])
def intOf : D → Int
  | .int i => i | _ => 0
def stepL (ps : Ps) : Lone → Ps × D
  | .put k d => if lacks ps k then (ps, aD "full") else (putP ps k d, wasD ps k)
  | .drop k => (dropP ps k, wasD ps k)
  | .get k => (ps, .tup [.str "is", gotD ps k])
  | .add k n => if (gotD ps k).isStr then (ps, aD "kind") else addI ps k (intOf (gotD ps k) + n)
  | .swap k o n => if !sameA (gotD ps k) o then (ps, .tup [.str "other", gotD ps k]) else if !n.isNon && lacks ps k then (ps, aD "full") else (exchP ps k n, aD "swapped")
section
variable {K : PySem.W.Frag} {σ : L2.St} {H : Hp} {te td ty tx : TE} {ta : TA} {D : Ends} {tz : TS} {ps : Ps} {d : K0.D} {k : Str}
/-- what returns a pair of pairs and data -/
def RetPA (K : PySem.W.Frag) (r : Ps × K0.D) (H : Hp) (Q : VK) : Prop := ∀ t p v H', Ex H H' → SqT K H' t [.ref p, v] → PairsAt H' p r.1 → Rp K H' v r.2 → Q (.ref t) H'
theorem r_pa (h1 : EvP te σ H ps) (h2 : EvD K td σ H d) (k : ∀ t p v H', Ex H H' → SqT K H' t [.ref p, v] → PairsAt H' p ps → Rp K H' v d → D.rt (.ref t) H') : tRet (tTup (tCons te (tCons td tNil))) D σ H :=
  h1 H (Ex.refl H) _ fun p H1 e1 hp => h2 H1 e1 _ fun v H2 e2 hv => ⟨sz_of (by simp), fun t ht => k t p v _ ((e1.trans e2).trans (Ex.new ht)) (st_of upd_same) ((hp.ex e2).ex (Ex.new ht)) (hv.ex (Ex.new ht))⟩
theorem q_unp3 {i a b c : Nat} {t : Addr} {x y z : V} (h : σ[i]? = some (some (.ref t))) (ht : SqT K H t [x, y, z]) (k : tz D (((σ.set a (some x)).set b (some y)).set c (some z)) H) :
    tSeq (tAsg (tVar i) (gTup K 3 (gCons (gName a) (gCons (gName b) (gCons (gName c) gNil))))) tz D σ H := ⟨_, h, t, _, rfl, ht, rfl, _, _, rfl, _, _, rfl, _, _, rfl, rfl, k⟩
theorem q_unp4 {i a b c d : Nat} {t : Addr} {x y z u : V} (h : σ[i]? = some (some (.ref t))) (ht : SqT K H t [x, y, z, u]) (k : tz D ((((σ.set a (some x)).set b (some y)).set c (some z)).set d (some u)) H) :
    tSeq (tAsg (tVar i) (gTup K 4 (gCons (gName a) (gCons (gName b) (gCons (gName c) (gCons (gName d) gNil)))))) tz D σ H := ⟨_, h, t, _, rfl, ht, rfl, _, _, rfl, _, _, rfl, _, _, rfl, _, _, rfl, rfl, k⟩
theorem rp_got {ps : Ps} (z : AllAt ps) (k : Str) : Rp K H (gotV ps k .non) (gotD ps k) := by
  unfold gotV gotD
  cases h : lookP ps k with
  | none => exact .non
  | some d => exact atV_rp (z _ (look_mem h))
theorem got_atV (ps : Ps) (k : Str) : gotV ps k .non = atV (gotD ps k) := by
  unfold gotV gotD
  cases lookP ps k <;> rfl
theorem got_wo {ps : Ps} (z : AllAt ps) (k : Str) : (gotD ps k).isWo = true := by
  unfold gotD
  cases h : lookP ps k with
  | none => rfl
  | some d =>
    show (d.isNon || d.isAt) = true
    rw [z _ (look_mem h), Bool.or_true]
theorem ed_pget {a : Addr} (h : Ev td σ H (.ref a)) (hk : Ev ty σ H (.str k)) (hp : PairsAt H a ps) : EvD K (tDGet1 td ty) σ H (gotD ps k) := ed_ev (ev_pget1 h hk hp) (rp_got hp.at_ k)
theorem ed_1 {w : Str} {x : K0.D} (h : EvD K te σ H x) : EvD K (tTup (tCons (tC (.str w)) (tCons te tNil))) σ H (.tup [.str w, x]) := ed_tup (eda_cons ed_str (eda_cons h eda_nil)) (by simp)
theorem ed_0 {w : Str} : EvD K (tTup (tCons (tC (.str w)) tNil)) σ H (aD w) := ed_tup (eda_cons ed_str eda_nil) (by simp)
theorem wo_scal {d e : K0.D} (h1 : d.isWo = true) (h2 : e.isWo = true) : scal (atV d) (atV e) = true := by
  cases d <;> cases e <;> first | rfl | (cases h1; done) | (cases h2; done)
theorem rp_wo {d : K0.D} {v : V} (h : d.isWo = true) (r : Rp K H v d) : v = atV d := by cases r <;> first | rfl | cases h
end
section
variable {P : Program} {w : World} {K : PySem.W.Frag} {mg : Str → Option Value} {base : Heap} {A : Ad} {D : Fd}
/-- a step -/
def spStep (f : Lone → Bool) (K : PySem.W.Frag) : Sp := fun vs H Q _ => ∃ a x ps l, vs = [.ref a, x] ∧ PairsAt H a ps ∧ ps.length ≤ 1000 ∧ Rp K H x (Lone.enc l) ∧ l.fit = true ∧ f l = true ∧ RetPA K (stepL ps l) H Q
theorem spStep_len {f : Lone → Bool} {vs : List V} {H : Hp} {Q : VK} {E : XK} (h : spStep f K vs H Q E) : vs.length = 2 := by
  obtain ⟨a, x, ps, l, rfl, _⟩ := h
  rfl
theorem ep_exch {σ : L2.St} {H : Hp} {ta tk tv : TE} {E : XK} {a : Addr} {ps : Ps} {k : Str} {v : V} {d : K0.D} (h1 : Ev ta σ H (.ref a)) (h2 : Ev tk σ H (.str k)) (h3 : Ev tv σ H v) (hp : PairsAt H a ps) (hl : ps.length ≤ 1000) (hv : Rp K H v d) (hd : d.isWo = true) :
    EvP (tCall (sp_exchanged K) [] E (tCons ta (tCons tk (tCons tv tNil)))) σ H (exchP ps k d) := fun H1 e Q q => by
  refine d_raw ?_
  refine (ea_cons h1 (ea_cons h2 (ea_cons h3 ea_nil)) : EvA _ _ H [.ref a, .str k, v]) H1 e _ fun H2 e2 => ?_
  exact ⟨a, k, ps, v, d, rfl, hp.ex (e.trans e2), hl, hv.ex (e.trans e2), Bool.or_eq_true_iff.mp hd, fun p H3 e3 h3 => q p H3 (e2.trans e3) h3⟩
theorem sv_lacks {H : Hp} {a : Addr} {k : Str} {ps : Ps} (hp : PairsAt H a ps) : SpV (sp_lacks_room K) [.ref a, .str k] H (.bl (lacks ps k)) := fun H1 e Q q E => ⟨a, k, ps, rfl, hp.ex e, q⟩
def isPut : Lone → Bool | .put _ _ => true | _ => false
def isDrop : Lone → Bool | .drop _ => true | _ => false
def isGet : Lone → Bool | .get _ => true | _ => false
def isAdd : Lone → Bool | .add _ _ => true | _ => false
def isSwap : Lone → Bool | .swap _ _ _ => true | _ => false
abbrev sp_do_put (K : PySem.W.Frag) : Sp := spStep isPut K
theorem len_do_put {vs : List V} {H : Hp} {Q : VK} {E : XK} (h : sp_do_put K vs H Q E) : vs.length = 2 := spStep_len h
theorem exch_at {ps : Ps} {k : Str} {d : K0.D} (h : d.isAt = true) : exchP ps k d = putP ps k d := by cases d <;> first | rfl | cases h
theorem at_wo {d : K0.D} (h : d.isAt = true) : d.isWo = true := by
  unfold K0.D.isWo
  rw [h, Bool.or_true]
/-- the members of a deed -/
theorem enc2 {H : Hp} {x : V} {w k : Str} (h : Rp K H x (.tup [.str w, .str k])) : ∃ t, x = .ref t ∧ SqT K H t [.str w, .str k] := by
  obtain ⟨t, xs, rfl, ht, r⟩ := h.tupI
  cases r with | cons r1 r => cases r1; cases r with | cons r2 r => cases r2; cases r; exact ⟨t, rfl, ht⟩
theorem enc3 {H : Hp} {x : V} {w k : Str} {d : K0.D} (h : Rp K H x (.tup [.str w, .str k, d])) : ∃ t v, x = .ref t ∧ SqT K H t [.str w, .str k, v] ∧ Rp K H v d := by
  obtain ⟨t, xs, rfl, ht, r⟩ := h.tupI
  cases r with | cons r1 r => cases r1; cases r with | cons r2 r => cases r2; cases r with | cons r3 r => cases r; exact ⟨t, _, rfl, ht, r3⟩
theorem enc4 {H : Hp} {x : V} {w k : Str} {d e : K0.D} (h : Rp K H x (.tup [.str w, .str k, d, e])) : ∃ t v u, x = .ref t ∧ SqT K H t [.str w, .str k, v, u] ∧ Rp K H v d ∧ Rp K H u e := by
  obtain ⟨t, xs, rfl, ht, r⟩ := h.tupI
  cases r with | cons r1 r => cases r1; cases r with | cons r2 r => cases r2; cases r with | cons r3 r => cases r with | cons r4 r => cases r; exact ⟨t, _, _, rfl, ht, r3, r4⟩
theorem ok_do_put (T : Txt K mg A D) : FnOk P w K mg base CX0 2 A.do_put D.do_put ["pairs", "deed"] (sp_do_put K) := by
  have G_lacks_room : FnOk P w K mg base CX0 1 A.lacks_room D.lacks_room ["pairs", "key"] (sp_lacks_room K) := ok_lacks_room T
  have G_exchanged : FnOk P w K mg base CX0 1 A.exchanged D.exchanged ["pairs", "key", "worth"] (sp_exchanged K) := ok_exchanged T
  refine T.F_do_put.ok sc_do_put (fun vs H Q E h => len_do_put h) (fun cdv A0 outer s H vs Q E hr h => ?_)
  refine ⟨_, (pss_cons (ps_asg (pv 1) (pg_tup rfl (pgs_cons (pg_name (i := 2) sc_do_put.nd rfl (Or.inl rfl)) (pgs_cons (pg_name (i := 3) sc_do_put.nd rfl (Or.inl rfl)) (pgs_cons (pg_name (i := 4) sc_do_put.nd rfl (Or.inl rfl)) pgs_nil)))))
  (pss_cons (ps_if (pt_val (pe_call G_lacks_room (hr.mono (by decide)) rfl T.g_lacks_room T.F_lacks_room.kp T.b_lacks_room .nil pass0 (pa_cons (pv 0) (pa_cons (pv 3) pa_nil)))) (pss_one (ps_ret (pe_tup (pa_cons (pv 0) (pa_cons (pe_tup (pa_cons pe_str pa_nil)) pa_nil))))) pss_nil)
  (pss_one (ps_ret (pe_tup (pa_cons (pe_call G_exchanged (hr.mono (by decide)) rfl T.g_exchanged T.F_exchanged.kp T.b_exchanged .nil pass0 (pa_cons (pv 0) (pa_cons (pv 3) (pa_cons (pv 4) pa_nil)))) (pa_cons (pe_tup (pa_cons pe_str (pa_cons (pe_dget1 (hu_of hr) (pv 0) (pv 3) ⟨by rfl, by rfl, by rfl, by rfl⟩) pa_nil))) pa_nil))))))), ?_⟩
  obtain ⟨a, x, ps, l, rfl, hp, hl, hx, hf, hk, kk⟩ := h
  cases l with
  | put key d =>
    obtain ⟨t, v, rfl, ht, hv⟩ := enc3 hx
    have hat : d.isAt = true := hf
    refine q_unp3 rfl ht ?_
    refine q_when (b := lacks ps key) (et_B (ev_call (ea_cons (ev_var rfl) (ea_cons (ev_var rfl) ea_nil)) (sv_lacks hp))) (fun hb H1 e1 => ?_) (fun hb H1 e1 => ?_)
    · refine r_pa (K := K) (ep_ev (ev_var rfl) (hp.ex e1)) ed_0 fun t' p v H2 e2 g1 g2 g3 => ?_
      have := kk t' p v H2 (e1.trans e2) g1
      rw [show stepL ps (.put key d) = (ps, aD "full") from if_pos hb] at this
      exact this g2 g3
    · refine r_pa (K := K) (ep_exch (ev_var rfl) (ev_var rfl) (ev_var rfl) (hp.ex e1) hl (hv.ex e1) (at_wo hat)) (ed_1 (ed_pget (ev_var rfl) (ev_var rfl) (hp.ex e1))) fun t' p v H2 e2 g1 g2 g3 => ?_
      rw [exch_at hat] at g2
      have := kk t' p v H2 (e1.trans e2) g1
      rw [show stepL ps (.put key d) = (putP ps key d, wasD ps key) from if_neg (by rw [hb]; decide)] at this
      exact this g2 g3
  | _ => cases hk
abbrev sp_do_drop (K : PySem.W.Frag) : Sp := spStep isDrop K
theorem len_do_drop {vs : List V} {H : Hp} {Q : VK} {E : XK} (h : sp_do_drop K vs H Q E) : vs.length = 2 := spStep_len h
theorem ok_do_drop (T : Txt K mg A D) : FnOk P w K mg base CX0 2 A.do_drop D.do_drop ["pairs", "deed"] (sp_do_drop K) := by
  have G_exchanged : FnOk P w K mg base CX0 1 A.exchanged D.exchanged ["pairs", "key", "worth"] (sp_exchanged K) := ok_exchanged T
  refine T.F_do_drop.ok sc_do_drop (fun vs H Q E h => len_do_drop h) (fun cdv A0 outer s H vs Q E hr h => ?_)
  refine ⟨_, (pss_one (ps_ret (pe_tup (pa_cons (pe_call G_exchanged (hr.mono (by decide)) rfl T.g_exchanged T.F_exchanged.kp T.b_exchanged .nil pass0 (pa_cons (pv 0) (pa_cons (pe_ix ix_tup (pv 1) pe_int (fun _ _ => rfl)) (pa_cons pe_non pa_nil)))) (pa_cons (pe_tup (pa_cons pe_str (pa_cons (pe_dget1 (hu_of hr) (pv 0) (pe_ix ix_tup (pv 1) pe_int (fun _ _ => rfl)) ⟨by rfl, by rfl, by rfl, by rfl⟩) pa_nil))) pa_nil))))), ?_⟩
  obtain ⟨a, x, ps, l, rfl, hp, hl, hx, hf, hk, kk⟩ := h
  cases l with
  | drop key =>
    obtain ⟨t, rfl, ht⟩ := enc2 hx
    have ek : ∀ σ', σ' = start N_do_drop [V.ref a, V.ref t] → Ev (tOp (rIxT K) (tVar 1) (tC (.int 1))) σ' H (.str key) := fun σ' e => by
      subst e
      exact ev_nth (i := 1) (ev_var rfl) ht rfl
    refine r_pa (K := K) (ep_exch (d := .non) (ev_var rfl) (ek _ rfl) ev_c hp hl .non rfl) (ed_1 (ed_pget (ev_var rfl) (ek _ rfl) hp)) fun t' p v H2 e2 g1 g2 g3 => ?_
    exact kk t' p v H2 e2 g1 g2 g3
  | _ => cases hk
abbrev sp_do_get (K : PySem.W.Frag) : Sp := spStep isGet K
theorem len_do_get {vs : List V} {H : Hp} {Q : VK} {E : XK} (h : sp_do_get K vs H Q E) : vs.length = 2 := spStep_len h
theorem ok_do_get (T : Txt K mg A D) : FnOk P w K mg base CX0 1 A.do_get D.do_get ["pairs", "deed"] (sp_do_get K) := by
  refine T.F_do_get.ok sc_do_get (fun vs H Q E h => len_do_get h) (fun cdv A0 outer s H vs Q E hr h => ?_)
  refine ⟨_, (pss_one (ps_ret (pe_tup (pa_cons (pv 0) (pa_cons (pe_tup (pa_cons pe_str (pa_cons (pe_dget1 (hu_of hr) (pv 0) (pe_ix ix_tup (pv 1) pe_int (fun _ _ => rfl)) ⟨by rfl, by rfl, by rfl, by rfl⟩) pa_nil))) pa_nil))))), ?_⟩
  obtain ⟨a, x, ps, l, rfl, hp, hl, hx, hf, hk, kk⟩ := h
  cases l with
  | get key =>
    obtain ⟨t, rfl, ht⟩ := enc2 hx
    refine r_pa (K := K) (ep_ev (ev_var rfl) hp) (ed_1 (ed_pget (ev_var rfl) (ev_nth (i := 1) (ev_var rfl) ht rfl) hp)) fun t' p v H2 e2 g1 g2 g3 => ?_
    exact kk t' p v H2 e2 g1 g2 g3
  | _ => cases hk
abbrev sp_do_add (K : PySem.W.Frag) : Sp := spStep isAdd K
theorem len_do_add {vs : List V} {H : Hp} {Q : VK} {E : XK} (h : sp_do_add K vs H Q E) : vs.length = 2 := spStep_len h
/-- what an addition starts from -/
def oldD (ps : Ps) (k : Str) : K0.D := (lookP ps k).getD (.int 0)
theorem old_got {ps : Ps} (z : AllAt ps) (k : Str) : (oldD ps k).isStr = (gotD ps k).isStr ∧ ((oldD ps k).isStr = false → oldD ps k = .int (intOf (gotD ps k))) := by
  unfold oldD gotD
  cases h : lookP ps k with
  | none => exact ⟨rfl, fun _ => rfl⟩
  | some d =>
    have hd := z _ (look_mem h)
    cases d with
    | int i => exact ⟨rfl, fun _ => rfl⟩
    | str s => exact ⟨rfl, fun q => by cases q⟩
    | _ => cases hd
theorem rv_gtI {H : Hp} {i j : Int} : RV (rI0 fun i j => .bl (decide (i > j))) (.int i) (.int j) H (.bl (decide (i > j))) := rv_I0
theorem ok_do_add (T : Txt K mg A D) : FnOk P w K mg base CX0 2 A.do_add D.do_add ["pairs", "deed"] (sp_do_add K) := by
  have G_lacks_room : FnOk P w K mg base CX0 1 A.lacks_room D.lacks_room ["pairs", "key"] (sp_lacks_room K) := ok_lacks_room T
  have G_exchanged : FnOk P w K mg base CX0 1 A.exchanged D.exchanged ["pairs", "key", "worth"] (sp_exchanged K) := ok_exchanged T
  obtain ⟨t_MAX_SUM, c_MAX_SUM⟩ := T.c_MAX_SUM
  refine T.F_do_add.ok sc_do_add (fun vs H Q E h => len_do_add h) (fun cdv A0 outer s H vs Q E hr h => ?_)
  refine ⟨_, (pss_cons (ps_asg (pv 1) (pg_tup rfl (pgs_cons (pg_name (i := 2) sc_do_add.nd rfl (Or.inl rfl)) (pgs_cons (pg_name (i := 3) sc_do_add.nd rfl (Or.inl rfl)) (pgs_cons (pg_name (i := 4) sc_do_add.nd rfl (Or.inl rfl)) pgs_nil)))))
  (pss_cons (ps_set (i := 5) sc_do_add.nd rfl (Or.inl rfl) (pe_dget2 (hu_of hr) (pv 0) (pv 3) pe_int ⟨by rfl, by rfl, by rfl, by rfl⟩))
  (pss_cons (ps_if (pt_val (pe_callB call_isi (by rfl) T.b_isinstance (by decide +kernel) (pa_cons (pv 5) (pa_cons (pe_bltn (v := .ty "str") (u := .type "str") (by rfl) T.b_str (by decide +kernel) rfl) pa_nil)))) (pss_one (ps_ret (pe_tup (pa_cons (pv 0) (pa_cons (pe_tup (pa_cons pe_str pa_nil)) pa_nil))))) pss_nil)
  (pss_cons (ps_set (i := 6) sc_do_add.nd rfl (Or.inl rfl) (pe_op op_add (pv 5) (pv 4)))
  (pss_cons (ps_if (pt_cmpR op_gt (pe_callB call_abs (by rfl) T.b_abs (by decide +kernel) (pa_cons (pv 6) pa_nil)) (pe_glob (v := .int (999999999999)) rfl c_MAX_SUM ⟨_, rfl⟩) (nomark _)) (pss_one (ps_ret (pe_tup (pa_cons (pv 0) (pa_cons (pe_tup (pa_cons pe_str pa_nil)) pa_nil))))) pss_nil)
  (pss_cons (ps_if (pt_val (pe_call G_lacks_room (hr.mono (by decide)) rfl T.g_lacks_room T.F_lacks_room.kp T.b_lacks_room .nil pass0 (pa_cons (pv 0) (pa_cons (pv 3) pa_nil)))) (pss_one (ps_ret (pe_tup (pa_cons (pv 0) (pa_cons (pe_tup (pa_cons pe_str pa_nil)) pa_nil))))) pss_nil)
  (pss_one (ps_ret (pe_tup (pa_cons (pe_call G_exchanged (hr.mono (by decide)) rfl T.g_exchanged T.F_exchanged.kp T.b_exchanged .nil pass0 (pa_cons (pv 0) (pa_cons (pv 3) (pa_cons (pv 6) pa_nil)))) (pa_cons (pe_tup (pa_cons pe_str (pa_cons (pv 6) pa_nil))) pa_nil))))))))))), ?_⟩
  obtain ⟨a, x, ps, l, rfl, hp, hl, hx, hf, hk, kk⟩ := h
  cases l with
  | add key n =>
    obtain ⟨t, v, rfl, ht, hv⟩ := enc3 hx
    cases hv
    have z := hp.at_
    have ro : Rp K H (gotV ps key (.int 0)) (oldD ps key) := by
      unfold gotV oldD
      cases h : lookP ps key with
      | none => exact .int 0
      | some d => exact atV_rp (z _ (look_mem h))
    refine q_unp3 rfl ht ?_
    refine q_asg (ev_pget2 (ev_var rfl) (ev_var rfl) ev_c hp) fun H1 e1 => ?_
    obtain ⟨o1, o2⟩ := old_got z key
    refine q_when (b := (oldD ps key).isStr) (et_B (ev_cb (ea_cons (ev_var rfl) (ea_cons ev_c ea_nil)) (rc_str (ro.ex e1)))) (fun hb H2 e2 => ?_) (fun hb H2 e2 => ?_)
    · refine r_pa (K := K) (ep_ev (ev_var rfl) (hp.ex (e1.trans e2))) ed_0 fun t' p v H3 e3 g1 g2 g3 => ?_
      have := kk t' p v H3 ((e1.trans e2).trans e3) g1
      rw [show stepL ps (.add key n) = (ps, aD "kind") from if_pos (by rw [← o1, hb])] at this
      exact this g2 g3
    · have eo := o2 hb
      have hgs : (gotD ps key).isStr = false := by rw [← o1]; exact hb
      have eg : gotV ps key (.int 0) = .int (intOf (gotD ps key)) := by
        rw [eo] at ro
        exact rp_atV rfl ro
      rw [eg]
      generalize hm : intOf (gotD ps key) = m
      have hstep : stepL ps (.add key n) = addI ps key (m + n) := by
        show (if (gotD ps key).isStr = true then _ else _) = _
        rw [if_neg (by rw [hgs]; decide), hm]
      rw [hstep] at kk
      refine q_asg (ev_op (ev_var rfl) (ev_var rfl) rv_I0) fun H3 e3 => ?_
      have e03 := (e1.trans e2).trans e3
      refine q_when (b := bigI (m + n)) (et_is (et_test (ev_op (ev_cb (ea_cons (ev_var rfl) ea_nil) rc_abs) ev_c rv_gtI)) rfl) (fun hb4 H4 e4 => ?_) (fun hb4 H4 e4 => ?_)
      · refine r_pa (K := K) (ep_ev (ev_var rfl) (hp.ex (e03.trans e4))) ed_0 fun t' p v H5 e5 g1 g2 g3 => ?_
        have := kk t' p v H5 ((e03.trans e4).trans e5) g1
        rw [show addI ps key (m + n) = (ps, aD "bound") from if_pos hb4] at this
        exact this g2 g3
      · refine q_when (b := lacks ps key) (et_B (ev_call (ea_cons (ev_var rfl) (ea_cons (ev_var rfl) ea_nil)) (sv_lacks (hp.ex (e03.trans e4))))) (fun hb5 H5 e5 => ?_) (fun hb5 H5 e5 => ?_)
        · refine r_pa (K := K) (ep_ev (ev_var rfl) (hp.ex ((e03.trans e4).trans e5))) ed_0 fun t' p v H6 e6 g1 g2 g3 => ?_
          have := kk t' p v H6 (((e03.trans e4).trans e5).trans e6) g1
          rw [show addI ps key (m + n) = (ps, aD "full") from by unfold addI; rw [if_neg (by rw [hb4]; decide), if_pos hb5]] at this
          exact this g2 g3
        · refine r_pa (K := K) (ep_exch (d := .int (m + n)) (ev_var rfl) (ev_var rfl) (ev_var rfl) (hp.ex ((e03.trans e4).trans e5)) hl (.int _) rfl) (ed_1 (ed_ev (ev_var rfl) (.int _))) fun t' p v H6 e6 g1 g2 g3 => ?_
          have := kk t' p v H6 (((e03.trans e4).trans e5).trans e6) g1
          rw [show addI ps key (m + n) = (putP ps key (.int (m + n)), .tup [.str "sum", .int (m + n)]) from by unfold addI; rw [if_neg (by rw [hb4]; decide), if_neg (by rw [hb5]; decide)]] at this
          exact this g2 g3
  | _ => cases hk
abbrev sp_do_swap (K : PySem.W.Frag) : Sp := spStep isSwap K
theorem len_do_swap {vs : List V} {H : Hp} {Q : VK} {E : XK} (h : sp_do_swap K vs H Q E) : vs.length = 2 := spStep_len h
theorem rv_notN {H : Hp} {x : V} : RV (fun x y H Q => y = .non ∧ Q (.bl (!decide (x = .non))) H) x .non H (.bl (!decide (x = .non))) := fun H1 _ _ q => ⟨rfl, q H1 (Ex.refl _)⟩
theorem ok_do_swap (T : Txt K mg A D) : FnOk P w K mg base CX0 2 A.do_swap D.do_swap ["pairs", "deed"] (sp_do_swap K) := by
  have G_lacks_room : FnOk P w K mg base CX0 1 A.lacks_room D.lacks_room ["pairs", "key"] (sp_lacks_room K) := ok_lacks_room T
  have G_exchanged : FnOk P w K mg base CX0 1 A.exchanged D.exchanged ["pairs", "key", "worth"] (sp_exchanged K) := ok_exchanged T
  refine T.F_do_swap.ok sc_do_swap (fun vs H Q E h => len_do_swap h) (fun cdv A0 outer s H vs Q E hr h => ?_)
  refine ⟨_, (pss_cons (ps_asg (pv 1) (pg_tup rfl (pgs_cons (pg_name (i := 2) sc_do_swap.nd rfl (Or.inl rfl)) (pgs_cons (pg_name (i := 3) sc_do_swap.nd rfl (Or.inl rfl)) (pgs_cons (pg_name (i := 4) sc_do_swap.nd rfl (Or.inl rfl)) (pgs_cons (pg_name (i := 5) sc_do_swap.nd rfl (Or.inl rfl)) pgs_nil))))))
  (pss_cons (ps_if (pt_cmpR op_ne (pe_dget1 (hu_of hr) (pv 0) (pv 3) ⟨by rfl, by rfl, by rfl, by rfl⟩) (pv 4) (nomark _)) (pss_one (ps_ret (pe_tup (pa_cons (pv 0) (pa_cons (pe_tup (pa_cons pe_str (pa_cons (pe_dget1 (hu_of hr) (pv 0) (pv 3) ⟨by rfl, by rfl, by rfl, by rfl⟩) pa_nil))) pa_nil))))) pss_nil)
  (pss_cons (ps_if (PW.pt (pw_and (pt_cmpR op_notN (pv 5) pe_non (nomark _)) (pw_and1 (pt_val (pe_call G_lacks_room (hr.mono (by decide)) rfl T.g_lacks_room T.F_lacks_room.kp T.b_lacks_room .nil pass0 (pa_cons (pv 0) (pa_cons (pv 3) pa_nil))))))) (pss_one (ps_ret (pe_tup (pa_cons (pv 0) (pa_cons (pe_tup (pa_cons pe_str pa_nil)) pa_nil))))) pss_nil)
  (pss_one (ps_ret (pe_tup (pa_cons (pe_call G_exchanged (hr.mono (by decide)) rfl T.g_exchanged T.F_exchanged.kp T.b_exchanged .nil pass0 (pa_cons (pv 0) (pa_cons (pv 3) (pa_cons (pv 5) pa_nil)))) (pa_cons (pe_tup (pa_cons pe_str pa_nil)) pa_nil)))))))), ?_⟩
  obtain ⟨a, x, ps, l, rfl, hp, hl, hx, hf, hk, kk⟩ := h
  cases l with
  | swap key o n =>
    have hf' := Bool.and_eq_true_iff.mp (show (o.isWo && n.isWo) = true from hf)
    obtain ⟨t, v, u, rfl, ht, hv, hu⟩ := enc4 hx
    have ev := rp_wo hf'.1 hv
    have eu := rp_wo hf'.2 hu
    subst ev eu
    have z := hp.at_
    refine q_unp4 rfl ht ?_
    refine q_when (b := !sameA (gotD ps key) o) (et_is (et_test (ev_op (ev_pget1 (ev_var rfl) (ev_var rfl) hp) (ev_var rfl) (rv_ne (by rw [got_atV]; exact wo_scal (got_wo z key) hf'.1)))) (by rw [got_atV]; rfl)) (fun hb H1 e1 => ?_) (fun hb H1 e1 => ?_)
    · refine r_pa (K := K) (ep_ev (ev_var rfl) (hp.ex e1)) (ed_1 (ed_pget (ev_var rfl) (ev_var rfl) (hp.ex e1))) fun t' p v H2 e2 g1 g2 g3 => ?_
      have := kk t' p v H2 (e1.trans e2) g1
      rw [show stepL ps (.swap key o n) = (ps, .tup [.str "other", gotD ps key]) from if_pos hb] at this
      exact this g2 g3
    · have en : decide (atV n = V.non) = n.isNon := by cases n <;> first | rfl | cases hf'.2
      refine q_when (b := !n.isNon && lacks ps key) (et_and (a := !n.isNon) (et_is (et_test (ev_op (ev_var rfl) ev_c rv_notN)) (by rw [en])) fun _ => et_B (ev_call (ea_cons (ev_var rfl) (ea_cons (ev_var rfl) ea_nil)) (sv_lacks (hp.ex e1)))) (fun hb2 H2 e2 => ?_) (fun hb2 H2 e2 => ?_)
      · refine r_pa (K := K) (ep_ev (ev_var rfl) (hp.ex (e1.trans e2))) ed_0 fun t' p v H3 e3 g1 g2 g3 => ?_
        have := kk t' p v H3 ((e1.trans e2).trans e3) g1
        rw [show stepL ps (.swap key o n) = (ps, aD "full") from (if_neg (by rw [hb]; decide)).trans (if_pos hb2)] at this
        exact this g2 g3
      · refine r_pa (K := K) (ep_exch (d := n) (ev_var rfl) (ev_var rfl) (ev_var rfl) (hp.ex (e1.trans e2)) hl (hu.ex (e1.trans e2)) hf'.2) ed_0 fun t' p v H3 e3 g1 g2 g3 => ?_
        have := kk t' p v H3 ((e1.trans e2).trans e3) g1
        rw [show stepL ps (.swap key o n) = (exchP ps key n, aD "swapped") from (if_neg (by rw [hb]; decide)).trans (if_neg (by rw [hb2]; decide))] at this
        exact this g2 g3
  | _ => cases hk
end
end K0

namespace K0
open PySem L2 Evl
open SrtO (lessB)
inductive Deed where
  | one (l : Lone) | list (a b : Str) | all (ls : List Lone) | circle (c : D)
def Deed.enc : Deed → D
  | .one l => l.enc
  | .list a b => .tup [.str "list", .str a, .str b]
  | .all ls => .tup [.str "all", .tup (ls.map Lone.enc)]
  | .circle c => .tup [.str "circle", c]
def runF (r : Ps × List D) (l : Lone) : Ps × List D := ((stepL r.1 l).1, r.2 ++ [(stepL r.1 l).2])
def runL (ps : Ps) (ls : List Lone) : Ps × List D := ls.foldl runF (ps, [])
def barWords : List Str := ["kind", "bound", "full", "other"]
def barD : D → Bool
  | .tup (.str w :: _) => barWords.contains w | _ => false
def rowsD (ps : Ps) (a b : Str) : D := .tup [.str "rows", .tup ((rowsP ps a b).map prS)]
def allR (ps : Ps) (r : Ps × List D) : Ps × D := match r.2.findIdx? barD with
  | some i => (ps, .tup [.str "none", .int (i : Nat)])
  | none => (r.1, .tup [.str "done", .tup r.2])
def stepD (ps : Ps) : Deed → Ps × D
  | .one l => stepL ps l
  | .list a b => (ps, rowsD ps a b)
  | .all ls => allR ps (runL ps ls)
  | .circle c => (ps, .tup [.str "next", c])
def Deed.fit : Deed → Bool
  | .one l => l.fit | .all ls => ls.all Lone.fit && decide (ls.length ≤ 6) | _ => true
theorem runL_take {ps : Ps} {ls : List Lone} {i : Nat} {l : Lone} (h : ls[i]? = some l) : runL ps (ls.take (i + 1)) = runF (runL ps (ls.take i)) l := by
  unfold runL
  rw [List.take_succ, h, List.foldl_append]
  rfl
theorem runF_len (ls : List Lone) : ∀ r : Ps × List D, (ls.foldl runF r).2.length = r.2.length + ls.length := by
  induction ls with
  | nil => intro r; rfl
  | cons l t ih =>
    intro r
    rw [List.foldl_cons, ih]
    simp [runF]
    omega
theorem runL_len (ps : Ps) (ls : List Lone) : (runL ps ls).2.length = ls.length := by
  unfold runL
  rw [runF_len]
  simp
theorem runF_pre (ls : List Lone) : ∀ r : Ps × List D, ∃ t, (ls.foldl runF r).2 = r.2 ++ t := by
  induction ls with
  | nil => intro r; exact ⟨[], by simp⟩
  | cons l t ih =>
    intro r
    obtain ⟨s, e⟩ := ih (runF r l)
    refine ⟨(stepL r.1 l).2 :: s, ?_⟩
    rw [List.foldl_cons, e]
    simp [runF]
theorem runL_pre (ps : Ps) (ls : List Lone) (i : Nat) : ∃ t, (runL ps ls).2 = (runL ps (ls.take i)).2 ++ t := by
  have e : runL ps ls = (ls.drop i).foldl runF (runL ps (ls.take i)) := by
    unfold runL
    rw [← List.foldl_append, List.take_append_drop]
  rw [e]
  exact runF_pre _ _
theorem put_len {ps : Ps} {k : Str} {d : D} (h : ps.length ≤ 24) (hl : lacks ps k = false) : (putP ps k d).length ≤ 24 := by
  unfold putP
  split
  · rw [List.length_map]
    exact h
  · rename_i c
    have c' : hasP ps k = false := by cases q : hasP ps k <;> first | rfl | exact absurd q c
    unfold lacks at hl
    rw [c'] at hl
    have := of_decide_eq_false (show decide (24 ≤ ps.length) = false from by simpa using hl)
    rw [List.length_append]
    show ps.length + 1 ≤ 24
    omega
theorem drop_len {ps : Ps} {k : Str} (h : ps.length ≤ 24) : (dropP ps k).length ≤ 24 := Nat.le_trans (List.length_filter_le _ _) h
theorem stepL_len {ps : Ps} (h : ps.length ≤ 24) (l : Lone) : (stepL ps l).1.length ≤ 24 := by
  cases l with
  | put k d =>
    cases c : lacks ps k with
    | true => rw [show stepL ps (.put k d) = (ps, aD "full") from if_pos c]; exact h
    | false => rw [show stepL ps (.put k d) = (putP ps k d, wasD ps k) from if_neg (by rw [c]; decide)]; exact put_len h c
  | drop k => exact drop_len h
  | get k => exact h
  | add k n =>
    show (if (gotD ps k).isStr = true then _ else _ : Ps × D).1.length ≤ 24
    split
    · exact h
    · unfold addI
      split
      · exact h
      · cases c : lacks ps k with
        | true => rw [if_pos rfl]; exact h
        | false => rw [if_neg (by decide)]; exact put_len h c
  | swap k o n =>
    show (if (!sameA (gotD ps k) o) = true then _ else _ : Ps × D).1.length ≤ 24
    split
    · exact h
    · split
      · exact h
      · rename_i c
        show (exchP ps k n).length ≤ 24
        cases hn : n.isNon with
        | true =>
          have : n = .non := by cases n <;> first | rfl | cases hn
          subst this
          exact drop_len h
        | false =>
          have e : exchP ps k n = putP ps k n := by cases n <;> first | rfl | cases hn
          rw [e]
          rw [hn] at c
          exact put_len h (by simpa using c)
theorem runL_24 {ps : Ps} (h : ps.length ≤ 24) (ls : List Lone) : (runL ps ls).1.length ≤ 24 := by
  unfold runL
  suffices ∀ r : Ps × List D, r.1.length ≤ 24 → (ls.foldl runF r).1.length ≤ 24 from this _ h
  induction ls with
  | nil => intro r hr; exact hr
  | cons l t ih =>
    intro r hr
    rw [List.foldl_cons]
    exact ih _ (stepL_len hr l)
theorem stepD_len {ps : Ps} (h : ps.length ≤ 24) (d : Deed) : (stepD ps d).1.length ≤ 24 := by
  cases d with
  | one l => exact stepL_len h l
  | all ls =>
    show (allR ps (runL ps ls)).1.length ≤ 24
    unfold allR
    split
    · exact h
    · exact runL_24 h ls
  | _ => exact h
theorem ans_word (ps : Ps) (l : Lone) : ∃ w r, (stepL ps l).2 = .tup (.str w :: r) := by
  cases l with
  | put k d => show ∃ w r, (if lacks ps k = true then _ else _ : Ps × D).2 = _; split <;> exact ⟨_, _, rfl⟩
  | drop k => exact ⟨_, _, rfl⟩
  | get k => exact ⟨_, _, rfl⟩
  | add k n =>
    show ∃ w r, (if (gotD ps k).isStr = true then _ else _ : Ps × D).2 = _
    split
    · exact ⟨_, _, rfl⟩
    · unfold addI
      split
      · exact ⟨_, _, rfl⟩
      · split <;> exact ⟨_, _, rfl⟩
  | swap k o n =>
    show ∃ w r, (if (!sameA (gotD ps k) o) = true then _ else _ : Ps × D).2 = _
    split
    · exact ⟨_, _, rfl⟩
    · split <;> exact ⟨_, _, rfl⟩
section
variable {P : Program} {w : World} {K : PySem.W.Frag} {mg : Str → Option Value} {base : Heap} {A : Ad} {D : Fd}
/-- the text at the head of a tuple -/
theorem rp_head {H : Hp} {x : V} {w : Str} {r : List K0.D} (h : Rp K H x (.tup (.str w :: r))) : ∃ t xs, x = .ref t ∧ SqT K H t (.str w :: xs) ∧ RpAll K H xs r := by
  obtain ⟨t, xs, rfl, ht, hr⟩ := h.tupI
  cases hr with
  | cons r1 r2 =>
    cases r1
    exact ⟨t, _, rfl, ht, r2⟩
theorem rp_2 {H : Hp} {x : V} {w : Str} {d : K0.D} (h : Rp K H x (.tup [.str w, d])) : ∃ t v, x = .ref t ∧ SqT K H t [.str w, v] ∧ Rp K H v d := by
  obtain ⟨t, xs, rfl, ht, hr⟩ := rp_head h
  cases hr with
  | cons r1 r2 =>
    cases r2
    exact ⟨t, _, rfl, ht, r1⟩
def sp_do_list (K : PySem.W.Frag) : Sp := fun vs H Q _ => ∃ a x ps b c, vs = [.ref a, x] ∧ PairsAt H a ps ∧ ps.length ≤ 24 ∧ Rp K H x (Deed.enc (.list b c)) ∧ RetPA K (stepD ps (.list b c)) H Q
theorem len_do_list {vs : List V} {H : Hp} {Q : VK} {E : XK} (h : sp_do_list K vs H Q E) : vs.length = 2 := by
  obtain ⟨a, x, ps, b, c, rfl, _⟩ := h
  rfl
theorem ok_do_list (T : Txt K mg A D) : FnOk P w K mg base CX0 1 A.do_list D.do_list ["pairs", "deed"] (sp_do_list K) := by
  refine T.F_do_list.ok sc_do_list (fun vs H Q E h => len_do_list h) (fun cdv A0 outer s H vs Q E hr h => ?_)
  refine ⟨_, (pss_cons (ps_asg (pv 1) (pg_tup rfl (pgs_cons (pg_name (i := 2) sc_do_list.nd rfl (Or.inl rfl)) (pgs_cons (pg_name (i := 3) sc_do_list.nd rfl (Or.inr rfl)) (pgs_cons (pg_name (i := 4) sc_do_list.nd rfl (Or.inr rfl)) pgs_nil)))))
  (pss_one (ps_ret (pe_tup (pa_cons (pv 0) (pa_cons (pe_tup (pa_cons pe_str (pa_cons (pe_callTy call_tuple_of (by rfl) T.b_tuple (by decide +kernel) (pa_cons (pe_lc (own := [("key", 5)]) (g := gName 5)  rfl sc_do_list.nd (pi_list (pe_callB (call_sortedD rfl) (by rfl) T.b_sorted (by decide +kernel) (pa_cons (pv 0) pa_nil))) (blkOk_by (own := [("key", 5)]) (N := N_do_list) (sc := defScope s_do_list) (by decide +kernel)) (fun _ _ _ _ _ => by exact pg_name (i := 5) sc_do_list.nd rfl (Or.inl rfl)) (fun _ _ _ _ _ => by exact (pts_one (pt_chain op_le_str op_lt_str (pv 3) (pv 5) (pv 4)))) (fun _ _ _ _ _ => by exact (pe_tup (pa_cons (pv 5) (pa_cons (pe_dget (hu_of hr) (pv 0) (pv 5) (fun _ _ => rfl)) pa_nil))))) pa_nil)) pa_nil))) pa_nil)))))), ?_⟩
  obtain ⟨a, x, ps, b, c, rfl, hp, hl, hx, kk⟩ := h
  obtain ⟨t, v, rfl, ht, hv⟩ := enc3 hx
  cases hv
  refine q_unp3 rfl ht ?_
  have hp0 := hp
  obtain ⟨qs, pm, n, z, g⟩ := hp
  refine r_pa (K := K) (ep_ev (ev_var rfl) hp0) (ed_1 (x := .tup ((rowsP ps b c).map prS)) ?_) fun t' p v H2 e2 g1 g2 g3 => kk t' p v H2 e2 g1 g2 g3
  refine ed_tupNL ?_
  intro H1 e1 Q1 q1
  refine ⟨_, rfl, a, kv qs, keysP qs, rfl, .inl (e1 _ _ g), keys_kv qs, by unfold keysP; rw [List.length_map, pm.length_eq]; omega, fun ys l ym ysd hlf => ?_⟩
  have yp : ys.Perm (keysP ps) := ym.trans (pm.map _)
  have ylen : ys.length ≤ 24 := by rw [yp.length_eq]; unfold keysP; rw [List.length_map]; exact hl
  have e2 : Ex H1 (upd H1 l (.lst (ys.map V.str))) := Ex.new hlf
  have wk := walk_list (K := K) (a := l) (xs := ys.map V.str)
  rw [List.length_map] at wk
  refine ⟨l, rfl, ⟨_, sq_of upd_same⟩, lc_dataF (K := K) (G := fun y => prS (y, gotD ps y)) (Pk := inR b c) wk (fun H' e' => sq_of (e' _ _ upd_same)) (by omega) (fun _ => rfl) (fun y H' hy e' => ?_) (fun y H' hy hk e' => ?_) (fun p xs H2 hp2 e3 h2 r => ?_)⟩
  · exact et_test (ev_chain_of (ev_var rfl) (ev_var rfl) rv_leS (ev_var rfl) rv_ltS)
  · obtain ⟨d, hd⟩ := look_in (yp.mem_iff.mp hy)
    have hat := z _ (look_mem hd)
    have eg : gotD ps y = d := by unfold gotD; rw [hd]; rfl
    show EvD K _ _ _ (.tup [.str y, gotD ps y])
    rw [eg]
    exact ed_tup (eda_cons (ed_ev (ev_var rfl) (.str _)) (eda_cons (ed_ev (ev_pitem (ev_var rfl) (ev_var rfl) (hp0.ex ((e1.trans e2).trans e')) hd) (atV_rp hat)) eda_nil)) (by simp)
  · refine q1 p xs H2 (fresh_back e2 hp2) (e2.trans e3) h2 ?_
    have er : rowsP ps b c = pick ps (ys.filter (inR b c)) := by
      symm
      refine rows_uniq ?_ n ?_
      · have := (pick_perm n yp).filter fun p => inR b c p.1
        unfold pick at this ⊢
        rw [List.filter_map] at this
        exact this
      · unfold pick
        refine List.pairwise_map.mpr ?_
        exact List.Pairwise.sublist List.filter_sublist (sorted_pw ysd)
    rw [er]
    unfold pick
    rw [List.map_map]
    exact r
def sp_do_circle (K : PySem.W.Frag) : Sp := fun vs H Q _ => ∃ a x ps c, vs = [.ref a, x] ∧ PairsAt H a ps ∧ Rp K H x (Deed.enc (.circle c)) ∧ RetPA K (stepD ps (.circle c)) H Q
theorem len_do_circle {vs : List V} {H : Hp} {Q : VK} {E : XK} (h : sp_do_circle K vs H Q E) : vs.length = 2 := by
  obtain ⟨a, x, ps, c, rfl, _⟩ := h
  rfl
theorem ok_do_circle (T : Txt K mg A D) : FnOk P w K mg base CX0 1 A.do_circle D.do_circle ["pairs", "deed"] (sp_do_circle K) := by
  refine T.F_do_circle.ok sc_do_circle (fun vs H Q E h => len_do_circle h) (fun cdv A0 outer s H vs Q E hr h => ?_)
  refine ⟨_, (pss_one (ps_ret (pe_tup (pa_cons (pv 0) (pa_cons (pe_tup (pa_cons pe_str (pa_cons (pe_ix ix_tup (pv 1) pe_int (fun _ _ => rfl)) pa_nil))) pa_nil))))), ?_⟩
  obtain ⟨a, x, ps, c, rfl, hp, hx, kk⟩ := h
  obtain ⟨t, v, rfl, ht, hv⟩ := rp_2 hx
  exact r_pa (K := K) (ep_ev (ev_var rfl) hp) (ed_1 (ed_ev (ev_nth (i := 1) (ev_var rfl) ht rfl) hv)) fun t' p v H2 e2 g1 g2 g3 => kk t' p v H2 e2 g1 g2 g3
end
end K0

namespace K0
open PySem L2 Evl
section
variable {P : Program} {w : World} {K : PySem.W.Frag} {mg : Str → Option Value} {base : Heap} {A : Ad} {D : Fd}
def stSS (K : PySem.W.Frag) (A : Ad) : List (Addr × Sp) := [(A.do_put, sp_do_put K), (A.do_drop, sp_do_drop K), (A.do_get, sp_do_get K), (A.do_add, sp_do_add K), (A.do_swap, sp_do_swap K)]
def sp_do_deed0 (K : PySem.W.Frag) : Sp := fun vs H Q _ => ∃ a x ps l, vs = [.ref a, x] ∧ PairsAt H a ps ∧ ps.length ≤ 1000 ∧ Rp K H x (Lone.enc l) ∧ l.fit = true ∧ RetPA K (stepL ps l) H Q
theorem len_do_deed0 {vs : List V} {H : Hp} {Q : VK} {E : XK} (h : sp_do_deed0 K vs H Q E) : vs.length = 2 := by
  obtain ⟨a, x, ps, l, rfl, _⟩ := h
  rfl
def Lone.word : Lone → Str
  | .put _ _ => "put" | .drop _ => "drop" | .get _ => "get" | .add _ _ => "add" | .swap _ _ _ => "swap"
theorem enc_head (l : Lone) : ∃ r, l.enc = .tup (.str l.word :: r) := by cases l <;> exact ⟨_, rfl⟩
theorem ok_do_deed0 (T : Txt K mg A D) (U : Tab K w mg A) : FnOk P w K mg base CX0 22 A.do_deed D.do_deed ["pairs", "deed"] (sp_do_deed0 K) := by
  obtain ⟨a_DEED_STEPS, g_DEED_STEPS, _, _, kd_DEED_STEPS, nx_DEED_STEPS⟩ := U.d_DEED_STEPS
  have held : ∀ q ∈ stSS K A, Held P w K mg base 21 q.1 q.2 := by
    intro q hq
    simp only [stSS, List.mem_cons, List.not_mem_nil, or_false] at hq
    rcases hq with rfl | rfl | rfl | rfl | rfl
    · exact ⟨_, _, (ok_do_put T).mono (by decide), T.F_do_put.kp, T.b_do_put⟩
    · exact ⟨_, _, (ok_do_drop T).mono (by decide), T.F_do_drop.kp, T.b_do_drop⟩
    · exact ⟨_, _, (ok_do_get T).mono (by decide), T.F_do_get.kp, T.b_do_get⟩
    · exact ⟨_, _, (ok_do_add T).mono (by decide), T.F_do_add.kp, T.b_do_add⟩
    · exact ⟨_, _, (ok_do_swap T).mono (by decide), T.F_do_swap.kp, T.b_do_swap⟩
  refine T.F_do_deed.ok sc_do_deed (fun vs H Q E h => len_do_deed0 h) (fun cdv A0 outer s H vs Q E hr h => ?_)
  refine ⟨_, (pss_cons (ps_set (i := 2) sc_do_deed.nd rfl (Or.inl rfl) (pe_ix ix_kdict (pe_glob (v := .ref a_DEED_STEPS) rfl g_DEED_STEPS rfl) (pe_ix ix_tup (pv 1) pe_int (fun _ _ => rfl)) (fun _ _ => rfl)))
  (pss_one (ps_ret (pe_callS (i := 2) held hr rfl (Or.inl rfl) (pa_cons (pv 0) (pa_cons (pv 1) pa_nil)))))), ?_⟩
  obtain ⟨a, x, ps, l, rfl, hp, hl, hx, hf, k⟩ := h
  obtain ⟨r, er⟩ := enc_head l
  have hx0 := hx
  rw [er] at hx
  obtain ⟨t, xs, rfl, ht, hr1⟩ := rp_head hx
  have got : ∃ f g, (f, spStep g K) ∈ stSS K A ∧ PySem.W.nsIn K a_DEED_STEPS l.word = some (some (.ref f)) ∧ g l = true := by
    cases l with
    | put _ _ => exact ⟨A.do_put, isPut, by simp [stSS], nx_DEED_STEPS "put", rfl⟩
    | drop _ => exact ⟨A.do_drop, isDrop, by simp [stSS], nx_DEED_STEPS "drop", rfl⟩
    | get _ => exact ⟨A.do_get, isGet, by simp [stSS], nx_DEED_STEPS "get", rfl⟩
    | add _ _ => exact ⟨A.do_add, isAdd, by simp [stSS], nx_DEED_STEPS "add", rfl⟩
    | swap _ _ _ => exact ⟨A.do_swap, isSwap, by simp [stSS], nx_DEED_STEPS "swap", rfl⟩
  obtain ⟨f, g, hm, hn, hg⟩ := got
  refine q_asg (ev_op ev_c (ev_nth (i := 0) (ev_var rfl) ht rfl) (rv_kd kd_DEED_STEPS hn)) fun H1 e1 => ?_
  refine n_ret (c_callS (p := (f, spStep g K)) hm rfl (ea_cons (ev_var rfl) (ea_cons (ev_var rfl) ea_nil)) fun H2 e2 => ?_)
  have e := e1.trans e2
  exact ⟨a, _, ps, l, rfl, hp.ex e, hl, hx0.ex e, hf, hg, fun t' p v H3 e3 g1 g2 g3 => k t' p v H3 (e.trans e3) g1 g2 g3⟩
theorem q_callPA {σ : L2.St} {H : Hp} {ta : TA} {sp : Sp} {E : XK} {vs : List V} {r : Ps × K0.D} {i j : Nat} {D : Ends} {tz : TS} (h : EvA ta σ H vs) (hs : ∀ H1 Q, Ex H H1 → RetPA K r H1 Q → sp vs H1 Q E)
    (k : ∀ p v H1, Ex H H1 → PairsAt H1 p r.1 → Rp K H1 v r.2 → tz D ((σ.set i (some (.ref p))).set j (some v)) H1) : tSeq (tAsg (tCall sp [] E ta) (gTup K 2 (gCons (gName i) (gCons (gName j) gNil)))) tz D σ H := by
  refine q_asgG (d_raw (h H (Ex.refl _) _ fun H1 e1 => hs H1 _ e1 fun t p v H2 e2 g1 g2 g3 => ?_))
  exact ⟨t, _, rfl, g1, rfl, _, _, rfl, _, _, rfl, rfl, k p v H2 (e1.trans e2) g2 g3⟩
/-- for i, x in enumerate(t): .. and what follows -/
theorem q_forEnT {σ : L2.St} {H : Hp} {ta : TA} {a : Addr} {xs : List V} {i1 i2 : Nat} {tu tz : TS} {D : Ends} (h : EvA ta σ H [.ref a]) (hx : SqT K H a xs) (Pv : Nat → L2.St → Hp → Prop) (h0 : ∀ H1, Ex H H1 → Pv 0 σ H1) (hG : ∀ i σ' H', Pv i σ' H' → SqT K H' a xs)
    (hs : ∀ i x σ' H' T, xs[i]? = some x → Pv i σ' H' → H' T = none → tu { nx := Pv (i + 1), rt := D.rt, bk := tz D, ct := Pv (i + 1) } ((σ'.set i1 (some (.int (i : Nat)))).set i2 (some x)) (upd H' T (.tup [.int (i : Nat), x])))
    (hd : ∀ σ' H', Pv xs.length σ' H' → tz D σ' H') : tSeq (tFor (iEnumT K ta) (gTup K 2 (gCons (gName i1) (gCons (gName i2) gNil))) tu) tz D σ H := by
  refine h H (Ex.refl _) _ fun H1 e1 => ⟨a, xs, rfl, ex_t e1 hx, ?_⟩
  refine for_it (D := { D with nx := fun σ H => tz D σ H }) walk_enumT Pv (h0 H1 e1) (fun i σ' H' _ p => hG i σ' H' p) (fun i x σ' H' H'' hi p y => ?_) hd
  obtain ⟨T, x1, x2, rfl, hT, rfl, y1, y2⟩ := y
  cases y1
  exact ⟨T, _, rfl, st_of upd_same, rfl, _, _, rfl, _, _, rfl, rfl, hs i x2 σ' H' T y2 p hT⟩
def breakV : List V := [.str "kind", .str "bound", .str "full", .str "other"]
theorem in_break (w : Str) : inV (.str w) breakV = barWords.contains w := inV_strs w barWords
def sp_do_all (K : PySem.W.Frag) : Sp := fun vs H Q _ => ∃ a x ps ls, vs = [.ref a, x] ∧ PairsAt H a ps ∧ ps.length ≤ 24 ∧ Rp K H x (Deed.enc (.all ls)) ∧ (Deed.all ls).fit = true ∧ RetPA K (stepD ps (.all ls)) H Q
theorem len_do_all {vs : List V} {H : Hp} {Q : VK} {E : XK} (h : sp_do_all K vs H Q E) : vs.length = 2 := by
  obtain ⟨a, x, ps, ls, rfl, _⟩ := h
  rfl
theorem find_none_pre {as bs : List K0.D} (h : as.findIdx? barD = none) (hb : ∀ b ∈ bs, barD b = false) : (as ++ bs).findIdx? barD = none := by
  rw [List.findIdx?_eq_none_iff] at h ⊢
  intro x hx
  rcases List.mem_append.mp hx with hx | hx
  · exact h x hx
  · exact hb x hx
theorem ok_do_all (T : Txt K mg A D) (U : Tab K w mg A) : FnOk P w K mg base CX0 26 A.do_all D.do_all ["pairs", "deed"] (sp_do_all K) := by
  have G_do_deed := ok_do_deed0 (P := P) (base := base) T U
  obtain ⟨a_BREAKS, g_BREAKS, d_BREAKS⟩ := T.t_BREAKS
  refine T.F_do_all.ok sc_do_all (fun vs H Q E h => len_do_all h) (fun cdv A0 outer s H vs Q E hr h => ?_)
  refine ⟨_, (pss_cons (ps_set (i := 2) sc_do_all.nd rfl (Or.inl rfl) (pv 0))
  (pss_cons (ps_set (i := 3) sc_do_all.nd rfl (Or.inl rfl) (pe_lst pa_nil))
  (pss_cons (ps_for PassesOwn.never rfl (pi_enumT (by rfl) T.b_enumerate (pa_cons (pe_ix ix_tup (pv 1) pe_int (fun _ _ => rfl)) pa_nil)) (pg_tup rfl (pgs_cons (pg_name (i := 4) sc_do_all.nd rfl (Or.inl rfl)) (pgs_cons (pg_name (i := 5) sc_do_all.nd rfl (Or.inl rfl)) pgs_nil))) (pss_cons (ps_asg (pe_call G_do_deed (hr.mono (by decide)) rfl T.g_do_deed T.F_do_deed.kp T.b_do_deed .nil pass0 (pa_cons (pv 2) (pa_cons (pv 5) pa_nil))) (pg_tup rfl (pgs_cons (pg_name (i := 2) sc_do_all.nd rfl (Or.inl rfl)) (pgs_cons (pg_name (i := 6) sc_do_all.nd rfl (Or.inl rfl)) pgs_nil))))
  (pss_cons (ps_if (pt_cmpR op_in_seq (pe_ix ix_tup (pv 6) pe_int (fun _ _ => rfl)) (pe_glob (v := .ref a_BREAKS) rfl g_BREAKS rfl) (by rfl)) (pss_one (ps_ret (pe_tup (pa_cons (pv 0) (pa_cons (pe_tup (pa_cons pe_str (pa_cons (pv 4) pa_nil))) pa_nil))))) pss_nil)
  (pss_one (ps_expr (pe_bm PySem.F.plainAttrs_list PySem.F.slot_list_append PySem.F.type_list_append mt_append (pv 3) (pa_cons (pv 6) pa_nil)))))))
  (pss_one (ps_ret (pe_tup (pa_cons (pv 2) (pa_cons (pe_tup (pa_cons pe_str (pa_cons (pe_callTy call_tuple_of (by rfl) T.b_tuple (by decide +kernel) (pa_cons (pv 3) pa_nil)) pa_nil))) pa_nil)))))))), ?_⟩
  obtain ⟨a, x, ps, ls, rfl, hp, hl, hx, hf, k⟩ := h
  have hf' := Bool.and_eq_true_iff.mp (show (ls.all Lone.fit && decide (ls.length ≤ 6)) = true from hf)
  have l6 := of_decide_eq_true hf'.2
  obtain ⟨t, v, rfl, ht, hv⟩ := rp_2 hx
  obtain ⟨b, ys, rfl, hb, hr1⟩ := hv.tupI
  have hlen : ys.length = ls.length := by rw [hr1.len, List.length_map]
  refine q_asg (ev_var rfl) fun H1 e1 => ?_
  refine q_asgL (el_lst ea_nil (by simp)) fun l0 H2 hl0 e2 h2 => ?_
  have e02 := e1.trans e2
  refine q_forEnT (K := K) (ea_cons (ev_nth (i := 1) (ev_var rfl) (ex_t e02 ht) rfl) ea_nil) (ex_t e02 hb) (fun i σ' H' => ∃ p as v4 v5 v6, σ' = [some (.ref a), some (.ref t), some (.ref p), some (.ref l0), v4, v5, v6] ∧ Ex H H' ∧ PairsAt H' p (runL ps (ls.take i)).1 ∧ H' l0 = some (.lst as) ∧ RpAll K H' as (runL ps (ls.take i)).2 ∧ (runL ps (ls.take i)).2.findIdx? barD = none) (fun H3 e3 => ?_) (fun i σ' H' q => ?_) (fun i x2 σ' H' T' y2 q hT => ?_) (fun σ' H' q => ?_)
  · exact ⟨a, [], none, none, none, rfl, e02.trans e3, hp.ex (e02.trans e3), e3 _ _ h2, .nil, rfl⟩
  · obtain ⟨_, _, _, _, _, _, e, _⟩ := q
    exact ex_t e hb
  · obtain ⟨p, as, v4, v5, v6, rfl, e, hp', has, ras, hno⟩ := q
    obtain ⟨d, hd, hrd⟩ := RpAll.get _ _ _ _ (hr1.ex e) y2
    rw [List.getElem?_map] at hd
    obtain ⟨l, hll, rfl⟩ : ∃ l, ls[i]? = some l ∧ Lone.enc l = d := by
      cases g : ls[i]? with
      | none => rw [g] at hd; cases hd
      | some l => rw [g] at hd; exact ⟨l, rfl, Option.some.inj hd⟩
    have eT : Ex H' (upd H' T' (.tup [.int (i : Nat), x2])) := Ex.new hT
    have fitl : l.fit = true := List.all_eq_true.mp hf'.1 l (List.mem_of_getElem? hll)
    have l24 : (runL ps (ls.take i)).1.length ≤ 24 := runL_24 hl _
    refine q_callPA (K := K) (r := stepL (runL ps (ls.take i)).1 l) (ea_cons (ev_var rfl) (ea_cons (ev_var rfl) ea_nil)) (fun H4 Q4 e4 r4 => ⟨p, x2, _, l, rfl, (hp'.ex eT).ex e4, by omega, (hrd.ex eT).ex e4, fitl, r4⟩) fun p2 v2 H4 e4 g2 g3 => ?_
    obtain ⟨w0, r0, ew⟩ := ans_word (runL ps (ls.take i)).1 l
    have g3' := g3
    rw [ew] at g3
    obtain ⟨t2, zs, rfl, ht2, _⟩ := rp_head g3
    have et := runL_take (ps := ps) hll
    have e4' := e.trans (eT.trans e4)
    refine q_when (b := barD (stepL (runL ps (ls.take i)).1 l).2) (et_is (et_test (ev_op (ev_nth (i := 0) (ev_var rfl) ht2 rfl) ev_c (rv_isT (xs := breakV) (d_BREAKS _) rfl (by decide +kernel)))) (by rw [in_break, ew]; rfl)) (fun hbr H5 e5 => ?_) (fun hbr H5 e5 => ?_)
    · refine r_pa (K := K) (ep_ev (ev_var rfl) (hp.ex (e4'.trans e5))) (ed_1 (ed_ev (ev_var rfl) (.int (i : Nat)))) fun t' p' v' H6 e6 g1 g4 g5 => ?_
      have := k t' p' v' H6 ((e4'.trans e5).trans e6) g1
      have eq : stepD ps (.all ls) = (ps, .tup [.str "none", .int (i : Nat)]) := by
        show allR ps (runL ps ls) = _
        unfold allR
        have fi : (runL ps ls).2.findIdx? barD = some i := by
          obtain ⟨tl, etl⟩ := runL_pre ps ls (i + 1)
          rw [etl, et]
          show ((runL ps (ls.take i)).2 ++ [(stepL (runL ps (ls.take i)).1 l).2] ++ tl).findIdx? barD = some i
          have hlen2 : (runL ps (ls.take i)).2.length = i := by
            rw [runL_len, List.length_take]
            have := (List.getElem?_eq_some_iff.mp hll).1
            omega
          rw [List.append_assoc, List.findIdx?_append, hno]
          simp [List.findIdx?_cons, hbr, hlen2]
        rw [fi]
      rw [eq] at this
      exact this g4 g5
    · refine s_app (e5 _ _ (e4 _ _ (eT _ _ has))) (ev_var rfl) (ev_var rfl) (by rw [ras.len, runL_len, List.length_take]; omega) fun H6 e6 => ?_
      have e46 := (e4'.trans e5).trans e6
      have h6 : H6 l0 = some (.lst as) := e6 _ _ (e5 _ _ (e4 _ _ (eT _ _ has)))
      have nl0 : H l0 = none := fresh_back e1 hl0
      refine ⟨p2, as ++ [.ref t2], _, _, _, rfl, Ex.mut e46 nl0, ?_, upd_same, ?_, ?_⟩
      · rw [et]
        exact ((g2.ex e5).ex e6).exT (ExT.upd h6)
      · rw [et]
        exact ((ras.ex (((eT.trans e4).trans e5).trans e6)).exL (ExL.upd h6)).app (.cons ((g3'.ex (e5.trans e6)).exL (ExL.upd h6)) .nil)
      · rw [et]
        exact find_none_pre hno fun b hb => by rw [List.mem_singleton.mp hb]; exact hbr
  · obtain ⟨p, as, v4, v5, v6, rfl, e, hp', has, ras, hno⟩ := q
    have tk : ls.take ys.length = ls := by rw [hlen, List.take_length]
    rw [tk] at hp' ras hno
    refine r_pa (K := K) (ep_ev (ev_var rfl) hp') (ed_1 (ed_tupOf (ev_var rfl) has ras)) fun t' p' v' H6 e6 g1 g4 g5 => ?_
    have := k t' p' v' H6 (e.trans e6) g1
    have eq : stepD ps (.all ls) = ((runL ps ls).1, .tup [.str "done", .tup (runL ps ls).2]) := by
      show allR ps (runL ps ls) = _
      unfold allR
      rw [hno]
    rw [eq] at this
    exact this g4 g5
end
end K0

namespace K0
open PySem L2 Evl
theorem runD_take {α β : Type} {f : β → α → β} {b : β} {ls : List α} {i : Nat} {l : α} (h : ls[i]? = some l) : (ls.take (i + 1)).foldl f b = f ((ls.take i).foldl f b) l := by
  rw [List.take_succ, h, List.foldl_append]
  rfl
def runDF (r : Ps × List D) (d : Deed) : Ps × List D := ((stepD r.1 d).1, r.2 ++ [(stepD r.1 d).2])
def runD (ps : Ps) (ds : List Deed) : Ps × List D := ds.foldl runDF (ps, [])
theorem runD_24 {ps : Ps} (h : ps.length ≤ 24) (ds : List Deed) : (runD ps ds).1.length ≤ 24 := by
  unfold runD
  suffices ∀ r : Ps × List D, r.1.length ≤ 24 → (ds.foldl runDF r).1.length ≤ 24 from this _ h
  induction ds with
  | nil => intro r hr; exact hr
  | cons l t ih =>
    intro r hr
    rw [List.foldl_cons]
    exact ih _ (stepD_len hr l)
theorem runD_len (ps : Ps) (ds : List Deed) : (runD ps ds).2.length = ds.length := by
  unfold runD
  suffices ∀ r : Ps × List D, (ds.foldl runDF r).2.length = r.2.length + ds.length by
    rw [this]
    simp
  induction ds with
  | nil => intro r; rfl
  | cons l t ih =>
    intro r
    rw [List.foldl_cons, ih]
    simp [runDF]
    omega
structure Deed.Good (d : Deed) : Prop where
  fit : d.fit = true
  deed : d.enc.deed = true
  size : d.enc.size ≤ 2000
def Deed.word : Deed → Str
  | .one l => l.word | .list _ _ => "list" | .all _ => "all" | .circle _ => "circle"
theorem encD_head (d : Deed) : ∃ r, d.enc = .tup (.str d.word :: r) := by
  cases d with
  | one l => exact enc_head l
  | _ => exact ⟨_, rfl⟩
theorem enc_some (d : Deed) : d.enc.wordO.isSome = true := by
  obtain ⟨r, e⟩ := encD_head d
  rw [e]
  rfl
section
variable {P : Program} {w : World} {K : PySem.W.Frag} {mg : Str → Option Value} {base : Heap} {A : Ad} {D : Fd}
def sp_do_deed (K : PySem.W.Frag) : Sp := fun vs H Q _ => ∃ a x ps d, vs = [.ref a, x] ∧ PairsAt H a ps ∧ ps.length ≤ 24 ∧ Rp K H x (Deed.enc d) ∧ d.fit = true ∧ RetPA K (stepD ps d) H Q
theorem len_do_deed {vs : List V} {H : Hp} {Q : VK} {E : XK} (h : sp_do_deed K vs H Q E) : vs.length = 2 := by
  obtain ⟨a, x, ps, d, rfl, _⟩ := h
  rfl
def fullSS (K : PySem.W.Frag) (A : Ad) : List (Addr × Sp) := stSS K A ++ [(A.do_list, sp_do_list K), (A.do_all, sp_do_all K), (A.do_circle, sp_do_circle K)]
theorem ok_do_deed (T : Txt K mg A D) (U : Tab K w mg A) : FnOk P w K mg base CX0 30 A.do_deed D.do_deed ["pairs", "deed"] (sp_do_deed K) := by
  obtain ⟨a_DEED_STEPS, g_DEED_STEPS, _, _, kd_DEED_STEPS, nx_DEED_STEPS⟩ := U.d_DEED_STEPS
  have held : ∀ q ∈ fullSS K A, Held P w K mg base 29 q.1 q.2 := by
    intro q hq
    simp only [fullSS, stSS, List.cons_append, List.nil_append, List.mem_cons, List.not_mem_nil, or_false] at hq
    rcases hq with rfl | rfl | rfl | rfl | rfl | rfl | rfl | rfl
    · exact ⟨_, _, (ok_do_put T).mono (by decide), T.F_do_put.kp, T.b_do_put⟩
    · exact ⟨_, _, (ok_do_drop T).mono (by decide), T.F_do_drop.kp, T.b_do_drop⟩
    · exact ⟨_, _, (ok_do_get T).mono (by decide), T.F_do_get.kp, T.b_do_get⟩
    · exact ⟨_, _, (ok_do_add T).mono (by decide), T.F_do_add.kp, T.b_do_add⟩
    · exact ⟨_, _, (ok_do_swap T).mono (by decide), T.F_do_swap.kp, T.b_do_swap⟩
    · exact ⟨_, _, (ok_do_list T).mono (by decide), T.F_do_list.kp, T.b_do_list⟩
    · exact ⟨_, _, (ok_do_all T U).mono (by decide), T.F_do_all.kp, T.b_do_all⟩
    · exact ⟨_, _, (ok_do_circle T).mono (by decide), T.F_do_circle.kp, T.b_do_circle⟩
  refine T.F_do_deed.ok sc_do_deed (fun vs H Q E h => len_do_deed h) (fun cdv A0 outer s H vs Q E hr h => ?_)
  refine ⟨_, (pss_cons (ps_set (i := 2) sc_do_deed.nd rfl (Or.inl rfl) (pe_ix ix_kdict (pe_glob (v := .ref a_DEED_STEPS) rfl g_DEED_STEPS rfl) (pe_ix ix_tup (pv 1) pe_int (fun _ _ => rfl)) (fun _ _ => rfl)))
  (pss_one (ps_ret (pe_callS (i := 2) held hr rfl (Or.inl rfl) (pa_cons (pv 0) (pa_cons (pv 1) pa_nil)))))), ?_⟩
  obtain ⟨a, x, ps, d, rfl, hp, hl, hx, hf, k⟩ := h
  obtain ⟨r, er⟩ := encD_head d
  have hx0 := hx
  rw [er] at hx
  obtain ⟨t, xs, rfl, ht, hr1⟩ := rp_head hx
  have got : ∃ f sp, (f, sp) ∈ fullSS K A ∧ PySem.W.nsIn K a_DEED_STEPS d.word = some (some (.ref f)) ∧ ∀ H1, Ex H H1 → ∀ Q : VK, RetPA K (stepD ps d) H1 Q → sp [.ref a, .ref t] H1 Q fun _ _ _ => False := by
    cases d with
    | one l =>
      have go : ∀ (f : Addr) (g : Lone → Bool) (_ : (f, spStep g K) ∈ fullSS K A) (_ : PySem.W.nsIn K a_DEED_STEPS l.word = some (some (.ref f))) (_ : g l = true), ∃ f sp, (f, sp) ∈ fullSS K A ∧ PySem.W.nsIn K a_DEED_STEPS l.word = some (some (.ref f)) ∧ ∀ H1, Ex H H1 → ∀ Q : VK, RetPA K (stepD ps (.one l)) H1 Q → sp [.ref a, .ref t] H1 Q fun _ _ _ => False := fun f g h1 h2 h3 =>
        ⟨f, spStep g K, h1, h2, fun H1 e Q q => ⟨a, _, ps, l, rfl, hp.ex e, by omega, hx0.ex e, hf, h3, q⟩⟩
      cases l with
      | put _ _ => exact go A.do_put isPut (by simp [fullSS, stSS]) (nx_DEED_STEPS "put") rfl
      | drop _ => exact go A.do_drop isDrop (by simp [fullSS, stSS]) (nx_DEED_STEPS "drop") rfl
      | get _ => exact go A.do_get isGet (by simp [fullSS, stSS]) (nx_DEED_STEPS "get") rfl
      | add _ _ => exact go A.do_add isAdd (by simp [fullSS, stSS]) (nx_DEED_STEPS "add") rfl
      | swap _ _ _ => exact go A.do_swap isSwap (by simp [fullSS, stSS]) (nx_DEED_STEPS "swap") rfl
    | list b c => exact ⟨A.do_list, sp_do_list K, by simp [fullSS], nx_DEED_STEPS "list", fun H1 e Q q => ⟨a, _, ps, b, c, rfl, hp.ex e, hl, hx0.ex e, q⟩⟩
    | all ls => exact ⟨A.do_all, sp_do_all K, by simp [fullSS], nx_DEED_STEPS "all", fun H1 e Q q => ⟨a, _, ps, ls, rfl, hp.ex e, hl, hx0.ex e, hf, q⟩⟩
    | circle c => exact ⟨A.do_circle, sp_do_circle K, by simp [fullSS], nx_DEED_STEPS "circle", fun H1 e Q q => ⟨a, _, ps, c, rfl, hp.ex e, hx0.ex e, q⟩⟩
  obtain ⟨f, sp, hm, hn, hgo⟩ := got
  refine q_asg (ev_op ev_c (ev_nth (i := 0) (ev_var rfl) ht rfl) (rv_kd kd_DEED_STEPS hn)) fun H1 e1 => ?_
  refine n_ret (c_callS (p := (f, sp)) hm rfl (ea_cons (ev_var rfl) (ea_cons (ev_var rfl) ea_nil)) fun H2 e2 => ?_)
  have e := e1.trans e2
  exact hgo H2 e _ fun t' p v H3 e3 g1 g2 g3 => k t' p v H3 (e.trans e3) g1 g2 g3
/-- the answer of done: what it tells of the keys, too -/
def sp_done (K : PySem.W.Frag) : Sp := fun vs H Q _ => ∃ a x ps d, vs = [.ref a, x] ∧ PairsAt H a ps ∧ PVal ps ∧ Rp K H x (Deed.enc d) ∧ d.Good ∧
  ∀ t p v ys H', Ex H H' → SqT K H' t [.ref p, v] → PairsAt H' p (stepD ps d).1 → H' p = some (.dK (kv (pick (stepD ps d).1 ys))) → ys.Perm (keysP (stepD ps d).1) → PyProof.Rows.sortedS ys = true → Rp K H' v (stepD ps d).2 → Q (.ref t) H'
theorem len_done {vs : List V} {H : Hp} {Q : VK} {E : XK} (h : sp_done K vs H Q E) : vs.length = 2 := by
  obtain ⟨a, x, ps, d, rfl, _⟩ := h
  rfl
theorem rp_ref {H : Hp} {x : V} {d : Deed} (h : Rp K H x d.enc) : ∃ t, x = .ref t := by
  obtain ⟨r, e⟩ := encD_head d
  rw [e] at h
  obtain ⟨t, _, rfl, _⟩ := rp_head h
  exact ⟨t, rfl⟩
theorem ok_done (T : Txt K mg A D) (U : Tab K w mg A) : FnOk P w K mg base CX0 34 A.done D.done ["pairs", "deed"] (sp_done K) := by
  have G_check_deed : FnOk P w K mg base CX0 25 A.check_deed D.check_deed ["deed"] (sp_check_deed K) := ok_check_deed T U
  have G_do_deed : FnOk P w K mg base CX0 30 A.do_deed D.do_deed ["pairs", "deed"] (sp_do_deed K) := ok_do_deed T U
  have G_check_pairs : FnOk P w K mg base CX0 6 A.check_pairs D.check_pairs ["pairs"] (sp_check_pairs K) := ok_check_pairs T
  have G_by_keys : FnOk P w K mg base CX0 1 A.by_keys D.by_keys ["table"] (sp_by_keys K) := ok_by_keys T
  refine T.F_done.ok sc_done (fun vs H Q E h => len_done h) (fun cdv A0 outer s H vs Q E hr h => ?_)
  refine ⟨_, (pss_cons (ps_expr (pe_call G_check_pairs (hr.mono (by decide)) rfl T.g_check_pairs T.F_check_pairs.kp T.b_check_pairs .nil pass0 (pa_cons (pv 0) pa_nil)))
  (pss_cons (ps_expr (pe_call G_check_deed (hr.mono (by decide)) rfl T.g_check_deed T.F_check_deed.kp T.b_check_deed .nil pass0 (pa_cons (pv 1) pa_nil)))
  (pss_cons (ps_asg (pe_call G_do_deed (hr.mono (by decide)) rfl T.g_do_deed T.F_do_deed.kp T.b_do_deed .nil pass0 (pa_cons (pv 0) (pa_cons (pv 1) pa_nil))) (pg_tup rfl (pgs_cons (pg_name (i := 2) sc_done.nd rfl (Or.inl rfl)) (pgs_cons (pg_name (i := 3) sc_done.nd rfl (Or.inl rfl)) pgs_nil))))
  (pss_one (ps_ret (pe_tup (pa_cons (pe_call G_by_keys (hr.mono (by decide)) rfl T.g_by_keys T.F_by_keys.kp T.b_by_keys .nil pass0 (pa_cons (pv 2) pa_nil)) (pa_cons (pv 3) pa_nil)))))))), ?_⟩
  obtain ⟨a, x, ps, d, rfl, hp, hv, hx, hg, k⟩ := h
  refine q_drop (ev_call (ea_cons (ev_var rfl) ea_nil) (sv_check_pairs hp hv)) fun H1 e1 => ?_
  refine q_drop (ev_call (ea_cons (ev_var rfl) ea_nil) (sv_check_deed (hx.ex e1) (by have := hg.size; omega) (enc_some d) hg.deed)) fun H2 e2 => ?_
  have e02 := e1.trans e2
  refine q_callPA (K := K) (r := stepD ps d) (ea_cons (ev_var rfl) (ea_cons (ev_var rfl) ea_nil)) (fun H3 Q3 e3 r3 => ⟨a, x, ps, d, rfl, (hp.ex e02).ex e3, hv.1, (hx.ex e02).ex e3, hg.fit, r3⟩) fun p v H3 e3 g2 g3 => ?_
  refine n_ret (n_tup (n_cons ?_))
  refine c_call (ea_cons (ev_var rfl) ea_nil) fun H4 e4 => ⟨p, (stepD ps d).1, rfl, g2.ex e4, by have := stepD_len hv.1 d; omega, fun q ys H5 e5 hq yp ysd n z => ?_⟩
  refine n_cons (n_var rfl (n_nil ⟨sz_of (by simp), fun t ht => ?_⟩))
  have eT : Ex H5 (upd H5 t (.tup [.ref q, v])) := Ex.new ht
  have pq : PairsAt H5 q (stepD ps d).1 := ⟨_, pick_perm n yp, n, z, hq⟩
  exact k t q v ys _ ((((e02.trans e3).trans e4).trans e5).trans eT) (st_of upd_same) (pq.ex eT) (eT _ _ hq) yp ysd ((g3.ex (e4.trans e5)).ex eT)
def sp_run_deeds (K : PySem.W.Frag) : Sp := fun vs H Q _ => ∃ a x ps ds, vs = [.ref a, x] ∧ PairsAt H a ps ∧ PVal ps ∧ Rp K H x (.tup (ds.map Deed.enc)) ∧ (∀ d ∈ ds, d.Good) ∧ ds.length ≤ 40 ∧
  ∀ t p v ys H', Ex H H' → SqT K H' t [.ref p, v] → PairsAt H' p (runD ps ds).1 → H' p = some (.dK (kv (pick (runD ps ds).1 ys))) → ys.Perm (keysP (runD ps ds).1) → PyProof.Rows.sortedS ys = true → Rp K H' v (.tup (runD ps ds).2) → Q (.ref t) H'
theorem len_run_deeds {vs : List V} {H : Hp} {Q : VK} {E : XK} (h : sp_run_deeds K vs H Q E) : vs.length = 2 := by
  obtain ⟨a, x, ps, ds, rfl, _⟩ := h
  rfl
theorem ok_run_deeds (T : Txt K mg A D) (U : Tab K w mg A) : FnOk P w K mg base CX0 34 A.run_deeds D.run_deeds ["pairs", "deeds"] (sp_run_deeds K) := by
  have G_is_deed : FnOk P w K mg base CX0 24 A.is_deed D.is_deed ["value"] (sp_is_deed K) := ok_is_deed T U
  have G_do_deed : FnOk P w K mg base CX0 30 A.do_deed D.do_deed ["pairs", "deed"] (sp_do_deed K) := ok_do_deed T U
  have G_check_pairs : FnOk P w K mg base CX0 6 A.check_pairs D.check_pairs ["pairs"] (sp_check_pairs K) := ok_check_pairs T
  have G_by_keys : FnOk P w K mg base CX0 1 A.by_keys D.by_keys ["table"] (sp_by_keys K) := ok_by_keys T
  refine T.F_run_deeds.ok sc_run_deeds (fun vs H Q E h => len_run_deeds h) (fun cdv A0 outer s H vs Q E hr h => ?_)
  refine ⟨_, (pss_cons (ps_expr (pe_call G_check_pairs (hr.mono (by decide)) rfl T.g_check_pairs T.F_check_pairs.kp T.b_check_pairs .nil pass0 (pa_cons (pv 0) pa_nil)))
  (pss_cons (ps_if (PW.pt (pw_or (pt_not (pt_val (pe_callB call_isi (by rfl) T.b_isinstance (by decide +kernel) (pa_cons (pv 1) (pa_cons (pe_bltn (v := .ty "tuple") (u := .type "tuple") (by rfl) T.b_tuple (by decide +kernel) rfl) pa_nil))))) (pw_or1 (pt_not (pt_val (pe_callB (cr_all rfl) (by rfl) T.b_all (by decide +kernel) (pa_cons (pe_lc (own := [("deed", 2)]) (g := gName 2) (tt := tYes) rfl sc_run_deeds.nd (pi_tup (pv 1)) (blkOk_by (own := [("deed", 2)]) (N := N_run_deeds) (sc := defScope s_run_deeds) (by decide +kernel)) (fun _ _ _ _ _ => by exact pg_name (i := 2) sc_run_deeds.nd rfl (Or.inl rfl)) (fun _ _ _ _ _ => by exact pts_nil) (fun _ _ _ _ _ => by exact (pe_call G_is_deed (hr.mono (by decide)) rfl T.g_is_deed T.F_is_deed.kp T.b_is_deed .nil pass0 (pa_cons (pv 2) pa_nil)))) pa_nil))))))) (pss_one ps_never) pss_nil)
  (pss_cons (ps_set (i := 3) sc_run_deeds.nd rfl (Or.inl rfl) (pe_lst pa_nil))
  (pss_cons (ps_set (i := 4) sc_run_deeds.nd rfl (Or.inl rfl) (pv 0))
  (pss_cons (ps_for PassesOwn.never rfl (pi_tup (pv 1)) (pg_name (i := 2) sc_run_deeds.nd rfl (Or.inl rfl)) (pss_cons (ps_asg (pe_call G_do_deed (hr.mono (by decide)) rfl T.g_do_deed T.F_do_deed.kp T.b_do_deed .nil pass0 (pa_cons (pv 4) (pa_cons (pv 2) pa_nil))) (pg_tup rfl (pgs_cons (pg_name (i := 4) sc_run_deeds.nd rfl (Or.inl rfl)) (pgs_cons (pg_name (i := 5) sc_run_deeds.nd rfl (Or.inl rfl)) pgs_nil))))
  (pss_one (ps_expr (pe_bm PySem.F.plainAttrs_list PySem.F.slot_list_append PySem.F.type_list_append mt_append (pv 3) (pa_cons (pv 5) pa_nil))))))
  (pss_one (ps_ret (pe_tup (pa_cons (pe_call G_by_keys (hr.mono (by decide)) rfl T.g_by_keys T.F_by_keys.kp T.b_by_keys .nil pass0 (pa_cons (pv 4) pa_nil)) (pa_cons (pe_callTy call_tuple_of (by rfl) T.b_tuple (by decide +kernel) (pa_cons (pv 3) pa_nil)) pa_nil)))))))))), ?_⟩
  obtain ⟨a, x, ps, ds, rfl, hp, hv, hx, hg, hl, k⟩ := h
  obtain ⟨b, xs, rfl, hb, hr1⟩ := hx.tupI
  have hlen : xs.length = ds.length := by rw [hr1.len, List.length_map]
  refine q_drop (ev_call (ea_cons (ev_var rfl) ea_nil) (sv_check_pairs hp hv)) fun H1 e1 => ?_
  refine q_when (b := false) (et_is (et_or (a := false) (b := false) (et_is (et_not (et_B (ev_cb (ea_cons (ev_var rfl) (ea_cons ev_c ea_nil)) (rc_tup (hx.ex e1))))) rfl) fun _ => et_is (et_not (et_B (ev_all (bs := (List.range xs.length).map fun _ => true) ?_))) ?_) rfl) (fun z => by cases z) fun _ H2 e2 => ?_
  · rw [List.map_map, ← given_map (f := fun _ => true) (fun _ => rfl)]
    refine el_lcT (fun _ => true) _ (ev_var rfl) (ex_t e1 hb) (by omega) (fun _ => rfl) (fun i y H3 e3 hy => et_yes) (fun i y H3 e3 hy _ => ?_)
    obtain ⟨d, hd, hrp⟩ := RpAll.get _ _ _ _ (hr1.ex (e1.trans e3)) hy
    rw [List.getElem?_map] at hd
    obtain ⟨dd, hdd, rfl⟩ : ∃ l, ds[i]? = some l ∧ Deed.enc l = d := by
      cases g : ds[i]? with
      | none => rw [g] at hd; cases hd
      | some l => rw [g] at hd; exact ⟨l, rfl, Option.some.inj hd⟩
    have hgd := hg dd (List.mem_of_getElem? hdd)
    exact ev_is (ev_call (ea_cons (ev_var rfl) ea_nil) (sv_deed hrp (by have := hgd.size; omega) (enc_some dd))) (congrArg V.bl hgd.deed)
  · rw [List.all_map]
    exact congrArg (fun b => !b) (all_yes _)
  have e02 := e1.trans e2
  refine q_asgL (el_lst ea_nil (by simp)) fun l0 H3 hl0 e3 h3 => ?_
  refine q_asg (ev_var rfl) fun H4 e4 => ?_
  have e04 := (e02.trans e3).trans e4
  refine q_forT (ev_var rfl) (ex_t e04 hb) (fun i σ' H' => ∃ p as v4 v5, σ' = [some (.ref a), some (.ref b), v4, some (.ref l0), some (.ref p), v5] ∧ Ex H H' ∧ PairsAt H' p (runD ps (ds.take i)).1 ∧ H' l0 = some (.lst as) ∧ RpAll K H' as (runD ps (ds.take i)).2) (fun H5 e5 => ?_) (fun i σ' H' _ q => ?_) (fun i y σ' H' hy q => ?_) (fun σ' H' q => ?_)
  · exact ⟨a, [], none, none, rfl, e04.trans e5, hp.ex (e04.trans e5), (e4.trans e5) _ _ h3, .nil⟩
  · obtain ⟨_, _, _, _, _, e, _⟩ := q
    exact ex_t e hb
  · obtain ⟨p, as, v4, v5, rfl, e, hp', has, ras⟩ := q
    obtain ⟨d, hd, hrd⟩ := RpAll.get _ _ _ _ (hr1.ex e) hy
    rw [List.getElem?_map] at hd
    obtain ⟨dd, hdd, rfl⟩ : ∃ l, ds[i]? = some l ∧ Deed.enc l = d := by
      cases g : ds[i]? with
      | none => rw [g] at hd; cases hd
      | some l => rw [g] at hd; exact ⟨l, rfl, Option.some.inj hd⟩
    have hgd := hg dd (List.mem_of_getElem? hdd)
    have et : runD ps (ds.take (i + 1)) = runDF (runD ps (ds.take i)) dd := runD_take hdd
    refine q_callPA (K := K) (r := stepD (runD ps (ds.take i)).1 dd) (ea_cons (ev_var rfl) (ea_cons (ev_var rfl) ea_nil)) (fun H4 Q4 e4 r4 => ⟨p, y, _, dd, rfl, hp'.ex e4, runD_24 hv.1 _, hrd.ex e4, hgd.fit, r4⟩) fun p2 v2 H4 e4 g2 g3 => ?_
    refine s_app (e4 _ _ has) (ev_var rfl) (ev_var rfl) (by rw [ras.len, runD_len, List.length_take]; omega) fun H6 e6 => ?_
    have h6 : H6 l0 = some (.lst as) := e6 _ _ (e4 _ _ has)
    have nl0 : H l0 = none := fresh_back e02 hl0
    refine ⟨p2, as ++ [v2], _, _, rfl, Ex.mut ((e.trans e4).trans e6) nl0, ?_, upd_same, ?_⟩
    · rw [et]
      exact (g2.ex e6).exT (ExT.upd h6)
    · rw [et]
      exact ((ras.ex (e4.trans e6)).exL (ExL.upd h6)).app (.cons ((g3.ex e6).exL (ExL.upd h6)) .nil)
  · obtain ⟨p, as, v4, v5, rfl, e, hp', has, ras⟩ := q
    have tk : ds.take xs.length = ds := by rw [hlen, List.take_length]
    rw [tk] at hp' ras
    refine n_ret (n_tup (n_cons ?_))
    refine c_call (ea_cons (ev_var rfl) ea_nil) fun H5 e5 => ⟨p, (runD ps ds).1, rfl, hp'.ex e5, by have := runD_24 hv.1 ds; omega, fun q ys H6 e6 hq yp ysd n z => ?_⟩
    have e56 := e5.trans e6
    refine n_cons ?_
    refine (ed_tupOf (K := K) (ds := (runD ps ds).2) (ev_var rfl) (e56 _ _ has) (ras.ex e56)) H6 (Ex.refl _) _ fun v H7 e7 hv7 => n_nil ⟨sz_of (by simp), fun t ht => ?_⟩
    have eT : Ex H7 (upd H7 t (.tup [.ref q, v])) := Ex.new ht
    have pq : PairsAt H6 q (runD ps ds).1 := ⟨_, pick_perm n yp, n, z, hq⟩
    exact k t q v ys _ (((e.trans e56).trans e7).trans eT) (st_of upd_same) ((pq.ex e7).ex eT) (eT _ _ (e7 _ _ hq)) yp ysd (hv7.ex eT)
end
end K0

namespace K0
open PySem L2 Evl
section
variable {K : PySem.W.Frag} {H H' : Hp}
mutual
/-- clean data stays where tuples stay -/
theorem Rp.byT {v : V} {d : D} (c : d.clean = true) (h : ∀ a xs, SqT K H a xs → SqT K H' a xs) : Rp K H v d → Rp K H' v d
  | .non => .non
  | .bl b => .bl b
  | .int i => .int i
  | .str s => .str s
  | .tup g r => .tup (h _ _ g) (RpAll.byT c h r)
  | .lst g => by cases c
  | .dct g => by cases c
theorem RpAll.byT {vs : List V} {ds : List D} (c : D.cleanL ds = true) (h : ∀ a xs, SqT K H a xs → SqT K H' a xs) : RpAll K H vs ds → RpAll K H' vs ds
  | .nil => .nil
  | .cons g r => by
    have c' := Bool.and_eq_true_iff.mp c
    exact .cons (Rp.byT c'.1 h g) (RpAll.byT c'.2 h r)
end
end
section
variable {K : PySem.W.Frag} {σ : L2.St} {H : Hp} {te td : TE} {t : TT}
/-- [.. for k in d if ..] of data, d locked -/
theorem edl_keysF {d : Addr} {u : List (Key × V)} {ks : List Str} {j : Nat} {vs : List Nat} {Pk : Str → Bool} {G : Str → D} (h : ∀ H1, Ev td σ H1 (.ref d)) (hd : H d = some (.dK u)) (hk : u.map (·.1) = ks.map Sum.inr) (hz : ks.length ≤ 40000) (hw : ∀ x, wipe ((wipe σ vs).set j (some x)) vs = wipe σ vs)
    (ht : ∀ y H', y ∈ ks → (∀ a xs, SqT K H a xs → SqT K H' a xs) → EvT t ((wipe σ vs).set j (some (.str y))) H' (Pk y)) (he : ∀ y H' od, y ∈ ks → Pk y = true → (∀ a xs, SqT K H a xs → SqT K H' a xs) → H' d = some (.frz od (.dK u)) → EvD K te ((wipe σ vs).set j (some (.str y))) H' (G y)) (hc : ∀ y, y ∈ ks → Pk y = true → (G y).clean = true) :
    EvDL K (tLockE (tLc (iKeys td) (gName j) t te vs)) σ H ((ks.filter Pk).map G) := fun H1 e Q q => by
  have g := e _ _ hd
  refine ⟨d, _, g, trivial, fun od => ?_⟩
  refine h _ _ (Ex.refl _) _ fun H2 e2 => ?_
  have h2 := e2 _ _ (upd_same (H := H1) (a := d) (o := .frz od (.dK u)))
  refine ⟨d, od, rfl, .inl ⟨u, h2, ?_⟩⟩
  have wk0 := walk_keys (d := d) (o := od) (kvs := u)
  have lu : u.length = ks.length := by
    have := congrArg List.length hk
    rwa [List.length_map, List.length_map] at this
  rw [lu] at wk0
  have wk : Walk (Itk d od u) ks.length (fun H => H d = some (.frz od (.dK u))) (YAt (ks.map V.str)) := wk0.mono (fun _ z => z) fun i H x H' hi _ y => by
    obtain ⟨e1, k, v, h1, h3⟩ := y
    refine ⟨e1, ?_⟩
    have h4 : (u.map (·.1))[i]? = some k := by rw [List.getElem?_map, h1]; rfl
    rw [hk, List.getElem?_map] at h4
    rw [List.getElem?_map]
    cases z : ks[i]? with
    | none => rw [z] at h4; cases h4
    | some s =>
      rw [z] at h4
      cases h4
      rw [h3]
      rfl
  have tp : ∀ H', Ex H2 H' → ∀ a xs, SqT K H a xs → SqT K H' a xs := fun H' e' a xs hs => by
    refine ex_t (e2.trans e') ?_
    rcases ex_t e hs with (hs | ⟨o, hs⟩) | hs
    · refine .inl (.inl ?_)
      rw [upd_ne]
      · exact hs
      · intro z
        rw [z, g] at hs
        cases hs
    · refine .inl (.inr ⟨o, ?_⟩)
      rw [upd_ne]
      · exact hs
      · intro z
        rw [z, g] at hs
        cases hs
    · exact .inr hs
  refine lc_dataF (K := K) (Q := fun v H' => H' d = some (.frz od (.dK u)) ∧ Q v (upd H' d (.dK u))) wk (fun H' e' => e' _ _ h2) hz hw (fun y H' hy e' => ht y H' hy (tp H' e')) (fun y H' hy hk e' => he y H' od hy hk (tp H' e') (e' _ _ h2)) fun p xs H3 hp e3 h3 r => ?_
  have hdl : H3 d = some (.frz od (.dK u)) := e3 _ _ h2
  have npd : p ≠ d := fun z => by
    rw [z, h2] at hp
    cases hp
  have hp1 : H1 p = none := by
    have := fresh_back e2 hp
    rwa [upd_ne npd] at this
  refine ⟨hdl, q p xs _ hp1 (fun b o hb => ?_) (by rw [upd_ne npd]; exact h3) ?_⟩
  · by_cases c : b = d
    · subst c
      rw [upd_same]
      rw [g] at hb
      exact hb
    · rw [upd_ne c]
      exact e3 _ _ (e2 _ _ (by rw [upd_ne c]; exact hb))
  · -- unlocked, clean data is as it was
    refine RpAll.byT (H := H3) ?_ (fun a xs hs => ?_) r
    · rw [cleanL_all]
      refine List.all_eq_true.mpr fun x hx => ?_
      obtain ⟨y, hy, rfl⟩ := List.mem_map.mp hx
      obtain ⟨hy1, hy2⟩ := List.mem_filter.mp hy
      exact hc y hy1 hy2
    · rcases hs with (hs | ⟨o, hs⟩) | hs
      · refine .inl (.inl ?_)
        rw [upd_ne]
        · exact hs
        · intro z
          rw [z, hdl] at hs
          cases hs
      · refine .inl (.inr ⟨o, ?_⟩)
        rw [upd_ne]
        · exact hs
        · intro z
          rw [z, hdl] at hs
          cases hs
      · exact .inr hs
end
end K0

namespace K0
open PySem L2 Evl
/-! ### dicts from lists of pairs -/
def rDictP (K : PySem.W.Frag) : List V → Hp → VK → Prop := fun xs H Q => ∃ (a : Addr) (ps : List Addr) (kvs : List (Key × V)), xs = [.ref a] ∧ SqL K H a (ps.map V.ref) ∧ Paired (fun p kv => SqT K H p [kV kv.1, kv.2]) ps kvs ∧ ∀ p, H p = none → Q (.ref p) (upd H p (.dK (mergeK [] kvs)))
theorem paired_rows {K : PySem.W.Frag} {H : Hp} : ∀ {xs : List V} {rows : Ps}, RpAll K H xs (rows.map prS) → AllAt rows → ∃ as : List Addr, xs = as.map V.ref ∧ Paired (fun p (q : Key × V) => SqT K H p [kV q.1, q.2]) as (kv rows)
  | [], [], _, _ => ⟨[], rfl, .nil⟩
  | [], p :: r, h, _ => by cases h
  | x :: xs, [], h, _ => by cases h
  | x :: xs, p :: r, h, z => by
    obtain ⟨d, ds, e, h1, h2⟩ := h.inv
    rw [List.map_cons] at e
    cases e
    obtain ⟨as, rfl, pr⟩ := paired_rows (xs := xs) (rows := r) h2 fun q hq => z q (List.mem_cons_of_mem _ hq)
    obtain ⟨t, v, rfl, ht, hv⟩ := rp_2 h1
    have ev := rp_atV (z p (List.mem_cons_self ..)) hv
    subst ev
    exact ⟨t :: as, rfl, .cons ht pr⟩
theorem merge_kv : ∀ (qs ps : Ps), NoTwo (ps ++ qs) → mergeK (kv ps) (kv qs) = kv (ps ++ qs)
  | [], ps, _ => by rw [List.append_nil]; rfl
  | q :: r, ps, n => by
    have n' : NoTwo ((ps ++ [q]) ++ r) := by rwa [List.append_assoc]
    have hno : hasP ps q.1 = false := by
      cases y : hasP ps q.1 with
      | false => rfl
      | true =>
        have h1 := has_mem.mp y
        unfold NoTwo keysP at n
        rw [List.map_append, List.nodup_append] at n
        exact absurd rfl (n.2.2 q.1 h1 q.1 (by simp))
    have ih := merge_kv r (ps ++ [q]) n'
    rw [List.append_assoc] at ih
    have ih2 : mergeK (kv (ps ++ [q])) (kv r) = kv (ps ++ q :: r) := ih
    rw [← ih2]
    show mergeK (putK (kv ps) (.inr q.1) (atV q.2)) (kv r) = _
    rw [put_kv]
    unfold putP
    rw [if_neg (by rw [hno]; decide)]
section
variable {K : PySem.W.Frag} {σ : L2.St} {H : Hp} {te : TE} {D : Ends} {tz : TS}
theorem q_dictL {i : Nat} {rows : Ps} (h : EvDL K te σ H (rows.map prS)) (n : NoTwo rows) (z : AllAt rows) (k : ∀ p H1, H p = none → Ex H H1 → H1 p = some (.dK (kv rows)) → tz D (σ.set i (some (.ref p))) H1) :
    tSeq (tAsg (tCB (rDictP K) (tCons te tNil)) (gName i)) tz D σ H := h H (Ex.refl _) _ fun l xs H1 hl e1 h1 r => by
  obtain ⟨as, rfl, pr⟩ := paired_rows r z
  refine ⟨l, as, _, rfl, sq_of h1, pr, fun p hp => ?_⟩
  have := merge_kv rows [] n
  rw [List.nil_append] at this
  rw [show mergeK [] (kv rows) = kv rows from this]
  exact k p _ (fresh_back e1 hp) (e1.trans (Ex.new hp)) upd_same
theorem ep_dictL {rows : Ps} (h : EvDL K te σ H (rows.map prS)) (n : NoTwo rows) (z : AllAt rows) : EvP (tCB (rDictP K) (tCons te tNil)) σ H rows := fun H0 e Q q => h H0 e _ fun l xs H1 hl e1 h1 r => by
  obtain ⟨as, rfl, pr⟩ := paired_rows r z
  refine ⟨l, as, _, rfl, sq_of h1, pr, fun p hp => ?_⟩
  have := merge_kv rows [] n
  rw [List.nil_append] at this
  rw [show mergeK [] (kv rows) = kv rows from this]
  exact q p _ (e1.trans (Ex.new hp)) (pairs_at n z upd_same)
end
theorem lacks_drop {ps : Ps} (n : NoTwo ps) (h : ps.length ≤ 24) (k : Str) : decide (23 < (dropP ps k).length) = lacks ps k := by
  unfold lacks
  cases c : hasP ps k with
  | false =>
    rw [drop_no c]
    exact decide_eq_decide.mpr (by omega)
  | true =>
    show decide (23 < (dropP ps k).length) = false
    refine decide_eq_false ?_
    have h1 := (put_end n k .non).length_eq
    have h2 : (putP ps k .non).length = ps.length := by
      unfold putP
      rw [if_pos c, List.length_map]
    rw [List.length_append, h2] at h1
    have h3 : (dropP ps k).length + 1 = ps.length := h1
    omega
section
variable {P : Program} {w : World} {K : PySem.W.Frag} {mg : Str → Option Value} {base : Heap} {A : Ad} {D : Fd}
def D.whole : K0.D → Bool
  | .int _ => true | _ => false
def sp_law_st_is_whole (K : PySem.W.Frag) : Sp := sp1 K0.D.whole K
theorem len_law_st_is_whole {vs : List V} {H : Hp} {Q : VK} {E : XK} (h : sp_law_st_is_whole K vs H Q E) : vs.length = 1 := sp1_len h
/-- what a put of the law gives: None where there is no room -/
theorem neS {a b : Str} : (!decide (V.str a = V.str b)) = decide (a ≠ b) := by
  by_cases c : a = b
  · rw [c]
    simp
  · rw [decide_eq_false (fun z => c (V.str.inj z)), decide_eq_true c]
    rfl
end
end K0

namespace K0
open PySem L2 Evl
section
variable {K : PySem.W.Frag} {σ : L2.St} {H : Hp} {te td : TE} {ta : TA} {t u : TT} {D : Ends} {tz tu tw : TS} {ps : Ps} {d e : K0.D} {k : Str} {v w : V}
theorem q_parE {i j : Nat} (h : EvA ta σ H [v, w]) (k : ∀ H1, Ex H H1 → tz D ((σ.set i (some v)).set j (some w)) H1) : tSeq (tPar i j ta) tz D σ H := h H (Ex.refl H) _ fun H1 e => ⟨v, w, rfl, k H1 e⟩
theorem q_parD {i j : Nat} (h : EvDA K ta σ H [d, e]) (k : ∀ v w H1, Ex H H1 → Rp K H1 v d → Rp K H1 w e → tz D ((σ.set i (some v)).set j (some w)) H1) : tSeq (tPar i j ta) tz D σ H := h H (Ex.refl H) _ fun vs H1 e r => by
  cases r with | cons r1 r => cases r with | cons r2 r => cases r; exact ⟨_, _, rfl, k _ _ H1 e r1 r2⟩
theorem s_parD {i j : Nat} (h : EvDA K ta σ H [d, e]) (k : ∀ v w H1, Ex H H1 → Rp K H1 v d → Rp K H1 w e → D.nx ((σ.set i (some v)).set j (some w)) H1) : tPar i j ta D σ H := h H (Ex.refl H) _ fun vs H1 e r => by
  cases r with | cons r1 r => cases r with | cons r2 r => cases r; exact ⟨_, _, rfl, k _ _ H1 e r1 r2⟩
theorem q_asgD {i : Nat} (h : EvD K te σ H d) (k : ∀ v H1, Ex H H1 → Rp K H1 v d → tz D (σ.set i (some v)) H1) : tSeq (tAsg te (gName i)) tz D σ H := h H (Ex.refl H) _ k
theorem et_w {i : Nat} {x z : Str} {b : Bool} (h : σ[i]? = some (some (.str x))) (e : decide (x = z) = b) : EvT (tTest (tOp rEq (tVar i) (tC (.str z)))) σ H b := et_is (et_test (ev_op (ev_var h) ev_c (rv_eq rfl))) (by
  rw [← e]
  exact decide_eq_decide.mpr ⟨fun q => V.str.inj q, fun q => by rw [q]⟩)
theorem q_skip (h : EvT t σ H false) (k : ∀ H1, Ex H H1 → tz D σ H1) : tSeq (tIfS t tu tNext) tz D σ H := q_when h (fun z => by cases z) fun _ => k
theorem q_take (h : EvT t σ H true) (k : ∀ H1, Ex H H1 → tu { D with nx := tz D } σ H1) : tSeq (tIfS t tu tw) tz D σ H := q_if h (fun _ => k) fun z => by cases z
theorem q_else (h : EvT t σ H false) (k : ∀ H1, Ex H H1 → tw { D with nx := tz D } σ H1) : tSeq (tIfS t tu tw) tz D σ H := q_if h (fun z => by cases z) fun _ => k
theorem s_take (h : EvT t σ H true) (k : ∀ H1, Ex H H1 → tu D σ H1) : tIfS t tu tw D σ H := s_if h (fun _ => k) fun z => by cases z
theorem s_else (h : EvT t σ H false) (k : ∀ H1, Ex H H1 → tw D σ H1) : tIfS t tu tw D σ H := s_if h (fun z => by cases z) fun _ => k
theorem d_pa {Q : VK} (h1 : EvP te σ H ps) (h2 : EvD K td σ H d) (k : ∀ t p v H', Ex H H' → SqT K H' t [.ref p, v] → PairsAt H' p ps → Rp K H' v d → Q (.ref t) H') : tTup (tCons te (tCons td tNil)) σ H Q :=
  h1 H (Ex.refl H) _ fun p H1 e1 hp => h2 H1 e1 _ fun v H2 e2 hv => ⟨sz_of (by simp), fun t ht => k t p v _ ((e1.trans e2).trans (Ex.new ht)) (st_of upd_same) ((hp.ex e2).ex (Ex.new ht)) (hv.ex (Ex.new ht))⟩
end
def Lone.key : Lone → Str
  | .put k _ => k | .drop k => k | .get k => k | .add k _ => k | .swap k _ _ => k
def Lone.tail : Lone → List D
  | .put _ d => [d] | .add _ n => [.int n] | .swap _ o n => [o, n] | _ => []
theorem enc_two (l : Lone) : l.enc = .tup (.str l.word :: .str l.key :: l.tail) := by cases l <;> rfl
section
variable {P : Program} {w : World} {K : PySem.W.Frag} {mg : Str → Option Value} {base : Heap} {A : Ad} {D : Fd}
theorem addI_eq {ps : Ps} {k : Str} {t : Int} (h : bigI t = false) : addI ps k t = if (!(K0.D.int t).isNon && lacks ps k) = true then (ps, aD "full") else (exchP ps k (.int t), .tup [.str "sum", .int t]) := by
  unfold addI
  rw [if_neg (by rw [h]; decide)]
  rfl
end
end K0

namespace K0
open PySem L2 Evl
open SrtO (lessB)
/-! ### sorted([(text, value), ..]), the texts unlike -/
theorem nodup_inj {α β : Type} {f : α → β} : ∀ {l : List α}, (l.map f).Nodup → ∀ a ∈ l, ∀ b ∈ l, f a = f b → a = b
  | [], _, a, h, _, _, _ => by cases h
  | x :: l, n, a, ha, b, hb, e => by
    rw [List.map_cons, List.nodup_cons] at n
    rcases List.mem_cons.mp ha with h1 | h1
    · rcases List.mem_cons.mp hb with h2 | h2
      · rw [h1, h2]
      · rw [h1] at e
        exact absurd (List.mem_map.mpr ⟨b, h2, e.symm⟩) n.1
    · rcases List.mem_cons.mp hb with h2 | h2
      · rw [h2] at e
        exact absurd (List.mem_map.mpr ⟨a, h1, e⟩) n.1
      · exact nodup_inj n.2 a h1 b h2 e
def RowAt (K : PySem.W.Frag) (H : Hp) (x : V) (r : Str × D) : Prop := ∃ t, x = .ref t ∧ SqT K H t [.str r.1, atV r.2]
def rSortedR (K : PySem.W.Frag) : List V → Hp → VK → Prop := fun vs H Q => ∃ (a : Addr) (xs : List V) (rows : Ps), vs = [.ref a] ∧ SqL K H a xs ∧ Paired (RowAt K H) xs rows ∧ NoTwo rows ∧ AllAt rows ∧
  ∀ ys p, Paired (RowAt K H) ys (sortP rows) → H p = none → Q (.ref p) (upd H p (.lst ys))
theorem paired_map {α β : Type} {R : α → β → Prop} {f : α → β} : ∀ {xs : List α} {rs : List β}, Paired R xs rs → (∀ x r, x ∈ xs → r ∈ rs → R x r → f x = r) → xs.map f = rs
  | _, _, .nil, _ => rfl
  | _, _, .cons h r, k => by
    rw [List.map_cons, k _ _ (List.mem_cons_self ..) (List.mem_cons_self ..) h, paired_map r fun x y hx hy hr => k x y (List.mem_cons_of_mem _ hx) (List.mem_cons_of_mem _ hy) hr]
theorem paired_of {α β : Type} {R : α → β → Prop} {f : α → β} : ∀ {xs : List α}, (∀ x ∈ xs, R x (f x)) → Paired R xs (xs.map f)
  | [], _ => .nil
  | x :: xs, h => .cons (h x (List.mem_cons_self ..)) (paired_of fun y hy => h y (List.mem_cons_of_mem _ hy))
theorem paired_mem {α β : Type} {R : α → β → Prop} : ∀ {xs : List α} {rs : List β}, Paired R xs rs → ∀ x ∈ xs, ∃ r ∈ rs, R x r
  | _, _, .nil, x, h => by cases h
  | _, _, .cons h r, x, hx => by
    rcases List.mem_cons.mp hx with rfl | hx
    · exact ⟨_, List.mem_cons_self .., h⟩
    · obtain ⟨q, hq, hr⟩ := paired_mem r x hx
      exact ⟨q, List.mem_cons_of_mem _ hq, hr⟩
theorem cr_sortedR {X : Cx} : CallR X (.builtin "sorted") (rSortedR X.K) := by
  intro pins s σ H vs us Q I r h
  obtain ⟨a, xs, rows, rfl, hs, hp, n, z, q⟩ := h
  let rowOf : V → Str × D := fun x => open Classical in if h : ∃ r : Str × D, r.2.isAt = true ∧ RowAt X.K H x r then h.choose else ("", .non)
  have spec : ∀ x r, r ∈ rows → RowAt X.K H x r → rowOf x = r := fun x r hr hx => by
    have h0 : ∃ r : Str × D, r.2.isAt = true ∧ RowAt X.K H x r := ⟨r, z r hr, hx⟩
    have e : rowOf x = h0.choose := dif_pos h0
    obtain ⟨c1, t1, e1, g1⟩ := h0.choose_spec
    obtain ⟨t2, e2, g2⟩ := hx
    rw [e]
    generalize h0.choose = q at c1 g1
    rw [e1] at e2
    cases e2
    have := I.tuple_inj g1 g2
    have i1 : q.1 = r.1 := V.str.inj (List.cons.inj this).1
    have i2 : atV q.2 = atV r.2 := (List.cons.inj (List.cons.inj this).2).1
    exact Prod.ext i1 (atV_inj c1 (z r hr) i2)
  have em : xs.map rowOf = rows := paired_map hp fun x r _ hr hx => spec x r hr hx
  have at_ : ∀ x ∈ xs, RowAt X.K H x (rowOf x) := fun x hx => by
    obtain ⟨r, hr, h1⟩ := paired_mem hp x hx
    rw [spec x r hr h1]
    exact h1
  have nd : (xs.map fun x => (rowOf x).1).Nodup := by
    have : xs.map (fun x => (rowOf x).1) = keysP rows := by
      unfold keysP
      rw [← em, List.map_map]
      rfl
    rw [this]
    exact n
  refine cr_sortedTx pins s σ H _ us Q I r ⟨a, xs, fun x => (rowOf x).1, rfl, hs, fun x hx => ?_, nodup_inj nd, fun ys p pm pw hp2 => q ys p ?_ hp2⟩
  · obtain ⟨t, e, g⟩ := at_ x hx
    exact ⟨t, _, e, g⟩
  · have el : ys.map rowOf = sortP rows := by
      refine sortP_uniq ?_ n (List.pairwise_map.mpr pw)
      rw [← em]
      exact pm.map _
    rw [← el]
    exact paired_of fun x hx => at_ x (pm.mem_iff.mp hx)
section
variable {K : PySem.W.Frag} {σ : L2.St} {H : Hp} {te : TE}
theorem rows_paired {H : Hp} : ∀ {xs : List V} {rows : Ps}, RpAll K H xs (rows.map prS) → AllAt rows → Paired (RowAt K H) xs rows
  | [], [], _, _ => .nil
  | [], p :: r, h, _ => by cases h
  | x :: xs, [], h, _ => by cases h
  | x :: xs, p :: r, h, z => by
    obtain ⟨d, ds, e, h1, h2⟩ := h.inv
    rw [List.map_cons] at e
    cases e
    obtain ⟨t, v, rfl, ht, hv⟩ := rp_2 h1
    have ev := rp_atV (z p (List.mem_cons_self ..)) hv
    subst ev
    exact .cons ⟨t, rfl, ht⟩ (rows_paired h2 fun q hq => z q (List.mem_cons_of_mem _ hq))
theorem paired_rows2 {H : Hp} : ∀ {xs : List V} {rows : Ps}, Paired (RowAt K H) xs rows → AllAt rows → RpAll K H xs (rows.map prS)
  | _, _, .nil, _ => .nil
  | _, _, .cons h r, z => by
    obtain ⟨t, rfl, ht⟩ := h
    exact .cons (.tup ht (.cons (.str _) (.cons (atV_rp (z _ (List.mem_cons_self ..))) .nil))) (paired_rows2 r fun q hq => z q (List.mem_cons_of_mem _ hq))
theorem ed_sortR {rows : Ps} (h : EvDL K te σ H (rows.map prS)) (n : NoTwo rows) (z : AllAt rows) : EvD K (tCB (rTupOf K) (tCons (tCB (rSortedR K) (tCons te tNil)) tNil)) σ H (.tup ((sortP rows).map prS)) := fun H1 e Q q =>
  h H1 e _ fun p xs H2 hp e2 h2 r => ⟨p, xs, rows, rfl, sq_of h2, rows_paired r z, n, z, fun ys l pd hl => by
    have rr := paired_rows2 pd (z.perm (sortP_perm rows))
    have eN : Ex H2 (upd H2 l (.lst ys)) := Ex.new hl
    exact ⟨l, ys, rfl, .inl ⟨sq_of upd_same, fun m hm => q (.ref m) _ ((e2.trans eN).trans (Ex.new hm)) (.tup (st_of upd_same) ((rr.ex eN).ex (Ex.new hm)))⟩⟩⟩
theorem q_parPL {i j : Nat} {v : V} {D : Ends} {tz : TS} (h : Ev te σ H v) (k : ∀ l H1, H l = none → Ex H H1 → H1 l = some (.lst []) → tz D ((σ.set i (some v)).set j (some (.ref l))) H1) : tSeq (tPar i j (tCons te (tCons (tLst tNil) tNil))) tz D σ H :=
  h H (Ex.refl H) _ fun H1 e => ⟨sz_of (by simp), fun l hl => ⟨v, .ref l, rfl, k l _ (fresh_back e hl) (e.trans (Ex.new hl)) upd_same⟩⟩
end
end K0

namespace K0
open PySem L2 Evl
section
variable {K : PySem.W.Frag} {σ : L2.St} {H : Hp}
theorem et_wn {i : Nat} {x z : Str} {b : Bool} {t : Addr} {xs : List V} (h : σ[i]? = some (some (.ref t))) (ht : SqT K H t (.str x :: xs)) (e : decide (x = z) = b) : EvT (tTest (tOp rEq (tOp (rIxT K) (tVar i) (tC (.int 0))) (tC (.str z)))) σ H b := et_is (et_test (ev_op (ev_nth (i := 0) (ev_var h) ht rfl) ev_c (rv_eq rfl))) (by
  rw [← e]
  exact decide_eq_decide.mpr ⟨fun q => V.str.inj q, fun q => by rw [q]⟩)
end
theorem word_in (l : Lone) : l.word ∈ lotWords := by cases l <;> simp [lotWords, Lone.word]
theorem word_list (l : Lone) : decide (l.word = "list") = false := (by decide +kernel : ∀ s ∈ lotWords, decide (s = "list") = false) _ (word_in l)
theorem word_circle (l : Lone) : decide (l.word = "circle") = false := (by decide +kernel : ∀ s ∈ lotWords, decide (s = "circle") = false) _ (word_in l)
theorem word_all (l : Lone) : decide (l.word = "all") = false := (by decide +kernel : ∀ s ∈ lotWords, decide (s = "all") = false) _ (word_in l)
theorem barU : breakV.all flatV = true := by decide +kernel
theorem allR_brk {ps : Ps} {ls : List Lone} {i : Nat} {l : Lone} (hll : ls[i]? = some l) (hno : (runL ps (ls.take i)).2.findIdx? barD = none) (hbr : barD (stepL (runL ps (ls.take i)).1 l).2 = true) : allR ps (runL ps ls) = (ps, .tup [.str "none", .int (i : Nat)]) := by
  have et := runL_take (ps := ps) hll
  unfold allR
  have fi : (runL ps ls).2.findIdx? barD = some i := by
    obtain ⟨tl, etl⟩ := runL_pre ps ls (i + 1)
    rw [etl, et]
    show ((runL ps (ls.take i)).2 ++ [(stepL (runL ps (ls.take i)).1 l).2] ++ tl).findIdx? barD = some i
    have hlen2 : (runL ps (ls.take i)).2.length = i := by
      rw [runL_len, List.length_take]
      have := (List.getElem?_eq_some_iff.mp hll).1
      omega
    rw [List.append_assoc, List.findIdx?_append, hno]
    simp [List.findIdx?_cons, hbr, hlen2]
  rw [fi]
theorem allR_done {ps : Ps} {ls : List Lone} (hno : (runL ps ls).2.findIdx? barD = none) : allR ps (runL ps ls) = ((runL ps ls).1, .tup [.str "done", .tup (runL ps ls).2]) := by
  unfold allR
  rw [hno]
section
variable {P : Program} {w : World} {K : PySem.W.Frag} {mg : Str → Option Value} {base : Heap} {A : Ad} {D : Fd}
end
end K0

namespace K0
open PySem L2 Evl
/-! ### deeds as they are drawn, and what they keep -/
theorem str_fine {s signs : Str} (hs : signs.cps.toList.all (fun c => decide (c < 0x110000)) = true) {m : Int} (h : D.word signs m (.str s) = true) : (D.str s).fine 1 = true := by
  have h' : (decide ((s.length : Int) ≤ m) && s.cps.toList.all signs.cps.contains) = true := h
  obtain ⟨h1, h2⟩ := Bool.and_eq_true_iff.mp h'
  have ok : PyData.strOk s = true := by
    unfold PyData.strOk
    rw [← Array.all_toList]
    refine List.all_eq_true.mpr fun c hc => ?_
    have m2 : c ∈ signs.cps.toList := by simpa using List.all_eq_true.mp h2 c hc
    exact List.all_eq_true.mp hs c m2
  refine Bool.and_eq_true_iff.mpr ⟨Bool.and_eq_true_iff.mpr ⟨rfl, ?_⟩, ?_⟩
  · simp only [D.py, PyData.canLay0]
    exact ok
  · simp only [D.py, PyData.depth]
    decide
theorem str_size {s signs : Str} {m : Int} (hm : m ≤ 100) (h : D.word signs m (.str s) = true) : (D.str s).size ≤ 2 := by
  have h' : (decide ((s.length : Int) ≤ m) && s.cps.toList.all signs.cps.contains) = true := h
  have h1 := of_decide_eq_true (Bool.and_eq_true_iff.mp h').1
  simp only [D.size]
  omega
theorem int_fine {i : Int} : (D.int i).fine 1 = true := by
  refine Bool.and_eq_true_iff.mpr ⟨Bool.and_eq_true_iff.mpr ⟨rfl, ?_⟩, ?_⟩
  · simp only [D.py, PyData.canLay0]
  · simp only [D.py, PyData.depth]
    decide
theorem non_fine : D.non.fine 1 = true := by
  refine Bool.and_eq_true_iff.mpr ⟨Bool.and_eq_true_iff.mpr ⟨rfl, ?_⟩, ?_⟩
  · simp only [D.py, PyData.canLay0]
  · simp only [D.py, PyData.depth]
    decide
theorem lit_fine {s : Str} (h : PyData.strOk s = true) : (D.str s).fine 1 = true := by
  refine Bool.and_eq_true_iff.mpr ⟨Bool.and_eq_true_iff.mpr ⟨rfl, ?_⟩, ?_⟩
  · simp only [D.py, PyData.canLay0]
    exact h
  · simp only [D.py, PyData.depth]
    decide
theorem signs_ok : signs37.cps.toList.all (fun c => decide (c < 0x110000)) = true := by decide +kernel
theorem letters_ok : letters.cps.toList.all (fun c => decide (c < 0x110000)) = true := by decide +kernel
theorem value_fine {d : D} (h : d.value = true) : d.fine 1 = true ∧ d.isAt = true ∧ d.size ≤ 2 := by
  cases d with
  | int i => exact ⟨int_fine, rfl, by simp only [D.size]; decide⟩
  | str s =>
    have h' : D.word signs37 12 (.str s) = true := by
      have : ((D.str s).short || D.word signs37 12 (.str s)) = true := h
      rwa [show (D.str s).short = false from rfl, Bool.false_or] at this
    exact ⟨str_fine signs_ok h', rfl, str_size (by decide) h'⟩
  | _ => cases h
theorem worth_fine {d : D} (h : d.worth = true) : d.fine 1 = true ∧ d.isWo = true ∧ d.size ≤ 2 := by
  unfold D.worth at h
  cases hn : d.isNon with
  | true =>
    have : d = .non := by cases d <;> first | rfl | cases hn
    subst this
    exact ⟨non_fine, rfl, by simp only [D.size]; decide⟩
  | false =>
    rw [hn, Bool.false_or] at h
    obtain ⟨a, b, c⟩ := value_fine h
    exact ⟨a, at_wo b, c⟩
def okK (k : Str) : Bool := (D.str k).key
theorem key_fine {k : Str} (h : okK k = true) : (D.str k).fine 1 = true ∧ (D.str k).size ≤ 2 := by
  have h' := (Bool.and_eq_true_iff.mp (show (D.word letters 8 (.str k) && (D.str k).nonEmpty) = true from h)).1
  exact ⟨str_fine letters_ok h', str_size (by decide) h'⟩
def Lone.good : Lone → Bool
  | .put k d => okK k && d.value | .drop k => okK k | .get k => okK k | .add k n => okK k && (D.int n).short | .swap k o n => okK k && (o.worth && n.worth)
def Deed.ok : Deed → Bool
  | .one l => l.good | .list a b => okK a && okK b | .all ls => (decide (1 ≤ ls.length) && decide (ls.length ≤ 6)) && ls.all Lone.good | .circle c => c.circle && (c.fine 3 && decide (c.size ≤ 100))
theorem short_value {n : Int} (h : (D.int n).short = true) : (D.int n).value = true := by
  unfold D.value
  rw [h]
  rfl
theorem lone_fit {l : Lone} (h : l.good = true) : l.fit = true := by
  cases l with
  | put k d => exact (value_fine (Bool.and_eq_true_iff.mp h).2).2.1
  | swap k o n =>
    obtain ⟨h1, h2⟩ := Bool.and_eq_true_iff.mp h
    obtain ⟨h2, h3⟩ := Bool.and_eq_true_iff.mp h2
    show (o.isWo && n.isWo) = true
    rw [(worth_fine h2).2.1, (worth_fine h3).2.1]
    rfl
  | _ => rfl
theorem lone_lone {l : Lone} (h : l.good = true) : l.enc.lone = true := by
  cases l with
  | put k d =>
    show loneF "put" _ = true
    unfold loneF
    rw [if_pos rfl]
    exact h
  | drop k =>
    show loneF "drop" _ = true
    unfold loneF
    rw [if_neg (by decide), if_pos rfl]
    exact h
  | get k =>
    show loneF "get" _ = true
    unfold loneF
    rw [if_neg (by decide), if_neg (by decide), if_pos rfl]
    exact h
  | add k n =>
    show loneF "add" _ = true
    unfold loneF
    rw [if_neg (by decide), if_neg (by decide), if_neg (by decide), if_pos rfl]
    exact h
  | swap k o n =>
    show loneF "swap" _ = true
    unfold loneF
    rw [if_neg (by decide), if_neg (by decide), if_neg (by decide), if_neg (by decide), if_pos rfl]
    exact h
theorem deed_lone (l : Lone) : l.enc.deed = l.enc.lone := by
  cases l <;>
  · show deedF _ _ = loneF _ _
    unfold deedF
    rw [if_neg (by decide), if_neg (by decide), if_neg (by decide)]
theorem word_size (l : Lone) : (D.str l.word).size = 1 := (by decide +kernel : ∀ s ∈ lotWords, (D.str s).size = 1) _ (word_in l)
theorem lone_size {l : Lone} (h : l.good = true) : l.enc.size ≤ 100 := by
  have hw := word_size l
  have hk : (D.str l.key).size ≤ 2 := by
    cases l with
    | put k d => exact (key_fine (Bool.and_eq_true_iff.mp h).1).2
    | drop k => exact (key_fine h).2
    | get k => exact (key_fine h).2
    | add k n => exact (key_fine (Bool.and_eq_true_iff.mp h).1).2
    | swap k o n => exact (key_fine (Bool.and_eq_true_iff.mp h).1).2
  have ht : D.sizeL l.tail ≤ 50 := by
    cases l with
    | put k d =>
      have := (value_fine (Bool.and_eq_true_iff.mp h).2).2.2
      simp only [Lone.tail, D.sizeL]
      omega
    | swap k o n =>
      obtain ⟨h1, h2⟩ := Bool.and_eq_true_iff.mp h
      obtain ⟨h2, h3⟩ := Bool.and_eq_true_iff.mp h2
      have a := (worth_fine h2).2.2
      have b := (worth_fine h3).2.2
      simp only [Lone.tail, D.sizeL]
      omega
    | add k n =>
      simp only [Lone.tail, D.sizeL, D.size]
      decide
    | _ =>
      simp only [Lone.tail, D.sizeL]
      decide
  rw [enc_two]
  simp only [D.size, D.sizeL] at hw hk ⊢
  omega
theorem lones_size : ∀ {ls : List Lone}, ls.all Lone.good = true → D.sizeL (ls.map Lone.enc) ≤ 200 * ls.length
  | [], _ => Nat.zero_le _
  | l :: ls, h => by
    obtain ⟨h1, h2⟩ := Bool.and_eq_true_iff.mp (by simpa using h : (l.good && ls.all Lone.good) = true)
    have a := lone_size h1
    have b := lones_size h2
    simp only [List.map_cons, D.sizeL, List.length_cons]
    omega
theorem ok_good {d : Deed} (h : d.ok = true) : d.Good := by
  cases d with
  | one l =>
    refine ⟨lone_fit h, ?_, by have := lone_size (l := l) h; show l.enc.size ≤ 2000; omega⟩
    show l.enc.deed = true
    rw [deed_lone]
    exact lone_lone h
  | list a b =>
    obtain ⟨h1, h2⟩ := Bool.and_eq_true_iff.mp h
    refine ⟨rfl, ?_, ?_⟩
    · show deedF "list" _ = true
      unfold deedF
      rw [if_pos rfl]
      show (true && ((D.str a).key && (D.str b).key)) = true
      rw [show (D.str a).key = true from h1, show (D.str b).key = true from h2]
      rfl
    · have a1 := (key_fine h1).2
      have b1 := (key_fine h2).2
      have c1 : (D.str "list").size = 1 := by decide +kernel
      simp only [Deed.enc, D.size, D.sizeL] at a1 b1 c1 ⊢
      omega
  | circle c =>
    obtain ⟨h1, h2⟩ := Bool.and_eq_true_iff.mp h
    refine ⟨rfl, ?_, ?_⟩
    · show deedF "circle" _ = true
      unfold deedF
      rw [if_neg (by decide), if_neg (by decide), if_pos rfl]
      show (true && c.circle) = true
      rw [h1]
      rfl
    · have a1 := of_decide_eq_true (Bool.and_eq_true_iff.mp h2).2
      have c1 : (D.str "circle").size = 1 := by decide +kernel
      simp only [Deed.enc, D.size, D.sizeL] at a1 c1 ⊢
      omega
  | all ls =>
    obtain ⟨h1, h2⟩ := Bool.and_eq_true_iff.mp h
    obtain ⟨h0, h1⟩ := Bool.and_eq_true_iff.mp h1
    have l6 := of_decide_eq_true h1
    refine ⟨?_, ?_, ?_⟩
    · show (ls.all Lone.fit && decide (ls.length ≤ 6)) = true
      rw [h1, Bool.and_true]
      exact List.all_eq_true.mpr fun l hl => lone_fit (List.all_eq_true.mp h2 l hl)
    · show deedF "all" _ = true
      unfold deedF
      rw [if_neg (by decide), if_pos rfl]
      show (true && ((decide (1 ≤ (ls.map Lone.enc).length) && decide ((ls.map Lone.enc).length ≤ 6)) && (ls.map Lone.enc).all fun d => isLot d.wordO && d.lone)) = true
      rw [List.length_map, h0, h1, List.all_map]
      refine (Bool.true_and _).trans ((Bool.true_and _).trans (List.all_eq_true.mpr fun l hl => ?_))
      show (isLot l.enc.wordO && l.enc.lone) = true
      rw [lone_lone (List.all_eq_true.mp h2 l hl), enc_two]
      show (lotWords.contains l.word && true) = true
      rw [Bool.and_true]
      exact List.contains_iff_mem.mpr (word_in l)
    · have a1 := lones_size h2
      have c1 : (D.str "all").size = 1 := by decide +kernel
      simp only [Deed.enc, D.size, D.sizeL] at a1 c1 ⊢
      omega
/-! ### pairs stay what pairs are -/
theorem put_memP {ps : Ps} {k : Str} {d : D} {p : Str × D} (h : p ∈ putP ps k d) : p ∈ ps ∨ p = (k, d) := by
  unfold putP at h
  split at h
  · obtain ⟨q, hq, e⟩ := List.mem_map.mp h
    by_cases c : q.1 = k
    · rw [if_pos c] at e
      exact .inr (by rw [← e, c])
    · rw [if_neg c] at e
      exact .inl (e ▸ hq)
  · rcases List.mem_append.mp h with h | h
    · exact .inl h
    · exact .inr (List.mem_singleton.mp h)
def PairOk (p : Str × D) : Prop := (D.str p.1).key = true ∧ p.2.value = true ∧ p.2.size ≤ 100 ∧ (D.str p.1).size ≤ 100
theorem pair_ok {k : Str} {d : D} (hk : okK k = true) (hd : d.value = true) : PairOk (k, d) := ⟨hk, hd, by have := (value_fine hd).2.2; show d.size ≤ 100; omega, by have := (key_fine hk).2; show (D.str k).size ≤ 100; omega⟩
theorem putV {ps : Ps} {k : Str} {d : D} (h : ∀ p ∈ ps, PairOk p) (hk : okK k = true) (hd : d.value = true) : ∀ p ∈ putP ps k d, PairOk p := fun p hp => by
  rcases put_memP hp with hp | rfl
  · exact h p hp
  · exact pair_ok hk hd
theorem dropV {ps : Ps} {k : Str} (h : ∀ p ∈ ps, PairOk p) : ∀ p ∈ dropP ps k, PairOk p := fun p hp => h p (List.mem_filter.mp hp).1
theorem short_of {t : Int} (h : bigI t = false) : (D.int t).short = true := by
  have h' := of_decide_eq_false h
  show (numB t && (decide (-(999999999999) ≤ t) && decide (t ≤ 999999999999))) = true
  have a : -(999999999999) ≤ t ∧ t ≤ 999999999999 := by
    split at h' <;> omega
  have b : numB t = true := by
    unfold numB big
    rw [decide_eq_true (by omega), decide_eq_true (by omega)]
    rfl
  rw [b, decide_eq_true a.1, decide_eq_true a.2]
  rfl
theorem stepL_val {ps : Ps} {l : Lone} (h : ∀ p ∈ ps, PairOk p) (hl : l.good = true) : ∀ p ∈ (stepL ps l).1, PairOk p := by
  cases l with
  | put k d =>
    obtain ⟨h1, h2⟩ := Bool.and_eq_true_iff.mp hl
    show ∀ p ∈ (if lacks ps k = true then _ else _ : Ps × D).1, PairOk p
    split
    · exact h
    · exact putV h h1 h2
  | drop k => exact dropV h
  | get k => exact h
  | add k n =>
    obtain ⟨h1, h2⟩ := Bool.and_eq_true_iff.mp hl
    show ∀ p ∈ (if (gotD ps k).isStr = true then _ else _ : Ps × D).1, PairOk p
    split
    · exact h
    · unfold addI
      split
      · exact h
      · rename_i c
        split
        · exact h
        · exact putV h h1 (short_value (short_of (by simpa using c)))
  | swap k o n =>
    obtain ⟨h1, h2⟩ := Bool.and_eq_true_iff.mp hl
    obtain ⟨h2, h3⟩ := Bool.and_eq_true_iff.mp h2
    show ∀ p ∈ (if (!sameA (gotD ps k) o) = true then _ else _ : Ps × D).1, PairOk p
    split
    · exact h
    · split
      · exact h
      · show ∀ p ∈ exchP ps k n, PairOk p
        unfold D.worth at h3
        cases hn : n.isNon with
        | true =>
          have : n = .non := by cases n <;> first | rfl | cases hn
          subst this
          exact dropV h
        | false =>
          rw [hn, Bool.false_or] at h3
          rw [exch_at (value_fine h3).2.1]
          exact putV h h1 h3
theorem runL_val {ls : List Lone} (hl : ls.all Lone.good = true) : ∀ {r : Ps × List D}, (∀ p ∈ r.1, PairOk p) → ∀ p ∈ (ls.foldl runF r).1, PairOk p := by
  induction ls with
  | nil => exact fun h => h
  | cons l t ih =>
    intro r h
    obtain ⟨h1, h2⟩ := Bool.and_eq_true_iff.mp (by simpa using hl : (l.good && t.all Lone.good) = true)
    rw [List.foldl_cons]
    exact ih h2 (stepL_val h h1)
theorem stepD_val {ps : Ps} {d : Deed} (h : PVal ps) (hd : d.ok = true) : PVal (stepD ps d).1 := by
  refine ⟨stepD_len h.1 d, ?_⟩
  cases d with
  | one l => exact stepL_val h.2 hd
  | all ls =>
    obtain ⟨_, h2⟩ := Bool.and_eq_true_iff.mp hd
    show ∀ p ∈ (allR ps (runL ps ls)).1, PairOk p
    unfold allR
    split
    · exact h.2
    · exact runL_val h2 h.2
  | _ => exact h.2
/-! ### answers are data that can be compared -/
theorem got_fine {ps : Ps} (h : ∀ p ∈ ps, PairOk p) (k : Str) : (gotD ps k).fine 1 = true := by
  unfold gotD
  cases c : lookP ps k with
  | none => exact non_fine
  | some d => exact (value_fine (h _ (look_mem c)).2.1).1
theorem tag_fine {s : Str} {ds : List D} {n : Nat} (hs : PyData.strOk s = true) (h : ∀ d ∈ ds, d.fine (n + 1) = true) : (D.tup (.str s :: ds)).fine (n + 2) = true := fine_tup fun d hd => by
  rcases List.mem_cons.mp hd with rfl | hd
  · exact fine_le (lit_fine hs) (by omega)
  · exact h d hd
theorem tag0 {s : Str} (hs : PyData.strOk s = true) : (aD s).fine 2 = true := tag_fine hs fun d hd => by cases hd
theorem tag1 {s : Str} {d : D} (hs : PyData.strOk s = true) (h : d.fine 1 = true) : (D.tup [.str s, d]).fine 2 = true := tag_fine (n := 0) hs fun e he => by rw [List.mem_singleton.mp he]; exact h
theorem tagn {s : Str} {d : D} {n : Nat} (hs : PyData.strOk s = true) (h : d.fine (n + 1) = true) : (D.tup [.str s, d]).fine (n + 2) = true := tag_fine hs fun e he => by rw [List.mem_singleton.mp he]; exact h
theorem stepL_fine {ps : Ps} (h : ∀ p ∈ ps, PairOk p) (l : Lone) : (stepL ps l).2.fine 2 = true := by
  cases l with
  | put k d =>
    show (if lacks ps k = true then _ else _ : Ps × D).2.fine 2 = true
    split
    · exact tag0 (by decide +kernel)
    · exact tag1 (by decide +kernel) (got_fine h k)
  | drop k => exact tag1 (by decide +kernel) (got_fine h k)
  | get k => exact tag1 (by decide +kernel) (got_fine h k)
  | add k n =>
    show (if (gotD ps k).isStr = true then _ else _ : Ps × D).2.fine 2 = true
    split
    · exact tag0 (by decide +kernel)
    · unfold addI
      split
      · exact tag0 (by decide +kernel)
      · split
        · exact tag0 (by decide +kernel)
        · exact tag1 (by decide +kernel) int_fine
  | swap k o n =>
    show (if (!sameA (gotD ps k) o) = true then _ else _ : Ps × D).2.fine 2 = true
    split
    · exact tag1 (by decide +kernel) (got_fine h k)
    · split
      · exact tag0 (by decide +kernel)
      · exact tag0 (by decide +kernel)
theorem runL_fine {ls : List Lone} (hl : ls.all Lone.good = true) : ∀ {r : Ps × List D}, (∀ p ∈ r.1, PairOk p) → (∀ d ∈ r.2, d.fine 2 = true) → ∀ d ∈ (ls.foldl runF r).2, d.fine 2 = true := by
  induction ls with
  | nil => exact fun _ h => h
  | cons l t ih =>
    intro r h g
    obtain ⟨h1, h2⟩ := Bool.and_eq_true_iff.mp (by simpa using hl : (l.good && t.all Lone.good) = true)
    rw [List.foldl_cons]
    refine ih h2 (stepL_val h h1) fun d hd => ?_
    rcases List.mem_append.mp hd with hd | hd
    · exact g d hd
    · rw [List.mem_singleton.mp hd]
      exact stepL_fine h l
theorem prS_fine {p : Str × D} (h : PairOk p) : (prS p).fine 2 = true := fine_tup fun d hd => by
  rcases List.mem_cons.mp hd with rfl | hd
  · exact (key_fine h.1).1
  · rw [List.mem_singleton.mp hd]
    exact (value_fine h.2.1).1
theorem stepD_fine {ps : Ps} {d : Deed} (h : PVal ps) (hd : d.ok = true) : (stepD ps d).2.fine 4 = true := by
  cases d with
  | one l => exact fine_le (stepL_fine h.2 l) (by decide)
  | list a b =>
    refine tagn (n := 2) (by decide +kernel) (fine_tup fun d hd => ?_)
    obtain ⟨p, hp, rfl⟩ := List.mem_map.mp hd
    have := (sortP_perm _).mem_iff.mp hp
    exact prS_fine (h.2 p (List.mem_filter.mp this).1)
  | circle c =>
    obtain ⟨_, h2⟩ := Bool.and_eq_true_iff.mp hd
    exact tagn (n := 2) (by decide +kernel) (Bool.and_eq_true_iff.mp h2).1
  | all ls =>
    obtain ⟨_, h2⟩ := Bool.and_eq_true_iff.mp hd
    show (allR ps (runL ps ls)).2.fine 4 = true
    unfold allR
    split
    · exact fine_le (tag1 (by decide +kernel) int_fine) (by decide)
    · exact tagn (n := 2) (by decide +kernel) (fine_tup (runL_fine h2 h.2 fun d hd => by cases hd))
theorem runD_val {ds : List Deed} : ∀ {r : Ps × List D}, (∀ d ∈ ds, d.ok = true) → PVal r.1 → (∀ d ∈ r.2, d.fine 4 = true) → PVal (ds.foldl runDF r).1 ∧ ∀ d ∈ (ds.foldl runDF r).2, d.fine 4 = true := by
  induction ds with
  | nil => exact fun _ h g => ⟨h, g⟩
  | cons l t ih =>
    intro r hl h g
    rw [List.foldl_cons]
    refine ih (fun d hd => hl d (List.mem_cons_of_mem _ hd)) (stepD_val h (hl l (List.mem_cons_self ..))) fun d hd => ?_
    rcases List.mem_append.mp hd with hd | hd
    · exact g d hd
    · rw [List.mem_singleton.mp hd]
      exact stepD_fine h (hl l (List.mem_cons_self ..))
theorem runD_fine {ds : List Deed} {ps : Ps} (hl : ∀ d ∈ ds, d.ok = true) (h : PVal ps) : (D.tup (runD ps ds).2).fine 5 = true := fine_tup (runD_val hl h fun d hd => by cases hd).2
end K0

namespace K0
open PySem L2 Evl
/-! ### what draws data -/
def clean1 (d : D) : Prop := d.clean = true
section
variable {K : PySem.W.Frag} {σ : L2.St} {H H' : Hp} {a : Addr} {te : TE} {ta : TA} {M : D → Prop}
def EvX (K : PySem.W.Frag) (a : Addr) (te : TE) (σ : L2.St) (M : D → Prop) : Prop := ∀ H1, DiceAt H1 a → ∀ Q : VK, (∀ v d H2, Bt a H1 H2 → DiceAt H2 a → M d → d.clean = true → Rp K H2 v d → Q v H2) → te σ H1 Q
def EvXA (K : PySem.W.Frag) (a : Addr) (ta : TA) (σ : L2.St) (M : List D → Prop) : Prop := ∀ H1, DiceAt H1 a → ∀ Q : List V → Hp → Prop, (∀ vs ds H2, Bt a H1 H2 → DiceAt H2 a → M ds → D.cleanL ds = true → RpAll K H2 vs ds → Q vs H2) → ta σ H1 Q
theorem Rp.bt {v : V} {d : D} (c : d.clean = true) (h : DiceAt H a) (b : Bt a H H') (r : Rp K H v d) : Rp K H' v d := r.exT c (b.exT h)
theorem RpAll.bt {vs : List V} {ds : List D} (c : D.cleanL ds = true) (h : DiceAt H a) (b : Bt a H H') (r : RpAll K H vs ds) : RpAll K H' vs ds := r.exT c (b.exT h)
theorem x_ev {v : V} {d : D} (h : ∀ H1, Ev te σ H1 v) (r : ∀ H1, Rp K H1 v d) (m : M d) (c : d.clean = true) : EvX K a te σ M := fun H1 d1 Q q => h H1 H1 (Ex.refl _) Q fun H2 e2 => q v d H2 (Bt.of e2) (d1.ex e2) m c (r H2)
theorem x_str {s : Str} (m : M (.str s)) : EvX K a (tC (.str s)) σ M := x_ev (fun _ => ev_c) (fun _ => .str s) m rfl
theorem x_int {i : Int} (m : M (.int i)) : EvX K a (tC (.int i)) σ M := x_ev (fun _ => ev_c) (fun _ => .int i) m rfl
theorem x_neg {i : Int} (m : M (.int (-i))) : EvX K a (tUn (rU fun i => V.int (-i)) (tC (.int i))) σ M := x_ev (fun _ => ev_un ev_c ru_neg) (fun _ => .int _) m rfl
theorem x_non (m : M .non) : EvX K a (tC .non) σ M := x_ev (fun _ => ev_c) (fun _ => .non) m rfl
theorem x_var {i : Nat} {d : D} (h : σ[i]? = some (some (atV d))) (w : d.isWo = true) (m : M d) : EvX K a (tVar i) σ M := x_ev (fun _ => ev_var h) (fun _ => by cases d <;> first | exact .non | exact .int _ | exact .str _ | cases w) m (by cases d <;> first | rfl | cases w)
theorem x_imp {N : D → Prop} (h : EvX K a te σ M) (k : ∀ d, M d → N d) : EvX K a te σ N := fun H1 d1 Q q => h H1 d1 Q fun v d H2 b d2 m c r => q v d H2 b d2 (k d m) c r
theorem xa_nil : EvXA K a tNil σ fun ds => ds = [] := fun H1 d1 Q q => q [] [] H1 Bt.refl d1 rfl rfl .nil
theorem xa_cons {N : List D → Prop} (h : EvX K a te σ M) (r : EvXA K a ta σ N) : EvXA K a (tCons te ta) σ fun ds => ∃ d es, ds = d :: es ∧ M d ∧ N es := fun H1 d1 Q q =>
  h H1 d1 _ fun v d H2 b2 d2 m c hv => r H2 d2 _ fun vs ds H3 b3 d3 n c3 hs => q (v :: vs) (d :: ds) H3 (b2.trans b3) d3 ⟨d, ds, rfl, m, n⟩ (Bool.and_eq_true_iff.mpr ⟨c, c3⟩) (.cons (hv.bt c d2 b3) hs)
/-- all of one kind -/
theorem xl_nil : EvXA K a tNil σ fun ds => (∀ d ∈ ds, M d) ∧ ds.length ≤ 0 := fun H1 d1 Q q => q [] [] H1 Bt.refl d1 ⟨(fun d h => by cases h), Nat.le_refl _⟩ rfl .nil
theorem xl_cons {n : Nat} (h : EvX K a te σ M) (r : EvXA K a ta σ fun ds => (∀ d ∈ ds, M d) ∧ ds.length ≤ n) : EvXA K a (tCons te ta) σ fun ds => (∀ d ∈ ds, M d) ∧ ds.length ≤ n + 1 := fun H1 d1 Q q =>
  h H1 d1 _ fun v d H2 b2 d2 m c hv => r H2 d2 _ fun vs ds H3 b3 d3 n c3 hs => q (v :: vs) (d :: ds) H3 (b2.trans b3) d3 ⟨(fun e he => by
    rcases List.mem_cons.mp he with rfl | he
    · exact m
    · exact n.1 e he), by rw [List.length_cons]; exact Nat.succ_le_succ n.2⟩ (Bool.and_eq_true_iff.mpr ⟨c, c3⟩) (.cons (hv.bt c d2 b3) hs)
theorem x_tup {N : List D → Prop} (h : EvXA K a ta σ N) (k : ∀ ds, N ds → ds.length ≤ 1000 ∧ M (.tup ds)) : EvX K a (tTup ta) σ M := fun H1 d1 Q q =>
  h H1 d1 _ fun vs ds H2 b2 d2 n c hs => ⟨by rw [hs.len]; exact sz_of (by have := (k ds n).1; omega), fun p hp => q (.ref p) (.tup ds) _ (b2.trans (Bt.of (Ex.new hp))) (d2.ex (Ex.new hp)) (k ds n).2 c (.tup (st_of upd_same) (hs.ex (Ex.new hp)))⟩
/-- _law_pick(dice, [..]) -/
theorem x_pick {E : XK} {n : Nat} {tx : TE} (hv : σ[0]? = some (some (.ref a))) (hx : EvX K a tx σ M) (h : EvXA K a ta σ fun ds => (∀ d ∈ ds, M d) ∧ ds.length ≤ n) (hn : n ≤ 1000) : EvX K a (tCall (sp_law_pick K) [] E (tCons (tVar 0) (tCons (tLst (tCons tx ta)) tNil))) σ M := fun H1 d1 Q q => by
  refine d_raw (n_cons (n_var hv (n_cons ?_)))
  refine hx H1 d1 _ fun v d H2 b2 d2 m c hv => h H2 d2 _ fun vs ds H3 b3 d3 n3 c3 hs => ?_
  have rr : RpAll K H3 (v :: vs) (d :: ds) := .cons (hv.bt c d2 b3) hs
  have l3 := hs.len
  refine ⟨sz_of (by rw [List.length_cons]; omega), fun p hp => n_nil ⟨a, p, v :: vs, rfl, d3.ex (Ex.new hp), d3.ne hp, sq_of upd_same, by simp, by rw [List.length_cons]; omega, fun x H4 hx4 b4 d4 => ?_⟩⟩
  obtain ⟨y, hy, ry⟩ := (rr.ex (Ex.new hp)).memI x hx4
  have cy : y.clean = true := by
    rcases List.mem_cons.mp hy with rfl | hy
    · exact c
    · rw [cleanL_all] at c3
      exact List.all_eq_true.mp c3 y hy
  refine q x y H4 (((b2.trans b3).trans (Bt.of (Ex.new hp))).trans b4) d4 ?_ cy (ry.bt cy (d3.ex (Ex.new hp)) b4)
  rcases List.mem_cons.mp hy with rfl | hy
  · exact m
  · exact n3.1 y hy
/-- a def that draws -/
def spDraw (M : D → Prop) (K : PySem.W.Frag) : Sp := fun vs H Q _ => ∃ a, vs = [.ref a] ∧ DiceAt H a ∧ ∀ v d H', Bt a H H' → DiceAt H' a → M d → d.clean = true → Rp K H' v d → Q v H'
theorem spDraw_len {vs : List V} {H : Hp} {Q : VK} {E : XK} (h : spDraw M K vs H Q E) : vs.length = 1 := by
  obtain ⟨a, rfl, _⟩ := h
  rfl
theorem x_draw {E : XK} {i : Nat} (hv : σ[i]? = some (some (.ref a))) : EvX K a (tCall (spDraw M K) [] E (tCons (tVar i) tNil)) σ M := fun H1 d1 Q q => d_raw (n_cons (n_var hv (n_nil ⟨a, rfl, d1, fun v d H2 b d2 m c r => q v d H2 b d2 m c r⟩)))
theorem x_ret {D : Ends} (h : EvX K a te σ M) (hd : DiceAt H a) (k : ∀ v d H2, Bt a H H2 → DiceAt H2 a → M d → d.clean = true → Rp K H2 v d → D.rt v H2) : tRet te D σ H := h H hd _ k
theorem x_asg {D : Ends} {tz : TS} {i : Nat} (h : EvX K a te σ M) (hd : DiceAt H a) (k : ∀ v d H2, Bt a H H2 → DiceAt H2 a → M d → d.clean = true → Rp K H2 v d → tz D (σ.set i (some v)) H2) : tSeq (tAsg te (gName i)) tz D σ H := h H hd _ k
end
def mKey (d : D) : Prop := ∃ k, d = .str k ∧ okK k = true
def mVal (d : D) : Prop := d.value = true
def mLone (d : D) : Prop := ∃ l, d = Lone.enc l ∧ l.good = true
def mDeed (d : D) : Prop := ∃ e, d = Deed.enc e ∧ e.ok = true
theorem mk_key {k : Str} (h : okK k = true) : mKey (.str k) := ⟨k, rfl, h⟩
/-- [.. for turn in range(n)], each drawn -/
theorem l_draws {K : PySem.W.Frag} {M : D → Prop} {a : Addr} {te : TE} {vs : List Nat} {σ : L2.St} {j n : Nat} {H1 : Hp} {Q : VK} (hd : DiceAt H1 a) (hn : n ≤ 1000) (hw : ∀ x, wipe ((wipe σ vs).set j (some x)) vs = wipe σ vs) (hx : ∀ i : Int, EvX K a te ((wipe σ vs).set j (some (.int i))) M)
    (k : ∀ p xs ds H2, H1 p = none → Bt a H1 H2 → DiceAt H2 a → H2 p = some (.lst xs) → RpAll K H2 xs ds → ds.length = n → (∀ d ∈ ds, M d) → D.cleanL ds = true → Q (.ref p) H2) :
    ∀ D, H1 D = none → ∃ W : Nat → Nat → Hp → Prop, (∃ m, W 0 m (upd H1 D (.lst []))) ∧ ∀ i m H, W i m H →
      ((Itr 0 n).stop i H ∧ Q (.ref D) H) ∨ ((Itr 0 n).go i H ∧ ∃ Nx : Hp → Prop, (∀ H', Nx H' → ∃ m', m' < m ∧ W (i + 1) m' H') ∧ ∀ x H', (Itr 0 n).yld i H x H' → gName j x (wipe σ vs) H' fun σ2 H2 => wipe σ2 vs = wipe σ vs ∧ tYes σ2 H2 fun b H3 =>
        if b = true then te σ2 H3 fun y H4 => ∃ acc, H4 D = some (.lst acc) ∧ acc.length < sizeLine ∧ Nx (upd H4 D (.lst (acc ++ [y]))) else Nx H3) :=
  lc_draws (te := te) (vs := vs) (σ := σ) (j := j) (a := a) (n := n) (R := fun v H => ∃ d, (M d ∧ d.clean = true) ∧ Rp K (hid (some a) H) v d) (Q := Q) (fun v H H' e ⟨d, hm, hr⟩ => ⟨d, hm, hr.exL e⟩) hd hn hw
    (fun i H' _ b d Q q => hx _ H' d Q fun v d' H2 b2 d2 m c r => q v H2 b2 d2 ⟨d', ⟨m, c⟩, r.exT c (exT_hid d2.hidL)⟩) fun Dl xs H' hDl b d h1 h2 h3 => by
    obtain ⟨ds, rr, mm⟩ := rp_those (K := K) (H := H') (xs := xs) fun x hx => by
      obtain ⟨d, hm, hr⟩ := h3 x hx
      exact ⟨d, hm, hr.ex hid_le⟩
    exact k Dl xs ds H' hDl b d h1 rr (by rw [← rr.len, h2]) (fun d hd => (mm d hd).1) (by rw [cleanL_all]; exact List.all_eq_true.mpr fun d hd => (mm d hd).2)
where
  rp_those {K : PySem.W.Frag} {H : Hp} {M : D → Prop} : ∀ {xs : List V}, (∀ x ∈ xs, ∃ d, M d ∧ Rp K H x d) → ∃ ds, RpAll K H xs ds ∧ ∀ d ∈ ds, M d
    | [], _ => ⟨[], .nil, fun d hd => by cases hd⟩
    | x :: xs, h => by
      obtain ⟨d, hm, hr⟩ := h x (List.mem_cons_self ..)
      obtain ⟨ds, r, m⟩ := rp_those (xs := xs) fun y hy => h y (List.mem_cons_of_mem _ hy)
      refine ⟨d :: ds, .cons hr r, fun e he => ?_⟩
      rcases List.mem_cons.mp he with rfl | he
      · exact hm
      · exact m e he
theorem lones_of : ∀ {ds : List D}, (∀ d ∈ ds, mLone d) → ∃ ls : List Lone, ds = ls.map Lone.enc ∧ ls.all Lone.good = true
  | [], _ => ⟨[], rfl, rfl⟩
  | d :: ds, h => by
    obtain ⟨l, rfl, hl⟩ := h d (List.mem_cons_self ..)
    obtain ⟨ls, rfl, hs⟩ := lones_of (ds := ds) fun e he => h e (List.mem_cons_of_mem _ he)
    exact ⟨l :: ls, rfl, by rw [List.all_cons, hl, hs]; rfl⟩
theorem deeds_of : ∀ {ds : List D}, (∀ d ∈ ds, mDeed d) → ∃ ls : List Deed, ds = ls.map Deed.enc ∧ ∀ d ∈ ls, d.ok = true
  | [], _ => ⟨[], rfl, fun d hd => by cases hd⟩
  | d :: ds, h => by
    obtain ⟨l, rfl, hl⟩ := h d (List.mem_cons_self ..)
    obtain ⟨ls, rfl, hs⟩ := deeds_of (ds := ds) fun e he => h e (List.mem_cons_of_mem _ he)
    refine ⟨l :: ls, rfl, fun e he => ?_⟩
    rcases List.mem_cons.mp he with rfl | he
    · exact hl
    · exact hs e he
def mLot (d : D) : Prop := ∃ ls : List Lone, d = .tup (ls.map Lone.enc) ∧ 1 ≤ ls.length ∧ ls.length ≤ 6 ∧ ls.all Lone.good = true
/-- tuple([.. for turn in range(1 + roll)]) -/
theorem x_lot {K : PySem.W.Frag} {a : Addr} {te : TE} {vs : List Nat} {σ : L2.St} {j : Nat} {E : XK} (hv : σ[0]? = some (some (.ref a))) (hw : ∀ x, wipe ((wipe σ vs).set j (some x)) vs = wipe σ vs) (hx : ∀ i : Int, EvX K a te ((wipe σ vs).set j (some (.int i))) mLone) :
    EvX K a (tCB (rTupOf K) (tCons (tLc (iRng1 (tCons (tOp (rI0 fun i j => V.int (i + j)) (tC (.int 1)) (tCall (sp_law_roll K) [] E (tCons (tVar 0) (tCons (tC (.int 6)) tNil)))) tNil)) (gName j) tYes te vs) tNil)) σ mLot := fun H d1 Q q => by
  refine n_cb (n_cons ?_)
  unfold tLc
  refine n_rng1 (n_cons (n_op ?_))
  show tCall (sp_law_roll K) [] E (tCons (tVar 0) (tCons (tC (.int 6)) tNil)) σ H _
  refine c_call (ea_cons (ev_var hv) (ea_cons ev_c ea_nil)) fun H1 e1 => ?_
  refine ⟨a, 6, rfl, d1.ex e1, by decide, by decide, fun r H2 r0 r1 hb2 hd2 => ?_⟩
  have b2 : Bt a H H2 := (Bt.of e1).trans hb2
  refine ⟨1, r, rfl, rfl, n_nil ⟨1 + r, rfl, by omega, by omega, ?_⟩⟩
  refine l_draws (K := K) (M := mLone) (a := a) (n := (1 + r).toNat) (Q := fun v H1 => tNil σ H1 fun vs H2 => rTupOf K (v :: vs) H2 Q) hd2 (by omega) hw hx fun p xs ds H3 hp b3 d3 h3 rr hl hm hc => ?_
  obtain ⟨ls, rfl, hg⟩ := lones_of hm
  rw [List.length_map] at hl
  refine n_nil ⟨p, xs, rfl, .inl ⟨sq_of h3, fun l hl2 => q (.ref l) _ _ ((b2.trans b3).trans (Bt.of (Ex.new hl2))) (d3.ex (Ex.new hl2)) ⟨ls, rfl, by omega, by omega, hg⟩ hc (.tup (st_of upd_same) (rr.ex (Ex.new hl2)))⟩⟩
def mWord (d : D) : Prop := ∃ w, d = .str w ∧ w ∈ lotWords
theorem mk_word {w : Str} (h : w ∈ lotWords) : mWord (.str w) := ⟨w, rfl, h⟩
def mWorth (d : D) : Prop := d.worth = true
def mShort (d : D) : Prop := ∃ n, d = .int n ∧ (D.int n).short = true
theorem mk_short {n : Int} (h : (D.int n).short = true) : mShort (.int n) := ⟨n, rfl, h⟩
theorem mk_val {d : D} (h : d.value = true) : mVal d := h
theorem mk_worth {d : D} (h : d.worth = true) : mWorth d := h
theorem val_worth {d : D} (h : mVal d) : mWorth d := by
  show (d.isNon || d.value) = true
  rw [show d.value = true from h, Bool.or_true]
section
variable {P : Program} {w : World} {K : PySem.W.Frag} {mg : Str → Option Value} {base : Heap} {A : Ad} {D : Fd}
end
end K0

namespace K0
open PySem PySem.Spec PyProof.Rows L2 Evl
/-! ### list(d.items()), a dict's keys texts or numbers -/
section
variable {X : Cx}
def rItemsK : V → List V → Hp → VK → Prop := fun x xs H Q => ∃ (a : Addr) (kvs : List (Key × V)), x = .ref a ∧ xs = [] ∧ H a = some (.dK kvs) ∧ ∀ p, H p = none → Q (.ref p) (upd H p (L2.DX.itemsO p a))
theorem mt_itemsK : MtR X "dict.items" rItemsK := by
  intro pins s σ H x xs v us Q I rx rxs h
  obtain ⟨a, kvs, rfl, rfl, ha, q⟩ := h
  cases rx
  cases rxs
  obtain ⟨_, hd, va, ra, dd⟩ := (show ObjOk X.prog X.w H s.heap a (.dK kvs) from I.hok a _ ha)
  obtain ⟨ep, o, es, ho, hx, hdat, _⟩ := dd.dictAt
  refine DT.callItems (es := es) (ep := ep) hd ⟨o, ho, hx, hdat⟩ ?_
  have hf : H s.heap.objs.size = none := I.hok.fresh (Nat.le_refl _)
  exact ⟨.ref s.heap.objs.size, upd H s.heap.objs.size (L2.DX.itemsO s.heap.objs.size a), I.laid (t' := s.toks) (fun b u e => Heap.get?_push_of_some _ e) (Nat.le_refl _) (L2.DX.itemsO_ok (Heap.get?_push_size _ rfl)), rfl, q _ hf⟩
def rListIt : List V → Hp → VK → Prop := fun vs H Q => ∃ (p a : Addr) (kvs : List (Key × V)), vs = [.ref p] ∧ H p = some (L2.DX.itemsO p a) ∧ H a = some (.dK kvs) ∧
  ∀ l (ts : List Addr) H', Ex H H' → H l = none → H' l = some (.lst (ts.map V.ref)) → Paired (fun t kv => H' t = some (.tup [kV kv.1, kv.2])) ts kvs → Q (.ref l) H'
theorem paired_ix {α β : Type} {R : α → β → Prop} : ∀ {xs : List α} {ys : List β}, xs.length = ys.length → (∀ (j : Nat) x y, xs[j]? = some x → ys[j]? = some y → R x y) → Paired R xs ys
  | [], [], _, _ => .nil
  | [], _ :: _, h, _ => by simp at h
  | _ :: _, [], h, _ => by simp at h
  | x :: xs, y :: ys, h, f => .cons (f 0 x y rfl rfl) (paired_ix (by simpa using h) fun j x' y' h1 h2 => f (j + 1) x' y' (by simpa using h1) (by simpa using h2))
theorem cr_listIt (hc : X.calm = true) : CallR X (.type "list") rListIt := by
  intro pins s σ H xs us Q I r h
  obtain ⟨p, a, kvs, rfl, hp, ha, q⟩ := h
  obtain rfl := Vals.ref1 r
  have view : s.heap.IsItemsView p a := (show ObjOk X.prog X.w H s.heap p (L2.DX.itemsO p a) from I.hok p _ hp).1
  obtain ⟨z, hd, va, ra, dd⟩ := (show ObjOk X.prog X.w H s.heap a (.dK kvs) from I.hok a _ ha)
  obtain ⟨ep, hat⟩ := dd.dictAt
  have hl : kvs.length = va.length := Paired.length ra
  refine PySem.W.kdx_call (knd := mixKind X.prog X.w) (kvs := va) (ep := ep) (I.ok.hd hc) view hat (by rw [← hl]; exact z) fun h' tk acc c as hk hS hal hG hacc => ?_
  have I1 : Inv X pins σ H { s with heap := h', toks := tk } := I.kept (t' := tk) hk
  have hn0 : H s.heap.objs.size = none := I.hok.fresh (Nat.le_refl _)
  have nd : as.Nodup := List.Pairwise.imp (fun h => Nat.ne_of_lt h) hG.rise
  have rv : Vals (as.map V.ref) acc.toList := by
    rw [hacc]
    exact vals_maps (fun b : Addr => V.ref b) (fun b => Value.ref b) as fun _ _ => rfl
  have I2 : Inv X pins σ (upd H s.heap.objs.size (.lst (as.map V.ref))) { s with heap := h', toks := tk } :=
    I1.take (h' := h') (t' := tk) (fun b ob _ e => e) (I.fpOk (Nat.le_refl _) hn0) ⟨by rw [List.length_map, hal, ← hl]; exact z, acc.toList, c, rv, by rw [Array.toArray_toList]; exact hS⟩
  obtain ⟨H2, I3, g, qt⟩ := L2.DX.takeT (P := fun b vs => ∃ (j : Nat) (kv : Key × V), as[j]? = some b ∧ kvs[j]? = some kv ∧ vs = [kV kv.1, kv.2]) I as _ I2 nd fun b hb => by
    obtain ⟨j, hj⟩ := List.mem_iff_getElem?.mp hb
    obtain ⟨key, k, x, hkv, his, hg⟩ := hG.pairs j b hj
    obtain ⟨v, hv, rx⟩ := KV.at' ra hkv
    have hbl : s.heap.objs.size ≤ b := Nat.le_of_lt (hG.above b hb)
    refine ⟨hbl, ?_, [kV k, v], ⟨j, (k, v), hj, hv, rfl⟩, fun H3 => ⟨(by rw [sizeLine_eq]; show 2 ≤ 16777216; omega), [key, x], .cons (keyIs_rel his) (.cons rx .nil), ⟨_, hg, rfl, 0, rfl⟩⟩⟩
    rw [upd_ne (Nat.ne_of_gt (hG.above b hb))]
    exact I.hok.fresh hbl
  have gr : ∀ b o, H b = some o → H2 b = some o := fun b o e => g b o (by rw [upd_ne (ne_of_none e hn0)]; exact e)
  refine ⟨.ref s.heap.objs.size, H2, I3, rfl, q _ as H2 gr hn0 (g _ _ upd_same) (paired_ix (by rw [hal, hl]) fun j t kv h1 h2 => ?_)⟩
  obtain ⟨vs, ⟨i, kv', i1, i2, ev⟩, hH⟩ := qt t (List.mem_of_getElem? h1)
  have eij : i = j := (List.getElem?_inj (List.getElem?_eq_some_iff.mp i1).1 nd).mp (i1.trans h1.symm)
  subst eij
  have ee : kv' = kv := Option.some.inj (i2.symm.trans h2)
  rw [ev, ee] at hH
  exact hH
theorem cr_reprB : CallR X (.builtin "repr") (fun xs H Q => ∃ b, xs = [.bl b] ∧ Q (.str (if b then "True" else "False")) H) := by
  intro pins s σ H xs us Q I r h
  obtain ⟨b, rfl, q⟩ := h
  obtain ⟨u, rfl, rb⟩ := vals1 r
  cases rb
  exact PySem.P.repr_of_bool ⟨.str _, H, I.tok _, ⟨_, rfl⟩, q⟩
end
section
variable {K : PySem.W.Frag} {σ : L2.St} {H : Hp} {td te : TE} {a : Addr} {ps : Ps}
/-- dict(list(d.items())) -/
theorem ep_dictItems (h : Ev td σ H (.ref a)) (hp : PairsAt H a ps) : EvP (tCB (rDictP K) (tCons (tCB rListIt (tCons (tBM0 K "dict" rItemsK td) tNil)) tNil)) σ H ps := fun H1 e Q q => by
  obtain ⟨qs, pm, n, z, g⟩ := hp
  refine h H1 e _ fun H2 e2 => ?_
  have g2 := e2 _ _ (e _ _ g)
  refine ⟨.inr (.inr (.inl ⟨rfl, .inl ⟨_, g2⟩⟩)), a, _, rfl, rfl, g2, fun p hp => ?_⟩
  have ep : Ex H2 (upd H2 p (L2.DX.itemsO p a)) := Ex.new hp
  refine ⟨p, a, _, rfl, upd_same, ep _ _ g2, fun l ts H3 e3 hl h3 pd => ?_⟩
  refine ⟨l, ts, kv qs, rfl, sq_of h3, paired_tup pd, fun m hm => ?_⟩
  have mk := merge_kv qs [] (by rw [List.nil_append]; exact n.perm pm)
  rw [List.nil_append] at mk
  rw [show mergeK [] (kv qs) = kv qs from mk]
  exact q m _ (((e2.trans ep).trans e3).trans (Ex.new hm)) ⟨qs, pm, n, z, upd_same⟩
where
  paired_tup {H : Hp} : ∀ {ts : List Addr} {kvs : List (Key × V)}, Paired (fun t (kv : Key × V) => H t = some (.tup [kV kv.1, kv.2])) ts kvs → Paired (fun t (kv : Key × V) => SqT K H t [kV kv.1, kv.2]) ts kvs
    | _, _, .nil => .nil
    | _, _, .cons h r => .cons (st_of h) (paired_tup r)
theorem ev_reprB {b : Bool} (h : Ev te σ H (.bl b)) : Ev (tCB (fun xs H Q => ∃ b, xs = [.bl b] ∧ Q (.str (if b then "True" else "False")) H) (tCons te tNil)) σ H (.str (if b then "True" else "False")) := ev_cb (ea_cons h ea_nil) fun H1 _ Q q => ⟨b, rfl, q H1 (Ex.refl _)⟩
end
end K0

namespace K0
open PySem L2 Evl
theorem Bt.mut {a d : Addr} {H H' : Hp} {o : HO} (h : Bt a H H') (hd : H d = none) : Bt a H (L2.upd H' d o) := fun c u hc => by
  have h1 := h c u hc
  have ncd : c ≠ d := fun z => by
    subst z
    have := hid_le _ _ hc
    rw [hd] at this
    cases this
  unfold hid at h1 ⊢
  split at h1
  · cases h1
  · rename_i nn
    rw [if_neg nn, upd_ne ncd]
    exact h1
theorem DiceAt.mut {a d : Addr} {H : Hp} {o : HO} (h : DiceAt H a) (n : d ≠ a) : DiceAt (L2.upd H d o) a := by
  obtain ⟨x, y, z, h⟩ := h
  exact ⟨x, y, z, by rw [upd_ne n.symm]; exact h⟩
theorem put_len1 (ps : Ps) (k : Str) (d : D) : (putP ps k d).length ≤ ps.length + 1 := by
  unfold putP
  split
  · rw [List.length_map]
    omega
  · rw [List.length_append]
    exact Nat.le_refl _
theorem letter_at {i : Nat} (h : i < 26) : atI (PySem.Str.cps (("abcdefghijklmnopqrstuvwxyz" : Str))).toList (i : Int) = some (97 + i) := (by decide +kernel : ∀ j : Fin 26, atI (PySem.Str.cps (("abcdefghijklmnopqrstuvwxyz" : Str))).toList (j.val : Int) = some (97 + j.val)) ⟨i, h⟩
theorem k_ok {i : Nat} (h : i < 26) : okK (("k" : Str) ++ ⟨#[97 + i]⟩) = true := (by decide +kernel : ∀ j : Fin 26, okK (("k" : Str) ++ ⟨#[97 + j.val]⟩) = true) ⟨i, h⟩
theorem full_ok {i : Nat} (h : i < 26) : okK (("full" : Str) ++ ⟨#[97 + i]⟩) = true := (by decide +kernel : ∀ j : Fin 26, okK (("full" : Str) ++ ⟨#[97 + j.val]⟩) = true) ⟨i, h⟩
theorem ev_letter {σ : L2.St} {H : Hp} {w : Str} {j i : Nat} (hw : w.length ≤ 1000) (hj : σ[j]? = some (some (.int (i : Int)))) (h : i < 26) :
    Ev (tOp (fun x y H Q => ∃ i j, x = V.str i ∧ y = V.str j ∧ i.length + j.length ≤ sizeLine ∧ Q (V.str (i ++ j)) H) (tC (.str w)) (tOp rIxS (tC (.str "abcdefghijklmnopqrstuvwxyz")) (tVar j))) σ H (.str (w ++ ⟨#[97 + i]⟩)) :=
  ev_op ev_c (ev_op ev_c (ev_var hj) (rv_ixS (by decide) (letter_at h))) (rv_addS (by show w.length + 1 ≤ 100000; omega))
theorem small_value {i : Nat} (h : i < 100) : (D.int (i : Int)).value = true := short_value (short_of (decide_eq_false (by split <;> omega)))
section
variable {P : Program} {w : World} {K : PySem.W.Frag} {mg : Str → Option Value} {base : Heap} {A : Ad} {D : Fd}
end
end K0

namespace PySem.SeqAt
open AutoSeq1 (wpAny_loadPart')
open MeetsSeq MeetsSeq2 MeetsSeq3 SeqRoads2
section
variable {prog : Program} {w : World}
/-- t != () -/
theorem own_tupNe0 (l b : Addr) (us : Array Value) (n m : Nat) (dl db : Option Addr) (sl sb : Array (Option Value)) : MeetsIn prog w (Builtin.«tuple.__ne__» ⟨[.ref l, .ref b], []⟩) (fun A R s =>
    s.heap.get? l = some { cls := .type "tuple", dict := dl, data := .seq us n, slots := sl } ∧ s.heap.get? b = some { cls := .type "tuple", dict := db, data := .seq #[] m, slots := sb } ∧ R (.ok (.ret (.bool (us.size != 0)))) s) :=
  .of_wp fun A R s h => by
  obtain ⟨hp, g, d, tk, os⟩ := s
  obtain ⟨hl, hb, h⟩ := h
  have sub := AutoSeq1.sub_tuple_tuple
  wp_walk using wpAny_loadPart' hl, wpAny_loadPart' hb, wpAny_forIn_list _ (fun rest c s' => c.1 = none ∧ s' = ⟨hp, g, d, tk, os⟩ ∧ rest = []) _
  case turn =>
    rintro ⟨y, x⟩ rest c s' ⟨_, _, hi⟩
    cases hi
  case fin =>
    rintro ⟨c1, c2⟩ s' ⟨hc, rfl, _⟩
    have hc' : c1 = none := hc
    subst hc'
    wp_walk
    exact ⟨_, rfl, by simpa [Builtin.Tuple.tupleCompareSizes, bne] using h⟩
  case h => exact ⟨rfl, rfl, by simp⟩
/-- a list that is not empty != [] -/
theorem own_lstNe0 (l b : Addr) (us : Array Value) (n m : Nat) (dl db : Option Addr) (sl sb : Array (Option Value)) (hz : us.size ≠ 0) : MeetsIn prog w (Builtin.«list.__ne__» ⟨[.ref l, .ref b], []⟩) (fun A R s =>
    s.heap.get? l = some { cls := .type "list", dict := dl, data := .seq us n, slots := sl } ∧ s.heap.get? b = some { cls := .type "list", dict := db, data := .seq #[] m, slots := sb } ∧ R (.ok (.ret (.bool true))) s) := by
  intro A R s h
  obtain ⟨hp, g, d, tk, os⟩ := s
  obtain ⟨hl, hb, h⟩ := h
  have sub := AutoSeq1.sub_list_list
  have nz : (us.size != (#[] : Array Value).size) = true := by simpa using hz
  wp_walk using wpAny_loadPart' hl, wpAny_loadPart' hb
  all_goals first | exact h | (simp at nz; done) | skip
variable {A : Around} {s : Shared} {l b : Addr} {us : Array Value}
theorem own_neT0 (hl : s.heap.IsTuple l us) (hb : s.heap.IsTuple b #[]) (hu : A.units < cLine) {E Q : Value → Shared → Prop} (h : Q (.bool (us.size != 0)) s) : wpAny (model prog w) A (richCompare .NotEq (.ref l) (.ref b)) Q E s := by
  obtain ⟨⟨c1, d1, dt1, z1⟩, o1, k1, n1, e1⟩ := id hl
  obtain ⟨⟨c2, d2, dt2, z2⟩, o2, k2, n2, e2⟩ := id hb
  simp only at k1 e1 k2 e2
  subst k1 e1 k2 e2
  have t1 : s.TypeIs (.ref l) "tuple" := ⟨_, o1, rfl⟩
  have t2 : s.TypeIs (.ref b) "tuple" := ⟨_, o2, rfl⟩
  refine wpAny_richCompare_same_room (op := .NotEq) t1 t2 F.slot_tuple_ne (call_meetsIn F.slot_tuple_ne t1 F.entry_tuple_ne (F.args_tuple_ne_2 _ _) (own_tupNe0 l b us n1 n2 d1 d2 z1 z2) ⟨o1, o2, ?_⟩) hu
  exact show Value.bool (us.size != 0) ≠ Value.notImplemented ∧ Q (.bool (us.size != 0)) s from ⟨(fun x => nomatch x), h⟩
theorem own_neL0 (hl : s.heap.IsList l us) (hb : s.heap.IsList b #[]) (hz : us.size ≠ 0) (hu : A.units < cLine) {E Q : Value → Shared → Prop} (h : Q (.bool true) s) : wpAny (model prog w) A (richCompare .NotEq (.ref l) (.ref b)) Q E s := by
  obtain ⟨⟨c1, d1, dt1, z1⟩, o1, k1, n1, e1⟩ := id hl
  obtain ⟨⟨c2, d2, dt2, z2⟩, o2, k2, n2, e2⟩ := id hb
  simp only at k1 e1 k2 e2
  subst k1 e1 k2 e2
  have t1 : s.TypeIs (.ref l) "list" := ⟨_, o1, rfl⟩
  have t2 : s.TypeIs (.ref b) "list" := ⟨_, o2, rfl⟩
  refine wpAny_richCompare_same_room (op := .NotEq) t1 t2 F.slot_list_ne (call_meetsIn F.slot_list_ne t1 F.entry_list_ne (F.args_list_ne_2 _ _) (own_lstNe0 l b us n1 n2 d1 d2 z1 z2 hz) ⟨o1, o2, ?_⟩) hu
  exact show Value.bool true ≠ Value.notImplemented ∧ Q (.bool true) s from ⟨(fun x => nomatch x), h⟩
end
end PySem.SeqAt
namespace K0
open PySem PySem.Spec PyProof.Rows L2 Evl
/-! ### more operators -/
section
variable {P : Program} {w : World}
/-- a dict whose keys are texts lacks None -/
theorem lacks_none {hp : Heap} {a : Addr} {g : Str → Option Value} (m : hp.MapOf (strKind P w) a g) : ∃ f, hp.MapOf (noneKind P w) a f ∧ f none = none := by
  obtain ⟨ob, ar, ep, h1, h2, h3, h4, _⟩ := m
  refine ⟨fun key => findBy (noneKind P w).is ar key, ⟨ob, ar, ep, h1, h2, h3, fun e he => ?_, fun _ => rfl⟩, ?_⟩
  · obtain ⟨k, g1, g2⟩ := h4 e he
    exact ⟨some (.inr k), g1, g2⟩
  · have no : (ar.find? fun e => nkIs none e.key) = none := Array.find?_eq_none.mpr fun e he hq => by
      obtain ⟨k, g1, _⟩ := h4 e he
      obtain ⟨t, et⟩ := Value.isStrOf_shape (x := k) (v := e.key) g1
      have e0 := nk_none hq
      rw [et] at e0
      cases e0
    show (ar.find? fun e => nkIs none e.key).map (·.val) = none
    rw [no]
    rfl
end
section
variable {X : Cx} {d : Addr} {es : Array DictEntry} {n : Nat}
/-- a text or None not in a dict of the top -/
def rNikN (K : PySem.W.Frag) (d : Addr) : R2 := fun x y H Q => y = V.ref d ∧ ((∃ (z : Str) (r : Option Value), x = V.str z ∧ PySem.W.nsIn K d z = some r ∧ Q (.bl (!r.isSome)) H) ∨ (x = .non ∧ Q (.bl true) H))
theorem op_notIn_kdN (D : KDict X.K X.w d es n) : OpR X (compareOp .NotIn) (rNikN X.K d) := by
  intro pins s σ H x y v u Q I rx ry h
  obtain ⟨rfl, ⟨z, r, rfl, hn, q⟩ | ⟨rfl, q⟩⟩ := h
  · exact op_notIn_kd D pins s σ H _ _ v u Q I rx ry ⟨z, r, rfl, rfl, hn, q⟩
  · cases rx
    cases ry
    obtain ⟨f, hm, hf⟩ := lacks_none (PySem.W.mapOf_K (prog := X.prog) I.kIn D.at_ D.lit)
    refine wpAny_notIn_of (show (noneKind X.prog X.w).is none .none = true from rfl) D.low hm ?_
    rw [hf]
    exact ⟨.bl true, H, I.tok _, rfl, q⟩
/-- == of two tuples, the items that meet being flat -/
def rEqF (K : PySem.W.Frag) : R2 := fun x y H Q => ∃ a b xs ys, x = V.ref a ∧ y = V.ref b ∧ SqT K H a xs ∧ SqT K H b ys ∧ (∀ (j : Nat) (u v : V), xs[j]? = some u → ys[j]? = some v → flatV u = true ∧ flatV v = true) ∧
  Q (.bl ((List.range (min xs.length ys.length)).all (fun j => eqV (xs.getD j .non) (ys.getD j .non)) && xs.length == ys.length)) H
theorem op_eqF (hu : X.A.units < cLine) : OpR X (compareOp .Eq) (rEqF X.K) := by
  intro pins s σ H x y v u Q I rx ry h
  obtain ⟨a, b, xs, ys, rfl, rfl, ha, hb, hf, q⟩ := h
  cases rx
  cases ry
  obtain ⟨us, r1, p1, _⟩ := I.tuple ha
  obtain ⟨ws, r2, p2, _⟩ := I.tuple hb
  refine SeqAt.eq_tupleAt (e := fun j => eqV (xs.getD j .non) (ys.getD j .non)) p1 p2 hu (fun j g1 g2 => ?_) ?_
  · obtain ⟨x, hx, a1⟩ := vals_at r1 j g1
    obtain ⟨y, hy, a2⟩ := vals_at r2 j g2
    obtain ⟨f1, f2⟩ := hf j x y hx hy
    rw [gd_some hx, gd_some hy]
    exact eqAt_V a1 a2 f1 f2
  · rw [List.size_toArray, List.size_toArray, ← r1.length, ← r2.length]
    exact ⟨.bl _, H, I, rfl, q⟩
/-- != of a tuple and () -/
def rNeT0 (K : PySem.W.Frag) : R2 := fun x y H Q => ∃ a b xs, x = V.ref a ∧ y = V.ref b ∧ SqT K H a xs ∧ SqT K H b [] ∧ Q (.bl (!xs.isEmpty)) H
theorem op_neT0 (hu : X.A.units + 64 < cLine) : OpR X (compareOp .NotEq) (rNeT0 X.K) := by
  intro pins s σ H x y v u Q I rx ry h
  obtain ⟨a, b, xs, rfl, rfl, ha, hb, q⟩ := h
  cases rx
  cases ry
  obtain ⟨us, r1, p1, _⟩ := I.tuple ha
  obtain ⟨ws, r2, p2, _⟩ := I.tuple hb
  cases r2
  refine SeqAt.own_neT0 p1 p2 (by omega) ?_
  have e : (us.toArray.size != 0) = !xs.isEmpty := by
    rw [List.size_toArray, ← r1.length]
    cases xs <;> rfl
  rw [e]
  exact ⟨.bl (!xs.isEmpty), H, I, rfl, q⟩
/-- != of a list and [] -/
def rNeL0 (K : PySem.W.Frag) : R2 := fun x y H Q => ∃ a b xs, x = V.ref a ∧ y = V.ref b ∧ SqL K H a xs ∧ SqL K H b [] ∧ Q (.bl (!xs.isEmpty)) H
theorem op_neL0 (hu : X.A.units + 64 < cLine) : OpR X (compareOp .NotEq) (rNeL0 X.K) := by
  intro pins s σ H x y v u Q I rx ry h
  obtain ⟨a, b, xs, rfl, rfl, ha, hb, q⟩ := h
  cases rx
  cases ry
  obtain ⟨us, r1, p1, _⟩ := I.list ha
  obtain ⟨ws, r2, p2, _⟩ := I.list hb
  cases r2
  cases xs with
  | nil =>
    cases r1
    exact SeqAt.own_neL p1.isList p2.isList rfl (by omega) (fun j g1 _ => absurd g1 (by simp)) ⟨.bl false, H, I, rfl, q⟩
  | cons y ys =>
    refine SeqAt.own_neL0 p1.isList p2.isList ?_ (by omega) ⟨.bl true, H, I, rfl, q⟩
    cases r1 with
    | cons r1 r2 => simp
end
end K0

namespace K0
open PySem L2 Evl
/-! ### comprehensions over a text that come out empty -/
section
variable {K : PySem.W.Frag} {σ : L2.St} {H H' : Hp} {ta tb te tx : TE} {t u : TT} {x y z v : V}
theorem ev_nilQ {xs : List V} (ha : EvL ta σ H xs) (hb : EvL tb σ H []) : Ev (tOp (fun x y H Q => ∃ a b xs, x = V.ref a ∧ y = V.ref b ∧ SqL K H a xs ∧ SqL K H b [] ∧ Q (.bl xs.isEmpty) H) ta tb) σ H (.bl xs.isEmpty) := fun H1 e Q q =>
  ha H1 e _ fun p H2 _ e2 h2 => hb H2 (e.trans e2) _ fun p2 H3 _ e3 h3 => ⟨p, p2, xs, rfl, rfl, sq_of (e3 _ _ h2), sq_of h3, q H3 (e2.trans e3)⟩
theorem ev_neNil {xs : List V} (ha : EvL ta σ H xs) (hb : EvL tb σ H []) : Ev (tOp (rNeL0 K) ta tb) σ H (.bl (!xs.isEmpty)) := fun H1 e Q q =>
  ha H1 e _ fun p H2 _ e2 h2 => hb H2 (e.trans e2) _ fun p2 H3 _ e3 h3 => ⟨p, p2, xs, rfl, rfl, sq_of (e3 _ _ h2), sq_of h3, q H3 (e2.trans e3)⟩
theorem given_nil {n : Nat} {f : Nat → Bool} {v : Nat → V} : (given n f v).isEmpty = (List.range n).all fun i => !f i := by
  unfold given
  rw [Bool.eq_iff_iff]
  simp
/-- a comprehension over a text -/
theorem el_txt {s : Str} {tl : TE} {j : Nat} {vs : List Nat} (f : Nat → Bool) (v : Nat → V) (h : Ev tl σ H (.str s)) (hz : s.length ≤ 40000) (hw : ∀ x, wipe ((wipe σ vs).set j (some x)) vs = wipe σ vs)
    (ht : ∀ (i : Nat) (c : Nat) H1, Ex H H1 → s.cps[i]? = some c → EvT t ((wipe σ vs).set j (some (.str ⟨#[c]⟩))) H1 (f i)) (he : ∀ (i : Nat) (c : Nat) H1, Ex H H1 → s.cps[i]? = some c → f i = true → Ev te ((wipe σ vs).set j (some (.str ⟨#[c]⟩))) H1 (v i)) :
    EvL (tLc (iStr tl) (gName j) t te vs) σ H (given s.length f v) := fun H0 e Q q => h H0 e _ fun H1 e1 => ⟨s, rfl, fun Dl hD =>
  lc_it (walk_str (z := s)) (Cw H1 f v Dl) ⟨hD, Ex.new hD, upd_same⟩ (fun i H' _ p => trivial) (fun i x H' H'' hi p yp => by
    obtain ⟨rfl, c, hc, rfl⟩ := yp
    have hlt : i < s.length := hi
    exact ⟨hw _, cw_turn p (by omega) (ht i c H1 (e.trans e1) hc) (fun hf => he i c H1 (e.trans e1) hc hf)⟩) (fun H' p => q Dl H' (fresh_back e1 p.1) (e1.trans p.2.1) p.2.2)⟩
theorem range_allD {α : Type} (f : α → Bool) (d : α) : ∀ l : List α, ((List.range l.length).all fun i => f (l.getD i d)) = l.all f
  | [] => rfl
  | a :: l => by
    rw [List.length_cons, List.range_succ_eq_map, List.all_cons, List.all_cons, List.all_map, ← range_allD f d l]
    rfl
/-- [sign for sign in text if not ok(sign)] == [] -/
theorem ev_signs {s : Str} {tl : TE} {j : Nat} {vs : List Nat} (ok : Nat → Bool) (h : Ev tl σ H (.str s)) (hz : s.length ≤ 40000) (hw : ∀ x, wipe ((wipe σ vs).set j (some x)) vs = wipe σ vs) (hj : ∀ x, ((wipe σ vs).set j (some x))[j]? = some (some x))
    (ht : ∀ (c : Nat) H1, Ex H H1 → EvT t ((wipe σ vs).set j (some (.str ⟨#[c]⟩))) H1 (!ok c)) :
    Ev (tOp (fun x y H Q => ∃ a b xs, x = V.ref a ∧ y = V.ref b ∧ SqL K H a xs ∧ SqL K H b [] ∧ Q (.bl xs.isEmpty) H) (tLc (iStr tl) (gName j) t (tVar j) vs) (tLst tNil)) σ H (.bl (s.cps.toList.all ok)) := by
  refine ev_is (ev_nilQ (el_txt (fun i => !ok (s.cps.toList.getD i 0)) (fun i => .str ⟨#[s.cps.toList.getD i 0]⟩) h hz hw (fun i c H1 e1 hc => ?_) (fun i c H1 e1 hc _ => ?_)) (el_lst ea_nil (by decide))) ?_
  · have : s.cps.toList.getD i 0 = c := by rw [List.getD_eq_getElem?_getD, Array.getElem?_toList, hc]; rfl
    rw [this]
    exact ht c H1 e1
  · have : s.cps.toList.getD i 0 = c := by rw [List.getD_eq_getElem?_getD, Array.getElem?_toList, hc]; rfl
    rw [this]
    exact ev_var (hj _)
  · rw [given_nil]
    have e1 : s.length = s.cps.toList.length := by rw [Array.length_toList]; rfl
    have e2 := range_allD ok 0 s.cps.toList
    rw [← e2, e1]
    congr 2
    funext i
    rw [Bool.not_not]
end
/-! ### signs -/
def inC (a b c : Nat) : Bool := decide (a ≤ c) && decide (c ≤ b)
theorem le1 (a c : Nat) : (!decide (([c] : List Nat) < [a])) = decide (a ≤ c) := by
  by_cases h : a ≤ c
  · rw [decide_eq_true h, decide_eq_false]
    · rfl
    · intro q
      have q' : List.Lex (· < ·) [c] [a] := q
      cases q' with
      | rel z => exact absurd z (Nat.not_lt.mpr h)
      | cons z => cases z
  · rw [decide_eq_false h, decide_eq_true (show ([c] : List Nat) < [a] from List.Lex.rel (Nat.lt_of_not_le h))]
    rfl
theorem letter_in (c : Nat) : letters.cps.contains c = inC 97 122 c := by
  by_cases h : c < 123
  · exact (by decide +kernel : ∀ j : Fin 123, letters.cps.contains j.val = inC 97 122 j.val) ⟨c, h⟩
  · have e1 : inC 97 122 c = false := by
      unfold inC
      rw [decide_eq_false (show ¬ c ≤ 122 by omega), Bool.and_false]
    rw [e1, Bool.eq_false_iff]
    intro q
    have m : c ∈ letters.cps.toList := by simpa using q
    have := List.all_eq_true.mp (by decide +kernel : letters.cps.toList.all (fun c => decide (c < 123)) = true) c m
    exact h (of_decide_eq_true this)
theorem sign_in (c : Nat) : signs37.cps.contains c = ((inC 97 122 c || inC 48 57 c) || decide (c = 32)) := by
  by_cases h : c < 123
  · exact (by decide +kernel : ∀ j : Fin 123, signs37.cps.contains j.val = ((inC 97 122 j.val || inC 48 57 j.val) || decide (j.val = 32))) ⟨c, h⟩
  · have e1 : ((inC 97 122 c || inC 48 57 c) || decide (c = 32)) = false := by
      unfold inC
      rw [decide_eq_false (show ¬ c ≤ 122 by omega), decide_eq_false (show ¬ c ≤ 57 by omega), decide_eq_false (show ¬ c = 32 by omega), Bool.and_false, Bool.and_false]
      rfl
    rw [e1, Bool.eq_false_iff]
    intro q
    have m : c ∈ signs37.cps.toList := by simpa using q
    have := List.all_eq_true.mp (by decide +kernel : signs37.cps.toList.all (fun c => decide (c < 123)) = true) c m
    exact h (of_decide_eq_true this)
section
variable {P : Program} {w : World} {K : PySem.W.Frag} {mg : Str → Option Value} {base : Heap} {A : Ad} {D : Fd}
/-- "a" <= sign <= "z" -/
theorem ev_btw {σ : L2.St} {H : Hp} {a b c : Nat} {sa sb : Str} {ta tb tc : TE} (ea : sa.cps.toList = [a]) (eb : sb.cps.toList = [b]) (h1 : Ev ta σ H (.str sa)) (h2 : Ev tb σ H (.str ⟨#[c]⟩)) (h3 : Ev tc σ H (.str sb)) :
    Ev (tChain (fun x y H Q => ∃ i j, x = .str i ∧ y = .str j ∧ Q (.bl (!decide (j.cps.toList < i.cps.toList))) H) (fun x y H Q => ∃ i j, x = .str i ∧ y = .str j ∧ Q (.bl (!decide (j.cps.toList < i.cps.toList))) H) ta tb tc) σ H (.bl (inC a b c)) :=
  ev_is (ev_chain_of h1 h2 rv_leS h3 rv_leS) (congrArg V.bl (by
    show (!decide (([c] : List Nat) < sa.cps.toList) && !decide (sb.cps.toList < [c])) = inC a b c
    rw [ea, eb, le1, le1]
    rfl))
theorem abs_short (i : Int) : decide ((if i < 0 then -i else i) < 10 ^ 12) = (K0.D.int i).short := by
  rw [Bool.eq_iff_iff]
  constructor
  · intro h
    have h' := of_decide_eq_true h
    exact short_of (decide_eq_false (by split at h' <;> (split <;> omega)))
  · intro h
    have h' : (numB i && (decide (-(999999999999) ≤ i) && decide (i ≤ 999999999999))) = true := h
    have h2 := Bool.and_eq_true_iff.mp (Bool.and_eq_true_iff.mp h').2
    have a := of_decide_eq_true h2.1
    have b := of_decide_eq_true h2.2
    refine decide_eq_true ?_
    split <;> omega
end
end K0

namespace K0
open PySem L2 Evl
/-! ### ascending rows of ints -/
theorem asc_pwQ : ∀ ns : List Int, ascB ns = true ↔ ns.Pairwise (· < ·)
  | [] => by simp [ascB]
  | [a] => by simp [ascB]
  | a :: b :: r => by
    have ih := asc_pwQ (b :: r)
    show (decide (a < b) && ascB (b :: r)) = true ↔ _
    rw [Bool.and_eq_true, decide_eq_true_eq, ih]
    constructor
    · rintro ⟨h1, h2⟩
      refine List.pairwise_cons.mpr ⟨fun x hx => ?_, h2⟩
      rcases List.mem_cons.mp hx with h | h
      · rw [h]
        exact h1
      · have := (List.pairwise_cons.mp h2).1 x h
        omega
    · intro h
      obtain ⟨h1, h2⟩ := List.pairwise_cons.mp h
      exact ⟨h1 b List.mem_cons_self, h2⟩
theorem pw_one : ∀ {ns ms : List Int}, ns.Pairwise (· < ·) → ms.Pairwise (· < ·) → (∀ k, k ∈ ns ↔ k ∈ ms) → ns = ms
  | [], [], _, _, _ => rfl
  | [], m :: ms, _, _, h => absurd ((h m).mpr List.mem_cons_self) (by simp)
  | n :: ns, [], _, _, h => absurd ((h n).mp List.mem_cons_self) (by simp)
  | n :: ns, m :: ms, h1, h2, h => by
    obtain ⟨a1, a2⟩ := List.pairwise_cons.mp h1
    obtain ⟨b1, b2⟩ := List.pairwise_cons.mp h2
    have e : n = m := by
      have c1 := (h n).mp List.mem_cons_self
      have c2 := (h m).mpr List.mem_cons_self
      rcases List.mem_cons.mp c1 with c1 | c1
      · exact c1
      · rcases List.mem_cons.mp c2 with c2 | c2
        · exact c2.symm
        · have := a1 m c2
          have := b1 n c1
          omega
    subst e
    rw [pw_one a2 b2 fun k => ?_]
    constructor
    · intro hk
      have := (h k).mp (List.mem_cons_of_mem _ hk)
      rcases List.mem_cons.mp this with c | c
      · have := a1 k hk
        omega
      · exact c
    · intro hk
      have := (h k).mpr (List.mem_cons_of_mem _ hk)
      rcases List.mem_cons.mp this with c | c
      · have := b1 k hk
        omega
      · exact c
theorem eqv_intsQ : ∀ ns ms : List Int, PyData.eqvAll (ns.map PyData.int) (ms.map PyData.int) = decide (ns = ms)
  | [], [] => rfl
  | [], m :: ms => by simp [PyData.eqvAll]
  | n :: ns, [] => by simp [PyData.eqvAll]
  | n :: ns, m :: ms => by
    rw [List.map_cons, List.map_cons, PyData.eqvAll, eqv_intsQ ns ms, PyData.eqv]
    rw [Bool.eq_iff_iff]
    simp
theorem eqv_asc {ns ms : List Int} (h1 : ms.Pairwise (· < ·)) (h2 : ∀ k : Int, k ∈ ms ↔ decide (k ∈ ns) = true) : PyData.eqv (.list (ns.map PyData.int)) (.list (ms.map PyData.int)) = ascB ns := by
  rw [PyData.eqv, eqv_intsQ, Bool.eq_iff_iff, decide_eq_true_eq, asc_pwQ]
  constructor
  · intro e
    rw [e]
    exact h1
  · intro h
    exact pw_one h h1 fun k => by rw [h2 k, decide_eq_true_eq]
theorem dpAll_intsQ {K : PySem.W.Frag} {H : Hp} : ∀ ns : List Int, DpAll K H (ns.map V.int) (ns.map PyData.int)
  | [] => .nil
  | n :: ns => .cons (.int n) (dpAll_intsQ ns)
theorem lay_intsQ : ∀ ns : List Int, PyData.canLayAll0 (ns.map PyData.int) = true
  | [] => rfl
  | n :: ns => by
    rw [List.map_cons]
    simp only [PyData.canLayAll0, lay_intsQ ns, Bool.and_true]
    rfl
theorem depth_intsQ : ∀ ns : List Int, PyData.depthAll (ns.map PyData.int) = 0
  | [] => rfl
  | n :: ns => by
    rw [List.map_cons]
    simp only [PyData.depthAll, depth_intsQ ns]
    rfl
theorem shaped_intsQ (ns : List Int) : SeqAt.shaped (.list (ns.map PyData.int)) = true := by
  unfold SeqAt.shaped
  have h1 : (PyData.list (ns.map PyData.int)).canLay0 = true := by
    simp only [PyData.canLay0, lay_intsQ]
  have h2 : (PyData.list (ns.map PyData.int)).depth ≤ 64 := by
    simp only [PyData.depth, depth_intsQ]
    omega
  rw [h1, decide_eq_true h2]
  rfl
/-- list(t) == sorted(set(t)) -/
theorem ev_ascT {K : PySem.W.Frag} {w : World} {σ : L2.St} {H : Hp} {ta tb : TE} {a : Addr} {ns : List Int} (ha : Ev ta σ H (.ref a)) (hb : Ev tb σ H (.ref a)) (h : SqT K H a (ns.map V.int)) (hl : ns.length ≤ 60) :
    Ev (tOp (rEqD K) (tCB (fun xs H Q => ∃ p ys, xs = [.ref p] ∧ (SqL K H p ys ∨ SqT K H p ys) ∧ ∀ l, H l = none → Q (.ref l) (upd H l (.lst ys))) (tCons ta tNil)) (tCB (rSortedSet w) (tCons (tCB (rSetT K w) (tCons tb tNil)) tNil))) σ H (.bl (ascB ns)) := fun H1 e Q q =>
  ha H1 e _ fun H2 e2 => ⟨a, _, rfl, .inr (ex_t (e.trans e2) h), fun l hlf => by
    have e3 : Ex H2 (upd H2 l (.lst (ns.map V.int))) := Ex.new hlf
    refine hb _ ((e.trans e2).trans e3) _ fun H4 e4 => ⟨a, ns, rfl, ex_t (((e.trans e2).trans e3).trans e4) h, hl, fun p c hc hp => ?_⟩
    refine ⟨p, _, c, rfl, upd_same, by omega, fun ms p2 h1 h2 h3 hp2 => ?_⟩
    have e5 := Ex.new (o := SetO w p (fun j => decide (j ∈ ns)) c) hp
    have e6 := Ex.new (o := .lst (ms.map V.int)) hp2
    refine ⟨.list (ns.map PyData.int), .list (ms.map PyData.int), .lst (sq_of (e6 _ _ (e5 _ _ (e4 _ _ upd_same)))) (dpAll_intsQ ns), .lst (sq_of upd_same) (dpAll_intsQ ms), shaped_intsQ ns, shaped_intsQ ms, ?_⟩
    rw [eqv_asc h1 h2]
    exact q _ ((((e2.trans e3).trans e4).trans e5).trans e6)⟩
section
variable {P : Program} {w : World} {K : PySem.W.Frag} {mg : Str → Option Value} {base : Heap} {A : Ad} {D : Fd}
/-- [x for x in t if not ok(x)], t of data -/
theorem el_not {σ : L2.St} {H : Hp} {tl : TE} {t : TT} {j : Nat} {vs : List Nat} {a : Addr} {xs : List V} {ds : List K0.D} (ok : K0.D → Bool) (h : Ev tl σ H (.ref a)) (hx : SqT K H a xs) (hr : RpAll K H xs ds) (hz : xs.length ≤ 40000) (hw : ∀ x, wipe ((wipe σ vs).set j (some x)) vs = wipe σ vs)
    (ht : ∀ d x H1, d ∈ ds → Ex H H1 → Rp K H1 x d → EvT t ((wipe σ vs).set j (some x)) H1 (!ok d)) (hj : ∀ x, ((wipe σ vs).set j (some x))[j]? = some (some x)) :
    ∃ ys, EvL (tLc (iTup K tl) (gName j) t (tVar j) vs) σ H ys ∧ ys.isEmpty = ds.all ok := by
  have hlen := hr.len
  refine ⟨_, el_lcT (fun i => !ok (ds.getD i .non)) (fun i => xs.getD i .non) h hx hz hw (fun i y H3 e3 hy => ?_) (fun i y H3 e3 hy _ => ?_), ?_⟩
  · obtain ⟨d, hd, hrp⟩ := RpAll.get _ _ _ _ hr hy
    rw [gd_some hd]
    exact ht d y H3 (List.mem_of_getElem? hd) e3 (hrp.ex e3)
  · have : xs.getD i .non = y := by rw [List.getD_eq_getElem?_getD, hy]; rfl
    rw [this]
    exact ev_var (hj _)
  · rw [given_nil, hlen]
    have e2 := range_allD ok .non ds
    rw [← e2]
    congr 1
    funext i
    rw [Bool.not_not]
theorem whole_in {lo hi : Int} (h1 : -big ≤ lo) (h2 : hi ≤ big) (d : K0.D) : (d.whole && (decide (lo ≤ d.toInt) && decide (d.toInt ≤ hi))) = d.within lo hi := by
  cases d with
  | int i =>
    show (true && (decide (lo ≤ i) && decide (i ≤ hi))) = (numB i && (decide (lo ≤ i) && decide (i ≤ hi)))
    rw [Bool.true_and, Bool.eq_iff_iff]
    unfold numB
    simp only [Bool.and_eq_true, decide_eq_true_eq]
    constructor
    · rintro ⟨a, b⟩
      exact ⟨⟨by omega, by omega⟩, a, b⟩
    · rintro ⟨_, a, b⟩
      exact ⟨a, b⟩
  | _ => rfl
theorem rp_whole {H : Hp} {x : V} {d : K0.D} (h : Rp K H x d) (hw : K0.D.whole d = true) : x = .int d.toInt := by
  cases h <;> first | rfl | cases hw
end
end K0

namespace K0
open PySem L2 Evl
section
variable {K : PySem.W.Frag} {σ : L2.St} {H : Hp} {tl te : TE} {t u : TT} {D : Ends} {tz : TS}
abbrev tIsT (K : PySem.W.Frag) (i : Nat) : TT := tNot (tB (tCB (rIsi K) (tCons (tVar i) (tCons (tC (.ty "tuple")) tNil))))
abbrev tLenB (K : PySem.W.Frag) (i : Nat) : TE := tCB (fun xs H Q => ∃ x n, xs = [x] ∧ LenV K x H n ∧ Q (.int n) H) (tCons (tVar i) tNil)
abbrev tLen2 (K : PySem.W.Frag) (i : Nat) : TT := tTest (tOp (rI0 fun i j => .bl (decide (i < j))) (tLenB K i) (tC (.int 2)))
abbrev tNth (K : PySem.W.Frag) (i j : Nat) : TE := tOp (rIxT K) (tVar i) (tC (.int (j : Int)))
abbrev tIsS (K : PySem.W.Frag) (i : Nat) : TT := tNot (tB (tCB (rIsi K) (tCons (tOp (rIxT K) (tVar i) (tC (.int 0))) (tCons (tC (.ty "str")) tNil))))
theorem et_noT {x : V} {d : K0.D} {i : Nat} (hv : σ[i]? = some (some x)) (hx : Rp K H x d) (hf : d.isTup = false) : EvT (tOr (tIsT K i) u) σ H true :=
  et_is (et_or (a := true) (b := true) (et_is (et_not (et_B (ev_cb (ea_cons (ev_var hv) (ea_cons ev_c ea_nil)) (rc_tup hx)))) (by rw [hf]; rfl)) fun z => by cases z) rfl
theorem et_isT {b : Bool} {a : Addr} {xs : List V} {ds : List K0.D} {i : Nat} (hv : σ[i]? = some (some (.ref a))) (hx : Rp K H (.ref a) (.tup ds)) (h : EvT u σ H b) : EvT (tOr (tIsT K i) u) σ H b :=
  et_is (et_or (a := false) (b := b) (et_is (et_not (et_B (ev_cb (ea_cons (ev_var hv) (ea_cons ev_c ea_nil)) (rc_tup hx)))) rfl) fun _ => h) (by cases b <;> rfl)
theorem et_lt2 {a : Addr} {xs : List V} {ds : List K0.D} {i : Nat} (hv : σ[i]? = some (some (.ref a))) (hq : SqT K H a xs) (hr : RpAll K H xs ds) : EvT (tLen2 K i) σ H (decide (ds.length < 2)) :=
  et_is (et_test (ev_op (ev_cb (ea_cons (ev_var hv) ea_nil) (rc_lenT hq)) ev_c rv_I0)) (by rw [hr.len]; exact decide_eq_decide.mpr (by omega))
theorem et_s0 {a : Addr} {xs : List V} {d : K0.D} {r : List K0.D} {i : Nat} (hv : σ[i]? = some (some (.ref a))) (hq : SqT K H a xs) (hr : RpAll K H xs (d :: r)) : EvT (tIsS K i) σ H (!d.isStr) := by
  cases hr with
  | cons h1 h2 => exact et_not (et_B (ev_cb (ea_cons (ev_nth (i := 0) (ev_var hv) hq rfl) (ea_cons ev_c ea_nil)) (rc_str h1)))
theorem et_hA {a : Addr} {xs : List V} {ds : List K0.D} {i : Nat} (hv : σ[i]? = some (some (.ref a))) (hx : Rp K H (.ref a) (.tup ds)) (hq : SqT K H a xs) (hr : RpAll K H xs ds) (hl : ds.length < 2) : EvT (tOr (tIsT K i) (tOr (tLen2 K i) u)) σ H true :=
  et_isT (xs := xs) hv hx (et_is (et_or (a := true) (b := true) (et_is (et_lt2 hv hq hr) (decide_eq_true hl)) fun z => by cases z) rfl)
theorem et_hB {a : Addr} {xs : List V} {d : K0.D} {r : List K0.D} {b : Bool} {i : Nat} (hv : σ[i]? = some (some (.ref a))) (hx : Rp K H (.ref a) (.tup (d :: r))) (hq : SqT K H a xs) (hr : RpAll K H xs (d :: r)) (hl : 1 ≤ r.length) (hu : d.isStr = true → EvT u σ H b) (hb : d.isStr = false → b = true) :
    EvT (tOr (tIsT K i) (tOr (tLen2 K i) (tOr (tIsS K i) u))) σ H b :=
  et_isT (xs := xs) hv hx (et_is (et_or (a := false) (b := b) (et_is (et_lt2 hv hq hr) (decide_eq_false (by rw [List.length_cons]; omega))) fun _ => et_is (et_or (a := !d.isStr) (b := b) (et_s0 hv hq hr) fun z => hu (by cases q : d.isStr <;> first | rfl | (rw [q] at z; cases z))) (by
    cases q : d.isStr with
    | true => rfl
    | false => rw [hb q]; rfl)) (by cases b <;> rfl))
theorem et_hC {a : Addr} {xs : List V} {d : K0.D} {r : List K0.D} {i : Nat} (hv : σ[i]? = some (some (.ref a))) (hx : Rp K H (.ref a) (.tup (d :: r))) (hq : SqT K H a xs) (hr : RpAll K H xs (d :: r)) (hl : 1 ≤ r.length) : EvT (tOr (tIsT K i) (tOr (tLen2 K i) (tIsS K i))) σ H (!d.isStr) :=
  et_isT (xs := xs) hv hx (et_is (et_or (a := false) (b := !d.isStr) (et_is (et_lt2 hv hq hr) (decide_eq_false (by rw [List.length_cons]; omega))) fun _ => et_s0 hv hq hr) rfl)
/-- value[0] == word, value[0] in (..) -/
theorem et_w0 {i : Nat} {x z : Str} {b : Bool} {t : Addr} {xs : List V} (h : σ[i]? = some (some (.ref t))) (ht : SqT K H t (.str x :: xs)) (e : decide (x = z) = b) : EvT (tTest (tOp rEq (tOp (rIxT K) (tVar i) (tC (.int 0))) (tC (.str z)))) σ H b := et_wn h ht e
theorem et_n0 {i : Nat} {x z : Str} {b : Bool} {t : Addr} {xs : List V} (h : σ[i]? = some (some (.ref t))) (ht : SqT K H t (.str x :: xs)) (e : (!decide (x = z)) = b) : EvT (tTest (tOp rNe (tOp (rIxT K) (tVar i) (tC (.int 0))) (tC (.str z)))) σ H b :=
  et_is (et_test (ev_op (ev_nth (i := 0) (ev_var h) ht rfl) ev_c (rv_ne rfl))) (by
    rw [← e]
    congr 1
    exact decide_eq_decide.mpr ⟨fun h => V.str.inj h, fun h => by rw [h]⟩)
theorem ev_in2 {i : Nat} {x p q : Str} {t : Addr} {xs : List V} (h : σ[i]? = some (some (.ref t))) (ht : SqT K H t (.str x :: xs)) :
    Ev (tOp (rIn K false) (tOp (rIxT K) (tVar i) (tC (.int 0))) (tTup (tCons (tC (.str p)) (tCons (tC (.str q)) tNil)))) σ H (.bl ([p, q].contains x)) :=
  ev_is (ev_inU (ev_nth (i := 0) (ev_var h) ht rfl) (eu_tup (ea_cons ev_c (ea_cons ev_c ea_nil)) (by simp)) rfl rfl) (congrArg V.bl (inV_strs x [p, q]))
/-- the same comprehension over a tuple that is made for it -/
theorem el_notW {j : Nat} {vs : List Nat} {xs : List V} {ds : List K0.D} (ok : K0.D → Bool) (h : EvW K tl σ H xs) (hr : RpAll K H xs ds) (hz : xs.length ≤ 40000) (hw : ∀ x, wipe ((wipe σ vs).set j (some x)) vs = wipe σ vs)
    (ht : ∀ d x H1, d ∈ ds → Ex H H1 → Rp K H1 x d → EvT t ((wipe σ vs).set j (some x)) H1 (!ok d)) (hj : ∀ x, ((wipe σ vs).set j (some x))[j]? = some (some x)) :
    ∃ ys, EvL (tLc (iTup K tl) (gName j) t (tVar j) vs) σ H ys ∧ ys.isEmpty = ds.all ok := by
  have hlen := hr.len
  refine ⟨given xs.length (fun i => !ok (ds.getD i .non)) (fun i => xs.getD i .non), fun H0 e Q q => h H0 e _ fun p H1 e1 hp => ?_, ?_⟩
  · have go : EvL (tLc (iTup K (tC (.ref p))) (gName j) t (tVar j) vs) σ H1 (given xs.length (fun i => !ok (ds.getD i .non)) (fun i => xs.getD i .non)) := by
      refine el_lcT (fun i => !ok (ds.getD i .non)) (fun i => xs.getD i .non) ev_c hp hz hw (fun i y H3 e3 hy => ?_) (fun i y H3 e3 hy _ => ?_)
      · obtain ⟨d, hd, hrp⟩ := RpAll.get _ _ _ _ hr hy
        rw [gd_some hd]
        exact ht d y H3 (List.mem_of_getElem? hd) ((e.trans e1).trans e3) (hrp.ex ((e.trans e1).trans e3))
      · have : xs.getD i .non = y := by rw [List.getD_eq_getElem?_getD, hy]; rfl
        rw [this]
        exact ev_var (hj _)
    exact go H1 (Ex.refl _) Q fun l H2 hl e2 h2 => q l H2 (fresh_back e1 hl) (e1.trans e2) h2
  · rw [given_nil, hlen]
    have e2 := range_allD ok .non ds
    rw [← e2]
    congr 1
    funext i
    rw [Bool.not_not]
theorem cut_from (n : Nat) (xs : List V) : cutV xs (some (n : Int)) none = xs.drop n := by
  unfold cutV
  have h1 : HT.sIx xs.length 0 (some (n : Int)) = min n xs.length := HT.sIx_nat _ _ n
  have h2 : HT.sIx xs.length xs.length none = xs.length := rfl
  rw [h1, h2]
  rcases Nat.le_total n xs.length with h | h
  · rw [Nat.min_eq_left h]
    exact List.take_of_length_le (by rw [List.length_drop]; omega)
  · rw [Nat.min_eq_right h, List.drop_length, List.drop_of_length_le h]
    exact List.take_nil
end
theorem lone_value (d : K0.D) : (d.value && !d.isStr) = d.short := by
  cases d with
  | str s => exact Bool.and_false _
  | int i =>
    show (((D.int i).short || false) && true) = (D.int i).short
    rw [Bool.or_false, Bool.and_true]
  | _ => rfl
theorem loneF_no {w : Str} (ds : List K0.D) (h1 : w ≠ "put") (h2 : w ≠ "drop") (h3 : w ≠ "get") (h4 : w ≠ "add") (h5 : w ≠ "swap") : loneF w ds = false := by
  unfold loneF
  rw [if_neg h1, if_neg h2, if_neg h3, if_neg h4, if_neg h5]
section
variable {P : Program} {w : World} {K : PySem.W.Frag} {mg : Str → Option Value} {base : Heap} {A : Ad} {D : Fd}
theorem lone_key {w : Str} {d : K0.D} {r : List K0.D} (h : d.key = false) : loneF w (.str w :: d :: r) = false := by
  have hk : (nth (K0.D.str w :: d :: r) 1).key = false := h
  unfold loneF fPut fKey fAdd fSwap
  rw [hk]
  simp
theorem lone_short {w : Str} : loneF w [K0.D.str w] = false := by
  unfold loneF fPut fKey fAdd fSwap
  simp
theorem ret_is {H : Hp} {Q : VK} {a b : Bool} (k : RetV (.bl a) H Q) (e : a = b) : RetV (.bl b) H Q := e ▸ k
end
end K0

namespace K0
open PySem L2 Evl
section
variable {K : PySem.W.Frag} {σ : L2.St} {H : Hp} {tl te : TE} {t u : TT}
/-- value[1] is a tuple of one to six -/
theorem et_lot {a : Addr} {xs : List V} {d : K0.D} {x : V} {i : Nat} (hv : σ[i]? = some (some (.ref a))) (hq : SqT K H a xs) (hx1 : xs[1]? = some x) (h1 : Rp K H x d) :
    EvT (tOr (tNot (tB (tCB (rIsi K) (tCons (tNth K i 1) (tCons (tC (.ty "tuple")) tNil))))) (tNot (tTest (tChain (rI0 fun i j => .bl (decide (i ≤ j))) (rI0 fun i j => .bl (decide (i ≤ j))) (tC (.int 1)) (tCB (fun xs H Q => ∃ x n, xs = [x] ∧ LenV K x H n ∧ Q (.int n) H) (tCons (tNth K i 1) tNil)) (tC (.int 6)))))) σ H (!d.lotSize) := by
  have e1 : Ev (tNth K i 1) σ H x := ev_nth (i := 1) (ev_var hv) hq hx1
  by_cases ht : d.isTup = true
  · obtain ⟨b, ys, es, rfl, rfl, hqb, hrb⟩ := h1.isT ht
    refine et_is (et_or (a := false) (b := !(decide (1 ≤ es.length) && decide (es.length ≤ 6))) (et_is (et_not (et_B (ev_cb (ea_cons e1 (ea_cons ev_c ea_nil)) (rc_tup h1)))) rfl) fun _ => et_is (et_not (et_test (ev_chain_le ev_c (ev_cb (ea_cons e1 ea_nil) (rc_lenT hqb)) ev_c))) ?_) rfl
    rw [hrb.len]
    congr 2
    · exact decide_eq_decide.mpr (by omega)
    · exact decide_eq_decide.mpr (by omega)
  · have ht' : d.isTup = false := by cases q : d.isTup <;> first | rfl | exact absurd q ht
    exact et_is (et_or (a := true) (b := true) (et_is (et_not (et_B (ev_cb (ea_cons e1 (ea_cons ev_c ea_nil)) (rc_tup h1)))) (by rw [ht']; rfl)) fun z => by cases z) (by cases d <;> first | rfl | cases ht')
end
theorem lone_lot (d : K0.D) : (isLot d.wordO && d.lone) = d.lone := by
  cases h : d.lone with
  | false => exact Bool.and_false _
  | true =>
    rw [Bool.and_true]
    cases d with
    | tup ds =>
      cases ds with
      | nil => cases h
      | cons e r =>
        cases e with
        | str w =>
          have h' : loneF w (.str w :: r) = true := h
          by_cases c : w ∈ lotWords
          · exact List.contains_iff_mem.mpr c
          · have n : ∀ z ∈ lotWords, w ≠ z := fun z hz e => c (e ▸ hz)
            rw [loneF_no _ (n _ (by decide)) (n _ (by decide)) (n _ (by decide)) (n _ (by decide)) (n _ (by decide))] at h'
            cases h'
        | _ => cases h
    | _ => cases h
theorem deed_short {w : Str} : deedF w [K0.D.str w] = false := by
  unfold deedF fList fAll fCirc
  simp [lone_short]
section
variable {P : Program} {w : World} {K : PySem.W.Frag} {mg : Str → Option Value} {base : Heap} {A : Ad} {D : Fd}
/-! ### is_deed of any data -/
def sp_is_deedN (K : PySem.W.Frag) : Sp := fun vs H Q _ => ∃ x d, vs = [x] ∧ Rp K H x d ∧ d.size ≤ 29000 ∧ RetV (.bl d.deed) H Q
theorem len_is_deedN {vs : List V} {H : Hp} {Q : VK} {E : XK} (h : sp_is_deedN K vs H Q E) : vs.length = 1 := by
  obtain ⟨x, d, rfl, _⟩ := h
  rfl
theorem sv_deedN {H : Hp} {x : V} {d : K0.D} (h : Rp K H x d) (hs : d.size ≤ 29000) : SpV (sp_is_deedN K) [x] H (.bl d.deed) := fun H1 e Q q E => ⟨x, d, rfl, h.ex e, hs, q⟩
theorem rv_nikS {d : Addr} {H : Hp} {s : Str} {r : Option Value} (h : PySem.W.nsIn K d s = some r) : RV (rNikN K d) (.str s) (.ref d) H (.bl (!r.isSome)) := fun H1 _ Q q => ⟨rfl, .inl ⟨s, r, rfl, h, q H1 (Ex.refl _)⟩⟩
theorem rv_nikN {d : Addr} {H : Hp} : RV (rNikN K d) .non (.ref d) H (.bl true) := fun H1 _ Q q => ⟨rfl, .inr ⟨rfl, q H1 (Ex.refl _)⟩⟩
theorem word_none {d : K0.D} (h : d.wordO = none) : d.deed = false := by
  cases d with
  | tup ds =>
    cases ds with
    | nil => rfl
    | cons e r => cases e <;> first | rfl | cases h
  | _ => rfl
theorem ok_is_deedN (T : Txt K mg A D) (U : Tab K w mg A) : FnOk P w K mg base CX0 24 A.is_deed D.is_deed ["value"] (sp_is_deedN K) := by
  have G_word_of : FnOk P w K mg base CX0 1 A.word_of D.word_of ["value"] (sp_word_of K) := ok_word_of T
  obtain ⟨a_DEED_FORMS, g_DEED_FORMS, _, _, kd_DEED_FORMS, nx_DEED_FORMS⟩ := U.d_DEED_FORMS
  have held : ∀ q ∈ hiSS K A, Held P w K mg base 23 q.1 q.2 := by
    intro q hq
    simp only [hiSS, loSS, List.cons_append, List.nil_append, List.mem_cons, List.not_mem_nil, or_false] at hq
    rcases hq with rfl | rfl | rfl | rfl | rfl | rfl | rfl
    · exact ⟨_, _, (ok_is_put T).mono (by decide), T.F_is_put.kp, T.b_is_put⟩
    · exact ⟨_, _, (ok_is_of_key T).mono (by decide), T.F_is_of_key.kp, T.b_is_of_key⟩
    · exact ⟨_, _, (ok_is_add T).mono (by decide), T.F_is_add.kp, T.b_is_add⟩
    · exact ⟨_, _, (ok_is_swap T).mono (by decide), T.F_is_swap.kp, T.b_is_swap⟩
    · exact ⟨_, _, (ok_is_list T).mono (by decide), T.F_is_list.kp, T.b_is_list⟩
    · exact ⟨_, _, (ok_is_all T U).mono (by decide), T.F_is_all.kp, T.b_is_all⟩
    · exact ⟨_, _, (ok_is_of_circle T).mono (by decide), T.F_is_of_circle.kp, T.b_is_of_circle⟩
  refine T.F_is_deed.ok sc_is_deed (fun vs H Q E h => len_is_deedN h) (fun cdv A0 outer s H vs Q E hr h => ?_)
  refine ⟨_, (pss_cons (ps_set (i := 1) sc_is_deed.nd rfl (Or.inl rfl) (pe_call G_word_of (hr.mono (by decide)) rfl T.g_word_of T.F_word_of.kp T.b_word_of .nil pass0 (pa_cons (pv 0) pa_nil)))
  (pss_cons (ps_if (pt_cmpR (op_notIn_kdN kd_DEED_FORMS) (pv 1) (pe_glob (v := .ref a_DEED_FORMS) rfl g_DEED_FORMS rfl) (by rfl)) (pss_one (ps_ret pe_bl)) pss_nil)
  (pss_cons (ps_set (i := 2) sc_is_deed.nd rfl (Or.inl rfl) (pe_ix ix_kdict (pe_glob (v := .ref a_DEED_FORMS) rfl g_DEED_FORMS rfl) (pv 1) (fun _ _ => rfl)))
  (pss_one (ps_ret (pe_callS (i := 2) held hr rfl (Or.inl rfl) (pa_cons (pv 0) pa_nil))))))), ?_⟩
  obtain ⟨x, d, rfl, hx, hs, k⟩ := h
  cases hwo : d.wordO with
  | none =>
    refine q_asg (v := .non) (ev_is (ev_call (ea_cons (ev_var rfl) ea_nil) (sv_word hx (by omega))) (by rw [hwo]; rfl)) fun H1 e1 => ?_
    refine q_when (b := true) (et_test (ev_op (ev_var rfl) ev_c rv_nikN)) (fun _ H2 e2 => ?_) (fun z => by cases z)
    exact s_ret ev_c fun H3 e3 => ret_is k (b := false) (word_none hwo) H3 ((e1.trans e2).trans e3)
  | some s =>
  obtain ⟨r, rfl⟩ := word_tup hwo
  have hs2 : K0.D.sizeL (K0.D.str s :: r) ≤ 29000 := by
    simp only [K0.D.size] at hs
    omega
  refine q_asg (v := .str s) (ev_call (ea_cons (ev_var rfl) ea_nil) (sv_word hx (by omega))) fun H1 e1 => ?_
  by_cases hin : s ∈ deedWords
  · have got : ∃ f sp, (f, sp) ∈ hiSS K A ∧ PySem.W.nsIn K a_DEED_FORMS s = some (some (.ref f)) ∧ SpV sp [x] H (.bl (K0.D.tup (.str s :: r)).deed) := by
      have hc : s = "put" ∨ s = "drop" ∨ s = "get" ∨ s = "add" ∨ s = "swap" ∨ s = "list" ∨ s = "all" ∨ s = "circle" := by simpa [deedWords] using hin
      rcases hc with rfl | rfl | rfl | rfl | rfl | rfl | rfl | rfl
      · exact ⟨A.is_put, sp_is_put K, by simp [hiSS, loSS], nx_DEED_FORMS "put", sv_is (svF (f := fPut) hx hs2) ((deedF_lot _ (by decide +kernel)).trans (loneF_put _))⟩
      · exact ⟨A.is_of_key, sp_is_of_key K, by simp [hiSS, loSS], nx_DEED_FORMS "drop", sv_is (svF (f := fKey) hx hs2) ((deedF_lot _ (by decide +kernel)).trans (loneF_drop _))⟩
      · exact ⟨A.is_of_key, sp_is_of_key K, by simp [hiSS, loSS], nx_DEED_FORMS "get", sv_is (svF (f := fKey) hx hs2) ((deedF_lot _ (by decide +kernel)).trans (loneF_get _))⟩
      · exact ⟨A.is_add, sp_is_add K, by simp [hiSS, loSS], nx_DEED_FORMS "add", sv_is (svF (f := fAdd) hx hs2) ((deedF_lot _ (by decide +kernel)).trans (loneF_add _))⟩
      · exact ⟨A.is_swap, sp_is_swap K, by simp [hiSS, loSS], nx_DEED_FORMS "swap", sv_is (svF (f := fSwap) hx hs2) ((deedF_lot _ (by decide +kernel)).trans (loneF_swap _))⟩
      · exact ⟨A.is_list, sp_is_list K, by simp [hiSS, loSS], nx_DEED_FORMS "list", sv_is (svF (f := fList) hx hs2) (deedF_list _)⟩
      · exact ⟨A.is_all, sp_is_all K, by simp [hiSS, loSS], nx_DEED_FORMS "all", sv_is (svF (f := fAll) hx hs2) (deedF_all _)⟩
      · exact ⟨A.is_of_circle, sp_is_of_circle K, by simp [hiSS, loSS], nx_DEED_FORMS "circle", sv_is (svF (f := fCirc) hx hs2) (deedF_circle _)⟩
    obtain ⟨f, sp, hm, hn, hv⟩ := got
    refine q_when (b := false) (et_test (ev_op (ev_var rfl) ev_c (rv_nikS hn))) (fun z => by cases z) fun _ H2 e2 => ?_
    refine q_asg (ev_op ev_c (ev_var rfl) (rv_kd kd_DEED_FORMS hn)) fun H3 e3 => ?_
    exact s_ret (ev_callS (p := (f, sp)) hm rfl (ea_cons (ev_var rfl) ea_nil) fun H4 e4 Q q E => hv H4 (((e1.trans e2).trans e3).trans e4) Q q E) fun H4 e4 => k H4 (((e1.trans e2).trans e3).trans e4)
  · have hn : PySem.W.nsIn K a_DEED_FORMS s = some none := by
      rw [nx_DEED_FORMS, lookup_not]
      · rfl
      · intro t ht z
        refine hin ?_
        rw [← z]
        simp only [List.mem_cons, List.not_mem_nil, or_false] at ht
        rcases ht with rfl | rfl | rfl | rfl | rfl | rfl | rfl | rfl <;> simp [deedWords]
    refine q_when (b := true) (et_test (ev_op (ev_var rfl) ev_c (rv_nikS hn))) (fun _ H2 e2 => ?_) (fun z => by cases z)
    exact s_ret ev_c fun H3 e3 => ret_is k (b := false) (deedF_not _ hin) H3 ((e1.trans e2).trans e3)
/-! ### entries -/
def fEntry (ds : List K0.D) : Bool := decide (ds.length = 3) && ((nth ds 0).within 0 4 && ((nth ds 1).num && (decide (1 ≤ (nth ds 1).toInt) && (nth ds 2).deed)))
def D.entry : K0.D → Bool
  | .tup ds => fEntry ds | _ => false
def sp_is_entry (K : PySem.W.Frag) : Sp := fun vs H Q _ => ∃ x d, vs = [x] ∧ Rp K H x d ∧ d.size ≤ 29000 ∧ RetV (.bl d.entry) H Q
theorem len_is_entry {vs : List V} {H : Hp} {Q : VK} {E : XK} (h : sp_is_entry K vs H Q E) : vs.length = 1 := by
  obtain ⟨x, d, rfl, _⟩ := h
  rfl
theorem sv_entry {H : Hp} {x : V} {d : K0.D} (h : Rp K H x d) (hs : d.size ≤ 29000) : SpV (sp_is_entry K) [x] H (.bl d.entry) := fun H1 e Q q E => ⟨x, d, rfl, h.ex e, hs, q⟩
theorem rp_num {H : Hp} {x : V} {d : K0.D} (h : Rp K H x d) (hw : d.num = true) : x = .int d.toInt := by
  cases h <;> first | rfl | cases hw
end
end K0

namespace K0
open PySem L2 Evl
/-! ### what is no dict of pairs, what is no deed, and the defs that raise at them -/
inductive NotD (K : PySem.W.Frag) (H : Hp) : V → Prop where
  | non : NotD K H .non
  | bl (b : Bool) : NotD K H (.bl b)
  | int (i : Int) : NotD K H (.int i)
  | str (s : Str) : NotD K H (.str s)
  | tup {a : Addr} {xs : List V} (h : SqT K H a xs) : NotD K H (.ref a)
  | lst {a : Addr} {xs : List V} (h : H a = some (.lst xs)) : NotD K H (.ref a)
def keyD : Key → D
  | .inl i => .int i | .inr s => .str s
structure OddK (K : PySem.W.Frag) (H : Hp) (a : Addr) (kvs : List (Key × V)) (ds : List D) : Prop where
  at_ : H a = some (.dK kvs)
  rp : RpAll K H (kvs.map (·.2)) ds
  cl : D.cleanL ds = true
  sz : ∀ d ∈ ds, d.size ≤ 100
  ks : ∀ q ∈ kvs, (keyD q.1).size ≤ 100
  ln : kvs.length ≤ 1000
def okB (kvs : List (Key × V)) (ds : List D) (i : Nat) : Bool := (keyD (kvs.getD i (.inl 0, .non)).1).key && (nth ds i).value
def WrongP (K : PySem.W.Frag) (H : Hp) (x : V) : Prop := NotD K H x ∨ ∃ a kvs ds, x = .ref a ∧ OddK K H a kvs ds ∧ (24 < kvs.length ∨ ∃ i, i < kvs.length ∧ okB kvs ds i = false)
section
variable {K : PySem.W.Frag} {σ : L2.St} {H H' : Hp}
theorem NotD.ex {x : V} (e : Ex H H') (h : NotD K H x) : NotD K H' x := by
  cases h with
  | non => exact .non
  | bl b => exact .bl b
  | int i => exact .int i
  | str s => exact .str s
  | tup h => exact .tup (ex_t e h)
  | lst h => exact .lst (e _ _ h)
theorem OddK.ex {a : Addr} {kvs : List (Key × V)} {ds : List D} (e : Ex H H') (h : OddK K H a kvs ds) : OddK K H' a kvs ds := ⟨e _ _ h.at_, h.rp.ex e, h.cl, h.sz, h.ks, h.ln⟩
theorem WrongP.ex {x : V} (e : Ex H H') (h : WrongP K H x) : WrongP K H' x := h.imp (·.ex e) fun ⟨a, kvs, ds, r, o, z⟩ => ⟨a, kvs, ds, r, o.ex e, z⟩
theorem rc_noDict {x : V} (h : NotD K H x) : RC (rIsi K) [x, .ty "dict"] H (.bl false) := fun H1 e Q q => by
  have h1 := h.ex e
  cases h1 with
  | non => exact ⟨_, _, _, _, _, rfl, .ty _, .base .non, kit_ty (by decide +kernel), q H1 (Ex.refl _)⟩
  | bl b => exact ⟨_, _, _, _, _, rfl, .ty _, .base (.bl _), kit_ty (by decide +kernel), q H1 (Ex.refl _)⟩
  | int i => exact ⟨_, _, _, _, _, rfl, .ty _, .base (.int _), kit_ty (by decide +kernel), q H1 (Ex.refl _)⟩
  | str s => exact ⟨_, _, _, _, _, rfl, .ty _, .base (.str _), kit_ty (by decide +kernel), q H1 (Ex.refl _)⟩
  | tup h2 => exact ⟨_, _, _, _, _, rfl, .ty _, ty_tup h2, kit_ty (by decide +kernel), q H1 (Ex.refl _)⟩
  | lst h2 => exact ⟨_, _, _, _, _, rfl, .ty _, .base (.lst h2), kit_ty (by decide +kernel), q H1 (Ex.refl _)⟩
theorem rc_oddDict {a : Addr} {kvs : List (Key × V)} (h : H a = some (.dK kvs)) : RC (rIsi K) [.ref a, .ty "dict"] H (.bl true) := fun H1 e Q q => ⟨_, _, _, _, _, rfl, .ty _, .base (.dK (e _ _ h)), kit_ty (by decide +kernel), q H1 (Ex.refl _)⟩
theorem rc_oddLen {a : Addr} {kvs : List (Key × V)} (h : H a = some (.dK kvs)) : RC rLenP [.ref a] H (.int kvs.length) := fun H1 e Q q => ⟨a, kvs, rfl, e _ _ h, q H1 (Ex.refl _)⟩
theorem sqT_lock {a d : Addr} {xs : List V} {kvs : List (Key × V)} {u : HO} (hd : H d = some (.dK kvs)) (h : SqT K H a xs) : SqT K (L2.upd H d u) a xs := by
  have ne : ∀ {o : HO}, H a = some o → (∀ k, o ≠ .dK k) → a ≠ d := fun g n z => by
    rw [z, hd] at g
    exact n _ (Option.some.inj g).symm
  rcases h with (g | ⟨o, g⟩) | z
  · exact .inl (.inl (by rw [upd_ne (ne g fun k z => by cases z)]; exact g))
  · exact .inl (.inr ⟨o, by rw [upd_ne (ne g fun k z => by cases z)]; exact g⟩)
  · exact .inr z
end
section
variable {P : Program} {w : World} {K : PySem.W.Frag} {mg : Str → Option Value} {base : Heap} {A : Ad} {D : Fd}
def sp_check_deedX (K : PySem.W.Frag) (A : Ad) : Sp := fun vs H Q E => ∃ x d, vs = [x] ∧ Rp K H x d ∧ d.size ≤ 29000 ∧ (d.deed = true → RetV .non H Q) ∧ (d.deed = false → ∀ H', Ex H H' → E (.ref A.EInvalidDeed) none H')
theorem ok_check_deedX (T : Txt K mg A D) (U : Tab K w mg A) : FnOk P w K mg base (L2.CX P w) 25 A.check_deed D.check_deed ["deed"] (sp_check_deedX K A) := by
  have G_is_deed : FnOk P w K mg base CX0 24 A.is_deed D.is_deed ["value"] (sp_is_deedN K) := ok_is_deedN T U
  refine T.F_check_deed.okX sc_check_deed (fun vs H Q E h => by obtain ⟨x, d, rfl, _⟩ := h; rfl) (fun cdv A0 outer s H vs Q E hr h => ?_)
  refine ⟨_, (pss_one (ps_if (pt_not (pt_val (pe_call G_is_deed (hr.mono (by decide)) rfl T.g_is_deed T.F_is_deed.kp T.b_is_deed .nil pass0 (pa_cons (pv 0) pa_nil)))) (pss_one (ps_raise rfl (takes_of rfl rfl rfl rfl) (pmk_own PySem.F.excBase_ValueError T.e_InvalidDeed.q T.e_InvalidDeed.g T.e_InvalidDeed.k (raises_own T.e_InvalidDeed.b T.e_InvalidDeed.t) (by exact rfl)))) pss_nil)), ?_⟩
  obtain ⟨x, d, rfl, hx, hs, k1, k2⟩ := h
  refine s_when (et_not (et_B (ev_call (ea_cons (ev_var rfl) ea_nil) (sv_deedN hx hs)))) (fun hb H1 e1 => ?_) fun hb H1 e1 => k1 (by simpa using hb) H1 e1
  exact k2 (by simpa using hb) H1 e1
def sp_are_pairsX (K : PySem.W.Frag) : Sp := fun vs H Q _ => ∃ x, vs = [x] ∧ WrongP K H x ∧ RetV (.bl false) H Q
theorem ok_are_pairsX (T : Txt K mg A D) : FnOk P w K mg base CX0 5 A.are_pairs D.are_pairs ["value"] (sp_are_pairsX K) := by
  have G_is_key : FnOk P w K mg base CX0 2 A.is_key D.is_key ["value"] (sp_is_key K) := ok_is_key T
  have G_is_value : FnOk P w K mg base CX0 4 A.is_value D.is_value ["value"] (sp_is_value K) := ok_is_value T
  obtain ⟨t_MAX_KEYS, c_MAX_KEYS⟩ := T.c_MAX_KEYS
  refine T.F_are_pairs.ok sc_are_pairs (fun vs H Q E h => by obtain ⟨x, rfl, _⟩ := h; rfl) (fun cdv A0 outer s H vs Q E hr h => ?_)
  refine ⟨_, (pss_cons (ps_if (PW.pt (pw_or (pt_not (pt_val (pe_callB call_isi (by rfl) T.b_isinstance (by decide +kernel) (pa_cons (pv 0) (pa_cons (pe_bltn (v := .ty "dict") (u := .type "dict") (by rfl) T.b_dict (by decide +kernel) rfl) pa_nil))))) (pw_or1 (pt_cmpR op_gt (pe_callB call_lenD (by rfl) T.b_len (by decide +kernel) (pa_cons (pv 0) pa_nil)) (pe_glob (v := .int (24)) rfl c_MAX_KEYS ⟨_, rfl⟩) (nomark _))))) (pss_one (ps_ret pe_bl)) pss_nil)
  (pss_one (ps_ret (pe_callB (cr_all rfl) (by rfl) T.b_all (by decide +kernel) (pa_cons (pe_lock (pe_lc (own := [("key", 1), ("worth", 2)]) (g := gTup K 2 (gCons (gName 1) (gCons (gName 2) gNil))) (tt := tYes) rfl sc_are_pairs.nd (pi_items (pv 0)) (blkOk_by (own := [("key", 1), ("worth", 2)]) (N := N_are_pairs) (sc := defScope s_are_pairs) (by decide +kernel)) (fun _ _ _ _ _ => by exact (pg_tup rfl (pgs_cons (pg_name (i := 1) sc_are_pairs.nd rfl (Or.inl rfl)) (pgs_cons (pg_name (i := 2) sc_are_pairs.nd rfl (Or.inl rfl)) pgs_nil)))) (fun _ _ _ _ _ => by exact pts_nil) (fun _ _ _ _ _ => by exact (pe_and (pe_call G_is_key (hr.mono (by decide)) rfl T.g_is_key T.F_is_key.kp T.b_is_key .nil pass0 (pa_cons (pv 1) pa_nil)) (pe_one (pe_call G_is_value (hr.mono (by decide)) rfl T.g_is_value T.F_is_value.kp T.b_is_value .nil pass0 (pa_cons (pv 2) pa_nil))))))) pa_nil))))), ?_⟩
  obtain ⟨x, rfl, hw, k⟩ := h
  rcases hw with hn | ⟨a, kvs, ds, rfl, o, bad⟩
  · refine q_when (b := true) (et_is (et_or (a := true) (b := false) (et_is (et_not (et_B (ev_cb (ea_cons (ev_var rfl) (ea_cons ev_c ea_nil)) (rc_noDict hn)))) rfl) fun z => by cases z) rfl) (fun _ H1 e1 => ?_) fun z => by cases z
    exact s_ret ev_c fun H2 e2 => k H2 (e1.trans e2)
  · by_cases big : 24 < kvs.length
    · refine q_when (b := true) (et_is (et_or (a := false) (b := true) (et_is (et_not (et_B (ev_cb (ea_cons (ev_var rfl) (ea_cons ev_c ea_nil)) (rc_oddDict o.at_)))) rfl) fun _ => et_is (et_test (ev_op (ev_cb (ea_cons (ev_var rfl) ea_nil) (rc_oddLen o.at_)) ev_c rv_I0)) (decide_eq_true (by omega))) rfl) (fun _ H1 e1 => ?_) fun z => by cases z
      exact s_ret ev_c fun H2 e2 => k H2 (e1.trans e2)
    · obtain ⟨i0, hi0, hb0⟩ := bad.resolve_left big
      refine q_when (b := false) (et_is (et_or (a := false) (b := false) (et_is (et_not (et_B (ev_cb (ea_cons (ev_var rfl) (ea_cons ev_c ea_nil)) (rc_oddDict o.at_)))) rfl) fun _ => et_is (et_test (ev_op (ev_cb (ea_cons (ev_var rfl) ea_nil) (rc_oddLen o.at_)) ev_c rv_I0)) (decide_eq_false (by omega))) rfl) (fun z => by cases z) fun _ H1 e1 => ?_
      have o1 := o.ex e1
      refine s_ret (ev_is (ev_all (bs := (List.range kvs.length).map fun i => okB kvs ds i) ?_) ?_) fun H2 e2 => k H2 (e1.trans e2)
      · refine el_lock o1.at_ trivial fun H3 od e3 => ?_
        have o3 := o1.ex e3
        rw [List.map_map]
        refine el_items (fun i => .bl (okB kvs ds i)) (ev_var rfl) upd_same (by have := o.ln; omega) (fun _ _ => rfl) (fun i q H4 e4 hq => ?_)
        have hq2 : (kvs.map (·.2))[i]? = some q.2 := by rw [List.getElem?_map, hq]; rfl
        obtain ⟨d, hd, hrd⟩ := RpAll.get _ _ _ _ o3.rp hq2
        have md := List.mem_of_getElem? hd
        have cd : d.clean = true := by
          have := o.cl
          rw [cleanL_all] at this
          exact List.all_eq_true.mp this d md
        have r4 : Rp K H4 q.2 d := (hrd.byT cd fun b ys z => sqT_lock o3.at_ z).ex e4
        have rk : Rp K H4 (kV q.1) (keyD q.1) := by
          cases q.1 with
          | inl i => exact .int i
          | inr s => exact .str s
        have eb : okB kvs ds i = ((keyD q.1).key && d.value) := by
          unfold okB nth
          rw [List.getD_eq_getElem?_getD, hq, List.getD_eq_getElem?_getD, hd]
          rfl
        have sk := o.ks q (List.mem_of_getElem? hq)
        have sd := o.sz d md
        refine ev_is (ev_andV (a := (keyD q.1).key) (b := d.value) (ev_call (ea_cons (ev_var rfl) ea_nil) (svS rk (by omega))) fun _ => ev_call (ea_cons (ev_var rfl) ea_nil) (svS r4 (by omega))) (by rw [eb])
      · refine congrArg V.bl ?_
        rw [List.all_map]
        exact List.all_eq_false.mpr ⟨i0, List.mem_range.mpr hi0, by show ¬ (okB kvs ds i0 = true); rw [hb0]; decide⟩
def sp_check_pairsX (K : PySem.W.Frag) (A : Ad) : Sp := fun vs H Q E => ∃ x, vs = [x] ∧ ((WrongP K H x ∧ ∀ H', Ex H H' → E (.ref A.EInvalidState) none H') ∨ ∃ a ps, x = .ref a ∧ PairsAt H a ps ∧ PVal ps ∧ RetV .non H Q)
theorem fn_orX {CX : CXT} {k : Nat} {f : Addr} {fd : FuncData} {ps : List Str} {sp sq : Sp} (F : FnOk P w K mg base CX k f fd ps sp) (G : FnOk P w K mg base CX k f fd ps sq) : FnOk P w K mg base CX k f fd ps (fun vs H Q E => sp vs H Q E ∨ sq vs H Q E) :=
  ⟨fun vs H Q E h => h.elim (F.len vs H Q E) (G.len vs H Q E), fun A0 o s H ar us vs Q E hr e hb hv hs => hs.elim (F.run A0 o s H ar us vs Q E hr e hb hv) (G.run A0 o s H ar us vs Q E hr e hb hv)⟩
theorem ok_check_pairsX (T : Txt K mg A D) : FnOk P w K mg base (L2.CX P w) (5 + 1) A.check_pairs D.check_pairs ["pairs"] (sp_check_pairsX K A) := by
  have G_are_pairs := fn_orX (P := P) (w := w) (base := base) (ok_are_pairsX T) (ok_are_pairs T)
  refine T.F_check_pairs.okX sc_check_pairs (fun vs H Q E h => by obtain ⟨x, rfl, _⟩ := h; rfl) (fun cdv A0 outer s H vs Q E hr h => ?_)
  refine ⟨_, (pss_one (ps_if (pt_not (pt_val (pe_call G_are_pairs (hr.mono (by decide)) rfl T.g_are_pairs T.F_are_pairs.kp T.b_are_pairs .nil pass0 (pa_cons (pv 0) pa_nil)))) (pss_one (ps_raise rfl (takes_of rfl rfl rfl rfl) (pmk_own PySem.F.excBase_ValueError T.e_InvalidState.q T.e_InvalidState.g T.e_InvalidState.k (raises_own T.e_InvalidState.b T.e_InvalidState.t) (by exact rfl)))) pss_nil)), ?_⟩
  obtain ⟨x, rfl, ⟨hw, k⟩ | ⟨a, ps, rfl, hp, hv, k⟩⟩ := h
  · exact s_when (b := true) (et_is (et_not (et_B (ev_call (z := .bl false) (ea_cons (ev_var rfl) ea_nil) fun H1 e Q q E => .inl ⟨x, rfl, hw.ex e, q⟩))) rfl) (fun _ H1 e1 => k H1 e1) fun z => by cases z
  · exact s_when (b := false) (et_is (et_not (et_B (ev_call (z := .bl true) (ea_cons (ev_var rfl) ea_nil) fun H1 e Q q E => .inr ⟨a, ps, rfl, hp.ex e, hv, q⟩))) rfl) (fun z => by cases z) fun _ H1 e1 => k H1 e1
end
end K0

namespace K0
open PySem L2 Evl LamX
/-! ### _law_met: a lambda is handed to it; lambdas in a def whose code object is known -/
def wordsD (a b : Str) : K0.D := .tup [.str a, .str b]
def EMet (K : PySem.W.Frag) (A : Ad) (Q : VK) : XK := fun cls _ H' => (cls = .ref A.EInvalidState ∧ RetR K (wordsD "refused" "state") H' Q) ∨ (cls = .ref A.EInvalidDeed ∧ RetR K (wordsD "refused" "deed") H' Q)
def TMet (K : PySem.W.Frag) (A : Ad) : (XK → Hp → VK → Prop) → Hp → VK → Prop := fun tl H Q => tl (EMet K A Q) H (fun _ H' => tTup (tCons (tC (.str "fine")) (tCons (tC (.str "")) tNil)) ([] : L2.St) H' Q)
abbrev tWords (a b : Str) : TS := tRet (tTup (tCons (tC (.str a)) (tCons (tC (.str b)) tNil)))
theorem s_words {K : PySem.W.Frag} {a b : Str} {D : Ends} {σ : L2.St} {H : Hp} (h : RetR K (wordsD a b) H D.rt) : tWords a b D σ H :=
  (ed_tup (K := K) (ds := [.str a, .str b]) (eda_cons ed_str (eda_cons ed_str eda_nil)) (by simp)) H (Ex.refl _) _ h
section
variable {A : Ad} {D : Fd} {X : Cx}
theorem met_gives (T : Txt X.K X.mg A D) {q : Str} {cdg : Value} : GivesTo X N_law_met "_law_met" (defScope s_law_met) A.law_met cdg (defBody s_law_met) "call" q (TMet X.K A) := by
  intro f c' s H Q tl act hc h
  refine ⟨_, pss_cons (ps_try_many (X := (cxOf C8.CX0 X.prog X.w X.K X.mg X.base N_law_met "_law_met" (defScope s_law_met) A.law_met cdg X.A X.stack s H C8.E0).nox) (Wout := fun _ _ _ _ => False)
      (l := [(.ref A.EInvalidState, fun _ _ _ => tWords "refused" "state"), (.ref A.EInvalidDeed, fun _ _ _ => tWords "refused" "deed")])
      (tb := fun W D σ H => ∃ Ech : XK, (∀ cls d σ' H', Ech cls d H' → W cls d σ' H') ∧ σ[0]? = some (some (.ref f)) ∧ H c' = some (CodeO c' q) ∧ tl Ech H (fun _ H' => D.nx σ H'))
      rfl rfl LamX.takes0 (fun W pn xe tk _ => ?_)
      (.cons ⟨rfl, rfl, .inl T.e_InvalidState.g⟩ (fun _ _ _ _ _ _ _ => pss_one (ps_ret (pe_tup (pa_cons pe_str (pa_cons pe_str pa_nil)))))
        (.cons ⟨rfl, rfl, .inl T.e_InvalidDeed.g⟩ (fun _ _ _ _ _ _ _ => pss_one (ps_ret (pe_tup (pa_cons pe_str (pa_cons pe_str pa_nil))))) .nil)))
      (pss_one (ps_ret (pe_tup (pa_cons pe_str (pa_cons pe_str pa_nil))))), ?_⟩
  · refine pss_one ⟨fun pins s' σ H' D I h' => ?_⟩
    obtain ⟨Ech, hW, h1, h2, h3⟩ := h'
    exact (ps_expr (act W pn xe Ech _ _ tk hW)).run pins s' σ H' D I ⟨h1, h2, h3⟩
  · refine ⟨EMet X.K A Q, fun cls d σ' H' z => ?_, rfl, hc, ?_⟩
    · rcases z with ⟨rfl, r⟩ | ⟨rfl, r⟩
      · exact ⟨true, T.m_InvalidState_InvalidState, fun _ a _ => s_words r, fun z => by cases z⟩
      · exact ⟨false, T.m_InvalidDeed_InvalidState, (fun z => by cases z), fun _ => ⟨true, T.m_InvalidDeed_InvalidDeed, fun _ a _ => s_words r, fun z => by cases z⟩⟩
    · exact h
end
end K0

namespace K0
open PySem L2 Evl
section
variable {P : Program} {w : World} {K : PySem.W.Frag} {mg : Str → Option Value} {base : Heap} {A : Ad} {D : Fd}
theorem fn_up {k : Nat} {f : Addr} {fd : FuncData} {ps : List Str} {sp : Sp} (F : FnOk P w K mg base CX0 k f fd ps sp) : FnOk P w K mg base (L2.CX P w) k f fd ps sp :=
  ⟨F.len, fun A0 o s H ar us vs Q E hr e hb hv hs => codeAny_mono (F.run A0 o s H ar us vs Q E hr e hb hv hs) fun r s' z => by
    cases r with
    | error e => exact (show False from z).elim
    | ok fl => cases fl <;> exact z⟩
/-! ### the defs that raise, where they raise -/
def sp_is_readR (K : PySem.W.Frag) (A : Ad) : Sp := fun vs H Q E => ∃ x d, vs = [x] ∧ Rp K H x d ∧ d.size ≤ 29000 ∧ d.deed = false ∧ ∀ H', Ex H H' → E (.ref A.EInvalidDeed) none H'
theorem sp_deedR {x : V} {d : K0.D} {H H1 : Hp} {Q : VK} {E : XK} (hx : Rp K H x d) (hs : d.size ≤ 29000) (hd : d.deed = false) (e : Ex H H1) (k : ∀ H', Ex H H' → E (.ref A.EInvalidDeed) none H') : sp_check_deedX K A [x] H1 Q E :=
  ⟨x, d, rfl, hx.ex e, hs, (fun z => by rw [hd] at z; cases z), fun _ H2 e2 => k H2 (e.trans e2)⟩
theorem ok_is_readR (T : Txt K mg A D) (U : Tab K w mg A) : FnOk P w K mg base (L2.CX P w) 34 A.is_read D.is_read ["deed"] (sp_is_readR K A) := by
  have G_check_deed := ok_check_deedX (P := P) (w := w) (base := base) T U
  refine T.F_is_read.okX sc_is_read (fun vs H Q E h => by obtain ⟨x, d, rfl, _⟩ := h; rfl) (fun cdv A0 outer s H vs Q E hr h => ?_)
  refine ⟨_, pss_cons (ps_expr (pe_call G_check_deed (hr.mono (by decide)) rfl T.g_check_deed T.F_check_deed.kp T.b_check_deed .nil (passes_call (takes_of rfl rfl rfl rfl) (fun _ _ _ _ z => z)) (pa_cons (pv 0) pa_nil))) (pss_one ps_never), ?_⟩
  obtain ⟨x, d, rfl, hx, hs, hd, k⟩ := h
  exact c_call (ea_cons (ev_var rfl) ea_nil) fun H1 e1 => sp_deedR hx hs hd e1 k
theorem ok_keys_ofR (T : Txt K mg A D) (U : Tab K w mg A) : FnOk P w K mg base (L2.CX P w) 34 A.keys_of D.keys_of ["deed"] (sp_is_readR K A) := by
  have G_check_deed := ok_check_deedX (P := P) (w := w) (base := base) T U
  refine T.F_keys_of.okX sc_keys_of (fun vs H Q E h => by obtain ⟨x, d, rfl, _⟩ := h; rfl) (fun cdv A0 outer s H vs Q E hr h => ?_)
  refine ⟨_, pss_cons (ps_expr (pe_call G_check_deed (hr.mono (by decide)) rfl T.g_check_deed T.F_check_deed.kp T.b_check_deed .nil (passes_call (takes_of rfl rfl rfl rfl) (fun _ _ _ _ z => z)) (pa_cons (pv 0) pa_nil))) (pss_cons ps_never (pss_cons ps_never (pss_one ps_never))), ?_⟩
  obtain ⟨x, d, rfl, hx, hs, hd, k⟩ := h
  exact c_call (ea_cons (ev_var rfl) ea_nil) fun H1 e1 => sp_deedR hx hs hd e1 k
def sp_doneR (K : PySem.W.Frag) (A : Ad) : Sp := fun vs H Q E => ∃ x y, vs = [x, y] ∧ ((WrongP K H x ∧ ∀ H', Ex H H' → E (.ref A.EInvalidState) none H') ∨
  ∃ a ps d, x = .ref a ∧ PairsAt H a ps ∧ PVal ps ∧ Rp K H y d ∧ d.size ≤ 29000 ∧ d.deed = false ∧ ∀ H', Ex H H' → E (.ref A.EInvalidDeed) none H')
theorem ok_doneR (T : Txt K mg A D) (U : Tab K w mg A) : FnOk P w K mg base (L2.CX P w) 34 A.done D.done ["pairs", "deed"] (sp_doneR K A) := by
  have G_check_deed := ok_check_deedX (P := P) (w := w) (base := base) T U
  have G_check_pairs := ok_check_pairsX (P := P) (w := w) (base := base) T
  refine T.F_done.okX sc_done (fun vs H Q E h => by obtain ⟨x, y, rfl, _⟩ := h; rfl) (fun cdv A0 outer s H vs Q E hr h => ?_)
  refine ⟨_, pss_cons (ps_expr (pe_call G_check_pairs (hr.mono (by decide)) rfl T.g_check_pairs T.F_check_pairs.kp T.b_check_pairs .nil (passes_call (takes_of rfl rfl rfl rfl) (fun _ _ _ _ z => z)) (pa_cons (pv 0) pa_nil)))
    (pss_cons (ps_expr (pe_call G_check_deed (hr.mono (by decide)) rfl T.g_check_deed T.F_check_deed.kp T.b_check_deed .nil (passes_call (takes_of rfl rfl rfl rfl) (fun _ _ _ _ z => z)) (pa_cons (pv 1) pa_nil))) (pss_cons ps_never (pss_one ps_never))), ?_⟩
  obtain ⟨x, y, rfl, ⟨hw, k⟩ | ⟨a, ps, d, rfl, hp, hv, hy, hs, hd, k⟩⟩ := h
  · exact c_call (ea_cons (ev_var rfl) ea_nil) fun H1 e1 => ⟨x, rfl, .inl ⟨hw.ex e1, fun H2 e2 => k H2 (e1.trans e2)⟩⟩
  · refine c_call (ea_cons (ev_var rfl) ea_nil) fun H1 e1 => ⟨_, rfl, .inr ⟨a, ps, rfl, hp.ex e1, hv, fun H2 e2 => ?_⟩⟩
    exact c_call (ea_cons (ev_var rfl) ea_nil) fun H3 e3 => sp_deedR hy hs hd ((e1.trans e2).trans e3) k
/-- what is no row of deeds -/
def BadRow (d : K0.D) : Prop := d.isTup = false ∨ ∃ ds, d = .tup ds ∧ ds.length ≤ 100 ∧ (∀ e ∈ ds, e.size ≤ 29000) ∧ ds.all K0.D.deed = false
def sp_run_deedsR (K : PySem.W.Frag) (A : Ad) : Sp := fun vs H Q E => ∃ x y, vs = [x, y] ∧ ((WrongP K H x ∧ ∀ H', Ex H H' → E (.ref A.EInvalidState) none H') ∨
  ∃ a ps d, x = .ref a ∧ PairsAt H a ps ∧ PVal ps ∧ Rp K H y d ∧ BadRow d ∧ ∀ H', Ex H H' → E (.ref A.EInvalidDeed) none H')
theorem ok_run_deedsR (T : Txt K mg A D) (U : Tab K w mg A) : FnOk P w K mg base (L2.CX P w) 34 A.run_deeds D.run_deeds ["pairs", "deeds"] (sp_run_deedsR K A) := by
  have G_is_deed : FnOk P w K mg base CX0 24 A.is_deed D.is_deed ["value"] (sp_is_deedN K) := ok_is_deedN T U
  have G_do_deed : FnOk P w K mg base CX0 30 A.do_deed D.do_deed ["pairs", "deed"] (sp_do_deed K) := ok_do_deed T U
  have G_check_pairs : FnOk P w K mg base CX0 6 A.check_pairs D.check_pairs ["pairs"] (sp_check_pairs K) := ok_check_pairs T
  have G_by_keys : FnOk P w K mg base CX0 1 A.by_keys D.by_keys ["table"] (sp_by_keys K) := ok_by_keys T
  have G_check_pairs := ok_check_pairsX (P := P) (w := w) (base := base) T
  refine T.F_run_deeds.okX sc_run_deeds (fun vs H Q E h => by obtain ⟨x, y, rfl, _⟩ := h; rfl) (fun cdv A0 outer s H vs Q E hr h => ?_)
  refine ⟨_, (pss_cons (ps_expr (pe_call G_check_pairs (hr.mono (by decide)) rfl T.g_check_pairs T.F_check_pairs.kp T.b_check_pairs .nil (passes_call (takes_of rfl rfl rfl rfl) (fun _ _ _ _ z => z)) (pa_cons (pv 0) pa_nil)))
  (pss_cons (ps_if (PW.pt (pw_or (pt_not (pt_val (pe_callB call_isi (by rfl) T.b_isinstance (by decide +kernel) (pa_cons (pv 1) (pa_cons (pe_bltn (v := .ty "tuple") (u := .type "tuple") (by rfl) T.b_tuple (by decide +kernel) rfl) pa_nil))))) (pw_or1 (pt_not (pt_val (pe_callB (cr_all rfl) (by rfl) T.b_all (by decide +kernel) (pa_cons (pe_lc (own := [("deed", 2)]) (g := gName 2) (tt := tYes) rfl sc_run_deeds.nd (pi_tup (pv 1)) (blkOk_by (own := [("deed", 2)]) (N := N_run_deeds) (sc := defScope s_run_deeds) (by decide +kernel)) (fun _ _ _ _ _ => by exact pg_name (i := 2) sc_run_deeds.nd rfl (Or.inl rfl)) (fun _ _ _ _ _ => by exact pts_nil) (fun _ _ _ _ _ => by exact (pe_call G_is_deed (hr.mono (by decide)) rfl T.g_is_deed T.F_is_deed.kp T.b_is_deed .nil pass0 (pa_cons (pv 2) pa_nil)))) pa_nil))))))) (pss_one (ps_raise rfl (takes_of rfl rfl rfl rfl) (pmk_own PySem.F.excBase_ValueError T.e_InvalidDeed.q T.e_InvalidDeed.g T.e_InvalidDeed.k (raises_own T.e_InvalidDeed.b T.e_InvalidDeed.t) (by exact rfl)))) pss_nil)
  (pss_cons (ps_set (i := 3) sc_run_deeds.nd rfl (Or.inl rfl) (pe_lst pa_nil))
  (pss_cons (ps_set (i := 4) sc_run_deeds.nd rfl (Or.inl rfl) (pv 0))
  (pss_cons (ps_for (passes_of rfl) rfl (pi_tup (pv 1)) (pg_name (i := 2) sc_run_deeds.nd rfl (Or.inl rfl)) (pss_cons (ps_asg (pe_call G_do_deed (hr.mono (by decide)) rfl T.g_do_deed T.F_do_deed.kp T.b_do_deed .nil pass0 (pa_cons (pv 4) (pa_cons (pv 2) pa_nil))) (pg_tup rfl (pgs_cons (pg_name (i := 4) sc_run_deeds.nd rfl (Or.inl rfl)) (pgs_cons (pg_name (i := 5) sc_run_deeds.nd rfl (Or.inl rfl)) pgs_nil))))
  (pss_one (ps_expr (pe_bm PySem.F.plainAttrs_list PySem.F.slot_list_append PySem.F.type_list_append mt_append (pv 3) (pa_cons (pv 5) pa_nil))))))
  (pss_one (ps_ret (pe_tup (pa_cons (pe_call G_by_keys (hr.mono (by decide)) rfl T.g_by_keys T.F_by_keys.kp T.b_by_keys .nil pass0 (pa_cons (pv 4) pa_nil)) (pa_cons (pe_callTy call_tuple_of (by rfl) T.b_tuple (by decide +kernel) (pa_cons (pv 3) pa_nil)) pa_nil)))))))))), ?_⟩
  obtain ⟨x, y, rfl, ⟨hw, k⟩ | ⟨a, ps, d, rfl, hp, hv, hy, hb, k⟩⟩ := h
  · exact c_call (ea_cons (ev_var rfl) ea_nil) fun H1 e1 => ⟨x, rfl, .inl ⟨hw.ex e1, fun H2 e2 => k H2 (e1.trans e2)⟩⟩
  · refine q_drop (ev_call (z := .non) (ea_cons (ev_var rfl) ea_nil) fun H1 e Q q E => ⟨_, rfl, .inr ⟨a, ps, rfl, hp.ex e, hv, q⟩⟩) fun H1 e1 => ?_
    have hy1 := hy.ex e1
    rcases hb with nt | ⟨ds, rfl, hl, hsz, hbad⟩
    · refine q_when (b := true) (et_is (et_or (a := true) (b := false) (et_is (et_not (et_B (ev_cb (ea_cons (ev_var rfl) (ea_cons ev_c ea_nil)) (rc_tup hy1)))) (by rw [nt]; rfl)) fun z => by cases z) rfl) (fun _ H2 e2 => ?_) fun z => by cases z
      exact k H2 (e1.trans e2)
    · obtain ⟨b, xs, rfl, hb, hr1⟩ := hy1.tupI
      have hlen := hr1.len
      refine q_when (b := true) (et_is (et_or (a := false) (b := true) (et_is (et_not (et_B (ev_cb (ea_cons (ev_var rfl) (ea_cons ev_c ea_nil)) (rc_tup hy1)))) rfl) fun _ => et_is (et_not (et_B (ev_all (bs := (List.range xs.length).map fun i => (nth ds i).deed) ?_))) ?_) rfl) (fun _ H2 e2 => k H2 (e1.trans e2)) fun z => by cases z
      · rw [List.map_map, ← given_map (f := fun _ => true) (fun _ => rfl)]
        refine el_lcT (fun _ => true) _ (ev_var rfl) hb (by omega) (fun _ => rfl) (fun i y H3 e3 hy => et_yes) (fun i y H3 e3 hy _ => ?_)
        obtain ⟨d, hd, hrp⟩ := RpAll.get _ _ _ _ (hr1.ex e3) hy
        refine ev_is (ev_call (ea_cons (ev_var rfl) ea_nil) (sv_deedN hrp (hsz d (List.mem_of_getElem? hd)))) ?_
        show V.bl d.deed = V.bl (nth ds i).deed
        unfold nth
        rw [List.getD_eq_getElem?_getD, hd]
        rfl
      · rw [List.all_map, hlen]
        refine congrArg (fun b => !b) (List.all_eq_false.mpr ?_)
        obtain ⟨e, me, he⟩ := List.all_eq_false.mp hbad
        obtain ⟨i, hi, ei⟩ := List.getElem_of_mem me
        refine ⟨i, List.mem_range.mpr hi, ?_⟩
        show ¬ ((nth ds i).deed = true)
        unfold nth
        rw [List.getD_eq_getElem?_getD, List.getElem?_eq_getElem hi, ei]
        exact he
/-! ### both kinds of calls -/
def sp_doneX (K : PySem.W.Frag) (A : Ad) : Sp := fun vs H Q E => sp_doneR K A vs H Q E ∨ sp_done K vs H Q E
def sp_run_deedsX (K : PySem.W.Frag) (A : Ad) : Sp := fun vs H Q E => sp_run_deedsR K A vs H Q E ∨ sp_run_deeds K vs H Q E
theorem ok_doneX (T : Txt K mg A D) (U : Tab K w mg A) : FnOk P w K mg base (L2.CX P w) 34 A.done D.done ["pairs", "deed"] (sp_doneX K A) := fn_orX (ok_doneR T U) (fn_up (ok_done T U))
theorem ok_run_deedsX (T : Txt K mg A D) (U : Tab K w mg A) : FnOk P w K mg base (L2.CX P w) 34 A.run_deeds D.run_deeds ["pairs", "deeds"] (sp_run_deedsX K A) := fn_orX (ok_run_deedsR T U) (fn_up (ok_run_deeds T U))
end
end K0

namespace K0
open PySem L2 Evl LamX
/-! ### lambdas in the law's own defs -/
structure Ca where
  cR : Addr
  pR : Addr
  cL : Addr
  pL : Addr
def qR : Str := ("_law_right" : Str) ++ ".<locals>." ++ "<lambda>"
def qL : Str := ("law" : Str) ++ ".<locals>." ++ "<lambda>"
def Ca.tabs (ca : Ca) : List (Addr × Str) := [(ca.pR, qR), (ca.pL, qL)]
structure LamH (base : Heap) (mg : Str → Option Value) (D : Fd) (ca : Ca) : Prop where
  c_law_right : D.law_right.code = .ref ca.cR
  t_law_right : TabB base mg ca.cR ca.pR
  c_law : D.law.code = .ref ca.cL
  t_law : TabB base mg ca.cL ca.pL
  ne : ca.pR ≠ ca.pL
section
variable {P : Program} {w : World} {K : PySem.W.Frag} {mg : Str → Option Value} {base : Heap} {A : Ad} {D : Fd} {ca : Ca}
theorem LamH.m_law_right (_ : LamH base mg D ca) : (ca.pR, ("_law_right" : Str) ++ ".<locals>." ++ "<lambda>") ∈ ca.tabs := List.mem_cons_self
theorem LamH.m_law (_ : LamH base mg D ca) : (ca.pL, ("law" : Str) ++ ".<locals>." ++ "<lambda>") ∈ ca.tabs := List.mem_cons_of_mem _ List.mem_cons_self
theorem LamH.u_law_right (h : LamH base mg D ca) : ∀ p ∈ ca.tabs, p.1 = ca.pR → p.2 = ("_law_right" : Str) ++ ".<locals>." ++ "<lambda>" := fun p hp e => by
  rcases List.mem_cons.mp hp with rfl | hp
  · rfl
  · rcases List.mem_cons.mp hp with rfl | hp
    · exact absurd e.symm h.ne
    · cases hp
theorem LamH.u_law (h : LamH base mg D ca) : ∀ p ∈ ca.tabs, p.1 = ca.pL → p.2 = ("law" : Str) ++ ".<locals>." ++ "<lambda>" := fun p hp e => by
  rcases List.mem_cons.mp hp with rfl | hp
  · exact absurd e h.ne
  · rcases List.mem_cons.mp hp with rfl | hp
    · rfl
    · cases hp
/-- a def whose code object is known -/
theorem okL {x qual : Str} {st : Stmt} {f c : Addr} {fd : FuncData} {N ps : List Str} {k : Nat} {sp : Sp} (F : Fun K x qual st f fd) (hc : fd.code = .ref c) (S : FnScope N ps (defScope st)) (len : ∀ vs H Q E, sp vs H Q E → vs.length = ps.length)
    (hbody : ∀ (A : Around) (outer : List Env) (s : Shared) (H : Hp) (vs : List V) (Q : VK) (E : XK), Room k (A.deeper (PyProof.Rows.envOfC qual (defScope st) s.heap.objs.size f (.ref c))) → sp vs H Q E →
      ∃ t, PSs (cxOf CX0 P w K mg base N qual (defScope st) f (.ref c) A outer s H E).nox (defBody st) t ∧ t { nx := fun _ H' => Q .non H', rt := Q } (start N vs) H) : FnOk P w K mg base CX0 (k + 1) f fd ps sp := by
  obtain ⟨oc, od, kV, doc, pm, an, cdv, ct, osl, rfl, lk, hcd⟩ := F.ex
  obtain rfl : cdv = .ref c := hc
  refine fn_of lk hcd S len fun A outer s H vs Q E hr hsp => ?_
  obtain ⟨t, h, q⟩ := hbody A outer s H vs Q E hr hsp
  exact ⟨t, h.nox, q⟩
theorem pe_lm {X : Cx} {TT : List (Addr × Str)} {c P : Addr} {k : Nat} {params : Arguments} {body : Expr} {scope : Scope} {t : XK → TE} {p lpos pos : Pos} (T : Txt X.K X.mg A D) (TB : TabB X.base X.mg c P) (hcode : X.env.code = .ref c) (hmT : (P, X.env.qual ++ "<lambda>") ∈ TT) (hu : ∀ p ∈ TT, p.1 = P → p.2 = X.env.qual ++ "<lambda>")
    (hr : Room (k + 2) X.A) (L : lamSB X.env.scope scope = true) (hg : Gl X "_law_met") (hdef : defaultsOf params X.env = ([], []))
    (hbind : ∀ (q : Str) (cl : List (Str × Addr)) (pm cv ctv : Value), bindArgs (PySem.W.kla_fn "<lambda>" q params body scope cl pm cv ctv) ⟨[], []⟩ = pure [])
    (hbody : ∀ (A : Around) (outer : List Env) (s : Shared) (H : Hp) (E : XK) (f c' : Addr), Room k (A.deeper (lamEnv X scope s.heap.objs.size f c')) → PE (lamCx X A outer s H E scope f c') body (t E)) :
    PE X (.Call (.Name "_law_met" p) [.Lambda params body scope lpos] [] pos) (tLam TT (TMet X.K A) t) := by
  obtain ⟨oc, od, kV, doc, pm, an, cdv, ct, osl, e, lk, hcd⟩ := T.F_law_met.ex
  have hb := T.b_law_met
  rw [e] at hb lk
  exact pe_lamcall hg T.g_law_met T.F_law_met.kp lk hcd hb sc_law_met rfl (Or.inl rfl) (met_gives T) TB hcode hmT hu hr (lamS_by L) hdef hbind hbody
/-- all but the dice list at a and the tables stays -/
def BtN (a : Addr) (H H' : Hp) : Prop := ExtN (hid (some a) H) (hid (some a) H')
def sp_law_right (K : PySem.W.Frag) (ca : Ca) : Sp := fun vs H Q _ => ∃ a, vs = [.ref a] ∧ DiceAt H a ∧ Tabs ca.tabs H ∧ ∀ H', BtN a H H' → DiceAt H' a → Tabs ca.tabs H' → Q (.bl true) H'
end
end K0

namespace K0
open PySem L2 Evl LamX
/-! ### values that lie beside the dice list -/
def EvQ (M : Hp → V → Prop) (te : TE) (σ : L2.St) (H : Hp) : Prop := ∀ H1, Ex H H1 → ∀ Q : VK, (∀ v H2, Ex H1 H2 → M H2 v → Q v H2) → te σ H1 Q
def EvQL (M : Hp → V → Prop) (te : TE) (σ : L2.St) (H : Hp) (n : Nat) : Prop := ∀ H1, Ex H H1 → ∀ Q : VK, (∀ p xs H2, H1 p = none → Ex H1 H2 → H2 p = some (.lst xs) → (∀ v ∈ xs, M H2 v) → xs.length = n → Q (.ref p) H2) → te σ H1 Q
def EvQA (M : Hp → V → Prop) (ta : TA) (σ : L2.St) (H : Hp) (n : Nat) : Prop := ∀ H1, Ex H H1 → ∀ Q : List V → Hp → Prop, (∀ vs H2, Ex H1 H2 → (∀ v ∈ vs, M H2 v) → vs.length = n → Q vs H2) → ta σ H1 Q
structure MonoQ (M : Hp → V → Prop) : Prop where
  m : ∀ {H H' : Hp} {v : V}, Ex H H' → M H v → M H' v
/-- what is true of v where the dice list is hidden -/
def Off (a : Addr) (N : Hp → V → Prop) : Hp → V → Prop := fun H v => N (hid (some a) H) v
section
variable {K : PySem.W.Frag} {σ : L2.St} {H H' : Hp} {ta tb te : TE} {tr : TA} {x y z v : V} {d e : K0.D} {ds es : List K0.D} {M N : Hp → V → Prop} {a p : Addr} {n m : Nat}
theorem Off.mono (h : MonoQ N) : MonoQ (Off a N) := ⟨fun e m => h.m (hid_ex e) m⟩
theorem qa_nil : EvQA M tNil σ H 0 := fun H1 e Q q => q [] H1 (Ex.refl _) (fun v hv => by cases hv) rfl
theorem qa_cons (mo : MonoQ M) (h : EvQ M te σ H) (r : EvQA M tr σ H n) : EvQA M (tCons te tr) σ H (n + 1) := fun H1 e Q q =>
  h H1 e _ fun v H2 e2 m => r H2 (e.trans e2) _ fun vs H3 e3 ms l => q (v :: vs) H3 (e2.trans e3) (fun u hu => by
    rcases List.mem_cons.mp hu with rfl | hu
    · exact mo.m e3 m
    · exact ms u hu) (by rw [List.length_cons, l])
theorem ql_lst (mo : MonoQ M) (h : EvQA M tr σ H n) (hn : n ≤ 1000) : EvQL M (tLst tr) σ H n := fun H1 e Q q =>
  h H1 e _ fun vs H2 e2 ms l => ⟨sz_of (by omega), fun p hp => q p vs _ (fresh_back e2 hp) (e2.trans (Ex.new hp)) upd_same (fun v hv => mo.m (Ex.new hp) (ms v hv)) l⟩
theorem ql_cat {xs : List V} (mo : MonoQ M) (hv : Ev ta σ H (.ref p)) (hp : H p = some (.lst xs)) (hx : ∀ v ∈ xs, M H v) (h : EvQL M te σ H n) (hn : xs.length + n ≤ 1000) : EvQL M (tOp rCat ta te) σ H (xs.length + n) := fun H1 e Q q =>
  hv H1 e _ fun H2 e2 => h H2 (e.trans e2) _ fun r zs H3 hr e3 h3 ms l => ⟨p, r, xs, zs, rfl, rfl, ((e.trans e2).trans e3) _ _ hp, h3, sz_of (by omega), fun t ht =>
    q t _ _ (fresh_back (e2.trans e3) ht) ((e2.trans e3).trans (Ex.new ht)) upd_same (fun v hv => by
      rcases List.mem_append.mp hv with hv | hv
      · exact mo.m (((e.trans e2).trans e3).trans (Ex.new ht)) (hx v hv)
      · exact mo.m (Ex.new ht) (ms v hv)) (by rw [List.length_append, l])⟩
theorem q_pick {E : XK} {D : Ends} {tz : TS} {i : Nat} (mo : MonoQ N) (hv : σ[0]? = some (some (.ref a))) (hd : DiceAt H a) (h : EvQL (Off a N) te σ H n) (n0 : 0 < n) (hn : n ≤ 1000)
    (k : ∀ x H2, Bt a H H2 → DiceAt H2 a → Off a N H2 x → tz D (σ.set i (some x)) H2) : tSeq (tAsg (tCall (sp_law_pick K) [] E (tCons (tVar 0) (tCons te tNil))) (gName i)) tz D σ H := by
  refine d_raw (n_cons (n_var hv (n_cons ?_)))
  refine h H (Ex.refl _) _ fun p xs H2 hp e2 h2 ms l => n_nil ⟨a, p, xs, rfl, hd.ex e2, hd.ne hp, sq_of h2, (fun z => by rw [z] at l; simp at l; omega), by omega, fun x H3 hx b3 d3 => ?_⟩
  exact k x H3 ((Bt.of e2).trans b3) d3 (mo.m b3 (ms x hx))
/-! ### data there -/
def Al (a : Addr) (H : Hp) : Prop := ∃ o, H a = some o
theorem Al.ex (e : Ex H H') (h : Al a H) : Al a H' := let ⟨o, ho⟩ := h; ⟨o, e _ _ ho⟩
theorem Al.ne (h : Al a H) (hp : H p = none) : p ≠ a := fun z => by
  obtain ⟨o, ho⟩ := h
  rw [← z, hp] at ho
  cases ho
abbrev RpO (K : PySem.W.Frag) (a : Addr) (d : K0.D) : Hp → V → Prop := Off a fun H v => Rp K H v d
def EvH (K : PySem.W.Frag) (a : Addr) (te : TE) (σ : L2.St) (H : Hp) (d : K0.D) : Prop := EvQ (RpO K a d) te σ H
def EvHA (K : PySem.W.Frag) (a : Addr) (ta : TA) (σ : L2.St) (H : Hp) (ds : List K0.D) : Prop := ∀ H1, Ex H H1 → ∀ Q : List V → Hp → Prop, (∀ vs H2, Ex H1 H2 → RpAll K (hid (some a) H2) vs ds → Q vs H2) → ta σ H1 Q
theorem h_ev (h : Ev te σ H v) (r : ∀ H, Rp K H v d) : EvH K a te σ H d := fun H1 e Q q => h H1 e Q fun H2 e2 => q v H2 e2 (r _)
theorem h_int {i : Int} : EvH K a (tC (.int i)) σ H (.int i) := h_ev ev_c fun _ => .int i
theorem h_str {s : Str} : EvH K a (tC (.str s)) σ H (.str s) := h_ev ev_c fun _ => .str s
theorem h_non : EvH K a (tC .non) σ H .non := h_ev ev_c fun _ => .non
theorem h_bl {b : Bool} : EvH K a (tC (.bl b)) σ H (.bl b) := h_ev ev_c fun _ => .bl b
theorem h_var {i : Nat} (h : σ[i]? = some (some v)) (r : RpO K a d H v) : EvH K a (tVar i) σ H d := fun H1 e Q q => ev_var h H1 e Q fun H2 e2 => q v H2 e2 (Rp.ex (hid_ex (e.trans e2)) r)
theorem ha_nil : EvHA K a tNil σ H [] := fun H1 e Q q => q [] H1 (Ex.refl _) .nil
theorem ha_cons (h : EvH K a te σ H d) (r : EvHA K a tr σ H ds) : EvHA K a (tCons te tr) σ H (d :: ds) := fun H1 e Q q =>
  h H1 e _ fun v H2 e2 hv => r H2 (e.trans e2) _ fun vs H3 e3 hs => q (v :: vs) H3 (e2.trans e3) (.cons (Rp.ex (hid_ex e3) hv) hs)
theorem h_tup (al : Al a H) (h : EvHA K a tr σ H ds) (l : ds.length ≤ 1000) : EvH K a (tTup tr) σ H (.tup ds) := fun H1 e Q q =>
  h H1 e _ fun vs H2 e2 hs => ⟨by rw [hs.len]; exact sz_of (by omega), fun p hp => q (.ref p) _ (e2.trans (Ex.new hp)) (.tup (st_of (hid_at upd_same ((al.ex (e.trans e2)).ne hp))) (RpAll.ex (hid_ex (Ex.new hp)) hs))⟩
theorem h_lst (al : Al a H) (h : EvHA K a tr σ H ds) (l : ds.length ≤ 1000) : EvQ (Off a fun H v => NotD K H v ∧ Rp K H v .oth) (tLst tr) σ H := fun H1 e Q q =>
  h H1 e _ fun vs H2 e2 hs => ⟨by rw [hs.len]; exact sz_of (by omega), fun p hp => q (.ref p) _ (e2.trans (Ex.new hp)) ⟨.lst (hid_at upd_same ((al.ex (e.trans e2)).ne hp)), .lst (hid_at upd_same ((al.ex (e.trans e2)).ne hp))⟩⟩
theorem h_dict0 (al : Al a H) : EvH K a tDNewK σ H .oth := fun H1 e Q q p hp => q (.ref p) _ (Ex.new hp) (.dct (hid_at upd_same ((al.ex e).ne hp)))
/-- a dict of one key -/
theorem h_disp1 (al : Al a H) {k : Key} {tk tv : TE} (hk : Ev tk σ H (kV k)) (hv : EvH K a tv σ H d) (hc : d.clean = true) (s1 : d.size ≤ 100) (s2 : (keyD k).size ≤ 100) (bad : ((keyD k).key && d.value) = false) :
    EvQ (Off a fun H v => WrongP K H v ∧ Rp K H v .oth) (tDisp [(tk, tv)]) σ H := fun H1 e Q q p hp => by
  have eP : Ex H1 (L2.upd H1 p (.dK [])) := Ex.new hp
  refine hk _ (e.trans eP) _ fun H2 e2 => hv H2 ((e.trans eP).trans e2) _ fun v H3 e3 hv3 => ?_
  have hp3 : H3 p = some (.dK []) := (e2.trans e3) _ _ upd_same
  refine ⟨hp3, [(k, v)], rfl, by simp, ?_⟩
  have np : p ≠ a := (al.ex e).ne hp
  have hat : hid (some a) (L2.upd H3 p (.dK [(k, v)])) p = some (.dK [(k, v)]) := hid_at upd_same np
  have eB : Ex H1 (L2.upd H3 p (.dK [(k, v)])) := fun b o h => by
    have hb : b ≠ p := fun z => by rw [z, hp] at h; cases h
    rw [upd_ne hb]
    exact ((eP.trans e2).trans e3) _ _ h
  refine q (.ref p) _ eB ⟨.inr ⟨p, [(k, v)], [d], rfl, ⟨hat, .cons ?_ .nil, by simp [D.cleanL, hc], (fun x hx => by rw [List.mem_singleton.mp hx]; exact s1), (fun x hx => by rw [List.mem_singleton.mp hx]; exact s2), by simp⟩, .inr ⟨0, by simp, bad⟩⟩, .dct hat⟩
  refine Rp.byT hc (fun b xs g => ?_) hv3
  have nb : ∀ {o : HO}, hid (some a) H3 b = some o → (∀ q, o ≠ .dK q) → hid (some a) (L2.upd H3 p (.dK [(k, v)])) b = some o := fun {o} g n => by
    have h3 := hid_le _ _ g
    have nbp : b ≠ p := fun z => by rw [z, hp3] at h3; exact n _ (Option.some.inj h3).symm
    have nba : b ≠ a := fun z => by unfold hid at g; rw [if_pos (by rw [z])] at g; cases g
    exact hid_at (by rw [upd_ne nbp]; exact h3) nba
  rcases g with (g | ⟨o, g⟩) | g
  · exact .inl (.inl (nb g fun q z => by cases z))
  · exact .inl (.inr ⟨o, nb g fun q z => by cases z⟩)
  · exact .inr g
end
end K0

namespace K0
open PySem L2 Evl
def letters24 : Str := "abcdefghijklmnopqrstuvwx"
def rowK (c : Nat) : Str × D := (("k" : Str) ++ ⟨#[c]⟩, .int 1)
def fullP : Ps := letters24.cps.toList.map rowK
theorem full_no : NoTwo fullP := by unfold NoTwo; decide +kernel
theorem full_all : fullP.all (fun p => okK p.1 && p.2.value) = true := by decide +kernel
theorem full_pairs : ∀ p ∈ fullP, PairOk p := fun p hp => by
  have := Bool.and_eq_true_iff.mp (List.all_eq_true.mp full_all p hp)
  exact pair_ok this.1 this.2
theorem full_at : AllAt fullP := fun p hp => (value_fine (full_pairs p hp).2.1).2.1
theorem full_val : PVal fullP := ⟨by decide +kernel, full_pairs⟩
theorem pval_of {ps : Ps} (hl : ps.length ≤ 24) (h : ps.all (fun p => okK p.1 && p.2.value) = true) : PVal ps := ⟨hl, fun p hp => by
  have := Bool.and_eq_true_iff.mp (List.all_eq_true.mp h p hp)
  exact pair_ok this.1 this.2⟩
section
variable {K : PySem.W.Frag} {σ : L2.St} {H : Hp} {ta tb tp td te : TE} {tr : TA} {ps : Ps} {d : Deed} {E : XK}
theorem n_lst {Q : VK} (h : tr σ H fun vs H1 => vs.length ≤ sizeLine ∧ ∀ p, H1 p = none → Q (.ref p) (upd H1 p (.lst vs))) : tLst tr σ H Q := h
theorem ep_new : EvP tDNewK σ H [] := fun H1 e Q q p hp => q p _ (Ex.new hp) (pairs_at (ps := []) List.nodup_nil (fun p h => by cases h) upd_same)
theorem tpairs_ev : ∀ {trs : List (TE × TE)} {ps : Ps}, Paired (fun (tr : TE × TE) (p : Str × K0.D) => (∀ H, Ev tr.1 σ H (.str p.1)) ∧ ∀ H, Ev tr.2 σ H (atV p.2)) trs ps → ∀ (H1 : Hp) (Q : List (V × V) → Hp → Prop), (∀ H2, Ex H1 H2 → Q (ps.map fun p => (.str p.1, atV p.2)) H2) → tPairs trs σ H1 Q
  | _, _, .nil, H1, Q, q => q H1 (Ex.refl _)
  | _, _, .cons h r, H1, Q, q => h.1 H1 H1 (Ex.refl _) _ fun H2 e2 => h.2 H2 H2 (Ex.refl _) _ fun H3 e3 => tpairs_ev r H3 _ fun H4 e4 => q H4 ((e2.trans e3).trans e4)
theorem ep_disp {trs : List (TE × TE)} (h : Paired (fun (tr : TE × TE) (p : Str × K0.D) => (∀ H, Ev tr.1 σ H (.str p.1)) ∧ ∀ H, Ev tr.2 σ H (atV p.2)) trs ps) (hl : ps.length ≤ 15) (n : NoTwo ps) (z : AllAt ps) : EvP (tDisp trs) σ H ps := fun H1 e Q q p hp =>
  tpairs_ev h _ _ fun H2 e2 => ⟨e2 _ _ upd_same, kv ps, by unfold kv; rw [List.map_map]; rfl, by rw [kv_len]; exact hl, by
    have mk := merge_kv ps [] (by rw [List.nil_append]; exact n)
    rw [List.nil_append] at mk
    rw [show mergeK [] (kv ps) = kv ps from mk]
    exact q p _ (Ex.mut ((Ex.new hp).trans e2) hp) (pairs_at n z upd_same)⟩
theorem ep_disp1 {k : Str} {w : K0.D} {tv : TE} (h : ∀ H, Ev tv σ H (atV w)) (hw : w.isAt = true) : EvP (tDisp [(tC (.str k), tv)]) σ H [(k, w)] := ep_disp (.cons ⟨fun _ => ev_c, h⟩ .nil) (by show 1 ≤ 15; decide) (show ([k] : List Str).Nodup from List.nodup_cons.mpr ⟨(fun h => by cases h), List.nodup_nil⟩) fun p hp => by rw [List.mem_singleton.mp hp]; exact hw
theorem t_done {Q : VK} (h1 : EvP tp σ H ps) (hv : PVal ps) (h2 : EvD K td σ H d.enc) (hd : d.Good) (k : ∀ t p v H', Ex H H' → SqT K H' t [.ref p, v] → PairsAt H' p (stepD ps d).1 → Rp K H' v (stepD ps d).2 → Q (.ref t) H') : tCall (sp_done K) [] E (tCons tp (tCons td tNil)) σ H Q :=
  d_raw (n_cons (h1 H (Ex.refl _) _ fun p H1 e1 hp => n_cons (h2 H1 e1 _ fun v H2 e2 hv2 => n_nil ⟨p, v, ps, d, rfl, hp.ex e2, hv, hv2, hd, fun t p' v' ys H3 e3 f1 f2 f3 fp fs f4 => k t p' v' H3 ((e1.trans e2).trans e3) f1 f2 f4⟩)))
theorem EvP.mono {H1 : Hp} (e : Ex H H1) (h : EvP tp σ H ps) : EvP tp σ H1 ps := fun H2 e2 Q q => h H2 (e.trans e2) Q q
theorem ed_done1 (h1 : EvP tp σ H ps) (hv : PVal ps) (h2 : EvD K td σ H d.enc) (hd : d.Good) : EvD K (tOp (rIxT K) (tCall (sp_done K) [] E (tCons tp (tCons td tNil))) (tC (.int 1))) σ H (stepD ps d).2 := fun H1 e Q q =>
  n_op (t_done (K := K) (h1.mono e) hv (h2.mono e) hd fun t p v H2 e2 f1 f2 f4 => ev_c H2 (Ex.refl _) _ fun H3 e3 => (rv_ixT (i := 1) (ex_t e3 f1) (by rfl)) H3 (Ex.refl _) Q fun H4 e4 => q v H4 ((e2.trans e3).trans e4) (f4.ex (e3.trans e4)))
theorem ed_runs1 {es : List Deed} (h1 : EvP tp σ H ps) (hv : PVal ps) (h2 : EvD K td σ H (.tup (es.map Deed.enc))) (hd : ∀ d ∈ es, d.Good) (hl : es.length ≤ 40) : EvD K (tOp (rIxT K) (tCall (sp_run_deeds K) [] E (tCons tp (tCons td tNil))) (tC (.int 1))) σ H (.tup (runD ps es).2) := fun H1 e Q q =>
  n_op (d_raw (n_cons ((h1.mono e) H1 (Ex.refl _) _ fun p H2 e2 hp => n_cons (h2 H2 (e.trans e2) _ fun v H3 e3 hv2 => n_nil ⟨p, v, ps, es, rfl, hp.ex e3, hv, hv2, hd, hl, fun t p' v' ys H4 e4 f1 f2 f3 fp fs f4 =>
    ev_c H4 (Ex.refl _) _ fun H5 e5 => (rv_ixT (i := 1) (ex_t e5 f1) (by rfl)) H5 (Ex.refl _) Q fun H6 e6 => q v' H6 ((((e2.trans e3).trans e4).trans e5).trans e6) (f4.ex (e5.trans e6))⟩))))
/-- [.. for sign in a text] of data -/
theorem edl_strF {z : Str} {j : Nat} {vs : List Nat} {G : Nat → K0.D} (hz : z.cps.size ≤ 1000) (hw : ∀ x, wipe ((wipe σ vs).set j (some x)) vs = wipe σ vs) (he : ∀ c H', EvD K te ((wipe σ vs).set j (some (.str ⟨#[c]⟩))) H' (G c)) :
    EvDL K (tLc (iStr (tC (.str z))) (gName j) tYes te vs) σ H (z.cps.toList.map G) := fun H0 e Q q => by
  unfold tLc iStr
  refine ev_c H0 (Ex.refl _) _ fun H1 e1 => ⟨z, rfl, ?_⟩
  have wk : Walk (Its z) (z.cps.toList).length (fun _ => True) (YAt (z.cps.toList.map fun c => V.str ⟨#[c]⟩)) := by
    have w0 := walk_str (z := z)
    rw [← Array.length_toList] at w0
    refine w0.mono (fun _ g => g) fun i H x H' hi _ y => ?_
    obtain ⟨e1, c, h1, h3⟩ := y
    refine ⟨e1, ?_⟩
    rw [List.getElem?_map, Array.getElem?_toList, h1, h3]
    rfl
  refine lc_dataF (K := K) (Q := Q) (α := Nat) (Pk := fun _ => true) (G := G) wk (fun _ _ => trivial) (by rw [Array.length_toList]; omega) hw (fun y H' hy _ => et_yes) (fun y H' hy hk _ => he y H') fun p xs H2 hp e2 h2 r => ?_
  rw [List.filter_eq_self.mpr fun _ _ => rfl] at r
  exact q p xs H2 (fresh_back e1 hp) (e1.trans e2) h2 r
theorem zip_map1 {α β : Type} : ∀ {xs : List α} {ys : List β}, xs.length = ys.length → (xs.zip ys).map (·.1) = xs ∧ (xs.zip ys).map (·.2) = ys
  | [], [], _ => ⟨rfl, rfl⟩
  | [], _ :: _, h => by simp at h
  | _ :: _, [], h => by simp at h
  | x :: xs, y :: ys, h => by
    obtain ⟨a, b⟩ := zip_map1 (xs := xs) (ys := ys) (by simpa using h)
    exact ⟨by rw [List.zip_cons_cons, List.map_cons, a], by rw [List.zip_cons_cons, List.map_cons, b]⟩
theorem zip_rp {H : Hp} : ∀ {xs : List V} {es : List Deed}, RpAll K H xs (es.map Deed.enc) → ∀ p ∈ xs.zip es, Rp K H p.1 p.2.enc ∧ p.2 ∈ es
  | [], _, _, p, hp => by cases hp
  | _ :: _, [], _, p, hp => by cases hp
  | x :: xs, d :: es, h, p, hp => by
    cases h with
    | cons h r =>
      rw [List.zip_cons_cons] at hp
      rcases List.mem_cons.mp hp with rfl | hp
      · exact ⟨h, List.mem_cons_self ..⟩
      · obtain ⟨a, b⟩ := zip_rp r p hp
        exact ⟨a, List.mem_cons_of_mem _ b⟩
/-- [.. for deed in a tuple of deeds] of data -/
theorem edl_deedF {tt : TE} {j : Nat} {vs : List Nat} {es : List Deed} {G : Deed → K0.D} (h : EvD K tt σ H (.tup (es.map Deed.enc))) (hz : es.length ≤ 1000) (hw : ∀ x, wipe ((wipe σ vs).set j (some x)) vs = wipe σ vs) (he : ∀ d x H', Ex H H' → d ∈ es → Rp K H' x d.enc → EvD K te ((wipe σ vs).set j (some x)) H' (G d)) :
    EvDL K (tLc (iTup K tt) (gName j) tYes te vs) σ H (es.map G) := fun H0 e Q q => h H0 e _ fun v H1 e1 hv => by
  obtain ⟨a, xs, rfl, ha, rr⟩ := hv.tupI
  have hl : xs.length = es.length := by rw [rr.len, List.length_map]
  obtain ⟨z1, z2⟩ := zip_map1 hl
  have wk := walk_tup (K := K) (a := a) (xs := (xs.zip es).map (·.1))
  rw [List.length_map] at wk
  refine ⟨a, rfl, ⟨xs, ha⟩, lc_dataF (K := K) (Q := Q) (ys := xs.zip es) (f := (·.1)) (Pk := fun _ => true) (G := fun p => G p.2) wk (fun H' e' => by rw [z1]; exact ex_t e' ha) (by rw [List.length_zip]; omega) hw (fun y H' hy _ => et_yes) (fun y H' hy hk e' => ?_) fun p ys H2 hp e2 h2 r => ?_⟩
  · obtain ⟨a1, a2⟩ := zip_rp rr y hy
    exact he y.2 y.1 H' ((e.trans e1).trans e') a2 (a1.ex e')
  · rw [List.filter_eq_self.mpr fun _ _ => rfl] at r
    have : (xs.zip es).map (fun p => G p.2) = es.map G := by
      have h4 : (xs.zip es).map (fun p => G p.2) = ((xs.zip es).map (·.2)).map G := by rw [List.map_map]; rfl
      rw [h4, z2]
    rw [this] at r
    exact q p ys H2 (fresh_back e1 hp) (e1.trans e2) h2 r
end
end K0

namespace K0
open PySem L2 Evl LamX
/-! ### what stays where lambdas are made: all but the tables -/
section
variable {K : PySem.W.Frag} {H H' H'' : Hp} {a : Addr}
theorem sqT_extN {b : Addr} {xs : List V} (e : ExtN H H') (h : SqT K H b xs) : SqT K H' b xs := by
  rcases h with (h | ⟨o, h⟩) | h
  · exact .inl (.inl (e _ _ h fun ps z => by cases z))
  · exact .inl (.inr ⟨o, e _ _ h fun ps z => by cases z⟩)
  · exact .inr h
mutual
theorem Rp.extN {v : V} {d : K0.D} (e : ExtN H H') : Rp K H v d → Rp K H' v d
  | .non => .non
  | .bl b => .bl b
  | .int i => .int i
  | .str s => .str s
  | .tup h r => .tup (sqT_extN e h) (RpAll.extN e r)
  | .lst h => .lst (e _ _ h fun ps z => by cases z)
  | .dct h => .dct (e _ _ h fun ps z => by cases z)
theorem RpAll.extN {vs : List V} {ds : List K0.D} (e : ExtN H H') : RpAll K H vs ds → RpAll K H' vs ds
  | .nil => .nil
  | .cons h r => .cons (Rp.extN e h) (RpAll.extN e r)
end
theorem NotD.extN {x : V} (e : ExtN H H') (h : NotD K H x) : NotD K H' x := by
  cases h with
  | non => exact .non
  | bl b => exact .bl b
  | int i => exact .int i
  | str s => exact .str s
  | tup h => exact .tup (sqT_extN e h)
  | lst h => exact .lst (e _ _ h fun ps z => by cases z)
theorem WrongP.extN {x : V} (e : ExtN H H') (h : WrongP K H x) : WrongP K H' x :=
  h.imp (·.extN e) fun ⟨b, kvs, ds, r, o, z⟩ => ⟨b, kvs, ds, r, ⟨e _ _ o.at_ (fun ps z => by cases z), o.rp.extN e, o.cl, o.sz, o.ks, o.ln⟩, z⟩
theorem ext_of {o : Option Addr} : ExtN (hid o H) H := ExtN.of hid_le
theorem hid_extN {o : Option Addr} (e : ExtN H H') : ExtN (hid o H) (hid o H') := fun b u h n => by
  unfold hid at h ⊢
  split at h
  · cases h
  · rename_i m
    rw [if_neg m]
    exact e b u h n
theorem BtN.refl : BtN a H H := ExtN.refl _
theorem BtN.trans (h : BtN a H H') (h' : BtN a H' H'') : BtN a H H'' := ExtN.trans h h'
theorem BtN.ofN (e : ExtN H H') : BtN a H H' := hid_extN e
theorem BtN.ofB (e : Bt a H H') : BtN a H H' := ExtN.of e
theorem BtN.mut {l : Addr} {u : HO} (e : BtN a H H') (h : H l = none) : BtN a H (L2.upd H' l u) := fun b v g n => by
  have nl : b ≠ l := fun z => by
    have := hid_le _ _ g
    rw [z, h] at this
    cases this
  have g2 := e b v g n
  unfold hid at g2 ⊢
  split at g2
  · cases g2
  · rename_i m
    rw [if_neg m, upd_ne nl]
    exact g2
/-- facts beside the dice list -/
structure MonoN (N : Hp → V → Prop) : Prop where
  m : ∀ {H H' : Hp} {v : V}, ExtN H H' → N H v → N H' v
theorem Off.get {N : Hp → V → Prop} {v : V} (mo : MonoN N) (e : BtN a H H') (h : Off a N H v) : N H' v := mo.m ext_of (mo.m e h)
theorem dice_extN (e : ExtN H H') (h : DiceAt H a) : DiceAt H' a := by
  obtain ⟨x, y, z, h⟩ := h
  exact ⟨x, y, z, e _ _ h fun ps z => by cases z⟩
end
section
variable {K : PySem.W.Frag} {A : Ad} {σ : L2.St} {H H' : Hp} {ta te : TE} {tr : TA} {sp : Sp} {Q : VK} {T : List (Addr × Str)} {D : Ends} {i : Nat} {l : Addr}
/-- a lambda whose call raises -/
theorem n_lam {w : Str} {Er : Addr} (hw : (Er = A.EInvalidState ∧ w = "state") ∨ (Er = A.EInvalidDeed ∧ w = "deed")) {t : XK → TE} (ht : Tabs T H)
    (h : ∀ H1 (E : XK), ExtN H H1 → (∀ H2, Ex H1 H2 → E (.ref Er) none H2) → ∀ Q : VK, t E σ H1 Q)
    (k : ∀ v H1, ExtN H H1 → Tabs T H1 → Rp K H1 v (wordsD "refused" w) → Q v H1) : tLam T (TMet K A) t σ H Q :=
  ⟨ht, fun H1 e1 T1 => h H1 _ e1 (fun H2 e2 => by
    have go : RetR K (wordsD "refused" w) H2 Q := fun v H3 e3 r => k v H3 (e1.trans (ExtN.of (e2.trans e3))) (T1.ext (e2.trans e3)) r
    rcases hw with ⟨rfl, rfl⟩ | ⟨rfl, rfl⟩
    · exact .inl ⟨rfl, go⟩
    · exact .inr ⟨rfl, go⟩) _⟩
theorem s_appR (hv : σ[i]? = some (some (.ref l))) {xs : List V} (hl : H l = some (.lst xs)) (h : te σ H fun v H1 => rAppend (.ref l) [v] H1 fun _ H2 => D.nx σ H2) : tDrop (tBM K "list" rAppend (tVar i) (tCons te tNil)) D σ H :=
  ⟨.ref l, hv, Or.inl ⟨rfl, xs, sq_of hl⟩, h⟩
end
end K0

namespace K0
open PySem L2 Evl LamX
/-! ### wrong pairs, wrong deeds, wrong rows -/
def PBn (K : PySem.W.Frag) (H : Hp) (v : V) : Prop := WrongP K H v ∧ ∃ d, Rp K H v d ∧ d.size ≤ 1000 ∧ d.deed = false
def DBn (K : PySem.W.Frag) (H : Hp) (v : V) : Prop := ∃ d, Rp K H v d ∧ d.size ≤ 1000 ∧ d.deed = false
def RBn (K : PySem.W.Frag) (H : Hp) (v : V) : Prop := ∃ d, Rp K H v d ∧ BadRow d
def notOth : K0.D → Bool
  | .oth => false | _ => true
def lettersY : Str := "abcdefghijklmnopqrstuvwxy"
def bigP : Ps := lettersY.cps.toList.map rowK
theorem big_no : NoTwo bigP := by unfold NoTwo; decide +kernel
theorem big_at : AllAt bigP := fun p hp => of_decide_eq_true (by
  have := List.all_eq_true.mp (show bigP.all (fun p => p.2.isAt) = true by decide +kernel) p hp
  simpa using this)
theorem big_len : bigP.length = 25 := by decide +kernel
theorem big_sz : bigP.all (fun p => decide (p.2.size ≤ 100) && decide ((K0.D.str p.1).size ≤ 100) && p.2.clean) = true := by decide +kernel
section
variable {K : PySem.W.Frag} {σ : L2.St} {H H' : Hp} {ta tb te tl : TE} {tr : TA} {t : TT} {x y z v : V} {d e : K0.D} {ds es : List K0.D} {a p : Addr} {n m j : Nat} {vs : List Nat}
theorem PBn.mono : MonoQ (PBn K) := ⟨fun e ⟨h, d, r, s, f⟩ => ⟨h.ex e, d, r.ex e, s, f⟩⟩
theorem DBn.mono : MonoQ (DBn K) := ⟨fun e ⟨d, r, s, f⟩ => ⟨d, r.ex e, s, f⟩⟩
theorem RBn.mono : MonoQ (RBn K) := ⟨fun e ⟨d, r, s⟩ => ⟨d, r.ex e, s⟩⟩
theorem PBn.monoN : MonoN (PBn K) := ⟨fun e ⟨h, d, r, s, f⟩ => ⟨h.extN e, d, r.extN e, s, f⟩⟩
theorem DBn.monoN : MonoN (DBn K) := ⟨fun e ⟨d, r, s, f⟩ => ⟨d, r.extN e, s, f⟩⟩
theorem RBn.monoN : MonoN (RBn K) := ⟨fun e ⟨d, r, s⟩ => ⟨d, r.extN e, s⟩⟩
theorem notD_of (h : Rp K H v d) (n : notOth d = true) : NotD K H v := by
  cases h with
  | non => exact .non
  | bl b => exact .bl b
  | int i => exact .int i
  | str s => exact .str s
  | tup h _ => exact .tup h
  | lst h => cases n
  | dct h => cases n
theorem pb_c (h : EvH K a te σ H d) (n : notOth d = true) (s : d.size ≤ 1000) (f : d.deed = false) : EvQ (Off a (PBn K)) te σ H := fun H1 e Q q => h H1 e Q fun v H2 e2 r => q v H2 e2 ⟨.inl (notD_of r n), d, r, s, f⟩
theorem oth_deed : (K0.D.oth).deed = false := by decide +kernel
theorem oth_size : (K0.D.oth).size ≤ 1000 := by decide +kernel
theorem pb_l (h : EvQ (Off a fun H v => NotD K H v ∧ Rp K H v .oth) te σ H) : EvQ (Off a (PBn K)) te σ H := fun H1 e Q q => h H1 e Q fun v H2 e2 r => q v H2 e2 ⟨.inl r.1, .oth, r.2, oth_size, oth_deed⟩
theorem pb_d (h : EvQ (Off a fun H v => WrongP K H v ∧ Rp K H v .oth) te σ H) : EvQ (Off a (PBn K)) te σ H := fun H1 e Q q => h H1 e Q fun v H2 e2 r => q v H2 e2 ⟨r.1, .oth, r.2, oth_size, oth_deed⟩
theorem db_h (h : EvH K a te σ H d) (s : d.size ≤ 1000) (f : d.deed = false) : EvQ (Off a (DBn K)) te σ H := fun H1 e Q q => h H1 e Q fun v H2 e2 r => q v H2 e2 ⟨d, r, s, f⟩
theorem db_l (h : EvQ (Off a fun H v => NotD K H v ∧ Rp K H v .oth) te σ H) : EvQ (Off a (DBn K)) te σ H := fun H1 e Q q => h H1 e Q fun v H2 e2 r => q v H2 e2 ⟨.oth, r.2, oth_size, oth_deed⟩
theorem rb_h (h : EvH K a te σ H d) (f : BadRow d) : EvQ (Off a (RBn K)) te σ H := fun H1 e Q q => h H1 e Q fun v H2 e2 r => q v H2 e2 ⟨d, r, f⟩
theorem rb_l (h : EvQ (Off a fun H v => NotD K H v ∧ Rp K H v .oth) te σ H) : EvQ (Off a (RBn K)) te σ H := fun H1 e Q q => h H1 e Q fun v H2 e2 r => q v H2 e2 ⟨.oth, r.2, .inl rfl⟩
/-- a dict of 25 keys -/
theorem pb_big (al : DiceAt H a) (h : EvP te σ H bigP) : EvQ (Off a (PBn K)) te σ H := fun H1 e Q q => h H1 e Q fun p H2 e2 ⟨qs, pm, no, at_, hp⟩ => by
  have np : p ≠ a := fun z => by
    obtain ⟨x, y, w, ha⟩ := al.ex (e.trans e2)
    rw [← z, hp] at ha
    cases ha
  have hat : hid (some a) H2 p = some (.dK (kv qs)) := hid_at hp np
  have all_ : ∀ r ∈ qs, r.2.isAt = true ∧ r.2.size ≤ 100 ∧ (K0.D.str r.1).size ≤ 100 ∧ r.2.clean = true := fun r hr => by
    have hb := pm.mem_iff.mp hr
    have := List.all_eq_true.mp big_sz r hb
    simp only [Bool.and_eq_true, decide_eq_true_iff] at this
    exact ⟨big_at r hb, this.1.1, this.1.2, this.2⟩
  have rr : ∀ (l : Ps), (∀ r ∈ l, r ∈ qs) → RpAll K (hid (some a) H2) ((kv l).map (·.2)) (l.map (·.2)) := fun l => by
    induction l with
    | nil => exact fun _ => .nil
    | cons r l ih => exact fun hl => .cons (by
        have := (all_ r (hl r (List.mem_cons_self ..))).1
        show Rp K _ (atV r.2) r.2
        cases r with
        | mk k d => cases d <;> first | exact .int _ | exact .str _ | exact .non | cases this) (ih fun x hx => hl x (List.mem_cons_of_mem _ hx))
  have hl : (kv qs).length = 25 := by rw [kv_len, pm.length_eq, big_len]
  refine q (.ref p) H2 e2 ⟨.inr ⟨p, kv qs, qs.map (·.2), rfl, ⟨hat, rr qs fun _ h => h, ?_, ?_, ?_, by omega⟩, .inl (by omega)⟩, .oth, .dct hat, oth_size, oth_deed⟩
  · rw [cleanL_all]
    exact List.all_eq_true.mpr fun d hd => by
      obtain ⟨r, hr, rfl⟩ := List.mem_map.mp hd
      exact (all_ r hr).2.2.2
  · intro d hd
    obtain ⟨r, hr, rfl⟩ := List.mem_map.mp hd
    exact (all_ r hr).2.1
  · intro w hw
    unfold kv at hw
    obtain ⟨r, hr, rfl⟩ := List.mem_map.mp hw
    exact (all_ r hr).2.2.1
theorem ev_eqDL {a : Addr} {xs : List V} {n : Nat} (h1 : Ev ta σ H (.ref a)) (hx : H a = some (.lst xs)) (rx : RpAll K H xs ds) (h2 : EvDL K tb σ H es) (fd : ∀ d ∈ ds, d.fine n = true) (fe : ∀ d ∈ es, d.fine n = true) (hn : n + 1 ≤ 64) :
    Ev (tOp (rEqD K) ta tb) σ H (.bl (PyData.eqvAll (K0.D.pyL ds) (K0.D.pyL es))) := fun H1 e Q q => h1 H1 e _ fun H2 e2 => h2 H2 (e.trans e2) _ fun p ys H3 hp e3 h3 ry =>
  ⟨.list (K0.D.pyL ds), .list (K0.D.pyL es), dpL (((e.trans e2).trans e3) _ _ hx) (rx.ex ((e.trans e2).trans e3)) (fine_all ds fd).1, dpL h3 ry (fine_all es fe).1, shapedL_of fd hn, shapedL_of fe hn, q H3 (e2.trans e3)⟩
theorem q_asgQ {M : Hp → V → Prop} {D : Ends} {tz : TS} {i : Nat} (h : EvQL M te σ H n) (k : ∀ p xs H1, H p = none → Ex H H1 → H1 p = some (.lst xs) → (∀ v ∈ xs, M H1 v) → xs.length = n → tz D (σ.set i (some (.ref p))) H1) : tSeq (tAsg te (gName i)) tz D σ H :=
  h H (Ex.refl _) _ fun p xs H1 hp e1 h1 ms l => k p xs H1 hp e1 h1 ms l
end
end K0

namespace K0
open PySem L2 Evl LamX
/-! ### told: a list that grows by what lambdas meet -/
def FreeN (H : Hp) (l : Addr) : Prop := ∀ o, H l = some o → ∃ ps, o = .tbl ps
structure TI (K : PySem.W.Frag) (T : List (Addr × Str)) (H0 : Hp) (a l : Addr) (ws : List Str) (H : Hp) : Prop where
  bt : BtN a H0 H
  dice : DiceAt H a
  tabs : Tabs T H
  fr : FreeN H0 l
  na : l ≠ a
  lst : ∃ vs, H l = some (.lst vs) ∧ RpAll K H vs (ws.map (wordsD "refused"))
section
variable {K : PySem.W.Frag} {A : Ad} {σ : L2.St} {H H0 H1 H' : Hp} {ta te : TE} {tr : TA} {sp : Sp} {Q : VK} {T : List (Addr × Str)} {D : Ends} {tz : TS} {i : Nat} {a l : Addr} {ws : List Str}
theorem words_clean (ws : List Str) : K0.D.cleanL (ws.map (wordsD "refused")) = true := by
  rw [cleanL_all]
  exact List.all_eq_true.mpr fun d hd => by
    obtain ⟨w, _, rfl⟩ := List.mem_map.mp hd
    rfl
theorem TI.ex (e : Ex H H') (h : TI K T H0 a l ws H) : TI K T H0 a l ws H' := by
  obtain ⟨vs, h1, h2⟩ := h.lst
  exact ⟨h.bt.trans (BtN.ofN (ExtN.of e)), h.dice.ex e, h.tabs.ext e, h.fr, h.na, vs, e _ _ h1, h2.ex e⟩
theorem BtN.mutF {u : HO} (e : BtN a H H') (h : FreeN H l) : BtN a H (L2.upd H' l u) := fun b v g n => by
  have nl : b ≠ l := fun z => by
    have h2 := hid_le _ _ g
    rw [z] at h2
    obtain ⟨ps, hp⟩ := h v h2
    exact n ps hp
  have g2 := e b v g n
  unfold hid at g2 ⊢
  split at g2
  · cases g2
  · rename_i m
    rw [if_neg m, upd_ne nl]
    exact g2
theorem tabs_lst {xs ys : List V} (hl : H l = some (.lst xs)) (h : Tabs T H) : Tabs T (L2.upd H l (.lst ys)) := fun p hp => by
  obtain ⟨ps, a1, a2, a3⟩ := h p hp
  have ne : ∀ {b : Addr} {o : HO}, H b = some o → (∀ zs, o ≠ .lst zs) → b ≠ l := fun g n z => by
    rw [z, hl] at g
    exact n _ (Option.some.inj g).symm
  refine ⟨ps, by rw [upd_ne (ne a1 fun zs z => by cases z)]; exact a1, a2, fun pos cv hc => ?_⟩
  obtain ⟨c, e1, e2⟩ := a3 pos cv hc
  exact ⟨c, e1, by rw [upd_ne (ne e2 fun zs z => by unfold CodeO at z; cases z)]; exact e2⟩
theorem tabs_bt (hd : DiceAt H a) (b : Bt a H H') (h : Tabs T H) : Tabs T H' := fun p hp => by
  obtain ⟨ps, a1, a2, a3⟩ := h p hp
  obtain ⟨x, y, z, hz⟩ := hd
  have ne : ∀ {b : Addr} {o : HO}, H b = some o → (∀ zs, o ≠ .lst zs) → b ≠ a := fun g n z => by
    rw [z, hz] at g
    exact n _ (Option.some.inj g).symm
  refine ⟨ps, b.at (ne a1 fun zs z => by cases z) a1, a2, fun pos cv hc => ?_⟩
  obtain ⟨c, e1, e2⟩ := a3 pos cv hc
  exact ⟨c, e1, b.at (ne e2 fun zs z => by unfold CodeO at z; cases z) e2⟩
def duesW : List Str := ["state", "state", "deed", "state", "deed", "deed", "deed"]
theorem sqT_lst {b : Addr} {xs ys zs : List V} (hl : H l = some (.lst xs)) (h : SqT K H b zs) : SqT K (L2.upd H l (.lst ys)) b zs := by
  have ne : ∀ {b : Addr} {o : HO}, H b = some o → (∀ zs, o ≠ .lst zs) → b ≠ l := fun g n z => by
    rw [z, hl] at g
    exact n _ (Option.some.inj g).symm
  rcases h with (h | ⟨o, h⟩) | h
  · exact .inl (.inl (by rw [upd_ne (ne h fun zs z => by cases z)]; exact h))
  · exact .inl (.inr ⟨o, by rw [upd_ne (ne h fun zs z => by cases z)]; exact h⟩)
  · exact .inr h
theorem q_told0 {w : Str} {Er : Addr} (hw : (Er = A.EInvalidState ∧ w = "state") ∨ (Er = A.EInvalidDeed ∧ w = "deed")) {t : XK → TE} (hd : DiceAt H a) (ht : Tabs T H)
    (h : ∀ H1 (E : XK), BtN a H H1 → (∀ H2, Ex H1 H2 → E (.ref Er) none H2) → ∀ Q : VK, t E σ H1 Q)
    (k : ∀ l H1, TI K T H a l [w] H1 → tz D (σ.set i (some (.ref l))) H1) : tSeq (tAsg (tLst (tCons (tLam T (TMet K A) t) tNil)) (gName i)) tz D σ H :=
  n_lam hw ht (fun H1 E e => h H1 E (BtN.ofN e)) fun v H1 e1 T1 r => ⟨sz_of (by simp), fun p hp => k p _ ⟨(BtN.ofN e1).trans (BtN.ofN (ExtN.of (Ex.new hp))), (dice_extN e1 hd).ex (Ex.new hp), T1.ext (Ex.new hp), (fun o ho => by
    cases o with
    | tbl ps => exact ⟨ps, rfl⟩
    | _ => exact absurd ((e1 _ _ ho (fun ps z => by cases z)).symm.trans hp) (by simp)), (dice_extN e1 hd).ne hp, [v], upd_same, .cons (r.ex (Ex.new hp)) .nil⟩⟩
theorem q_toldA {w : Str} {Er : Addr} (hw : (Er = A.EInvalidState ∧ w = "state") ∨ (Er = A.EInvalidDeed ∧ w = "deed")) {t : XK → TE} (hv : σ[i]? = some (some (.ref l))) (hl : ws.length ≤ 100) (I : TI K T H0 a l ws H)
    (h : ∀ H1 (E : XK), BtN a H0 H1 → (∀ H2, Ex H1 H2 → E (.ref Er) none H2) → ∀ Q : VK, t E σ H1 Q)
    (k : ∀ H1, TI K T H0 a l (ws ++ [w]) H1 → tz D σ H1) : tSeq (tDrop (tBM K "list" rAppend (tVar i) (tCons (tLam T (TMet K A) t) tNil))) tz D σ H := by
  obtain ⟨vs, hvs, rvs⟩ := I.lst
  have lv : vs.length = ws.length := by rw [rvs.len, List.length_map]
  refine s_appR (D := { D with nx := tz D }) hv hvs (n_lam hw I.tabs (fun H1 E e => h H1 E (I.bt.trans (BtN.ofN e))) fun v H1 e1 T1 r => ?_)
  have h1 : H1 l = some (.lst vs) := e1 _ _ hvs fun ps z => by cases z
  refine ⟨l, vs, v, rfl, rfl, h1, sz_lt (by omega), k _ ⟨(I.bt.trans (BtN.ofN e1)).mutF I.fr, ?_, tabs_lst h1 T1, I.fr, I.na, _, upd_same, ?_⟩⟩
  · obtain ⟨x, y, z, hz⟩ := dice_extN e1 I.dice
    exact ⟨x, y, z, by rw [upd_ne I.na.symm]; exact hz⟩
  · rw [List.map_append]
    exact ((rvs.extN e1).byT (words_clean _) fun _ _ g => sqT_lst h1 g).app (.cons (r.byT rfl fun _ _ g => sqT_lst h1 g) .nil)
end
section
variable {P : Program} {w : World} {K : PySem.W.Frag} {mg : Str → Option Value} {base : Heap} {A : Ad} {D : Fd} {ca : Ca}
theorem ok_law_right (T : Txt K mg A D) (U : Tab K w mg A) (HL : LamH base mg D ca) : FnOk P w K mg base CX0 41 A.law_right D.law_right ["dice"] (sp_law_right K ca) := by
  have G_law_pick : FnOk P w K mg base CX0 2 A.law_pick D.law_pick ["dice", "items"] (sp_law_pick K) := ok_law_pick T
  have G_is_deed : FnOk P w K mg base CX0 24 A.is_deed D.is_deed ["value"] (sp_is_deedN K) := ok_is_deedN T U
  have G_done := ok_doneX (P := P) (w := w) (base := base) T U
  have G_run_deeds := ok_run_deedsX (P := P) (w := w) (base := base) T U
  have G_is_read := ok_is_readR (P := P) (w := w) (base := base) T U
  have G_keys_of := ok_keys_ofR (P := P) (w := w) (base := base) T U
  refine okL T.F_law_right HL.c_law_right sc_law_right (fun vs H Q E h => by obtain ⟨a, rfl, _⟩ := h; rfl) (fun A0 outer s H vs Q E hr h => ?_)
  refine ⟨_, (pss_cons (ps_set (i := 1) sc_law_right.nd rfl (Or.inl rfl) (pe_lst (pa_cons pe_non (pa_cons pe_int (pa_cons (pe_tup pa_nil) (pa_cons (pe_lst (pa_cons (pe_tup (pa_cons pe_str (pa_cons pe_int pa_nil))) pa_nil)) (pa_cons (pe_disp (pps_cons pe_str pe_int pps_nil) rfl rfl (by simp) (by decide)) (pa_cons (pe_disp (pps_cons pe_str pe_int pps_nil) rfl rfl (by simp) (by decide)) (pa_cons (pe_disp (pps_cons pe_str pe_non pps_nil) rfl rfl (by simp) (by decide)) (pa_cons (pe_disp (pps_cons pe_str pe_bl pps_nil) rfl rfl (by simp) (by decide)) (pa_cons (pe_disp (pps_cons pe_str (pe_op op_pow pe_int pe_int) pps_nil) rfl rfl (by simp) (by decide)) (pa_cons (pe_disp (pps_cons pe_str pe_str pps_nil) rfl rfl (by simp) (by decide)) (pa_cons (pe_disp (pps_cons pe_int pe_int pps_nil) rfl rfl (by simp) (by decide)) (pa_cons (pe_disp (pps_cons pe_str (pe_tup (pa_cons pe_int pa_nil)) pps_nil) rfl rfl (by simp) (by decide)) (pa_cons pe_str (pa_cons pe_bl pa_nil))))))))))))))))
  (pss_cons (ps_set (i := 2) sc_law_right.nd rfl (Or.inr rfl) (pe_call G_law_pick (hr.mono (by decide)) rfl T.g_law_pick T.F_law_pick.kp T.b_law_pick .nil pass0 (pa_cons (pv 0) (pa_cons (pe_op op_cat (pv 1) (pe_lst (pa_cons (pe_callTy (call_dictP rfl) (by rfl) T.b_dict (by decide +kernel) (pa_cons (pe_lc (own := [("sign", 3)]) (g := gName 3) (tt := tYes) rfl sc_law_right.nd (pi_str pe_str) (blkOk_by (own := [("sign", 3)]) (N := N_law_right) (sc := defScope s_law_right) (by decide +kernel)) (fun _ _ _ _ _ => by exact pg_name (i := 3) sc_law_right.nd rfl (Or.inl rfl)) (fun _ _ _ _ _ => by exact pts_nil) (fun _ _ _ _ _ => by exact (pe_tup (pa_cons (pe_op op_add_str pe_str (pv 3)) (pa_cons pe_int pa_nil))))) pa_nil)) (pa_cons (pe_disp (pps_cons pe_str pe_int pps_nil) rfl rfl (by simp) (by decide)) pa_nil)))) pa_nil))))
  (pss_cons (ps_set (i := 4) sc_law_right.nd rfl (Or.inl rfl) (pe_lst (pa_cons pe_non (pa_cons pe_int (pa_cons pe_str (pa_cons (pe_tup (pa_cons pe_str pa_nil)) (pa_cons (pe_tup (pa_cons pe_str (pa_cons pe_str pa_nil))) (pa_cons (pe_lst (pa_cons pe_str (pa_cons pe_str pa_nil))) (pa_cons (pe_tup (pa_cons pe_str (pa_cons pe_str pa_nil))) (pa_cons (pe_tup (pa_cons pe_str (pa_cons pe_str (pa_cons pe_non pa_nil)))) (pa_cons (pe_tup (pa_cons pe_str (pa_cons pe_str (pa_cons pe_int pa_nil)))) (pa_cons (pe_tup (pa_cons pe_str (pa_cons (pe_tup pa_nil) pa_nil))) (pa_cons (pe_tup (pa_cons pe_str (pa_cons (pe_tup (pa_cons pe_int (pa_cons pe_int pa_nil))) pa_nil))) (pa_cons pe_dnewK pa_nil))))))))))))))
  (pss_cons (ps_set (i := 5) sc_law_right.nd rfl (Or.inr rfl) (pe_call G_law_pick (hr.mono (by decide)) rfl T.g_law_pick T.F_law_pick.kp T.b_law_pick .nil pass0 (pa_cons (pv 0) (pa_cons (pe_op op_cat (pv 4) (pe_lst (pa_cons (pe_tup (pa_cons pe_str (pa_cons pe_str pa_nil))) (pa_cons (pe_tup (pa_cons pe_str (pa_cons pe_str (pa_cons pe_str pa_nil)))) (pa_cons (pe_tup (pa_cons pe_str (pa_cons pe_str pa_nil))) (pa_cons (pe_tup (pa_cons pe_bl (pa_cons pe_str pa_nil))) (pa_cons (pe_tup (pa_cons pe_str (pa_cons pe_str (pa_cons (pe_op op_pow pe_int pe_int) pa_nil)))) pa_nil))))))) pa_nil))))
  (pss_cons (ps_set (i := 6) sc_law_right.nd rfl (Or.inr rfl) (pe_call G_law_pick (hr.mono (by decide)) rfl T.g_law_pick T.F_law_pick.kp T.b_law_pick .nil pass0 (pa_cons (pv 0) (pa_cons (pe_lst (pa_cons pe_non (pa_cons (pe_tup (pa_cons pe_str (pa_cons pe_str pa_nil))) (pa_cons (pe_lst (pa_cons (pe_tup (pa_cons pe_str (pa_cons pe_str pa_nil))) pa_nil)) (pa_cons (pe_tup (pa_cons (pv 5) pa_nil)) (pa_cons (pe_tup (pa_cons (pe_tup (pa_cons pe_str (pa_cons pe_str pa_nil))) (pa_cons (pv 5) pa_nil))) (pa_cons pe_dnewK (pa_cons pe_str (pa_cons pe_int pa_nil))))))))) pa_nil))))
  (pss_cons (ps_set (i := 7) sc_law_right.nd rfl (Or.inl rfl) (pe_lst (pa_cons (pe_lm (TT := ca.tabs) (k := 35) T HL.t_law_right rfl HL.m_law_right HL.u_law_right (hr.mono (by decide)) (show LamX.lamSB (defScope s_law_right) _ = true by decide +kernel) rfl rfl (fun _ _ _ _ _ => rfl) (fun A1 o1 s1 H1 E1 f1 c1 hr => (pe_call G_done (hr.mono (by decide)) rfl T.g_done T.F_done.kp T.b_done .nil (passes_call (takes_of rfl rfl rfl rfl) (fun _ _ _ _ z => z)) (pa_cons (pv 2) (pa_cons (pv 5) pa_nil))))) pa_nil)))
  (pss_cons (ps_expr (pe_bm PySem.F.plainAttrs_list PySem.F.slot_list_append PySem.F.type_list_append mt_append (pv 7) (pa_cons (pe_lm (TT := ca.tabs) (k := 35) T HL.t_law_right rfl HL.m_law_right HL.u_law_right (hr.mono (by decide)) (show LamX.lamSB (defScope s_law_right) _ = true by decide +kernel) rfl rfl (fun _ _ _ _ _ => rfl) (fun A1 o1 s1 H1 E1 f1 c1 hr => (pe_call G_done (hr.mono (by decide)) rfl T.g_done T.F_done.kp T.b_done .nil (passes_call (takes_of rfl rfl rfl rfl) (fun _ _ _ _ z => z)) (pa_cons (pv 2) (pa_cons (pe_tup (pa_cons pe_str (pa_cons pe_str pa_nil))) pa_nil))))) pa_nil)))
  (pss_cons (ps_expr (pe_bm PySem.F.plainAttrs_list PySem.F.slot_list_append PySem.F.type_list_append mt_append (pv 7) (pa_cons (pe_lm (TT := ca.tabs) (k := 35) T HL.t_law_right rfl HL.m_law_right HL.u_law_right (hr.mono (by decide)) (show LamX.lamSB (defScope s_law_right) _ = true by decide +kernel) rfl rfl (fun _ _ _ _ _ => rfl) (fun A1 o1 s1 H1 E1 f1 c1 hr => (pe_call G_done (hr.mono (by decide)) rfl T.g_done T.F_done.kp T.b_done .nil (passes_call (takes_of rfl rfl rfl rfl) (fun _ _ _ _ z => z)) (pa_cons (pe_disp (pps_cons pe_str pe_int pps_nil) rfl rfl (by simp) (by decide)) (pa_cons (pv 5) pa_nil))))) pa_nil)))
  (pss_cons (ps_expr (pe_bm PySem.F.plainAttrs_list PySem.F.slot_list_append PySem.F.type_list_append mt_append (pv 7) (pa_cons (pe_lm (TT := ca.tabs) (k := 35) T HL.t_law_right rfl HL.m_law_right HL.u_law_right (hr.mono (by decide)) (show LamX.lamSB (defScope s_law_right) _ = true by decide +kernel) rfl rfl (fun _ _ _ _ _ => rfl) (fun A1 o1 s1 H1 E1 f1 c1 hr => (pe_call G_run_deeds (hr.mono (by decide)) rfl T.g_run_deeds T.F_run_deeds.kp T.b_run_deeds .nil (passes_call (takes_of rfl rfl rfl rfl) (fun _ _ _ _ z => z)) (pa_cons (pv 2) (pa_cons (pv 6) pa_nil))))) pa_nil)))
  (pss_cons (ps_expr (pe_bm PySem.F.plainAttrs_list PySem.F.slot_list_append PySem.F.type_list_append mt_append (pv 7) (pa_cons (pe_lm (TT := ca.tabs) (k := 35) T HL.t_law_right rfl HL.m_law_right HL.u_law_right (hr.mono (by decide)) (show LamX.lamSB (defScope s_law_right) _ = true by decide +kernel) rfl rfl (fun _ _ _ _ _ => rfl) (fun A1 o1 s1 H1 E1 f1 c1 hr => (pe_call G_run_deeds (hr.mono (by decide)) rfl T.g_run_deeds T.F_run_deeds.kp T.b_run_deeds .nil (passes_call (takes_of rfl rfl rfl rfl) (fun _ _ _ _ z => z)) (pa_cons pe_dnewK (pa_cons (pv 6) pa_nil))))) pa_nil)))
  (pss_cons (ps_expr (pe_bm PySem.F.plainAttrs_list PySem.F.slot_list_append PySem.F.type_list_append mt_append (pv 7) (pa_cons (pe_lm (TT := ca.tabs) (k := 35) T HL.t_law_right rfl HL.m_law_right HL.u_law_right (hr.mono (by decide)) (show LamX.lamSB (defScope s_law_right) _ = true by decide +kernel) rfl rfl (fun _ _ _ _ _ => rfl) (fun A1 o1 s1 H1 E1 f1 c1 hr => (pe_call G_is_read (hr.mono (by decide)) rfl T.g_is_read T.F_is_read.kp T.b_is_read .nil (passes_call (takes_of rfl rfl rfl rfl) (fun _ _ _ _ z => z)) (pa_cons (pv 5) pa_nil)))) pa_nil)))
  (pss_cons (ps_expr (pe_bm PySem.F.plainAttrs_list PySem.F.slot_list_append PySem.F.type_list_append mt_append (pv 7) (pa_cons (pe_lm (TT := ca.tabs) (k := 35) T HL.t_law_right rfl HL.m_law_right HL.u_law_right (hr.mono (by decide)) (show LamX.lamSB (defScope s_law_right) _ = true by decide +kernel) rfl rfl (fun _ _ _ _ _ => rfl) (fun A1 o1 s1 H1 E1 f1 c1 hr => (pe_call G_keys_of (hr.mono (by decide)) rfl T.g_keys_of T.F_keys_of.kp T.b_keys_of .nil (passes_call (takes_of rfl rfl rfl rfl) (fun _ _ _ _ z => z)) (pa_cons (pv 5) pa_nil)))) pa_nil)))
  (pss_cons (ps_set (i := 8) sc_law_right.nd rfl (Or.inl rfl) (pe_lst (pa_cons pe_str (pa_cons pe_str (pa_cons pe_str (pa_cons pe_str (pa_cons pe_str (pa_cons pe_str (pa_cons pe_str pa_nil)))))))))
  (pss_one (ps_ret (pe_and (pe_cmpR (op_eqD hr.units) (pv 7) (pe_lc (own := [("word", 9)]) (g := gName 9) (tt := tYes) rfl sc_law_right.nd (pi_list (pv 8)) (blkOk_by (own := [("word", 9)]) (N := N_law_right) (sc := defScope s_law_right) (by decide +kernel)) (fun _ _ _ _ _ => by exact pg_name (i := 9) sc_law_right.nd rfl (Or.inl rfl)) (fun _ _ _ _ _ => by exact pts_nil) (fun _ _ _ _ _ => by exact (pe_tup (pa_cons pe_str (pa_cons (pv 9) pa_nil))))) (nomark _)) (pe_and (pe_cmpR op_is_bl (pe_call G_is_deed (hr.mono (by decide)) rfl T.g_is_deed T.F_is_deed.kp T.b_is_deed .nil pass0 (pa_cons (pv 5) pa_nil)) pe_bl (nomark _)) (pe_one (pe_cmpR op_is_bl (pe_call G_is_deed (hr.mono (by decide)) rfl T.g_is_deed T.F_is_deed.kp T.b_is_deed .nil pass0 (pa_cons (pv 2) pa_nil)) pe_bl (nomark _)))))))))))))))))))), ?_⟩
  obtain ⟨a, rfl, hd, ht, k⟩ := h
  have al : Al a H := let ⟨x, y, z, hz⟩ := hd; ⟨_, hz⟩
  have hH : ∀ {G : Hp} {σ : L2.St}, EvHA K a (tCons (tTup (tCons (tC (.str "a")) (tCons (tC (.int 1)) tNil))) tNil) σ H [.tup [.str "a", .int 1]] := ha_cons (h_tup al (ha_cons h_str (ha_cons h_int ha_nil)) (by simp)) ha_nil
  refine q_asgQ (M := Off a (PBn K)) (ql_lst (Off.mono PBn.mono) (qa_cons (Off.mono PBn.mono) (pb_c h_non rfl (by decide) (by decide +kernel)) (qa_cons (Off.mono PBn.mono) (pb_c h_int rfl (by decide) (by decide +kernel)) (qa_cons (Off.mono PBn.mono) (pb_c (h_tup al ha_nil (by simp)) rfl (by decide) (by decide +kernel))
    (qa_cons (Off.mono PBn.mono) (pb_l (h_lst al (ha_cons (h_tup al (ha_cons h_str (ha_cons h_int ha_nil)) (by simp)) ha_nil) (by simp)))
    (qa_cons (Off.mono PBn.mono) (pb_d (h_disp1 al (k := .inr "A") ev_c h_int rfl (by decide) (by decide) (by decide +kernel)))
    (qa_cons (Off.mono PBn.mono) (pb_d (h_disp1 al (k := .inr "") ev_c h_int rfl (by decide) (by decide) (by decide +kernel)))
    (qa_cons (Off.mono PBn.mono) (pb_d (h_disp1 al (k := .inr "a") ev_c h_non rfl (by decide) (by decide) (by decide +kernel)))
    (qa_cons (Off.mono PBn.mono) (pb_d (h_disp1 al (k := .inr "a") ev_c h_bl rfl (by decide) (by decide) (by decide +kernel)))
    (qa_cons (Off.mono PBn.mono) (pb_d (h_disp1 al (k := .inr "a") ev_c (h_ev (ev_op ev_c ev_c (rv_pow (n := 12) (by decide) (by decide))) fun _ => .int _) rfl (by decide) (by decide) (by decide +kernel)))
    (qa_cons (Off.mono PBn.mono) (pb_d (h_disp1 al (k := .inr "a") ev_c h_str rfl (by decide) (by decide) (by decide +kernel)))
    (qa_cons (Off.mono PBn.mono) (pb_d (h_disp1 al (k := .inl 1) ev_c h_int rfl (by decide) (by decide) (by decide +kernel)))
    (qa_cons (Off.mono PBn.mono) (pb_d (h_disp1 al (k := .inr "a") ev_c (h_tup al (ha_cons h_int ha_nil) (by simp)) rfl (by decide) (by decide) (by decide +kernel)))
    (qa_cons (Off.mono PBn.mono) (pb_c h_str rfl (by decide) (by decide +kernel)) (qa_cons (Off.mono PBn.mono) (pb_c h_bl rfl (by decide) (by decide +kernel)) qa_nil)))))))))))))) (by decide)) fun pw xs0 H1 hpw e1 h1 m1 l1 => ?_
  have d1 := hd.ex e1
  refine q_pick (N := PBn K) PBn.mono rfl d1 (ql_cat (Off.mono PBn.mono) (ev_var rfl) h1 m1 (ql_lst (Off.mono PBn.mono) (qa_cons (Off.mono PBn.mono) (pb_big d1 (ep_dictL (rows := bigP) ?_ big_no big_at)) (qa_cons (Off.mono PBn.mono) (pb_d (h_disp1 (al.ex e1) (k := .inr "abcdefghi") ev_c h_int rfl (by decide) (by decide) (by decide +kernel))) qa_nil)) (by decide)) (by omega)) (by omega) (by omega) fun xp H2 b2 d2 mp => ?_
  · unfold bigP
    rw [List.map_map]
    exact edl_strF (K := K) (G := prS ∘ rowK) (by decide) (fun _ => rfl) fun c H' => ed_tup (eda_cons (ed_ev (ev_op ev_c (ev_var rfl) (rv_addS (by show ("k" : Str).length + 1 ≤ 100000; decide))) (.str _)) (eda_cons ed_int eda_nil)) (by simp)
  have al2 : Al a H2 := let ⟨x, y, z, hz⟩ := d2; ⟨_, hz⟩
  have mD : MonoQ (Off a (DBn K)) := Off.mono DBn.mono
  have mR : MonoQ (Off a (RBn K)) := Off.mono RBn.mono
  refine q_asgQ (M := Off a (DBn K)) (ql_lst mD (qa_cons mD (db_h h_non (by decide) (by decide +kernel)) (qa_cons mD (db_h h_int (by decide) (by decide +kernel)) (qa_cons mD (db_h h_str (by decide) (by decide +kernel))
    (qa_cons mD (db_h (h_tup al2 (ha_cons h_str ha_nil) (by simp)) (by decide) (by decide +kernel))
    (qa_cons mD (db_h (h_tup al2 (ha_cons h_str (ha_cons h_str ha_nil)) (by simp)) (by decide) (by decide +kernel))
    (qa_cons mD (db_l (h_lst al2 (ha_cons h_str (ha_cons h_str ha_nil)) (by simp)))
    (qa_cons mD (db_h (h_tup al2 (ha_cons h_str (ha_cons h_str ha_nil)) (by simp)) (by decide) (by decide +kernel))
    (qa_cons mD (db_h (h_tup al2 (ha_cons h_str (ha_cons h_str (ha_cons h_non ha_nil))) (by simp)) (by decide) (by decide +kernel))
    (qa_cons mD (db_h (h_tup al2 (ha_cons h_str (ha_cons h_str (ha_cons h_int ha_nil))) (by simp)) (by decide) (by decide +kernel))
    (qa_cons mD (db_h (h_tup al2 (ha_cons h_str (ha_cons (h_tup al2 ha_nil (by simp)) ha_nil)) (by simp)) (by decide) (by decide +kernel))
    (qa_cons mD (db_h (h_tup al2 (ha_cons h_str (ha_cons (h_tup al2 (ha_cons h_int (ha_cons h_int ha_nil)) (by simp)) ha_nil)) (by simp)) (by decide) (by decide +kernel))
    (qa_cons mD (db_h (h_dict0 al2) oth_size oth_deed) qa_nil)))))))))))) (by decide)) fun ps xs3 H3 hps e3 h3 m3 l3 => ?_
  have d3 := d2.ex e3
  have al3 := al2.ex e3
  refine q_pick (N := DBn K) DBn.mono rfl d3 (ql_cat mD (ev_var rfl) h3 m3 (ql_lst mD (qa_cons mD (db_h (h_tup al3 (ha_cons h_str (ha_cons h_str ha_nil)) (by simp)) (by decide) (by decide +kernel))
    (qa_cons mD (db_h (h_tup al3 (ha_cons h_str (ha_cons h_str (ha_cons h_str ha_nil))) (by simp)) (by decide) (by decide +kernel))
    (qa_cons mD (db_h (h_tup al3 (ha_cons h_str (ha_cons h_str ha_nil)) (by simp)) (by decide) (by decide +kernel))
    (qa_cons mD (db_h (h_tup al3 (ha_cons h_bl (ha_cons h_str ha_nil)) (by simp)) (by decide) (by decide +kernel))
    (qa_cons mD (db_h (h_tup al3 (ha_cons h_str (ha_cons h_str (ha_cons (h_ev (ev_op ev_c ev_c (rv_pow (n := 60) (by decide) (by decide))) fun _ => .int _) ha_nil))) (by simp)) (by decide) (by decide +kernel)) qa_nil))))) (by decide)) (by omega)) (by omega) (by omega) fun xd H4 b4 d4 md => ?_
  have al4 : Al a H4 := let ⟨x, y, z, hz⟩ := d4; ⟨_, hz⟩
  obtain ⟨dd, rd, sd, fd⟩ := md
  have gd : (K0.D.tup [.str "get", .str "a"]).deed = true := by decide +kernel
  have gs : (K0.D.tup [.str "get", .str "a"]).size ≤ 29000 := by decide
  refine q_pick (N := RBn K) RBn.mono rfl d4 (ql_lst mR (qa_cons mR (rb_h h_non (.inl rfl)) (qa_cons mR (rb_h (h_tup al4 (ha_cons h_str (ha_cons h_str ha_nil)) (by simp)) (.inr ⟨_, rfl, by simp, (fun e he => by
      rcases List.mem_cons.mp he with rfl | he
      · decide
      · rw [List.mem_singleton.mp he]; decide), by decide +kernel⟩))
    (qa_cons mR (rb_l (h_lst al4 (ha_cons (h_tup al4 (ha_cons h_str (ha_cons h_str ha_nil)) (by simp)) ha_nil) (by simp)))
    (qa_cons mR (rb_h (h_tup al4 (ha_cons (h_var rfl rd) ha_nil) (by simp)) (.inr ⟨[dd], rfl, by simp, (fun e he => by rw [List.mem_singleton.mp he]; omega), by simp [fd]⟩))
    (qa_cons mR (rb_h (h_tup al4 (ha_cons (h_tup al4 (ha_cons h_str (ha_cons h_str ha_nil)) (by simp)) (ha_cons (h_var rfl rd) ha_nil)) (by simp)) (.inr ⟨[.tup [.str "get", .str "a"], dd], rfl, by simp, (fun e he => by
      rcases List.mem_cons.mp he with rfl | he
      · exact gs
      · rw [List.mem_singleton.mp he]; omega), by simp [fd]⟩))
    (qa_cons mR (rb_h (h_dict0 al4) (.inl rfl)) (qa_cons mR (rb_h h_str (.inl rfl)) (qa_cons mR (rb_h h_int (.inl rfl)) qa_nil)))))))) (by decide)) (by omega) (by omega) fun xr H5 b5 d5 mr => ?_
  have b25 : Bt a H2 H5 := ((Bt.of e3).trans b4).trans b5
  have mp5 : Off a (PBn K) H5 xp := PBn.mono.m b25 mp
  have md5 : Off a (DBn K) H5 xd := DBn.mono.m b5 ⟨dd, rd, sd, fd⟩
  have b05 : Bt a H H5 := ((Bt.of e1).trans b2).trans b25
  have t5 := tabs_bt hd b05 ht
  have gP : ∀ {G : Hp}, BtN a H5 G → WrongP K G xp := fun e => (Off.get PBn.monoN e mp5).1
  have gD : ∀ {G : Hp}, BtN a H5 G → ∃ d, Rp K G xd d ∧ d.size ≤ 29000 ∧ d.deed = false := fun e => by
    obtain ⟨d, r, s, f⟩ := Off.get DBn.monoN e md5
    exact ⟨d, r, by omega, f⟩
  have gR : ∀ {G : Hp}, BtN a H5 G → ∃ d, Rp K G xr d ∧ BadRow d := fun e => Off.get RBn.monoN e mr
  have stD : ("deed" : Str) = "deed" := rfl
  refine q_told0 (w := "state") (.inl ⟨rfl, rfl⟩) d5 t5 (fun G E b hE Q => d_raw (n_cons (n_var rfl (n_cons (n_var rfl (n_nil (.inl ⟨xp, xd, rfl, .inl ⟨gP b, fun G2 e2 => hE G2 e2⟩⟩))))))) fun l H6 I6 => ?_
  refine q_toldA (w := "state") (.inl ⟨rfl, rfl⟩) rfl (by decide) I6 (fun G E b hE Q => d_raw (n_cons (n_var rfl (n_cons ((ed_tup (K := K) (ds := [.str "get", .str "a"]) (eda_cons ed_str (eda_cons ed_str eda_nil)) (by simp)) G (Ex.refl _) _ fun v G2 e2 r2 =>
    n_nil (.inl ⟨xp, v, rfl, .inl ⟨(gP b).ex e2, fun G3 e3 => hE G3 (e2.trans e3)⟩⟩)))))) fun H7 I7 => ?_
  refine q_toldA (w := "deed") (.inr ⟨rfl, rfl⟩) rfl (by decide) I7 (fun G E b hE Q => d_raw (n_cons ((ep_disp1 (k := "a") (w := .int 1) (fun _ => ev_c) rfl) G (Ex.refl _) _ fun p G2 e2 hp2 => n_cons (n_var rfl (n_nil (.inl ?_)))))) fun H8 I8 => ?_
  · obtain ⟨d, r, s, f⟩ := gD b
    exact ⟨.ref p, xd, rfl, .inr ⟨p, _, d, rfl, hp2, pval_of (by decide) (by decide +kernel), r.ex e2, s, f, fun G3 e3 => hE G3 (e2.trans e3)⟩⟩
  refine q_toldA (w := "state") (.inl ⟨rfl, rfl⟩) rfl (by decide) I8 (fun G E b hE Q => d_raw (n_cons (n_var rfl (n_cons (n_var rfl (n_nil (.inl ⟨xp, xr, rfl, .inl ⟨gP b, fun G2 e2 => hE G2 e2⟩⟩))))))) fun H9 I9 => ?_
  refine q_toldA (w := "deed") (.inr ⟨rfl, rfl⟩) rfl (by decide) I9 (fun G E b hE Q => d_raw (n_cons (ep_new G (Ex.refl _) _ fun p G2 e2 hp2 => n_cons (n_var rfl (n_nil (.inl ?_)))))) fun H10 I10 => ?_
  · obtain ⟨d, r, f⟩ := gR b
    exact ⟨.ref p, xr, rfl, .inr ⟨p, [], d, rfl, hp2, ⟨by decide, fun p hp => by cases hp⟩, r.ex e2, f, fun G3 e3 => hE G3 (e2.trans e3)⟩⟩
  refine q_toldA (w := "deed") (.inr ⟨rfl, rfl⟩) rfl (by decide) I10 (fun G E b hE Q => d_raw (n_cons (n_var rfl (n_nil ?_)))) fun H11 I11 => ?_
  · obtain ⟨d, r, s, f⟩ := gD b
    exact ⟨xd, d, rfl, r, s, f, fun G2 e2 => hE G2 e2⟩
  refine q_toldA (w := "deed") (.inr ⟨rfl, rfl⟩) rfl (by decide) I11 (fun G E b hE Q => d_raw (n_cons (n_var rfl (n_nil ?_)))) fun H12 I12 => ?_
  · obtain ⟨d, r, s, f⟩ := gD b
    exact ⟨xd, d, rfl, r, s, f, fun G2 e2 => hE G2 e2⟩
  refine q_asgL (el_lst (ea_cons ev_c (ea_cons ev_c (ea_cons ev_c (ea_cons ev_c (ea_cons ev_c (ea_cons ev_c (ea_cons ev_c ea_nil))))))) (by simp)) fun pd H13 hpd e13 h13 => ?_
  have I13 := I12.ex e13
  obtain ⟨vs, hl, rl⟩ := I13.lst
  obtain ⟨_, dp, rp, sp_, fp⟩ := Off.get PBn.monoN I13.bt mp5
  obtain ⟨dq, rq, sq, fq⟩ := gD I13.bt
  have isF : ∀ {G : Hp}, RV (fun x y H Q => ∃ a b, x = V.bl a ∧ y = V.bl b ∧ Q (.bl (decide (a = b))) H) (.bl false) (.bl false) G (.bl true) := fun H1 _ Q q => ⟨false, false, rfl, rfl, q H1 (Ex.refl _)⟩
  refine s_ret (ev_is (ev_andV (a := true) (b := true) (ev_is (ev_eqDL (n := 2) (ev_var rfl) hl rl (edl_listF (ys := duesW) (f := V.str) (Pk := fun _ => true) (G := wordsD "refused") (ev_var rfl) (sq_of h13) (by decide) (fun _ => rfl) (fun y H' _ _ => et_yes) (fun y H' _ _ _ => ed_tup (eda_cons ed_str (eda_cons (ed_ev (ev_var rfl) (.str y)) eda_nil)) (by simp))) ?_ ?_ (by decide)) ?_)
    fun _ => ev_andV (a := true) (b := true) (ev_op (ev_is (ev_call (ea_cons (ev_var rfl) ea_nil) (sv_deedN rq sq)) (by rw [fq])) ev_c isF) fun _ => ev_op (ev_is (ev_call (ea_cons (ev_var rfl) ea_nil) (sv_deedN rp (by omega))) (by rw [fp])) ev_c isF) rfl) fun H14 e14 => ?_
  · exact fun d hd => (List.all_eq_true (p := fun d => K0.D.fine 2 d)).mp (by decide +kernel) d hd
  · exact fun d hd => (List.all_eq_true (p := fun d => K0.D.fine 2 d)).mp (by decide +kernel) d hd
  · exact congrArg V.bl (by decide +kernel)
  · have I14 := I13.ex e14
    exact k H14 ((BtN.ofB b05).trans I14.bt) I14.dice I14.tabs

end
end K0

namespace K0
open PySem L2 Evl LamX
def rMulE : R2 := fun x y H Q => ∃ (s : Str) (n : Nat), x = V.str s ∧ y = V.int (n : Int) ∧ 1 < n ∧ n ≤ 5000 ∧ s.length = 1 ∧ Q (.str ⟨(List.replicate n s.cps).foldl (· ++ ·) #[]⟩) H
section
variable {X : Cx}
/-- a sign times a number -/
theorem op_mulE : OpR X (binaryOp .Mult) rMulE := by
  intro pins s σ H x y v u Q I rx ry h
  obtain ⟨a, n, rfl, rfl, h1, h2, hl, q⟩ := h
  obtain ⟨t, rfl⟩ := rx
  obtain ⟨t', rfl⟩ := ry
  have hs : sizeLine = 16777216 := sizeLine_eq
  have hn : ¬ ((n : Int) < 1) := by omega
  have hb : ((n : Int) == 1 || a.length == 0) = false := by
    rw [hl]
    simp
    omega
  have e : (⟨(List.replicate ((n : Int)).toNat a.cps).foldl (· ++ ·) #[]⟩ : Str).length = n := by
    show ((List.replicate ((n : Int)).toNat a.cps).foldl (· ++ ·) #[]).size = n
    rw [fold_size]
    show 0 + ((n : Int)).toNat * a.length = n
    rw [hl]
    omega
  refine PySem.P.mul_str ?_ (fun _ _ => ?_) (fun _ _ => ?_) ?_
  · have c1 : ¬ ((n : Int) < -(2 ^ 63 : Int)) := by omega
    have c2 : ¬ ((n : Int) ≥ 2 ^ 63) := by omega
    rw [decide_eq_false c1, decide_eq_false c2]
    rfl
  · rw [hl]
    have h3 : 1 ≤ (2 ^ 63 - 1 : Int) / (n : Int) := by
      rw [Int.le_ediv_iff_mul_le (by omega)]
      omega
    omega
  · rw [hl]
    unfold Builtin.Str.tooLong
    exact decide_eq_false (by omega)
  · rw [if_neg hn, if_neg (by rw [hb]; decide)]
    exact ⟨by rw [e, hs]; omega, ⟨.str _, H, I.tok _, ⟨_, rfl⟩, q⟩⟩
end
/-! ### calls that are fine -/
abbrev fineW : K0.D := wordsD "fine" ""
structure LI (K : PySem.W.Frag) (T : List (Addr × Str)) (H0 : Hp) (l : Addr) (n : Nat) (H : Hp) : Prop where
  ext : ExtN H0 H
  tabs : Tabs T H
  fr : FreeN H0 l
  lst : ∃ vs, H l = some (.lst vs) ∧ RpAll K H vs (List.replicate n fineW)
section
variable {K : PySem.W.Frag} {A : Ad} {σ : L2.St} {H H0 H1 H' : Hp} {ta te : TE} {tr : TA} {sp : Sp} {Q : VK} {T : List (Addr × Str)} {D : Ends} {tz : TS} {i n : Nat} {a l : Addr}
theorem LI.ex (e : Ex H H') (h : LI K T H0 l n H) : LI K T H0 l n H' := by
  obtain ⟨vs, h1, h2⟩ := h.lst
  exact ⟨h.ext.trans (ExtN.of e), h.tabs.ext e, h.fr, vs, e _ _ h1, h2.ex e⟩
theorem n_lamF {t : XK → TE} (ht : Tabs T H) (h : ∀ H1 (E : XK), ExtN H H1 → ∀ Q : VK, (∀ v H2, Ex H1 H2 → Q v H2) → t E σ H1 Q)
    (k : ∀ v H1, ExtN H H1 → Tabs T H1 → Rp K H1 v fineW → Q v H1) : tLam T (TMet K A) t σ H Q :=
  ⟨ht, fun H1 e1 T1 => h H1 _ e1 _ fun v H2 e2 => (ed_tup (K := K) (ds := [.str "fine", .str ""]) (eda_cons ed_str (eda_cons ed_str eda_nil)) (by simp)) H2 (Ex.refl _) _ fun v H3 e3 r =>
    k v H3 (e1.trans (ExtN.of (e2.trans e3))) (T1.ext (e2.trans e3)) r⟩
theorem q_fine0 {t : XK → TE} (ht : Tabs T H) (h : ∀ H1 (E : XK), ExtN H H1 → ∀ Q : VK, (∀ v H2, Ex H1 H2 → Q v H2) → t E σ H1 Q)
    (k : ∀ l H1, LI K T H l 1 H1 → tz D (σ.set i (some (.ref l))) H1) : tSeq (tAsg (tLst (tCons (tLam T (TMet K A) t) tNil)) (gName i)) tz D σ H :=
  n_lamF ht h fun v H1 e1 T1 r => ⟨sz_of (by simp), fun p hp => k p _ ⟨e1.trans (ExtN.of (Ex.new hp)), T1.ext (Ex.new hp), (fun o ho => by
    cases o with
    | tbl ps => exact ⟨ps, rfl⟩
    | _ => exact absurd ((e1 _ _ ho (fun ps z => by cases z)).symm.trans hp) (by simp)), [v], upd_same, .cons (r.ex (Ex.new hp)) .nil⟩⟩
theorem q_fineA {t : XK → TE} (hv : σ[i]? = some (some (.ref l))) (hn : n ≤ 100) (I : LI K T H0 l n H) (h : ∀ H1 (E : XK), ExtN H0 H1 → ∀ Q : VK, (∀ v H2, Ex H1 H2 → Q v H2) → t E σ H1 Q)
    (k : ∀ H1, LI K T H0 l (n + 1) H1 → tz D σ H1) : tSeq (tDrop (tBM K "list" rAppend (tVar i) (tCons (tLam T (TMet K A) t) tNil))) tz D σ H := by
  obtain ⟨vs, hvs, rvs⟩ := I.lst
  have lv : vs.length = n := by rw [rvs.len, List.length_replicate]
  refine s_appR (D := { D with nx := tz D }) hv hvs (n_lamF I.tabs (fun H1 E e => h H1 E (I.ext.trans e)) fun v H1 e1 T1 r => ?_)
  have h1 : H1 l = some (.lst vs) := e1 _ _ hvs fun ps z => by cases z
  refine ⟨l, vs, v, rfl, rfl, h1, sz_lt (by omega), k _ ⟨fun b o g nt => ?_, tabs_lst h1 T1, I.fr, _, upd_same, ?_⟩⟩
  · have nl : b ≠ l := fun z => by
      rw [z] at g
      obtain ⟨ps, hp⟩ := I.fr o g
      exact nt ps hp
    rw [upd_ne nl]
    exact (I.ext.trans e1) _ _ g nt
  · rw [List.replicate_succ']
    have cl : K0.D.cleanL (List.replicate n fineW) = true := by
      rw [cleanL_all]
      exact List.all_eq_true.mpr fun d hd => by rw [List.eq_of_mem_replicate hd]; rfl
    exact ((rvs.extN e1).byT cl fun _ _ g => sqT_lst h1 g).app (.cons (r.byT rfl fun _ _ g => sqT_lst h1 g) .nil)
theorem PairsAt.extN {p : Addr} {ps : Ps} (e : ExtN H H') (h : PairsAt H p ps) : PairsAt H' p ps := by
  obtain ⟨qs, a, b, c, d⟩ := h
  exact ⟨qs, a, b, c, e _ _ d fun ps z => by cases z⟩
theorem sqL_extN {b : Addr} {xs : List V} (e : ExtN H H') (h : SqL K H b xs) : SqL K H' b xs := by
  rcases h with (h | ⟨o, h⟩) | h
  · exact .inl (.inl (e _ _ h fun ps z => by cases z))
  · exact .inl (.inr ⟨o, e _ _ h fun ps z => by cases z⟩)
  · exact .inr h
theorem sq_btNF {p b : Addr} {xs : List V} (hp : H p = none) (h : SqL K H b xs) (e : Ex H H1) (g : BtN p H1 H') : SqL K H' b xs := by
  rcases h with (h | ⟨o, h⟩) | h
  · exact .inl (.inl (hid_le _ _ (g _ _ (hid_at (e _ _ h) (ne_of_none h hp)) fun ps z => by cases z)))
  · exact .inl (.inr ⟨o, hid_le _ _ (g _ _ (hid_at (e _ _ h) (ne_of_none h hp)) fun ps z => by cases z)⟩)
  · exact .inr h
theorem edl_rep3 {d : K0.D} (h : EvD K te σ H d) : EvDL K (tOp rRep (tLst (tCons te tNil)) (tC (.int 3))) σ H [d, d, d] := fun G e Q q => by
  refine l_lst (ds := [d]) (eda_cons (h.mono e) eda_nil) (by simp) fun p xs G1 hp e1 h1 r => ?_
  cases r with
  | cons r0 r1 =>
    cases r1
    exact ⟨p, 3, _, rfl, rfl, h1, by decide, by decide, sz_of (by show 1 * 3 ≤ 100000; decide), fun t ht => q t _ _ (fresh_back e1 ht) (e1.trans (Ex.new ht)) upd_same (.cons (r0.ex (Ex.new ht)) (.cons (r0.ex (Ex.new ht)) (.cons (r0.ex (Ex.new ht)) .nil)))⟩
end
def zs12 : Str := ⟨(List.replicate 12 ("z" : Str).cps).foldl (· ++ ·) #[]⟩
def wideP : Ps := [("a", .int (10 ^ 12 - 1)), ("abcdefgh", .str zs12), ("b", .int (1 - 10 ^ 12)), ("c", .str "")]
theorem ev_z12 {σ : L2.St} {H : Hp} : Ev (tOp rMulE (tC (.str "z")) (tC (.int 12))) σ H (.str zs12) := ev_op ev_c ev_c fun H1 _ Q q => ⟨"z", 12, rfl, rfl, by decide, by decide, by decide, q H1 (Ex.refl _)⟩
theorem wide_no : NoTwo wideP := by unfold NoTwo; decide +kernel
theorem wide_at : AllAt wideP := fun p hp => of_decide_eq_true (by
  have := List.all_eq_true.mp (show wideP.all (fun p => p.2.isAt) = true by decide +kernel) p hp
  simpa using this)
theorem wide_val : PVal wideP := pval_of (by decide) (by decide +kernel)
theorem get_ok : (Deed.one (.get "a")).ok = true := by decide +kernel
theorem drop_ok : (Deed.one (.drop "a")).ok = true := by decide +kernel
section
variable {P : Program} {w : World} {K : PySem.W.Frag} {mg : Str → Option Value} {base : Heap} {A : Ad} {D : Fd} {ca : Ca}
def sp_law (K : PySem.W.Frag) (ca : Ca) : Sp := fun vs H Q _ => ∃ (a : Addr) (ns : List Int), vs = [.ref a] ∧ SqL K H a (ns.map V.int) ∧ ns.length ≤ 63 ∧ Tabs ca.tabs H ∧ ∀ H', Q (.bl true) H'
theorem ok_law (T : Txt K mg A D) (U : Tab K w mg A) (HL : LamH base mg D ca) : FnOk P w K mg base CX0 43 A.law D.law ["script"] (sp_law K ca) := by
  have G_law_dice : FnOk P w K mg base CX0 1 A.law_dice D.law_dice ["script", "spot"] (sp_law_dice K) := ok_law_dice T
  have G_law_right := ok_law_right (P := P) (w := w) (base := base) T U HL
  have G_done := ok_doneX (P := P) (w := w) (base := base) T U
  have G_run_deeds := ok_run_deedsX (P := P) (w := w) (base := base) T U
  refine okL T.F_law HL.c_law sc_law (fun vs H Q E h => by obtain ⟨a, ns, rfl, _⟩ := h; rfl) (fun A0 outer s H vs Q E hr h => ?_)
  refine ⟨_, (pss_cons (ps_for PassesOwn.never rfl (pi_range1 rfl T.b_range (pa_cons (pe_callB (call_max2 rfl) (by rfl) T.b_max (by decide +kernel) (pa_cons pe_int (pa_cons (pe_callB (call_min2 rfl) (by rfl) T.b_min (by decide +kernel) (pa_cons pe_int (pa_cons (pe_callB call_len (by rfl) T.b_len (by decide +kernel) (pa_cons (pv 0) pa_nil)) pa_nil))) pa_nil))) pa_nil)) (pg_name (i := 1) sc_law.nd rfl (Or.inl rfl)) (pss_cons (ps_set (i := 2) sc_law.nd rfl (Or.inl rfl) (pe_call G_law_dice (hr.mono (by decide)) rfl T.g_law_dice T.F_law_dice.kp T.b_law_dice .nil pass0 (pa_cons (pv 0) (pa_cons (pv 1) pa_nil))))
  (pss_one (ps_if (PW.pt (pw_or (pt_not (pt_val (pe_call G_law_right (hr.mono (by decide)) rfl T.g_law_right T.F_law_right.kp T.b_law_right .nil pass0 (pa_cons (pv 2) pa_nil)))) (pw_or1 (pt_not (pt_val (pe_call G_law_right (hr.mono (by decide)) rfl T.g_law_right T.F_law_right.kp T.b_law_right .nil pass0 (pa_cons (pv 2) pa_nil))))))) (pss_one (ps_ret pe_bl)) pss_nil))))
  (pss_cons (ps_set (i := 3) sc_law.nd rfl (Or.inr rfl) (pe_callTy (call_dictP rfl) (by rfl) T.b_dict (by decide +kernel) (pa_cons (pe_lc (own := [("sign", 4)]) (g := gName 4) (tt := tYes) rfl sc_law.nd (pi_str pe_str) (blkOk_by (own := [("sign", 4)]) (N := N_law) (sc := defScope s_law) (by decide +kernel)) (fun _ _ _ _ _ => by exact pg_name (i := 4) sc_law.nd rfl (Or.inl rfl)) (fun _ _ _ _ _ => by exact pts_nil) (fun _ _ _ _ _ => by exact (pe_tup (pa_cons (pe_op op_add_str pe_str (pv 4)) (pa_cons pe_int pa_nil))))) pa_nil)))
  (pss_cons (ps_set (i := 5) sc_law.nd rfl (Or.inl rfl) (pe_lst (pa_cons (pe_lm (TT := ca.tabs) (k := 35) T HL.t_law rfl HL.m_law HL.u_law (hr.mono (by decide)) (show LamX.lamSB (defScope s_law) _ = true by decide +kernel) rfl rfl (fun _ _ _ _ _ => rfl) (fun A1 o1 s1 H1 E1 f1 c1 hr => (pe_call G_done (hr.mono (by decide)) rfl T.g_done T.F_done.kp T.b_done .nil (passes_call (takes_of rfl rfl rfl rfl) (fun _ _ _ _ z => z)) (pa_cons (pv 3) (pa_cons (pe_tup (pa_cons pe_str (pa_cons pe_str pa_nil))) pa_nil))))) pa_nil)))
  (pss_cons (ps_expr (pe_bm PySem.F.plainAttrs_list PySem.F.slot_list_append PySem.F.type_list_append mt_append (pv 5) (pa_cons (pe_lm (TT := ca.tabs) (k := 35) T HL.t_law rfl HL.m_law HL.u_law (hr.mono (by decide)) (show LamX.lamSB (defScope s_law) _ = true by decide +kernel) rfl rfl (fun _ _ _ _ _ => rfl) (fun A1 o1 s1 H1 E1 f1 c1 hr => (pe_call G_done (hr.mono (by decide)) rfl T.g_done T.F_done.kp T.b_done .nil (passes_call (takes_of rfl rfl rfl rfl) (fun _ _ _ _ z => z)) (pa_cons (pe_disp (pps_cons pe_str (pe_op op_sub (pe_op op_pow pe_int pe_int) pe_int) (pps_cons pe_str (pe_op op_mulE pe_str pe_int) (pps_cons pe_str (pe_op op_sub pe_int (pe_op op_pow pe_int pe_int)) (pps_cons pe_str pe_str pps_nil)))) rfl rfl (by simp) (by decide)) (pa_cons (pe_tup (pa_cons pe_str (pa_cons pe_str pa_nil))) pa_nil))))) pa_nil)))
  (pss_cons (ps_expr (pe_bm PySem.F.plainAttrs_list PySem.F.slot_list_append PySem.F.type_list_append mt_append (pv 5) (pa_cons (pe_lm (TT := ca.tabs) (k := 35) T HL.t_law rfl HL.m_law HL.u_law (hr.mono (by decide)) (show LamX.lamSB (defScope s_law) _ = true by decide +kernel) rfl rfl (fun _ _ _ _ _ => rfl) (fun A1 o1 s1 H1 E1 f1 c1 hr => (pe_call G_run_deeds (hr.mono (by decide)) rfl T.g_run_deeds T.F_run_deeds.kp T.b_run_deeds .nil (passes_call (takes_of rfl rfl rfl rfl) (fun _ _ _ _ z => z)) (pa_cons pe_dnewK (pa_cons (pe_tup pa_nil) pa_nil))))) pa_nil)))
  (pss_one (ps_ret (pe_cmpR (op_eqD hr.units) (pv 5) (pe_op op_rep (pe_lst (pa_cons (pe_tup (pa_cons pe_str (pa_cons pe_str pa_nil))) pa_nil)) pe_int) (nomark _))))))))), ?_⟩
  obtain ⟨a, ns, rfl, hS, hlen, ht, k⟩ := h
  have hz : (ns.map V.int).length = ns.length := List.length_map ..
  refine q_forR1 (n := if (if ((ns.map V.int).length : Int) < 4 then ((ns.map V.int).length : Int) else 4) > 1 then (if ((ns.map V.int).length : Int) < 4 then ((ns.map V.int).length : Int) else 4) else 1) (ea_cons (ev_cb (ea_cons ev_c (ea_cons (ev_cb (ea_cons ev_c (ea_cons (ev_cb (ea_cons (ev_var rfl) ea_nil) (rc_lenL hS)) ea_nil)) rc_min2) ea_nil)) rc_max2) ea_nil)
    (by split <;> split <;> omega) (fun i σ' H' => ∃ v1 v2, σ' = [some (.ref a), v1, v2, none, none, none] ∧ SqL K H' a (ns.map V.int) ∧ Tabs ca.tabs H') (fun H1 e1 => ⟨none, none, rfl, ex_l e1 hS, ht.ext e1⟩) (fun i σ' H' hi g => ?_) (fun σ' H' g => ?_)
  · obtain ⟨v1, v2, rfl, hS', t1⟩ := g
    refine q_asgC (ea_cons (ev_var rfl) (ea_cons (ev_var rfl) ea_nil)) fun H1 e1 => ⟨a, ns, i, rfl, ex_l e1 hS', fun d H2 hd e2 dd => ?_⟩
    have t2 : Tabs ca.tabs H2 := t1.ext (e1.trans e2)
    refine n_ifS (n_or (n_not (n_B (c_call (ea_cons (ev_var rfl) ea_nil) fun H5 e5 => ⟨d, rfl, dd.ex e5, t2.ext e5, fun H6 b6 d6 t6 => ⟨true, rfl, ?_⟩⟩))))
    rw [if_neg (by decide)]
    refine n_not (n_B (c_call (ea_cons (ev_var rfl) ea_nil) fun H7 e7 => ⟨d, rfl, d6.ex e7, t6.ext e7, fun H8 b8 d8 t8 => ⟨true, rfl, ?_⟩⟩))
    rw [if_neg (by decide)]
    exact n_next ⟨_, _, rfl, sq_btNF hd (ex_l e1 hS') e2 (((BtN.ofN (ExtN.of e5)).trans b6).trans ((BtN.ofN (ExtN.of e7)).trans b8)), t8⟩
  · obtain ⟨v1, v2, rfl, _, t1⟩ := g
    refine q_asgP (ps := fullP) (ep_dictL (K := K) (rows := fullP) ?_ full_no full_at) fun p H1 e1 hp => ?_
    · unfold fullP
      rw [List.map_map]
      exact edl_strF (K := K) (G := prS ∘ rowK) (by decide) (fun _ => rfl) fun c H' => ed_tup (eda_cons (ed_ev (ev_op ev_c (ev_var rfl) (rv_addS (by show ("k" : Str).length + 1 ≤ 100000; decide))) (.str _)) (eda_cons ed_int eda_nil)) (by simp)
    refine q_fine0 (t1.ext e1) (fun G E e Q q => d_raw (n_cons (n_var rfl (n_cons ((ed_tup (K := K) (ds := [.str "get", .str "a"]) (eda_cons ed_str (eda_cons ed_str eda_nil)) (by simp)) G (Ex.refl _) _ fun v G2 e2 r2 =>
      n_nil (.inr ⟨p, v, fullP, .one (.get "a"), rfl, (hp.extN e).ex e2, full_val, r2, ok_good get_ok, fun t p' v' ys G3 e3 _ _ _ _ _ _ => q _ G3 (e2.trans e3)⟩)))))) fun l H2 I2 => ?_
    refine q_fineA rfl (by decide) I2 (fun G E e Q q => d_raw (n_cons ((ep_disp (ps := wideP) (.cons ⟨fun _ => ev_c, fun _ => ev_is (ev_op (ev_op ev_c ev_c (rv_pow (n := 12) (by decide) (by decide))) ev_c rv_I0) (congrArg V.int (by decide))⟩
      (.cons ⟨fun _ => ev_c, fun _ => ev_z12⟩
      (.cons ⟨fun _ => ev_c, fun _ => ev_is (ev_op ev_c (ev_op ev_c ev_c (rv_pow (n := 12) (by decide) (by decide))) rv_I0) (congrArg V.int (by decide))⟩ (.cons ⟨fun _ => ev_c, fun _ => ev_c⟩ .nil)))) (by decide) wide_no wide_at) G (Ex.refl _) _ fun p2 G1 e1 hp2 =>
      n_cons ((ed_tup (K := K) (ds := [.str "drop", .str "a"]) (eda_cons ed_str (eda_cons ed_str eda_nil)) (by simp)) G1 (Ex.refl _) _ fun v G2 e2 r2 =>
      n_nil (.inr ⟨p2, v, wideP, .one (.drop "a"), rfl, hp2.ex e2, wide_val, r2, ok_good drop_ok, fun t p' v' ys G3 e3 _ _ _ _ _ _ => q _ G3 ((e1.trans e2).trans e3)⟩))))) fun H3 I3 => ?_
    refine q_fineA rfl (by decide) I3 (fun G E e Q q => d_raw (n_cons (ep_new G (Ex.refl _) _ fun p2 G1 e1 hp2 => n_cons ((ed_tup (K := K) (ds := []) eda_nil (by simp)) G1 (Ex.refl _) _ fun v G2 e2 r2 =>
      n_nil (.inr ⟨p2, v, [], [], rfl, hp2.ex e2, ⟨by decide, fun p hp => by cases hp⟩, r2, (fun d hd => by cases hd), by decide, fun t p' v' ys G3 e3 _ _ _ _ _ _ => q _ G3 ((e1.trans e2).trans e3)⟩))))) fun H4 I4 => ?_
    obtain ⟨vs, hl, rl⟩ := I4.lst
    refine s_ret (ev_is (ev_eqDL (n := 2) (ev_var rfl) hl rl (edl_rep3 (ed_tup (eda_cons ed_str (eda_cons ed_str eda_nil)) (by simp))) ?_ ?_ (by decide)) ?_) fun H5 e5 => k H5
    · exact fun d hd => (List.all_eq_true (p := fun d => K0.D.fine 2 d)).mp (by decide +kernel) d hd
    · exact fun d hd => (List.all_eq_true (p := fun d => K0.D.fine 2 d)).mp (by decide +kernel) d hd
    · exact congrArg V.bl (by decide +kernel)
end
end K0

namespace K0
open PySem PySem.Spec PyProof.Rows L2 Evl
/-! ### tables of defs, as they lie at the top -/
abbrev Tr := Str × Int × Tok × Addr
def entD (r : Tr) : DictEntry := ⟨r.2.1, .str r.1 r.2.2.1, .ref r.2.2.2⟩
def okH (p : Params) : List Tr → Prop
  | [] => True
  | r :: rs => r.2.1 = PyData.keyHash p r.1 ∧ okH p rs
theorem lit_mk {p : Params} : ∀ rows : List Tr, okH p rows → PySem.W.KeysLit p (rows.map entD)
  | [], _ => by rw [List.map_nil, PySem.W.KeysLit.eq_1]; trivial
  | r :: rs, h => by
    rw [List.map_cons, PySem.W.KeysLit.eq_2]
    exact ⟨⟨r.1, r.2.2.1, rfl, h.1⟩, lit_mk rs h.2⟩
theorem find_mk (z : Str) : ∀ rows : List Tr, (rows.map entD).find? (fun x => x.key.isStr z) = (rows.find? fun r => r.1 == z).map entD
  | [] => rfl
  | r :: rs => by
    rw [List.map_cons, List.find?_cons, List.find?_cons]
    show (match (r.1 == z) with | true => _ | false => _) = _
    cases r.1 == z with
    | true => rfl
    | false => exact find_mk z rs
theorem look_mk (z : Str) : ∀ rows : List Tr, (rows.find? fun r => r.1 == z).map (fun r => r.2.2.2) = (rows.map fun r => (r.1, r.2.2.2)).lookup z
  | [] => rfl
  | r :: rs => by
    rw [List.map_cons, List.find?_cons, List.lookup_cons]
    have e : (r.1 == z) = (z == r.1) := BEq.comm
    rw [e]
    cases z == r.1 with
    | true => rfl
    | false => exact look_mk z rs
theorem any_mk : ∀ rows : List Tr, (rows.map entD).any (fun x => x.refKey) = false
  | [] => rfl
  | r :: rs => by
    rw [List.map_cons, List.any_cons, any_mk rs]
    rfl
theorem tab_mk {K : PySem.W.Frag} {w : World} {d : Addr} {n : Nat} {rows : List Tr} (at_ : List.lookup d K = some { cls := Value.type "dict", data := Data.dict (List.toArray (rows.map entD)) n }) (hl : okH w.params rows) (low : (d == sysModules) = false) :
    TabF K w d (rows.map fun r => (r.1, r.2.2.2)) := by
  refine ⟨_, n, ⟨at_, by rw [List.toList_toArray]; exact lit_mk rows hl, low⟩, fun z => ?_⟩
  unfold PySem.W.nsIn
  rw [at_]
  show (match (List.toArray (rows.map entD)).toList.find? (fun x => x.key.isStr z) with | some e => _ | none => _) = _
  rw [List.toList_toArray, find_mk, ← look_mk]
  cases rows.find? fun r => r.1 == z with
  | some r => rfl
  | none =>
    show (if ((rows.map entD).any fun x => x.refKey) = true then none else some none) = _
    rw [any_mk]
    rfl
end K0

namespace K0
open PySem L2 Evl
theorem all_mk {l : PySem.W.OpenLaw} {w : World} {K : PySem.W.Frag} {h : Heap} {mg : Str → Option Value} {fa f0 f1 f2 f3 f4 f5 f6 f7 f8 f9 f10 f11 f12 f13 f14 f15 f16 f17 f18 f19 f20 f21 f22 f23 f24 f25 f26 f27 f28 f29 f30 f31 f32 f33 f34 f35 f36 f37 f38 f39 f40 f41 f42 f43 f44 EInvalidDeed EInvalidState : Addr} (X : K.In h) (G : h.Ns mainGlobals mg) (hfa : mg "law" = some (.ref fa))
    {od0 an0 od1 an1 od2 an2 od3 an3 od4 an4 od5 an5 od6 an6 od7 an7 od8 an8 od9 an9 od10 an10 od11 an11 od12 an12 od13 an13 od14 an14 od15 an15 od16 an16 od17 an17 od18 an18 od19 an19 od20 an20 od21 an21 od22 an22 od23 an23 od24 an24 od25 an25 od26 an26 od27 an27 od28 an28 od29 an29 od30 an30 od31 an31 od32 an32 od33 an33 od34 an34 od35 an35 od36 an36 od37 an37 od38 an38 od39 an39 od40 an40 od41 an41 od42 an42 od43 an43 od44 an44 xd0 xd1 xd2 : Option Addr}
    {sl0 sl1 sl2 sl3 sl4 sl5 sl6 sl7 sl8 sl9 sl10 sl11 sl12 sl13 sl14 sl15 sl16 sl17 sl18 sl19 sl20 sl21 sl22 sl23 sl24 sl25 sl26 sl27 sl28 sl29 sl30 sl31 sl32 sl33 sl34 sl35 sl36 sl37 sl38 sl39 sl40 sl41 sl42 sl43 sl44 xs0 xs1 xs2 : Array (Option Value)}
    {oc0 kV0 dc0 pm0 cd0 ct0 oc1 kV1 dc1 pm1 cd1 ct1 oc2 kV2 dc2 pm2 cd2 ct2 oc3 kV3 dc3 pm3 cd3 ct3 oc4 kV4 dc4 pm4 cd4 ct4 oc5 kV5 dc5 pm5 cd5 ct5 oc6 kV6 dc6 pm6 cd6 ct6 oc7 kV7 dc7 pm7 cd7 ct7 oc8 kV8 dc8 pm8 cd8 ct8 oc9 kV9 dc9 pm9 cd9 ct9 oc10 kV10 dc10 pm10 cd10 ct10 oc11 kV11 dc11 pm11 cd11 ct11 oc12 kV12 dc12 pm12 cd12 ct12 oc13 kV13 dc13 pm13 cd13 ct13 oc14 kV14 dc14 pm14 cd14 ct14 oc15 kV15 dc15 pm15 cd15 ct15 oc16 kV16 dc16 pm16 cd16 ct16 oc17 kV17 dc17 pm17 cd17 ct17 oc18 kV18 dc18 pm18 cd18 ct18 oc19 kV19 dc19 pm19 cd19 ct19 oc20 kV20 dc20 pm20 cd20 ct20 oc21 kV21 dc21 pm21 cd21 ct21 oc22 kV22 dc22 pm22 cd22 ct22 oc23 kV23 dc23 pm23 cd23 ct23 oc24 kV24 dc24 pm24 cd24 ct24 oc25 kV25 dc25 pm25 cd25 ct25 oc26 kV26 dc26 pm26 cd26 ct26 oc27 kV27 dc27 pm27 cd27 ct27 oc28 kV28 dc28 pm28 cd28 ct28 oc29 kV29 dc29 pm29 cd29 ct29 oc30 kV30 dc30 pm30 cd30 ct30 oc31 kV31 dc31 pm31 cd31 ct31 oc32 kV32 dc32 pm32 cd32 ct32 oc33 kV33 dc33 pm33 cd33 ct33 oc34 kV34 dc34 pm34 cd34 ct34 oc35 kV35 dc35 pm35 cd35 ct35 oc36 kV36 dc36 pm36 cd36 ct36 oc37 kV37 dc37 pm37 cd37 ct37 oc38 kV38 dc38 pm38 cd38 ct38 oc39 kV39 dc39 pm39 cd39 ct39 oc40 kV40 dc40 pm40 cd40 ct40 oc41 kV41 dc41 pm41 cd41 ct41 oc42 kV42 dc42 pm42 cd42 ct42 oc43 kV43 dc43 pm43 ct43 oc44 kV44 dc44 pm44 ct44 : Value}
    {cc43 pp43 cc44 pp44 xa0 xa1 xa2 wa0 wa1 : Addr}
    {tk0 tk1 tk2 tk3 tk4 tk5 tk6 tk7 tk8 tk9 tk10 xk0_0 xk0_1 xk0_2 xk0_3 xk0_4 xk1_0 xk1_1 xk2_0 xk2_1 xk2_2 xk2_3 wk0_0 wk0_1 wk0_2 wk0_3 wk0_4 wk0_5 wk0_6 wk0_7 wk1_0 wk1_1 wk1_2 wk1_3 wk1_4 wk1_5 wk1_6 wk1_7 : Tok}
    {xn0 xn1 xn2 wn0 wn1 : Nat}
    {wh0_0 wh0_1 wh0_2 wh0_3 wh0_4 wh0_5 wh0_6 wh0_7 wh1_0 wh1_1 wh1_2 wh1_3 wh1_4 wh1_5 wh1_6 wh1_7 : Int}
    (a0 : PySem.W.nsIn K mainGlobals "is_number" = some (some (.ref f0)))
    (l0 : K.lookup f0 = some ⟨oc0, od0, .func (PySem.W.fnOf "is_number" "is_number" (defArgs s_is_number) (defBody s_is_number) (defScope s_is_number) .none kV0 dc0 pm0 an0 cd0 ct0), sl0⟩)
    (c0 : PySem.W.codeIn K cd0 "is_number" = true)
    (k0 : PySem.W.keepIn K (.ref f0) = true)
    (a1 : PySem.W.nsIn K mainGlobals "is_within" = some (some (.ref f1)))
    (l1 : K.lookup f1 = some ⟨oc1, od1, .func (PySem.W.fnOf "is_within" "is_within" (defArgs s_is_within) (defBody s_is_within) (defScope s_is_within) .none kV1 dc1 pm1 an1 cd1 ct1), sl1⟩)
    (c1 : PySem.W.codeIn K cd1 "is_within" = true)
    (k1 : PySem.W.keepIn K (.ref f1) = true)
    (a2 : PySem.W.nsIn K mainGlobals "is_circle" = some (some (.ref f2)))
    (l2 : K.lookup f2 = some ⟨oc2, od2, .func (PySem.W.fnOf "is_circle" "is_circle" (defArgs s_is_circle) (defBody s_is_circle) (defScope s_is_circle) .none kV2 dc2 pm2 an2 cd2 ct2), sl2⟩)
    (c2 : PySem.W.codeIn K cd2 "is_circle" = true)
    (k2 : PySem.W.keepIn K (.ref f2) = true)
    (a3 : PySem.W.nsIn K mainGlobals "are_indices" = some (some (.ref f3)))
    (l3 : K.lookup f3 = some ⟨oc3, od3, .func (PySem.W.fnOf "are_indices" "are_indices" (defArgs s_are_indices) (defBody s_are_indices) (defScope s_are_indices) .none kV3 dc3 pm3 an3 cd3 ct3), sl3⟩)
    (c3 : PySem.W.codeIn K cd3 "are_indices" = true)
    (k3 : PySem.W.keepIn K (.ref f3) = true)
    (a4 : PySem.W.nsIn K mainGlobals "are_ascending" = some (some (.ref f4)))
    (l4 : K.lookup f4 = some ⟨oc4, od4, .func (PySem.W.fnOf "are_ascending" "are_ascending" (defArgs s_are_ascending) (defBody s_are_ascending) (defScope s_are_ascending) .none kV4 dc4 pm4 an4 cd4 ct4), sl4⟩)
    (c4 : PySem.W.codeIn K cd4 "are_ascending" = true)
    (k4 : PySem.W.keepIn K (.ref f4) = true)
    (a5 : PySem.W.nsIn K mainGlobals "is_made_of" = some (some (.ref f5)))
    (l5 : K.lookup f5 = some ⟨oc5, od5, .func (PySem.W.fnOf "is_made_of" "is_made_of" (defArgs s_is_made_of) (defBody s_is_made_of) (defScope s_is_made_of) .none kV5 dc5 pm5 an5 cd5 ct5), sl5⟩)
    (c5 : PySem.W.codeIn K cd5 "is_made_of" = true)
    (k5 : PySem.W.keepIn K (.ref f5) = true)
    (a6 : PySem.W.nsIn K mainGlobals "is_key" = some (some (.ref f6)))
    (l6 : K.lookup f6 = some ⟨oc6, od6, .func (PySem.W.fnOf "is_key" "is_key" (defArgs s_is_key) (defBody s_is_key) (defScope s_is_key) .none kV6 dc6 pm6 an6 cd6 ct6), sl6⟩)
    (c6 : PySem.W.codeIn K cd6 "is_key" = true)
    (k6 : PySem.W.keepIn K (.ref f6) = true)
    (a7 : PySem.W.nsIn K mainGlobals "is_short_number" = some (some (.ref f7)))
    (l7 : K.lookup f7 = some ⟨oc7, od7, .func (PySem.W.fnOf "is_short_number" "is_short_number" (defArgs s_is_short_number) (defBody s_is_short_number) (defScope s_is_short_number) .none kV7 dc7 pm7 an7 cd7 ct7), sl7⟩)
    (c7 : PySem.W.codeIn K cd7 "is_short_number" = true)
    (k7 : PySem.W.keepIn K (.ref f7) = true)
    (a8 : PySem.W.nsIn K mainGlobals "is_value" = some (some (.ref f8)))
    (l8 : K.lookup f8 = some ⟨oc8, od8, .func (PySem.W.fnOf "is_value" "is_value" (defArgs s_is_value) (defBody s_is_value) (defScope s_is_value) .none kV8 dc8 pm8 an8 cd8 ct8), sl8⟩)
    (c8 : PySem.W.codeIn K cd8 "is_value" = true)
    (k8 : PySem.W.keepIn K (.ref f8) = true)
    (a9 : PySem.W.nsIn K mainGlobals "are_pairs" = some (some (.ref f9)))
    (l9 : K.lookup f9 = some ⟨oc9, od9, .func (PySem.W.fnOf "are_pairs" "are_pairs" (defArgs s_are_pairs) (defBody s_are_pairs) (defScope s_are_pairs) .none kV9 dc9 pm9 an9 cd9 ct9), sl9⟩)
    (c9 : PySem.W.codeIn K cd9 "are_pairs" = true)
    (k9 : PySem.W.keepIn K (.ref f9) = true)
    (a10 : PySem.W.nsIn K mainGlobals "_is_worth" = some (some (.ref f10)))
    (l10 : K.lookup f10 = some ⟨oc10, od10, .func (PySem.W.fnOf "_is_worth" "_is_worth" (defArgs s_is_worth) (defBody s_is_worth) (defScope s_is_worth) .none kV10 dc10 pm10 an10 cd10 ct10), sl10⟩)
    (c10 : PySem.W.codeIn K cd10 "_is_worth" = true)
    (k10 : PySem.W.keepIn K (.ref f10) = true)
    (a11 : PySem.W.nsIn K mainGlobals "word_of" = some (some (.ref f11)))
    (l11 : K.lookup f11 = some ⟨oc11, od11, .func (PySem.W.fnOf "word_of" "word_of" (defArgs s_word_of) (defBody s_word_of) (defScope s_word_of) .none kV11 dc11 pm11 an11 cd11 ct11), sl11⟩)
    (c11 : PySem.W.codeIn K cd11 "word_of" = true)
    (k11 : PySem.W.keepIn K (.ref f11) = true)
    (a12 : PySem.W.nsIn K mainGlobals "_is_put" = some (some (.ref f12)))
    (l12 : K.lookup f12 = some ⟨oc12, od12, .func (PySem.W.fnOf "_is_put" "_is_put" (defArgs s_is_put) (defBody s_is_put) (defScope s_is_put) .none kV12 dc12 pm12 an12 cd12 ct12), sl12⟩)
    (c12 : PySem.W.codeIn K cd12 "_is_put" = true)
    (k12 : PySem.W.keepIn K (.ref f12) = true)
    (a13 : PySem.W.nsIn K mainGlobals "_is_of_key" = some (some (.ref f13)))
    (l13 : K.lookup f13 = some ⟨oc13, od13, .func (PySem.W.fnOf "_is_of_key" "_is_of_key" (defArgs s_is_of_key) (defBody s_is_of_key) (defScope s_is_of_key) .none kV13 dc13 pm13 an13 cd13 ct13), sl13⟩)
    (c13 : PySem.W.codeIn K cd13 "_is_of_key" = true)
    (k13 : PySem.W.keepIn K (.ref f13) = true)
    (a14 : PySem.W.nsIn K mainGlobals "_is_add" = some (some (.ref f14)))
    (l14 : K.lookup f14 = some ⟨oc14, od14, .func (PySem.W.fnOf "_is_add" "_is_add" (defArgs s_is_add) (defBody s_is_add) (defScope s_is_add) .none kV14 dc14 pm14 an14 cd14 ct14), sl14⟩)
    (c14 : PySem.W.codeIn K cd14 "_is_add" = true)
    (k14 : PySem.W.keepIn K (.ref f14) = true)
    (a15 : PySem.W.nsIn K mainGlobals "_is_swap" = some (some (.ref f15)))
    (l15 : K.lookup f15 = some ⟨oc15, od15, .func (PySem.W.fnOf "_is_swap" "_is_swap" (defArgs s_is_swap) (defBody s_is_swap) (defScope s_is_swap) .none kV15 dc15 pm15 an15 cd15 ct15), sl15⟩)
    (c15 : PySem.W.codeIn K cd15 "_is_swap" = true)
    (k15 : PySem.W.keepIn K (.ref f15) = true)
    (a16 : PySem.W.nsIn K mainGlobals "_is_list" = some (some (.ref f16)))
    (l16 : K.lookup f16 = some ⟨oc16, od16, .func (PySem.W.fnOf "_is_list" "_is_list" (defArgs s_is_list) (defBody s_is_list) (defScope s_is_list) .none kV16 dc16 pm16 an16 cd16 ct16), sl16⟩)
    (c16 : PySem.W.codeIn K cd16 "_is_list" = true)
    (k16 : PySem.W.keepIn K (.ref f16) = true)
    (a17 : PySem.W.nsIn K mainGlobals "_is_all" = some (some (.ref f17)))
    (l17 : K.lookup f17 = some ⟨oc17, od17, .func (PySem.W.fnOf "_is_all" "_is_all" (defArgs s_is_all) (defBody s_is_all) (defScope s_is_all) .none kV17 dc17 pm17 an17 cd17 ct17), sl17⟩)
    (c17 : PySem.W.codeIn K cd17 "_is_all" = true)
    (k17 : PySem.W.keepIn K (.ref f17) = true)
    (a18 : PySem.W.nsIn K mainGlobals "_has_lot_size" = some (some (.ref f18)))
    (l18 : K.lookup f18 = some ⟨oc18, od18, .func (PySem.W.fnOf "_has_lot_size" "_has_lot_size" (defArgs s_has_lot_size) (defBody s_has_lot_size) (defScope s_has_lot_size) .none kV18 dc18 pm18 an18 cd18 ct18), sl18⟩)
    (c18 : PySem.W.codeIn K cd18 "_has_lot_size" = true)
    (k18 : PySem.W.keepIn K (.ref f18) = true)
    (a19 : PySem.W.nsIn K mainGlobals "_is_of_circle" = some (some (.ref f19)))
    (l19 : K.lookup f19 = some ⟨oc19, od19, .func (PySem.W.fnOf "_is_of_circle" "_is_of_circle" (defArgs s_is_of_circle) (defBody s_is_of_circle) (defScope s_is_of_circle) .none kV19 dc19 pm19 an19 cd19 ct19), sl19⟩)
    (c19 : PySem.W.codeIn K cd19 "_is_of_circle" = true)
    (k19 : PySem.W.keepIn K (.ref f19) = true)
    (a20 : PySem.W.nsIn K mainGlobals "is_deed" = some (some (.ref f20)))
    (l20 : K.lookup f20 = some ⟨oc20, od20, .func (PySem.W.fnOf "is_deed" "is_deed" (defArgs s_is_deed) (defBody s_is_deed) (defScope s_is_deed) .none kV20 dc20 pm20 an20 cd20 ct20), sl20⟩)
    (c20 : PySem.W.codeIn K cd20 "is_deed" = true)
    (k20 : PySem.W.keepIn K (.ref f20) = true)
    (a21 : PySem.W.nsIn K mainGlobals "check_deed" = some (some (.ref f21)))
    (l21 : K.lookup f21 = some ⟨oc21, od21, .func (PySem.W.fnOf "check_deed" "check_deed" (defArgs s_check_deed) (defBody s_check_deed) (defScope s_check_deed) .none kV21 dc21 pm21 an21 cd21 ct21), sl21⟩)
    (c21 : PySem.W.codeIn K cd21 "check_deed" = true)
    (k21 : PySem.W.keepIn K (.ref f21) = true)
    (a22 : PySem.W.nsIn K mainGlobals "is_read" = some (some (.ref f22)))
    (l22 : K.lookup f22 = some ⟨oc22, od22, .func (PySem.W.fnOf "is_read" "is_read" (defArgs s_is_read) (defBody s_is_read) (defScope s_is_read) .none kV22 dc22 pm22 an22 cd22 ct22), sl22⟩)
    (c22 : PySem.W.codeIn K cd22 "is_read" = true)
    (k22 : PySem.W.keepIn K (.ref f22) = true)
    (a23 : PySem.W.nsIn K mainGlobals "keys_of" = some (some (.ref f23)))
    (l23 : K.lookup f23 = some ⟨oc23, od23, .func (PySem.W.fnOf "keys_of" "keys_of" (defArgs s_keys_of) (defBody s_keys_of) (defScope s_keys_of) .none kV23 dc23 pm23 an23 cd23 ct23), sl23⟩)
    (c23 : PySem.W.codeIn K cd23 "keys_of" = true)
    (k23 : PySem.W.keepIn K (.ref f23) = true)
    (a24 : PySem.W.nsIn K mainGlobals "_lacks_room" = some (some (.ref f24)))
    (l24 : K.lookup f24 = some ⟨oc24, od24, .func (PySem.W.fnOf "_lacks_room" "_lacks_room" (defArgs s_lacks_room) (defBody s_lacks_room) (defScope s_lacks_room) .none kV24 dc24 pm24 an24 cd24 ct24), sl24⟩)
    (c24 : PySem.W.codeIn K cd24 "_lacks_room" = true)
    (k24 : PySem.W.keepIn K (.ref f24) = true)
    (a25 : PySem.W.nsIn K mainGlobals "_exchanged" = some (some (.ref f25)))
    (l25 : K.lookup f25 = some ⟨oc25, od25, .func (PySem.W.fnOf "_exchanged" "_exchanged" (defArgs s_exchanged) (defBody s_exchanged) (defScope s_exchanged) .none kV25 dc25 pm25 an25 cd25 ct25), sl25⟩)
    (c25 : PySem.W.codeIn K cd25 "_exchanged" = true)
    (k25 : PySem.W.keepIn K (.ref f25) = true)
    (a26 : PySem.W.nsIn K mainGlobals "_do_put" = some (some (.ref f26)))
    (l26 : K.lookup f26 = some ⟨oc26, od26, .func (PySem.W.fnOf "_do_put" "_do_put" (defArgs s_do_put) (defBody s_do_put) (defScope s_do_put) .none kV26 dc26 pm26 an26 cd26 ct26), sl26⟩)
    (c26 : PySem.W.codeIn K cd26 "_do_put" = true)
    (k26 : PySem.W.keepIn K (.ref f26) = true)
    (a27 : PySem.W.nsIn K mainGlobals "_do_drop" = some (some (.ref f27)))
    (l27 : K.lookup f27 = some ⟨oc27, od27, .func (PySem.W.fnOf "_do_drop" "_do_drop" (defArgs s_do_drop) (defBody s_do_drop) (defScope s_do_drop) .none kV27 dc27 pm27 an27 cd27 ct27), sl27⟩)
    (c27 : PySem.W.codeIn K cd27 "_do_drop" = true)
    (k27 : PySem.W.keepIn K (.ref f27) = true)
    (a28 : PySem.W.nsIn K mainGlobals "_do_get" = some (some (.ref f28)))
    (l28 : K.lookup f28 = some ⟨oc28, od28, .func (PySem.W.fnOf "_do_get" "_do_get" (defArgs s_do_get) (defBody s_do_get) (defScope s_do_get) .none kV28 dc28 pm28 an28 cd28 ct28), sl28⟩)
    (c28 : PySem.W.codeIn K cd28 "_do_get" = true)
    (k28 : PySem.W.keepIn K (.ref f28) = true)
    (a29 : PySem.W.nsIn K mainGlobals "_do_add" = some (some (.ref f29)))
    (l29 : K.lookup f29 = some ⟨oc29, od29, .func (PySem.W.fnOf "_do_add" "_do_add" (defArgs s_do_add) (defBody s_do_add) (defScope s_do_add) .none kV29 dc29 pm29 an29 cd29 ct29), sl29⟩)
    (c29 : PySem.W.codeIn K cd29 "_do_add" = true)
    (k29 : PySem.W.keepIn K (.ref f29) = true)
    (a30 : PySem.W.nsIn K mainGlobals "_do_swap" = some (some (.ref f30)))
    (l30 : K.lookup f30 = some ⟨oc30, od30, .func (PySem.W.fnOf "_do_swap" "_do_swap" (defArgs s_do_swap) (defBody s_do_swap) (defScope s_do_swap) .none kV30 dc30 pm30 an30 cd30 ct30), sl30⟩)
    (c30 : PySem.W.codeIn K cd30 "_do_swap" = true)
    (k30 : PySem.W.keepIn K (.ref f30) = true)
    (a31 : PySem.W.nsIn K mainGlobals "_do_list" = some (some (.ref f31)))
    (l31 : K.lookup f31 = some ⟨oc31, od31, .func (PySem.W.fnOf "_do_list" "_do_list" (defArgs s_do_list) (defBody s_do_list) (defScope s_do_list) .none kV31 dc31 pm31 an31 cd31 ct31), sl31⟩)
    (c31 : PySem.W.codeIn K cd31 "_do_list" = true)
    (k31 : PySem.W.keepIn K (.ref f31) = true)
    (a32 : PySem.W.nsIn K mainGlobals "_do_all" = some (some (.ref f32)))
    (l32 : K.lookup f32 = some ⟨oc32, od32, .func (PySem.W.fnOf "_do_all" "_do_all" (defArgs s_do_all) (defBody s_do_all) (defScope s_do_all) .none kV32 dc32 pm32 an32 cd32 ct32), sl32⟩)
    (c32 : PySem.W.codeIn K cd32 "_do_all" = true)
    (k32 : PySem.W.keepIn K (.ref f32) = true)
    (a33 : PySem.W.nsIn K mainGlobals "_do_circle" = some (some (.ref f33)))
    (l33 : K.lookup f33 = some ⟨oc33, od33, .func (PySem.W.fnOf "_do_circle" "_do_circle" (defArgs s_do_circle) (defBody s_do_circle) (defScope s_do_circle) .none kV33 dc33 pm33 an33 cd33 ct33), sl33⟩)
    (c33 : PySem.W.codeIn K cd33 "_do_circle" = true)
    (k33 : PySem.W.keepIn K (.ref f33) = true)
    (a34 : PySem.W.nsIn K mainGlobals "do_deed" = some (some (.ref f34)))
    (l34 : K.lookup f34 = some ⟨oc34, od34, .func (PySem.W.fnOf "do_deed" "do_deed" (defArgs s_do_deed) (defBody s_do_deed) (defScope s_do_deed) .none kV34 dc34 pm34 an34 cd34 ct34), sl34⟩)
    (c34 : PySem.W.codeIn K cd34 "do_deed" = true)
    (k34 : PySem.W.keepIn K (.ref f34) = true)
    (a35 : PySem.W.nsIn K mainGlobals "done" = some (some (.ref f35)))
    (l35 : K.lookup f35 = some ⟨oc35, od35, .func (PySem.W.fnOf "done" "done" (defArgs s_done) (defBody s_done) (defScope s_done) .none kV35 dc35 pm35 an35 cd35 ct35), sl35⟩)
    (c35 : PySem.W.codeIn K cd35 "done" = true)
    (k35 : PySem.W.keepIn K (.ref f35) = true)
    (a36 : PySem.W.nsIn K mainGlobals "run_deeds" = some (some (.ref f36)))
    (l36 : K.lookup f36 = some ⟨oc36, od36, .func (PySem.W.fnOf "run_deeds" "run_deeds" (defArgs s_run_deeds) (defBody s_run_deeds) (defScope s_run_deeds) .none kV36 dc36 pm36 an36 cd36 ct36), sl36⟩)
    (c36 : PySem.W.codeIn K cd36 "run_deeds" = true)
    (k36 : PySem.W.keepIn K (.ref f36) = true)
    (a37 : PySem.W.nsIn K mainGlobals "_check_pairs" = some (some (.ref f37)))
    (l37 : K.lookup f37 = some ⟨oc37, od37, .func (PySem.W.fnOf "_check_pairs" "_check_pairs" (defArgs s_check_pairs) (defBody s_check_pairs) (defScope s_check_pairs) .none kV37 dc37 pm37 an37 cd37 ct37), sl37⟩)
    (c37 : PySem.W.codeIn K cd37 "_check_pairs" = true)
    (k37 : PySem.W.keepIn K (.ref f37) = true)
    (a38 : PySem.W.nsIn K mainGlobals "by_keys" = some (some (.ref f38)))
    (l38 : K.lookup f38 = some ⟨oc38, od38, .func (PySem.W.fnOf "by_keys" "by_keys" (defArgs s_by_keys) (defBody s_by_keys) (defScope s_by_keys) .none kV38 dc38 pm38 an38 cd38 ct38), sl38⟩)
    (c38 : PySem.W.codeIn K cd38 "by_keys" = true)
    (k38 : PySem.W.keepIn K (.ref f38) = true)
    (a39 : PySem.W.nsIn K mainGlobals "_law_dice" = some (some (.ref f39)))
    (l39 : K.lookup f39 = some ⟨oc39, od39, .func (PySem.W.fnOf "_law_dice" "_law_dice" (defArgs s_law_dice) (defBody s_law_dice) (defScope s_law_dice) .none kV39 dc39 pm39 an39 cd39 ct39), sl39⟩)
    (c39 : PySem.W.codeIn K cd39 "_law_dice" = true)
    (k39 : PySem.W.keepIn K (.ref f39) = true)
    (a40 : PySem.W.nsIn K mainGlobals "_law_roll" = some (some (.ref f40)))
    (l40 : K.lookup f40 = some ⟨oc40, od40, .func (PySem.W.fnOf "_law_roll" "_law_roll" (defArgs s_law_roll) (defBody s_law_roll) (defScope s_law_roll) .none kV40 dc40 pm40 an40 cd40 ct40), sl40⟩)
    (c40 : PySem.W.codeIn K cd40 "_law_roll" = true)
    (k40 : PySem.W.keepIn K (.ref f40) = true)
    (a41 : PySem.W.nsIn K mainGlobals "_law_pick" = some (some (.ref f41)))
    (l41 : K.lookup f41 = some ⟨oc41, od41, .func (PySem.W.fnOf "_law_pick" "_law_pick" (defArgs s_law_pick) (defBody s_law_pick) (defScope s_law_pick) .none kV41 dc41 pm41 an41 cd41 ct41), sl41⟩)
    (c41 : PySem.W.codeIn K cd41 "_law_pick" = true)
    (k41 : PySem.W.keepIn K (.ref f41) = true)
    (a42 : PySem.W.nsIn K mainGlobals "_law_met" = some (some (.ref f42)))
    (l42 : K.lookup f42 = some ⟨oc42, od42, .func (PySem.W.fnOf "_law_met" "_law_met" (defArgs s_law_met) (defBody s_law_met) (defScope s_law_met) .none kV42 dc42 pm42 an42 cd42 ct42), sl42⟩)
    (c42 : PySem.W.codeIn K cd42 "_law_met" = true)
    (k42 : PySem.W.keepIn K (.ref f42) = true)
    (a43 : PySem.W.nsIn K mainGlobals "_law_right" = some (some (.ref f43)))
    (l43 : K.lookup f43 = some ⟨oc43, od43, .func (PySem.W.fnOf "_law_right" "_law_right" (defArgs s_law_right) (defBody s_law_right) (defScope s_law_right) .none kV43 dc43 pm43 an43 (.ref cc43) ct43), sl43⟩)
    (c43 : PySem.W.codeIn K (.ref cc43) "_law_right" = true)
    (k43 : PySem.W.keepIn K (.ref f43) = true)
    (lq43 : PySem.W.codeHdIn K cc43 pp43 = true)
    (ln43 : K.lookup pp43 = none)
    (lt43 : h.get? pp43 = some { cls := .none, data := .fields #[] })
    (a44 : PySem.W.nsIn K mainGlobals "law" = some (some (.ref f44)))
    (l44 : K.lookup f44 = some ⟨oc44, od44, .func (PySem.W.fnOf "law" "law" (defArgs s_law) (defBody s_law) (defScope s_law) .none kV44 dc44 pm44 an44 (.ref cc44) ct44), sl44⟩)
    (c44 : PySem.W.codeIn K (.ref cc44) "law" = true)
    (k44 : PySem.W.keepIn K (.ref f44) = true)
    (lq44 : PySem.W.codeHdIn K cc44 pp44 = true)
    (ln44 : K.lookup pp44 = none)
    (lt44 : h.get? pp44 = some { cls := .none, data := .fields #[] })
    (aEInvalidDeed : PySem.W.nsIn K mainGlobals "InvalidDeed" = some (some (.ref EInvalidDeed)))
    (qEInvalidDeed : PySem.W.excIn K EInvalidDeed bmVE "ValueError.__new__" = true)
    (zEInvalidDeedkc : PySem.W.keepIn K (.ref EInvalidDeed) = true)
    (zEInvalidDeedsb : PySem.W.subIn K (.ref EInvalidDeed) (.type "BaseException") = some true)
    (zEInvalidDeedty : PySem.W.typeIn K (.ref EInvalidDeed) = some (.type "type"))
    (aEInvalidState : PySem.W.nsIn K mainGlobals "InvalidState" = some (some (.ref EInvalidState)))
    (qEInvalidState : PySem.W.excIn K EInvalidState bmVE "ValueError.__new__" = true)
    (zEInvalidStatekc : PySem.W.keepIn K (.ref EInvalidState) = true)
    (zEInvalidStatesb : PySem.W.subIn K (.ref EInvalidState) (.type "BaseException") = some true)
    (zEInvalidStatety : PySem.W.typeIn K (.ref EInvalidState) = some (.type "type"))
    (zEInvalidDeedInvalidDeed : PySem.W.exmOne K (.ref EInvalidDeed) (.ref EInvalidDeed) = some true)
    (zEInvalidDeedInvalidState : PySem.W.exmOne K (.ref EInvalidDeed) (.ref EInvalidState) = some false)
    (zEInvalidStateInvalidDeed : PySem.W.exmOne K (.ref EInvalidState) (.ref EInvalidDeed) = some false)
    (zEInvalidStateInvalidState : PySem.W.exmOne K (.ref EInvalidState) (.ref EInvalidState) = some true)
    (x0 : PySem.W.nsIn K mainGlobals "MAX_HOUSES" = some (some (.int (9) tk0)))
    (x1 : PySem.W.nsIn K mainGlobals "MAX_CIRCLE" = some (some (.int (7) tk1)))
    (x2 : PySem.W.nsIn K mainGlobals "MAX_KEYS" = some (some (.int (24) tk2)))
    (x3 : PySem.W.nsIn K mainGlobals "MAX_SIGNS" = some (some (.int (12) tk3)))
    (x4 : PySem.W.nsIn K mainGlobals "MAX_LOT" = some (some (.int (6) tk4)))
    (x5 : PySem.W.nsIn K mainGlobals "MAX_KEY_SIGNS" = some (some (.int (8) tk5)))
    (x6 : PySem.W.nsIn K mainGlobals "MAX_NUMBER" = some (some (.int (999999999999999999999999999999999999999999999999999999999999) tk6)))
    (x7 : PySem.W.nsIn K mainGlobals "MAX_SHORT_NUMBER" = some (some (.int (999999999999) tk7)))
    (x8 : PySem.W.nsIn K mainGlobals "LETTERS" = some (some (.str "abcdefghijklmnopqrstuvwxyz" tk8)))
    (x9 : PySem.W.nsIn K mainGlobals "SIGNS" = some (some (.str "abcdefghijklmnopqrstuvwxyz0123456789 " tk9)))
    (x10 : PySem.W.nsIn K mainGlobals "MAX_SUM" = some (some (.int (999999999999) tk10)))
    (y0 : PySem.W.nsIn K mainGlobals "abs" = some none)
    (y1 : PySem.W.nsIn K mainGlobals "all" = some none)
    (y2 : PySem.W.nsIn K mainGlobals "bool" = some none)
    (y3 : PySem.W.nsIn K mainGlobals "dict" = some none)
    (y4 : PySem.W.nsIn K mainGlobals "enumerate" = some none)
    (y5 : PySem.W.nsIn K mainGlobals "int" = some none)
    (y6 : PySem.W.nsIn K mainGlobals "isinstance" = some none)
    (y7 : PySem.W.nsIn K mainGlobals "len" = some none)
    (y8 : PySem.W.nsIn K mainGlobals "max" = some none)
    (y9 : PySem.W.nsIn K mainGlobals "min" = some none)
    (y10 : PySem.W.nsIn K mainGlobals "range" = some none)
    (y11 : PySem.W.nsIn K mainGlobals "sorted" = some none)
    (y12 : PySem.W.nsIn K mainGlobals "str" = some none)
    (y13 : PySem.W.nsIn K mainGlobals "tuple" = some none)
    (y14 : PySem.W.nsIn K mainGlobals "zip" = some none)
    (xx0 : PySem.W.nsIn K mainGlobals "LOT_WORDS" = some (some (.ref xa0)))
    (xl0 : K.lookup xa0 = some ⟨.type "tuple", xd0, .seq (List.toArray [.str "put" xk0_0, .str "drop" xk0_1, .str "get" xk0_2, .str "add" xk0_3, .str "swap" xk0_4]) xn0, xs0⟩)
    (xx1 : PySem.W.nsIn K mainGlobals "READ_WORDS" = some (some (.ref xa1)))
    (xl1 : K.lookup xa1 = some ⟨.type "tuple", xd1, .seq (List.toArray [.str "get" xk1_0, .str "list" xk1_1]) xn1, xs1⟩)
    (xx2 : PySem.W.nsIn K mainGlobals "BREAKS" = some (some (.ref xa2)))
    (xl2 : K.lookup xa2 = some ⟨.type "tuple", xd2, .seq (List.toArray [.str "kind" xk2_0, .str "bound" xk2_1, .str "full" xk2_2, .str "other" xk2_3]) xn2, xs2⟩)
    (wx0 : PySem.W.nsIn K mainGlobals "DEED_FORMS" = some (some (.ref wa0)))
    (wl0 : K.lookup wa0 = some ⟨.type "dict", none, .dict (List.toArray [⟨wh0_0, .str "put" wk0_0, .ref f12⟩, ⟨wh0_1, .str "drop" wk0_1, .ref f13⟩, ⟨wh0_2, .str "get" wk0_2, .ref f13⟩, ⟨wh0_3, .str "add" wk0_3, .ref f14⟩, ⟨wh0_4, .str "swap" wk0_4, .ref f15⟩, ⟨wh0_5, .str "list" wk0_5, .ref f16⟩, ⟨wh0_6, .str "all" wk0_6, .ref f17⟩, ⟨wh0_7, .str "circle" wk0_7, .ref f19⟩]) wn0, #[]⟩)
    (wH0_0 : wh0_0 = PyData.keyHash w.params "put")
    (wH0_1 : wh0_1 = PyData.keyHash w.params "drop")
    (wH0_2 : wh0_2 = PyData.keyHash w.params "get")
    (wH0_3 : wh0_3 = PyData.keyHash w.params "add")
    (wH0_4 : wh0_4 = PyData.keyHash w.params "swap")
    (wH0_5 : wh0_5 = PyData.keyHash w.params "list")
    (wH0_6 : wh0_6 = PyData.keyHash w.params "all")
    (wH0_7 : wh0_7 = PyData.keyHash w.params "circle")
    (wz0 : (wa0 == sysModules) = false)
    (wx1 : PySem.W.nsIn K mainGlobals "DEED_STEPS" = some (some (.ref wa1)))
    (wl1 : K.lookup wa1 = some ⟨.type "dict", none, .dict (List.toArray [⟨wh1_0, .str "put" wk1_0, .ref f26⟩, ⟨wh1_1, .str "drop" wk1_1, .ref f27⟩, ⟨wh1_2, .str "get" wk1_2, .ref f28⟩, ⟨wh1_3, .str "add" wk1_3, .ref f29⟩, ⟨wh1_4, .str "swap" wk1_4, .ref f30⟩, ⟨wh1_5, .str "list" wk1_5, .ref f31⟩, ⟨wh1_6, .str "all" wk1_6, .ref f32⟩, ⟨wh1_7, .str "circle" wk1_7, .ref f33⟩]) wn1, #[]⟩)
    (wH1_0 : wh1_0 = PyData.keyHash w.params "put")
    (wH1_1 : wh1_1 = PyData.keyHash w.params "drop")
    (wH1_2 : wh1_2 = PyData.keyHash w.params "get")
    (wH1_3 : wh1_3 = PyData.keyHash w.params "add")
    (wH1_4 : wh1_4 = PyData.keyHash w.params "swap")
    (wH1_5 : wh1_5 = PyData.keyHash w.params "list")
    (wH1_6 : wh1_6 = PyData.keyHash w.params "all")
    (wH1_7 : wh1_7 = PyData.keyHash w.params "circle")
    (wz1 : (wa1 == sysModules) = false)
    (lne : pp43 ≠ pp44)
    : LamX.LawAtS l w K CX0 43 63 "script" mg fa h := by
  have e := hfa.symm.trans (PySem.W.mg_of X G a44)
  cases e
  have F0 := fun_mk (st := s_is_number) l0 c0 k0
  have b0 := F0.binds (ps := ["value"]) fun _ _ _ _ _ _ us hl => match us, hl with | [_], _ => rfl
  have F1 := fun_mk (st := s_is_within) l1 c1 k1
  have b1 := F1.binds (ps := ["value", "least", "most"]) fun _ _ _ _ _ _ us hl => match us, hl with | [_, _, _], _ => rfl
  have F2 := fun_mk (st := s_is_circle) l2 c2 k2
  have b2 := F2.binds (ps := ["value"]) fun _ _ _ _ _ _ us hl => match us, hl with | [_], _ => rfl
  have F3 := fun_mk (st := s_are_indices) l3 c3 k3
  have b3 := F3.binds (ps := ["value", "many"]) fun _ _ _ _ _ _ us hl => match us, hl with | [_, _], _ => rfl
  have F4 := fun_mk (st := s_are_ascending) l4 c4 k4
  have b4 := F4.binds (ps := ["row"]) fun _ _ _ _ _ _ us hl => match us, hl with | [_], _ => rfl
  have F5 := fun_mk (st := s_is_made_of) l5 c5 k5
  have b5 := F5.binds (ps := ["value", "signs", "most"]) fun _ _ _ _ _ _ us hl => match us, hl with | [_, _, _], _ => rfl
  have F6 := fun_mk (st := s_is_key) l6 c6 k6
  have b6 := F6.binds (ps := ["value"]) fun _ _ _ _ _ _ us hl => match us, hl with | [_], _ => rfl
  have F7 := fun_mk (st := s_is_short_number) l7 c7 k7
  have b7 := F7.binds (ps := ["value"]) fun _ _ _ _ _ _ us hl => match us, hl with | [_], _ => rfl
  have F8 := fun_mk (st := s_is_value) l8 c8 k8
  have b8 := F8.binds (ps := ["value"]) fun _ _ _ _ _ _ us hl => match us, hl with | [_], _ => rfl
  have F9 := fun_mk (st := s_are_pairs) l9 c9 k9
  have b9 := F9.binds (ps := ["value"]) fun _ _ _ _ _ _ us hl => match us, hl with | [_], _ => rfl
  have F10 := fun_mk (st := s_is_worth) l10 c10 k10
  have b10 := F10.binds (ps := ["value"]) fun _ _ _ _ _ _ us hl => match us, hl with | [_], _ => rfl
  have F11 := fun_mk (st := s_word_of) l11 c11 k11
  have b11 := F11.binds (ps := ["value"]) fun _ _ _ _ _ _ us hl => match us, hl with | [_], _ => rfl
  have F12 := fun_mk (st := s_is_put) l12 c12 k12
  have b12 := F12.binds (ps := ["value"]) fun _ _ _ _ _ _ us hl => match us, hl with | [_], _ => rfl
  have F13 := fun_mk (st := s_is_of_key) l13 c13 k13
  have b13 := F13.binds (ps := ["value"]) fun _ _ _ _ _ _ us hl => match us, hl with | [_], _ => rfl
  have F14 := fun_mk (st := s_is_add) l14 c14 k14
  have b14 := F14.binds (ps := ["value"]) fun _ _ _ _ _ _ us hl => match us, hl with | [_], _ => rfl
  have F15 := fun_mk (st := s_is_swap) l15 c15 k15
  have b15 := F15.binds (ps := ["value"]) fun _ _ _ _ _ _ us hl => match us, hl with | [_], _ => rfl
  have F16 := fun_mk (st := s_is_list) l16 c16 k16
  have b16 := F16.binds (ps := ["value"]) fun _ _ _ _ _ _ us hl => match us, hl with | [_], _ => rfl
  have F17 := fun_mk (st := s_is_all) l17 c17 k17
  have b17 := F17.binds (ps := ["value"]) fun _ _ _ _ _ _ us hl => match us, hl with | [_], _ => rfl
  have F18 := fun_mk (st := s_has_lot_size) l18 c18 k18
  have b18 := F18.binds (ps := ["value"]) fun _ _ _ _ _ _ us hl => match us, hl with | [_], _ => rfl
  have F19 := fun_mk (st := s_is_of_circle) l19 c19 k19
  have b19 := F19.binds (ps := ["value"]) fun _ _ _ _ _ _ us hl => match us, hl with | [_], _ => rfl
  have F20 := fun_mk (st := s_is_deed) l20 c20 k20
  have b20 := F20.binds (ps := ["value"]) fun _ _ _ _ _ _ us hl => match us, hl with | [_], _ => rfl
  have F21 := fun_mk (st := s_check_deed) l21 c21 k21
  have b21 := F21.binds (ps := ["deed"]) fun _ _ _ _ _ _ us hl => match us, hl with | [_], _ => rfl
  have F22 := fun_mk (st := s_is_read) l22 c22 k22
  have b22 := F22.binds (ps := ["deed"]) fun _ _ _ _ _ _ us hl => match us, hl with | [_], _ => rfl
  have F23 := fun_mk (st := s_keys_of) l23 c23 k23
  have b23 := F23.binds (ps := ["deed"]) fun _ _ _ _ _ _ us hl => match us, hl with | [_], _ => rfl
  have F24 := fun_mk (st := s_lacks_room) l24 c24 k24
  have b24 := F24.binds (ps := ["pairs", "key"]) fun _ _ _ _ _ _ us hl => match us, hl with | [_, _], _ => rfl
  have F25 := fun_mk (st := s_exchanged) l25 c25 k25
  have b25 := F25.binds (ps := ["pairs", "key", "worth"]) fun _ _ _ _ _ _ us hl => match us, hl with | [_, _, _], _ => rfl
  have F26 := fun_mk (st := s_do_put) l26 c26 k26
  have b26 := F26.binds (ps := ["pairs", "deed"]) fun _ _ _ _ _ _ us hl => match us, hl with | [_, _], _ => rfl
  have F27 := fun_mk (st := s_do_drop) l27 c27 k27
  have b27 := F27.binds (ps := ["pairs", "deed"]) fun _ _ _ _ _ _ us hl => match us, hl with | [_, _], _ => rfl
  have F28 := fun_mk (st := s_do_get) l28 c28 k28
  have b28 := F28.binds (ps := ["pairs", "deed"]) fun _ _ _ _ _ _ us hl => match us, hl with | [_, _], _ => rfl
  have F29 := fun_mk (st := s_do_add) l29 c29 k29
  have b29 := F29.binds (ps := ["pairs", "deed"]) fun _ _ _ _ _ _ us hl => match us, hl with | [_, _], _ => rfl
  have F30 := fun_mk (st := s_do_swap) l30 c30 k30
  have b30 := F30.binds (ps := ["pairs", "deed"]) fun _ _ _ _ _ _ us hl => match us, hl with | [_, _], _ => rfl
  have F31 := fun_mk (st := s_do_list) l31 c31 k31
  have b31 := F31.binds (ps := ["pairs", "deed"]) fun _ _ _ _ _ _ us hl => match us, hl with | [_, _], _ => rfl
  have F32 := fun_mk (st := s_do_all) l32 c32 k32
  have b32 := F32.binds (ps := ["pairs", "deed"]) fun _ _ _ _ _ _ us hl => match us, hl with | [_, _], _ => rfl
  have F33 := fun_mk (st := s_do_circle) l33 c33 k33
  have b33 := F33.binds (ps := ["pairs", "deed"]) fun _ _ _ _ _ _ us hl => match us, hl with | [_, _], _ => rfl
  have F34 := fun_mk (st := s_do_deed) l34 c34 k34
  have b34 := F34.binds (ps := ["pairs", "deed"]) fun _ _ _ _ _ _ us hl => match us, hl with | [_, _], _ => rfl
  have F35 := fun_mk (st := s_done) l35 c35 k35
  have b35 := F35.binds (ps := ["pairs", "deed"]) fun _ _ _ _ _ _ us hl => match us, hl with | [_, _], _ => rfl
  have F36 := fun_mk (st := s_run_deeds) l36 c36 k36
  have b36 := F36.binds (ps := ["pairs", "deeds"]) fun _ _ _ _ _ _ us hl => match us, hl with | [_, _], _ => rfl
  have F37 := fun_mk (st := s_check_pairs) l37 c37 k37
  have b37 := F37.binds (ps := ["pairs"]) fun _ _ _ _ _ _ us hl => match us, hl with | [_], _ => rfl
  have F38 := fun_mk (st := s_by_keys) l38 c38 k38
  have b38 := F38.binds (ps := ["table"]) fun _ _ _ _ _ _ us hl => match us, hl with | [_], _ => rfl
  have F39 := fun_mk (st := s_law_dice) l39 c39 k39
  have b39 := F39.binds (ps := ["script", "spot"]) fun _ _ _ _ _ _ us hl => match us, hl with | [_, _], _ => rfl
  have F40 := fun_mk (st := s_law_roll) l40 c40 k40
  have b40 := F40.binds (ps := ["dice", "most"]) fun _ _ _ _ _ _ us hl => match us, hl with | [_, _], _ => rfl
  have F41 := fun_mk (st := s_law_pick) l41 c41 k41
  have b41 := F41.binds (ps := ["dice", "items"]) fun _ _ _ _ _ _ us hl => match us, hl with | [_, _], _ => rfl
  have F42 := fun_mk (st := s_law_met) l42 c42 k42
  have b42 := F42.binds (ps := ["call"]) fun _ _ _ _ _ _ us hl => match us, hl with | [_], _ => rfl
  have F43 := fun_mk (st := s_law_right) l43 c43 k43
  have b43 := F43.binds (ps := ["dice"]) fun _ _ _ _ _ _ us hl => match us, hl with | [_], _ => rfl
  have F44 := fun_mk (st := s_law) l44 c44 k44
  have b44 := F44.binds (ps := ["script"]) fun _ _ _ _ _ _ us hl => match us, hl with | [_], _ => rfl
  have T : Txt K mg ⟨f0, f1, f2, f3, f4, f5, f6, f7, f8, f9, f10, f11, f12, f13, f14, f15, f16, f17, f18, f19, f20, f21, f22, f23, f24, f25, f26, f27, f28, f29, f30, f31, f32, f33, f34, f35, f36, f37, f38, f39, f40, f41, f42, f43, fa, EInvalidDeed, EInvalidState⟩ ⟨_, _, _, _, _, _, _, _, _, _, _, _, _, _, _, _, _, _, _, _, _, _, _, _, _, _, _, _, _, _, _, _, _, _, _, _, _, _, _, _, _, _, _, _, _⟩ :=
    ⟨PySem.W.mg_of X G a0,
     F0,
     b0,
     PySem.W.mg_of X G a1,
     F1,
     b1,
     PySem.W.mg_of X G a2,
     F2,
     b2,
     PySem.W.mg_of X G a3,
     F3,
     b3,
     PySem.W.mg_of X G a4,
     F4,
     b4,
     PySem.W.mg_of X G a5,
     F5,
     b5,
     PySem.W.mg_of X G a6,
     F6,
     b6,
     PySem.W.mg_of X G a7,
     F7,
     b7,
     PySem.W.mg_of X G a8,
     F8,
     b8,
     PySem.W.mg_of X G a9,
     F9,
     b9,
     PySem.W.mg_of X G a10,
     F10,
     b10,
     PySem.W.mg_of X G a11,
     F11,
     b11,
     PySem.W.mg_of X G a12,
     F12,
     b12,
     PySem.W.mg_of X G a13,
     F13,
     b13,
     PySem.W.mg_of X G a14,
     F14,
     b14,
     PySem.W.mg_of X G a15,
     F15,
     b15,
     PySem.W.mg_of X G a16,
     F16,
     b16,
     PySem.W.mg_of X G a17,
     F17,
     b17,
     PySem.W.mg_of X G a18,
     F18,
     b18,
     PySem.W.mg_of X G a19,
     F19,
     b19,
     PySem.W.mg_of X G a20,
     F20,
     b20,
     PySem.W.mg_of X G a21,
     F21,
     b21,
     PySem.W.mg_of X G a22,
     F22,
     b22,
     PySem.W.mg_of X G a23,
     F23,
     b23,
     PySem.W.mg_of X G a24,
     F24,
     b24,
     PySem.W.mg_of X G a25,
     F25,
     b25,
     PySem.W.mg_of X G a26,
     F26,
     b26,
     PySem.W.mg_of X G a27,
     F27,
     b27,
     PySem.W.mg_of X G a28,
     F28,
     b28,
     PySem.W.mg_of X G a29,
     F29,
     b29,
     PySem.W.mg_of X G a30,
     F30,
     b30,
     PySem.W.mg_of X G a31,
     F31,
     b31,
     PySem.W.mg_of X G a32,
     F32,
     b32,
     PySem.W.mg_of X G a33,
     F33,
     b33,
     PySem.W.mg_of X G a34,
     F34,
     b34,
     PySem.W.mg_of X G a35,
     F35,
     b35,
     PySem.W.mg_of X G a36,
     F36,
     b36,
     PySem.W.mg_of X G a37,
     F37,
     b37,
     PySem.W.mg_of X G a38,
     F38,
     b38,
     PySem.W.mg_of X G a39,
     F39,
     b39,
     PySem.W.mg_of X G a40,
     F40,
     b40,
     PySem.W.mg_of X G a41,
     F41,
     b41,
     PySem.W.mg_of X G a42,
     F42,
     b42,
     PySem.W.mg_of X G a43,
     F43,
     b43,
     PySem.W.mg_of X G a44,
     F44,
     b44,
     ⟨_, PySem.W.mg_of X G x0⟩,
     ⟨_, PySem.W.mg_of X G x1⟩,
     ⟨_, PySem.W.mg_of X G x2⟩,
     ⟨_, PySem.W.mg_of X G x3⟩,
     ⟨_, PySem.W.mg_of X G x4⟩,
     ⟨_, PySem.W.mg_of X G x5⟩,
     ⟨_, PySem.W.mg_of X G x6⟩,
     ⟨_, PySem.W.mg_of X G x7⟩,
     ⟨_, PySem.W.mg_of X G x8⟩,
     ⟨_, PySem.W.mg_of X G x9⟩,
     ⟨_, PySem.W.mg_of X G x10⟩,
     ⟨xa0, PySem.W.mg_of X G xx0, fun _ => .inr ⟨_, _, _, xl0, rfl, rfl, by rw [sizeLine_eq]; exact (by decide : 5 ≤ 16777216), (.cons ⟨_, rfl⟩ (.cons ⟨_, rfl⟩ (.cons ⟨_, rfl⟩ (.cons ⟨_, rfl⟩ (.cons ⟨_, rfl⟩ .nil)))))⟩⟩,
     ⟨xa1, PySem.W.mg_of X G xx1, fun _ => .inr ⟨_, _, _, xl1, rfl, rfl, by rw [sizeLine_eq]; exact (by decide : 2 ≤ 16777216), (.cons ⟨_, rfl⟩ (.cons ⟨_, rfl⟩ .nil))⟩⟩,
     ⟨xa2, PySem.W.mg_of X G xx2, fun _ => .inr ⟨_, _, _, xl2, rfl, rfl, by rw [sizeLine_eq]; exact (by decide : 4 ≤ 16777216), (.cons ⟨_, rfl⟩ (.cons ⟨_, rfl⟩ (.cons ⟨_, rfl⟩ (.cons ⟨_, rfl⟩ .nil))))⟩⟩,
     PySem.W.mg_none_of X G y0,
     PySem.W.mg_none_of X G y1,
     PySem.W.mg_none_of X G y2,
     PySem.W.mg_none_of X G y3,
     PySem.W.mg_none_of X G y4,
     PySem.W.mg_none_of X G y5,
     PySem.W.mg_none_of X G y6,
     PySem.W.mg_none_of X G y7,
     PySem.W.mg_none_of X G y8,
     PySem.W.mg_none_of X G y9,
     PySem.W.mg_none_of X G y10,
     PySem.W.mg_none_of X G y11,
     PySem.W.mg_none_of X G y12,
     PySem.W.mg_none_of X G y13,
     PySem.W.mg_none_of X G y14,
     ⟨PySem.W.mg_of X G aEInvalidDeed, qEInvalidDeed, zEInvalidDeedkc, zEInvalidDeedsb, zEInvalidDeedty⟩,
     ⟨PySem.W.mg_of X G aEInvalidState, qEInvalidState, zEInvalidStatekc, zEInvalidStatesb, zEInvalidStatety⟩,
     zEInvalidDeedInvalidDeed,
     zEInvalidDeedInvalidState,
     zEInvalidStateInvalidDeed,
     zEInvalidStateInvalidState⟩
  have U : Tab K w mg ⟨f0, f1, f2, f3, f4, f5, f6, f7, f8, f9, f10, f11, f12, f13, f14, f15, f16, f17, f18, f19, f20, f21, f22, f23, f24, f25, f26, f27, f28, f29, f30, f31, f32, f33, f34, f35, f36, f37, f38, f39, f40, f41, f42, f43, fa, EInvalidDeed, EInvalidState⟩ :=
    ⟨⟨wa0, PySem.W.mg_of X G wx0, tab_mk (rows := [("put", wh0_0, wk0_0, f12), ("drop", wh0_1, wk0_1, f13), ("get", wh0_2, wk0_2, f13), ("add", wh0_3, wk0_3, f14), ("swap", wh0_4, wk0_4, f15), ("list", wh0_5, wk0_5, f16), ("all", wh0_6, wk0_6, f17), ("circle", wh0_7, wk0_7, f19)]) wl0 ⟨wH0_0, wH0_1, wH0_2, wH0_3, wH0_4, wH0_5, wH0_6, wH0_7, trivial⟩ wz0⟩,
     ⟨wa1, PySem.W.mg_of X G wx1, tab_mk (rows := [("put", wh1_0, wk1_0, f26), ("drop", wh1_1, wk1_1, f27), ("get", wh1_2, wk1_2, f28), ("add", wh1_3, wk1_3, f29), ("swap", wh1_4, wk1_4, f30), ("list", wh1_5, wk1_5, f31), ("all", wh1_6, wk1_6, f32), ("circle", wh1_7, wk1_7, f33)]) wl1 ⟨wH1_0, wH1_1, wH1_2, wH1_3, wH1_4, wH1_5, wH1_6, wH1_7, trivial⟩ wz1⟩⟩
  have tA : ∀ p ∈ [(cc43, pp43), (cc44, pp44)], h.get? p.2 = some { cls := .none, data := .fields #[] } := fun p hp => by
    rcases List.mem_cons.mp hp with rfl | hp
    · exact lt43
    rw [List.mem_singleton.mp hp]
    exact lt44
  have tN : ∀ p ∈ [(cc43, pp43), (cc44, pp44)], K.lookup p.2 = none := fun p hp => by
    rcases List.mem_cons.mp hp with rfl | hp
    · exact ln43
    rw [List.mem_singleton.mp hp]
    exact ln44
  have tC : ∀ p ∈ [(cc43, pp43), (cc44, pp44)], PySem.W.CodeHd h p.1 p.2 := fun p hp => by
    rcases List.mem_cons.mp hp with rfl | hp
    · exact PySem.W.codeHd_of_K X lq43
    rw [List.mem_singleton.mp hp]
    exact PySem.W.codeHd_of_K X lq44
  refine ⟨PySem.W.fnOf "law" "law" (defArgs s_law) (defBody s_law) (defScope s_law) .none kV44 dc44 pm44 an44 (.ref cc44) ct44, [(cc43, pp43), (cc44, pp44)], sp_law K ⟨cc43, pp43, cc44, pp44⟩, tA, tN, tC, fun s v => .of_eq rfl, fun H a ns hl hb hT hS => ⟨a, ns, rfl, hS, hl, fun p hp => ?_, fun _ => rfl⟩, fun base _ _ TB => ok_law T U ⟨rfl, TB _ List.mem_cons_self, rfl, TB _ (List.mem_cons_of_mem _ List.mem_cons_self), lne⟩⟩
  rcases List.mem_cons.mp hp with rfl | hp
  · exact LamX.TabS.nil (hT (cc43, pp43) List.mem_cons_self)
  · rw [List.mem_singleton.mp hp]
    exact LamX.TabS.nil (hT (cc44, pp44) (List.mem_cons_of_mem _ List.mem_cons_self))
theorem walk {l : PySem.W.OpenLaw} {q : Program} {loose : List Str} {XP : (Str → Option Value) → Heap → Prop} {YP : World → Heap → Prop} {d : DefRec} {K : Params → PySem.W.Frag} (hn : l.most = some 63) (hdf : d.params.defaults = [])
    (hY : ∀ (w : World) (h : Heap), YP w h → (K w.params).In h)
    (F : ∀ (w : World) (mg : Str → Option Value) (fa : Addr) (h : Heap), YP w h → (K w.params).In h → h.Ns mainGlobals mg → mg d.name = some (.ref fa) →
      LamX.LawAtS l w (K w.params) CX0 43 63 "script" mg fa h) :
    PySem.W.WalkO q loose XP YP l.row.toRowW d [] (fun f vs => PySem.call f vs) :=
  LamX.walk_ofTs (n := 63) (k := 43) (x := "script") (CX := fun _ => CX0) hn (by decide) hdf ⟨rfl, by decide, by decide⟩ hY F fun _ _ _ _ _ z => z
end K0
open PySem PySem.W PyProof.Rows
set_option maxRecDepth 100000 in
set_option maxHeartbeats 0 in
theorem PySem.Challenge.cw_halvesmeet_k07_errors_of_deeds_holds : PySem.Challenge.rw_halvesmeet_k07_errors_of_deeds.Holds := by
  w_on; o_law; k_head; (case hw => w_witness2)
  k_fill
  refine K0.walk (l := PySem.Challenge.rw_halvesmeet_k07_errors_of_deeds) rfl rfl (fun w h Y => PySem.W.km_in_of Y) ?F
  case F =>
    intro w mg fa h Y KX G hmg
    have Y2 := PySem.W.km_tabs_of Y
    refine' K0.all_mk (pp43 := 343) (pp44 := 348) KX G hmg ?a0 ?l0 ?c0 ?k0 ?a1 ?l1 ?c1 ?k1 ?a2 ?l2 ?c2 ?k2 ?a3 ?l3 ?c3 ?k3 ?a4 ?l4 ?c4 ?k4 ?a5 ?l5 ?c5 ?k5 ?a6 ?l6 ?c6 ?k6 ?a7 ?l7 ?c7 ?k7 ?a8 ?l8 ?c8 ?k8 ?a9 ?l9 ?c9 ?k9 ?a10 ?l10 ?c10 ?k10 ?a11 ?l11 ?c11 ?k11 ?a12 ?l12 ?c12 ?k12 ?a13 ?l13 ?c13 ?k13 ?a14 ?l14 ?c14 ?k14 ?a15 ?l15 ?c15 ?k15 ?a16 ?l16 ?c16 ?k16 ?a17 ?l17 ?c17 ?k17 ?a18 ?l18 ?c18 ?k18 ?a19 ?l19 ?c19 ?k19 ?a20 ?l20 ?c20 ?k20 ?a21 ?l21 ?c21 ?k21 ?a22 ?l22 ?c22 ?k22 ?a23 ?l23 ?c23 ?k23 ?a24 ?l24 ?c24 ?k24 ?a25 ?l25 ?c25 ?k25 ?a26 ?l26 ?c26 ?k26 ?a27 ?l27 ?c27 ?k27 ?a28 ?l28 ?c28 ?k28 ?a29 ?l29 ?c29 ?k29 ?a30 ?l30 ?c30 ?k30 ?a31 ?l31 ?c31 ?k31 ?a32 ?l32 ?c32 ?k32 ?a33 ?l33 ?c33 ?k33 ?a34 ?l34 ?c34 ?k34 ?a35 ?l35 ?c35 ?k35 ?a36 ?l36 ?c36 ?k36 ?a37 ?l37 ?c37 ?k37 ?a38 ?l38 ?c38 ?k38 ?a39 ?l39 ?c39 ?k39 ?a40 ?l40 ?c40 ?k40 ?a41 ?l41 ?c41 ?k41 ?a42 ?l42 ?c42 ?k42 ?a43 ?l43 ?c43 ?k43 ?lq43 ?ln43 ?lt43 ?a44 ?l44 ?c44 ?k44 ?lq44 ?ln44 ?lt44 ?aEInvalidDeed ?qEInvalidDeed ?zEInvalidDeedkc ?zEInvalidDeedsb ?zEInvalidDeedty ?aEInvalidState ?qEInvalidState ?zEInvalidStatekc ?zEInvalidStatesb ?zEInvalidStatety ?zEInvalidDeedInvalidDeed ?zEInvalidDeedInvalidState ?zEInvalidStateInvalidDeed ?zEInvalidStateInvalidState ?x0 ?x1 ?x2 ?x3 ?x4 ?x5 ?x6 ?x7 ?x8 ?x9 ?x10 ?y0 ?y1 ?y2 ?y3 ?y4 ?y5 ?y6 ?y7 ?y8 ?y9 ?y10 ?y11 ?y12 ?y13 ?y14 ?xx0 ?xl0 ?xx1 ?xl1 ?xx2 ?xl2 ?wx0 ?wl0 ?wH0_0 ?wH0_1 ?wH0_2 ?wH0_3 ?wH0_4 ?wH0_5 ?wH0_6 ?wH0_7 ?wz0 ?wx1 ?wl1 ?wH1_0 ?wH1_1 ?wH1_2 ?wH1_3 ?wH1_4 ?wH1_5 ?wH1_6 ?wH1_7 ?wz1 ?lne
    (case a0 => k_is)
    (case l0 => k_is)
    (case c0 => k_is)
    (case k0 => k_is)
    (case a1 => k_is)
    (case l1 => k_is)
    (case c1 => k_is)
    (case k1 => k_is)
    (case a2 => k_is)
    (case l2 => k_is)
    (case c2 => k_is)
    (case k2 => k_is)
    (case a3 => k_is)
    (case l3 => k_is)
    (case c3 => k_is)
    (case k3 => k_is)
    (case a4 => k_is)
    (case l4 => k_is)
    (case c4 => k_is)
    (case k4 => k_is)
    (case a5 => k_is)
    (case l5 => k_is)
    (case c5 => k_is)
    (case k5 => k_is)
    (case a6 => k_is)
    (case l6 => k_is)
    (case c6 => k_is)
    (case k6 => k_is)
    (case a7 => k_is)
    (case l7 => k_is)
    (case c7 => k_is)
    (case k7 => k_is)
    (case a8 => k_is)
    (case l8 => k_is)
    (case c8 => k_is)
    (case k8 => k_is)
    (case a9 => k_is)
    (case l9 => k_is)
    (case c9 => k_is)
    (case k9 => k_is)
    (case a10 => k_is)
    (case l10 => k_is)
    (case c10 => k_is)
    (case k10 => k_is)
    (case a11 => k_is)
    (case l11 => k_is)
    (case c11 => k_is)
    (case k11 => k_is)
    (case a12 => k_is)
    (case l12 => k_is)
    (case c12 => k_is)
    (case k12 => k_is)
    (case a13 => k_is)
    (case l13 => k_is)
    (case c13 => k_is)
    (case k13 => k_is)
    (case a14 => k_is)
    (case l14 => k_is)
    (case c14 => k_is)
    (case k14 => k_is)
    (case a15 => k_is)
    (case l15 => k_is)
    (case c15 => k_is)
    (case k15 => k_is)
    (case a16 => k_is)
    (case l16 => k_is)
    (case c16 => k_is)
    (case k16 => k_is)
    (case a17 => k_is)
    (case l17 => k_is)
    (case c17 => k_is)
    (case k17 => k_is)
    (case a18 => k_is)
    (case l18 => k_is)
    (case c18 => k_is)
    (case k18 => k_is)
    (case a19 => k_is)
    (case l19 => k_is)
    (case c19 => k_is)
    (case k19 => k_is)
    (case a20 => k_is)
    (case l20 => k_is)
    (case c20 => k_is)
    (case k20 => k_is)
    (case a21 => k_is)
    (case l21 => k_is)
    (case c21 => k_is)
    (case k21 => k_is)
    (case a22 => k_is)
    (case l22 => k_is)
    (case c22 => k_is)
    (case k22 => k_is)
    (case a23 => k_is)
    (case l23 => k_is)
    (case c23 => k_is)
    (case k23 => k_is)
    (case a24 => k_is)
    (case l24 => k_is)
    (case c24 => k_is)
    (case k24 => k_is)
    (case a25 => k_is)
    (case l25 => k_is)
    (case c25 => k_is)
    (case k25 => k_is)
    (case a26 => k_is)
    (case l26 => k_is)
    (case c26 => k_is)
    (case k26 => k_is)
    (case a27 => k_is)
    (case l27 => k_is)
    (case c27 => k_is)
    (case k27 => k_is)
    (case a28 => k_is)
    (case l28 => k_is)
    (case c28 => k_is)
    (case k28 => k_is)
    (case a29 => k_is)
    (case l29 => k_is)
    (case c29 => k_is)
    (case k29 => k_is)
    (case a30 => k_is)
    (case l30 => k_is)
    (case c30 => k_is)
    (case k30 => k_is)
    (case a31 => k_is)
    (case l31 => k_is)
    (case c31 => k_is)
    (case k31 => k_is)
    (case a32 => k_is)
    (case l32 => k_is)
    (case c32 => k_is)
    (case k32 => k_is)
    (case a33 => k_is)
    (case l33 => k_is)
    (case c33 => k_is)
    (case k33 => k_is)
    (case a34 => k_is)
    (case l34 => k_is)
    (case c34 => k_is)
    (case k34 => k_is)
    (case a35 => k_is)
    (case l35 => k_is)
    (case c35 => k_is)
    (case k35 => k_is)
    (case a36 => k_is)
    (case l36 => k_is)
    (case c36 => k_is)
    (case k36 => k_is)
    (case a37 => k_is)
    (case l37 => k_is)
    (case c37 => k_is)
    (case k37 => k_is)
    (case a38 => k_is)
    (case l38 => k_is)
    (case c38 => k_is)
    (case k38 => k_is)
    (case a39 => k_is)
    (case l39 => k_is)
    (case c39 => k_is)
    (case k39 => k_is)
    (case a40 => k_is)
    (case l40 => k_is)
    (case c40 => k_is)
    (case k40 => k_is)
    (case a41 => k_is)
    (case l41 => k_is)
    (case c41 => k_is)
    (case k41 => k_is)
    (case a42 => k_is)
    (case l42 => k_is)
    (case c42 => k_is)
    (case k42 => k_is)
    (case a43 => k_is)
    (case l43 => k_is)
    (case c43 => k_is)
    (case k43 => k_is)
    (case lq43 => first | kernel_rfl | rfl | decide +kernel)
    (case ln43 => first | kernel_rfl | rfl | decide +kernel)
    (case lt43 => exact Y2 _ (by decide))
    (case a44 => k_is)
    (case l44 => k_is)
    (case c44 => k_is)
    (case k44 => k_is)
    (case lq44 => first | kernel_rfl | rfl | decide +kernel)
    (case ln44 => first | kernel_rfl | rfl | decide +kernel)
    (case lt44 => exact Y2 _ (by decide))
    (case aEInvalidDeed => k_is)
    (case qEInvalidDeed => k_exc)
    (case zEInvalidDeedkc => first | k_is | kit_is)
    (case zEInvalidDeedsb => k_is)
    (case zEInvalidDeedty => k_is)
    (case aEInvalidState => k_is)
    (case qEInvalidState => k_exc)
    (case zEInvalidStatekc => first | k_is | kit_is)
    (case zEInvalidStatesb => k_is)
    (case zEInvalidStatety => k_is)
    (case zEInvalidDeedInvalidDeed => first | kernel_rfl | rfl | decide +kernel)
    (case zEInvalidDeedInvalidState => first | kernel_rfl | rfl | decide +kernel)
    (case zEInvalidStateInvalidDeed => first | kernel_rfl | rfl | decide +kernel)
    (case zEInvalidStateInvalidState => first | kernel_rfl | rfl | decide +kernel)
    (case x0 => k_is)
    (case x1 => k_is)
    (case x2 => k_is)
    (case x3 => k_is)
    (case x4 => k_is)
    (case x5 => k_is)
    (case x6 => k_is)
    (case x7 => k_is)
    (case x8 => k_is)
    (case x9 => k_is)
    (case x10 => k_is)
    (case y0 => k_is)
    (case y1 => k_is)
    (case y2 => k_is)
    (case y3 => k_is)
    (case y4 => k_is)
    (case y5 => k_is)
    (case y6 => k_is)
    (case y7 => k_is)
    (case y8 => k_is)
    (case y9 => k_is)
    (case y10 => k_is)
    (case y11 => k_is)
    (case y12 => k_is)
    (case y13 => k_is)
    (case y14 => k_is)
    (case xx0 => k_is)
    (case xl0 => k_is)
    (case xx1 => k_is)
    (case xl1 => k_is)
    (case xx2 => k_is)
    (case xl2 => k_is)
    (case wx0 => k_is)
    (case wl0 => k_is)
    (case wH0_0 => rfl)
    (case wH0_1 => rfl)
    (case wH0_2 => rfl)
    (case wH0_3 => rfl)
    (case wH0_4 => rfl)
    (case wH0_5 => rfl)
    (case wH0_6 => rfl)
    (case wH0_7 => rfl)
    (case wz0 => rfl)
    (case wx1 => k_is)
    (case wl1 => k_is)
    (case wH1_0 => rfl)
    (case wH1_1 => rfl)
    (case wH1_2 => rfl)
    (case wH1_3 => rfl)
    (case wH1_4 => rfl)
    (case wH1_5 => rfl)
    (case wH1_6 => rfl)
    (case wH1_7 => rfl)
    (case wz1 => rfl)
    (case lne => decide)

