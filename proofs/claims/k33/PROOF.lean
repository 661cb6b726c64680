import PyProof.Rows.All
import Wide.All
import OpenK.AllK
import Wide.FinOn
import HandS.ForMost
import HandS.Evl
import HandS.IsInst
import HandS.StrMore
import HandS.Strs
import HandS.TupAny
import HandS.Zip
import HandS.Walk
import HandS.Wide
import HandS.Conv
import HandS.Property
import HandS.ClsMeth
import HandS.CallLocal
import HandS.Defaults
import HandS.FStr
import HandS.TupMul
import HandS.Exc
import HandS.ExcInit
import HandS.ExcField
import PySem.Challenge.RW_halvesmeet_k33_whole_chosen_lengths
import HandS.SetFor
import KE.KEqNest
import PyProof.NeKinds
import HandS.NoneIn
import HandS.DictTup
import HandS.SortKw
import KE.KItemsList
import KE.KDictList
import HandS.Sort
import PyProof.LongRange
import PyProof.ListRange
import HandS.SortInts
import HandS.DictComp
import KE.GoesEnum
import KE.GoesMore
set_option Elab.async false
set_option linter.all false
set_option maxRecDepth 100000
set_option maxHeartbeats 8000000
namespace K0
open PySem L2 Evl
/-- a dict of the top from texts to defs -/
def TabF (K : PySem.W.Frag) (w : World) (a : Addr) (ts : List (Str × Addr)) : Prop := ∃ es n, KDict K w a es n ∧ ∀ z, PySem.W.nsIn K a z = some ((ts.lookup z).map Value.ref)
/-- an own class has what isinstance asks -/
structure ObjC (K : PySem.W.Frag) (C : Addr) : Prop where
  ca : PySem.W.findIn K (.ref C) "__class__" = some (some (.builtin "object.__class__"))
  cg : PySem.W.specialIn K (.builtin "object.__class__") "__get__" = some (some (.builtin "getset_descriptor.__get__"))
  ct : PySem.W.takesIn K (.builtin "object.__class__") = some true
  co : PySem.W.mroIn K C (.type "object") = some true
def bmVE : List Value := [.type "ValueError", .type "Exception", .type "BaseException", .type "object"]
/-- an exception class over ValueError, without an __init__ of its own -/
structure ExcF (K : PySem.W.Frag) (mg : Str → Option Value) (x : Str) (C : Addr) : Prop where
  g : mg x = some (.ref C)
  q : PySem.W.excIn K C bmVE "ValueError.__new__" = true
  k : PySem.W.keepIn K (.ref C) = true
  b : PySem.W.subIn K (.ref C) (.type "BaseException") = some true
  t : PySem.W.typeIn K (.ref C) = some (.type "type")
/-- an exception class over ValueError with an __init__ of its own alone -/
def oexIn (K : PySem.W.Frag) (C : Addr) : Bool := match K.lookup C with
  | some ⟨.type "type", _, .cls cd, sl⟩ => (match cd.mro, sl.toList with
    | .ref C' :: bm, [_, _, _, _, some (.builtin n), _] => C' == C && n == "ValueError.__new__" && !cd.hasDel && cd.hasDict && PySem.HandSPX.refsVE bm
    | _, _ => false)
  | _ => false
theorem oexC {K : PySem.W.Frag} {C : Addr} (q : oexIn K C = true) (sa : PySem.W.findIn K (.ref C) "__setattr__" = some (some (.builtin "object.__setattr__"))) (exC : PySem.W.subIn K (.ref C) (.type "BaseException") = some true)
    (tyC : PySem.W.typeIn K (.ref C) = some (.type "type")) (kC : PySem.W.keepIn K (.ref C) = true) : OexC K C := by
  refine ⟨?_, sa, exC, tyC, kC⟩
  unfold oexIn at q
  split at q
  · rename_i dd cd sl ho
    split at q
    · rename_i C' bm k0 k1 k2 k3 n k5 hm hs
      simp only [Bool.and_eq_true, beq_iff_eq, Bool.not_eq_true'] at q
      obtain ⟨⟨⟨⟨rfl, rfl⟩, hdel⟩, hdi⟩, ht⟩ := q
      obtain ⟨nm, bs, mro, ns, qn, hd, sn, sub, ab, col, del⟩ := cd
      dsimp only at hm hdel hdi
      subst hm hdel hdi
      have hsl : sl = #[k0, k1, k2, k3, some (.builtin "ValueError.__new__"), k5] := by
        obtain ⟨l⟩ := sl
        simp only at hs
        rw [hs]
      subst hsl
      exact ⟨nm, qn, ns, bs, bm, sn, sub, ab, col, dd, k0, k1, k2, k3, k5, ho, ht⟩
    · cases q
  · cases q
structure ExI (K : PySem.W.Frag) (mg : Str → Option Value) (x : Str) (C fI : Addr) : Prop where
  g : mg x = some (.ref C)
  o : OexC K C
  x : XfC K C
  i : PySem.W.findIn K (.ref C) "__init__" = some (some (.ref fI))
  t : PySem.W.typeIn K (.ref fI) = some (.type "function")
def top (i : Nat) : Stmt := PySem.Challenge.pw_halvesmeet_k33_whole_chosen_lengths.main.body.getD i (.Pass ⟨0, 0, 0, 0⟩)
abbrev s_is_number : Stmt := top 9
abbrev N_is_number : List Str := ["value"]
theorem sc_is_number : FnScope N_is_number ["value"] (defScope s_is_number) := ⟨rfl, rfl, rfl, by decide +kernel, rfl, by decide +kernel, by decide +kernel⟩
abbrev s_is_within : Stmt := top 10
abbrev N_is_within : List Str := ["value", "least", "most"]
theorem sc_is_within : FnScope N_is_within ["value", "least", "most"] (defScope s_is_within) := ⟨rfl, rfl, rfl, by decide +kernel, rfl, by decide +kernel, by decide +kernel⟩
abbrev s_is_circle : Stmt := top 11
abbrev N_is_circle : List Str := ["value"]
theorem sc_is_circle : FnScope N_is_circle ["value"] (defScope s_is_circle) := ⟨rfl, rfl, rfl, by decide +kernel, rfl, by decide +kernel, by decide +kernel⟩
abbrev s_are_indices : Stmt := top 12
abbrev N_are_indices : List Str := ["value", "many", "index"]
theorem sc_are_indices : FnScope N_are_indices ["value", "many"] (defScope s_are_indices) := ⟨rfl, rfl, rfl, by decide +kernel, rfl, by decide +kernel, by decide +kernel⟩
abbrev s_are_ascending : Stmt := top 13
abbrev N_are_ascending : List Str := ["row", "one", "other"]
theorem sc_are_ascending : FnScope N_are_ascending ["row"] (defScope s_are_ascending) := ⟨rfl, rfl, rfl, by decide +kernel, rfl, by decide +kernel, by decide +kernel⟩
abbrev s_check_number : Stmt := top 15
abbrev N_check_number : List Str := ["given", "least", "most"]
theorem sc_check_number : FnScope N_check_number ["given", "least", "most"] (defScope s_check_number) := ⟨rfl, rfl, rfl, by decide +kernel, rfl, by decide +kernel, by decide +kernel⟩
abbrev s_check_circle : Stmt := top 16
abbrev N_check_circle : List Str := ["value"]
theorem sc_check_circle : FnScope N_check_circle ["value"] (defScope s_check_circle) := ⟨rfl, rfl, rfl, by decide +kernel, rfl, by decide +kernel, by decide +kernel⟩
abbrev s_is_lot : Stmt := top 18
abbrev N_is_lot : List Str := ["circle", "value", "house"]
theorem sc_is_lot : FnScope N_is_lot ["circle", "value"] (defScope s_is_lot) := ⟨rfl, rfl, rfl, by decide +kernel, rfl, by decide +kernel, by decide +kernel⟩
abbrev s_check_laid : Stmt := top 19
abbrev N_check_laid : List Str := ["circle", "laid", "house", "length"]
theorem sc_check_laid : FnScope N_check_laid ["circle", "laid"] (defScope s_check_laid) := ⟨rfl, rfl, rfl, by decide +kernel, rfl, by decide +kernel, by decide +kernel⟩
abbrev s_least_halves : Stmt := top 20
abbrev N_least_halves : List Str := ["circle"]
theorem sc_least_halves : FnScope N_least_halves ["circle"] (defScope s_least_halves) := ⟨rfl, rfl, rfl, by decide +kernel, rfl, by decide +kernel, by decide +kernel⟩
abbrev s_lots_of : Stmt := top 21
abbrev N_lots_of : List Str := ["houses", "many", "found", "at", "house", "rest"]
theorem sc_lots_of : FnScope N_lots_of ["houses", "many"] (defScope s_lots_of) := ⟨rfl, rfl, rfl, by decide +kernel, rfl, by decide +kernel, by decide +kernel⟩
abbrev s_chosen_length : Stmt := top 22
abbrev N_chosen_length : List Str := ["circle", "laid"]
theorem sc_chosen_length : FnScope N_chosen_length ["circle", "laid"] (defScope s_chosen_length) := ⟨rfl, rfl, rfl, by decide +kernel, rfl, by decide +kernel, by decide +kernel⟩
abbrev s_length_chosen : Stmt := top 23
abbrev N_length_chosen : List Str := ["circle", "laid", "without", "lengths", "house"]
theorem sc_length_chosen : FnScope N_length_chosen ["circle", "laid", "without"] (defScope s_length_chosen) := ⟨rfl, rfl, rfl, by decide +kernel, rfl, by decide +kernel, by decide +kernel⟩
abbrev s_holders : Stmt := top 24
abbrev N_holders : List Str := ["circle", "laid", "length", "house"]
theorem sc_holders : FnScope N_holders ["circle", "laid", "length"] (defScope s_holders) := ⟨rfl, rfl, rfl, by decide +kernel, rfl, by decide +kernel, by decide +kernel⟩
abbrev s_law_dice : Stmt := top 26
abbrev N_law_dice : List Str := ["script", "spot", "cell", "left"]
theorem sc_law_dice : FnScope N_law_dice ["script", "spot"] (defScope s_law_dice) := ⟨rfl, rfl, rfl, by decide +kernel, rfl, by decide +kernel, by decide +kernel⟩
abbrev s_law_roll : Stmt := top 27
abbrev N_law_roll : List Str := ["dice", "most", "found", "one", "two"]
theorem sc_law_roll : FnScope N_law_roll ["dice", "most"] (defScope s_law_roll) := ⟨rfl, rfl, rfl, by decide +kernel, rfl, by decide +kernel, by decide +kernel⟩
abbrev s_law_pick : Stmt := top 28
abbrev N_law_pick : List Str := ["dice", "items"]
theorem sc_law_pick : FnScope N_law_pick ["dice", "items"] (defScope s_law_pick) := ⟨rfl, rfl, rfl, by decide +kernel, rfl, by decide +kernel, by decide +kernel⟩
abbrev s_law_mixed : Stmt := top 29
abbrev N_law_mixed : List Str := ["dice", "items", "left", "found"]
theorem sc_law_mixed : FnScope N_law_mixed ["dice", "items"] (defScope s_law_mixed) := ⟨rfl, rfl, rfl, by decide +kernel, rfl, by decide +kernel, by decide +kernel⟩
abbrev s_law_circle_drawn : Stmt := top 30
abbrev N_law_circle_drawn : List Str := ["dice", "most"]
theorem sc_law_circle_drawn : FnScope N_law_circle_drawn ["dice", "most"] (defScope s_law_circle_drawn) := ⟨rfl, rfl, rfl, by decide +kernel, rfl, by decide +kernel, by decide +kernel⟩
abbrev s_law_ro_is_half : Stmt := top 31
abbrev N_law_ro_is_half : List Str := ["circle", "many"]
theorem sc_law_ro_is_half : FnScope N_law_ro_is_half ["circle", "many"] (defScope s_law_ro_is_half) := ⟨rfl, rfl, rfl, by decide +kernel, rfl, by decide +kernel, by decide +kernel⟩
abbrev s_law_ro_chosen : Stmt := top 32
abbrev N_law_ro_chosen : List Str := ["circle", "laid", "best", "house", "one"]
theorem sc_law_ro_chosen : FnScope N_law_ro_chosen ["circle", "laid"] (defScope s_law_ro_chosen) := ⟨rfl, rfl, rfl, by decide +kernel, rfl, by decide +kernel, by decide +kernel⟩
abbrev s_law_length_drawn : Stmt := top 33
abbrev N_law_length_drawn : List Str := ["dice"]
theorem sc_law_length_drawn : FnScope N_law_length_drawn ["dice"] (defScope s_law_length_drawn) := ⟨rfl, rfl, rfl, by decide +kernel, rfl, by decide +kernel, by decide +kernel⟩
abbrev s_law_right : Stmt := top 34
abbrev N_law_right : List Str := ["dice", "circle", "laid", "house", "due", "length", "lot", "grown", "later"]
theorem sc_law_right : FnScope N_law_right ["dice"] (defScope s_law_right) := ⟨rfl, rfl, rfl, by decide +kernel, rfl, by decide +kernel, by decide +kernel⟩
abbrev s_law : Stmt := top 35
abbrev N_law : List Str := ["script", "spot", "dice", "turn", "three", "four", "told"]
theorem sc_law : FnScope N_law ["script"] (defScope s_law) := ⟨rfl, rfl, rfl, by decide +kernel, rfl, by decide +kernel, by decide +kernel⟩
structure Ad where
  is_number : Addr
  is_within : Addr
  is_circle : Addr
  are_indices : Addr
  are_ascending : Addr
  check_number : Addr
  check_circle : Addr
  is_lot : Addr
  check_laid : Addr
  least_halves : Addr
  lots_of : Addr
  chosen_length : Addr
  length_chosen : Addr
  holders : Addr
  law_dice : Addr
  law_roll : Addr
  law_pick : Addr
  law_mixed : Addr
  law_circle_drawn : Addr
  law_ro_is_half : Addr
  law_ro_chosen : Addr
  law_length_drawn : Addr
  law_right : Addr
  law : Addr
structure Fd where
  is_number : FuncData
  is_within : FuncData
  is_circle : FuncData
  are_indices : FuncData
  are_ascending : FuncData
  check_number : FuncData
  check_circle : FuncData
  is_lot : FuncData
  check_laid : FuncData
  least_halves : FuncData
  lots_of : FuncData
  chosen_length : FuncData
  length_chosen : FuncData
  holders : FuncData
  law_dice : FuncData
  law_roll : FuncData
  law_pick : FuncData
  law_mixed : FuncData
  law_circle_drawn : FuncData
  law_ro_is_half : FuncData
  law_ro_chosen : FuncData
  law_length_drawn : FuncData
  law_right : FuncData
  law : FuncData
/-- what the top has written -/
structure Txt (K : PySem.W.Frag) (mg : Str → Option Value) (A : Ad) (D : Fd) : Prop where
  g_is_number : mg "is_number" = some (.ref A.is_number)
  F_is_number : Fun K "is_number" "is_number" s_is_number A.is_number D.is_number
  b_is_number : Binds K D.is_number ["value"] []
  g_is_within : mg "is_within" = some (.ref A.is_within)
  F_is_within : Fun K "is_within" "is_within" s_is_within A.is_within D.is_within
  b_is_within : Binds K D.is_within ["value", "least", "most"] []
  g_is_circle : mg "is_circle" = some (.ref A.is_circle)
  F_is_circle : Fun K "is_circle" "is_circle" s_is_circle A.is_circle D.is_circle
  b_is_circle : Binds K D.is_circle ["value"] []
  g_are_indices : mg "are_indices" = some (.ref A.are_indices)
  F_are_indices : Fun K "are_indices" "are_indices" s_are_indices A.are_indices D.are_indices
  b_are_indices : Binds K D.are_indices ["value", "many"] []
  g_are_ascending : mg "are_ascending" = some (.ref A.are_ascending)
  F_are_ascending : Fun K "are_ascending" "are_ascending" s_are_ascending A.are_ascending D.are_ascending
  b_are_ascending : Binds K D.are_ascending ["row"] []
  g_check_number : mg "check_number" = some (.ref A.check_number)
  F_check_number : FunD K "check_number" "check_number" (defArgs s_check_number) (defBody s_check_number) (defScope s_check_number) [.int (999999999999999999999999999999999999999999999999999999999999)] [] A.check_number D.check_number
  d_check_number : ∃ ds, Vals [.int (999999999999999999999999999999999999999999999999999999999999)] ds ∧ Binds K D.check_number ["given", "least", "most"] ds
  b_check_number : Binds K D.check_number ["given", "least", "most"] []
  g_check_circle : mg "check_circle" = some (.ref A.check_circle)
  F_check_circle : Fun K "check_circle" "check_circle" s_check_circle A.check_circle D.check_circle
  b_check_circle : Binds K D.check_circle ["value"] []
  g_is_lot : mg "is_lot" = some (.ref A.is_lot)
  F_is_lot : Fun K "is_lot" "is_lot" s_is_lot A.is_lot D.is_lot
  b_is_lot : Binds K D.is_lot ["circle", "value"] []
  g_check_laid : mg "_check_laid" = some (.ref A.check_laid)
  F_check_laid : Fun K "_check_laid" "_check_laid" s_check_laid A.check_laid D.check_laid
  b_check_laid : Binds K D.check_laid ["circle", "laid"] []
  g_least_halves : mg "least_halves" = some (.ref A.least_halves)
  F_least_halves : Fun K "least_halves" "least_halves" s_least_halves A.least_halves D.least_halves
  b_least_halves : Binds K D.least_halves ["circle"] []
  g_lots_of : mg "lots_of" = some (.ref A.lots_of)
  F_lots_of : Fun K "lots_of" "lots_of" s_lots_of A.lots_of D.lots_of
  b_lots_of : Binds K D.lots_of ["houses", "many"] []
  g_chosen_length : mg "chosen_length" = some (.ref A.chosen_length)
  F_chosen_length : Fun K "chosen_length" "chosen_length" s_chosen_length A.chosen_length D.chosen_length
  b_chosen_length : Binds K D.chosen_length ["circle", "laid"] []
  g_length_chosen : mg "length_chosen" = some (.ref A.length_chosen)
  F_length_chosen : Fun K "length_chosen" "length_chosen" s_length_chosen A.length_chosen D.length_chosen
  b_length_chosen : Binds K D.length_chosen ["circle", "laid", "without"] []
  g_holders : mg "holders" = some (.ref A.holders)
  F_holders : Fun K "holders" "holders" s_holders A.holders D.holders
  b_holders : Binds K D.holders ["circle", "laid", "length"] []
  g_law_dice : mg "_law_dice" = some (.ref A.law_dice)
  F_law_dice : Fun K "_law_dice" "_law_dice" s_law_dice A.law_dice D.law_dice
  b_law_dice : Binds K D.law_dice ["script", "spot"] []
  g_law_roll : mg "_law_roll" = some (.ref A.law_roll)
  F_law_roll : Fun K "_law_roll" "_law_roll" s_law_roll A.law_roll D.law_roll
  b_law_roll : Binds K D.law_roll ["dice", "most"] []
  g_law_pick : mg "_law_pick" = some (.ref A.law_pick)
  F_law_pick : Fun K "_law_pick" "_law_pick" s_law_pick A.law_pick D.law_pick
  b_law_pick : Binds K D.law_pick ["dice", "items"] []
  g_law_mixed : mg "_law_mixed" = some (.ref A.law_mixed)
  F_law_mixed : Fun K "_law_mixed" "_law_mixed" s_law_mixed A.law_mixed D.law_mixed
  b_law_mixed : Binds K D.law_mixed ["dice", "items"] []
  g_law_circle_drawn : mg "_law_circle_drawn" = some (.ref A.law_circle_drawn)
  F_law_circle_drawn : Fun K "_law_circle_drawn" "_law_circle_drawn" s_law_circle_drawn A.law_circle_drawn D.law_circle_drawn
  b_law_circle_drawn : Binds K D.law_circle_drawn ["dice", "most"] []
  g_law_ro_is_half : mg "_law_ro_is_half" = some (.ref A.law_ro_is_half)
  F_law_ro_is_half : Fun K "_law_ro_is_half" "_law_ro_is_half" s_law_ro_is_half A.law_ro_is_half D.law_ro_is_half
  b_law_ro_is_half : Binds K D.law_ro_is_half ["circle", "many"] []
  g_law_ro_chosen : mg "_law_ro_chosen" = some (.ref A.law_ro_chosen)
  F_law_ro_chosen : Fun K "_law_ro_chosen" "_law_ro_chosen" s_law_ro_chosen A.law_ro_chosen D.law_ro_chosen
  b_law_ro_chosen : Binds K D.law_ro_chosen ["circle", "laid"] []
  g_law_length_drawn : mg "_law_length_drawn" = some (.ref A.law_length_drawn)
  F_law_length_drawn : Fun K "_law_length_drawn" "_law_length_drawn" s_law_length_drawn A.law_length_drawn D.law_length_drawn
  b_law_length_drawn : Binds K D.law_length_drawn ["dice"] []
  g_law_right : mg "_law_right" = some (.ref A.law_right)
  F_law_right : Fun K "_law_right" "_law_right" s_law_right A.law_right D.law_right
  b_law_right : Binds K D.law_right ["dice"] []
  g_law : mg "law" = some (.ref A.law)
  F_law : Fun K "law" "law" s_law A.law D.law
  b_law : Binds K D.law ["script"] []
  c_MAX_HOUSES : ∃ t, mg "MAX_HOUSES" = some (.int (9) t)
  c_MAX_CIRCLE : ∃ t, mg "MAX_CIRCLE" = some (.int (7) t)
  c_MAX_NUMBER : ∃ t, mg "MAX_NUMBER" = some (.int (999999999999999999999999999999999999999999999999999999999999) t)
  b_abs : mg "abs" = none
  b_all : mg "all" = none
  b_bool : mg "bool" = none
  b_dict : mg "dict" = none
  b_enumerate : mg "enumerate" = none
  b_int : mg "int" = none
  b_isinstance : mg "isinstance" = none
  b_len : mg "len" = none
  b_list : mg "list" = none
  b_max : mg "max" = none
  b_min : mg "min" = none
  b_range : mg "range" = none
  b_set : mg "set" = none
  b_sorted : mg "sorted" = none
  b_tuple : mg "tuple" = none
  b_zip : mg "zip" = none
/-! ### values as data -/
inductive D where
  | non | bl (b : Bool) | int (i : Int) | str (s : Str) | tup (ds : List D) | oth
mutual
inductive Rp (K : PySem.W.Frag) (H : Hp) : V → D → Prop where
  | non : Rp K H .non .non
  | bl (b : Bool) : Rp K H (.bl b) (.bl b)
  | int (i : Int) : Rp K H (.int i) (.int i)
  | str (s : Str) : Rp K H (.str s) (.str s)
  | tup {a : Addr} {xs : List V} {ds : List D} : SqT K H a xs → RpAll K H xs ds → Rp K H (.ref a) (.tup ds)
  | lst {a : Addr} {xs : List V} : H a = some (.lst xs) → Rp K H (.ref a) .oth
  | dct {a : Addr} {kvs : List (Key × V)} : H a = some (.dK kvs) → Rp K H (.ref a) .oth
inductive RpAll (K : PySem.W.Frag) (H : Hp) : List V → List D → Prop where
  | nil : RpAll K H [] []
  | cons {v : V} {vs : List V} {d : D} {ds : List D} : Rp K H v d → RpAll K H vs ds → RpAll K H (v :: vs) (d :: ds)
end
section
variable {K : PySem.W.Frag} {H H' : Hp}
mutual
theorem Rp.ex {v : V} {d : D} (e : Ex H H') : Rp K H v d → Rp K H' v d
  | .non => .non
  | .bl b => .bl b
  | .int i => .int i
  | .str s => .str s
  | .tup h r => .tup (ex_t e h) (RpAll.ex e r)
  | .lst h => .lst (e _ _ h)
  | .dct h => .dct (e _ _ h)
theorem RpAll.ex {vs : List V} {ds : List D} (e : Ex H H') : RpAll K H vs ds → RpAll K H' vs ds
  | .nil => .nil
  | .cons h r => .cons (Rp.ex e h) (RpAll.ex e r)
end
theorem RpAll.len {vs : List V} {ds : List D} : RpAll K H vs ds → vs.length = ds.length
  | .nil => rfl
  | .cons _ r => by rw [List.length_cons, List.length_cons, RpAll.len r]
theorem RpAll.inv {v : V} {vs : List V} {ds : List D} (h : RpAll K H (v :: vs) ds) : ∃ d es, ds = d :: es ∧ Rp K H v d ∧ RpAll K H vs es := by
  cases h with
  | cons h r => exact ⟨_, _, rfl, h, r⟩
theorem RpAll.get : ∀ (vs : List V) (ds : List D) (i : Nat) (v : V), RpAll K H vs ds → vs[i]? = some v → ∃ d, ds[i]? = some d ∧ Rp K H v d
  | [], _, _, _, _, h => by simp at h
  | u :: us, ds, 0, v, h, e => by
    have e' := Option.some.inj e
    subst e'
    obtain ⟨d, es, rfl, h1, _⟩ := h.inv
    exact ⟨d, rfl, h1⟩
  | u :: us, ds, i + 1, v, h, e => by
    obtain ⟨d, es, rfl, _, h2⟩ := h.inv
    obtain ⟨c, h3, h4⟩ := RpAll.get us es i v h2 (by simpa using e)
    exact ⟨c, by simpa using h3, h4⟩
theorem RpAll.app {vs ws : List V} {ds es : List D} : RpAll K H vs ds → RpAll K H ws es → RpAll K H (vs ++ ws) (ds ++ es)
  | .nil, s => s
  | .cons h r, s => .cons h (RpAll.app r s)
/-! ### kinds -/
def D.isInt : D → Bool
  | .int _ => true | .bl _ => true | _ => false
def D.isBl : D → Bool
  | .bl _ => true | _ => false
def D.isStr : D → Bool
  | .str _ => true | _ => false
def D.isTup : D → Bool
  | .tup _ => true | _ => false
theorem ty_tup {a : Addr} {xs : List V} (h : SqT K H a xs) : TyX K H (.ref a) (.type "tuple") := by
  rcases h with (h | ⟨o, h⟩) | ⟨o, its, n, lk, c, _⟩
  · exact .base (.tup h)
  · exact .fTuple h
  · exact .kTuple lk c
theorem rc_isi {n : String} {f : D → Bool} (hn : kitB "NoneType" n = some (f .non)) (hb : ∀ b, kitB "bool" n = some (f (.bl b))) (hi : ∀ i, kitB "int" n = some (f (.int i))) (hs : ∀ s, kitB "str" n = some (f (.str s)))
    (ht : ∀ ds, kitB "tuple" n = some (f (.tup ds))) (hl : kitB "list" n = some (f .oth)) (hd : kitB "dict" n = some (f .oth)) {x : V} {d : D} (h : Rp K H x d) : RC (rIsi K) [x, .ty n] H (.bl (f d)) := fun H1 e Q q => by
  have h1 := Rp.ex e h
  cases h1 with
  | non => exact ⟨_, _, _, _, _, rfl, .ty _, .base .non, kit_ty hn, q H1 (Ex.refl _)⟩
  | bl b => exact ⟨_, _, _, _, _, rfl, .ty _, .base (.bl _), kit_ty (hb b), q H1 (Ex.refl _)⟩
  | int i => exact ⟨_, _, _, _, _, rfl, .ty _, .base (.int _), kit_ty (hi i), q H1 (Ex.refl _)⟩
  | str s => exact ⟨_, _, _, _, _, rfl, .ty _, .base (.str _), kit_ty (hs s), q H1 (Ex.refl _)⟩
  | tup h2 _ => exact ⟨_, _, _, _, _, rfl, .ty _, ty_tup h2, kit_ty (ht _), q H1 (Ex.refl _)⟩
  | lst h2 => exact ⟨_, _, _, _, _, rfl, .ty _, .base (.lst h2), kit_ty hl, q H1 (Ex.refl _)⟩
  | dct h2 => exact ⟨_, _, _, _, _, rfl, .ty _, .base (.dK h2), kit_ty hd, q H1 (Ex.refl _)⟩
theorem rc_int {x : V} {d : D} (h : Rp K H x d) : RC (rIsi K) [x, .ty "int"] H (.bl d.isInt) :=
  rc_isi (f := D.isInt) (show kitB "NoneType" "int" = some false by decide +kernel) (fun _ => show kitB "bool" "int" = some true by decide +kernel) (fun _ => show kitB "int" "int" = some true by decide +kernel) (fun _ => show kitB "str" "int" = some false by decide +kernel)
    (fun _ => show kitB "tuple" "int" = some false by decide +kernel) (show kitB "list" "int" = some false by decide +kernel) (show kitB "dict" "int" = some false by decide +kernel) h
theorem rc_bool {x : V} {d : D} (h : Rp K H x d) : RC (rIsi K) [x, .ty "bool"] H (.bl d.isBl) :=
  rc_isi (f := D.isBl) (show kitB "NoneType" "bool" = some false by decide +kernel) (fun _ => show kitB "bool" "bool" = some true by decide +kernel) (fun _ => show kitB "int" "bool" = some false by decide +kernel) (fun _ => show kitB "str" "bool" = some false by decide +kernel)
    (fun _ => show kitB "tuple" "bool" = some false by decide +kernel) (show kitB "list" "bool" = some false by decide +kernel) (show kitB "dict" "bool" = some false by decide +kernel) h
theorem rc_str {x : V} {d : D} (h : Rp K H x d) : RC (rIsi K) [x, .ty "str"] H (.bl d.isStr) :=
  rc_isi (f := D.isStr) (show kitB "NoneType" "str" = some false by decide +kernel) (fun _ => show kitB "bool" "str" = some false by decide +kernel) (fun _ => show kitB "int" "str" = some false by decide +kernel) (fun _ => show kitB "str" "str" = some true by decide +kernel)
    (fun _ => show kitB "tuple" "str" = some false by decide +kernel) (show kitB "list" "str" = some false by decide +kernel) (show kitB "dict" "str" = some false by decide +kernel) h
theorem rc_tup {x : V} {d : D} (h : Rp K H x d) : RC (rIsi K) [x, .ty "tuple"] H (.bl d.isTup) :=
  rc_isi (f := D.isTup) (show kitB "NoneType" "tuple" = some false by decide +kernel) (fun _ => show kitB "bool" "tuple" = some false by decide +kernel) (fun _ => show kitB "int" "tuple" = some false by decide +kernel) (fun _ => show kitB "str" "tuple" = some false by decide +kernel)
    (fun _ => show kitB "tuple" "tuple" = some true by decide +kernel) (show kitB "list" "tuple" = some false by decide +kernel) (show kitB "dict" "tuple" = some false by decide +kernel) h
theorem Rp.isI {x : V} {d : D} (h : Rp K H x d) (h1 : d.isInt = true) (h2 : d.isBl = false) : ∃ i, d = .int i ∧ x = .int i := by
  cases h <;> first | exact ⟨_, rfl, rfl⟩ | (simp [D.isInt] at h1; done) | (simp [D.isBl] at h2; done)
theorem Rp.isS {x : V} {d : D} (h : Rp K H x d) (h1 : d.isStr = true) : ∃ s, d = .str s ∧ x = .str s := by
  cases h <;> first | exact ⟨_, rfl, rfl⟩ | cases h1
theorem Rp.isT {x : V} {d : D} (h : Rp K H x d) (h1 : d.isTup = true) : ∃ a xs ds, d = .tup ds ∧ x = .ref a ∧ SqT K H a xs ∧ RpAll K H xs ds := by
  cases h <;> first | exact ⟨_, _, _, rfl, rfl, by assumption, by assumption⟩ | cases h1
end
/-! ### the promises of pure judges -/
def sp1 (f : D → Bool) (K : PySem.W.Frag) : Sp := fun vs H Q _ => ∃ x d, vs = [x] ∧ Rp K H x d ∧ RetV (.bl (f d)) H Q
theorem sp1_len {f : D → Bool} {K : PySem.W.Frag} {vs : List V} {H : Hp} {Q : VK} {E : XK} (h : sp1 f K vs H Q E) : vs.length = 1 := by
  obtain ⟨x, d, rfl, _⟩ := h
  rfl
theorem sv1 {f : D → Bool} {K : PySem.W.Frag} {H : Hp} {x : V} {d : D} (h : Rp K H x d) : SpV (sp1 f K) [x] H (.bl (f d)) := fun H1 e Q q E => ⟨x, d, rfl, h.ex e, q⟩
abbrev big : Int := 10 ^ 60 - 1
def numB (i : Int) : Bool := decide (-big ≤ i) && decide (i ≤ big)
def D.num : D → Bool
  | .int i => numB i | _ => false
section
variable {P : Program} {w : World} {K : PySem.W.Frag} {mg : Str → Option Value} {base : Heap} {A : Ad} {D : Fd}
abbrev sp_is_number (K : PySem.W.Frag) : Sp := sp1 K0.D.num K
theorem len_is_number {vs : List V} {H : Hp} {Q : VK} {E : XK} (h : sp_is_number K vs H Q E) : vs.length = 1 := sp1_len h
/-- a chain a <= b <= c of ints -/
theorem ev_chain_le {σ : L2.St} {H : Hp} {ta tb tc : TE} {i j k : Int} (ha : Ev ta σ H (.int i)) (hb : Ev tb σ H (.int j)) (hc : Ev tc σ H (.int k)) :
    Ev (tChain (rI0 fun i j => .bl (decide (i ≤ j))) (rI0 fun i j => .bl (decide (i ≤ j))) ta tb tc) σ H (.bl (decide (i ≤ j) && decide (j ≤ k))) := fun H1 e Q q =>
  ha H1 e _ fun H2 e2 => hb H2 (e.trans e2) _ fun H3 e3 => ⟨i, j, rfl, rfl, _, rfl, by
    by_cases c : i ≤ j
    · rw [if_pos (decide_eq_true c)]
      refine hc H3 ((e.trans e2).trans e3) _ fun H4 e4 => ⟨j, k, rfl, rfl, ?_⟩
      have := q H4 ((e2.trans e3).trans e4)
      rw [decide_eq_true c, Bool.true_and] at this
      exact this
    · rw [if_neg (by rw [decide_eq_false c]; decide)]
      have := q H3 (e2.trans e3)
      rw [decide_eq_false c, Bool.false_and] at this
      exact this⟩
theorem ok_is_number (T : Txt K mg A D) : FnOk P w K mg base CX0 1 A.is_number D.is_number ["value"] (sp_is_number K) := by
  obtain ⟨t_MAX_NUMBER, c_MAX_NUMBER⟩ := T.c_MAX_NUMBER
  refine T.F_is_number.ok sc_is_number (fun vs H Q E h => len_is_number h) (fun cdv A0 outer s H vs Q E hr h => ?_)
  refine ⟨_, (pss_cons (ps_if (PW.pt (pw_or (pt_not (pt_val (pe_callB call_isi (by rfl) T.b_isinstance (by decide +kernel) (pa_cons (pv 0) (pa_cons (pe_bltn (v := .ty "int") (u := .type "int") (by rfl) T.b_int (by decide +kernel) rfl) pa_nil))))) (pw_or1 (pt_val (pe_callB call_isi (by rfl) T.b_isinstance (by decide +kernel) (pa_cons (pv 0) (pa_cons (pe_bltn (v := .ty "bool") (u := .type "bool") (by rfl) T.b_bool (by decide +kernel) rfl) pa_nil))))))) (pss_one (ps_ret pe_bl)) pss_nil)
  (pss_one (ps_ret (pe_chain op_le op_le (pe_un un_neg (pe_glob (v := .int (999999999999999999999999999999999999999999999999999999999999)) rfl c_MAX_NUMBER ⟨_, rfl⟩)) (pv 0) (pe_glob (v := .int (999999999999999999999999999999999999999999999999999999999999)) rfl c_MAX_NUMBER ⟨_, rfl⟩))))), ?_⟩
  obtain ⟨x, d, rfl, hx, k⟩ := h
  refine q_when (et_or (et_not (et_B (ev_cb (ea_cons (ev_var rfl) (ea_cons ev_c ea_nil)) (rc_int hx)))) fun _ => et_B (ev_cb (ea_cons (ev_var rfl) (ea_cons ev_c ea_nil)) (rc_bool hx))) (fun hb H1 e1 => ?_) (fun hb H1 e1 => ?_)
  · refine s_ret ev_c fun H2 e2 => ?_
    have hf : K0.D.num d = false := by cases d <;> first | rfl | simp [K0.D.isInt, K0.D.isBl] at hb
    have := k H2 (e1.trans e2)
    rw [hf] at this
    exact this
  · have h1 : K0.D.isInt d = true := by cases z : K0.D.isInt d <;> rw [z] at hb <;> simp at hb <;> rfl
    have h2 : K0.D.isBl d = false := by cases z : K0.D.isBl d <;> rw [z] at hb <;> simp at hb <;> rfl
    obtain ⟨i, rfl, rfl⟩ := hx.isI h1 h2
    refine s_ret (ev_chain_le (i := -big) (j := i) (k := big) (ev_un ev_c ru_neg) (ev_var rfl) ev_c) fun H2 e2 => ?_
    exact k H2 (e1.trans e2)
end
end K0

namespace K0
open PySem L2 Evl
open PySem.Builtin.Str (strSub)
/-! ### texts -/
theorem takeWhile_le {α : Type} (p : α → Bool) : ∀ l : List α, (l.takeWhile p).length ≤ l.length
  | [] => Nat.le_refl _
  | a :: l => by
    rw [List.takeWhile_cons]
    split
    · simp only [List.length_cons]
      have := takeWhile_le p l
      omega
    · simp
theorem takeWhile_all {α : Type} (p : α → Bool) : ∀ l : List α, (l.takeWhile p).length = l.length → l.all p = true
  | [], _ => rfl
  | a :: l, h => by
    rw [List.takeWhile_cons] at h
    split at h
    · rename_i ha
      simp only [List.length_cons] at h
      rw [List.all_cons, ha, takeWhile_all p l (by omega)]
      rfl
    · simp at h
theorem all_takeWhile {α : Type} (p : α → Bool) : ∀ l : List α, l.all p = true → l.takeWhile p = l
  | [], _ => rfl
  | a :: l, h => by
    rw [List.all_cons, Bool.and_eq_true] at h
    rw [List.takeWhile_cons, if_pos h.1, all_takeWhile p l h.2]
theorem drop_takeWhile {α : Type} (p : α → Bool) : ∀ l : List α, (l.drop (l.takeWhile p).length).all p = true → l.all p = true
  | [], _ => rfl
  | a :: l, h => by
    rw [List.takeWhile_cons] at h
    split at h
    · rename_i ha
      rw [List.all_cons, ha, drop_takeWhile p l (by simpa using h)]
      rfl
    · simpa using h
theorem str_nil {x : Str} : x = ("" : Str) ↔ x.cps.toList.length = 0 := by
  constructor
  · intro h
    subst h
    decide +kernel
  · intro h
    obtain ⟨⟨l⟩⟩ := x
    cases l with
    | nil => decide +kernel
    | cons a l => simp at h
theorem strip_all (x y : Str) : decide (V.str (Txt.stripChars x y) = V.str "") = x.cps.toList.all y.cps.contains := by
  have key : (Txt.stripChars x y = ("" : Str)) ↔ x.cps.toList.all y.cps.contains = true := by
    unfold Txt.stripChars
    rw [PySem.W.stripBy_eq]
    show strSub x (stripLo y.cps.contains true x) (stripHi y.cps.contains true x (stripLo y.cps.contains true x)) = ("" : Str) ↔ _
    rw [str_nil]
    have e1 : stripLo y.cps.contains true x = (x.cps.toList.takeWhile y.cps.contains).length := rfl
    have e2 : stripHi y.cps.contains true x (stripLo y.cps.contains true x) = x.cps.toList.length - ((x.cps.toList.drop (stripLo y.cps.contains true x)).reverse.takeWhile y.cps.contains).length := by
      show x.cps.size - _ = _
      rw [Array.length_toList] <;> rfl
    have e3 : (strSub x (stripLo y.cps.contains true x) (stripHi y.cps.contains true x (stripLo y.cps.contains true x))).cps.toList.length = min (stripHi y.cps.contains true x (stripLo y.cps.contains true x)) x.cps.toList.length - stripLo y.cps.contains true x := by
      show (x.cps.extract _ _).toList.length = _
      rw [Array.length_toList, Array.size_extract, Array.length_toList]
    rw [e3, e2, e1]
    generalize x.cps.toList = l
    generalize y.cps.contains = p
    have h1 := takeWhile_le p l
    have h2 := takeWhile_le p (l.drop (l.takeWhile p).length).reverse
    rw [List.length_reverse, List.length_drop] at h2
    constructor
    · intro h
      have h3 : ((l.drop (l.takeWhile p).length).reverse.takeWhile p).length = (l.drop (l.takeWhile p).length).reverse.length := by
        rw [List.length_reverse, List.length_drop]
        omega
      have h4 := takeWhile_all p _ h3
      rw [List.all_reverse] at h4
      exact drop_takeWhile p l h4
    · intro h
      have h3 := all_takeWhile p l h
      rw [h3, List.drop_length]
      simp
  by_cases c : x.cps.toList.all y.cps.contains = true
  · rw [c]
    exact decide_eq_true (congrArg V.str (key.mpr c))
  · rw [Bool.not_eq_true] at c
    rw [c]
    refine decide_eq_false fun q => ?_
    have := key.mp (V.str.inj q)
    rw [c] at this
    cases this
/-! ### more of what evaluates to what -/
section
variable {K : PySem.W.Frag} {σ : L2.St} {H H' : Hp} {ta tb te tx : TE} {t u : TT} {x y z v : V}
/-- a tuple with these items, new or not -/
def EvW (K : PySem.W.Frag) (te : TE) (σ : L2.St) (H : Hp) (xs : List V) : Prop := ∀ H1, Ex H H1 → ∀ Q : VK, (∀ p H2, Ex H1 H2 → SqT K H2 p xs → Q (.ref p) H2) → te σ H1 Q
theorem ew_sl {tl th : TO} {a : Addr} {xs : List V} {lo hi : Option Int} (h : Ev te σ H (.ref a)) (h1 : EvO tl σ H lo) (h2 : EvO th σ H hi) (hs : SqT K H a xs) : EvW K (tSl (rSlA K) te tl th) σ H (cutV xs lo hi) := fun H1 e Q q =>
  h H1 e _ fun H2 e2 => h1 H2 (e.trans e2) _ fun H3 e3 => h2 H3 ((e.trans e2).trans e3) _ fun H4 e4 => by
    have hx := ex_t (((e.trans e2).trans e3).trans e4) hs
    refine ⟨a, xs, rfl, hx, fun hw => ?_, fun _ p hp => ?_⟩
    · refine q a H4 ((e2.trans e3).trans e4) ?_
      have : cutV xs lo hi = xs := by
        unfold cutV
        rw [hw.1, hw.2]
        simp
      rw [this]
      exact hx
    · exact q p _ (((e2.trans e3).trans e4).trans (Ex.new hp)) (st_of upd_same)
/-- comprehensions over a tuple, over zip of two tuples -/
theorem el_lcT {a : Addr} {xs : List V} {tl : TE} {j : Nat} {vs : List Nat} (f : Nat → Bool) (v : Nat → V) (h : Ev tl σ H (.ref a)) (hx : SqT K H a xs) (hz : xs.length ≤ 40000) (hw : ∀ x, wipe ((wipe σ vs).set j (some x)) vs = wipe σ vs)
    (ht : ∀ (i : Nat) (x : V) H1, Ex H H1 → xs[i]? = some x → EvT t ((wipe σ vs).set j (some x)) H1 (f i)) (he : ∀ (i : Nat) (x : V) H1, Ex H H1 → xs[i]? = some x → f i = true → Ev te ((wipe σ vs).set j (some x)) H1 (v i)) :
    EvL (tLc (iTup K tl) (gName j) t te vs) σ H (given xs.length f v) := fun H0 e Q q => h H0 e _ fun H1 e1 => ⟨a, rfl, ⟨xs, ex_t (e.trans e1) hx⟩, fun Dl hD =>
  lc_tup (xs := xs) (Cw H1 f v Dl) ⟨hD, Ex.new hD, upd_same⟩ (fun i H' _ p => ex_t ((e.trans e1).trans p.2.1) hx)
    (fun i x H' hi p => ⟨hw x, cw_turn p (by have := (List.getElem?_eq_some_iff.mp hi).1; omega) (ht i x H1 (e.trans e1) hi) (fun hf => he i x H1 (e.trans e1) hi hf)⟩)
    (fun H' p => q Dl H' (fresh_back e1 p.1) (e1.trans p.2.1) p.2.2)⟩
theorem walk_zipT {a b : Addr} {xs ys : List V} {n : Nat} (hn : n = min xs.length ys.length) : Walk (RZ.ItzT K a b) n (fun H => SqT K H a xs ∧ SqT K H b ys) (YPair (fun i => xs[i]?) (fun i => ys[i]?)) := by
  subst hn
  refine ⟨fun i _ hi g => ?_, fun _ g => ⟨xs, ys, g.1, g.2, by omega⟩, fun i H v H' _ g yy => ?_⟩
  · have l1 : i < xs.length := by omega
    have l2 : i < ys.length := by omega
    exact ⟨xs, ys, xs[i], ys[i], g.1, g.2, List.getElem?_eq_getElem l1, List.getElem?_eq_getElem l2⟩
  · obtain ⟨T, x, z, e1, e2, e3, e4, e5⟩ := yy
    exact ⟨T, x, z, e1, e2, e3, e4 xs g.1, e5 ys g.2⟩
theorem given_map {n : Nat} {f : Nat → Bool} {v : Nat → V} (hf : ∀ i, f i = true) : given n f v = (List.range n).map v := by
  unfold given
  rw [List.filter_eq_self.mpr (fun a _ => hf a)]
theorem rc_all {a : Addr} {bs : List Bool} (h : SqL K H a (bs.map V.bl)) : RC (rAll K) [.ref a] H (.bl (bs.all id)) := fun H1 e Q q => ⟨a, bs, rfl, ex_l e h, q H1 (Ex.refl _)⟩
/-- all([..]) of a new list of truths -/
theorem ev_all {bs : List Bool} (h : EvL te σ H (bs.map V.bl)) : Ev (tCB (rAll K) (tCons te tNil)) σ H (.bl (bs.all id)) := fun H1 e Q q =>
  h H1 e _ fun p H2 _ e2 h2 => ⟨p, bs, rfl, sq_of h2, q H2 e2⟩
theorem et_yes : EvT tYes σ H true := fun H1 _ _ q => q H1 (Ex.refl _)
end
end K0

namespace K0
open PySem L2 Evl
section
variable {K : PySem.W.Frag} {σ : L2.St} {H H' : Hp} {ta tb te tx : TE} {t u : TT} {x y z v : V}
theorem ev_chain_of {σ : L2.St} {H : Hp} {ta tb tc : TE} {r r' : R2} {x y z : V} {a b : Bool} (ha : Ev ta σ H x) (hb : Ev tb σ H y) (hr : RV r x y H (.bl a)) (hc : Ev tc σ H z) (hr' : RV r' y z H (.bl b)) :
    Ev (tChain r r' ta tb tc) σ H (.bl (a && b)) := fun H1 e Q q =>
  ha H1 e _ fun H2 e2 => hb H2 (e.trans e2) _ fun H3 e3 => hr H3 ((e.trans e2).trans e3) _ fun H4 e4 => ⟨a, rfl, by
    cases a with
    | true => exact hc H4 (((e.trans e2).trans e3).trans e4) _ fun H5 e5 => hr' H5 ((((e.trans e2).trans e3).trans e4).trans e5) Q fun H6 e6 => q H6 ((((e2.trans e3).trans e4).trans e5).trans e6)
    | false => exact q H4 ((e2.trans e3).trans e4)⟩
theorem ev_one (h : Ev te σ H v) : Ev te σ H v := h
theorem rc_lenT {a : Addr} {xs : List V} (h : SqT K H a xs) : RC (fun xs H Q => ∃ x n, xs = [x] ∧ LenV K x H n ∧ Q (.int n) H) [.ref a] H (.int (xs.length : Nat)) := fun H1 e Q q =>
  ⟨_, xs.length, rfl, Or.inr ⟨xs, ex_t e h, rfl⟩, q H1 (Ex.refl _)⟩
theorem rc_lenL {a : Addr} {xs : List V} (h : SqL K H a xs) : RC (fun xs H Q => ∃ x n, xs = [x] ∧ LenV K x H n ∧ Q (.int n) H) [.ref a] H (.int (xs.length : Nat)) := fun H1 e Q q =>
  ⟨_, xs.length, rfl, Or.inl ⟨xs, ex_l e h, rfl⟩, q H1 (Ex.refl _)⟩
theorem rc_lenS {s : Str} (h : s.length ≤ sizeLine) : RC (fun xs H Q => ∃ x n, xs = [x] ∧ LenV K x H n ∧ Q (.int n) H) [.str s] H (.int (s.length : Nat)) := fun H1 e Q q =>
  ⟨_, s.length, rfl, ⟨h, rfl⟩, q H1 (Ex.refl _)⟩
/-- a comprehension over zip of two tuples, no test -/
theorem el_lcZ {a : Addr} {xs ys : List V} {t1 t2 : TE} {g : TG} {vs : List Nat} {n : Nat} (v : Nat → V) (h1 : Ev t1 σ H (.ref a)) (hx : SqT K H a xs) (h2 : EvW K t2 σ H ys) (hn : n = min xs.length ys.length) (hz : n ≤ 40000)
    (hg : ∀ i x y T H', xs[i]? = some x → ys[i]? = some y → H' T = some (.tup [x, y]) → ∃ σ2, (∀ k : L2.St → Hp → Prop, k σ2 H' → g (.ref T) (wipe σ vs) H' k) ∧ wipe σ2 vs = wipe σ vs ∧ Ev te σ2 H (v i)) :
    EvL (tLc (RZ.iZipA K (tCons t1 (tCons t2 tNil))) g tYes te vs) σ H ((List.range n).map v) := fun H0 e Q q =>
  h1 H0 e _ fun H1 e1 => h2 H1 (e.trans e1) _ fun b H2 e2 hy => ⟨a, b, xs, ys, rfl, Or.inr ⟨ex_t ((e.trans e1).trans e2) hx, hy, fun Dl hD => by
    have e02 := (e.trans e1).trans e2
    refine lc_it (walk_zipT hn) (Cw H2 (fun _ => true) v Dl) ⟨hD, Ex.new hD, upd_same⟩ (fun i H' _ p => ⟨ex_t p.2.1 (ex_t e02 hx), ex_t p.2.1 hy⟩) (fun i w H' H'' hi p yp => ?_) (fun H' p => ?_)
    · obtain ⟨T, x, y, rfl, hT, rfl, ex, ey⟩ := yp
      obtain ⟨σ2, k1, k2, k3⟩ := hg i x y T (upd H' T (.tup [x, y])) ex ey upd_same
      have hne : Dl ≠ T := ne_of_none p.2.2 hT
      have p' : Cw H2 (fun _ => true) v Dl i (upd H' T (.tup [x, y])) := ⟨p.1, p.2.1.trans (Ex.new hT), by rw [upd_ne hne]; exact p.2.2⟩
      exact k1 _ ⟨k2, cw_turn p' (by omega) et_yes (fun _ => k3.mono e02)⟩
    · have := p.2.2
      rw [given_map (fun _ => rfl)] at this
      exact q Dl H' (fresh_back (e1.trans e2) p.1) ((e1.trans e2).trans p.2.1) this⟩⟩
theorem rv_le {i j : Int} : RV (rI0 fun i j => .bl (decide (i ≤ j))) (.int i) (.int j) H (.bl (decide (i ≤ j))) := rv_I0
theorem rv_lt {i j : Int} : RV (rI0 fun i j => .bl (decide (i < j))) (.int i) (.int j) H (.bl (decide (i < j))) := rv_I0
theorem rv_isN : RV (fun x y H Q => y = .non ∧ Q (.bl (decide (x = .non))) H) x .non H (.bl (decide (x = .non))) := fun H1 _ _ q => ⟨rfl, q H1 (Ex.refl _)⟩
theorem rc_strip {a b : Str} (h : a.length ≤ sizeLine) : ∀ H1, Ex H H1 → ∀ Q : VK, (∀ H2, Ex H1 H2 → Q (.str (Txt.stripChars a b)) H2) → (fun (x : V) (xs : List V) (H : Hp) (Q : VK) => ∃ a b, x = .str a ∧ xs = [.str b] ∧ a.length ≤ sizeLine ∧ Q (.str (Txt.stripChars a b)) H) (.str a) [.str b] H1 Q :=
  fun H1 _ _ q => ⟨a, b, rfl, rfl, h, q H1 (Ex.refl _)⟩
end
/-! ### the judges of stage 1 as functions of data -/
def D.within (lo hi : Int) : D → Bool
  | .int i => numB i && (decide (lo ≤ i) && decide (i ≤ hi)) | _ => false
def D.toInt : D → Int
  | .int i => i | _ => 0
def ascB : List Int → Bool
  | a :: b :: r => decide (a < b) && ascB (b :: r)
  | _ => true
def D.indices (m : Int) : D → Bool
  | .tup ds => ds.all (D.within 0 (m - 1)) && ascB (ds.map D.toInt) | _ => false
def D.circle : D → Bool
  | .tup ds => D.indices 9 (.tup ds) && (decide (1 ≤ ds.length) && decide (ds.length ≤ 7)) | _ => false
def D.word (signs : Str) (most : Int) : D → Bool
  | .str s => decide ((s.length : Int) ≤ most) && s.cps.toList.all signs.cps.contains | _ => false
def D.nonEmpty : D → Bool
  | .str s => decide (0 < s.length) | _ => false
abbrev letters : Str := "abcdefghijklmnopqrstuvwxyz"
abbrev signs37 : Str := "abcdefghijklmnopqrstuvwxyz0123456789 "
def D.key (d : D) : Bool := d.word letters 8 && d.nonEmpty
def D.short (d : D) : Bool := d.within (-(999999999999)) 999999999999
def D.value (d : D) : Bool := d.short || d.word signs37 12
def D.single : D → Bool
  | .non => true
  | .int i => numB i
  | .str s => D.word signs37 3000 (.str s)
  | _ => false
/-- plain, at most n deep -/
def D.plain : Nat → D → Bool
  | 0, d => d.single
  | n + 1, .tup ds => ds.all (D.plain n)
  | _ + 1, d => d.single
def D.small : D → Prop
  | .tup ds => ds.length ≤ 40000 | _ => True
theorem all_getD (ds : List D) (f : D → Bool) : ((List.range ds.length).all fun i => f (ds.getD i .non)) = ds.all f := by
  induction ds with
  | nil => rfl
  | cons d ds ih =>
    rw [List.length_cons, List.range_succ_eq_map, List.all_cons, List.all_cons, List.all_map, ← ih]
    rfl
theorem ints_of {K : PySem.W.Frag} {H : Hp} {lo hi : Int} : ∀ (xs : List V) (ds : List D), RpAll K H xs ds → ds.all (D.within lo hi) = true → xs = (ds.map D.toInt).map V.int
  | _, _, .nil, _ => rfl
  | _, _, .cons (d := d) h r, e => by
    rw [List.all_cons, Bool.and_eq_true] at e
    rw [List.map_cons, List.map_cons, ← ints_of _ _ r e.2]
    cases h with
    | int i => rfl
    | _ => exact absurd e.1 (by simp [D.within])
section
variable {P : Program} {w : World} {K : PySem.W.Frag} {mg : Str → Option Value} {base : Heap} {A : Ad} {D : Fd}
def sp_is_within (K : PySem.W.Frag) : Sp := fun vs H Q _ => ∃ x d lo hi, vs = [x, .int lo, .int hi] ∧ Rp K H x d ∧ RetV (.bl (d.within lo hi)) H Q
theorem len_is_within {vs : List V} {H : Hp} {Q : VK} {E : XK} (h : sp_is_within K vs H Q E) : vs.length = 3 := by
  obtain ⟨x, d, lo, hi, rfl, _⟩ := h
  rfl
theorem sv_within {H : Hp} {x : V} {d : K0.D} {lo hi : Int} (h : Rp K H x d) : SpV (sp_is_within K) [x, .int lo, .int hi] H (.bl (d.within lo hi)) := fun H1 e Q q E => ⟨x, d, lo, hi, rfl, h.ex e, q⟩
theorem ok_is_within (T : Txt K mg A D) : FnOk P w K mg base CX0 2 A.is_within D.is_within ["value", "least", "most"] (sp_is_within K) := by
  have G_is_number : FnOk P w K mg base CX0 1 A.is_number D.is_number ["value"] (sp_is_number K) := ok_is_number T
  refine T.F_is_within.ok sc_is_within (fun vs H Q E h => len_is_within h) (fun cdv A0 outer s H vs Q E hr h => ?_)
  refine ⟨_, (pss_one (ps_ret (pe_and (pe_call G_is_number (hr.mono (by decide)) rfl T.g_is_number T.F_is_number.kp T.b_is_number .nil pass0 (pa_cons (pv 0) pa_nil)) (pe_one (pe_chain op_le op_le (pv 1) (pv 0) (pv 2)))))), ?_⟩
  obtain ⟨x, d, lo, hi, rfl, hx, k⟩ := h
  refine s_ret (ev_is (ev_andV (a := d.num) (b := d.within lo hi) (ev_call (ea_cons (ev_var rfl) ea_nil) (sv1 hx)) fun hb => ?_) ?_) fun H2 e2 => k H2 e2
  · cases hx with
    | int i =>
      have hb' : numB i = true := hb
      refine ev_is (ev_chain_le (i := lo) (j := i) (k := hi) (ev_var rfl) (ev_var rfl) (ev_var rfl)) ?_
      show V.bl (decide (lo ≤ i) && decide (i ≤ hi)) = V.bl (numB i && (decide (lo ≤ i) && decide (i ≤ hi)))
      rw [hb', Bool.true_and]
    | _ => cases hb
  · cases d with
    | int i =>
      show V.bl (numB i && (numB i && _)) = V.bl (numB i && _)
      cases numB i <;> rfl
    | _ => rfl
/-- row: a tuple of ints -/
def sp_are_ascending (K : PySem.W.Frag) : Sp := fun vs H Q _ => ∃ a ns, vs = [.ref a] ∧ SqT K H a (ns.map V.int) ∧ ns.length ≤ 40000 ∧ RetV (.bl (ascB ns)) H Q
theorem len_are_ascending {vs : List V} {H : Hp} {Q : VK} {E : XK} (h : sp_are_ascending K vs H Q E) : vs.length = 1 := by
  obtain ⟨a, ns, rfl, _⟩ := h
  rfl
theorem sv_asc {H : Hp} {a : Addr} {ns : List Int} (h : SqT K H a (ns.map V.int)) (hl : ns.length ≤ 40000) : SpV (sp_are_ascending K) [.ref a] H (.bl (ascB ns)) := fun H1 e Q q E => ⟨a, ns, rfl, ex_t e h, hl, q⟩
theorem cut1 (xs : List V) : cutV xs (some 1) none = xs.drop 1 := by
  unfold cutV
  have h1 : HT.sIx xs.length 0 (some 1) = min 1 xs.length := HT.sIx_nat _ _ 1
  have h2 : HT.sIx xs.length xs.length none = xs.length := rfl
  rw [h1, h2]
  cases xs with
  | nil => rfl
  | cons x xs =>
    have : min 1 (x :: xs).length = 1 := by simp
    rw [this]
    exact List.take_of_length_le (by simp)
theorem asc_all : ∀ ns : List Int, ((List.range (ns.length - 1)).map fun i => decide (ns.getD i 0 < ns.getD (i + 1) 0)).all id = ascB ns
  | [] => rfl
  | [a] => rfl
  | a :: b :: r => by
    have ih := asc_all (b :: r)
    have e1 : (a :: b :: r).length - 1 = ((b :: r).length - 1) + 1 := by simp
    rw [e1, List.range_succ_eq_map, List.map_cons, List.all_cons, List.map_map]
    show (decide (a < b) && _) = (decide (a < b) && ascB (b :: r))
    rw [← ih]
    rfl
theorem ok_are_ascending (T : Txt K mg A D) : FnOk P w K mg base CX0 1 A.are_ascending D.are_ascending ["row"] (sp_are_ascending K) := by
  refine T.F_are_ascending.ok sc_are_ascending (fun vs H Q E h => len_are_ascending h) (fun cdv A0 outer s H vs Q E hr h => ?_)
  refine ⟨_, (pss_one (ps_ret (pe_callB (cr_all rfl) (by rfl) T.b_all (by decide +kernel) (pa_cons (pe_lc (own := [("one", 1), ("other", 2)]) (g := gTup K 2 (gCons (gName 1) (gCons (gName 2) gNil))) (tt := tYes) rfl sc_are_ascending.nd (RZ.pi_zipA (by rfl) T.b_zip (pa_cons (pv 0) (pa_cons (pe_slice sl_tupA (pv 0) (po_some pe_int) po_none) pa_nil))) (blkOk_by (own := [("one", 1), ("other", 2)]) (N := N_are_ascending) (sc := defScope s_are_ascending) (by decide +kernel)) (fun _ _ _ _ _ => by exact (pg_tup rfl (pgs_cons (pg_name (i := 1) sc_are_ascending.nd rfl (Or.inl rfl)) (pgs_cons (pg_name (i := 2) sc_are_ascending.nd rfl (Or.inl rfl)) pgs_nil)))) (fun _ _ _ _ _ => by exact pts_nil) (fun _ _ _ _ _ => by exact (pe_cmpR op_lt (pv 1) (pv 2) (nomark _)))) pa_nil)))), ?_⟩
  obtain ⟨a, ns, rfl, ha, hl, k⟩ := h
  refine s_ret (ev_is (ev_all (bs := (List.range (ns.length - 1)).map fun i => decide (ns.getD i 0 < ns.getD (i + 1) 0)) ?_) (congrArg V.bl (asc_all ns))) fun H2 e2 => k H2 e2
  rw [List.map_map]
  refine el_lcZ (ys := (ns.map V.int).drop 1) _ (ev_var rfl) ha ?_ (by rw [List.length_drop, List.length_map]; omega) (by omega) (fun i x y T H' hx hy hT => ?_)
  · have := ew_sl (K := K) (lo := some 1) (hi := none) (ev_var rfl : Ev (tVar 0) (start N_are_ascending [V.ref a]) H (.ref a)) (eo_some ev_c) eo_none ha
    rw [cut1] at this
    exact this
  · rw [List.getElem?_map] at hx
    rw [List.getElem?_drop, List.getElem?_map, Nat.add_comm] at hy
    obtain ⟨p, hp, rfl⟩ : ∃ p, ns[i]? = some p ∧ V.int p = x := by
      cases z : ns[i]? with
      | none => rw [z] at hx; cases hx
      | some p => rw [z] at hx; exact ⟨p, rfl, Option.some.inj hx⟩
    obtain ⟨r, hr', rfl⟩ : ∃ p, ns[i + 1]? = some p ∧ V.int p = y := by
      cases z : ns[i + 1]? with
      | none => rw [z] at hy; cases hy
      | some p => rw [z] at hy; exact ⟨p, rfl, Option.some.inj hy⟩
    refine ⟨[some (.ref a), some (.int p), some (.int r)], fun kk hk => ⟨T, _, rfl, st_of hT, rfl, _, _, rfl, _, _, rfl, rfl, hk⟩, rfl, ?_⟩
    refine ev_is (ev_op (ev_var rfl) (ev_var rfl) rv_I0) ?_
    show V.bl (decide (p < r)) = V.bl (decide (ns.getD i 0 < ns.getD (i + 1) 0))
    rw [List.getD_eq_getElem?_getD, List.getD_eq_getElem?_getD, hp, hr']
    rfl
def sp_are_indices (K : PySem.W.Frag) : Sp := fun vs H Q _ => ∃ x d m, vs = [x, .int m] ∧ Rp K H x d ∧ d.small ∧ RetV (.bl (d.indices m)) H Q
theorem len_are_indices {vs : List V} {H : Hp} {Q : VK} {E : XK} (h : sp_are_indices K vs H Q E) : vs.length = 2 := by
  obtain ⟨x, d, m, rfl, _⟩ := h
  rfl
theorem sv_indices {H : Hp} {x : V} {d : K0.D} {m : Int} (h : Rp K H x d) (hs : d.small) : SpV (sp_are_indices K) [x, .int m] H (.bl (d.indices m)) := fun H1 e Q q E => ⟨x, d, m, rfl, h.ex e, hs, q⟩
theorem ok_are_indices (T : Txt K mg A D) : FnOk P w K mg base CX0 3 A.are_indices D.are_indices ["value", "many"] (sp_are_indices K) := by
  have G_is_within : FnOk P w K mg base CX0 2 A.is_within D.is_within ["value", "least", "most"] (sp_is_within K) := ok_is_within T
  have G_are_ascending : FnOk P w K mg base CX0 1 A.are_ascending D.are_ascending ["row"] (sp_are_ascending K) := ok_are_ascending T
  refine T.F_are_indices.ok sc_are_indices (fun vs H Q E h => len_are_indices h) (fun cdv A0 outer s H vs Q E hr h => ?_)
  refine ⟨_, (pss_cons (ps_if (pt_not (pt_val (pe_callB call_isi (by rfl) T.b_isinstance (by decide +kernel) (pa_cons (pv 0) (pa_cons (pe_bltn (v := .ty "tuple") (u := .type "tuple") (by rfl) T.b_tuple (by decide +kernel) rfl) pa_nil))))) (pss_one (ps_ret pe_bl)) pss_nil)
  (pss_cons (ps_if (pt_not (pt_val (pe_callB (cr_all rfl) (by rfl) T.b_all (by decide +kernel) (pa_cons (pe_lc (own := [("index", 2)]) (g := gName 2) (tt := tYes) rfl sc_are_indices.nd (pi_tup (pv 0)) (blkOk_by (own := [("index", 2)]) (N := N_are_indices) (sc := defScope s_are_indices) (by decide +kernel)) (fun _ _ _ _ _ => by exact pg_name (i := 2) sc_are_indices.nd rfl (Or.inl rfl)) (fun _ _ _ _ _ => by exact pts_nil) (fun _ _ _ _ _ => by exact (pe_call G_is_within (hr.mono (by decide)) rfl T.g_is_within T.F_is_within.kp T.b_is_within .nil pass0 (pa_cons (pv 2) (pa_cons pe_int (pa_cons (pe_op op_sub (pv 1) pe_int) pa_nil)))))) pa_nil)))) (pss_one (ps_ret pe_bl)) pss_nil)
  (pss_one (ps_ret (pe_call G_are_ascending (hr.mono (by decide)) rfl T.g_are_ascending T.F_are_ascending.kp T.b_are_ascending .nil pass0 (pa_cons (pv 0) pa_nil)))))), ?_⟩
  obtain ⟨x, d, m, rfl, hx, hs, k⟩ := h
  refine q_when (et_not (et_B (ev_cb (ea_cons (ev_var rfl) (ea_cons ev_c ea_nil)) (rc_tup hx)))) (fun hb H1 e1 => ?_) (fun hb H1 e1 => ?_)
  · refine s_ret ev_c fun H2 e2 => ?_
    have hf : d.indices m = false := by cases d <;> first | rfl | (simp [K0.D.isTup] at hb; done)
    have := k H2 (e1.trans e2)
    rw [hf] at this
    exact this
  · have h1 : d.isTup = true := by cases z : d.isTup <;> rw [z] at hb <;> simp at hb <;> rfl
    obtain ⟨a, xs, ds, rfl, rfl, hq, hr1⟩ := hx.isT h1
    have hl := hr1.len
    have hq1 := ex_t e1 hq
    have hr2 := hr1.ex e1
    have hsz : ds.length ≤ 40000 := hs
    refine q_when (b := !(ds.all (K0.D.within 0 (m - 1)))) (et_not (et_B (ev_is (ev_all (bs := (List.range xs.length).map fun i => (ds.getD i .non).within 0 (m - 1)) ?_) ?_))) (fun hb H2 e2 => ?_) (fun hb H2 e2 => ?_)
    · rw [List.map_map, ← given_map (f := fun _ => true) (fun _ => rfl)]
      refine el_lcT (fun _ => true) _ (ev_var rfl) hq1 (by omega) (fun _ => rfl) (fun i y H3 e3 hy => et_yes) (fun i y H3 e3 hy _ => ?_)
      obtain ⟨d, hd, hrp⟩ := RpAll.get _ _ _ _ (hr2.ex e3) hy
      refine ev_is (ev_call (ea_cons (ev_var rfl) (ea_cons ev_c (ea_cons (ev_op (ev_var rfl) ev_c rv_I0) ea_nil))) (sv_within hrp)) ?_
      show V.bl (d.within 0 (m - 1)) = V.bl ((ds.getD i .non).within 0 (m - 1))
      rw [List.getD_eq_getElem?_getD, hd]
      rfl
    · rw [List.all_map, hl]
      congr 1
      exact all_getD ds _
    · refine s_ret ev_c fun H3 e3 => ?_
      have := k H3 ((e1.trans e2).trans e3)
      have hf : (K0.D.tup ds).indices m = false := by
        show (ds.all (K0.D.within 0 (m - 1)) && _) = false
        cases z : ds.all (K0.D.within 0 (m - 1)) with
        | true => rw [z] at hb; cases hb
        | false => rfl
      rw [hf] at this
      exact this
    · have hall : ds.all (K0.D.within 0 (m - 1)) = true := by
        cases z : ds.all (K0.D.within 0 (m - 1)) with
        | true => rfl
        | false => rw [z] at hb; cases hb
      have hints : xs = (ds.map K0.D.toInt).map V.int := ints_of _ _ hr1 hall
      have hq2 : SqT K H2 a ((ds.map K0.D.toInt).map V.int) := by rw [← hints]; exact ex_t (e1.trans e2) hq
      refine s_ret (ev_call (ea_cons (ev_var rfl) ea_nil) (sv_asc hq2 (by rw [List.length_map]; exact hsz))) fun H3 e3 => ?_
      have := k H3 ((e1.trans e2).trans e3)
      have hf : (K0.D.tup ds).indices m = ascB (ds.map K0.D.toInt) := by
        show (ds.all (K0.D.within 0 (m - 1)) && _) = _
        rw [hall, Bool.true_and]
      rw [hf] at this
      exact this
end
end K0

namespace K0
open PySem L2 Evl
section
variable {K : PySem.W.Frag} {σ : L2.St} {H H' : Hp} {ta tb te tx : TE} {t u : TT} {x y z v : V}
theorem et_truL {a : Addr} {xs : List V} (h : Ev te σ H (.ref a)) (hx : SqL K H a xs) : EvT (fun σ H Q => te σ H fun x H' => ∃ k, TruV K x H' k ∧ Q k H') σ H (!xs.isEmpty) := fun H1 e Q q =>
  h H1 e _ fun H2 e2 => ⟨_, Or.inl ⟨xs, ex_l (e.trans e2) hx, rfl⟩, q H2 e2⟩
/-- [y for row in rows for y in row]: rows a list of tuples -/
theorem el_flat {a : Addr} {rs : List Addr} {rows : List (List V)} {tl : TE} {j j1 : Nat} {vs vs1 : List Nat} (h : Ev tl σ H (.ref a)) (hx : SqL K H a (rs.map V.ref)) (hl : rs.length = rows.length)
    (hr : ∀ (i : Nat) r row, rs[i]? = some r → rows[i]? = some row → SqT K H r row) (hz : rows.flatten.length ≤ 40000)
    (hw : ∀ x, wipe ((wipe σ vs).set j (some x)) vs = wipe σ vs) (hj : ∀ x, ((wipe σ vs).set j (some x))[j]? = some (some x))
    (hw1 : ∀ x y, wipe ((wipe ((wipe σ vs).set j (some x)) vs1).set j1 (some y)) vs1 = wipe ((wipe σ vs).set j (some x)) vs1) (hj1 : ∀ x y, ((wipe ((wipe σ vs).set j (some x)) vs1).set j1 (some y))[j1]? = some (some y)) :
    EvL (tLc2 (iList K tl) (gName j) tYes (iTup K (tVar j)) (gName j1) tYes (tVar j1) vs vs1) σ H rows.flatten := fun H0 e Q q =>
  h H0 e _ fun H1 e1 => ⟨a, rfl, ⟨_, ex_l (e.trans e1) hx⟩, fun Dl hD => by
    refine ⟨fun i m H' => m = rs.length - i ∧ i ≤ rs.length ∧ Ex H1 H' ∧ H' Dl = some (.lst (rows.take i).flatten), ⟨rs.length, by simp, Nat.zero_le _, Ex.new hD, upd_same⟩, ?_⟩
    rintro i m H' ⟨rfl, hi, p1, p2⟩
    have hxl := ex_l ((e.trans e1).trans p1) hx
    by_cases hlt : i < rs.length
    · have hlt2 : i < rows.length := by omega
      have g1 : rs[i]? = some rs[i] := List.getElem?_eq_getElem hlt
      have g2 : rows[i]? = some rows[i] := List.getElem?_eq_getElem hlt2
      have et : rows.take (i + 1) = rows.take i ++ [rows[i]] := by rw [List.take_succ, g2] <;> rfl
      have efl : ((rows.take (i + 1)).flatten).length ≤ rows.flatten.length := by
        have : rows.flatten = (rows.take (i + 1)).flatten ++ (rows.drop (i + 1)).flatten := by rw [← List.flatten_append, List.take_append_drop]
        rw [this, List.length_append]
        omega
      have efl2 : ((rows.take (i + 1)).flatten).length = ((rows.take i).flatten).length + rows[i].length := by rw [et, List.flatten_append]; simp
      have hrow := hr i _ _ g1 g2
      refine .inr ⟨⟨rs.map V.ref, .ref rs[i], hxl, by rw [List.getElem?_map, g1]; rfl⟩, fun H2 => Ex H1 H2 ∧ H2 Dl = some (.lst (rows.take (i + 1)).flatten), fun H2 k => ⟨rs.length - (i + 1), by omega, rfl, hlt, k⟩, fun y H2 yy => ?_⟩
      obtain ⟨rfl, yy⟩ := yy
      have ey := yy _ hxl
      rw [List.getElem?_map, g1] at ey
      have ey : V.ref rs[i] = y := Option.some.inj ey
      subst ey
      refine ⟨hw _, ?_⟩
      refine ⟨_, hj _, rs[i], rfl, ⟨_, ex_t ((e.trans e1).trans p1) hrow⟩, fun jj kk H3 => kk = rows[i].length - jj ∧ jj ≤ rows[i].length ∧ Ex H1 H3 ∧ H3 Dl = some (.lst ((rows.take i).flatten ++ rows[i].take jj)), ⟨_, rfl, Nat.zero_le _, p1, by rw [p2]; simp⟩, ?_⟩
      rintro jj kk H3 ⟨rfl, hjj, q1, q2⟩
      have hrow3 := ex_t ((e.trans e1).trans q1) hrow
      by_cases hlj : jj < rows[i].length
      · have g3 : rows[i][jj]? = some rows[i][jj] := List.getElem?_eq_getElem hlj
        refine .inr ⟨⟨rows[i], rows[i][jj], hrow3, g3⟩, fun H4 => Ex H1 H4 ∧ H4 Dl = some (.lst ((rows.take i).flatten ++ rows[i].take (jj + 1))), fun H4 k => ⟨rows[i].length - (jj + 1), by omega, rfl, hlj, k⟩, fun y H4 yy => ?_⟩
        obtain ⟨rfl, yy⟩ := yy
        have ey := yy _ hrow3
        rw [g3] at ey
        have ey : rows[i][jj] = y := Option.some.inj ey
        subst ey
        refine ⟨hw1 _ _, _, hj1 _ _, _, q2, ?_, ?_, ?_⟩
        · have : ((rows.take i).flatten ++ rows[i].take jj).length ≤ 40000 := by rw [List.length_append, List.length_take]; omega
          exact sz_lt (by omega)
        · exact Ex.mut q1 hD
        · rw [upd_same, List.append_assoc, List.take_succ, g3]
          rfl
      · have : jj = rows[i].length := by omega
        subst this
        refine .inl ⟨⟨rows[i], hrow3, Nat.le_refl _⟩, q1, ?_⟩
        rw [q2, et, List.flatten_append, List.take_length]
        simp
    · have : i = rs.length := by omega
      subst this
      refine .inl ⟨⟨_, hxl, by rw [List.length_map]; exact Nat.le_refl _⟩, q Dl H' (fresh_back e1 hD) (e1.trans p1) ?_⟩
      rw [p2, hl, List.take_length]⟩
end
mutual
/-- how much of a value there is: signs and members -/
def D.size : D → Nat
  | .str s => 1 + s.length / 100
  | .tup ds => 1 + D.sizeL ds
  | _ => 1
def D.sizeL : List D → Nat
  | [] => 0
  | d :: ds => d.size + D.sizeL ds
end
theorem sizeL_len : ∀ ds : List D, ds.length ≤ D.sizeL ds
  | [] => Nat.le_refl _
  | d :: ds => by
    have := sizeL_len ds
    have h1 : 1 ≤ d.size := by cases d <;> simp [D.size]
    simp only [List.length_cons, D.sizeL]
    omega
theorem sizeL_app : ∀ ds es : List D, D.sizeL (ds ++ es) = D.sizeL ds + D.sizeL es
  | [], es => by simp [D.sizeL]
  | d :: ds, es => by
    show d.size + D.sizeL (ds ++ es) = d.size + D.sizeL ds + D.sizeL es
    rw [sizeL_app ds es]
    omega
theorem size_mem : ∀ {ds : List D} {d : D}, d ∈ ds → d.size ≤ D.sizeL ds
  | a :: ds, d, h => by
    rcases List.mem_cons.mp h with h | h
    · subst h
      simp only [D.sizeL]
      omega
    · have := size_mem h
      simp only [D.sizeL]
      omega
def D.kids : D → List D
  | .tup ds => ds | _ => []
end K0

namespace K0
open PySem L2 Evl
section
variable {P : Program} {w : World} {K : PySem.W.Frag} {mg : Str → Option Value} {base : Heap} {A : Ad} {D : Fd}
/-- a judge of values that are not too great -/
def spS (f : K0.D → Bool) (K : PySem.W.Frag) : Sp := fun vs H Q _ => ∃ x d, vs = [x] ∧ Rp K H x d ∧ d.size ≤ 30000 ∧ RetV (.bl (f d)) H Q
theorem spS_len {f : K0.D → Bool} {vs : List V} {H : Hp} {Q : VK} {E : XK} (h : spS f K vs H Q E) : vs.length = 1 := by
  obtain ⟨x, d, rfl, _⟩ := h
  rfl
theorem svS {f : K0.D → Bool} {H : Hp} {x : V} {d : K0.D} (h : Rp K H x d) (hs : d.size ≤ 30000) : SpV (spS f K) [x] H (.bl (f d)) := fun H1 e Q q E => ⟨x, d, rfl, h.ex e, hs, q⟩
theorem small_of {d : K0.D} (h : d.size ≤ 30000) : d.small := by
  cases d with
  | tup ds =>
    have := sizeL_len ds
    simp only [K0.D.size] at h
    show ds.length ≤ 40000
    omega
  | _ => trivial
theorem sline {n : Nat} (h : n ≤ 3000000) : n ≤ sizeLine := by rw [sizeLine_eq]; omega
def sp_is_made_of (K : PySem.W.Frag) : Sp := fun vs H Q _ => ∃ x d sg m, vs = [x, .str sg, .int m] ∧ Rp K H x d ∧ d.size ≤ 30000 ∧ RetV (.bl (d.word sg m)) H Q
theorem len_is_made_of {vs : List V} {H : Hp} {Q : VK} {E : XK} (h : sp_is_made_of K vs H Q E) : vs.length = 3 := by
  obtain ⟨x, d, sg, m, rfl, _⟩ := h
  rfl
theorem sv_made {H : Hp} {x : V} {d : K0.D} {sg : Str} {m : Int} (h : Rp K H x d) (hs : d.size ≤ 30000) : SpV (sp_is_made_of K) [x, .str sg, .int m] H (.bl (d.word sg m)) := fun H1 e Q q E => ⟨x, d, sg, m, rfl, h.ex e, hs, q⟩
/-- s.strip(t) -/
theorem ev_strip {σ : L2.St} {H : Hp} {ta tb : TE} {a b : Str} (ha : Ev ta σ H (.str a)) (hb : Ev tb σ H (.str b)) (h : a.length ≤ sizeLine) :
    Ev (tBM K "str" (fun (x : V) (xs : List V) (H : Hp) (Q : VK) => ∃ a b, x = .str a ∧ xs = [.str b] ∧ a.length ≤ sizeLine ∧ Q (.str (Txt.stripChars a b)) H) ta (tCons tb tNil)) σ H (.str (Txt.stripChars a b)) := fun H1 e Q q =>
  ha H1 e _ fun H2 e2 => ⟨rfl, hb H2 (e.trans e2) _ fun H3 e3 => ⟨a, b, rfl, rfl, h, q H3 (e2.trans e3)⟩⟩
def D.isNon : K0.D → Bool
  | .non => true | _ => false
theorem Rp.isN {H : Hp} {x : V} {d : K0.D} (h : Rp K H x d) : decide (x = V.non) = d.isNon := by cases h <;> rfl
def sp_is_circle (K : PySem.W.Frag) : Sp := spS K0.D.circle K
theorem len_is_circle {vs : List V} {H : Hp} {Q : VK} {E : XK} (h : sp_is_circle K vs H Q E) : vs.length = 1 := spS_len h
theorem ok_is_circle (T : Txt K mg A D) : FnOk P w K mg base CX0 4 A.is_circle D.is_circle ["value"] (sp_is_circle K) := by
  have G_are_indices : FnOk P w K mg base CX0 3 A.are_indices D.are_indices ["value", "many"] (sp_are_indices K) := ok_are_indices T
  obtain ⟨t_MAX_CIRCLE, c_MAX_CIRCLE⟩ := T.c_MAX_CIRCLE
  obtain ⟨t_MAX_HOUSES, c_MAX_HOUSES⟩ := T.c_MAX_HOUSES
  refine T.F_is_circle.ok sc_is_circle (fun vs H Q E h => len_is_circle h) (fun cdv A0 outer s H vs Q E hr h => ?_)
  refine ⟨_, (pss_one (ps_ret (pe_and (pe_call G_are_indices (hr.mono (by decide)) rfl T.g_are_indices T.F_are_indices.kp T.b_are_indices .nil pass0 (pa_cons (pv 0) (pa_cons (pe_glob (v := .int (9)) rfl c_MAX_HOUSES ⟨_, rfl⟩) pa_nil))) (pe_one (pe_chain op_le op_le pe_int (pe_callB call_len (by rfl) T.b_len (by decide +kernel) (pa_cons (pv 0) pa_nil)) (pe_glob (v := .int (7)) rfl c_MAX_CIRCLE ⟨_, rfl⟩)))))), ?_⟩
  obtain ⟨x, d, rfl, hx, hs, k⟩ := h
  refine s_ret (ev_is (ev_andV (a := d.indices 9) (b := d.circle) (ev_call (ea_cons (ev_var rfl) (ea_cons ev_c ea_nil)) (sv_indices hx (small_of hs))) fun hb => ?_) ?_) fun H2 e2 => k H2 e2
  · cases hx with
    | tup hq hr1 =>
      have hl := hr1.len
      refine ev_is (ev_chain_le (ev_c (v := .int 1)) (ev_cb (ea_cons (ev_var rfl) ea_nil) (rc_lenT hq)) ev_c) ?_
      rename_i a xs ds
      show V.bl (decide ((1 : Int) ≤ (xs.length : Int)) && decide ((xs.length : Int) ≤ 7)) = V.bl (K0.D.indices 9 (.tup ds) && (decide (1 ≤ ds.length) && decide (ds.length ≤ 7)))
      rw [hb, Bool.true_and, hl]
      congr 2
      · exact decide_eq_decide.mpr (by omega)
      · exact decide_eq_decide.mpr (by omega)
    | _ => cases hb
  · cases d with
    | tup ds =>
      show V.bl (K0.D.indices 9 (.tup ds) && (K0.D.indices 9 (.tup ds) && _)) = V.bl (K0.D.indices 9 (.tup ds) && _)
      cases K0.D.indices 9 (.tup ds) <;> rfl
    | _ => rfl
end
end K0

namespace K0
open PySem L2 Evl
def tupsL : List D → List (List D)
  | [] => []
  | .tup es :: r => es :: tupsL r
  | _ :: r => tupsL r
theorem tupsL_app : ∀ a b : List D, tupsL (a ++ b) = tupsL a ++ tupsL b
  | [], _ => rfl
  | d :: r, b => by
    cases d <;> first | exact congrArg _ (tupsL_app r b) | exact tupsL_app r b
def okTop (d : D) : Bool := d.isTup || d.single
theorem plain_flat {j : Nat} : ∀ ds : List D, ds.all okTop = true → ds.all (D.plain (j + 1)) = (tupsL ds).flatten.all (D.plain j)
  | [], _ => rfl
  | d :: r, h => by
    rw [List.all_cons, Bool.and_eq_true] at h
    have ih := plain_flat (j := j) r h.2
    rw [List.all_cons, ih]
    cases d with
    | tup es =>
      show (es.all (D.plain j) && _) = ((es :: tupsL r).flatten).all _
      rw [List.flatten_cons, List.all_append]
    | non => rfl
    | bl b => exact absurd h.1 (by simp [okTop, D.isTup, D.single])
    | int i =>
      have hs : D.single (.int i) = true := h.1
      show (D.single (.int i) && _) = _
      rw [hs, Bool.true_and]
      rfl
    | str s =>
      have hs : D.single (.str s) = true := h.1
      show (D.single (.str s) && _) = _
      rw [hs, Bool.true_and]
      rfl
    | oth => exact absurd h.1 (by simp [okTop, D.isTup, D.single])
theorem plain_single {n : Nat} {d : D} (h : d.isTup = false) : d.plain n = d.single := by
  cases n <;> cases d <;> first | rfl | cases h
theorem plain_none : ∀ {ds : List D} {n : Nat}, ds.all okTop = true → tupsL ds = [] → ds.all (D.plain n) = true
  | [], _, _, _ => rfl
  | d :: r, n, h, e => by
    rw [List.all_cons, Bool.and_eq_true] at h
    cases ht : d.isTup with
    | true =>
      cases d with
      | tup es => exact absurd e (by simp [tupsL])
      | _ => cases ht
    | false =>
      have h1 : d.single = true := by
        have := h.1
        unfold okTop at this
        rw [ht, Bool.false_or] at this
        exact this
      have e' : tupsL r = [] := by cases d <;> first | exact e | cases ht
      rw [List.all_cons, plain_single ht, h1, Bool.true_and]
      exact plain_none h.2 e'
theorem plain_deep : ∀ {ds : List D}, tupsL ds ≠ [] → ds.all (D.plain 0) = false
  | [], h => absurd rfl h
  | d :: r, h => by
    cases ht : d.isTup with
    | true =>
      cases d with
      | tup es => rfl
      | _ => cases ht
    | false =>
      have h' : tupsL r ≠ [] := by cases d <;> first | exact h | cases ht
      rw [List.all_cons, plain_deep h', Bool.and_false]
theorem size_flat : ∀ ds : List D, D.sizeL (tupsL ds).flatten + (tupsL ds).length ≤ D.sizeL ds
  | [] => Nat.le_refl _
  | d :: r => by
    have ih := size_flat r
    cases d with
    | tup es =>
      show D.sizeL (es :: tupsL r).flatten + (tupsL r).length.succ ≤ D.size (.tup es) + D.sizeL r
      rw [List.flatten_cons, sizeL_app]
      simp only [D.size]
      omega
    | _ =>
      simp only [D.sizeL]
      show D.sizeL (tupsL r).flatten + (tupsL r).length ≤ _
      omega
theorem tups_nil_empty : D.sizeL ([] : List D) = 0 := rfl
inductive Rows (K : PySem.W.Frag) (H : Hp) : List Addr → List (List V) → List (List D) → Prop where
  | nil : Rows K H [] [] []
  | cons {r : Addr} {row : List V} {es : List D} {rs : List Addr} {rows : List (List V)} {ess : List (List D)} : SqT K H r row → RpAll K H row es → Rows K H rs rows ess → Rows K H (r :: rs) (row :: rows) (es :: ess)
section
variable {K : PySem.W.Frag} {H H' : Hp}
theorem Rows.snoc {r : Addr} {row : List V} {es : List D} (h : SqT K H r row) (hr : RpAll K H row es) : ∀ {rs : List Addr} {rows : List (List V)} {ess : List (List D)}, Rows K H rs rows ess → Rows K H (rs ++ [r]) (rows ++ [row]) (ess ++ [es])
  | _, _, _, .nil => .cons h hr .nil
  | _, _, _, .cons a b c => .cons a b (Rows.snoc h hr c)
theorem Rows.len : ∀ {rs : List Addr} {rows : List (List V)} {ess : List (List D)}, Rows K H rs rows ess → rs.length = rows.length ∧ rs.length = ess.length
  | _, _, _, .nil => ⟨rfl, rfl⟩
  | _, _, _, .cons _ _ c => ⟨by rw [List.length_cons, List.length_cons, c.len.1], by rw [List.length_cons, List.length_cons, c.len.2]⟩
theorem Rows.get : ∀ {rs : List Addr} {rows : List (List V)} {ess : List (List D)}, Rows K H rs rows ess → ∀ (i : Nat) r row, rs[i]? = some r → rows[i]? = some row → SqT K H r row
  | _, _, _, .nil, i, r, row, h, _ => by simp at h
  | _, _, _, .cons a _ c, 0, r, row, h, h' => by
    have e1 := Option.some.inj h
    have e2 := Option.some.inj h'
    subst e1 e2
    exact a
  | _, _, _, .cons _ _ c, i + 1, r, row, h, h' => Rows.get c i r row (by simpa using h) (by simpa using h')
theorem Rows.flat : ∀ {rs : List Addr} {rows : List (List V)} {ess : List (List D)}, Rows K H rs rows ess → RpAll K H rows.flatten ess.flatten
  | _, _, _, .nil => .nil
  | _, _, _, .cons _ b c => by
    rw [List.flatten_cons, List.flatten_cons]
    exact RpAll.app b (Rows.flat c)
end
section
variable {P : Program} {w : World} {K : PySem.W.Frag} {mg : Str → Option Value} {base : Heap} {A : Ad} {D : Fd}
def sp_is_plain_within (K : PySem.W.Frag) : Sp := fun vs H Q _ => ∃ x d, ∃ n : Nat, vs = [x, .int (n : Int)] ∧ Rp K H x d ∧ d.size ≤ 30000 ∧ RetV (.bl (d.plain n)) H Q
theorem len_is_plain_within {vs : List V} {H : Hp} {Q : VK} {E : XK} (h : sp_is_plain_within K vs H Q E) : vs.length = 2 := by
  obtain ⟨x, d, n, rfl, _⟩ := h
  rfl
theorem sv_within_plain {H : Hp} {x : V} {d : K0.D} {n : Nat} (h : Rp K H x d) (hs : d.size ≤ 30000) : SpV (sp_is_plain_within K) [x, .int (n : Int)] H (.bl (d.plain n)) := fun H1 e Q q E => ⟨x, d, n, rfl, h.ex e, hs, q⟩
def PlainW (K : PySem.W.Frag) (H : Hp) (x : V) (d : K0.D) (n : Nat) (m : Nat) (σ : L2.St) (H' : Hp) : Prop :=
  ∃ (lv : Addr) (xs : List V) (ds : List K0.D) (k : Nat) (v4 v5 : Option V), σ = [some x, some (.int (n : Int)), some (.ref lv), some (.int (k : Int)), v4, v5, none, none] ∧ H' lv = some (.lst xs) ∧ RpAll K H' xs ds ∧ Ex H H' ∧
    K0.D.sizeL ds = m ∧ m ≤ 30000 ∧ k ≤ n ∧ d.plain n = ds.all (K0.D.plain (n - k))
def PlainP (K : PySem.W.Frag) (H1 : Hp) (x : V) (n k : Nat) (lv p : Addr) (ds : List K0.D) (i : Nat) (σ : L2.St) (H' : Hp) : Prop :=
  ∃ (ys : List Addr) (rows : List (List V)) (v5 : Option V), σ = [some x, some (.int (n : Int)), some (.ref lv), some (.int (k : Int)), some (.ref p), v5, none, none] ∧ Ex H1 H' ∧ H' p = some (.lst (ys.map V.ref)) ∧
    Rows K H1 ys rows (tupsL (ds.take i)) ∧ (ds.take i).all okTop = true ∧ ys.length ≤ i
end
end K0

namespace K0
open PySem PySem.Spec PyProof.Rows L2 Evl
/-! ### more rules -/
section
variable {X : Cx}
/-- xs == [] for two lists of which one is empty -/
theorem op_eqNil (hu : X.A.units < cLine) : OpR X (compareOp .Eq) (fun x y H Q => ∃ a b xs, x = V.ref a ∧ y = V.ref b ∧ SqL X.K H a xs ∧ SqL X.K H b [] ∧ Q (.bl xs.isEmpty) H) := by
  intro pins s σ H x y v u Q I rx ry h
  obtain ⟨a, b, xs, rfl, rfl, ha, hb, q⟩ := h
  cases rx
  cases ry
  obtain ⟨its, r, p, _⟩ := I.list ha
  obtain ⟨its2, r2, p2, _⟩ := I.list hb
  cases r2
  cases xs with
  | nil =>
    cases r
    exact SeqAt.eq_listAt (e := fun _ => true) p.isList p2.isList rfl hu (fun j h1 _ => absurd h1 (by simp)) ⟨.bl true, H, I, rfl, q⟩
  | cons y ys =>
    refine SeqAt.eq_list_lengthsAt p.isList p2.isList ?_ hu ⟨.bl false, H, I, rfl, q⟩
    cases r with
    | cons r1 r2 => simp
theorem fold_size (x : Array Nat) : ∀ (n : Nat) (acc : Array Nat), ((List.replicate n x).foldl (· ++ ·) acc).size = acc.size + n * x.size
  | 0, acc => by simp
  | n + 1, acc => by
    rw [List.replicate_succ, List.foldl_cons, fold_size x n, Array.size_append, Nat.succ_mul]
    omega
/-- a text times a number: some text of that length -/
theorem op_mulS : OpR X (binaryOp .Mult) (fun x y H Q => ∃ (s : Str) (n : Nat), x = V.str s ∧ y = V.int (n : Int) ∧ 1 < n ∧ n ≤ 5000 ∧ s.length = 1 ∧ ∀ z : Str, z.length = n → Q (.str z) H) := by
  intro pins s σ H x y v u Q I rx ry h
  obtain ⟨a, n, rfl, rfl, h1, h2, hl, q⟩ := h
  obtain ⟨t, rfl⟩ := rx
  obtain ⟨t', rfl⟩ := ry
  have hs : sizeLine = 16777216 := sizeLine_eq
  have hn : ¬ ((n : Int) < 1) := by omega
  have hb : ((n : Int) == 1 || a.length == 0) = false := by
    rw [hl]
    simp
    omega
  have e : (⟨(List.replicate ((n : Int)).toNat a.cps).foldl (· ++ ·) #[]⟩ : Str).length = n := by
    show ((List.replicate ((n : Int)).toNat a.cps).foldl (· ++ ·) #[]).size = n
    rw [fold_size]
    show 0 + ((n : Int)).toNat * a.length = n
    rw [hl]
    omega
  refine PySem.P.mul_str ?_ (fun _ _ => ?_) (fun _ _ => ?_) ?_
  · have c1 : ¬ ((n : Int) < -(2 ^ 63 : Int)) := by omega
    have c2 : ¬ ((n : Int) ≥ 2 ^ 63) := by omega
    rw [decide_eq_false c1, decide_eq_false c2]
    rfl
  · rw [hl]
    have h3 : 1 ≤ (2 ^ 63 - 1 : Int) / (n : Int) := by
      rw [Int.le_ediv_iff_mul_le (by omega)]
      omega
    omega
  · rw [hl]
    unfold Builtin.Str.tooLong
    exact decide_eq_false (by omega)
  · rw [if_neg hn, if_neg (by rw [hb]; decide)]
    exact ⟨by rw [e, hs]; omega, ⟨.str _, H, I.tok _, ⟨_, rfl⟩, q _ e⟩⟩
/-- set(t), t a tuple of ints -/
def rSetT (K : PySem.W.Frag) (w : World) : List V → Hp → VK → Prop := fun vs H Q => ∃ (a : Addr) (ns : List Int), vs = [V.ref a] ∧ SqT K H a (ns.map V.int) ∧ ns.length ≤ 60 ∧
  ∀ (p : Addr) (c : Nat), c ≤ ns.length → H p = none → Q (.ref p) (upd H p (SetO w p (fun j => decide (j ∈ ns)) c))
theorem cr_setT (hc : X.calm = true) : CallR X (.type "set") (rSetT X.K X.w) := by
  intro pins s σ H xs us Q I r h
  obtain ⟨a, ns, rfl, ha, hl, q⟩ := h
  obtain ⟨u, rfl, rx⟩ := vals1 r
  cases rx
  obtain ⟨its, ri, p, _⟩ := I.tuple ha
  have hb : ns.length + 1 < scanBound := Nat.lt_of_le_of_lt (Nat.succ_le_succ hl) (by decide)
  refine L2.call_set_tupI ns (I.ok.hd hc) p (by simpa using intsAre_of ri) hb fun h' tk c R hcl hk => ?_
  exact ⟨.ref _, upd H s.heap.objs.size (SetO X.w s.heap.objs.size (fun j => decide (j ∈ ns)) c), I.laid (t' := tk) hk (Nat.le_refl _) (setO_new R), rfl, q _ c hcl (I.hok.fresh (Nat.le_refl _))⟩
/-- repr of data (where no repr is under way) -/
def rRepr (K : PySem.W.Frag) : List V → Hp → VK → Prop := fun vs H Q => ∃ x d, vs = [V.ref x] ∧ Dp K H (.ref x) d ∧ d.showable = true ∧ d.hasDict = false ∧ d.depth ≤ 60 ∧ d.shown.length ≤ sizeLine ∧ Q (.str d.shown) H
theorem cr_repr (hg : X.A.guards = some []) (hu : X.A.units + 64 < cLine) : CallR X (.builtin "repr") (rRepr X.K) := by
  intro pins s σ H xs us Q I r h
  obtain ⟨a, d, rfl, hd, h1, h2, h3, h4, q⟩ := h
  obtain ⟨u, rfl, rx⟩ := vals1 r
  cases rx
  obtain ⟨as, rr⟩ := Dp.reads I d _ _ hd rfl
  refine repr_of_reads' rr h1 (fun z => by rw [h2] at z; cases z) hg (by omega) (fun b o e => e) (fun h' u tk hk => ?_) h4
  exact ⟨.str d.shown, H, I.kept hk, ⟨_, rfl⟩, q⟩
end
end K0

namespace K0
open PySem L2 Evl
/-! ### the heap but for one list -/
def hid (o : Option Addr) (H : Hp) : Hp := fun b => if o = some b then none else H b
section
variable {o : Option Addr} {a : Addr} {H H' H'' : Hp}
theorem hid_ex (e : Ex H H') : Ex (hid o H) (hid o H') := fun b u h => by
  unfold hid at h ⊢
  split at h
  · cases h
  · rename_i n
    rw [if_neg n]
    exact e b u h
theorem hid_le : Ex (hid o H) H := fun b u h => by
  unfold hid at h
  split at h
  · cases h
  · exact h
theorem hid_none : hid none H = H := by
  funext b
  unfold hid
  rw [if_neg (by simp)]
theorem hid_at {b : Addr} {u : HO} (h : H b = some u) (n : b ≠ a) : hid (some a) H b = some u := by
  unfold hid
  rw [if_neg (by simpa using fun z => n z.symm)]
  exact h
/-- all but what stands at a is as it was -/
def Bt (a : Addr) (H H' : Hp) : Prop := Ex (hid (some a) H) (hid (some a) H')
theorem Bt.refl : Bt a H H := Ex.refl _
theorem Bt.trans (h : Bt a H H') (h' : Bt a H' H'') : Bt a H H'' := Ex.trans h h'
theorem Bt.of (e : Ex H H') : Bt a H H' := hid_ex e
theorem Bt.upd {u : HO} : Bt a H (L2.upd H a u) := fun b v h => by
  unfold hid at h ⊢
  split at h
  · cases h
  · rename_i n
    have n' : b ≠ a := fun z => n (by rw [z])
    rw [if_neg n, upd_ne n']
    exact h
theorem Bt.at {b : Addr} {u : HO} (e : Bt a H H') (n : b ≠ a) (h : H b = some u) : H' b = some u := hid_le _ _ (e _ _ (hid_at h n))
theorem Bt.sqL {K : PySem.W.Frag} {b : Addr} {xs : List V} (e : Bt a H H') (n : b ≠ a) (h : SqL K H b xs) : SqL K H' b xs := by
  rcases h with (h | ⟨o, h⟩) | h
  · exact .inl (.inl (e.at n h))
  · exact .inl (.inr ⟨o, e.at n h⟩)
  · exact .inr h
theorem Bt.sqT {K : PySem.W.Frag} {b : Addr} {xs : List V} (e : Bt a H H') (n : b ≠ a) (h : SqT K H b xs) : SqT K H' b xs := by
  rcases h with (h | ⟨o, h⟩) | h
  · exact .inl (.inl (e.at n h))
  · exact .inl (.inr ⟨o, e.at n h⟩)
  · exact .inr h
theorem Bt.free {b : Addr} (e : Bt a H H') (n : b ≠ a) (h : H' b = none) : H b = none := by
  cases z : H b with
  | none => rfl
  | some u =>
    rw [e.at n z] at h
    cases h
end
def DiceAt (H : Hp) (a : Addr) : Prop := ∃ d0 d1 d2 : Int, H a = some (.lst [.int d0, .int d1, .int d2])
theorem DiceAt.ex {H H' : Hp} {a : Addr} (e : Ex H H') (h : DiceAt H a) : DiceAt H' a := by
  obtain ⟨x, y, z, h⟩ := h
  exact ⟨x, y, z, e _ _ h⟩
theorem DiceAt.ne {H : Hp} {a p : Addr} (h : DiceAt H a) (hp : H p = none) : p ≠ a := by
  obtain ⟨x, y, z, h⟩ := h
  exact (ne_of_none h hp).symm
section
variable {K : PySem.W.Frag} {σ : L2.St} {H H' : Hp} {ta tb te tx : TE} {t u : TT} {x y z v : V}
theorem rc_abs {i : Int} : RC (fun xs H Q => ∃ i, xs = [.int i] ∧ Q (.int (if i < 0 then -i else i)) H) [.int i] H (.int (if i < 0 then -i else i)) := fun H1 _ _ q => ⟨i, rfl, q H1 (Ex.refl _)⟩
theorem rc_max2 {i j : Int} : RC (fun xs H Q => ∃ i j, xs = [.int i, .int j] ∧ Q (.int (if j > i then j else i)) H) [.int i, .int j] H (.int (if j > i then j else i)) := fun H1 _ _ q => ⟨i, j, rfl, q H1 (Ex.refl _)⟩
theorem rc_min2 {i j : Int} : RC (fun xs H Q => ∃ i j, xs = [.int i, .int j] ∧ Q (.int (if j < i then j else i)) H) [.int i, .int j] H (.int (if j < i then j else i)) := fun H1 _ _ q => ⟨i, j, rfl, q H1 (Ex.refl _)⟩
theorem rc_int1 {i : Int} : RC (fun xs H Q => (∃ i, xs = [.int i] ∧ Q (.int i) H) ∨ ∃ k, xs = [.bl k] ∧ Q (.int (if k then 1 else 0)) H) [.int i] H (.int i) := fun H1 _ _ q => Or.inl ⟨i, rfl, q H1 (Ex.refl _)⟩
theorem rc_intB {b : Bool} : RC (fun xs H Q => (∃ i, xs = [.int i] ∧ Q (.int i) H) ∨ ∃ k, xs = [.bl k] ∧ Q (.int (if k then 1 else 0)) H) [.bl b] H (.int (if b then 1 else 0)) := fun H1 _ _ q => Or.inr ⟨b, rfl, q H1 (Ex.refl _)⟩
theorem rv_pow {i : Int} {n : Nat} (h : n ≤ 1000000) (hi : i.natAbs < 2 ^ 64) : RV (rI CPow fun i j => .int (i ^ j.toNat)) (.int i) (.int (n : Int)) H (.int (i ^ n)) := rv_I (by exact ⟨by omega, by omega, hi⟩)
/-- a chosen value -/
theorem ev_ifv {b : Bool} {v w : V} (h : EvT t σ H b) (h1 : b = true → Ev ta σ H v) (h2 : b = false → Ev tb σ H w) : Ev (tIf t ta tb) σ H (if b then v else w) := by
  cases b with
  | true => exact ev_if h (fun _ => h1 rfl) (fun z => by cases z)
  | false => exact ev_if h (fun z => by cases z) (fun _ => h2 rfl)
end
section
variable {P : Program} {w : World} {K : PySem.W.Frag} {mg : Str → Option Value} {base : Heap} {A : Ad} {D : Fd}
def sp_law_dice (K : PySem.W.Frag) : Sp := fun vs H Q _ => ∃ (a : Addr) (ns : List Int) (i : Nat), vs = [.ref a, .int (i : Int)] ∧ SqL K H a (ns.map V.int) ∧ ∀ p H', H p = none → Ex H H' → DiceAt H' p → Q (.ref p) H'
theorem len_law_dice {vs : List V} {H : Hp} {Q : VK} {E : XK} (h : sp_law_dice K vs H Q E) : vs.length = 2 := by
  obtain ⟨a, ns, i, rfl, _⟩ := h
  rfl
theorem ok_law_dice (T : Txt K mg A D) : FnOk P w K mg base CX0 1 A.law_dice D.law_dice ["script", "spot"] (sp_law_dice K) := by
  refine T.F_law_dice.ok sc_law_dice (fun vs H Q E h => len_law_dice h) (fun cdv A0 outer s H vs Q E hr h => ?_)
  refine ⟨_, (pss_cons (ps_set (i := 2) sc_law_dice.nd rfl (Or.inl rfl) (pe_ifExp (pt_cmpR op_lt (pv 1) (pe_callB call_len (by rfl) T.b_len (by decide +kernel) (pa_cons (pv 0) pa_nil)) (nomark _)) (pe_callTy call_int1 (by rfl) T.b_int (by decide +kernel) (pa_cons (pe_ix ix_list (pv 0) (pv 1) (fun _ _ => rfl)) pa_nil)) (pe_op op_add (pe_op op_mul pe_int (pv 1)) pe_int)))
  (pss_cons (ps_set (i := 3) sc_law_dice.nd rfl (Or.inl rfl) (pe_op op_mod (pe_callB (call_max2 rfl) (by rfl) T.b_max (by decide +kernel) (pa_cons pe_int (pa_cons (pe_op op_sub (pe_callB call_abs (by rfl) T.b_abs (by decide +kernel) (pa_cons (pv 2) pa_nil)) (pe_op op_pow pe_int pe_int)) pa_nil))) (pe_op op_mulW (pe_op op_pow pe_int pe_int) (pe_op op_pow pe_int pe_int))))
  (pss_one (ps_ret (pe_lst (pa_cons (pv 3) (pa_cons (pe_op op_add (pe_op op_add (pe_op op_add (pe_op op_mul (pe_op op_mod (pe_callB call_abs (by rfl) T.b_abs (by decide +kernel) (pa_cons (pv 2) pa_nil)) pe_int) pe_int) (pe_op op_mul pe_int (pv 1))) (pe_op op_mul pe_int (pe_callTy call_int1 (by rfl) T.b_int (by decide +kernel) (pa_cons (pe_cmpR op_lt (pv 2) pe_int (nomark _)) pa_nil)))) pe_int) (pa_cons pe_int pa_nil)))))))), ?_⟩
  obtain ⟨a, ns, i, rfl, ha, k⟩ := h
  refine q_asg (v := .int (if i < ns.length then ns.getD i 0 else 97 * (i : Int) + 61)) ?_ fun H1 e1 => ?_
  · refine ev_is (ev_ifv (b := decide ((i : Int) < (ns.length : Int))) (v := .int (ns.getD i 0)) (w := .int (97 * (i : Int) + 61)) (et_test (ev_is (ev_op (ev_var rfl) (ev_cb (ea_cons (ev_var rfl) ea_nil) (rc_lenL ha)) rv_I0) (by rw [List.length_map]))) (fun hb => ?_) (fun hb => ?_)) ?_
    · have hi : i < ns.length := by have := of_decide_eq_true hb; omega
      refine ev_cb (ea_cons (ev_op (ev_var rfl) (ev_var rfl) (rv_ixL ha (at_of (j := i) rfl ?_))) ea_nil) rc_int1
      rw [List.getElem?_map, List.getD_eq_getElem?_getD, List.getElem?_eq_getElem hi]
      rfl
    · exact ev_op (ev_op ev_c (ev_var rfl) (rv_I (.inl ⟨by decide, by decide⟩))) ev_c rv_I0
    · by_cases c : i < ns.length
      · rw [if_pos c, if_pos (decide_eq_true (by omega))]
      · rw [if_neg c, if_neg (by rw [decide_eq_false (by omega)]; decide)]
  generalize (if i < ns.length then ns.getD i 0 else 97 * (i : Int) + 61) = c
  refine q_asg (ev_op (ev_cb (ea_cons ev_c (ea_cons (ev_op (ev_cb (ea_cons (ev_var rfl) ea_nil) rc_abs) (ev_op ev_c ev_c (rv_pow (n := 16) (by decide) (by decide))) rv_I0) ea_nil)) rc_max2)
    (ev_op (ev_op ev_c ev_c (rv_pow (n := 57) (by decide) (by decide))) (ev_op ev_c ev_c (rv_pow (n := 60) (by decide) (by decide))) (rv_I (by show _ < _; decide +kernel))) (rv_I (by decide +kernel))) fun H2 e2 => ?_
  refine s_retL (el_lst (ea_cons (ev_var rfl) (ea_cons (ev_op (ev_op (ev_op (ev_op (ev_op (ev_cb (ea_cons (ev_var rfl) ea_nil) rc_abs) ev_c (rv_I (by decide))) ev_c (rv_I (.inr ⟨by decide, by decide⟩)))
    (ev_op ev_c (ev_var rfl) (rv_I (.inl ⟨by decide, by decide⟩))) rv_I0) (ev_op ev_c (ev_cb (ea_cons (ev_op (ev_var rfl) ev_c rv_I0) ea_nil) rc_intB) (rv_I (.inl ⟨by decide, by decide⟩))) rv_I0) ev_c rv_I0) (ea_cons ev_c ea_nil))) (by simp)) fun p H3 hp e3 h3 => ?_
  exact k p H3 (fresh_back (e1.trans e2) hp) ((e1.trans e2).trans e3) ⟨_, _, _, h3⟩
def sp_law_roll (K : PySem.W.Frag) : Sp := fun vs H Q _ => ∃ (a : Addr) (m : Int), vs = [.ref a, .int m] ∧ DiceAt H a ∧ 0 < m ∧ m < 1000000 ∧ ∀ r H', 0 ≤ r → r < m → Bt a H H' → DiceAt H' a → Q (.int r) H'
theorem len_law_roll {vs : List V} {H : Hp} {Q : VK} {E : XK} (h : sp_law_roll K vs H Q E) : vs.length = 2 := by
  obtain ⟨a, m, rfl, _⟩ := h
  rfl
theorem ok_law_roll (T : Txt K mg A D) : FnOk P w K mg base CX0 1 A.law_roll D.law_roll ["dice", "most"] (sp_law_roll K) := by
  refine T.F_law_roll.ok sc_law_roll (fun vs H Q E h => len_law_roll h) (fun cdv A0 outer s H vs Q E hr h => ?_)
  refine ⟨_, (pss_cons (ps_if (pt_cmpR op_gt (pe_ix ix_list (pv 0) pe_int (fun _ _ => rfl)) pe_int (nomark _)) (pss_cons (ps_set (i := 2) sc_law_roll.nd rfl (Or.inl rfl) (pe_op op_mod (pe_callTy call_int1 (by rfl) T.b_int (by decide +kernel) (pa_cons (pe_ix ix_list (pv 0) pe_int (fun _ _ => rfl)) pa_nil)) (pv 1)))
  (pss_cons (ps_asg (pe_op op_fdiv (pe_ix ix_list (pv 0) pe_int (fun _ _ => rfl)) (pv 1)) (pg_sub (pv 0) pe_int set_list))
  (pss_one (ps_ret (pv 2))))) pss_nil)
  (pss_cons (ps_asg (pe_op op_add (pe_ix ix_list (pv 0) pe_int (fun _ _ => rfl)) pe_int) (pg_sub (pv 0) pe_int set_list))
  (pss_cons (ps_set (i := 3) sc_law_roll.nd rfl (Or.inl rfl) (pe_op op_mod (pe_callTy call_int1 (by rfl) T.b_int (by decide +kernel) (pa_cons (pe_op op_add (pe_ix ix_list (pv 0) pe_int (fun _ _ => rfl)) (pe_op op_mul pe_int (pe_ix ix_list (pv 0) pe_int (fun _ _ => rfl)))) pa_nil)) pe_int))
  (pss_cons (ps_set (i := 4) sc_law_roll.nd rfl (Or.inl rfl) (pe_op op_add (pe_op op_mul (pe_op op_mod (pe_callTy call_int1 (by rfl) T.b_int (by decide +kernel) (pa_cons (pe_op op_add (pe_op op_mul (pv 3) (pv 3)) (pe_op op_mul pe_int (pe_ix ix_list (pv 0) pe_int (fun _ _ => rfl)))) pa_nil)) pe_int) pe_int) (pv 3)))
  (pss_one (ps_ret (pe_op op_mod (pe_callTy call_int1 (by rfl) T.b_int (by decide +kernel) (pa_cons (pe_op op_fdiv (pv 4) pe_int) pa_nil)) (pv 1)))))))), ?_⟩
  obtain ⟨a, m, rfl, ⟨d0, d1, d2, ha⟩, hm, hm2, k⟩ := h
  have hmod : ∀ x : Int, 0 ≤ x % m ∧ x % m < m := fun x => ⟨Int.emod_nonneg _ (by omega), Int.emod_lt_of_pos _ hm⟩
  refine q_when (b := decide (0 < d0)) (et_test (ev_op (ev_op (ev_var rfl) ev_c (rv_ixL (sq_of ha) (at_of (j := 0) rfl rfl))) ev_c rv_I0)) (fun hb H1 e1 => ?_) (fun hb H1 e1 => ?_)
  · have h1 := e1 _ _ ha
    refine q_asg (ev_op (ev_cb (ea_cons (ev_op (ev_var rfl) ev_c (rv_ixL (sq_of h1) (at_of (j := 0) rfl rfl))) ea_nil) rc_int1) (ev_var rfl) (rv_I hm)) fun H2 e2 => ?_
    have h2 := e2 _ _ h1
    refine q_setL (j := 0) h2 (ev_op (ev_op (ev_var rfl) ev_c (rv_ixL (sq_of h2) (at_of (j := 0) rfl rfl))) (ev_var rfl) (rv_I ⟨hm, by omega⟩)) (ev_var rfl) ev_c (by simp) fun H3 e3 => ?_
    refine s_ret (ev_var rfl) fun H4 e4 => ?_
    exact k _ H4 (hmod _).1 (hmod _).2 ((Bt.of ((e1.trans e2).trans e3)).trans (Bt.upd.trans (Bt.of e4))) ⟨_, _, _, e4 _ _ upd_same⟩
  · have h1 := e1 _ _ ha
    refine q_setL (j := 2) h1 (ev_op (ev_op (ev_var rfl) ev_c (rv_ixL (sq_of h1) (at_of (j := 2) rfl rfl))) ev_c rv_I0) (ev_var rfl) ev_c (by simp) fun H2 e2 => ?_
    have h2 : (L2.upd H2 a (.lst [.int d0, .int d1, .int (d2 + 1)])) a = some (.lst [.int d0, .int d1, .int (d2 + 1)]) := upd_same
    refine q_asg (v := .int ((d1 + 71593063 * (d2 + 1)) % 2305843009213693487)) (ev_op (ev_cb (ea_cons (ev_op (ev_op (ev_var rfl) ev_c (rv_ixL (sq_of h2) (at_of (j := 1) rfl rfl))) (ev_op ev_c (ev_op (ev_var rfl) ev_c (rv_ixL (sq_of h2) (at_of (j := 2) rfl rfl))) (rv_I (.inl ⟨by decide, by decide⟩))) rv_I0) ea_nil) rc_int1) ev_c (rv_I (by decide))) fun H3 e3 => ?_
    have h3 := e3 _ _ h2
    have hone : 0 ≤ (d1 + 71593063 * (d2 + 1)) % 2305843009213693487 ∧ (d1 + 71593063 * (d2 + 1)) % 2305843009213693487 < 2305843009213693487 := ⟨Int.emod_nonneg _ (by decide), Int.emod_lt_of_pos _ (by decide)⟩
    generalize (d1 + 71593063 * (d2 + 1)) % 2305843009213693487 = one at hone ⊢
    refine q_asg (v := .int ((one * one + 89 * (d2 + 1)) % 2305843009213693253 * 6700417 + one)) (ev_op (ev_op (ev_op (ev_cb (ea_cons (ev_op (ev_op (ev_var rfl) (ev_var rfl) (rv_I (.inl ⟨by omega, by omega⟩))) (ev_op ev_c (ev_op (ev_var rfl) ev_c (rv_ixL (sq_of h3) (at_of (j := 2) rfl rfl))) (rv_I (.inl ⟨by decide, by decide⟩))) rv_I0) ea_nil) rc_int1) ev_c (rv_I (by decide))) ev_c (rv_I (.inr ⟨by decide, by decide⟩))) (ev_var rfl) rv_I0) fun H4 e4 => ?_
    refine s_ret (ev_op (ev_cb (ea_cons (ev_op (ev_var rfl) ev_c (rv_I ⟨by decide, by decide⟩)) ea_nil) rc_int1) (ev_var rfl) (rv_I hm)) fun H5 e5 => ?_
    exact k _ H5 (hmod _).1 (hmod _).2 ((Bt.of (e1.trans e2)).trans (Bt.upd.trans (Bt.of ((e3.trans e4).trans e5)))) ⟨_, _, _, ((e3.trans e4).trans e5) _ _ h2⟩
def sp_law_pick (K : PySem.W.Frag) : Sp := fun vs H Q _ => ∃ (a p : Addr) (xs : List V), vs = [.ref a, .ref p] ∧ DiceAt H a ∧ p ≠ a ∧ SqL K H p xs ∧ xs ≠ [] ∧ xs.length < 1000000 ∧ ∀ x H', x ∈ xs → Bt a H H' → DiceAt H' a → Q x H'
theorem len_law_pick {vs : List V} {H : Hp} {Q : VK} {E : XK} (h : sp_law_pick K vs H Q E) : vs.length = 2 := by
  obtain ⟨a, p, xs, rfl, _⟩ := h
  rfl
theorem ok_law_pick (T : Txt K mg A D) : FnOk P w K mg base CX0 2 A.law_pick D.law_pick ["dice", "items"] (sp_law_pick K) := by
  have G_law_roll : FnOk P w K mg base CX0 1 A.law_roll D.law_roll ["dice", "most"] (sp_law_roll K) := ok_law_roll T
  refine T.F_law_pick.ok sc_law_pick (fun vs H Q E h => len_law_pick h) (fun cdv A0 outer s H vs Q E hr h => ?_)
  refine ⟨_, (pss_one (ps_ret (pe_ix ix_list (pv 1) (pe_call G_law_roll (hr.mono (by decide)) rfl T.g_law_roll T.F_law_roll.kp T.b_law_roll .nil pass0 (pa_cons (pv 0) (pa_cons (pe_callB call_len (by rfl) T.b_len (by decide +kernel) (pa_cons (pv 1) pa_nil)) pa_nil))) (fun _ _ => rfl)))), ?_⟩
  obtain ⟨a, p, xs, rfl, ha, hne, hp, hx, hx2, k⟩ := h
  have hpos : 0 < xs.length := List.length_pos_iff.mpr hx
  refine ⟨_, rfl, ?_⟩
  refine (ea_cons (ev_var rfl) (ea_cons (ev_cb (ea_cons (ev_var rfl) ea_nil) (rc_lenL hp)) ea_nil) : EvA _ _ H [.ref a, .int (xs.length : Nat)]) H (Ex.refl _) _ fun H1 e1 => ?_
  refine ⟨a, _, rfl, ha.ex e1, by omega, by omega, fun r H2 h0 h1 hb hd => ?_⟩
  have hbt := (Bt.of e1).trans hb
  have hj : r.toNat < xs.length := by omega
  refine ⟨p, xs, r, xs[r.toNat], rfl, rfl, hbt.sqL hne hp, at_of (j := r.toNat) (by omega) (List.getElem?_eq_getElem hj), ?_⟩
  exact k _ H2 (List.getElem_mem hj) hbt hd
end
end K0

namespace K0
open PySem L2 Evl
/-! ### what evaluates to some value of which R holds -/
def Mono (R : V → Hp → Prop) : Prop := ∀ v H H', Ex H H' → R v H → R v H'
def EvR (te : TE) (σ : L2.St) (H : Hp) (R : V → Hp → Prop) : Prop := ∀ H1, Ex H H1 → ∀ Q : VK, (∀ v H2, Ex H1 H2 → R v H2 → Q v H2) → te σ H1 Q
def EvAR (ta : TA) (σ : L2.St) (H : Hp) (n : Nat) (R : V → Hp → Prop) : Prop := ∀ H1, Ex H H1 → ∀ Q : List V → Hp → Prop, (∀ vs H2, Ex H1 H2 → vs.length = n → (∀ v ∈ vs, R v H2) → Q vs H2) → ta σ H1 Q
/-- a value of which the part of the heap but for o tells data of at most this size -/
def Rz (K : PySem.W.Frag) (o : Option Addr) (s : Nat) : V → Hp → Prop := fun v H => ∃ d, Rp K (hid o H) v d ∧ d.size ≤ s
def live (o : Option Addr) (H : Hp) : Prop := ∀ a, o = some a → H a ≠ none
section
variable {K : PySem.W.Frag} {σ : L2.St} {H H' : Hp} {ta tb te tx : TE} {tr : TA} {t u : TT} {x y z v : V} {R : V → Hp → Prop} {n s s' : Nat} {o : Option Addr}
theorem mono_Rz : Mono (Rz K o s) := fun v H H' e ⟨d, h, hs⟩ => ⟨d, h.ex (hid_ex e), hs⟩
theorem Rz.le (h : Rz K o s v H) (hs : s ≤ s') : Rz K o s' v H := let ⟨d, r, z⟩ := h; ⟨d, r, Nat.le_trans z hs⟩
theorem live.ex (h : live o H) (e : Ex H H') : live o H' := fun a ha => by
  cases z : H a with
  | none => exact absurd z (h a ha)
  | some u =>
    rw [e a u z]
    simp
theorem live.new {p : Addr} {u : HO} (h : live o H) (hp : H p = none) : hid o (upd H p u) p = some u := by
  unfold hid
  rw [if_neg, upd_same]
  intro z
  exact h p z hp
theorem live_of {a : Addr} (h : DiceAt H a) : live (some a) H := fun b hb => by
  obtain ⟨d0, d1, d2, h⟩ := h
  have e := Option.some.inj hb
  subst e
  rw [h]
  simp
theorem live_none : live none H := fun b hb => by cases hb
theorem er_ev (h : Ev te σ H v) (hr : ∀ H', R v H') : EvR te σ H R := fun H1 e Q q => h H1 e Q fun H2 e2 => q v H2 e2 (hr H2)
theorem ear_nil : EvAR tNil σ H 0 R := fun H1 _ _ q => q [] H1 (Ex.refl _) rfl (fun v h => by cases h)
theorem ear_cons (hm : Mono R) (h : EvR te σ H R) (hr : EvAR tr σ H n R) : EvAR (tCons te tr) σ H (n + 1) R := fun H1 e Q q =>
  h H1 e _ fun v H2 e2 hv => hr H2 (e.trans e2) _ fun vs H3 e3 hl hvs => q (v :: vs) H3 (e2.trans e3) (by rw [List.length_cons, hl]) fun w hw => by
    rcases List.mem_cons.mp hw with hw | hw
    · rw [hw]
      exact hm _ _ _ e3 hv
    · exact hvs w hw
def EvAL (ta : TA) (σ : L2.St) (H : Hp) (n : Nat) (R : V → Hp → Prop) : Prop := ∀ H1, Ex H H1 → ∀ Q : List V → Hp → Prop, (∀ vs H2, Ex H1 H2 → vs.length ≤ n → (∀ v ∈ vs, R v H2) → Q vs H2) → ta σ H1 Q
theorem eal_nil : EvAL tNil σ H n R := fun H1 _ _ q => q [] H1 (Ex.refl _) (Nat.zero_le _) (fun v h => by cases h)
theorem eal_cons (hm : Mono R) (h : EvR te σ H R) (hr : EvAL tr σ H n R) : EvAL (tCons te tr) σ H (n + 1) R := fun H1 e Q q =>
  h H1 e _ fun v H2 e2 hv => hr H2 (e.trans e2) _ fun vs H3 e3 hl hvs => q (v :: vs) H3 (e2.trans e3) (by rw [List.length_cons]; omega) fun w hw => by
    rcases List.mem_cons.mp hw with hw | hw
    · rw [hw]
      exact hm _ _ _ e3 hv
    · exact hvs w hw
theorem rpAll_of {G : Hp} : ∀ {vs : List V}, (∀ v ∈ vs, ∃ d, Rp K G v d ∧ d.size ≤ s) → ∃ ds, RpAll K G vs ds ∧ D.sizeL ds ≤ vs.length * s
  | [], _ => ⟨[], .nil, Nat.zero_le _⟩
  | v :: vs, h => by
    obtain ⟨d, h1, h2⟩ := h v List.mem_cons_self
    obtain ⟨ds, h3, h4⟩ := rpAll_of (vs := vs) fun w hw => h w (List.mem_cons_of_mem _ hw)
    refine ⟨d :: ds, .cons h1 h3, ?_⟩
    rw [List.length_cons, Nat.succ_mul]
    simp only [D.sizeL]
    omega
theorem er_tup (hl : live o H) (h : EvAL tr σ H n (Rz K o s)) (hn : n ≤ 1000) (hs : 1 + n * s ≤ s') : EvR (tTup tr) σ H (Rz K o s') := fun H1 e Q q =>
  h H1 e _ fun vs H2 e2 hlen hvs => ⟨sz_of (by omega), fun p hp => by
    have hl2 := hl.ex (e.trans e2)
    refine q (.ref p) _ (e2.trans (Ex.new hp)) ?_
    obtain ⟨ds, h1, h2⟩ := rpAll_of hvs
    refine ⟨.tup ds, .tup (st_of (hl2.new hp)) (h1.ex (hid_ex (Ex.new hp))), ?_⟩
    have h5 : vs.length * s ≤ n * s := Nat.mul_le_mul_right s hlen
    simp only [D.size]
    omega⟩
theorem er_lst (hl : live o H) (h : EvAL tr σ H n R) (hn : n ≤ 1000) (hs : 1 ≤ s') : EvR (tLst tr) σ H (Rz K o s') := fun H1 e Q q =>
  h H1 e _ fun vs H2 e2 hlen hvs => ⟨sz_of (by omega), fun p hp => q (.ref p) _ (e2.trans (Ex.new hp)) ⟨.oth, .lst ((hl.ex (e.trans e2)).new hp), hs⟩⟩
theorem er_dict (hl : live o H) (hs : 1 ≤ s') : EvR tDNewK σ H (Rz K o s') := fun H1 e Q q => fun p hp => q (.ref p) _ (Ex.new hp) ⟨.oth, .dct ((hl.ex e).new hp), hs⟩
theorem rz_non (h : 1 ≤ s) : Rz K o s .non H := ⟨.non, .non, h⟩
theorem rz_bl {b : Bool} (h : 1 ≤ s) : Rz K o s (.bl b) H := ⟨.bl b, .bl b, h⟩
theorem rz_int {i : Int} (h : 1 ≤ s) : Rz K o s (.int i) H := ⟨.int i, .int i, h⟩
theorem rz_str {z : Str} (h : 1 + z.length / 100 ≤ s) : Rz K o s (.str z) H := ⟨.str z, .str z, h⟩
theorem rv_pw {i j : Int} (h : 0 ≤ j ∧ j ≤ 1000000 ∧ i.natAbs < 2 ^ 64) : RV (rI CPow fun i j => .int (i ^ j.toNat)) (.int i) (.int j) H (.int (i ^ j.toNat)) := rv_I h
theorem er_mulS {a : Str} {n : Nat} (ha : Ev ta σ H (.str a)) (hb : Ev tb σ H (.int (n : Int))) (h1 : 1 < n) (h2 : n ≤ 5000) (hl : a.length = 1) (hs : 1 + n / 100 ≤ s) :
    EvR (tOp (fun x y H Q => ∃ (s : Str) (n : Nat), x = V.str s ∧ y = V.int (n : Int) ∧ 1 < n ∧ n ≤ 5000 ∧ s.length = 1 ∧ ∀ z : Str, z.length = n → Q (.str z) H) ta tb) σ H (Rz K o s) := fun H1 e Q q =>
  ha H1 e _ fun H2 e2 => hb H2 (e.trans e2) _ fun H3 e3 => ⟨a, n, rfl, rfl, h1, h2, hl, fun z hz => q (.str z) H3 (e2.trans e3) ⟨.str z, .str z, by simp only [D.size]; omega⟩⟩
/-- a call in a def that changes the heap -/
theorem c_call {sp : Sp} {dvs vs : List V} {E : XK} {ta : TA} {Q : VK} (h : EvA ta σ H vs) (k : ∀ H1, Ex H H1 → sp (vs ++ dvs) H1 Q E) : tCall sp dvs E ta σ H Q := h H (Ex.refl H) _ k
theorem s_retC {D : Ends} {sp : Sp} {dvs vs : List V} {E : XK} {ta : TA} (h : EvA ta σ H vs) (k : ∀ H1, Ex H H1 → sp (vs ++ dvs) H1 D.rt E) : tRet (tCall sp dvs E ta) D σ H := h H (Ex.refl H) _ k
theorem s_asgC {D : Ends} {sp : Sp} {dvs vs : List V} {E : XK} {ta : TA} {i : Nat} (h : EvA ta σ H vs) (k : ∀ H1, Ex H H1 → sp (vs ++ dvs) H1 (fun v H2 => D.nx (σ.set i (some v)) H2) E) : tAsg (tCall sp dvs E ta) (gName i) D σ H := h H (Ex.refl H) _ k
theorem q_asgC {D : Ends} {tz : TS} {sp : Sp} {dvs vs : List V} {E : XK} {ta : TA} {i : Nat} (h : EvA ta σ H vs) (k : ∀ H1, Ex H H1 → sp (vs ++ dvs) H1 (fun v H2 => tz D (σ.set i (some v)) H2) E) : tSeq (tAsg (tCall sp dvs E ta) (gName i)) tz D σ H := h H (Ex.refl H) _ k
/-- some = [..], some = some + [..] -/
theorem q_asgLR {D : Ends} {tz : TS} {i : Nat} (hm : Mono R) (h : EvAR tr σ H n R) (hn : n ≤ 1000) (k : ∀ p xs H1, H p = none → Ex H H1 → H1 p = some (.lst xs) → xs.length = n → (∀ v ∈ xs, R v H1) → tz D (σ.set i (some (.ref p))) H1) :
    tSeq (tAsg (tLst tr) (gName i)) tz D σ H :=
  h H (Ex.refl H) _ fun vs H1 e1 hl hvs => ⟨sz_of (by omega), fun p hp => k p vs _ (fresh_back e1 hp) (e1.trans (Ex.new hp)) upd_same hl fun v hv => hm _ _ _ (Ex.new hp) (hvs v hv)⟩
theorem q_asgCR {D : Ends} {tz : TS} {i : Nat} {q0 : Addr} {ys : List V} (hm : Mono R) (ha : Ev ta σ H (.ref q0)) (h0 : H q0 = some (.lst ys)) (hy : ∀ v ∈ ys, R v H) (h : EvAR tr σ H n R) (hn : n + ys.length ≤ 1000)
    (k : ∀ p xs H1, H p = none → Ex H H1 → H1 p = some (.lst xs) → xs.length = ys.length + n → (∀ v ∈ xs, R v H1) → tz D (σ.set i (some (.ref p))) H1) :
    tSeq (tAsg (tOp rCat ta (tLst tr)) (gName i)) tz D σ H :=
  ha H (Ex.refl H) _ fun H1 e1 => h H1 e1 _ fun vs H2 e2 hl hvs => ⟨sz_of (by omega), fun p hp => by
    have hq : q0 ≠ p := ne_of_none (e2 _ _ (e1 _ _ h0)) hp
    refine ⟨q0, p, ys, vs, rfl, rfl, by rw [upd_ne hq]; exact e2 _ _ (e1 _ _ h0), upd_same, sz_of (by omega), fun p2 hp2 => ?_⟩
    have e3 : Ex H2 (upd H2 p (.lst vs)) := Ex.new hp
    have e4 : Ex (upd H2 p (.lst vs)) (upd (upd H2 p (.lst vs)) p2 (.lst (ys ++ vs))) := Ex.new hp2
    refine k p2 (ys ++ vs) _ (fresh_back ((e1.trans e2).trans e3) hp2) (((e1.trans e2).trans e3).trans e4) upd_same (by rw [List.length_append, hl]) fun v hv => ?_
    rcases List.mem_append.mp hv with hv | hv
    · exact hm _ _ _ (((e1.trans e2).trans e3).trans e4) (hy v hv)
    · exact hm _ _ _ (e3.trans e4) (hvs v hv)⟩
end
end K0

namespace K0
open PySem L2 Evl
/-! ### lists may change, nothing else -/
def ExL (G G' : Hp) : Prop := ∀ b u, G b = some u → G' b = some u ∨ ∃ xs ys, u = .lst xs ∧ G' b = some (.lst ys)
theorem ExL.of {G G' : Hp} (e : Ex G G') : ExL G G' := fun b u h => .inl (e b u h)
theorem ExL.upd {G : Hp} {p : Addr} {xs ys : List V} (h : G p = some (.lst xs)) : ExL G (L2.upd G p (.lst ys)) := fun b u hb => by
  by_cases c : b = p
  · subst c
    rw [h] at hb
    exact .inr ⟨xs, ys, (Option.some.inj hb).symm, upd_same⟩
  · exact .inl (by rw [upd_ne c]; exact hb)
theorem ExL.trans {G G' G'' : Hp} (a : ExL G G') (b : ExL G' G'') : ExL G G'' := fun c u h => by
  rcases a c u h with h1 | ⟨xs, ys, rfl, h1⟩
  · exact b c u h1
  · rcases b c _ h1 with h2 | ⟨_, zs, _, h2⟩
    · exact .inr ⟨xs, ys, rfl, h2⟩
    · exact .inr ⟨xs, zs, rfl, h2⟩
theorem ExL.sqT {K : PySem.W.Frag} {G G' : Hp} {a : Addr} {xs : List V} (e : ExL G G') (h : SqT K G a xs) : SqT K G' a xs := by
  rcases h with (h | ⟨o, h⟩) | h
  · rcases e a _ h with h1 | ⟨_, _, z, _⟩
    · exact .inl (.inl h1)
    · cases z
  · rcases e a _ h with h1 | ⟨_, _, z, _⟩
    · exact .inl (.inr ⟨o, h1⟩)
    · cases z
  · exact .inr h
section
variable {K : PySem.W.Frag} {H H' : Hp}
mutual
theorem Rp.exL {v : V} {d : D} (e : ExL H H') : Rp K H v d → Rp K H' v d
  | .non => .non
  | .bl b => .bl b
  | .int i => .int i
  | .str s => .str s
  | .tup h r => .tup (e.sqT h) (RpAll.exL e r)
  | .lst h => by
    rcases e _ _ h with h1 | ⟨_, ys, _, h1⟩
    · exact .lst h1
    · exact .lst h1
  | .dct h => by
    rcases e _ _ h with h1 | ⟨_, _, z, _⟩
    · exact .dct h1
    · cases z
theorem RpAll.exL {vs : List V} {ds : List D} (e : ExL H H') : RpAll K H vs ds → RpAll K H' vs ds
  | .nil => .nil
  | .cons h r => .cons (Rp.exL e h) (RpAll.exL e r)
end
end
theorem hid_upd {a p : Addr} {H : Hp} {u : HO} (h : p ≠ a) : hid (some a) (upd H p u) = upd (hid (some a) H) p u := by
  funext b
  unfold hid upd
  by_cases c : b = p
  · subst c
    rw [if_neg (by simpa using fun z => h z.symm), if_pos rfl, if_pos rfl]
  · rw [if_neg c, if_neg c]
/-- a comprehension over a range whose elements are drawn -/
theorem lc_draws {te : TE} {vs : List Nat} {σ : L2.St} {j : Nat} {a : Addr} {n : Nat} {H1 : Hp} {R : V → Hp → Prop} {Q : VK} (hR : ∀ v H H', ExL (hid (some a) H) (hid (some a) H') → R v H → R v H') (hd : DiceAt H1 a) (hn : n ≤ 1000)
    (hw : ∀ x, wipe ((wipe σ vs).set j (some x)) vs = wipe σ vs)
    (turn : ∀ (i : Nat) H', i < n → Bt a H1 H' → DiceAt H' a → ∀ Q : VK, (∀ x H'', Bt a H' H'' → DiceAt H'' a → R x H'' → Q x H'') → te ((wipe σ vs).set j (some (.int ((0 : Int) + (i : Int))))) H' Q)
    (k : ∀ D xs H', H1 D = none → Bt a H1 H' → DiceAt H' a → H' D = some (.lst xs) → xs.length = n → (∀ x ∈ xs, R x H') → Q (.ref D) H') :
    ∀ D, H1 D = none → ∃ W : Nat → Nat → Hp → Prop, (∃ m, W 0 m (upd H1 D (.lst []))) ∧ ∀ i m H, W i m H →
      ((Itr 0 n).stop i H ∧ Q (.ref D) H) ∨ ((Itr 0 n).go i H ∧ ∃ Nx : Hp → Prop, (∀ H', Nx H' → ∃ m', m' < m ∧ W (i + 1) m' H') ∧ ∀ x H', (Itr 0 n).yld i H x H' → gName j x (wipe σ vs) H' fun σ2 H2 => wipe σ2 vs = wipe σ vs ∧ tYes σ2 H2 fun b H3 =>
        if b = true then te σ2 H3 fun y H4 => ∃ acc, H4 D = some (.lst acc) ∧ acc.length < sizeLine ∧ Nx (upd H4 D (.lst (acc ++ [y]))) else Nx H3) := fun D hD => by
  have hne : D ≠ a := hd.ne hD
  refine lc_range (lo := 0) (n := n) (fun i H' => i ≤ n ∧ ∃ acc, H' D = some (.lst acc) ∧ acc.length = i ∧ (∀ x ∈ acc, R x H') ∧ Bt a H1 H' ∧ DiceAt H' a) ⟨Nat.zero_le _, [], upd_same, rfl, fun x h => (by cases h), Bt.of (Ex.new hD), hd.ex (Ex.new hD)⟩ (fun i H' hi p => ?_) (fun H' p => ?_)
  · obtain ⟨_, acc, p1, p2, p3, p4, p5⟩ := p
    refine ⟨hw _, turn i H' hi p4 p5 _ fun x H'' hb hd2 hx => ?_⟩
    have h2 : H'' D = some (.lst acc) := hb.at hne p1
    have eL : ExL (hid (some a) H'') (hid (some a) (upd H'' D (.lst (acc ++ [x])))) := by
      rw [hid_upd hne]
      exact ExL.upd (hid_at h2 hne)
    refine ⟨acc, h2, sz_lt (by omega), hi, acc ++ [x], upd_same, by rw [List.length_append, p2]; rfl, fun y hy => ?_, ?_, ?_⟩
    · rcases List.mem_append.mp hy with hy | hy
      · exact hR _ _ _ ((ExL.of hb).trans eL) (p3 y hy)
      · rw [List.mem_singleton.mp hy]
        exact hR _ _ _ eL hx
    · have h3 := p4.trans hb
      intro b u hbu
      have := h3 b u hbu
      rw [hid_upd hne]
      have hbD : b ≠ D := fun z => by
        subst z
        have := hid_le _ _ hbu
        rw [hD] at this
        cases this
      rw [upd_ne hbD]
      exact this
    · obtain ⟨x0, x1, x2, h⟩ := hd2
      exact ⟨x0, x1, x2, by rw [upd_ne hne.symm]; exact h⟩
  · obtain ⟨_, acc, p1, p2, p3, p4, p5⟩ := p
    exact k D acc H' hD p4 p5 p1 p2 p3
/-- tuple(xs) -/
def rTupOf (K : PySem.W.Frag) : List V → Hp → VK → Prop := fun xs H Q => ∃ p ys, xs = [.ref p] ∧ ((SqL K H p ys ∧ ∀ l, H l = none → Q (.ref l) (upd H l (.tup ys))) ∨ (SqT K H p ys ∧ Q (.ref p) H))
theorem n_next {D : Ends} {σ : L2.St} {H : Hp} (h : D.nx σ H) : tNext D σ H := h
theorem n_ret {D : Ends} {σ : L2.St} {H : Hp} {te : TE} (h : te σ H D.rt) : tRet te D σ H := h
theorem n_cb {r : List V → Hp → VK → Prop} {t : TA} {σ : L2.St} {H : Hp} {Q : VK} (h : t σ H fun vs H1 => r vs H1 Q) : tCB r t σ H Q := h
theorem n_cons {te : TE} {t : TA} {σ : L2.St} {H : Hp} {Q : List V → Hp → Prop} (h : te σ H fun v H1 => t σ H1 fun vs H2 => Q (v :: vs) H2) : tCons te t σ H Q := h
theorem n_rng1 {ta : TA} {σ : L2.St} {H : Hp} {R : It → Hp → Prop} (h : ta σ H fun vs H1 => ∃ j : Int, vs = [.int j] ∧ -(2 ^ 62) ≤ j ∧ j < 2 ^ 62 ∧ R (Itr 0 j.toNat) H1) : iRng1 ta σ H R := h
end K0

namespace K0
open PySem L2 Evl
/-! ### data: what can be compared -/
mutual
def D.clean : D → Bool
  | .oth => false
  | .tup ds => D.cleanL ds
  | _ => true
def D.cleanL : List D → Bool
  | [] => true
  | d :: ds => d.clean && D.cleanL ds
end
mutual
def D.py : D → PyData
  | .non => .none
  | .bl b => .bool b
  | .int i => .int i
  | .str s => .str s
  | .tup ds => .tuple (D.pyL ds)
  | .oth => .none
def D.pyL : List D → List PyData
  | [] => []
  | d :: ds => d.py :: D.pyL ds
end
theorem pyL_map : ∀ ds : List D, D.pyL ds = ds.map D.py
  | [] => rfl
  | d :: ds => by
    show d.py :: D.pyL ds = _
    rw [pyL_map ds]
    rfl
theorem cleanL_all : ∀ ds : List D, D.cleanL ds = ds.all D.clean
  | [] => rfl
  | d :: ds => by
    show (d.clean && D.cleanL ds) = _
    rw [cleanL_all ds]
    rfl
section
variable {K : PySem.W.Frag} {H : Hp}
mutual
theorem Rp.dp {v : V} {d : D} (c : d.clean = true) : Rp K H v d → Dp K H v d.py
  | .non => .non
  | .bl b => .bl b
  | .int i => .int i
  | .str s => .str s
  | .tup h r => .tup h (RpAll.dp c r)
  | .lst h => by cases c
  | .dct h => by cases c
theorem RpAll.dp {vs : List V} {ds : List D} (c : D.cleanL ds = true) : RpAll K H vs ds → DpAll K H vs (D.pyL ds)
  | .nil => .nil
  | .cons h r => by
    have c' := Bool.and_eq_true_iff.mp c
    exact .cons (Rp.dp c'.1 h) (RpAll.dp c'.2 r)
end
end
mutual
theorem eqv_self : ∀ d : D, d.clean = true → PyData.eqv d.py d.py = true
  | .non, _ => rfl
  | .bl b, _ => by simp [D.py, PyData.eqv]
  | .int i, _ => by simp [D.py, PyData.eqv]
  | .str s, _ => by simp [D.py, PyData.eqv]
  | .tup ds, c => by
    simp only [D.py, PyData.eqv]
    exact eqvAll_self ds c
  | .oth, c => by cases c
theorem eqvAll_self : ∀ ds : List D, D.cleanL ds = true → PyData.eqvAll (D.pyL ds) (D.pyL ds) = true
  | [], _ => rfl
  | d :: ds, c => by
    have c' := Bool.and_eq_true_iff.mp c
    simp only [D.pyL, PyData.eqvAll]
    rw [eqv_self d c'.1, eqvAll_self ds c'.2]
    rfl
end
/-- clean, of texts that can lie there, not deep -/
def D.fine (n : Nat) (d : D) : Bool := d.clean && d.py.canLay0 && decide (d.py.depth ≤ n)
theorem fine_c {n : Nat} {d : D} (h : d.fine n = true) : d.clean = true := (Bool.and_eq_true_iff.mp (Bool.and_eq_true_iff.mp h).1).1
theorem fine_l {n : Nat} {d : D} (h : d.fine n = true) : d.py.canLay0 = true := (Bool.and_eq_true_iff.mp (Bool.and_eq_true_iff.mp h).1).2
theorem fine_d {n : Nat} {d : D} (h : d.fine n = true) : d.py.depth ≤ n := of_decide_eq_true (Bool.and_eq_true_iff.mp h).2
theorem fine_all {n : Nat} : ∀ ds : List D, (∀ d ∈ ds, d.fine n = true) → D.cleanL ds = true ∧ PyData.canLayAll0 (D.pyL ds) = true ∧ PyData.depthAll (D.pyL ds) ≤ n
  | [], _ => ⟨rfl, rfl, Nat.zero_le _⟩
  | d :: ds, h => by
    have h1 := h d (List.mem_cons_self ..)
    obtain ⟨a, b, c⟩ := fine_all ds fun e he => h e (List.mem_cons_of_mem _ he)
    refine ⟨Bool.and_eq_true_iff.mpr ⟨fine_c h1, a⟩, ?_, ?_⟩
    · simp only [D.pyL, PyData.canLayAll0]
      rw [fine_l h1, b]
      rfl
    · simp only [D.pyL, PyData.depthAll]
      exact Nat.max_le.mpr ⟨fine_d h1, c⟩
theorem fine_tup {n : Nat} {ds : List D} (h : ∀ d ∈ ds, d.fine n = true) : (D.tup ds).fine (n + 1) = true := by
  obtain ⟨a, b, c⟩ := fine_all ds h
  refine Bool.and_eq_true_iff.mpr ⟨Bool.and_eq_true_iff.mpr ⟨a, ?_⟩, decide_eq_true ?_⟩
  · simp only [D.py, PyData.canLay0]
    exact b
  · simp only [D.py, PyData.depth]
    omega
theorem fine_le {n m : Nat} {d : D} (h : d.fine n = true) (l : n ≤ m) : d.fine m = true :=
  Bool.and_eq_true_iff.mpr ⟨Bool.and_eq_true_iff.mpr ⟨fine_c h, fine_l h⟩, decide_eq_true (Nat.le_trans (fine_d h) l)⟩
theorem shaped_of {n : Nat} {d : D} (h : d.fine n = true) (l : n ≤ 64) : SeqAt.shaped d.py = true :=
  Bool.and_eq_true_iff.mpr ⟨fine_l h, decide_eq_true (Nat.le_trans (fine_d h) l)⟩
theorem shapedL_of {n : Nat} {ds : List D} (h : ∀ d ∈ ds, d.fine n = true) (l : n + 1 ≤ 64) : SeqAt.shaped (.list (D.pyL ds)) = true := by
  obtain ⟨a, b, c⟩ := fine_all ds h
  refine Bool.and_eq_true_iff.mpr ⟨?_, decide_eq_true ?_⟩
  · simp only [PyData.canLay0]
    exact b
  · simp only [PyData.depth]
    omega
theorem Rp.tupI {K : PySem.W.Frag} {H : Hp} {v : V} {ds : List D} (h : Rp K H v (.tup ds)) : ∃ a xs, v = .ref a ∧ SqT K H a xs ∧ RpAll K H xs ds := by
  cases h with
  | tup h r => exact ⟨_, _, rfl, h, r⟩
theorem RpAll.setI {K : PySem.W.Frag} {H : Hp} : ∀ {vs : List V} {ds : List D} (i : Nat) {v : V} {d : D}, RpAll K H vs ds → Rp K H v d → RpAll K H (vs.set i v) (ds.set i d)
  | _, _, i, _, _, .nil, _ => by cases i <;> exact .nil
  | _, _, 0, _, _, .cons h r, g => .cons g r
  | _, _, i + 1, _, _, .cons h r, g => .cons h (RpAll.setI i r g)
/-! ### readings -/
section
variable {K : PySem.W.Frag} {σ : L2.St} {H H' : Hp} {ta tb te tv : TE} {x y z v : V} {C a dx : Addr} {fs : List (Str × V)} {f : Str} {D : Ends} {tz : TS}
theorem ev_fld (h : Ev ta σ H (.ref a)) (ha : H a = some (.ins C dx fs)) (c : Cls K C) (n : NoAttr K C f) (l : fs.lookup f = some v) : Ev (tFld K ta f) σ H v := fun H1 e Q q =>
  h H1 e _ fun H2 e2 => ⟨a, C, dx, fs, v, rfl, (e.trans e2) _ _ ha, c, n, l, q H2 e2⟩
theorem q_fld (hv : Ev tv σ H v) (ho : Ev ta σ H (.ref a)) (ha : H a = some (.ins C dx fs)) (c : Cls K C) (n : NoAttr K C f) (hl : fs.length < 1000) (k : ∀ H1, Ex H H1 → tz D σ (upd H1 a (.ins C dx (putF f v fs)))) :
    tSeq (sFld K ta tv f) tz D σ H := hv H (Ex.refl H) _ fun H1 e1 => ho H1 e1 _ fun H2 e2 => ⟨a, C, dx, fs, rfl, (e1.trans e2) _ _ ha, c, n, hl, k H2 (e1.trans e2)⟩
theorem s_fldU {xs : List V} (hv : EvU tv σ H xs) (ho : Ev ta σ H (.ref a)) (ha : H a = some (.ins C dx fs)) (c : Cls K C) (n : NoAttr K C f) (hl : fs.length < 1000)
    (k : ∀ p H1, H p = none → Ex H H1 → H1 p = some (.tup xs) → D.nx σ (upd H1 a (.ins C dx (putF f (.ref p) fs)))) :
    sFld K ta tv f D σ H := hv H (Ex.refl H) _ fun p H1 hp e1 h1 => ho H1 e1 _ fun H2 e2 => ⟨a, C, dx, fs, rfl, (e1.trans e2) _ _ ha, c, n, hl, k p H2 hp (e1.trans e2) (e2 _ _ h1)⟩
theorem q_asgMk {sp : Sp} {E : XK} {i : Nat} {xs : List V} (h : EvU te σ H xs)
    (k : ∀ p H1, H p = none → Ex H H1 → H1 p = some (.tup xs) → ∀ x dx, H1 x = none → H1 dx = none → dx ≠ x → sp [.ref x, .ref p] (upd (upd H1 dx (.own x)) x (.ins C dx [])) (fun v H2 => v = .non ∧ tz D (σ.set i (some (.ref x))) H2) E) :
    tSeq (tAsg (tMake C sp [] E (tCons te tNil)) (gName i)) tz D σ H := h H (Ex.refl H) _ fun p H1 hp e h1 => k p H1 hp e h1
theorem eu_tupOf {p : Addr} {xs : List V} (h : Ev ta σ H (.ref p)) (hx : SqL K H p xs) : EvU (tCB (rTupOf K) (tCons ta tNil)) σ H xs := fun H1 e Q q =>
  h H1 e _ fun H2 e2 => ⟨p, xs, rfl, .inl ⟨ex_l (e.trans e2) hx, fun l hl => q l _ (fresh_back e2 hl) (e2.trans (Ex.new hl)) upd_same⟩⟩
theorem el_listT {p : Addr} {xs : List V} (h : Ev ta σ H (.ref p)) (hx : SqT K H p xs) : EvL (tCB (rListS K) (tCons ta tNil)) σ H xs := fun H1 e Q q =>
  h H1 e _ fun H2 e2 => ⟨p, xs, rfl, .inr (ex_t (e.trans e2) hx), fun l hl => q l _ (fresh_back e2 hl) (e2.trans (Ex.new hl)) upd_same⟩
theorem rc_kitI {P : V → Prop} {n : String} {b : Bool} {dy : Addr} {gs : List (Str × V)} {p : Addr} (o : ObjC K C) (cl : Cls K C) (hp : H p = some (.ins C dy gs)) : RC (rIsi K) [.ref p, .ref C] H (.bl true) := fun H1 e Q q =>
  ⟨_, _, _, _, _, rfl, .own C, .base (.ins (e _ _ hp) cl o.ca o.cg o.ct o.co), by unfold PySem.W.kitOne; rw [if_pos (by simp)], q H1 (Ex.refl _)⟩
end
/-- the promise of a value, by what it is -/
def RetR (K : PySem.W.Frag) (d : D) (H : Hp) (Q : VK) : Prop := ∀ v H', Ex H H' → Rp K H' v d → Q v H'
/-! ### what evaluates to data -/
section
variable {K : PySem.W.Frag} {σ : L2.St} {H H' : Hp} {ta tb te : TE} {tr : TA} {x y z v : V} {d e : D} {ds es : List D}
def EvD (K : PySem.W.Frag) (te : TE) (σ : L2.St) (H : Hp) (d : D) : Prop := ∀ H1, Ex H H1 → ∀ Q : VK, (∀ v H2, Ex H1 H2 → Rp K H2 v d → Q v H2) → te σ H1 Q
def EvDA (K : PySem.W.Frag) (ta : TA) (σ : L2.St) (H : Hp) (ds : List D) : Prop := ∀ H1, Ex H H1 → ∀ Q : List V → Hp → Prop, (∀ vs H2, Ex H1 H2 → RpAll K H2 vs ds → Q vs H2) → ta σ H1 Q
theorem EvD.mono (a : Ex H H') (h : EvD K te σ H d) : EvD K te σ H' d := fun H1 e Q q => h H1 (a.trans e) Q q
theorem ed_ev (h : Ev te σ H v) (r : Rp K H v d) : EvD K te σ H d := fun H1 a Q q => h H1 a Q fun H2 b => q v H2 b (r.ex (a.trans b))
theorem ed_int {i : Int} : EvD K (tC (.int i)) σ H (.int i) := ed_ev ev_c (.int i)
theorem ed_non : EvD K (tC .non) σ H .non := ed_ev ev_c .non
theorem ed_str {s : Str} : EvD K (tC (.str s)) σ H (.str s) := ed_ev ev_c (.str s)
theorem eda_nil : EvDA K tNil σ H [] := fun H1 _ Q q => q [] H1 (Ex.refl _) .nil
theorem eda_cons (h : EvD K te σ H d) (r : EvDA K tr σ H ds) : EvDA K (tCons te tr) σ H (d :: ds) := fun H1 a Q q =>
  h H1 a _ fun v H2 b hv => r H2 (a.trans b) _ fun vs H3 c hs => q (v :: vs) H3 (b.trans c) (.cons (hv.ex c) hs)
theorem ed_tup (h : EvDA K tr σ H ds) (l : ds.length ≤ 100000) : EvD K (tTup tr) σ H (.tup ds) := fun H1 a Q q =>
  h H1 a _ fun vs H2 b hs => ⟨by rw [hs.len]; exact sz_of l, fun p hp => q (.ref p) _ (b.trans (Ex.new hp)) (.tup (st_of upd_same) (hs.ex (Ex.new hp)))⟩
theorem ed_cat (h1 : EvD K ta σ H (.tup ds)) (h2 : EvD K tb σ H (.tup es)) (l : ds.length + es.length ≤ 100000) : EvD K (tOp (rCatA K) ta tb) σ H (.tup (ds ++ es)) := fun H1 a Q q =>
  h1 H1 a _ fun v H2 b hv => h2 H2 (a.trans b) _ fun w H3 c hw => by
    obtain ⟨p, xs, rfl, sp, rp⟩ := (hv.ex c).tupI
    obtain ⟨r, ys, rfl, sr, rr⟩ := hw.tupI
    refine ⟨p, r, xs, ys, rfl, rfl, sp, sr, by rw [rp.len, rr.len]; exact sz_of l, fun h => ?_, fun _ h => ?_, fun _ _ n hn => ?_⟩
    · subst h
      cases rp
      exact q _ _ (b.trans c) (.tup sr rr)
    · subst h
      cases rr
      rw [List.append_nil] at q
      exact q _ _ (b.trans c) (.tup sp rp)
    · exact q _ _ ((b.trans c).trans (Ex.new hn)) (.tup (st_of upd_same) ((rp.app rr).ex (Ex.new hn)))
theorem ed_ix {i : Nat} (h : EvD K ta σ H (.tup ds)) (hb : ∀ H1, Ex H H1 → Ev tb σ H1 (.int (i : Int))) (hi : ds[i]? = some d) : EvD K (tOp (rIxT K) ta tb) σ H d := fun H1 a Q q =>
  h H1 a _ fun v H2 b hv => hb H2 (a.trans b) H2 (Ex.refl _) _ fun H3 c => by
    obtain ⟨p, xs, rfl, sp, rp⟩ := (hv.ex c).tupI
    have hlt : i < ds.length := by
      rcases Nat.lt_or_ge i ds.length with h | h
      · exact h
      · rw [List.getElem?_eq_none h] at hi
        cases hi
    have hxl : i < xs.length := by
      rw [rp.len]
      exact hlt
    have hx : xs[i]? = some xs[i] := List.getElem?_eq_getElem hxl
    obtain ⟨d', hd', hr'⟩ := RpAll.get _ _ _ _ rp hx
    rw [hi] at hd'
    cases hd'
    refine ⟨p, xs, (i : Int), xs[i], rfl, rfl, sp, ?_, q _ _ (b.trans c) hr'⟩
    unfold atI
    rw [ixN_nat (by rw [rp.len]; exact hlt)]
    exact hx
theorem d_call {sp : Sp} {E : XK} {Q : VK} (h : EvDA K tr σ H ds) (k : ∀ vs H1, Ex H H1 → RpAll K H1 vs ds → sp vs H1 Q E) : tCall sp [] E tr σ H Q := h H (Ex.refl H) _ fun vs H1 a r => by
  show sp (vs ++ []) H1 Q E
  rw [List.append_nil]
  exact k vs H1 a r
theorem d_ret {D : Ends} (h : EvD K te σ H d) (k : ∀ v H1, Ex H H1 → Rp K H1 v d → D.rt v H1) : tRet te D σ H := h H (Ex.refl H) _ k
/-- a method without arguments that gives data -/
theorem ed_meth0 {C a dx : Addr} {fs : List (Str × V)} {m : Str} {sp : Sp} {E : XK} (h : Ev ta σ H (.ref a)) (ha : H a = some (.ins C dx fs)) (l : fs.lookup m = none) (k : ∀ H1, Ex H H1 → ∀ Q : VK, RetR K d H1 Q → sp [.ref a] H1 Q E) :
    EvD K (tMeth C m sp [] E ta tNil) σ H d := fun H1 a1 Q q => h H1 a1 _ fun H2 b => ⟨a, dx, fs, rfl, (a1.trans b) _ _ ha, l, k H2 (a1.trans b) Q fun v H3 c hv => q v H3 (b.trans c) hv⟩
theorem ed_call {sp : Sp} {E : XK} (h : EvDA K tr σ H ds) (k : ∀ vs H1, Ex H H1 → RpAll K H1 vs ds → ∀ Q : VK, RetR K d H1 Q → sp vs H1 Q E) : EvD K (tCall sp [] E tr) σ H d := fun H1 a Q q => h H1 a _ fun vs H2 b r => by
  show sp (vs ++ []) H2 Q E
  rw [List.append_nil]
  exact k vs H2 (a.trans b) r Q fun v H3 c hv => q v H3 (b.trans c) hv
theorem rv_eqD (hx : Rp K H x d) (hy : Rp K H y e) {n : Nat} (fd : d.fine n = true) (fe : e.fine n = true) (hn : n ≤ 64) : RV (rEqD K) x y H (.bl (PyData.eqv d.py e.py)) := fun H1 a Q q =>
  ⟨d.py, e.py, (hx.ex a).dp (fine_c fd), (hy.ex a).dp (fine_c fe), shaped_of fd hn, shaped_of fe hn, q H1 (Ex.refl _)⟩
theorem rv_neD (hx : Rp K H x d) (hy : Rp K H y e) {n : Nat} (fd : d.fine n = true) (fe : e.fine n = true) (hn : n ≤ 64) : RV (rNeD K) x y H (.bl (!PyData.eqv d.py e.py)) := fun H1 a Q q =>
  ⟨d.py, e.py, (hx.ex a).dp (fine_c fd), (hy.ex a).dp (fine_c fe), shaped_of fd hn, shaped_of fe hn, q H1 (Ex.refl _)⟩
/-- compared as data -/
theorem ev_neD (h1 : EvD K ta σ H d) (h2 : EvD K tb σ H e) {n : Nat} (fd : d.fine n = true) (fe : e.fine n = true) (hn : n ≤ 64) : Ev (tOp (rNeD K) ta tb) σ H (.bl (!PyData.eqv d.py e.py)) := fun H1 a Q q =>
  h1 H1 a _ fun v H2 b hv => h2 H2 (a.trans b) _ fun w H3 c hw => rv_neD (hv.ex c) hw fd fe hn H3 (Ex.refl _) Q fun H4 g => q H4 ((b.trans c).trans g)
theorem ev_eqD (h1 : EvD K ta σ H d) (h2 : EvD K tb σ H e) {n : Nat} (fd : d.fine n = true) (fe : e.fine n = true) (hn : n ≤ 64) : Ev (tOp (rEqD K) ta tb) σ H (.bl (PyData.eqv d.py e.py)) := fun H1 a Q q =>
  h1 H1 a _ fun v H2 b hv => h2 H2 (a.trans b) _ fun w H3 c hw => rv_eqD (hv.ex c) hw fd fe hn H3 (Ex.refl _) Q fun H4 g => q H4 ((b.trans c).trans g)
theorem Rp.tupR {a : Addr} (h : Rp K H (.ref a) (.tup ds)) : ∃ xs, SqT K H a xs ∧ RpAll K H xs ds := by
  cases h with
  | tup h r => exact ⟨_, h, r⟩
/-! ### f-strings -/
def EvJ (ts : List TE) (acc : Str) (σ : L2.St) (H : Hp) (out : Str) : Prop := ∀ H1, Ex H H1 → ∀ Q : Str → Hp → Prop, (∀ H2, Ex H1 H2 → Q out H2) → tJs ts acc σ H1 Q
theorem ej_nil {acc : Str} : EvJ [] acc σ H acc := fun H1 _ Q q => q H1 (Ex.refl _)
theorem ej_cons {t : TE} {ts : List TE} {acc s out : Str} (h : Ev t σ H (.str s)) (l : (acc ++ s).length ≤ 100000) (r : EvJ ts (acc ++ s) σ H out) : EvJ (t :: ts) acc σ H out := fun H1 a Q q =>
  h H1 a _ fun H2 b => ⟨s, rfl, sz_of l, r H2 (a.trans b) Q fun H3 c => q H3 (b.trans c)⟩
theorem ev_js {ts : List TE} {out : Str} (h : EvJ ts Str.empty σ H out) : Ev (fun σ H Q => tJs ts Str.empty σ H fun out H1 => Q (.str out) H1) σ H (.str out) := fun H1 a Q q => h H1 a _ fun H2 b => q H2 b
theorem ev_fmt {i : Int} (h : Ev te σ H (.int i)) (l : i.natAbs.log2 < 1920) : Ev (tFmt te) σ H (.str (toString i)) := fun H1 a Q q => h H1 a _ fun H2 b => .inr ⟨i, rfl, l, q H2 b⟩
end
/-- the text of a small number -/
def tos (n : Nat) : Str := toString (n : Int)
theorem tos_len {n : Nat} (h : n ≤ 400) : (tos n).length ≤ 8 := by
  have z : ∀ i : Fin 401, (tos i.val).length ≤ 8 := by decide +kernel
  exact z ⟨n, by omega⟩
theorem log_small {n : Nat} (h : n ≤ 400) : (n : Int).natAbs.log2 < 1920 := by
  have z : ∀ i : Fin 401, (i.val : Int).natAbs.log2 < 1920 := by decide +kernel
  exact z ⟨n, by omega⟩
theorem app_len (a b : Str) : (a ++ b).length = a.length + b.length := by
  show (a.cps ++ b.cps).size = _
  rw [Array.size_append]
  rfl
theorem numB_small {n : Nat} (h : n ≤ 1000) : numB (n : Int) = true := by
  unfold numB big
  rw [decide_eq_true (by omega), decide_eq_true (by omega)]
  rfl
theorem within_ok {n : Nat} {lo hi : Int} (h : n ≤ 1000) (h1 : lo ≤ (n : Int)) (h2 : (n : Int) ≤ hi) : (D.int (n : Int)).within lo hi = true := by
  show (numB (n : Int) && (decide (lo ≤ (n : Int)) && decide ((n : Int) ≤ hi))) = true
  rw [numB_small h, decide_eq_true h1, decide_eq_true h2]
  rfl
end K0

namespace K0
open PySem L2 Evl
theorem ix_tupK {X : Cx} {K : PySem.W.Frag} (h : X.K = K) : IxR X (rIxT K) := h ▸ ix_tup
theorem pe_fldK {X : Cx} {K : PySem.W.Frag} {e : Expr} {f : Str} {pos : Pos} {ta : TE} (he : PE X e ta) (hb : attributeBase e f X.env (eval e X.env) = eval e X.env) (h : X.K = K) : PE X (.Attribute e f pos) (tFld K ta f) := h ▸ pe_fld he hb
section
variable {K : PySem.W.Frag} {A : Ad}
theorem d_raw {σ : L2.St} {H : Hp} {tr : TA} {sp : Sp} {E : XK} {Q : VK} (h : tr σ H fun vs H1 => sp vs H1 Q E) : tCall sp [] E tr σ H Q := by
  have e : (fun (vs : List V) H1 => sp (vs ++ []) H1 Q E) = fun vs H1 => sp vs H1 Q E := by
    funext vs H1
    rw [List.append_nil]
  show tr σ H fun vs H1 => sp (vs ++ []) H1 Q E
  rw [e]
  exact h
theorem gd_some {α : Type} {l : List α} {i : Nat} {x y : α} (h : l[i]? = some x) : l.getD i y = x := by
  rw [List.getD_eq_getElem?_getD, h]
  rfl
theorem getD_mem {α : Type} {l : List α} {i : Nat} {x : α} (h : i < l.length) : l.getD i x ∈ l := by
  rw [List.getD_eq_getElem?_getD, List.getElem?_eq_getElem h]
  exact List.getElem_mem h
theorem rp_maps {H : Hp} {α : Type} {v : α → V} {f : α → K0.D} : ∀ (l : List α), (∀ i ∈ l, Rp K H (v i) (f i)) → RpAll K H (l.map v) (l.map f)
  | [], _ => .nil
  | a :: l, h => .cons (h a (List.mem_cons_self ..)) (rp_maps l fun i hi => h i (List.mem_cons_of_mem _ hi))
theorem map_rangeD {α β : Type} (g : α → β) (x : α) : ∀ l : List α, (List.range l.length).map (fun i => g (l.getD i x)) = l.map g
  | [] => rfl
  | a :: l => by
    rw [List.length_cons, List.range_succ_eq_map, List.map_cons, List.map_cons, List.map_map, ← map_rangeD g x l]
    rfl
end
/-! ### all but lists stays -/
def ExT (H H' : Hp) : Prop := ∀ b u, H b = some u → (∀ xs, u ≠ HO.lst xs) → H' b = some u
section
variable {K : PySem.W.Frag} {H H' : Hp}
theorem ExT.of (e : Ex H H') : ExT H H' := fun b u h _ => e b u h
theorem ExT.trans {H'' : Hp} (a : ExT H H') (b : ExT H' H'') : ExT H H'' := fun c u h n => b c u (a c u h n) n
theorem ExT.sqT {a : Addr} {xs : List V} (e : ExT H H') (h : SqT K H a xs) : SqT K H' a xs := by
  rcases h with (h | ⟨o, h⟩) | h
  · exact .inl (.inl (e _ _ h fun _ z => by cases z))
  · exact .inl (.inr ⟨o, e _ _ h fun _ z => by cases z⟩)
  · exact .inr h
mutual
theorem Rp.exT {v : V} {d : D} (c : d.clean = true) (e : ExT H H') : Rp K H v d → Rp K H' v d
  | .non => .non
  | .bl b => .bl b
  | .int i => .int i
  | .str s => .str s
  | .tup h r => .tup (e.sqT h) (RpAll.exT c e r)
  | .lst h => by cases c
  | .dct h => by cases c
theorem RpAll.exT {vs : List V} {ds : List D} (c : D.cleanL ds = true) (e : ExT H H') : RpAll K H vs ds → RpAll K H' vs ds
  | .nil => .nil
  | .cons h r => by
    have c' := Bool.and_eq_true_iff.mp c
    exact .cons (Rp.exT c'.1 e h) (RpAll.exT c'.2 e r)
end
/-- what is hidden is a list -/
def hidL (o : Option Addr) (H : Hp) : Prop := ∀ a, o = some a → ∃ xs, H a = some (.lst xs)
theorem exT_hid {o : Option Addr} (h : hidL o H) : ExT H (hid o H) := fun b u hb n => by
  unfold hid
  by_cases c : o = some b
  · obtain ⟨xs, hx⟩ := h b c
    rw [hb] at hx
    exact absurd (Option.some.inj hx) (n xs)
  · rw [if_neg c]
    exact hb
theorem DiceAt.hidL {a : Addr} (h : DiceAt H a) : hidL (some a) H := fun b e => by
  obtain ⟨x, y, z, h⟩ := h
  cases e
  exact ⟨_, h⟩
theorem Bt.exT {a : Addr} (h : DiceAt H a) (b : Bt a H H') : ExT H H' := ((exT_hid h.hidL).trans (ExT.of b)).trans (ExT.of hid_le)
theorem RpAll.memI : ∀ {vs : List V} {ds : List D}, RpAll K H vs ds → ∀ v ∈ vs, ∃ d ∈ ds, Rp K H v d
  | _, _, .nil, v, h => by cases h
  | _, _, .cons h r, v, hv => by
    rcases List.mem_cons.mp hv with rfl | hv
    · exact ⟨_, List.mem_cons_self .., h⟩
    · obtain ⟨d, hd, hr⟩ := RpAll.memI r v hv
      exact ⟨d, List.mem_cons_of_mem _ hd, hr⟩
end
section
variable {K : PySem.W.Frag} {σ : L2.St} {H H' : Hp} {ta tb te tn : TE} {tr : TA} {ds : List D} {d : D}
theorem l_lst {Q : VK} (h : EvDA K tr σ H ds) (l : ds.length ≤ 100000) (k : ∀ p xs H1, H p = none → Ex H H1 → H1 p = some (.lst xs) → RpAll K H1 xs ds → Q (.ref p) H1) : tLst tr σ H Q := h H (Ex.refl H) _ fun vs H1 e r =>
  ⟨by rw [r.len]; exact sz_of l, fun p hp => k p vs _ (fresh_back e hp) (e.trans (Ex.new hp)) upd_same (r.ex (Ex.new hp))⟩
/-- a new list of data -/
def EvDL (K : PySem.W.Frag) (te : TE) (σ : L2.St) (H : Hp) (ds : List D) : Prop := ∀ H1, Ex H H1 → ∀ Q : VK, (∀ p xs H2, H1 p = none → Ex H1 H2 → H2 p = some (.lst xs) → RpAll K H2 xs ds → Q (.ref p) H2) → te σ H1 Q
/-- [e for j in range(n)], each e data -/
theorem edl_range {n j : Nat} {vs : List Nat} {f : Nat → D} (hn : ∀ H1, Ex H H1 → Ev tn σ H1 (.int (n : Int))) (hz : n ≤ 1000) (hw : ∀ x, wipe ((wipe σ vs).set j (some x)) vs = wipe σ vs)
    (he : ∀ i H1, Ex H H1 → i < n → EvD K te ((wipe σ vs).set j (some (.int (i : Int)))) H1 (f i)) : EvDL K (tLc (iRng1 (tCons tn tNil)) (gName j) tYes te vs) σ H ((List.range n).map f) := fun H0 e0 Q q => by
  unfold tLc
  refine n_rng1 (n_cons (hn H0 e0 H0 (Ex.refl _) _ fun H1 e1 => ⟨(n : Int), rfl, by omega, by omega, fun Dl hD => ?_⟩))
  refine lc_range (lo := 0) (n := (n : Int).toNat) (fun i H' => i ≤ n ∧ ∃ acc, H' Dl = some (.lst acc) ∧ RpAll K H' acc ((List.range i).map f) ∧ Ex H1 H') ⟨Nat.zero_le _, [], upd_same, .nil, Ex.new hD⟩ (fun i H' hi p => ?_) (fun H' p => ?_)
  · obtain ⟨_, acc, p1, p2, p3⟩ := p
    rw [Int.toNat_natCast] at hi
    have ez : (0 : Int) + (i : Int) = (i : Int) := Int.zero_add _
    rw [ez]
    refine ⟨hw _, he i H' ((e0.trans e1).trans p3) hi H' (Ex.refl _) _ fun v H'' e2 hv => ?_⟩
    have h2 := e2 _ _ p1
    have hl : acc.length = i := by rw [p2.len, List.length_map, List.length_range]
    refine ⟨acc, h2, sz_lt (by omega), hi, acc ++ [v], upd_same, ?_, Ex.mut (p3.trans e2) hD⟩
    rw [List.range_succ, List.map_append]
    exact ((p2.ex e2).app (.cons hv .nil)).exL (ExL.upd h2)
  · obtain ⟨_, acc, p1, p2, p3⟩ := p
    rw [Int.toNat_natCast] at p2
    exact q Dl acc H' (fresh_back e1 hD) (e1.trans p3) p1 p2
theorem dpL {a : Addr} {xs : List V} (h : H a = some (.lst xs)) (r : RpAll K H xs ds) (c : D.cleanL ds = true) : Dp K H (.ref a) (.list (D.pyL ds)) := .lst (sq_of h) (r.dp c)
/-- two lists compared as data -/
theorem ev_neLL {es : List D} {n : Nat} (h1 : EvDL K ta σ H ds) (h2 : ∀ H1, Ex H H1 → ∃ b ys, Ev tb σ H1 (.ref b) ∧ H1 b = some (.lst ys) ∧ RpAll K H1 ys es) (fd : ∀ d ∈ ds, d.fine n = true) (fe : ∀ d ∈ es, d.fine n = true) (hn : n + 1 ≤ 64) :
    Ev (tOp (rNeD K) ta tb) σ H (.bl (!PyData.eqvAll (D.pyL ds) (D.pyL es))) := fun H1 a Q q =>
  h1 H1 a _ fun p xs H2 hp b hx rx => by
    obtain ⟨r, ys, ev, hy, ry⟩ := h2 H2 (a.trans b)
    refine ev H2 (Ex.refl _) _ fun H3 c => ?_
    refine ⟨.list (D.pyL ds), .list (D.pyL es), dpL (c _ _ hx) (rx.ex c) (fine_all ds fd).1, dpL (c _ _ hy) (ry.ex c) (fine_all es fe).1, shapedL_of fd hn, shapedL_of fe hn, ?_⟩
    show Q (.bl (!PyData.eqvAll (D.pyL ds) (D.pyL es))) H3
    exact q H3 (b.trans c)
/-- two lists that stand -/
theorem ev_eqLs {a b : Addr} {xs ys : List V} {es : List D} {n : Nat} (h1 : Ev ta σ H (.ref a)) (h2 : Ev tb σ H (.ref b)) (hx : H a = some (.lst xs)) (hy : H b = some (.lst ys)) (rx : RpAll K H xs ds) (ry : RpAll K H ys es) (fd : ∀ d ∈ ds, d.fine n = true) (fe : ∀ d ∈ es, d.fine n = true) (hn : n + 1 ≤ 64) :
    Ev (tOp (rEqD K) ta tb) σ H (.bl (PyData.eqvAll (D.pyL ds) (D.pyL es))) := ev_op h1 h2 fun H1 e Q q => ⟨.list (D.pyL ds), .list (D.pyL es), dpL (e _ _ hx) (rx.ex e) (fine_all ds fd).1, dpL (e _ _ hy) (ry.ex e) (fine_all es fe).1, shapedL_of fd hn, shapedL_of fe hn, q H1 (Ex.refl _)⟩
/-- tuple(xs), xs a list of data -/
theorem ed_tupOf {a : Addr} {xs : List V} (h : Ev ta σ H (.ref a)) (hx : H a = some (.lst xs)) (r : RpAll K H xs ds) : EvD K (tCB (rTupOf K) (tCons ta tNil)) σ H (.tup ds) := fun H1 e Q q =>
  eu_tupOf h (sq_of hx) H1 e Q fun p H2 hp e2 h2 => q (.ref p) H2 e2 (.tup (st_of h2) (r.ex (e.trans e2)))
/-- a property that gives data -/
theorem ed_prop {C a dx : Addr} {fs : List (Str × V)} {sp : Sp} {E : XK} (h : Ev ta σ H (.ref a)) (ha : H a = some (.ins C dx fs)) (k : ∀ H1, Ex H H1 → ∀ Q : VK, RetR K d H1 Q → sp [.ref a] H1 Q E) :
    EvD K (tProp C sp [] E ta) σ H d := fun H1 a1 Q q => h H1 a1 _ fun H2 b => ⟨a, dx, fs, rfl, (a1.trans b) _ _ ha, k H2 (a1.trans b) Q fun v H3 c hv => q v H3 (b.trans c) hv⟩
/-- a method with one argument that gives data -/
theorem ed_meth1 {C a dx : Addr} {fs : List (Str × V)} {m : Str} {sp : Sp} {E : XK} {y : V} (h : Ev ta σ H (.ref a)) (ha : H a = some (.ins C dx fs)) (l : fs.lookup m = none) (hb : ∀ H1, Ex H H1 → Ev tb σ H1 y) (k : ∀ H1, Ex H H1 → ∀ Q : VK, RetR K d H1 Q → sp [.ref a, y] H1 Q E) :
    EvD K (tMeth C m sp [] E ta (tCons tb tNil)) σ H d := fun H1 a1 Q q => h H1 a1 _ fun H2 b => ⟨a, dx, fs, rfl, (a1.trans b) _ _ ha, l, hb H2 (a1.trans b) H2 (Ex.refl _) _ fun H3 c => k H3 ((a1.trans b).trans c) Q fun v H4 g hv => q v H4 ((b.trans c).trans g) hv⟩
theorem rv_addS {a b : Str} (h : a.length + b.length ≤ 100000) : RV (fun x y H Q => ∃ i j, x = .str i ∧ y = .str j ∧ i.length + j.length ≤ sizeLine ∧ Q (.str (i ++ j)) H) (.str a) (.str b) H (.str (a ++ b)) := fun H1 _ Q q => ⟨a, b, rfl, rfl, sz_of h, q H1 (Ex.refl _)⟩
theorem rc_strI {i : Int} (h : i.natAbs.log2 < 1920) : RC (fun xs H Q => ∃ i, xs = [.int i] ∧ i.natAbs.log2 < 1920 ∧ Q (.str (toString i)) H) [.int i] H (.str (toString i)) := fun H1 _ Q q => ⟨i, rfl, h, q H1 (Ex.refl _)⟩
end
theorem range_all {α : Type} (x : α) (l : List α) {n : Nat} (h : l.length = n) : (List.range n).map (fun i => l.getD i x) = l := by
  subst h
  have := map_rangeD (fun y : α => y) x l
  rw [List.map_id''] at this
  · exact this
  · intro y
    rfl
section
variable {K : PySem.W.Frag}
theorem et_neD {σ : L2.St} {H : Hp} {ta tb : TE} {d : K0.D} {n : Nat} (h1 : EvD K ta σ H d) (h2 : EvD K tb σ H d) (fd : d.fine n = true) (hn : n ≤ 64) : EvT (tTest (tOp (rNeD K) ta tb)) σ H false := et_is (et_test (ev_neD h1 h2 fd fd hn)) (by
  rw [eqv_self d (fine_c fd)]
  rfl)
end
section
variable {σ : L2.St} {H H' : Hp} {ta tb te tx : TE} {t u : TT} {tr : TA} {Q : VK} {D : Ends} {tz : TS}
theorem q_par {i j : Nat} (h : tr σ H fun vs H1 => ∃ v w, vs = [v, w] ∧ tz D ((σ.set i (some v)).set j (some w)) H1) : tSeq (tPar i j tr) tz D σ H := h
theorem q_asgX {i : Nat} (h : te σ H fun v H1 => tz D (σ.set i (some v)) H1) : tSeq (tAsg te (gName i)) tz D σ H := h
theorem n_tup (h : tr σ H fun xs H1 => xs.length ≤ sizeLine ∧ ∀ p, H1 p = none → Q (.ref p) (upd H1 p (.tup xs))) : tTup tr σ H Q := h
theorem n_var {i : Nat} {v : V} (h : σ[i]? = some (some v)) (k : Q v H) : tVar i σ H Q := ⟨v, h, k⟩
theorem n_op {r : R2} (h : ta σ H fun x H1 => tb σ H1 fun y H2 => r x y H2 Q) : tOp r ta tb σ H Q := h
theorem n_nil {k : List V → Hp → Prop} (h : k [] H) : tNil σ H k := h
theorem n_if {b : Bool} (h : EvT t σ H b) (h1 : b = true → ∀ H1, Ex H H1 → ta σ H1 Q) (h2 : b = false → ∀ H1, Ex H H1 → tb σ H1 Q) : tIf t ta tb σ H Q := h H (Ex.refl H) _ fun H1 e => by
  cases b with
  | true => exact h1 rfl H1 e
  | false => exact h2 rfl H1 e
theorem c_meth {C p dx : Addr} {fs : List (Str × V)} {m : Str} {sp : Sp} {E : XK} {vs : List V} (h : Ev ta σ H (.ref p)) (hp : H p = some (.ins C dx fs)) (l : fs.lookup m = none) (ha : ∀ H1, Ex H H1 → EvA tr σ H1 vs) (k : ∀ H1, Ex H H1 → sp (.ref p :: vs) H1 Q E) :
    tMeth C m sp [] E ta tr σ H Q := h H (Ex.refl H) _ fun H1 e1 => ⟨p, dx, fs, rfl, e1 _ _ hp, l, ha H1 e1 H1 (Ex.refl _) _ fun H2 e2 => by
  show sp (.ref p :: (vs ++ [])) H2 Q E
  rw [List.append_nil]
  exact k H2 (e1.trans e2)⟩
theorem c_methD {K : PySem.W.Frag} {C p dx : Addr} {fs : List (Str × V)} {m : Str} {sp : Sp} {E : XK} {d : K0.D} (h : Ev ta σ H (.ref p)) (hp : H p = some (.ins C dx fs)) (l : fs.lookup m = none) (ha : ∀ H1, Ex H H1 → EvD K tb σ H1 d) (k : ∀ v H1, Ex H H1 → Rp K H1 v d → sp [.ref p, v] H1 Q E) :
    tMeth C m sp [] E ta (tCons tb tNil) σ H Q := h H (Ex.refl H) _ fun H1 e1 => ⟨p, dx, fs, rfl, e1 _ _ hp, l, ha H1 e1 H1 (Ex.refl _) _ fun v H2 e2 hv => k v H2 (e1.trans e2) hv⟩
end
theorem asc_snoc : ∀ (l : List Int) (y : Int), ascB l = true → (∀ x ∈ l, x < y) → ascB (l ++ [y]) = true
  | [], y, _, _ => rfl
  | [x], y, _, h => by
    show (decide (x < y) && ascB [y]) = true
    rw [decide_eq_true (h x (List.mem_cons_self ..))]
    rfl
  | x :: z :: r, y, h, g => by
    have h' : (decide (x < z) && ascB (z :: r)) = true := h
    have h1 := Bool.and_eq_true_iff.mp h'
    show (decide (x < z) && ascB ((z :: r) ++ [y])) = true
    rw [h1.1, asc_snoc (z :: r) y h1.2 fun w hw => g w (List.mem_cons_of_mem _ hw)]
    rfl
section
variable {K : PySem.W.Frag} {σ : L2.St} {H H' : Hp} {ta tb te tx tn : TE} {t u : TT} {tr : TA} {Q : VK} {D : Ends} {tz : TS} {g : TG}
theorem q_asgG (h : te σ H fun v H1 => g v σ H1 fun σ2 H2 => tz D σ2 H2) : tSeq (tAsg te g) tz D σ H := h
end
section
variable {K : PySem.W.Frag} {σ : L2.St} {H H' : Hp} {ta tb te tx tn : TE} {t u : TT} {tr : TA} {Q : VK} {D : Ends} {tz tu tw : TS}
theorem n_ifS (h : t σ H fun b H1 => if b = true then tu D σ H1 else tw D σ H1) : tIfS t tu tw D σ H := h
theorem n_or {Q : Bool → Hp → Prop} (h : t σ H fun b H1 => if b = true then Q true H1 else u σ H1 Q) : tOr t u σ H Q := h
theorem n_not {Q : Bool → Hp → Prop} (h : t σ H fun b H1 => Q (!b) H1) : tNot t σ H Q := h
theorem n_B {Q : Bool → Hp → Prop} (h : te σ H fun v H1 => ∃ b, v = .bl b ∧ Q b H1) : tB te σ H Q := h
theorem sq_btF {p a : Addr} {xs : List V} {H1 H2 : Hp} (hp : H p = none) (h : SqL K H a xs) (e : Ex H H1) (b : Bt p H1 H2) : SqL K H2 a xs := by
  rcases h with (h | ⟨o, h⟩) | h
  · exact .inl (.inl (b.at (ne_of_none h hp) (e _ _ h)))
  · exact .inl (.inr ⟨o, b.at (ne_of_none h hp) (e _ _ h)⟩)
  · exact .inr h
theorem ev_neVL {a : Addr} {xs : List V} {ds es : List K0.D} {n : Nat} (h1 : Ev ta σ H (.ref a)) (hx : H a = some (.lst xs)) (rx : RpAll K H xs ds) (h2 : EvDA K tr σ H es) (l : es.length ≤ 1000) (fd : ∀ d ∈ ds, d.fine n = true) (fe : ∀ d ∈ es, d.fine n = true) (hn : n + 1 ≤ 64) :
    Ev (tOp (rNeD K) ta (tLst tr)) σ H (.bl (!PyData.eqvAll (K0.D.pyL ds) (K0.D.pyL es))) := fun H1 e Q q =>
  h1 H1 e _ fun H2 e2 => h2 H2 (e.trans e2) _ fun vs H3 e3 r => ⟨by rw [r.len]; exact sz_of (by omega), fun p hp => by
    have e4 := (e.trans e2).trans e3
    refine ⟨.list (K0.D.pyL ds), .list (K0.D.pyL es), dpL ((e4.trans (Ex.new hp)) _ _ hx) (rx.ex (e4.trans (Ex.new hp))) (fine_all ds fd).1, dpL upd_same (r.ex (Ex.new hp)) (fine_all es fe).1, shapedL_of fd hn, shapedL_of fe hn, ?_⟩
    exact q _ ((e2.trans e3).trans (Ex.new hp))⟩
end
section
variable {l : Addr} {H : Hp}
theorem ExT.upd {xs ys : List V} (h : H l = some (.lst xs)) : ExT H (L2.upd H l (.lst ys)) := fun b u hb n => by
  by_cases c : b = l
  · subst c
    rw [h] at hb
    exact absurd (Option.some.inj hb).symm (n xs)
  · rw [upd_ne c]
    exact hb
end
end K0

namespace PySem.SeqAt
open AutoSeq1 (wpAny_loadPart')
open MeetsSeq MeetsSeq2 MeetsSeq3 SeqRoads2
section
variable {prog : Program} {w : World}
/-- != of two tuples whose items are equal, one by one -/
theorem own_tupNe (l b : Addr) (us vs : Array Value) (n m : Nat) (dl db : Option Addr) (sl sb : Array (Option Value)) (hz : us.size = vs.size) : MeetsIn prog w (Builtin.«tuple.__ne__» ⟨[.ref l, .ref b], []⟩) (fun A R s =>
    s.heap.get? l = some { cls := .type "tuple", dict := dl, data := .seq us n, slots := sl } ∧ s.heap.get? b = some { cls := .type "tuple", dict := db, data := .seq vs m, slots := sb } ∧
    (∀ j (h1 : j < us.size) (h2 : j < vs.size), EqIn prog w A.in1 s us[j] vs[j] true) ∧ R (.ok (.ret (.bool false))) s) :=
  .of_wp fun A R s h => by
  obtain ⟨hp, g, d, tk, os⟩ := s
  obtain ⟨hl, hb, he, h⟩ := h
  have sub := AutoSeq1.sub_tuple_tuple
  have lz : (us.toList.zip vs.toList).length = us.size := by simp [hz]
  wp_walk using wpAny_loadPart' hl, wpAny_loadPart' hb, wpAny_forIn_list _ (fun rest c s' => c.1 = none ∧ s' = ⟨hp, g, d, tk, os⟩ ∧ ∃ i, rest = (us.toList.zip vs.toList).drop i) _
  case turn =>
    rintro ⟨y, x⟩ rest c s' ⟨hc, rfl, i, hi⟩
    have lt : i < (us.toList.zip vs.toList).length := by
      rcases Nat.lt_or_ge i (us.toList.zip vs.toList).length with z | z
      · exact z
      · rw [List.drop_of_length_le z] at hi
        cases hi
    have h1 : i < us.size := lz ▸ lt
    have h2 : i < vs.size := hz ▸ h1
    rw [List.drop_eq_getElem_cons lt] at hi
    injection hi with e1 e2
    have ey : y = us[i] := by simpa using congrArg Prod.fst e1
    have ex : x = vs[i] := by simpa using congrArg Prod.snd e1
    subst ey ex
    refine wpAny_bind (he i h1 h2 _ _ ?_)
    wp_walk
    exact ⟨rfl, rfl, i + 1, e2⟩
  case fin =>
    rintro ⟨c1, c2⟩ s' ⟨hc, rfl, _⟩
    have hc' : c1 = none := hc
    subst hc'
    wp_walk
    exact ⟨_, rfl, by simpa [Builtin.Tuple.tupleCompareSizes, bne, hz] using h⟩
  case h => exact ⟨rfl, rfl, 0, rfl⟩
/-- the loop of != over two lists whose items are equal -/
theorem own_lstNeLoop (l b : Addr) (us vs : Array Value) (n m : Nat) (dl db : Option Addr) (sl sb : Array (Option Value)) (hz : us.size = vs.size) : ∀ (k i : Nat), us.size - i = k → MeetsIn prog w (Builtin.«list.__eq__.loop» ⟨[.ref l, .ref b, rawInt i, rawInt 3], []⟩) (fun A R s =>
    s.heap.get? l = some { cls := .type "list", dict := dl, data := .seq us n, slots := sl } ∧ s.heap.get? b = some { cls := .type "list", dict := db, data := .seq vs m, slots := sb } ∧
    (∀ j (h1 : j < us.size) (h2 : j < vs.size), EqIn prog w A.in1 s us[j] vs[j] true) ∧ R (.ok (.ret (.bool false))) s)
  | 0, i, hk => by
    intro A R s h
    obtain ⟨hp, g, d, tk, os⟩ := s
    obtain ⟨hl, hb, he, h⟩ := h
    wp_walk using wpAny_loadPart' hl, wpAny_loadPart' hb
    have o1 : us[((i : Nat) : Int).toNat]? = none := by simp; omega
    have o2 : vs[((i : Nat) : Int).toNat]? = none := by simp; omega
    rw [o1, o2]
    wp_walk using wpAny_loadPart' hl, wpAny_loadPart' hb
    show R (.ok (.ret (.bool (us.size != vs.size)))) _
    rw [hz]
    simpa using h
  | k + 1, i, hk => by
    intro A R s h
    obtain ⟨hp, g, d, tk, os⟩ := s
    obtain ⟨hl, hb, he, h⟩ := h
    wp_walk using wpAny_loadPart' hl, wpAny_loadPart' hb
    have l1 : i < us.size := by omega
    have l2 : i < vs.size := by omega
    have o1 : us[((i : Nat) : Int).toNat]? = some us[i] := by simp [l1]
    have o2 : vs[((i : Nat) : Int).toNat]? = some vs[i] := by simp [l2]
    have next : ((i : Int) + 1) = ((i + 1 : Nat) : Int) := by push_cast; rfl
    rw [o1, o2]
    refine wpAny_bind (he i l1 l2 _ _ ?_)
    wp_walk
    rw [next]
    refine ⟨plainId_quiet plain_eq_loop _, codeAny_builtin entry_eq_loop ?_⟩
    rw [Around.under_plainId plain_eq_loop _]
    exact own_lstNeLoop l b us vs n m dl db sl sb hz k (i + 1) (by omega) A R _ ⟨hl, hb, he, h⟩
theorem own_lstNe (l b : Addr) (us vs : Array Value) (n m : Nat) (dl db : Option Addr) (sl sb : Array (Option Value)) (hz : us.size = vs.size) : MeetsIn prog w (Builtin.«list.__ne__» ⟨[.ref l, .ref b], []⟩) (fun A R s =>
    s.heap.get? l = some { cls := .type "list", dict := dl, data := .seq us n, slots := sl } ∧ s.heap.get? b = some { cls := .type "list", dict := db, data := .seq vs m, slots := sb } ∧
    (∀ j (h1 : j < us.size) (h2 : j < vs.size), EqIn prog w A.in1 s us[j] vs[j] true) ∧ R (.ok (.ret (.bool false))) s) := by
  intro A R s h
  obtain ⟨hp, g, d, tk, os⟩ := s
  obtain ⟨hl, hb, he, h⟩ := h
  have sub := AutoSeq1.sub_list_list
  have nz : ¬ (us.size != vs.size) = true := by simp [hz]
  wp_walk using wpAny_loadPart' hl, wpAny_loadPart' hb
  refine ⟨plainId_quiet plain_eq_loop _, codeAny_builtin entry_eq_loop ?_⟩
  rw [Around.under_plainId plain_eq_loop _]
  exact own_lstNeLoop l b us vs n m dl db sl sb hz _ 0 rfl A R _ ⟨hl, hb, he, h⟩
variable {A : Around} {s : Shared} {l b : Addr} {us vs : Array Value}
theorem own_neT (hl : s.heap.IsTuple l us) (hb : s.heap.IsTuple b vs) (hz : us.size = vs.size) (hu : A.units < cLine) (he : ∀ j (h1 : j < us.size) (h2 : j < vs.size), EqIn prog w A.in1 s us[j] vs[j] true)
    {E Q : Value → Shared → Prop} (h : Q (.bool false) s) : wpAny (model prog w) A (richCompare .NotEq (.ref l) (.ref b)) Q E s := by
  obtain ⟨⟨c1, d1, dt1, s1⟩, o1, k1, n1, e1⟩ := id hl
  obtain ⟨⟨c2, d2, dt2, s2⟩, o2, k2, n2, e2⟩ := id hb
  simp only at k1 e1 k2 e2
  subst k1 e1 k2 e2
  have t1 : s.TypeIs (.ref l) "tuple" := ⟨_, o1, rfl⟩
  have t2 : s.TypeIs (.ref b) "tuple" := ⟨_, o2, rfl⟩
  refine wpAny_richCompare_same_room (op := .NotEq) t1 t2 F.slot_tuple_ne (call_meetsIn F.slot_tuple_ne t1 F.entry_tuple_ne (F.args_tuple_ne_2 _ _) (own_tupNe l b us vs n1 n2 d1 d2 s1 s2 hz) ⟨o1, o2, he, ?_⟩) hu
  exact show Value.bool false ≠ Value.notImplemented ∧ Q (.bool false) s from ⟨(fun x => nomatch x), h⟩
theorem own_neL (hl : s.heap.IsList l us) (hb : s.heap.IsList b vs) (hz : us.size = vs.size) (hu : A.units < cLine) (he : ∀ j (h1 : j < us.size) (h2 : j < vs.size), EqIn prog w A.in1 s us[j] vs[j] true)
    {E Q : Value → Shared → Prop} (h : Q (.bool false) s) : wpAny (model prog w) A (richCompare .NotEq (.ref l) (.ref b)) Q E s := by
  obtain ⟨⟨c1, d1, dt1, s1⟩, o1, k1, n1, e1⟩ := id hl
  obtain ⟨⟨c2, d2, dt2, s2⟩, o2, k2, n2, e2⟩ := id hb
  simp only at k1 e1 k2 e2
  subst k1 e1 k2 e2
  have t1 : s.TypeIs (.ref l) "list" := ⟨_, o1, rfl⟩
  have t2 : s.TypeIs (.ref b) "list" := ⟨_, o2, rfl⟩
  refine wpAny_richCompare_same_room (op := .NotEq) t1 t2 F.slot_list_ne (call_meetsIn F.slot_list_ne t1 F.entry_list_ne (F.args_list_ne_2 _ _) (own_lstNe l b us vs n1 n2 d1 d2 s1 s2 hz) ⟨o1, o2, he, ?_⟩) hu
  exact show Value.bool false ≠ Value.notImplemented ∧ Q (.bool false) s from ⟨(fun x => nomatch x), h⟩
end
end PySem.SeqAt

namespace PySem.SeqAt
open AutoSeq1 (wpAny_loadPart')
open MeetsSeq MeetsSeq2 MeetsSeq3 SeqRoads2
section
variable {prog : Program} {w : World}
/-- a list that is not empty != [] -/
theorem own_lstNe0 (l b : Addr) (us : Array Value) (n m : Nat) (dl db : Option Addr) (sl sb : Array (Option Value)) (hz : us.size ≠ 0) : MeetsIn prog w (Builtin.«list.__ne__» ⟨[.ref l, .ref b], []⟩) (fun A R s =>
    s.heap.get? l = some { cls := .type "list", dict := dl, data := .seq us n, slots := sl } ∧ s.heap.get? b = some { cls := .type "list", dict := db, data := .seq #[] m, slots := sb } ∧ R (.ok (.ret (.bool true))) s) := by
  intro A R s h
  obtain ⟨hp, g, d, tk, os⟩ := s
  obtain ⟨hl, hb, h⟩ := h
  have sub := AutoSeq1.sub_list_list
  have nz : (us.size != (#[] : Array Value).size) = true := by simpa using hz
  wp_walk using wpAny_loadPart' hl, wpAny_loadPart' hb
  all_goals first | exact h | (simp at nz; done) | skip
variable {A : Around} {s : Shared} {l b : Addr} {us : Array Value}
theorem own_neL0 (hl : s.heap.IsList l us) (hb : s.heap.IsList b #[]) (hz : us.size ≠ 0) (hu : A.units < cLine) {E Q : Value → Shared → Prop} (h : Q (.bool true) s) : wpAny (model prog w) A (richCompare .NotEq (.ref l) (.ref b)) Q E s := by
  obtain ⟨⟨c1, d1, dt1, z1⟩, o1, k1, n1, e1⟩ := id hl
  obtain ⟨⟨c2, d2, dt2, z2⟩, o2, k2, n2, e2⟩ := id hb
  simp only at k1 e1 k2 e2
  subst k1 e1 k2 e2
  have t1 : s.TypeIs (.ref l) "list" := ⟨_, o1, rfl⟩
  have t2 : s.TypeIs (.ref b) "list" := ⟨_, o2, rfl⟩
  refine wpAny_richCompare_same_room (op := .NotEq) t1 t2 F.slot_list_ne (call_meetsIn F.slot_list_ne t1 F.entry_list_ne (F.args_list_ne_2 _ _) (own_lstNe0 l b us n1 n2 d1 d2 z1 z2 hz) ⟨o1, o2, ?_⟩) hu
  exact show Value.bool true ≠ Value.notImplemented ∧ Q (.bool true) s from ⟨(fun x => nomatch x), h⟩
end
end PySem.SeqAt
namespace K0
open PySem PySem.Spec PyProof.Rows L2 Evl
section
variable {X : Cx}
/-- != of a list and [] -/
def rNeL0 (K : PySem.W.Frag) : R2 := fun x y H Q => ∃ a b xs, x = V.ref a ∧ y = V.ref b ∧ SqL K H a xs ∧ SqL K H b [] ∧ Q (.bl (!xs.isEmpty)) H
theorem op_neL0 (hu : X.A.units + 64 < cLine) : OpR X (compareOp .NotEq) (rNeL0 X.K) := by
  intro pins s σ H x y v u Q I rx ry h
  obtain ⟨a, b, xs, rfl, rfl, ha, hb, q⟩ := h
  cases rx
  cases ry
  obtain ⟨us, r1, p1, _⟩ := I.list ha
  obtain ⟨ws, r2, p2, _⟩ := I.list hb
  cases r2
  cases xs with
  | nil =>
    cases r1
    exact SeqAt.own_neL p1.isList p2.isList rfl (by omega) (fun j g1 _ => absurd g1 (by simp)) ⟨.bl false, H, I, rfl, q⟩
  | cons y ys =>
    refine SeqAt.own_neL0 p1.isList p2.isList ?_ (by omega) ⟨.bl true, H, I, rfl, q⟩
    cases r1 with
    | cons r1 r2 => simp
end
end K0

namespace K0
open PySem PySem.Spec PyProof.Rows L2 Evl
/-! ### set(a list of whole numbers) -/
abbrev noSet (w : World) : Obj := { cls := .type "set", dict := none, data := .set #[] 0 (.fresh 0 0 (!w.params.followText "set-order")) }
section
variable {P : Program} {w : World} {A : Around} {E : Value → Shared → Prop} {s : Shared}
theorem own_setL {l : Addr} {us : Array Value} (ns : List Int) {Q : Value → Shared → Prop} (h0 : A.handled = none) (hl : s.heap.IsList l us) (hi : IntsAre us.toList ns) (hb : ns.length + 1 < scanBound)
    (h : ∀ (g : Heap) (tk c : Nat), SetR w g s.heap.objs.size (fun j => decide (j ∈ ns)) c → c ≤ ns.length → (∀ b o, s.heap.get? b = some o → g.get? b = some o) → Q (.ref s.heap.objs.size) { s with heap := g, toks := tk }) :
    wpAny (model P w) A (call (.type "set") [.ref l]) Q E s := by
  have zu : us.size = ns.length := by have q := IntsAre.length hi; rwa [Array.length_toList] at q
  obtain ⟨c, tl, hmro⟩ := F.called_set.mro
  have m1 := F.called_set.made
  have m2 := F.called_set.sub
  refine wpAny_call (codeAny_of_tree (show wpAny _ _ (callAny (.type "set") _) _ _ _ from wpAny_pure ⟨Code.quiet_builtin _ (by decide +kernel), codeAny_builtin F.entry_type_call ?_⟩))
  rw [Around.under_plain (weight_type_call_type "set" [.ref l] []) rfl]
  have m3 := F.called_set.notType
  have m4 := F.called_set.canCreate
  have m5 := F.typeCall_set_1 (.ref l)
  repeat (any_goals (first | assumption | wp_step))
  refine codeAny_mono (code_set_led1 (.ref l) (E := E) (Q₁ := fun ob z => ob = .ref s.heap.objs.size ∧ z = { s with heap := s.heap.push (noSet w) }) ⟨rfl, rfl⟩) fun r z hr => ?_
  cases r with
  | error e => exact hr
  | ok fl =>
    cases fl with
    | ret ob =>
      obtain ⟨rfl, rfl⟩ := hr
      have hS : (s.heap.push (noSet w)).get? s.heap.objs.size = some (noSet w) := Heap.get?_push_size _ rfl
      have hT : Shared.TypeIs { s with heap := s.heap.push (noSet w) } (.ref s.heap.objs.size) "set" := ⟨_, hS, rfl⟩
      have m6 := F.called_set.init.lookup
      have m7 := F.called_set.init.bind (.ref s.heap.objs.size)
      repeat (any_goals (first | assumption | wp_step))
      refine codeAny_mono (codeAny_call_builtin (R := wants (fun r z => r = .none ∧ ∃ g tk c, z = { s with heap := g, toks := tk } ∧ SetR w g s.heap.objs.size (fun j => decide (j ∈ ns)) c ∧ c ≤ ns.length ∧ (∀ b o, s.heap.get? b = some o → g.get? b = some o)) E) F.called_set.init.plain F.entry_set_init (check_set_init_1 hT ?_)) fun r z hz => ?_
      · obtain ⟨⟨o1, o2, o3, o4⟩, hol, hcl, nl, hdl⟩ := hl
        simp only at hcl hdl
        subst hcl hdl
        have hol2 : (s.heap.push (noSet w)).get? l = some { cls := .type "list", dict := o2, data := .seq us nl, slots := o4 } := Heap.get?_push_of_some _ hol
        have m8 := F.sub_list_set
        have m9 := F.sub_list_frozenset
        have n1 : (Value.type "list" == Value.type "dict") = false := by decide
        have hl1 : (s.heap.push (noSet w)).IsList l us := ⟨_, hol2, rfl, nl, rfl⟩
        unfold Builtin.«set.__init__» noKeywords Builtin.Frozenset.updateFrom
        generalize hPI : pyIter = PI
        wp_walk
        subst hPI
        refine wpAny_pyIter_list hl1 (wpAny_bind (wpAny_runValue ?_))
        have lt : l < s.heap.objs.size := Heap.lt_size hol
        have h3 : A.in1.in1.in1.handled = none := by simp [h0]
        have nI : l ≠ (s.heap.push (noSet w)).objs.size := by rw [Heap.size_push]; exact Nat.ne_of_lt (Nat.lt_succ_of_lt lt)
        have nS : s.heap.objs.size ∉ [(s.heap.push (noSet w)).objs.size, l] := by
          rw [Heap.size_push]
          simp only [List.mem_cons, List.mem_singleton, List.not_mem_nil, or_false, not_or]
          exact ⟨Nat.ne_of_lt (Nat.lt_succ_self _), Nat.ne_of_gt lt⟩
        have nth : ∀ (i : Nat) (v : Value), us[i]? = some v → ∃ k t, ns[i]? = some k ∧ v = .int k t := fun i v hv => by
          have lt2 : i < ns.length := by rw [← zu]; exact (Array.getElem?_eq_some_iff.mp hv).1
          obtain ⟨t, e⟩ := PyProof.Rows.IntsAre.int_at hi i v (by rw [Array.getElem?_toList]; exact hv)
          refine ⟨ns[i], t, List.getElem?_eq_getElem lt2, ?_⟩
          rw [e, List.getD_eq_getElem?_getD, List.getElem?_eq_getElem lt2] <;> rfl
        refine set_update_ints ((Walks.list h3 _ l nI us).toS) s.heap.objs.size nS ns zu hb nth (us.size - 0) 0 _ (by omega) (Nat.zero_le _) ⟨⟨_, Heap.get?_push_size _ rfl, rfl, rfl⟩, (hl1.push _)⟩ ?iniS ?finS
        case iniS =>
          exact ⟨0, Nat.le_refl 0, setR_new_at (Heap.get?_push_of_some _ hS)⟩
        case finS =>
          intro z c' hm hc' hS'
          obtain ⟨g, g2, d', tk', os'⟩ := z
          obtain rfl : g2 = s.gens := hm.gens
          obtain rfl : d' = s.drawn := hm.drawn
          obtain rfl : os' = s.os := hm.os
          show wpAny _ _ _ _ _ _
          refine wpAny_pure ?_
          show wpAny _ _ (ret Value.none) _ _ _
          rw [zu] at hc'
          refine wpAny_pure ⟨rfl, g, tk', c', rfl, hS', hc', fun b o e => ?_⟩
          have b0 : b < s.heap.objs.size := Heap.lt_size e
          have b2 : b ≠ (s.heap.push (noSet w)).objs.size := by rw [Heap.size_push]; exact Nat.ne_of_lt (Nat.lt_succ_of_lt b0)
          refine hm.heap b o ?_ (Heap.get?_push_of_some _ (Heap.get?_push_of_some _ e))
          simp only [List.mem_cons, List.mem_singleton, List.not_mem_nil, or_false, not_or]
          exact ⟨Nat.ne_of_lt b0, b2⟩
      · cases r with
        | error e => exact hz
        | ok fl2 =>
          cases fl2 with
          | ret rv =>
            obtain ⟨rfl, g, tk, c', rfl, k1, k2, k3⟩ := hz
            repeat (any_goals (first | assumption | wp_step))
            exact h _ _ _ k1 k2 k3
          | _ => exact hz.elim
    | _ => exact hr.elim
end
section
variable {X : Cx}
def rSetL (K : PySem.W.Frag) (w : World) : List V → Hp → VK → Prop := fun vs H Q => ∃ (a : Addr) (ns : List Int), vs = [V.ref a] ∧ SqL K H a (ns.map V.int) ∧ ns.length ≤ 60 ∧
  ∀ (p : Addr) (c : Nat), c ≤ ns.length → H p = none → Q (.ref p) (upd H p (SetO w p (fun j => decide (j ∈ ns)) c))
theorem cr_setL (hc : X.calm = true) : CallR X (.type "set") (rSetL X.K X.w) := by
  intro pins s σ H xs us Q I r h
  obtain ⟨a, ns, rfl, ha, hl, q⟩ := h
  obtain ⟨u, rfl, rx⟩ := vals1 r
  cases rx
  obtain ⟨its, ri, p, _⟩ := I.list ha
  refine own_setL ns (I.ok.hd hc) p.isList (by simpa using intsAre_of ri) (Nat.lt_of_le_of_lt (Nat.succ_le_succ hl) (by decide)) fun g tk c R hcl hk => ?_
  exact ⟨.ref _, upd H s.heap.objs.size (SetO X.w s.heap.objs.size (fun j => decide (j ∈ ns)) c), I.laid (t' := tk) hk (Nat.le_refl _) (setO_new R), rfl, q _ c hcl (I.hok.fresh (Nat.le_refl _))⟩
end
end K0

namespace K0
open PySem PySem.Spec PyProof.Rows L2 Evl
section
variable {X : Cx}
/-! ### d.values(), list(d.values()) -/
def valO (p d : Addr) : HO := .ext fun h => h.IsValuesView p d
def rValsK : V → List V → Hp → VK → Prop := fun x xs H Q => ∃ (a : Addr) (kvs : List (Key × V)), x = .ref a ∧ xs = [] ∧ H a = some (.dK kvs) ∧ ∀ p, H p = none → Q (.ref p) (upd H p (valO p a))
theorem mt_valsK : MtR X "dict.values" rValsK := by
  intro pins s σ H x xs v us Q I rx rxs h
  obtain ⟨a, kvs, rfl, rfl, ha, q⟩ := h
  cases rx
  cases rxs
  obtain ⟨_, hd, va, ra, dd⟩ := (show ObjOk X.prog X.w H s.heap a (.dK kvs) from I.hok a _ ha)
  have hT : s.TypeIs (.ref a) "dict" := dd.typeIs
  refine call_meetsIn PySem.F.slot_dict_values hT PySem.F.entry_dict_values (PySem.F.args_dict_values_1 _) (meets_dict_values (mixKind X.prog X.w) a hd) ⟨⟨va, dd⟩, ?_⟩
  have hf : H s.heap.objs.size = none := I.hok.fresh (Nat.le_refl _)
  have e0 := Heap.get?_push_size s.heap (o := { cls := .type "dict_values", data := .fields #[.ref a] }) rfl
  exact ⟨.ref s.heap.objs.size, upd H s.heap.objs.size (valO s.heap.objs.size a), I.laid (t' := s.toks) (fun b u e => Heap.get?_push_of_some _ e) (Nat.le_refl _) ⟨⟨_, e0, rfl, rfl⟩, ⟨_, e0⟩, fun h1 h2 y k => let ⟨o, ho, r⟩ := y; ⟨o, k o ho, r⟩⟩, rfl, q _ hf⟩
def rListVals : List V → Hp → VK → Prop := fun vs H Q => ∃ (p a : Addr) (kvs : List (Key × V)), vs = [.ref p] ∧ H p = some (valO p a) ∧ H a = some (.dK kvs) ∧ ∀ l, H l = none → Q (.ref l) (upd H l (.lst (kvs.map (·.2))))
theorem cr_listVals (hc : X.calm = true) : CallR X (.type "list") rListVals := by
  intro pins s σ H xs us Q I r h
  obtain ⟨p, a, kvs, rfl, hp, ha, q⟩ := h
  obtain rfl := Vals.ref1 r
  have view : s.heap.IsValuesView p a := (show ObjOk X.prog X.w H s.heap p (valO p a) from I.hok p _ hp).1
  obtain ⟨z, hd, va, ra, dd⟩ := (show ObjOk X.prog X.w H s.heap a (.dK kvs) from I.hok a _ ha)
  obtain ⟨ep, hat⟩ := dd.dictAt
  have hl : kvs.length = va.length := Paired.length ra
  refine PySem.W.kdl_call PySem.W.kdl_values (I.ok.hd hc) (⟨view, hat⟩ : s.heap.IsValuesView p a ∧ s.heap.DictAt (mixKind X.prog X.w) a va ep) (by rw [← hl]; exact z) fun g tk ac c hk hS hacc => ?_
  have hn0 : H s.heap.objs.size = none := I.hok.fresh (Nat.le_refl _)
  have rv : Vals (kvs.map (·.2)) ac.toList := vals_of_at ((List.length_map ..).trans (hl.trans (by rw [Array.length_toList]; exact hacc.1.symm))) fun j x u h1 h2 => by
    rw [List.getElem?_map] at h1
    obtain ⟨k, hk2⟩ := hacc.2 j u (by rw [← h2, Array.getElem?_toList])
    obtain ⟨x0, e0, rx⟩ := KV.at' ra hk2
    rw [e0] at h1
    cases h1
    exact rx
  exact ⟨.ref s.heap.objs.size, upd H s.heap.objs.size (.lst (kvs.map (·.2))), I.laid (t' := tk) hk (Nat.le_refl _) ⟨by rw [List.length_map]; exact z, ac.toList, c, rv, by rw [Array.toArray_toList]; exact hS⟩, rfl, q _ hn0⟩
/-! ### list(d.items()) -/
def rItemsK : V → List V → Hp → VK → Prop := fun x xs H Q => ∃ (a : Addr) (kvs : List (Key × V)), x = .ref a ∧ xs = [] ∧ H a = some (.dK kvs) ∧ ∀ p, H p = none → Q (.ref p) (upd H p (L2.DX.itemsO p a))
theorem mt_itemsK : MtR X "dict.items" rItemsK := by
  intro pins s σ H x xs v us Q I rx rxs h
  obtain ⟨a, kvs, rfl, rfl, ha, q⟩ := h
  cases rx
  cases rxs
  obtain ⟨_, hd, va, ra, dd⟩ := (show ObjOk X.prog X.w H s.heap a (.dK kvs) from I.hok a _ ha)
  obtain ⟨ep, o, es, ho, hx, hdat, _⟩ := dd.dictAt
  refine DT.callItems (es := es) (ep := ep) hd ⟨o, ho, hx, hdat⟩ ?_
  have hf : H s.heap.objs.size = none := I.hok.fresh (Nat.le_refl _)
  exact ⟨.ref s.heap.objs.size, upd H s.heap.objs.size (L2.DX.itemsO s.heap.objs.size a), I.laid (t' := s.toks) (fun b u e => Heap.get?_push_of_some _ e) (Nat.le_refl _) (L2.DX.itemsO_ok (Heap.get?_push_size _ rfl)), rfl, q _ hf⟩
def rListIt : List V → Hp → VK → Prop := fun vs H Q => ∃ (p a : Addr) (kvs : List (Key × V)), vs = [.ref p] ∧ H p = some (L2.DX.itemsO p a) ∧ H a = some (.dK kvs) ∧
  ∀ l (ts : List Addr) H', Ex H H' → H l = none → H' l = some (.lst (ts.map V.ref)) → Paired (fun t kv => H' t = some (.tup [kV kv.1, kv.2])) ts kvs → Q (.ref l) H'
theorem paired_ix {α β : Type} {R : α → β → Prop} : ∀ {xs : List α} {ys : List β}, xs.length = ys.length → (∀ (j : Nat) x y, xs[j]? = some x → ys[j]? = some y → R x y) → Paired R xs ys
  | [], [], _, _ => .nil
  | [], _ :: _, h, _ => by simp at h
  | _ :: _, [], h, _ => by simp at h
  | x :: xs, y :: ys, h, f => .cons (f 0 x y rfl rfl) (paired_ix (by simpa using h) fun j x' y' h1 h2 => f (j + 1) x' y' (by simpa using h1) (by simpa using h2))
theorem cr_listIt (hc : X.calm = true) : CallR X (.type "list") rListIt := by
  intro pins s σ H xs us Q I r h
  obtain ⟨p, a, kvs, rfl, hp, ha, q⟩ := h
  obtain rfl := Vals.ref1 r
  have view : s.heap.IsItemsView p a := (show ObjOk X.prog X.w H s.heap p (L2.DX.itemsO p a) from I.hok p _ hp).1
  obtain ⟨z, hd, va, ra, dd⟩ := (show ObjOk X.prog X.w H s.heap a (.dK kvs) from I.hok a _ ha)
  obtain ⟨ep, hat⟩ := dd.dictAt
  have hl : kvs.length = va.length := Paired.length ra
  refine PySem.W.kdx_call (knd := mixKind X.prog X.w) (kvs := va) (ep := ep) (I.ok.hd hc) view hat (by rw [← hl]; exact z) fun h' tk acc c as hk hS hal hG hacc => ?_
  have I1 : Inv X pins σ H { s with heap := h', toks := tk } := I.kept (t' := tk) hk
  have hn0 : H s.heap.objs.size = none := I.hok.fresh (Nat.le_refl _)
  have nd : as.Nodup := List.Pairwise.imp (fun h => Nat.ne_of_lt h) hG.rise
  have rv : Vals (as.map V.ref) acc.toList := by
    rw [hacc]
    exact vals_maps (fun b : Addr => V.ref b) (fun b => Value.ref b) as fun _ _ => rfl
  have I2 : Inv X pins σ (upd H s.heap.objs.size (.lst (as.map V.ref))) { s with heap := h', toks := tk } :=
    I1.take (h' := h') (t' := tk) (fun b ob _ e => e) (I.fpOk (Nat.le_refl _) hn0) ⟨by rw [List.length_map, hal, ← hl]; exact z, acc.toList, c, rv, by rw [Array.toArray_toList]; exact hS⟩
  obtain ⟨H2, I3, g, qt⟩ := L2.DX.takeT (P := fun b vs => ∃ (j : Nat) (kv : Key × V), as[j]? = some b ∧ kvs[j]? = some kv ∧ vs = [kV kv.1, kv.2]) I as _ I2 nd fun b hb => by
    obtain ⟨j, hj⟩ := List.mem_iff_getElem?.mp hb
    obtain ⟨key, k, x, hkv, his, hg⟩ := hG.pairs j b hj
    obtain ⟨v, hv, rx⟩ := KV.at' ra hkv
    have hbl : s.heap.objs.size ≤ b := Nat.le_of_lt (hG.above b hb)
    refine ⟨hbl, ?_, [kV k, v], ⟨j, (k, v), hj, hv, rfl⟩, fun H3 => ⟨(by rw [sizeLine_eq]; show 2 ≤ 16777216; omega), [key, x], .cons (keyIs_rel his) (.cons rx .nil), ⟨_, hg, rfl, 0, rfl⟩⟩⟩
    rw [upd_ne (Nat.ne_of_gt (hG.above b hb))]
    exact I.hok.fresh hbl
  have gr : ∀ b o, H b = some o → H2 b = some o := fun b o e => g b o (by rw [upd_ne (ne_of_none e hn0)]; exact e)
  refine ⟨.ref s.heap.objs.size, H2, I3, rfl, q _ as H2 gr hn0 (g _ _ upd_same) (paired_ix (by rw [hal, hl]) fun j t kv h1 h2 => ?_)⟩
  obtain ⟨vs, ⟨i, kv', i1, i2, ev⟩, hH⟩ := qt t (List.mem_of_getElem? h1)
  have eij : i = j := (List.getElem?_inj (List.getElem?_eq_some_iff.mp i1).1 nd).mp (i1.trans h1.symm)
  subst eij
  have ee : kv' = kv := Option.some.inj (i2.symm.trans h2)
  rw [ev, ee] at hH
  exact hH
end
end K0

namespace PySem
open AutoSeq1 (wpAny_loadPart')
section
variable {prog : Program} {w : World} {A : Around} {s : Shared}
/-- a new list takes all of a range whose numbers are great -/
theorem own_extBig {R : Result → Shared → Prop} {r : Addr} {a b c : Int} {t u v : Tok} {n : Nat} (h0 : A.handled = none) (h1 : IsRange s.heap r a b c t u v) (h2 : Builtin.Range.small a b c = false)
    (h3 : Builtin.Range.rangeSize a b c = n) (h4 : n ≤ 2 ^ 24) (L : Addr) (res : Value) (m : Nat) (hL : s.heap.get? L = some { cls := .type "list", data := .seq #[] m })
    (k : ∀ g tk ac m', (∀ b o, b ≠ L → s.heap.get? b = some o → g.get? b = some o) → g.get? L = some { cls := .type "list", dict := none, data := .seq ac m', slots := #[] } →
      ItemsOf (fun i v => ∃ t, v = .int (a + i * c) t) ac n → R (.ok (.ret res)) { s with heap := g, toks := tk }) :
    wpAny (model prog w) A.in1 (Builtin.List.listExtendWith (.ref L) (.ref r) res)
      (fun e s' => match e with | .done f => R (.ok f) s' | .again c' => c'.quiet = true ∧ codeAny (model prog w) A c' R s') (fun e s' => R (.error e) s') s := by
  have n1 : L ≠ r := fun e => by rw [e, h1] at hL; simp at hL
  have n2 : L ≠ s.heap.objs.size := Nat.ne_of_lt (Heap.lt_size hL)
  have n3 : L ∉ [s.heap.objs.size] := fun z => n2 (List.mem_singleton.mp z)
  have T := (Walks.longrange (prog := prog) (w := w) (A := A.in1) h0 s.heap.objs.size a c n).toS
  have go : ∀ (h : Heap) (m1 tk : Nat), IsLongIter h s.heap.objs.size (a + ((0 : Nat) : Int) * c) ((n : Int) - ((0 : Nat) : Int)) c → (∀ b o, b ≠ L → s.heap.get? b = some o → h.get? b = some o) →
      h.get? L = some { cls := .type "list", data := .seq #[] m1 } → codeAny (model prog w) A (.builtin "list.extend.loop" ⟨[.ref L, .ref s.heap.objs.size, res], []⟩) R { s with heap := h, toks := tk } := by
    intro h m1 tk hi hk hL1
    refine codeAny_extend_loopS T (by rw [sizeLine_eq]; omega) L n3 res n 0 _ #[] m1 rfl (Nat.zero_le _) hi hL1 (ItemsOf.nil _) fun s' ac m' mv hL' ha => ?_
    rw [Moved.eq_with mv]
    refine k s'.heap s'.toks ac m' (fun b o hb e => mv.heap b o (fun z => ?_) (hk b o hb e)) hL' ha
    rcases List.mem_cons.mp z with z | z
    · exact hb z
    · exact absurd (Heap.lt_size e) (by rw [List.mem_singleton.mp z]; exact Nat.lt_irrefl _)
  unfold Builtin.List.listExtendWith
  refine wpAny_bind (wpAny_typeOf (T := "range") ⟨_, h1, rfl⟩ ?_)
  have f1 : Builtin.List.listSameRef (.ref L) (.ref r) = false := by simp [Builtin.List.listSameRef, n1]
  have f2 : (Value.type "range" == Value.type "list") = false := by decide
  have f3 : (Value.type "range" == Value.type "tuple") = false := by decide
  simp only [f1, f2, f3, Bool.or_false, Bool.false_eq_true, if_false]
  refine wpAny_bind (wpAny_pyIter_longrange h1 h2 ?_)
  refine wpAny_bind (wpAny_holding (wpAny_hint_range (n := n) (Heap.get?_push_of_some _ h1) h3 h4 ?_))
  have i1 : IsLongIter (s.heap.push { cls := .type "longrange_iterator", data := .fields #[rawInt a, rawInt (Builtin.Range.rangeSize a b c), rawInt c] }) s.heap.objs.size (a + ((0 : Nat) : Int) * c) ((n : Int) - ((0 : Nat) : Int)) c := by
    show IsLongIter _ _ _ _ _
    rw [h3]
    simpa using Heap.get?_push_size _ rfl
  have l1 := Heap.get?_push_of_some { cls := .type "longrange_iterator", data := .fields #[rawInt a, rawInt (Builtin.Range.rangeSize a b c), rawInt c] } hL
  refine wpAny_ite_split (fun _ => ?_) (fun _ => wpAny_pure ⟨plainId_quiet F.plain_extend_loop _, go _ m _ i1 (fun b o _ e => Heap.get?_push_of_some _ e) l1⟩)
  refine wpAny_bind (wpAny_rule ?_)
  refine wpAny_bind ?_
  show wpAny _ _ (updateSeq L (·.push .none) >>= fun _ => updateSeq L (·.pop)) _ _ _
  refine wpAny_bind (wpAny_updateSeq l1 rfl ?_)
  have l2 := Heap.get?_update_self (Obj.mapSeq (·.push Value.none)) l1 rfl
  refine wpAny_updateSeq (hz := by seq_fits) l2 rfl ?_
  have l3 := Heap.get?_update_self (Obj.mapSeq (·.pop)) l2 rfl
  refine wpAny_pure ⟨plainId_quiet F.plain_extend_loop _, go _ _ _ ?_ (fun b o hb e => ?_) l3⟩
  · exact (Heap.get?_update_other _ _ n2).trans ((Heap.get?_update_other _ _ n2).trans i1)
  · exact (Heap.get?_update_other _ _ (Ne.symm hb)).trans ((Heap.get?_update_other _ _ (Ne.symm hb)).trans (Heap.get?_push_of_some _ e))
theorem own_initBig {R : Result → Shared → Prop} {r : Addr} {a b c : Int} {t u v : Tok} {n : Nat} (h0 : A.handled = none) (h1 : IsRange s.heap r a b c t u v) (h2 : Builtin.Range.small a b c = false)
    (h3 : Builtin.Range.rangeSize a b c = n) (h4 : n ≤ 2 ^ 24) (L : Addr) (hL : s.heap.get? L = some { cls := .type "list", data := .seq #[] })
    (k : ∀ g tk ac m', (∀ b o, b ≠ L → s.heap.get? b = some o → g.get? b = some o) → g.get? L = some { cls := .type "list", dict := none, data := .seq ac m', slots := #[] } →
      ItemsOf (fun i v => ∃ t, v = .int (a + i * c) t) ac n → R (.ok (.ret .none)) { s with heap := g, toks := tk }) :
    wpAny (model prog w) A.in1 (Builtin.«list.__init__» ⟨[.ref L, .ref r], []⟩)
      (fun e s' => match e with | .done f => R (.ok f) s' | .again c' => c'.quiet = true ∧ codeAny (model prog w) A c' R s') (fun e s' => R (.error e) s') s := by
  have n1 : L ≠ r := fun e => by rw [e, h1] at hL; simp at hL
  show wpAny _ _ (do let old ← Builtin.List.listItems (.ref L); Builtin.List.listUpdate (.ref L) (fun _ => #[]); letGo old.toList.reverse; Builtin.List.listExtendWith (.ref L) (.ref r) .none) _ _ s
  refine wpAny_bind ?_
  unfold Builtin.List.listItems
  refine wpAny_bind (wpAny_seqItems hL rfl (wpAny_pure ?_))
  show wpAny _ _ (updateSeq L (fun _ => #[]) >>= fun _ => letGo (#[] : Array Value).toList.reverse >>= fun _ => Builtin.List.listExtendWith (.ref L) (.ref r) .none) _ _ s
  refine wpAny_bind (wpAny_updateSeq hL rfl ?_)
  have l2 := Heap.get?_update_self (Obj.mapSeq (fun _ => (#[] : Array Value))) hL rfl
  have oth : ∀ b o, b ≠ L → s.heap.get? b = some o → (s.heap.update L (Obj.mapSeq (fun _ => (#[] : Array Value)))).get? b = some o := fun b o hb e => (Heap.get?_update_other _ _ (Ne.symm hb)).trans e
  refine wpAny_bind (wpAny_letGo ?_)
  exact own_extBig h0 (oth r _ (Ne.symm n1) h1) h2 h3 h4 L .none _ l2 fun g tk ac m' hk hL' ha => k g tk ac m' (fun b o hb e => hk b o hb (oth b o hb e)) hL' ha
theorem own_listBig {E Q : Value → Shared → Prop} {r : Addr} {a b c : Int} {t u v : Tok} {n : Nat} (h0 : A.handled = none) (h1 : IsRange s.heap r a b c t u v) (h2 : Builtin.Range.small a b c = false)
    (h3 : Builtin.Range.rangeSize a b c = n) (h4 : n ≤ 2 ^ 24)
    (k : ∀ g tk ac m', (∀ b o, s.heap.get? b = some o → g.get? b = some o) →
      g.get? s.heap.objs.size = some { cls := .type "list", dict := none, data := .seq ac m', slots := #[] } → ItemsOf (fun i v => ∃ t, v = .int (a + i * c) t) ac n → Q (.ref s.heap.objs.size) { s with heap := g, toks := tk }) :
    wpAny (model prog w) A (call (.type "list") [.ref r]) Q E s := by
  refine callType_codes (Q₁ := fun obj s1 => obj = .ref s.heap.objs.size ∧ s1 = { s with heap := s.heap.push { cls := .type "list", data := .seq #[] } }) F.called_list (F.typeCall_list_1 _) F.entry_list_init (code_list_new _ ⟨rfl, rfl⟩) fun obj s1 hs => ?_
  obtain ⟨rfl, rfl⟩ := hs
  have hL : (s.heap.push { cls := .type "list", data := .seq #[] }).get? s.heap.objs.size = some { cls := .type "list", data := .seq #[] } := Heap.get?_push_size _ rfl
  refine ⟨⟨_, hL, rfl⟩, F.args_list_init_2 _ _, own_initBig (A := A.in1) h0 (Heap.get?_push_of_some _ h1) h2 h3 h4 _ hL fun g tk ac m' hk hL' ha => ?_⟩
  exact ⟨rfl, k g tk ac m' (fun b o e => hk b o (Nat.ne_of_lt (Heap.lt_size e)) (Heap.get?_push_of_some _ e)) hL' ha⟩
end
end PySem
namespace K0
open PySem PySem.Spec PyProof.Rows L2 Evl
theorem turn_big {P : Program} {w : World} {K : PySem.W.Frag} {tg : Expr} (it : Addr) (lo : Int) (n : Nat) : Turn P w K tg (Itr lo n) [it] it (fun i h => IsLongIter h it (lo + (i : Nat) * 1) ((n : Int) - (i : Nat)) 1) where
  mem := List.mem_singleton.mpr rfl
  obj := fun i h st b hb => by
    obtain rfl := List.mem_singleton.mp hb
    exact ⟨_, st, fun v z => nomatch (show Data.fields _ = Data.cell v from z)⟩
  keep := fun i h h' st k => k it (List.mem_singleton.mpr rfl) _ st
  item := fun X hP hw hK hc i pins s σ H E I hf st hg => by
    subst hP hw hK
    obtain ⟨g0, g1, g2, g3, g4, g5⟩ := hf it (List.mem_singleton.mpr rfl)
    refine (Walks.longrange (prog := X.prog) (w := X.w) (I.ok.hd hc) it lo 1 n).item i s _ _ hg st fun v h' tk hv st' kk => ?_
    obtain ⟨t, rfl⟩ := hv
    have J := I.turned (h' := h') (t' := tk) (fun b o hb e => kk b o (fun z => hb (List.mem_singleton.mp z)) e) g0 g1 g3 g4 g5
    exact ⟨_, rfl, go_of (s := { s with heap := h', toks := tk }) (n := "longrange_iterator") st' rfl rfl (by decide) ⟨.int (lo + i), H, J, ⟨t, by rw [Int.mul_one]⟩, ⟨rfl, rfl⟩, st', fun b hb => (hf b hb).1⟩⟩
  done := fun X hP hw hK hc i pins s σ H E I hf st hg => by
    subst hP hw hK
    obtain ⟨g0, g1, g2, g3, g4, g5⟩ := hf it (List.mem_singleton.mpr rfl)
    exact wpAny_pyNext_long_end (I.ok.hd hc) st (by have : n ≤ i := hg; omega) fun h' eb => ⟨rfl, I.turned (t' := s.toks) (fun b o hb e => eb b o hb e) g0 g1 g3 g4 g5⟩
  self := fun _ _ _ _ _ st h => wpAny_pyIter_longiter st h
section
variable {X : Cx} {tg : Expr}
/-- a range that was just made, of numbers of any size, walked -/
theorem range_big {pins : List (Addr × Obj)} {σ : L2.St} {H : Hp} {s : Shared} {R : It → Hp → Prop} {E : Value → Shared → Prop} {lo hi : Int} {t u v : Tok} {tk : Nat} (I : Inv X pins σ H s) (q : R (Itr lo (hi - lo).toNat) H) :
    wpAny (model X.prog X.w) X.A (pyIter (.ref s.heap.objs.size)) (PIE X pins σ tg R) E { s with heap := s.heap.push { cls := .type "range", data := .fields #[.int lo t, .int hi u, .int 1 v] }, toks := tk } := by
  have J : Inv X pins σ H { s with heap := s.heap.push { cls := .type "range", data := .fields #[.int lo t, .int hi u, .int 1 v] }, toks := tk } := I.kept fun b o e => Heap.get?_push_of_some _ e
  have e1 : lo + ((0 : Nat) : Int) * 1 = lo := by simp
  have e2 : (((hi - lo).toNat : Nat) : Int) - ((0 : Nat) : Int) = Builtin.Range.rangeSize lo hi 1 := by rw [rangeSize_one]; split <;> omega
  generalize hS : ({ s with heap := s.heap.push { cls := .type "range", data := .fields #[.int lo t, .int hi u, .int 1 v] }, toks := tk } : Shared) = S at J ⊢
  have hr : IsRange S.heap s.heap.objs.size lo hi 1 t u v := by rw [← hS]; exact IsRange.new ..
  have fin : ∀ (ob : Obj) (tn : Nat → Heap → Prop), Turn X.prog X.w X.K tg (Itr lo (hi - lo).toNat) [S.heap.objs.size] S.heap.objs.size tn → tn 0 (S.heap.push ob) → PIE X pins σ tg R (.ref S.heap.objs.size) { S with heap := S.heap.push ob } := fun ob tn T st =>
    ⟨_, [S.heap.objs.size], _, _, H, rfl, J.kept (t' := S.toks) fun b o e => Heap.get?_push_of_some _ e, T, st, fun b hb => by
      obtain rfl := List.mem_singleton.mp hb
      exact J.fpOk (Nat.le_refl _) (J.hok.fresh (Nat.le_refl _)), q⟩
  by_cases c : Builtin.Range.small lo hi 1 = true
  · refine wpAny_pyIter_range hr c (fin _ _ (turn_range _ lo (hi - lo).toNat) ?_)
    show IsRangeIter _ _ (lo + ((0 : Nat) : Int) * 1) ((((hi - lo).toNat : Nat) : Int) - ((0 : Nat) : Int)) 1
    rw [e1, e2]
    exact Heap.get?_push_size _ rfl
  · refine wpAny_pyIter_longrange hr (by simpa using c) (fin _ _ (turn_big _ lo (hi - lo).toNat) ?_)
    show IsLongIter _ _ (lo + ((0 : Nat) : Int) * 1) ((((hi - lo).toNat : Nat) : Int) - ((0 : Nat) : Int)) 1
    rw [e1, e2]
    exact Heap.get?_push_size _ rfl
def iRngB (ta : TA) : TI := fun σ H R => ta σ H fun vs H1 => ∃ i j : Int, vs = [.int i, .int j] ∧ R (Itr i (j - i).toNat) H1
theorem pi_rangeB {a b : Expr} {ta : TA} {p pos : Pos} (hg : Gl X "range") (hm : X.mg "range" = none) (ha : PA X [a, b] ta) (hs : starEach [a, b] X.env = [(false, eval a X.env), (false, eval b X.env)] := by rfl) (hs2 : starEach [b] X.env = [(false, eval b X.env)] := by rfl) :
    PI X tg (.Call (.Name "range" p) [a, b] [] pos) (iRngB ta) := by
  refine ⟨fun pins s σ H R I h => Call_ (ld_blt I hg hm boot_range (PyProof.Rows.callWith_type1 (thn (ha.run pos pins s σ H _ I h) fun us s1 z => ?_) (by rw [hs, hs2]) (by rw [hs2]; rfl)))⟩
  obtain ⟨vs, H1, I1, r1, i, j, rfl, q⟩ := z
  match us, r1 with
  | [_, _], .cons ⟨t, rfl⟩ (.cons ⟨t', rfl⟩ .nil) => exact call_range_2 (range_big I1 q)
/-- list(range(a, b)), numbers of any size -/
def tLstRgB (te : L2.St → Hp → (Int → Int → Hp → Prop) → Prop) : TE := fun σ H Q => te σ H fun a b H1 => (b - a).toNat ≤ 2 ^ 24 ∧ ∀ q, H1 q = none → Q (.ref q) (upd H1 q (.lst (rgV a b)))
theorem pe_listRgB {e : Expr} {te : L2.St → Hp → (Int → Int → Hp → Prop) → Prop} {p pos : Pos} (hc : X.calm = true) (hg : Gl X "list") (hm : X.mg "list" = none) (he : PRg X e te) (na : starEach [e] X.env = (false, eval e X.env) :: starEach [] X.env := by rfl) :
    PE X (.Call (.Name "list" p) [e] [] pos) (tLstRgB te) := by
  refine ⟨fun pins s σ H Q I h => Call_ (ld_blt I hg hm boot_list (PyProof.Rows.callWith_type1 (args_cons (thn (he pins s σ H _ I h) fun x s1 z => args_nil ?_) na) na))⟩
  obtain ⟨r, a, b, t, u, v, H1, rfl, hr, I1, ok, q⟩ := z
  have fin : ∀ (g : Heap) (tk : Nat) (ac : Array Value) (m : Nat), (∀ b o, s1.heap.get? b = some o → g.get? b = some o) → g.get? s1.heap.objs.size = some { cls := .type "list", dict := none, data := .seq ac m, slots := #[] } →
      ItemsOf (fun i v => ∃ t, v = .int (a + i * 1) t) ac (b - a).toNat → EP X pins σ Q (.ref s1.heap.objs.size) { s1 with heap := g, toks := tk } := fun g tk ac m hk e' hi => by
    refine ⟨.ref s1.heap.objs.size, upd H1 s1.heap.objs.size (.lst (rgV a b)), I1.laid hk (Nat.le_refl _) (show ObjOk X.prog X.w _ _ _ (.lst (rgV a b)) from ⟨?_, ac.toList, m, vals_rg hi, ?_⟩), rfl, q _ (I1.hok.fresh (Nat.le_refl _))⟩
    · rw [rgV_length, sizeLine_eq]
      omega
    · rw [Array.toArray_toList]
      exact e'
  by_cases c : Builtin.Range.small a b 1 = true
  · exact call_list_range (n := (b - a).toNat) (I1.ok.hd hc) hr c (rangeSize_nat a b) ok fin
  · exact own_listBig (n := (b - a).toNat) (I1.ok.hd hc) hr (by simpa using c) (rangeSize_nat a b) ok fin
end
end K0

namespace K0
open PySem PySem.Spec PyProof.Rows L2 Evl
theorem eqvT : ∀ ns ms : List Int, PyData.eqvAll (ns.map PyData.int) (ms.map PyData.int) = decide (ns = ms)
  | [], [] => rfl
  | [], m :: ms => by simp [PyData.eqvAll]
  | n :: ns, [] => by simp [PyData.eqvAll]
  | n :: ns, m :: ms => by
    rw [List.map_cons, List.map_cons, PyData.eqvAll, eqvT ns ms, PyData.eqv, Bool.eq_iff_iff]
    simp
theorem dpAll_intsT {K : PySem.W.Frag} {H : Hp} : ∀ ns : List Int, DpAll K H (ns.map V.int) (ns.map PyData.int)
  | [] => .nil
  | n :: ns => .cons (.int n) (dpAll_intsT ns)
theorem layT : ∀ ns : List Int, PyData.canLayAll0 (ns.map PyData.int) = true
  | [] => rfl
  | n :: ns => by
    rw [List.map_cons]
    simp only [PyData.canLayAll0, layT ns, Bool.and_true]
    rfl
theorem depthT : ∀ ns : List Int, PyData.depthAll (ns.map PyData.int) = 0
  | [] => rfl
  | n :: ns => by
    rw [List.map_cons]
    simp only [PyData.depthAll, depthT ns]
    rfl
theorem shapedT (ns : List Int) : SeqAt.shaped (.list (ns.map PyData.int)) = true := by
  unfold SeqAt.shaped
  have h1 : (PyData.list (ns.map PyData.int)).canLay0 = true := by simp only [PyData.canLay0, layT]
  have h2 : (PyData.list (ns.map PyData.int)).depth ≤ 64 := by
    simp only [PyData.depth, depthT]
    omega
  rw [h1, decide_eq_true h2]
  rfl
theorem shapedTT (ns : List Int) : SeqAt.shaped (.tuple (ns.map PyData.int)) = true := by
  unfold SeqAt.shaped
  have h1 : (PyData.tuple (ns.map PyData.int)).canLay0 = true := by simp only [PyData.canLay0, layT]
  have h2 : (PyData.tuple (ns.map PyData.int)).depth ≤ 64 := by
    simp only [PyData.depth, depthT]
    omega
  rw [h1, decide_eq_true h2]
  rfl
theorem flat_ints (ns : List Int) : (ns.map V.int).all flatV = true := by
  rw [List.all_map]
  exact List.all_eq_true.mpr fun _ _ => rfl
section
variable {X : Cx}
/-- t.index(i), whole numbers -/
def rTupIx (K : PySem.W.Frag) : V → List V → Hp → VK → Prop := fun x xs H Q => ∃ (p : Addr) (ns : List Int) (z : Int) (j : Nat), x = .ref p ∧ xs = [.int z] ∧ SqT K H p (ns.map V.int) ∧ ns[j]? = some z ∧ (∀ m, m < j → ns[m]? ≠ some z) ∧ Q (.int (j : Nat)) H
theorem mt_tupIx : MtR X "tuple.index" (rTupIx X.K) := by
  intro pins s σ H x xs v us Q I rx rs h
  obtain ⟨p, ns, z, j, rfl, rfl, hq, hy, hno, q⟩ := h
  cases rx
  obtain ⟨u, rfl, t, rfl⟩ := vals1 rs
  obtain ⟨its, r, pl, hz⟩ := I.tuple hq
  obtain ⟨⟨c0, d0, e0, l0⟩, ho, hc, n, hd⟩ := pl
  simp only at hc hd
  subst hc hd
  have sz : its.toArray.size = ns.length := by rw [List.size_toArray, ← r.length, List.length_map]
  have lt : j < its.toArray.size := by rw [sz]; exact (List.getElem?_eq_some_iff.mp hy).1
  have nth : ∀ (m : Nat) (hm : m < its.toArray.size), ∃ y t', ns[m]? = some y ∧ its.toArray[m] = Value.int y t' := fun m hm => by
    have g : m < ns.length := by rw [← sz]; exact hm
    obtain ⟨u, hu, t', hu'⟩ := r.get (i := m) (x := .int ns[m]) (by simp [g])
    refine ⟨ns[m], t', List.getElem?_eq_getElem g, ?_⟩
    have e := (List.getElem?_eq_some_iff.mp hu).2
    rw [← hu', ← e]
    simp
  refine call_meets PySem.F.slot_tuple_index ⟨_, ho, rfl⟩ PySem.F.entry_tuple_index (PySem.F.args_tuple_index_2 _ _) (TI.tuple_indexAt p its.toArray n d0 l0 (.int z t) (eqU (.int z)) j lt ?_ ?_)
    ⟨ho, fun u hu => mem_eqAt (x := .int z) ⟨t, rfl⟩ rfl r (flat_ints ns) u (by simpa using hu), ⟨.int (j : Nat), H, I.tok _, ⟨_, rfl⟩, q⟩⟩
  · obtain ⟨y, t', h1, h2⟩ := nth j lt
    rw [hy] at h1
    cases h1
    rw [h2]
    exact decide_eq_true (rfl : z = z)
  · intro m hm hmj
    obtain ⟨y, t', h1, h2⟩ := nth m hm
    rw [h2]
    exact beq_eq_false_iff_ne.mpr fun e => hno m hmj (by rw [h1]; exact congrArg some e)
end
section
variable {X : Cx} {es : List Expr} {ta : TA} {pos : Pos}
/-- (a, b ..): a tuple of which it is known that it has no dict -/
def tTupF (ta : TA) : TE := fun σ H Q => ta σ H fun xs H1 => xs.length ≤ sizeLine ∧ ∀ p o, H1 p = none → o.cls = .type "tuple" → o.dict = none → Q (.ref p) (upd H1 p (.frz o (.tup xs)))
theorem pe_tupF {x1} (h : PA X es ta) : PE X (.Tuple es x1 pos) (tTupF ta) := by
  refine ⟨fun pins s σ H Q I hq => wpAny_Tuple_spliced (thn (h.run pos pins s σ H _ I hq) fun us s1 z => ?_)⟩
  obtain ⟨xs, H1, I1, r, l, q⟩ := z
  refine ⟨by rw [← r.length]; exact l, ?_⟩
  have hk := Heap.get?_push_size s1.heap (o := { cls := .type "tuple", data := .seq us.toArray }) rfl
  exact ⟨.ref s1.heap.objs.size, _, I1.laid (o := .frz { cls := .type "tuple", data := .seq us.toArray } (.tup xs)) (t' := s1.toks) (fun b u e => Heap.get?_push_of_some _ e) (Nat.le_refl _) ⟨hk, l, us, r, _, hk, rfl, _, rfl⟩, rfl, q _ _ (I1.hok.fresh (Nat.le_refl _)) rfl rfl⟩
/-- tuple(xs), likewise -/
def rTupF (K : PySem.W.Frag) : List V → Hp → VK → Prop := fun xs H Q => ∃ p ys, xs = [.ref p] ∧ SqL K H p ys ∧ ∀ l o, H l = none → o.cls = .type "tuple" → o.dict = none → Q (.ref l) (upd H l (.frz o (.tup ys)))
theorem cr_tupF : CallR X (.type "tuple") (rTupF X.K) := by
  intro pins s σ H xs us Q I r h
  obtain ⟨p, ys, rfl, hq, q⟩ := h
  obtain ⟨u, rfl, rx⟩ := vals1 r
  cases rx
  obtain ⟨its, r', pl, hz⟩ := I.list hq
  refine call_tuple_list pl.isList (fun h' kp => ?_) (by have := r'.length; simp only [List.size_toArray]; omega)
  have J : Inv X pins σ H { s with heap := h' } := I.kept (t' := s.toks) kp
  have hk := Heap.get?_push_size h' (o := { cls := .type "tuple", data := .seq its.toArray }) rfl
  exact ⟨.ref h'.objs.size, _, J.laid (o := .frz { cls := .type "tuple", data := .seq its.toArray } (.tup ys)) (t' := s.toks) (fun b o e => Heap.get?_push_of_some _ e) (Nat.le_refl _) ⟨hk, hz, its, r', _, hk, rfl, _, rfl⟩, rfl, q _ _ (J.hok.fresh (Nat.le_refl _)) rfl rfl⟩
/-- t.index(i), t a tuple of which it is known that it has no dict -/
def tTIx (K : PySem.W.Frag) (to : TE) (t : TA) : TE := fun σ H Q => to σ H fun x H1 => ∃ (p : Addr) (o : Obj) (ns : List Int), x = .ref p ∧ H1 p = some (.frz o (.tup (List.map V.int ns))) ∧ o.cls = .type "tuple" ∧ o.dict = none ∧ t σ H1 fun xs H2 => rTupIx K x xs H2 Q
theorem pe_tIx {o e : Expr} {to : TE} {apos cpos : Pos} (ho : PE X o to) (ha : PA X [e] ta)
    (hbase : attributeBase o "index" X.env (eval o X.env) = eval o X.env := by rfl)
    (hfew : ((backTo cpos (starEach [e] X.env)).all (fun x => !x.1) && (backToKw cpos (keywordEach [] X.env)).all (fun x => x.1.isSome) && decide ([e].length + ([] : List Keyword).length + (if ([] : List Keyword).isEmpty then 0 else 1) < 30)) = true := by rfl)
    (hline : (apos.endLine == cpos.line) = true := by rfl) (hs : starEach [e] X.env = [(false, eval e X.env)] := by rfl) : PE X (.Call (.Attribute o "index" apos) [e] [] cpos) (tTIx X.K to ta) := by
  refine ⟨fun pins s σ H Q I h => wpAny_Call_method_late hbase hfew hline rfl (thn (ho.run pins s σ H _ I h) fun v s1 z => ?_)⟩
  obtain ⟨x, H1, I1, r1, p, ob, ns, rfl, hp, hc, hd, q1⟩ := z
  cases r1
  have g := (I1.hok p _ hp).1
  refine ⟨"tuple", "tuple.index", PySem.F.plainAttrs_tuple, PySem.F.slot_tuple_index, PySem.F.type_tuple_index, ⟨ob, g, hc⟩, fun a e => by cases e; exact ⟨ob, g, hd⟩, ?_⟩
  have hA := ha.run cpos pins s1 σ H1 _ I1 q1
  rw [hs] at hA ⊢
  exact Calls.callWith_builtin rfl (Calls.evalArgs_plain (thn hA fun us s2 ⟨vs, H2, I2, r2, q2⟩ => mt_tupIx pins s2 σ H2 (.ref p) vs (.ref p) us Q I2 rfl r2 q2))
end
/-- a tuple without a dict -/
def TupN (H : Hp) (p : Addr) (xs : List V) : Prop := ∃ o, H p = some (.frz o (.tup xs)) ∧ o.cls = .type "tuple" ∧ o.dict = none
theorem TupN.sq {K : PySem.W.Frag} {H : Hp} {p : Addr} {xs : List V} (h : TupN H p xs) : SqT K H p xs := let ⟨o, h, _⟩ := h; .inl (.inr ⟨o, h⟩)
theorem TupN.ex {H H' : Hp} {p : Addr} {xs : List V} (e : Ex H H') (h : TupN H p xs) : TupN H' p xs := let ⟨o, h, c, d⟩ := h; ⟨o, e _ _ h, c, d⟩
theorem TupN.exT {H H' : Hp} {p : Addr} {xs : List V} (e : ExT H H') (h : TupN H p xs) : TupN H' p xs := let ⟨o, h, c, d⟩ := h; ⟨o, e _ _ h (fun _ z => nomatch z), c, d⟩
section
variable {K : PySem.W.Frag} {σ : L2.St} {H H' : Hp} {ta tb te tx : TE} {tr : TA} {t u : TT} {x y z v : V} {Q : VK}
theorem ev_tIx {p : Addr} {ns : List Int} {i : Int} {j : Nat} (h : Ev ta σ H (.ref p)) (hp : TupN H p (ns.map V.int)) (hi : Ev tb σ H (.int i)) (hj : ns[j]? = some i) (hn : ns.Nodup) : Ev (tTIx K ta (tCons tb tNil)) σ H (.int (j : Nat)) := fun H1 e Q q =>
  h H1 e _ fun H2 e2 => by
    obtain ⟨o, ho, hc, hd⟩ := hp
    refine ⟨p, o, ns, rfl, (e.trans e2) _ _ ho, hc, hd, hi H2 (e.trans e2) _ fun H3 e3 => ⟨p, ns, i, j, rfl, rfl, .inl (.inr ⟨o, ((e.trans e2).trans e3) _ _ ho⟩), hj, fun m hm hz => ?_, q H3 (e2.trans e3)⟩⟩
    have := nd_ix hn hz hj
    omega
/-- != of two new lists of whole numbers -/
theorem ev_neI {ns ms : List Int} (ha : EvL ta σ H (ns.map V.int)) (hb : EvL tb σ H (ms.map V.int)) : Ev (tOp (rNeD K) ta tb) σ H (.bl (!decide (ns = ms))) := ev_opLL ha hb fun p q H1 h1 h2 _ H2 e Q k => by
  refine ⟨.list (ns.map PyData.int), .list (ms.map PyData.int), .lst (sq_of (e _ _ h1)) (dpAll_intsT ns), .lst (sq_of (e _ _ h2)) (dpAll_intsT ms), shapedT ns, shapedT ms, ?_⟩
  have : PyData.eqv (.list (ns.map PyData.int)) (.list (ms.map PyData.int)) = decide (ns = ms) := by rw [PyData.eqv, eqvT]
  rw [this]
  exact k H2 (Ex.refl _)
end
end K0

namespace K0
open PySem PySem.Spec PyProof.Rows L2 Evl
/-! ### what compares equal, dicts among it -/
inductive Sam (K : PySem.W.Frag) (H : Hp) : Nat → V → V → Prop where
  | data {n : Nat} {x y : V} {d e : PyData} : Dp K H x d → Dp K H y e → d.canLay0 = true → e.canLay0 = true → d.depth ≤ n → PyData.eqv d e = true → Sam K H n x y
  | dict {n : Nat} {a b : Addr} {ks ls : List (Key × V)} : H a = some (.dK ks) → H b = some (.dK ls) → ks.length = ls.length → (∀ p ∈ ks, valV ls p.1 = some p.2 ∧ flatB p.2 = true) → Sam K H (n + 1) (.ref a) (.ref b)
  | tup {n : Nat} {a b : Addr} {xs ys : List V} : SqT K H a xs → SqT K H b ys → xs.length = ys.length → (∀ (j : Nat) (x y : V), xs[j]? = some x → ys[j]? = some y → Sam K H n x y) → Sam K H (n + 1) (.ref a) (.ref b)
  | lst {n : Nat} {a b : Addr} {xs ys : List V} : SqL K H a xs → SqL K H b ys → xs.length = ys.length → (∀ (j : Nat) (x y : V), xs[j]? = some x → ys[j]? = some y → Sam K H n x y) → Sam K H (n + 1) (.ref a) (.ref b)
theorem Sam.ex {K : PySem.W.Frag} {H H' : Hp} (e : Ex H H') {n : Nat} {x y : V} (h : Sam K H n x y) : Sam K H' n x y := by
  induction h with
  | data h1 h2 c1 c2 l q => exact .data (dp_ex e h1) (dp_ex e h2) c1 c2 l q
  | dict h1 h2 l q => exact .dict (e _ _ h1) (e _ _ h2) l q
  | tup h1 h2 l _ ih => exact .tup (ex_t e h1) (ex_t e h2) l ih
  | lst h1 h2 l _ ih => exact .lst (ex_l e h1) (ex_l e h2) l ih
where
  dp_ex {K : PySem.W.Frag} {H H' : Hp} (e : Ex H H') {v : V} {d : PyData} : Dp K H v d → Dp K H' v d
    | .non => .non
    | .bl b => .bl b
    | .int i => .int i
    | .str s => .str s
    | .lst h r => .lst (ex_l e h) (dpa_ex e r)
    | .tup h r => .tup (ex_t e h) (dpa_ex e r)
  dpa_ex {K : PySem.W.Frag} {H H' : Hp} (e : Ex H H') {vs : List V} {ds : List PyData} : DpAll K H vs ds → DpAll K H' vs ds
    | .nil => .nil
    | .cons h r => .cons (dp_ex e h) (dpa_ex e r)
theorem kv_mem {κ : Type} : ∀ {ks : List (κ × V)} {va : List (κ × Value)}, KV ks va → ∀ p ∈ va, ∃ k ∈ ks, k.1 = p.1 ∧ RelV k.2 p.2 := fun {ks va} r => by
  unfold KV at r
  induction r with
  | nil =>
    intro p hp
    cases hp
  | @cons a b as bs hh _ ih =>
    intro p hp
    rcases List.mem_cons.mp hp with rfl | hp
    · exact ⟨a, List.mem_cons_self .., hh⟩
    · obtain ⟨k, hk, z⟩ := ih p hp
      exact ⟨k, List.mem_cons_of_mem _ hk, z⟩
theorem all_yes {α : Type} (l : List α) : (l.all fun _ => true) = true := List.all_eq_true.mpr fun _ _ => rfl
theorem vals_at {xs : List V} {us : List Value} (r : Vals xs us) (j : Nat) (h : j < us.toArray.size) : ∃ x, xs[j]? = some x ∧ RelV x us.toArray[j] := by
  have h' : j < us.length := by simpa using h
  have e : us.toArray[j] = us[j] := by simp
  rw [e]
  clear e h
  induction r generalizing j with
  | nil => exact absurd h' (Nat.not_lt_zero j)
  | cons a b ih =>
    cases j with
    | zero => exact ⟨_, rfl, a⟩
    | succ j => exact ih j (Nat.lt_of_succ_lt_succ h')
section
variable {X : Cx} {pins : List (Addr × Obj)} {σ : L2.St} {H : Hp} {s : Shared}
theorem sam_tree (I : Inv X pins σ H s) {n : Nat} {x y : V} (h : Sam X.K H n x y) : ∀ v u, RelV x v → RelV y u → PySem.W.EqTree X.prog X.w s n v u true := by
  induction h with
  | data h1 h2 c1 c2 l q =>
    intro v u rx ry
    obtain ⟨as, r1⟩ := Dp.reads I _ _ v h1 rx
    obtain ⟨bs, r2⟩ := Dp.reads I _ _ u h2 ry
    refine .leaf fun A hu => ?_
    have := SeqAt.eqAt_reads _ _ A s v u as bs r1 r2 c1 c2 (by omega)
    rw [q] at this
    exact this
  | @dict n a b ks ls h1 h2 l q =>
    intro v u rx ry
    cases (show v = Value.ref a from rx)
    cases (show u = Value.ref b from ry)
    by_cases ab : a = b
    · subst ab
      exact .same
    obtain ⟨_, ya, va, ra, da⟩ := (show ObjOk X.prog X.w H s.heap a (.dK ks) from I.hok a _ h1)
    obtain ⟨_, yb, vb, rb, db⟩ := (show ObjOk X.prog X.w H s.heap b (.dK ls) from I.hok b _ h2)
    have lv : va.length = vb.length := by rw [← ra.length, ← rb.length]; exact l
    -- each pair of the one is found in the other
    have hit : ∀ p ∈ va, ∃ w', valueAt vb p.1 = some w' ∧ SeqAt.EqAt X.A s p.2 w' true ∧ ∀ A : Around, SeqAt.EqAt A s p.2 w' true := fun p hp => by
      obtain ⟨k, hk, e1, r1⟩ := kv_mem ra p hp
      obtain ⟨g1, g2⟩ := q k hk
      rw [e1] at g1
      have rr := rb.val p.1
      rw [g1] at rr
      obtain ⟨w', hw, rw'⟩ := rr.some_of
      exact ⟨w', hw, eqAt_same r1 rw' g2, fun A => eqAt_same r1 rw' g2⟩
    have t := PySem.W.EqTree.dicts (prog := X.prog) (w := X.w) (s := s) (knd := mixKind X.prog X.w) (n := n) (e := fun _ => true) ab ya yb da db fun k v y hm hv => by
      obtain ⟨w', hw, _, hq⟩ := hit (k, v) hm
      rw [hv] at hw
      cases hw
      exact .leaf fun A _ => hq A
    have e : (va.length == vb.length && va.all fun p => (valueAt vb p.1).isSome && true) = true := by
      rw [lv, beq_self_eq_true, Bool.true_and]
      refine List.all_eq_true.mpr fun p hp => ?_
      obtain ⟨w', hw, _⟩ := hit p hp
      rw [hw]
      rfl
    rw [e] at t
    exact t
  | @tup n a b xs ys h1 h2 l _ ih =>
    intro v u rx ry
    cases (show v = Value.ref a from rx)
    cases (show u = Value.ref b from ry)
    by_cases ab : a = b
    · subst ab
      exact .same
    obtain ⟨us, r1, p1, _⟩ := I.tuple h1
    obtain ⟨ws, r2, p2, _⟩ := I.tuple h2
    have sz : us.toArray.size = ws.toArray.size := by
      rw [List.size_toArray, List.size_toArray, ← r1.length, ← r2.length]
      exact l
    have t := PySem.W.EqTree.tuples (prog := X.prog) (w := X.w) (s := s) (n := n) (e := fun _ => true) ab p1 p2 fun j g1 g2 => by
      obtain ⟨x, hx, a1⟩ := vals_at r1 j g1
      obtain ⟨y, hy, a2⟩ := vals_at r2 j g2
      exact ih j x y hx hy _ _ a1 a2
    rw [all_yes, sz, beq_self_eq_true] at t
    exact t
  | @lst n a b xs ys h1 h2 l _ ih =>
    intro v u rx ry
    cases (show v = Value.ref a from rx)
    cases (show u = Value.ref b from ry)
    by_cases ab : a = b
    · subst ab
      exact .same
    obtain ⟨us, r1, p1, _⟩ := I.list h1
    obtain ⟨ws, r2, p2, _⟩ := I.list h2
    have sz : us.toArray.size = ws.toArray.size := by
      rw [List.size_toArray, List.size_toArray, ← r1.length, ← r2.length]
      exact l
    have t := PySem.W.EqTree.lists (prog := X.prog) (w := X.w) (s := s) (n := n) (e := fun _ => true) ab p1.isList p2.isList sz fun j g1 g2 => by
      obtain ⟨x, hx, a1⟩ := vals_at r1 j g1
      obtain ⟨y, hy, a2⟩ := vals_at r2 j g2
      exact ih j x y hx hy _ _ a1 a2
    rw [all_yes] at t
    exact t
end
/-- x == y, x != y of what is equal -/
def rEqS (K : PySem.W.Frag) : R2 := fun x y H Q => ∃ n, n ≤ 40 ∧ Sam K H n x y ∧ Q (.bl true) H
def rNeS (K : PySem.W.Frag) : R2 := fun x y H Q => ∃ n, n ≤ 40 ∧ Sam K H n x y ∧ Q (.bl false) H
section
variable {X : Cx}
theorem op_eqS (hu : X.A.units + 64 < cLine) : OpR X (compareOp .Eq) (rEqS X.K) := by
  intro pins s σ H x y v u Q I rx ry h
  obtain ⟨n, hn, h, q⟩ := h
  cases h with
  | data h1 h2 c1 c2 l qq =>
    obtain ⟨as, r1⟩ := Dp.reads I _ _ v h1 rx
    obtain ⟨bs, r2⟩ := Dp.reads I _ _ u h2 ry
    exact SeqAt.compareEq_reads r1 r2 c1 c2 (by omega) (by rw [qq]; exact ⟨.bl true, H, I, rfl, q⟩)
  | @dict n a b ks ls h1 h2 l g =>
    exact op_eq_dictA (X := X) (by omega) pins s σ H _ _ v u Q I rx ry ⟨a, b, ks, ls, rfl, rfl, h1, h2, l, g, q⟩
  | @tup n a b xs ys h1 h2 l g =>
    cases (show v = Value.ref a from rx)
    cases (show u = Value.ref b from ry)
    obtain ⟨us, r1, p1, _⟩ := I.tuple h1
    obtain ⟨ws, r2, p2, _⟩ := I.tuple h2
    have sz : us.toArray.size = ws.toArray.size := by
      rw [List.size_toArray, List.size_toArray, ← r1.length, ← r2.length]
      exact l
    refine PySem.W.eq_tuplesT (n := n) (e := fun _ => true) p1 p2 (fun j g1 g2 => ?_) (by omega) ?_
    · obtain ⟨x, hx, a1⟩ := vals_at r1 j g1
      obtain ⟨y, hy, a2⟩ := vals_at r2 j g2
      exact sam_tree I (g j x y hx hy) _ _ a1 a2
    · rw [all_yes, sz, beq_self_eq_true]
      exact ⟨.bl true, H, I, rfl, q⟩
  | @lst n a b xs ys h1 h2 l g =>
    cases (show v = Value.ref a from rx)
    cases (show u = Value.ref b from ry)
    obtain ⟨us, r1, p1, _⟩ := I.list h1
    obtain ⟨ws, r2, p2, _⟩ := I.list h2
    have sz : us.toArray.size = ws.toArray.size := by
      rw [List.size_toArray, List.size_toArray, ← r1.length, ← r2.length]
      exact l
    refine PySem.W.eq_listsT (n := n) (e := fun _ => true) p1.isList p2.isList sz (fun j g1 g2 => ?_) (by omega) ?_
    · obtain ⟨x, hx, a1⟩ := vals_at r1 j g1
      obtain ⟨y, hy, a2⟩ := vals_at r2 j g2
      exact sam_tree I (g j x y hx hy) _ _ a1 a2
    · rw [all_yes]
      exact ⟨.bl true, H, I, rfl, q⟩
theorem op_neS (hu : X.A.units + 64 < cLine) : OpR X (compareOp .NotEq) (rNeS X.K) := by
  intro pins s σ H x y v u Q I rx ry h
  obtain ⟨n, hn, h, q⟩ := h
  cases h with
  | data h1 h2 c1 c2 l qq =>
    obtain ⟨as, r1⟩ := Dp.reads I _ _ v h1 rx
    obtain ⟨bs, r2⟩ := Dp.reads I _ _ u h2 ry
    exact SeqAt.compareNe_reads r1 r2 c1 c2 (by omega) (by rw [qq]; exact ⟨.bl false, H, I, rfl, q⟩)
  | @dict n a b ks ls h1 h2 l g =>
    exact op_ne_dictA (X := X) (by omega) pins s σ H _ _ v u Q I rx ry ⟨a, b, ks, ls, rfl, rfl, h1, h2, l, g, q⟩
  | @tup n a b xs ys h1 h2 l g =>
    cases (show v = Value.ref a from rx)
    cases (show u = Value.ref b from ry)
    obtain ⟨us, r1, p1, _⟩ := I.tuple h1
    obtain ⟨ws, r2, p2, _⟩ := I.tuple h2
    have sz : us.toArray.size = ws.toArray.size := by
      rw [List.size_toArray, List.size_toArray, ← r1.length, ← r2.length]
      exact l
    refine SeqAt.own_neT p1 p2 sz (by omega) (fun j g1 g2 => ?_) ⟨.bl false, H, I, rfl, q⟩
    obtain ⟨x, hx, a1⟩ := vals_at r1 j g1
    obtain ⟨y, hy, a2⟩ := vals_at r2 j g2
    exact (sam_tree I (g j x y hx hy) _ _ a1 a2).at X.A.in1 (by show X.A.units + 1 + n < cLine; omega)
  | @lst n a b xs ys h1 h2 l g =>
    cases (show v = Value.ref a from rx)
    cases (show u = Value.ref b from ry)
    obtain ⟨us, r1, p1, _⟩ := I.list h1
    obtain ⟨ws, r2, p2, _⟩ := I.list h2
    have sz : us.toArray.size = ws.toArray.size := by
      rw [List.size_toArray, List.size_toArray, ← r1.length, ← r2.length]
      exact l
    refine SeqAt.own_neL p1.isList p2.isList sz (by omega) (fun j g1 g2 => ?_) ⟨.bl false, H, I, rfl, q⟩
    obtain ⟨x, hx, a1⟩ := vals_at r1 j g1
    obtain ⟨y, hy, a2⟩ := vals_at r2 j g2
    exact (sam_tree I (g j x y hx hy) _ _ a1 a2).at X.A.in1 (by show X.A.units + 1 + n < cLine; omega)
end
end K0

namespace K0
open PySem PySem.Spec PyProof.Rows L2 Evl
open AutoSeq1 (wpAny_loadPart')
/-! ### enumerate(t), t a tuple -/
theorem own_enumNew (l : Addr) (us : Array Value) (n : Nat) (dd : Option Addr) (sl : Array (Option Value)) : Meets (Builtin.«enumerate.__new__» ⟨[.type "enumerate", .ref l], []⟩) (fun _ R s =>
    s.heap.get? l = some { cls := .type "tuple", dict := dd, data := .seq us n, slots := sl } ∧ R (.ok (.ret (.ref (s.heap.objs.size + 1))))
      { s with heap := (s.heap.push { cls := .type "tuple_iterator", data := .fields #[.ref l, .int 0 0] }).push { cls := .type "enumerate", data := .fields #[.none, .bool false, .ref s.heap.objs.size, rawInt 0, .none, .none] } }) :=
  .of_wp fun prog w A R s h => by
  obtain ⟨hp, g, d, tk, os⟩ := s
  obtain ⟨hl, h⟩ := h
  have sub := sub_enumerate
  have tup : Heap.IsTuple (Shared.heap ⟨hp, g, d, tk, os⟩) l us := ⟨_, hl, rfl, n, rfl⟩
  have sz : (hp.push { cls := .type "tuple_iterator", data := .fields #[.ref l, .int 0 0] }).objs.size = hp.objs.size + 1 := Heap.size_push ..
  have h' := h
  rw [← show (hp.push { cls := .type "tuple_iterator", data := .fields #[.ref l, .int 0 0] }).objs.size = hp.objs.size + 1 from sz] at h'
  wp_walk using wpAny_loadPart' hl
  refine wpAny_stack_any fun st => wpAny_pure ?_
  split
  · rename_i c _ _ _ _ _
    cases (c == Value.type "enumerate") <;> (wp_walk using wpAny_loadPart' hl, wpAny_pyIter_tuple tup; exact ⟨_, rfl, h'⟩)
  · wp_walk using wpAny_loadPart' hl, wpAny_pyIter_tuple tup
    exact ⟨_, rfl, h'⟩
def IteT (K : PySem.W.Frag) (a : Addr) : It :=
  ⟨fun i H => ∃ (xs : List V) (x : V), SqT K H a xs ∧ xs[i]? = some x, fun i H v H' => ∃ p x, v = .ref p ∧ H p = none ∧ H' = upd H p (.tup [.int (i : Nat), x]) ∧ ∀ xs, SqT K H a xs → xs[i]? = some x,
    fun i H => ∃ xs : List V, SqT K H a xs ∧ xs.length = i⟩
theorem turn_enumT {P : Program} {w : World} {K : PySem.W.Frag} {es : List Expr} {kk : Nat} {tp : Pos} (a e it : Addr) :
    Turn P w K (.Tuple es kk tp) (IteT K a) [e, it] e (fun i h => (∃ old, IsEnum h e it ((i : Nat) : Int) old) ∧ h.IsTupleIter it a i ∧ e ≠ it ∧ e ≠ a ∧ a ≠ it) where
  mem := List.mem_cons_self ..
  obj := fun i h st b hb => by
    obtain ⟨⟨old, en⟩, ⟨o, g1, g2, g3⟩, _⟩ := st
    rcases (show b = e ∨ b = it by simpa using hb) with rfl | rfl
    · exact ⟨_, en, fun v q => nomatch q⟩
    · exact ⟨o, g1, fun v q => by rw [g3] at q; cases q⟩
  keep := fun i h h' st k => by
    obtain ⟨⟨old, en⟩, ti, nn⟩ := st
    exact ⟨⟨old, k e (by simp) _ en⟩, ti.at fun o q => k it (by simp) o q, nn⟩
  item := by
    intro X hP hw hK hc i pins s σ H E I hf st hg
    subst hP hw hK
    obtain ⟨⟨old, en⟩, ti, n1, n2, n3⟩ := st
    obtain ⟨xs, x, hq, hx⟩ := hg
    obtain ⟨its, rv, tp, _⟩ := I.tuple hq
    obtain ⟨u, hu, ru⟩ := rv.get hx
    have le : e < s.heap.objs.size := Heap.lt_size en
    have li : it < s.heap.objs.size := by
      obtain ⟨_, q, _⟩ := ti
      exact Heap.lt_size q
    have lt : i < its.toArray.size := by
      rw [List.size_toArray]
      exact (List.getElem?_eq_some_iff.mp hu).1
    refine wpAny_pyNext_enum_itemD (Draws.tuple (prog := X.prog) (w := X.w) (A := X.A.in1) (I.ok.hd hc) it a n3 its.toArray) en ⟨ti, tp⟩ lt n1 (by simp [n1, n2]) fun y h1 tk hy out st1 pr sz kp => ?_
    have ey : y = u := by
      have z : its.toArray[i]? = some y := hy
      rw [List.getElem?_toArray, hu] at z
      exact (Option.some.inj z).symm
    subst ey
    refine ⟨_, rfl, wpAny_letOwnedTupleGo_enum (s := { s with heap := h1, toks := tk + 1 }) out fun h2 en2 sb => ?_⟩
    have pr2 : h2.get? s.heap.objs.size = some { cls := .type "tuple", data := .seq #[.int i tk, y] } := (sb.2 _ (Nat.ne_of_gt le)).trans pr
    have keep2 : ∀ b ob, b ∉ [e, it] → s.heap.get? b = some ob → h2.get? b = some ob := fun b ob hb q => by
      have b1 : b ≠ e := fun z => hb (by simp [z])
      have b2 : b ≠ it := fun z => hb (by simp [z])
      exact (sb.2 b b1).trans (kp b ob b1 b2 q)
    have ok2 : ObjOk X.prog X.w (upd H s.heap.objs.size (.tup [.int (i : Nat), x])) h2 s.heap.objs.size (.tup [.int (i : Nat), x]) := by
      refine ⟨?_, [.int i tk, y], .cons ⟨_, rfl⟩ (.cons ru .nil), ⟨_, pr2, rfl, _, rfl⟩⟩
      show 2 ≤ sizeLine
      decide
    have I2 : Inv X pins σ (upd H s.heap.objs.size (.tup [.int (i : Nat), x])) { s with heap := h2, toks := tk + 1 } := I.turnedNew (ch := [e, it]) keep2 hf (Nat.le_refl _) ok2
    refine ⟨.ref s.heap.objs.size, _, I2, rfl, ⟨_, x, rfl, I.hok.fresh (Nat.le_refl _), rfl, fun ys hy => ?_⟩, ⟨⟨y, ?_⟩, st1.1.at fun o q => (sb.2 it n1.symm).trans q, n1, n2, n3⟩, fun b hb => ?_⟩
    · rw [I.tuple_inj hy hq]
      exact hx
    · have z : ((i + 1 : Nat) : Int) = (i : Int) + 1 := by omega
      rw [z]
      exact en2
    · have lb : b < s.heap.objs.size := by
        rcases (show b = e ∨ b = it by simpa using hb) with rfl | rfl
        · exact le
        · exact li
      rw [upd_ne (Nat.ne_of_lt lb)]
      exact (hf b hb).1
  done := by
    intro X hP hw hK hc i pins s σ H E I hf st hg
    subst hP hw hK
    obtain ⟨⟨old, en⟩, ti, n1, n2, n3⟩ := st
    obtain ⟨xs, hq, hx⟩ := hg
    obtain ⟨its, rv, tp, _⟩ := I.tuple hq
    obtain ⟨f0, f1, f2, f3, f4, f5⟩ := hf it (by simp)
    have ie : i = its.toArray.size := by
      have := rv.length
      simp
      omega
    rw [ie] at ti
    exact wpAny_pyNext_enum_endD (Draws.tuple (prog := X.prog) (w := X.w) (A := X.A.in1) (I.ok.hd hc) it a n3 its.toArray) en ⟨ti, tp⟩ fun h1 eb => ⟨rfl, I.turned (t' := s.toks) (fun b o hb q => eb b o hb q) f0 f1 f3 f4 f5⟩
  self := fun A i s Q E st h => let ⟨⟨_, en⟩, _⟩ := st; wpAny_pyIter_enum en h
theorem own_callEnum {prog : Program} {w : World} {A : Around} {E : Value → Shared → Prop} {s : Shared} {l : Addr} {us : Array Value} {Q : Value → Shared → Prop} (hl : s.heap.IsTuple l us)
    (h : ∀ h', IsEnum h' (s.heap.objs.size + 1) s.heap.objs.size 0 .none → h'.IsTupleIter s.heap.objs.size l 0 → (∀ b o, s.heap.get? b = some o → h'.get? b = some o) → Q (.ref (s.heap.objs.size + 1)) { s with heap := h' }) :
    wpAny (model prog w) A (call (.type "enumerate") [.ref l]) Q E s := by
  obtain ⟨⟨c, dd, dt, sl⟩, g1, g2, n, g3⟩ := hl
  have e2 : c = .type "tuple" := g2
  have e3 : dt = .seq us n := g3
  subst e2 e3
  refine callType_new F.called_enumerate (by decide) (F.typeCall_enumerate_1 _) (F.newCall_enumerate_1 _) (fun o => F.args_object_init_2 o _) F.entry_enumerate_new (own_enumNew l us n dd sl) ⟨g1, ?_⟩
  have sz : (s.heap.push { cls := .type "tuple_iterator", data := .fields #[.ref l, .int 0 0] }).objs.size = s.heap.objs.size + 1 := Heap.size_push ..
  have en : IsEnum ((s.heap.push { cls := .type "tuple_iterator", data := .fields #[.ref l, .int 0 0] }).push { cls := .type "enumerate", data := .fields #[.none, .bool false, .ref s.heap.objs.size, rawInt 0, .none, .none] }) (s.heap.objs.size + 1) s.heap.objs.size 0 .none := by
    have z := Heap.get?_push_size (s.heap.push { cls := .type "tuple_iterator", data := .fields #[.ref l, .int 0 0] }) (o := { cls := .type "enumerate", data := .fields #[.none, .bool false, .ref s.heap.objs.size, rawInt 0, .none, .none] }) rfl
    rwa [sz] at z
  exact ⟨⟨_, en, rfl⟩, h _ en ⟨_, Heap.get?_push_of_some _ (Heap.get?_push_size _ rfl), rfl, rfl⟩ fun b o x => Heap.get?_push_of_some _ (Heap.get?_push_of_some _ x)⟩
def iEnumT (K : PySem.W.Frag) (ta : TA) : TI := fun σ H R => ta σ H fun vs H1 => ∃ a xs, vs = [.ref a] ∧ SqT K H1 a xs ∧ R (IteT K a) H1
theorem pi_enumT {X : Cx} {e : Expr} {ta : TA} {p pos tp : Pos} {es : List Expr} {kk : Nat} (hg : Gl X "enumerate") (hm : X.mg "enumerate" = none) (ha : PA X [e] ta) (hs : starEach [e] X.env = [(false, eval e X.env)] := by rfl) :
    PI X (.Tuple es kk tp) (.Call (.Name "enumerate" p) [e] [] pos) (iEnumT X.K ta) := by
  refine ⟨fun pins s σ H R I h => ?_⟩
  refine Call_ (ld_blt I hg hm boot_enumerate (PyProof.Rows.callWith_type1 (thn (ha.run pos pins s σ H _ I h) fun us s1 z => ?_) hs rfl))
  obtain ⟨vs, H1, I1, r1, a, xs, rfl, hq, q⟩ := z
  cases r1 with
  | cons r rr =>
    cases rr
    cases r
    obtain ⟨its, rv, tp', _⟩ := I1.tuple hq
    refine own_callEnum tp' fun h1 en ti kp => wpAny_pyIter_enum en ?_
    have I2 : Inv X pins σ H1 { s1 with heap := h1 } := I1.kept (t' := s1.toks) kp
    have la : a < s1.heap.objs.size := by
      obtain ⟨_, z, _⟩ := tp'
      exact Heap.lt_size z
    refine ⟨s1.heap.objs.size + 1, [s1.heap.objs.size + 1, s1.heap.objs.size], _, _, H1, rfl, I2, turn_enumT a (s1.heap.objs.size + 1) s1.heap.objs.size, ⟨⟨.none, en⟩, ti, Nat.succ_ne_self _, Nat.ne_of_gt (Nat.lt_succ_of_lt la), Nat.ne_of_lt la⟩, fun b hb => ?_, q⟩
    have lb : s1.heap.objs.size ≤ b := by
      rcases (show b = s1.heap.objs.size + 1 ∨ b = s1.heap.objs.size by simpa using hb) with rfl | rfl
      · exact Nat.le_add_right _ _
      · exact Nat.le_refl _
    exact I1.fpOk lb (I1.hok.fresh lb)
theorem walk_enumT {K : PySem.W.Frag} {a : Addr} {xs : List V} : Walk (IteT K a) xs.length (fun H => SqT K H a xs) (YPair (fun i => some (.int (i : Nat))) (fun i => xs[i]?)) := by
  refine ⟨fun i H hi g => ?_, fun H g => ⟨xs, g, rfl⟩, fun i H v H' hi g y => ?_⟩
  · exact ⟨xs, xs[i], g, List.getElem?_eq_getElem hi⟩
  · obtain ⟨p, x, e1, e2, e3, e4⟩ := y
    exact ⟨p, _, x, e1, e2, e3, rfl, e4 xs g⟩
end K0

namespace K0
open PySem PySem.Spec PyProof.Rows L2 Evl
theorem call_lenK {X : Cx} {K : PySem.W.Frag} (h : X.K = K) : CallR X (.builtin "len") (fun xs H Q => ∃ x n, xs = [x] ∧ LenV K x H n ∧ Q (.int n) H) := h ▸ call_len
/-! ### circles and terms -/
structure OkC (C : List Int) : Prop where
  asc : C.Pairwise (· < ·)
  rng : ∀ c ∈ C, 0 ≤ c ∧ c ≤ 8
  l1 : 1 ≤ C.length
  l7 : C.length ≤ 7
theorem asc_pwT : ∀ {ns : List Int}, ns.Pairwise (· < ·) → ascB ns = true
  | [], _ => rfl
  | [a], _ => rfl
  | a :: b :: r, h => by
    obtain ⟨h1, h2⟩ := List.pairwise_cons.mp h
    show (decide (a < b) && ascB (b :: r)) = true
    rw [asc_pwT h2, decide_eq_true (h1 b List.mem_cons_self)]
    rfl
def ciD (C : List Int) : D := .tup (C.map D.int)
theorem sizeL_ints : ∀ ns : List Int, D.sizeL (ns.map D.int) = ns.length
  | [] => rfl
  | n :: ns => by
    rw [List.map_cons, List.length_cons, ← sizeL_ints ns]
    show (D.int n).size + D.sizeL _ = _
    have : (D.int n).size = 1 := rfl
    omega
theorem ciD_size {C : List Int} (h : C.length ≤ 1000) : (ciD C).size ≤ 30000 := by
  unfold ciD
  rw [D.size, sizeL_ints]
  omega
theorem numB_ok {i : Int} (h1 : -big ≤ i) (h2 : i ≤ big) : numB i = true := by
  unfold numB
  rw [decide_eq_true h1, decide_eq_true h2]
  rfl
theorem within_I {i lo hi : Int} (h1 : -big ≤ i) (h2 : i ≤ big) (h3 : lo ≤ i) (h4 : i ≤ hi) : (D.int i).within lo hi = true := by
  show (numB i && (decide (lo ≤ i) && decide (i ≤ hi))) = true
  rw [numB_ok h1 h2, decide_eq_true h3, decide_eq_true h4]
  rfl
theorem big_k : (1000 : Int) ≤ big := by decide
theorem within_S {i lo hi : Int} (h1 : -1000 ≤ i) (h2 : i ≤ 1000) (h3 : lo ≤ i) (h4 : i ≤ hi) : (D.int i).within lo hi = true :=
  within_I (by have := big_k; omega) (by have := big_k; omega) h3 h4
theorem within_P {i lo hi : Int} (h1 : -1 ≤ i) (h2 : i ≤ big) (h3 : lo ≤ i) (h4 : i ≤ hi) : (D.int i).within lo hi = true :=
  within_I (by have := big_k; omega) h2 h3 h4
theorem ciD_ok {C : List Int} (h : OkC C) : (ciD C).circle = true := by
  show (((C.map D.int).all (D.within 0 (9 - 1)) && ascB ((C.map D.int).map D.toInt)) && (decide (1 ≤ (C.map D.int).length) && decide ((C.map D.int).length ≤ 7))) = true
  have e : (C.map D.int).map D.toInt = C := by
    rw [List.map_map]
    exact List.map_id _
  rw [e, asc_pwT h.asc, List.length_map, decide_eq_true h.l1, decide_eq_true h.l7, List.all_map, List.all_eq_true.mpr fun c hc => ?_]
  · rfl
  · have := h.rng c hc
    exact within_S (by omega) (by omega) (by omega) (by omega)
theorem OkC.nd {C : List Int} (h : OkC C) : C.Nodup := h.asc.imp fun h => by omega
def CirS (K : PySem.W.Frag) (H : Hp) (p : Addr) (C : List Int) : Prop := SqT K H p (C.map V.int) ∧ OkC C
section
variable {K : PySem.W.Frag} {σ : L2.St} {H H' : Hp} {ta tb te td tx ty : TE} {tr : TA} {t u : TT} {x y z v : V} {Q : VK} {a d : Addr} {L : List (Int × Int)} {k : Int}
theorem CirS.ex {p : Addr} {C : List Int} (e : Ex H H') (h : CirS K H p C) : CirS K H' p C := ⟨ex_t e h.1, h.2⟩
theorem CirS.exT {p : Addr} {C : List Int} (e : ExT H H') (h : CirS K H p C) : CirS K H' p C := ⟨e.sqT h.1, h.2⟩
theorem CirS.rp {p : Addr} {C : List Int} (h : CirS K H p C) : Rp K H (.ref p) (ciD C) := .tup h.1 (rp_maps C fun i _ => .int i)
theorem sqT_dict {d b : Addr} {kvs : List (Key × V)} {u : HO} {xs : List V} (hd : H d = some (.dK kvs)) (h : SqT K H b xs) : SqT K (upd H d u) b xs := by
  have ne : ∀ o, H b = some o → (∀ z, o ≠ .dK z) → b ≠ d := fun o ho n z => by
    rw [z, hd] at ho
    exact n kvs (Option.some.inj ho).symm
  rcases h with (h | ⟨o, h⟩) | h
  · exact .inl (.inl (by rw [upd_ne (ne _ h fun _ z => by cases z)]; exact h))
  · exact .inl (.inr ⟨o, by rw [upd_ne (ne _ h fun _ z => by cases z)]; exact h⟩)
  · exact .inr h
/-! ### dicts from whole numbers to whole numbers -/
def kvI (L : List (Int × Int)) : List (Key × V) := L.map fun p => (Sum.inl p.1, V.int p.2)
def DI (H : Hp) (a : Addr) (L : List (Int × Int)) : Prop := Rd H a (.dK (kvI L))
def DJ (H : Hp) (a : Addr) (L : List (Int × Int)) : Prop := H a = some (.dK (kvI L))
theorem DJ.di (h : DJ H a L) : DI H a L := .inl h
theorem DI.ex (e : Ex H H') (h : DI H a L) : DI H' a L := ex_rd e h
theorem DJ.ex (e : Ex H H') (h : DJ H a L) : DJ H' a L := e _ _ h
theorem DJ.exT (e : ExT H H') (h : DJ H a L) : DJ H' a L := e _ _ h fun _ z => nomatch z
theorem val_kvI : ∀ (L : List (Int × Int)) (k : Int), valV (kvI L) (.inl k) = (L.lookup k).map V.int
  | [], k => rfl
  | (c, x) :: L, k => by
    have ih := val_kvI L k
    unfold valV kvI at ih ⊢
    rw [List.map_cons, List.find?_cons, List.lookup_cons]
    by_cases e : k = c
    · subst e
      simp
    · have h1 : decide ((Sum.inl c : Key) = Sum.inl k) = false := decide_eq_false fun z => e (by injection z with z; exact z.symm)
      have h2 : (k == c) = false := beq_eq_false_iff_ne.mpr e
      simp only [h1, h2]
      exact ih
theorem DI.get (h : DI H a L) (k : Int) : DGet H a (.int k) ((L.lookup k).map V.int) := .inl ⟨kvI L, .inl k, h, rfl, (val_kvI L k).symm⟩
theorem ev_getI {z : Int} (h : Ev td σ H (.ref a)) (hk : Ev ty σ H (.int k)) (hz : Ev tx σ H (.int z)) (hd : DI H a L) : Ev (tDGet2 td ty tx) σ H (.int ((L.lookup k).getD z)) := fun H1 e Q q =>
  h H1 e _ fun H2 e2 => ⟨a, rfl, .inl ⟨_, hd.ex (e.trans e2)⟩, hk H2 (e.trans e2) _ fun H3 e3 => hz H3 ((e.trans e2).trans e3) _ fun H4 e4 => by
    refine ⟨_, (hd.ex (((e.trans e2).trans e3).trans e4)).get k, ?_⟩
    cases l : L.lookup k with
    | none =>
      have := q H4 ((e2.trans e3).trans e4)
      rw [l] at this
      exact this
    | some x =>
      have := q H4 ((e2.trans e3).trans e4)
      rw [l] at this
      exact this⟩
theorem ev_itemI {x : Int} (h : Ev td σ H (.ref a)) (hk : Ev ty σ H (.int k)) (hd : DI H a L) (hl : L.lookup k = some x) : Ev (tDGet td ty) σ H (.int x) := fun H1 e Q q =>
  h H1 e _ fun H2 e2 => hk H2 (e.trans e2) _ fun H3 e3 => by
    have := (hd.ex ((e.trans e2).trans e3)).get k
    rw [hl] at this
    exact ⟨a, _, rfl, this, q H3 (e2.trans e3)⟩
theorem lookup_at {i : Nat} {c x : Int} (nd : (L.map (·.1)).Nodup) (h : L[i]? = some (c, x)) : L.lookup c = some x := by
  induction L generalizing i with
  | nil => simp at h
  | cons q L ih =>
    rw [List.map_cons, List.nodup_cons] at nd
    cases i with
    | zero =>
      have e : q = (c, x) := by simpa using h
      subst e
      simp
    | succ i =>
      have h2 : L[i]? = some (c, x) := by simpa using h
      have ne : (c == q.1) = false := beq_eq_false_iff_ne.mpr fun z => nd.1 (by rw [← z]; exact List.mem_map.mpr ⟨_, List.mem_of_getElem? h2, rfl⟩)
      rw [List.lookup_cons, ne]
      exact ih nd.2 h2
theorem el_lock {d : Addr} {u : HO} {xs : List V} (hd : H d = some u) (hm : Mut (some u)) (h : ∀ H1 od, Ex H H1 → EvL te σ (upd H1 d (.frz od u)) xs) : EvL (tLockE te) σ H xs := fun H1 e Q q => by
  refine ⟨d, u, e _ _ hd, hm, fun od => h H1 od e _ (Ex.refl _) _ fun p H2 hp e2 h2 => ?_⟩
  have hdl : H2 d = some (.frz od u) := e2 _ _ upd_same
  have npd : p ≠ d := fun z => by
    rw [z, upd_same] at hp
    cases hp
  rw [upd_ne npd] at hp
  refine ⟨hdl, q p _ hp (fun b o hb => ?_) (by rw [upd_ne npd]; exact h2)⟩
  by_cases c : b = d
  · subst c
    rw [upd_same]
    rw [e _ _ hd] at hb
    exact hb
  · rw [upd_ne c]
    exact e2 _ _ (by rw [upd_ne c]; exact hb)
/-- [.. for k in d], d locked -/
theorem el_keysN {d : Addr} {od : Obj} {kvs : List (Key × V)} {j : Nat} {vs : List Nat} (v : Nat → V) (h : Ev td σ H (.ref d)) (hd : H d = some (.frz od (.dK kvs))) (hz : kvs.length ≤ 40000)
    (hw : ∀ x, wipe ((wipe σ vs).set j (some x)) vs = wipe σ vs) (he : ∀ (i : Nat) (q : Key × V) H1, Ex H H1 → kvs[i]? = some q → Ev te ((wipe σ vs).set j (some (kV q.1))) H1 (v i)) :
    EvL (tLc (iKeys td) (gName j) tYes te vs) σ H ((List.range kvs.length).map v) := fun H0 e Q q => h H0 e _ fun H1 e1 => by
  refine ⟨d, od, rfl, .inl ⟨kvs, e1 _ _ (e _ _ hd), fun Dl hD => ?_⟩⟩
  have e01 := e.trans e1
  refine lc_it (walk_keys (d := d) (o := od) (kvs := kvs)) (Cw H1 (fun _ => true) v Dl) ⟨hD, Ex.new hD, upd_same⟩ (fun i H' _ p => p.2.1 _ _ (e01 _ _ hd)) (fun i x H' H'' hi p yp => ?_) (fun H' p => ?_)
  · obtain ⟨rfl, k, u, hq, rfl⟩ := yp
    exact ⟨hw _, cw_turn p (by omega) et_yes fun _ => he i (k, u) H1 e01 hq⟩
  · have := p.2.2
    rw [given_map (fun _ => rfl)] at this
    exact q Dl H' (fresh_back e1 p.1) (e1.trans p.2.1) this
/-- [.. for x in d.values()], d locked -/
theorem el_valsN {d : Addr} {od : Obj} {kvs : List (Key × V)} {j : Nat} {vs : List Nat} (v : Nat → V) (h : Ev td σ H (.ref d)) (hd : H d = some (.frz od (.dK kvs))) (hz : kvs.length ≤ 40000)
    (hw : ∀ x, wipe ((wipe σ vs).set j (some x)) vs = wipe σ vs) (he : ∀ (i : Nat) (q : Key × V) H1, Ex H H1 → kvs[i]? = some q → Ev te ((wipe σ vs).set j (some q.2)) H1 (v i)) :
    EvL (tLc (iVals td) (gName j) tYes te vs) σ H ((List.range kvs.length).map v) := fun H0 e Q q => h H0 e _ fun H1 e1 => by
  refine ⟨d, od, kvs, rfl, e1 _ _ (e _ _ hd), fun Dl hD => ?_⟩
  have e01 := e.trans e1
  refine lc_it (walk_values (d := d) (o := od) (kvs := kvs)) (Cw H1 (fun _ => true) v Dl) ⟨hD, Ex.new hD, upd_same⟩ (fun i H' _ p => p.2.1 _ _ (e01 _ _ hd)) (fun i x H' H'' hi p yp => ?_) (fun H' p => ?_)
  · obtain ⟨rfl, k, hq⟩ := yp
    exact ⟨hw _, cw_turn p (by omega) et_yes fun _ => he i (k, x) H1 e01 hq⟩
  · have := p.2.2
    rw [given_map (fun _ => rfl)] at this
    exact q Dl H' (fresh_back e1 p.1) (e1.trans p.2.1) this
/-- f(x, (..)) -/
theorem ev_tC {sp : Sp} {E : XK} {xs : List V} (h1 : Ev ta σ H x) (h2 : EvU tb σ H xs) (k : ∀ q H1, Ex H H1 → SqT K H1 q xs → ∀ Q : VK, RetV z H1 Q → sp [x, .ref q] H1 Q E) : Ev (tCall sp [] E (tCons ta (tCons tb tNil))) σ H z := fun H1 e Q q =>
  d_raw (h1 H1 e _ fun H2 e2 => h2 H2 (e.trans e2) _ fun r H3 hr e3 h3 => k r H3 ((e.trans e2).trans e3) (st_of h3) Q fun H4 e4 => q H4 ((e2.trans e3).trans e4))
theorem rc_isD (hd : DI H d L) : RC (rIsi K) [.ref d, .ty "dict"] H (.bl true) := fun H1 e Q q => by
  have h := hd.ex e
  rcases h with h | ⟨o, h⟩
  · exact ⟨_, _, _, _, _, rfl, .ty _, .base (.dK h), kit_ty (by decide +kernel), q H1 (Ex.refl _)⟩
  · exact ⟨_, _, _, _, _, rfl, .ty _, .fDict h, kit_ty (by decide +kernel), q H1 (Ex.refl _)⟩
end
/-- right lengths of houses of a circle -/
structure OkD (C : List Int) (L : List (Int × Int)) : Prop where
  nd : (L.map (·.1)).Nodup
  sub : ∀ q ∈ L, q.1 ∈ C
  rng : ∀ q ∈ L, 0 ≤ q.2 ∧ q.2 ≤ big
  len : L.length ≤ 9
/-- a right lot of a circle -/
structure OkL (C L : List Int) : Prop where
  asc : L.Pairwise (· < ·)
  sub : ∀ h ∈ L, h ∈ C
theorem OkL.len {C L : List Int} (hc : OkC C) (h : OkL C L) : L.length ≤ 9 := by
  have nd : L.Nodup := h.asc.imp fun h => by omega
  have key : ∀ (n : Nat) (M : List Int), M.Nodup → (∀ c ∈ M, 0 ≤ c ∧ c < (n : Int)) → M.length ≤ n := by
    intro n
    induction n with
    | zero =>
      intro M _ hm
      cases M with
      | nil => exact Nat.le_refl _
      | cons c M =>
        have := hm c List.mem_cons_self
        omega
    | succ n ih =>
      intro M ndm hm
      have h1 := ih (M.erase (n : Int)) (ndm.erase _) fun c hc2 => by
        have h2 := hm c (List.mem_of_mem_erase hc2)
        have h3 : c ≠ (n : Int) := fun z => by
          rw [z] at hc2
          exact ndm.not_mem_erase hc2
        omega
      rw [List.length_erase] at h1
      split at h1 <;> omega
  refine key 9 L nd fun c hc2 => ?_
  have := hc.rng c (h.sub c hc2)
  omega
theorem ciD_ind {C L : List Int} (hc : OkC C) (hl : OkL C L) : (ciD L).indices 9 = true := by
  show ((L.map D.int).all (D.within 0 (9 - 1)) && ascB ((L.map D.int).map D.toInt)) = true
  have e : (L.map D.int).map D.toInt = L := by
    rw [List.map_map]
    exact List.map_id _
  rw [e, asc_pwT hl.asc, List.all_map, List.all_eq_true.mpr fun c hc2 => ?_]
  · rfl
  · have := hc.rng c (hl.sub c hc2)
    exact within_S (by omega) (by omega) (by omega) (by omega)
theorem all_yesT {α : Type} (l : List α) : (l.all fun _ => true) = true := List.all_eq_true.mpr fun _ _ => rfl
theorem op_inK {X : Cx} {K : PySem.W.Frag} (h : X.K = K) : OpR X (compareOp .In) (rIn K false) := h ▸ op_in_seq
theorem inV_intsT {h : Int} {C : List Int} (hm : h ∈ C) : inV (.int h) (C.map V.int) = true := by
  unfold inV
  rw [List.any_map, List.any_eq_true]
  exact ⟨h, hm, by simp [eqV]⟩
section
variable {P : Program} {w : World} {K : PySem.W.Frag} {mg : Str → Option Value} {base : Heap} {A : Ad} {D : Fd}
def sp_check_circle (K : PySem.W.Frag) : Sp := fun vs H Q _ => ∃ p C, vs = [.ref p] ∧ CirS K H p C ∧ RetV .non H Q
theorem len_check_circle {vs : List V} {H : Hp} {Q : VK} {E : XK} (h : sp_check_circle K vs H Q E) : vs.length = 1 := by
  obtain ⟨p, C, rfl, _⟩ := h
  rfl
theorem sv_checkC {H : Hp} {p : Addr} {C : List Int} (h : CirS K H p C) : SpV (sp_check_circle K) [.ref p] H .non := fun H1 e Q q E => ⟨p, C, rfl, h.ex e, q⟩
theorem ok_check_circle (T : Txt K mg A D) : FnOk P w K mg base CX0 5 A.check_circle D.check_circle ["value"] (sp_check_circle K) := by
  have G_is_circle : FnOk P w K mg base CX0 4 A.is_circle D.is_circle ["value"] (sp_is_circle K) := ok_is_circle T
  refine T.F_check_circle.ok sc_check_circle (fun vs H Q E h => len_check_circle h) (fun cdv A0 outer s H vs Q E hr h => ?_)
  refine ⟨_, (pss_one (ps_if (pt_not (pt_val (pe_call G_is_circle (hr.mono (by decide)) rfl T.g_is_circle T.F_is_circle.kp T.b_is_circle .nil pass0 (pa_cons (pv 0) pa_nil)))) (pss_one ps_never) pss_nil)), ?_⟩
  obtain ⟨p, C, rfl, hc, k⟩ := h
  refine s_when (et_is (et_not (et_B (ev_call (ea_cons (ev_var rfl) ea_nil) (svS hc.rp (ciD_size (by have := hc.2.l7; omega)))))) (b := false) (by rw [ciD_ok hc.2]; rfl)) (fun z => by cases z) fun _ H1 e1 => ?_
  exact k H1 e1
def sp_check_number (K : PySem.W.Frag) : Sp := fun vs H Q _ => ∃ x d lo hi, vs = [x, .int lo, .int hi] ∧ Rp K H x d ∧ d.within lo hi = true ∧ RetV .non H Q
theorem len_check_number {vs : List V} {H : Hp} {Q : VK} {E : XK} (h : sp_check_number K vs H Q E) : vs.length = 3 := by
  obtain ⟨x, d, lo, hi, rfl, _⟩ := h
  rfl
theorem sv_check {H : Hp} {x : V} {d : K0.D} {lo hi : Int} (hx : Rp K H x d) (h : d.within lo hi = true) : SpV (sp_check_number K) [x, .int lo, .int hi] H .non := fun H1 e Q q E => ⟨x, d, lo, hi, rfl, hx.ex e, h, q⟩
theorem ok_check_number (T : Txt K mg A D) : FnOk P w K mg base CX0 3 A.check_number D.check_number ["given", "least", "most"] (sp_check_number K) := by
  have G_is_within : FnOk P w K mg base CX0 2 A.is_within D.is_within ["value", "least", "most"] (sp_is_within K) := ok_is_within T
  obtain ⟨t_MAX_NUMBER, c_MAX_NUMBER⟩ := T.c_MAX_NUMBER
  refine T.F_check_number.ok sc_check_number (fun vs H Q E h => len_check_number h) (fun cdv A0 outer s H vs Q E hr h => ?_)
  refine ⟨_, PSs.nox (pss_one (ps_if (pt_not (pt_val (pe_call G_is_within (hr.mono (by decide)) rfl T.g_is_within T.F_is_within.kp T.b_is_within .nil pass0 (pa_cons (pv 0) (pa_cons (pv 1) (pa_cons (pv 2) pa_nil)))))) (pss_one ps_never) pss_nil)), ?_⟩
  obtain ⟨x, d, lo, hi, rfl, hx, hd, k⟩ := h
  refine s_when (et_is (et_not (et_B (ev_call (ea_cons (ev_var rfl) (ea_cons (ev_var rfl) (ea_cons (ev_var rfl) ea_nil))) (sv_within hx)))) (b := false) (by rw [hd]; rfl)) (fun z => by cases z) fun _ H1 e1 => ?_
  exact k H1 e1
def sp_is_lot (K : PySem.W.Frag) : Sp := fun vs H Q _ => ∃ p q C L, vs = [.ref p, .ref q] ∧ CirS K H p C ∧ SqT K H q (L.map V.int) ∧ OkL C L ∧ RetV (.bl true) H Q
theorem len_is_lot {vs : List V} {H : Hp} {Q : VK} {E : XK} (h : sp_is_lot K vs H Q E) : vs.length = 2 := by
  obtain ⟨p, q, C, L, rfl, _⟩ := h
  rfl
theorem ok_is_lot (T : Txt K mg A D) : FnOk P w K mg base CX0 4 A.is_lot D.is_lot ["circle", "value"] (sp_is_lot K) := by
  have G_are_indices : FnOk P w K mg base CX0 3 A.are_indices D.are_indices ["value", "many"] (sp_are_indices K) := ok_are_indices T
  obtain ⟨t_MAX_HOUSES, c_MAX_HOUSES⟩ := T.c_MAX_HOUSES
  refine T.F_is_lot.ok sc_is_lot (fun vs H Q E h => len_is_lot h) (fun cdv A0 outer s H vs Q E hr h => ?_)
  refine ⟨_, (pss_one (ps_ret (pe_and (pe_call G_are_indices (hr.mono (by decide)) rfl T.g_are_indices T.F_are_indices.kp T.b_are_indices .nil pass0 (pa_cons (pv 1) (pa_cons (pe_glob (v := .int (9)) rfl c_MAX_HOUSES ⟨_, rfl⟩) pa_nil))) (pe_one (pe_callB (cr_all rfl) (by rfl) T.b_all (by decide +kernel) (pa_cons (pe_lc (own := [("house", 2)]) (g := gName 2) (tt := tYes) rfl sc_is_lot.nd (pi_tup (pv 1)) (blkOk_by (own := [("house", 2)]) (N := N_is_lot) (sc := defScope s_is_lot) (by decide +kernel)) (fun _ _ _ _ _ => by exact pg_name (i := 2) sc_is_lot.nd rfl (Or.inl rfl)) (fun _ _ _ _ _ => by exact pts_nil) (fun _ _ _ _ _ => by exact (pe_cmpR (op_inK (K := K) (by rfl)) (pv 2) (pv 0) (by rfl)))) pa_nil)))))), ?_⟩
  obtain ⟨p, q, C, L, rfl, hc, hq, hl, k⟩ := h
  have l9 := hl.len hc.2
  have rq : Rp K H (.ref q) (ciD L) := .tup hq (rp_maps L fun i _ => .int i)
  refine s_ret (ev_is (ev_andV (a := true) (b := true) (ev_is (ev_call (ea_cons (ev_var rfl) (ea_cons ev_c ea_nil)) (sv_indices rq (small_of (ciD_size (by omega))))) (congrArg V.bl ?_)) fun _ => ev_is (ev_all (bs := (List.range (L.map V.int).length).map fun _ => true) ?_) ?_) rfl) fun H2 e2 => k H2 e2
  · exact ciD_ind hc.2 hl
  · rw [List.map_map, ← given_map (f := fun _ => true) (fun _ => rfl)]
    refine el_lcT (fun _ => true) _ (ev_var rfl) hq (by rw [List.length_map]; omega) (fun _ => rfl) (fun i y H3 e3 hy => et_yes) (fun i y H3 e3 hy _ => ?_)
    rw [List.getElem?_map] at hy
    obtain ⟨h, hh, rfl⟩ : ∃ h, L[i]? = some h ∧ V.int h = y := by
      cases g : L[i]? with
      | none => rw [g] at hy; cases hy
      | some h => rw [g] at hy; exact ⟨h, rfl, Option.some.inj hy⟩
    exact ev_is (ev_op (ev_var rfl) (ev_var rfl) (rv_isT (ex_t e3 hc.1) rfl (flat_ints C))) (by rw [inV_intsT (hl.sub h (List.mem_of_getElem? hh))]; rfl)
  · rw [List.all_map]
    exact congrArg V.bl (all_yesT _)
theorem one_ok {C : List Int} {h : Int} (hm : h ∈ C) : OkL C [h] := ⟨List.pairwise_singleton _ _, fun c hc => by rw [List.mem_singleton.mp hc]; exact hm⟩
def sp_check_laid (K : PySem.W.Frag) : Sp := fun vs H Q _ => ∃ p d C L, vs = [.ref p, .ref d] ∧ CirS K H p C ∧ DJ H d L ∧ OkD C L ∧ RetV .non H Q
theorem len_check_laid {vs : List V} {H : Hp} {Q : VK} {E : XK} (h : sp_check_laid K vs H Q E) : vs.length = 2 := by
  obtain ⟨p, d, C, L, rfl, _⟩ := h
  rfl
theorem kvI_at {L : List (Int × Int)} {i : Nat} {q : Key × V} (h : (kvI L)[i]? = some q) : ∃ r, L[i]? = some r ∧ q = (Sum.inl r.1, V.int r.2) := by
  unfold kvI at h
  rw [List.getElem?_map] at h
  cases g : L[i]? with
  | none => rw [g] at h; cases h
  | some r => rw [g] at h; exact ⟨r, rfl, (Option.some.inj h).symm⟩
theorem ok_check_laid (T : Txt K mg A D) : FnOk P w K mg base CX0 5 A.check_laid D.check_laid ["circle", "laid"] (sp_check_laid K) := by
  have G_is_within : FnOk P w K mg base CX0 2 A.is_within D.is_within ["value", "least", "most"] (sp_is_within K) := ok_is_within T
  have G_is_lot : FnOk P w K mg base CX0 4 A.is_lot D.is_lot ["circle", "value"] (sp_is_lot K) := ok_is_lot T
  obtain ⟨t_MAX_NUMBER, c_MAX_NUMBER⟩ := T.c_MAX_NUMBER
  refine T.F_check_laid.ok sc_check_laid (fun vs H Q E h => len_check_laid h) (fun cdv A0 outer s H vs Q E hr h => ?_)
  refine ⟨_, (pss_cons (ps_if (PW.pt (pw_or (pt_not (pt_val (pe_callB call_isi (by rfl) T.b_isinstance (by decide +kernel) (pa_cons (pv 1) (pa_cons (pe_bltn (v := .ty "dict") (u := .type "dict") (by rfl) T.b_dict (by decide +kernel) rfl) pa_nil))))) (pw_or1 (pt_not (pt_val (pe_callB (cr_all rfl) (by rfl) T.b_all (by decide +kernel) (pa_cons (pe_lock (pe_lc (own := [("house", 2)]) (g := gName 2) (tt := tYes) rfl sc_check_laid.nd (pi_keys (pv 1)) (blkOk_by (own := [("house", 2)]) (N := N_check_laid) (sc := defScope s_check_laid) (by decide +kernel)) (fun _ _ _ _ _ => by exact pg_name (i := 2) sc_check_laid.nd rfl (Or.inl rfl)) (fun _ _ _ _ _ => by exact pts_nil) (fun _ _ _ _ _ => by exact (pe_call G_is_lot (hr.mono (by decide)) rfl T.g_is_lot T.F_is_lot.kp T.b_is_lot .nil pass0 (pa_cons (pv 0) (pa_cons (pe_tup (pa_cons (pv 2) pa_nil)) pa_nil)))))) pa_nil))))))) (pss_one ps_never) pss_nil)
  (pss_one (ps_if (pt_not (pt_val (pe_callB (cr_all rfl) (by rfl) T.b_all (by decide +kernel) (pa_cons (pe_lock (pe_lc (own := [("length", 3)]) (g := gName 3) (tt := tYes) rfl sc_check_laid.nd (pi_values (pv 1)) (blkOk_by (own := [("length", 3)]) (N := N_check_laid) (sc := defScope s_check_laid) (by decide +kernel)) (fun _ _ _ _ _ => by exact pg_name (i := 3) sc_check_laid.nd rfl (Or.inl rfl)) (fun _ _ _ _ _ => by exact pts_nil) (fun _ _ _ _ _ => by exact (pe_call G_is_within (hr.mono (by decide)) rfl T.g_is_within T.F_is_within.kp T.b_is_within .nil pass0 (pa_cons (pv 3) (pa_cons pe_int (pa_cons (pe_glob (v := .int (999999999999999999999999999999999999999999999999999999999999)) rfl c_MAX_NUMBER ⟨_, rfl⟩) pa_nil))))))) pa_nil)))) (pss_one ps_never) pss_nil))), ?_⟩
  obtain ⟨p, d, C, L, rfl, hc, hd, ok, k⟩ := h
  have l9 := ok.len
  have hkl : (kvI L).length = L.length := List.length_map ..
  refine q_when (b := false) (et_is (et_or (a := false) (b := false) (et_is (et_not (et_B (ev_cb (ea_cons (ev_var rfl) (ea_cons ev_c ea_nil)) (rc_isD hd.di)))) rfl) fun _ => et_is (et_not (et_B (ev_all (bs := (List.range (kvI L).length).map fun _ => true) (el_lock hd trivial fun H1 od e1 => ?_)))) ?_) rfl) (fun z => by cases z) fun _ H1 e1 => ?_
  · have hd1 := e1 _ _ hd
    rw [List.map_map]
    refine el_keysN (od := od) (fun i => V.bl true) (ev_var rfl) upd_same (by omega) (fun _ => rfl) fun i q H2 e2 hq => ?_
    obtain ⟨r, hr, rfl⟩ := kvI_at hq
    have hm := ok.sub r (List.mem_of_getElem? hr)
    refine ev_tC (ev_var rfl) (eu_tup (ea_cons (ev_var rfl) ea_nil) (by simp)) fun q' H3 e3 hq' Q k => ⟨p, q', C, [r.1], rfl, ⟨ex_t (e2.trans e3) (sqT_dict hd1 (ex_t e1 hc.1)), hc.2⟩, hq', one_ok hm, k⟩
  · rw [List.all_map]
    exact congrArg (fun b => !b) (all_yesT _)
  · have hd1 := e1 _ _ hd
    refine s_when (b := false) (et_is (et_not (et_B (ev_all (bs := (List.range (kvI L).length).map fun _ => true) (el_lock hd1 trivial fun H2 od e2 => ?_)))) ?_) (fun z => by cases z) fun _ H2 e2 => k H2 (e1.trans e2)
    · rw [List.map_map]
      refine el_valsN (od := od) (fun i => V.bl true) (ev_var rfl) upd_same (by omega) (fun _ => rfl) fun i q H3 e3 hq => ?_
      obtain ⟨r, hr, rfl⟩ := kvI_at hq
      have hm := ok.rng r (List.mem_of_getElem? hr)
      exact ev_is (ev_call (ea_cons (ev_var rfl) (ea_cons ev_c (ea_cons ev_c ea_nil))) (sv_within (.int r.2))) (congrArg V.bl (within_P (by omega) hm.2 hm.1 hm.2))
    · rw [List.all_map]
      exact congrArg (fun b => !b) (all_yesT _)
end
end K0

namespace K0
open PySem PySem.Spec PyProof.Rows L2 Evl
section
variable {K : PySem.W.Frag} {σ : L2.St} {H H' : Hp} {ta tb te tx : TE} {tr : TA} {t u : TT} {x y z v : V} {Q : VK} {D : Ends}
theorem n_bm {T : String} {r : V → List V → Hp → VK → Prop} (h : ta σ H fun x H1 => tyV K T x H1 ∧ tr σ H1 fun xs H2 => r x xs H2 Q) : tBM K T r ta tr σ H Q := h
theorem n_drop (h : te σ H fun _ H1 => D.nx σ H1) : tDrop te D σ H := h
theorem n_sl {r : V → Option Int → Option Int → Hp → VK → Prop} {tl th : TO} (h : te σ H fun x H1 => tl σ H1 fun l H2 => th σ H2 fun u H3 => r x l u H3 Q) : tSl r te tl th σ H Q := h
theorem n_c (h : Q v H) : tC v σ H Q := h
theorem n_noPart {k : Option Int → Hp → Prop} (h : k none H) : tNoPart σ H k := h
theorem n_part {k : Option Int → Hp → Prop} (h : te σ H fun x H1 => ∃ i, x = .int i ∧ k (some i) H1) : tPart te σ H k := h
theorem ev_neNil {a : Addr} {xs : List V} (h : Ev ta σ H (.ref a)) (hx : SqL K H a xs) (hb : EvL tb σ H []) : Ev (tOp (rNeL0 K) ta tb) σ H (.bl (!xs.isEmpty)) :=
  ev_opL h hb fun q H1 h1 e H2 e2 Q k => ⟨a, q, xs, rfl, rfl, ex_l (e.trans e2) hx, sq_of (e2 _ _ h1), k H2 (Ex.refl _)⟩
theorem Bt.newU {a l : Addr} {o : HO} (b : Bt a H H') (hl : H l = none) : Bt a H (L2.upd H' l o) := fun c v h => by
  have h0 := hid_le _ _ h
  have hc : c ≠ l := fun z => by rw [z, hl] at h0; cases h0
  have h1 := b c v h
  unfold hid at h1 ⊢
  split at h1
  · cases h1
  · rename_i n
    rw [if_neg n, upd_ne hc]
    exact h1
theorem DiceAt.updN {a l : Addr} {o : HO} (h : DiceAt H a) (n : a ≠ l) : DiceAt (L2.upd H l o) a := by
  obtain ⟨x, y, z, h⟩ := h
  exact ⟨x, y, z, by rw [upd_ne n]; exact h⟩
end
theorem erase_perm {α : Type} : ∀ (l : List α) (i : Nat) (y : α), l[i]? = some y → (y :: l.eraseIdx i).Perm l
  | [], _, _, h => by simp at h
  | a :: l, 0, y, h => by
    cases h
    exact List.Perm.refl _
  | a :: l, i + 1, y, h => by
    have ih := erase_perm l i y (by simpa using h)
    rw [List.eraseIdx_cons_succ]
    exact (List.Perm.swap a y _).trans (ih.cons a)
theorem seqIx {r : Int} {n : Nat} (h0 : 0 ≤ r) (h1 : r < (n : Int)) : seqIndex? r n = some r.toNat := by
  unfold seqIndex?
  have e : (if r < 0 then r + (n : Int) else r) = r := if_neg (by omega)
  simp only [e, decide_eq_true h0, decide_eq_true h1, Bool.and_self, if_true]
theorem perm_ints {zs : List Int} {ys : List V} (h : ys.Perm (zs.map V.int)) : ∃ ns : List Int, ys = ns.map V.int ∧ ns.Perm zs := by
  let f : V → Int := fun v => match v with | .int i => i | _ => 0
  refine ⟨ys.map f, ?_, ?_⟩
  · rw [List.map_map]
    have : ∀ v ∈ ys, (V.int ∘ f) v = v := fun v hv => by
      obtain ⟨i, _, rfl⟩ := List.mem_map.mp (h.subset hv)
      rfl
    exact ((List.map_congr_left (f := V.int ∘ f) (g := id) this).trans (List.map_id _)).symm
  · have := h.map f
    rw [List.map_map] at this
    have e : zs.map (f ∘ V.int) = zs := List.map_id _
    rw [e] at this
    exact this
theorem cut_take (xs : List V) (n : Nat) : cutV xs none (some (n : Int)) = xs.take n := by
  unfold cutV
  rw [HT.sIx_nat, HT.sIx_none, List.drop_zero, Nat.sub_zero, Nat.min_def]
  split
  · rfl
  · rw [List.take_of_length_le (Nat.le_refl _), List.take_of_length_le (by omega)]
section
variable {P : Program} {w : World} {K : PySem.W.Frag} {mg : Str → Option Value} {base : Heap} {A : Ad} {D : Fd}
def sp_law_mixed (K : PySem.W.Frag) : Sp := fun vs H Q _ => ∃ (a p : Addr) (xs : List V), vs = [.ref a, .ref p] ∧ DiceAt H a ∧ p ≠ a ∧ (SqL K H p xs ∨ SqT K H p xs) ∧ xs.length ≤ 1000 ∧
  ∀ q ys H', H q = none → Bt a H H' → DiceAt H' a → H' q = some (.lst ys) → ys.Perm xs → Q (.ref q) H'
theorem len_law_mixed {vs : List V} {H : Hp} {Q : VK} {E : XK} (h : sp_law_mixed K vs H Q E) : vs.length = 2 := by
  obtain ⟨a, p, xs, rfl, _⟩ := h
  rfl
def MixW (a p l f : Addr) (xs : List V) (H : Hp) (m : Nat) (σ : L2.St) (H' : Hp) : Prop :=
  σ = [some (.ref a), some (.ref p), some (.ref l), some (.ref f)] ∧ ∃ ys zs, H' l = some (.lst ys) ∧ H' f = some (.lst zs) ∧ (zs ++ ys).Perm xs ∧ m = ys.length ∧ Bt a H H' ∧ DiceAt H' a
theorem ok_law_mixed (T : Txt K mg A D) : FnOk P w K mg base CX0 2 A.law_mixed D.law_mixed ["dice", "items"] (sp_law_mixed K) := by
  have G_law_roll : FnOk P w K mg base CX0 1 A.law_roll D.law_roll ["dice", "most"] (sp_law_roll K) := ok_law_roll T
  refine T.F_law_mixed.ok sc_law_mixed (fun vs H Q E h => len_law_mixed h) (fun cdv A0 outer s H vs Q E hr h => ?_)
  refine ⟨_, (pss_cons (ps_par (i := 2) (j := 3) (by rfl) sc_law_mixed.nd rfl rfl (by decide) rfl rfl (pa_cons (pe_callTy call_list_of (by rfl) T.b_list (by decide +kernel) (pa_cons (pv 1) pa_nil)) (pa_cons (pe_lst pa_nil) pa_nil)) (by rfl))
  (pss_cons (ps_while PassesOwn.never (pt_cmpR (op_neL0 hr.units) (pv 2) (pe_lst pa_nil) (nomark _)) (pss_one (ps_expr (pe_bm PySem.F.plainAttrs_list PySem.F.slot_list_append PySem.F.type_list_append mt_append (pv 3) (pa_cons (pe_bm PySem.F.plainAttrs_list PySem.F.slot_list_pop PySem.F.type_list_pop mt_popAt (pv 2) (pa_cons (pe_call G_law_roll (hr.mono (by decide)) rfl T.g_law_roll T.F_law_roll.kp T.b_law_roll .nil pass0 (pa_cons (pv 0) (pa_cons (pe_callB call_len (by rfl) T.b_len (by decide +kernel) (pa_cons (pv 2) pa_nil)) pa_nil))) pa_nil)) pa_nil)))))
  (pss_one (ps_ret (pv 3))))), ?_⟩
  obtain ⟨a, p, xs, rfl, hd, hpa, hp, hl, k⟩ := h
  refine q_par (n_cons (n_cb (n_cons (n_var rfl (n_nil ⟨p, xs, rfl, hp, fun l hlf => ?_⟩)))))
  have e1 : Ex H (L2.upd H l (.lst xs)) := Ex.new hlf
  refine n_cons (el_lst ea_nil (by decide) _ (Ex.refl _) _ fun f H2 hf e2 h2 => n_nil ⟨_, _, rfl, ?_⟩)
  have hla := hd.ne hlf
  have hff := fresh_back e1 hf
  have hfa := hd.ne hff
  have hfl : f ≠ l := fun z => by rw [z, upd_same] at hf; cases hf
  refine q_while (MixW a p l f xs H) xs.length ⟨rfl, xs, [], e2 _ _ upd_same, h2, List.Perm.refl _, rfl, Bt.of (e1.trans e2), hd.ex (e1.trans e2)⟩ fun m σ' H' g => ?_
  obtain ⟨rfl, ys, zs, g1, g2, g3, rfl, g4, g5⟩ := g
  have hlen := g3.length_eq
  rw [List.length_append] at hlen
  refine ⟨!ys.isEmpty, et_test (ev_neNil (ev_var rfl) (sq_of g1) (el_lst ea_nil (by decide))), fun hb H3 e3 => ?_, fun hb H3 e3 => ?_⟩
  · have hpos : 0 < ys.length := by
      cases ys with
      | nil => cases hb
      | cons _ _ => exact Nat.succ_pos _
    refine ⟨fun σ2 H2 => ∃ m', m' < ys.length ∧ MixW a p l f xs H m' σ2 H2, fun _ _ z => z, ?_⟩
    refine n_drop (n_bm (n_var rfl ⟨.inl ⟨rfl, _, sq_of (e3 _ _ g2)⟩, n_cons (n_bm (n_var rfl ⟨.inl ⟨rfl, _, sq_of (e3 _ _ g1)⟩, n_cons (c_call (ea_cons (ev_var rfl) (ea_cons (ev_cb (ea_cons (ev_var rfl) ea_nil) (rc_lenL (sq_of (e3 _ _ g1)))) ea_nil)) fun H4 e4 => ?_)⟩))⟩))
    refine ⟨a, _, rfl, g5.ex (e3.trans e4), by omega, by omega, fun r H5 r0 r1 b5 d5 => n_nil ?_⟩
    have l5 : H5 l = some (.lst ys) := b5.at hla ((e3.trans e4) _ _ g1)
    have f5 : H5 f = some (.lst zs) := b5.at hfa ((e3.trans e4) _ _ g2)
    have hk : r.toNat < ys.length := by omega
    have hy := List.getElem?_eq_getElem hk
    refine ⟨l, ys, r, r.toNat, ys[r.toNat], rfl, rfl, l5, by omega, by omega, seqIx r0 r1, hy, n_nil ⟨f, zs, _, rfl, rfl, by rw [upd_ne hfl]; exact f5, sz_lt (by omega), ?_⟩⟩
    have pe := erase_perm ys r.toNat _ hy
    have pl := pe.length_eq
    rw [List.length_cons] at pl
    refine ⟨(ys.eraseIdx r.toNat).length, by omega, rfl, _, _, by rw [upd_ne hfl.symm, upd_same], upd_same, ?_, rfl, ?_, ?_⟩
    · refine List.Perm.trans ?_ g3
      rw [List.append_assoc]
      exact pe.append_left zs
    · exact (((g4.trans (Bt.of (e3.trans e4))).trans b5).newU hlf).newU hff
    · exact (d5.updN hla.symm).updN hfa.symm
  · have hnil : ys = [] := by
      cases ys with
      | nil => rfl
      | cons _ _ => cases hb
    subst hnil
    rw [List.append_nil] at g3
    refine n_ret (n_var rfl ?_)
    exact k f zs H3 hff (g4.trans (Bt.of e3)) (g5.ex e3) (e3 _ _ g2) g3
def sp_law_circle_drawn (K : PySem.W.Frag) : Sp := fun vs H Q _ => ∃ (a : Addr) (m : Int), vs = [.ref a, .int m] ∧ DiceAt H a ∧ 1 ≤ m ∧ m ≤ 7 ∧ ∀ q C H', H q = none → Bt a H H' → DiceAt H' a → CirS K H' q C → Q (.ref q) H'
theorem len_law_circle_drawn {vs : List V} {H : Hp} {Q : VK} {E : XK} (h : sp_law_circle_drawn K vs H Q E) : vs.length = 2 := by
  obtain ⟨a, m, rfl, _⟩ := h
  rfl
def nine : List Int := (List.range 9).map fun i : Nat => (i : Int)
theorem nine_V : rgV 0 9 = nine.map V.int := by
  unfold rgV nine
  rw [List.map_map]
  exact List.map_congr_left fun i _ => by simp
theorem circle_of {ns ms : List Int} {k : Nat} (h1 : ns.Perm nine) (h2 : ms.Perm (ns.take k)) (h3 : ms.Pairwise (· ≤ ·)) (k1 : 1 ≤ k) (k7 : k ≤ 7) : OkC ms := by
  have nd9 : nine.Nodup := by decide
  have nd : ns.Nodup := h1.nodup_iff.mpr nd9
  have ndm : ms.Nodup := h2.nodup_iff.mpr (nd.sublist (List.take_sublist _ _))
  have l9 : ns.length = 9 := h1.length_eq
  have lm : ms.length = k := by
    rw [h2.length_eq, List.length_take]
    omega
  refine ⟨?_, fun c hc => ?_, by omega, by omega⟩
  · have := h3.and ndm
    exact this.imp fun ⟨x, y⟩ => by omega
  · have := h1.subset (List.mem_of_mem_take (h2.subset hc))
    unfold nine at this
    obtain ⟨i, hi, rfl⟩ := List.mem_map.mp this
    have := List.mem_range.mp hi
    omega
theorem ok_law_circle_drawn (T : Txt K mg A D) : FnOk P w K mg base CX0 3 A.law_circle_drawn D.law_circle_drawn ["dice", "most"] (sp_law_circle_drawn K) := by
  have G_law_roll : FnOk P w K mg base CX0 1 A.law_roll D.law_roll ["dice", "most"] (sp_law_roll K) := ok_law_roll T
  have G_law_mixed : FnOk P w K mg base CX0 2 A.law_mixed D.law_mixed ["dice", "items"] (sp_law_mixed K) := ok_law_mixed T
  refine T.F_law_circle_drawn.ok sc_law_circle_drawn (fun vs H Q E h => len_law_circle_drawn h) (fun cdv A0 outer s H vs Q E hr h => ?_)
  refine ⟨_, (pss_one (ps_ret (pe_callTy call_tuple_of (by rfl) T.b_tuple (by decide +kernel) (pa_cons (pe_callB cr_sortedI (by rfl) T.b_sorted (by decide +kernel) (pa_cons (pe_slice sl_list (pe_call G_law_mixed (hr.mono (by decide)) rfl T.g_law_mixed T.F_law_mixed.kp T.b_law_mixed .nil pass0 (pa_cons (pv 0) (pa_cons (pe_listRgB rfl (by rfl) T.b_list (prg_1 (by rfl) T.b_range pe_int)) pa_nil))) po_none (po_some (pe_op op_add pe_int (pe_call G_law_roll (hr.mono (by decide)) rfl T.g_law_roll T.F_law_roll.kp T.b_law_roll .nil pass0 (pa_cons (pv 0) (pa_cons (pv 1) pa_nil)))))) pa_nil)) pa_nil)))), ?_⟩
  obtain ⟨a, m, rfl, hd, m1, m7, k⟩ := h
  refine n_ret (n_cb (n_cons (n_cb (n_cons (n_sl (d_raw (n_cons (n_var rfl (n_cons ⟨9, rfl, by decide, fun l hl => n_nil ⟨a, l, rgV 0 9, rfl, hd.ex (Ex.new hl), hd.ne hl, .inl (sq_of upd_same), by rw [rgV_length]; decide, fun q ys H2 hq b2 d2 h2 pm => ?_⟩⟩)))))))))
  have e1 : Ex H (L2.upd H l (.lst (rgV 0 9))) := Ex.new hl
  have hq0 := fresh_back e1 hq
  rw [nine_V] at pm
  obtain ⟨ns, rfl, pn⟩ := perm_ints pm
  refine n_noPart (n_part (n_op (n_c (d_raw (n_cons (n_var rfl (n_cons (n_var rfl (n_nil ⟨a, m, rfl, d2, by omega, by omega, fun r H3 r0 r1 b3 d3 => ⟨1, r, rfl, rfl, 1 + r, rfl, q, _, rfl, sq_of (b3.at (hd.ne hq0) h2), fun s hs => ?_⟩⟩)))))))))
  have er : (1 + r) = (((1 + r).toNat : Nat) : Int) := by omega
  have ec : cutV (ns.map V.int) none (some (1 + r)) = (ns.take (1 + r).toNat).map V.int := by rw [er, cut_take, List.map_take]; rfl
  rw [ec]
  have b13 : Bt a H H3 := ((Bt.of e1).trans b2).trans b3
  have hs0 : H s = none := b13.free (d3.ne hs) hs
  refine n_nil ⟨s, ns.take (1 + r).toNat, rfl, sq_of upd_same, fun ms p pm2 pw hp => n_nil ⟨p, _, rfl, .inl ⟨sq_of upd_same, fun c hc => ?_⟩⟩⟩
  have e3 : Ex H3 (L2.upd H3 s (.lst ((ns.take (1 + r).toNat).map V.int))) := Ex.new hs
  have e4 := Ex.new (o := HO.lst (ms.map V.int)) hp
  have e5 := Ex.new (o := HO.tup (ms.map V.int)) hc
  have e35 := (e3.trans e4).trans e5
  have d6 := d3.ex e35
  have hcn : H3 c = none := fresh_back (e3.trans e4) hc
  exact k c ms _ (b13.free (d3.ne hcn) hcn) (b13.trans (Bt.of e35)) d6 ⟨st_of upd_same, circle_of pn pm2 pw (by omega) (by omega)⟩
end
end K0

namespace K0
open PySem PySem.Spec PyProof.Rows L2 Evl
/-! ### the lots of so many houses -/
def lotsOf : List Int → Nat → List (List Int)
  | _, 0 => [[]]
  | [], _ + 1 => []
  | c :: C, m + 1 => (lotsOf C m).map (c :: ·) ++ lotsOf C (m + 1)
theorem lots_len : ∀ (C : List Int) (m : Nat), (lotsOf C m).length ≤ 2 ^ C.length
  | C, 0 => by
    cases C <;> exact Nat.one_le_two_pow
  | [], m + 1 => Nat.zero_le _
  | c :: C, m + 1 => by
    have h1 := lots_len C m
    have h2 := lots_len C (m + 1)
    show ((lotsOf C m).map (c :: ·) ++ lotsOf C (m + 1)).length ≤ 2 ^ (C.length + 1)
    rw [List.length_append, List.length_map, Nat.pow_succ]
    omega
/-- what the first k houses give -/
def accL (C : List Int) (m k : Nat) : List (List Int) := (List.range k).flatMap fun i => (lotsOf (C.drop (i + 1)) m).map (C.getD i 0 :: ·)
theorem accL_snoc (C : List Int) (m k : Nat) : accL C m (k + 1) = accL C m k ++ (lotsOf (C.drop (k + 1)) m).map (C.getD k 0 :: ·) := by
  unfold accL
  rw [List.range_succ, List.flatMap_append]
  simp
theorem accL_all : ∀ (C : List Int) (m : Nat), accL C m C.length = lotsOf C (m + 1)
  | [], m => rfl
  | c :: C, m => by
    have ih := accL_all C m
    show accL (c :: C) m (C.length + 1) = (lotsOf C m).map (c :: ·) ++ lotsOf C (m + 1)
    rw [← ih]
    unfold accL
    rw [List.range_succ_eq_map, List.flatMap_cons, List.flatMap_map]
    rfl
theorem accL_len (C : List Int) (m : Nat) : ∀ k, k ≤ C.length → (accL C m k).length ≤ 2 ^ C.length := fun k hk => by
  refine Nat.le_trans ?_ (Nat.le_trans (Nat.le_of_eq (congrArg List.length (accL_all C m))) (lots_len C (m + 1)))
  have : ∀ j, (accL C m k).length ≤ (accL C m (k + j)).length := fun j => by
    induction j with
    | zero => exact Nat.le_refl _
    | succ j ih =>
      show _ ≤ (accL C m (k + j + 1)).length
      rw [accL_snoc, List.length_append]
      omega
  have h := this (C.length - k)
  have e : k + (C.length - k) = C.length := by omega
  rwa [e] at h
theorem lots_mem : ∀ (C : List Int) (m : Nat), ∀ L ∈ lotsOf C m, L.length ≤ C.length
  | C, 0, L, h => by
    have e : lotsOf C 0 = [[]] := by cases C <;> rfl
    rw [e] at h
    rw [List.mem_singleton.mp h]
    exact Nat.zero_le _
  | [], m + 1, L, h => by cases h
  | c :: C, m + 1, L, h => by
    rcases List.mem_append.mp h with h | h
    · obtain ⟨L', h1, rfl⟩ := List.mem_map.mp h
      have := lots_mem C m L' h1
      simp only [List.length_cons]
      omega
    · have := lots_mem C (m + 1) L h
      simp only [List.length_cons]
      omega
theorem ciD_clean (L : List Int) : (ciD L).clean = true := by
  show D.cleanL (L.map D.int) = true
  rw [cleanL_all, List.all_map]
  exact List.all_eq_true.mpr fun _ _ => rfl
theorem ciDs_clean (Ls : List (List Int)) : D.cleanL (Ls.map ciD) = true := by
  rw [cleanL_all, List.all_map]
  exact List.all_eq_true.mpr fun L _ => ciD_clean L
theorem rpAll_int {K : PySem.W.Frag} {H : Hp} : ∀ {xs : List V} {L : List Int}, RpAll K H xs (L.map D.int) → xs = L.map V.int
  | [], [], _ => rfl
  | [], _ :: _, h => by cases h
  | x :: xs, [], h => by cases h
  | x :: xs, c :: L, h => by
    obtain ⟨d, es, e, h1, h2⟩ := h.inv
    rw [List.map_cons] at e
    cases e
    cases h1
    rw [rpAll_int h2]
    rfl
theorem rp_ints {K : PySem.W.Frag} {H : Hp} {v : V} {L : List Int} (h : Rp K H v (ciD L)) : ∃ a, v = .ref a ∧ SqT K H a (L.map V.int) := by
  obtain ⟨a, xs, rfl, hs, hr⟩ := Rp.tupI h
  rw [rpAll_int hr] at hs
  exact ⟨a, rfl, hs⟩
theorem rp_ci {K : PySem.W.Frag} {H : Hp} {a : Addr} {L : List Int} (h : SqT K H a (L.map V.int)) : Rp K H (.ref a) (ciD L) := .tup h (rp_maps L fun i _ => .int i)
section
variable {K : PySem.W.Frag} {σ : L2.St} {H H' : Hp} {ta tb te td tx ty : TE} {tr : TA} {t u : TT} {x y z v : V} {Q : VK} {D : Ends} {tu tz : TS}
theorem n_lstR (h : tr σ H fun xs H1 => xs.length ≤ sizeLine ∧ ∀ l, H1 l = none → Q (.ref l) (upd H1 l (.lst xs))) : tLst tr σ H Q := h
theorem s_appD {l : Addr} {xs : List V} {d : K0.D} (hl : H l = some (.lst xs)) (ha : Ev ta σ H (.ref l)) (h : EvD K te σ H d) (hz : xs.length < 100000) (k : ∀ v H1, Ex H H1 → Rp K H1 v d → D.nx σ (upd H1 l (.lst (xs ++ [v])))) :
    tDrop (tBM K "list" rAppend ta (tCons te tNil)) D σ H := n_drop (n_bm (ha H (Ex.refl H) _ fun H1 e1 => ⟨.inl ⟨rfl, xs, sq_of (e1 l _ hl)⟩, n_cons (h H1 e1 _ fun v H2 e2 r => n_nil ⟨l, xs, v, rfl, rfl, e2 l _ (e1 l _ hl), sz_lt hz, k v H2 (e1.trans e2) r⟩)⟩))
theorem cut_drop (xs : List V) (n : Nat) : cutV xs (some (n : Int)) none = xs.drop n := by
  unfold cutV
  rw [HT.sIx_nat, HT.sIx_none, List.take_of_length_le (by rw [List.length_drop]; omega)]
  by_cases h : n ≤ xs.length
  · rw [Nat.min_eq_left h]
  · rw [Nat.min_eq_right (by omega), List.drop_of_length_le (Nat.le_refl _), List.drop_of_length_le (by omega)]
end
theorem q_forEnG {K : PySem.W.Frag} {σ : L2.St} {H : Hp} {ta : TA} {a : Addr} {xs : List V} {i1 : Nat} {g : TG} {tu tz : TS} {D : Ends} (h : EvA ta σ H [.ref a]) (hx : SqT K H a xs) (Pv : Nat → L2.St → Hp → Prop) (h0 : ∀ H1, Ex H H1 → Pv 0 σ H1) (hG : ∀ i σ' H', Pv i σ' H' → SqT K H' a xs)
    (hs : ∀ i x σ' H' T, xs[i]? = some x → Pv i σ' H' → H' T = none → g x (σ'.set i1 (some (.int (i : Nat)))) (upd H' T (.tup [.int (i : Nat), x])) fun σ2 H2 => gNil [] σ2 H2 fun σ3 H3 => tu { nx := Pv (i + 1), rt := D.rt, bk := tz D, ct := Pv (i + 1) } σ3 H3)
    (hd : ∀ σ' H', Pv xs.length σ' H' → tz D σ' H') : tSeq (tFor (iEnumT K ta) (gTup K 2 (gCons (gName i1) (gCons g gNil))) tu) tz D σ H := by
  refine h H (Ex.refl _) _ fun H1 e1 => ⟨a, xs, rfl, ex_t e1 hx, ?_⟩
  refine for_it (D := { D with nx := fun σ H => tz D σ H }) walk_enumT Pv (h0 H1 e1) (fun i σ' H' _ p => hG i σ' H' p) (fun i x σ' H' H'' hi p y => ?_) hd
  obtain ⟨T, x1, x2, rfl, hT, rfl, y1, y2⟩ := y
  cases y1
  exact ⟨T, _, rfl, st_of upd_same, rfl, _, _, rfl, _, _, rfl, hs i x2 σ' H' T y2 p hT⟩
section
variable {P : Program} {w : World} {K : PySem.W.Frag} {mg : Str → Option Value} {base : Heap} {A : Ad} {D : Fd}
def RetLots (K : PySem.W.Frag) (C : List Int) (m : Nat) (H : Hp) (Q : VK) : Prop := ∀ l vs H', H l = none → Ex H H' → H' l = some (.lst vs) → RpAll K H' vs ((lotsOf C m).map ciD) → Q (.ref l) H'
def sp_lots (N : Nat) (K : PySem.W.Frag) : Sp := fun vs H Q _ => ∃ p C, ∃ m : Nat, vs = [.ref p, .int (m : Int)] ∧ SqT K H p (C.map V.int) ∧ C.length ≤ N ∧ C.length ≤ 9 ∧ RetLots K C m H Q
theorem len_lots {N : Nat} {vs : List V} {H : Hp} {Q : VK} {E : XK} (h : sp_lots N K vs H Q E) : vs.length = 2 := by
  obtain ⟨p, C, m, rfl, _⟩ := h
  rfl
theorem ok_lotsG (T : Txt K mg A D) (N k : Nat) (spG : Sp) (G_lots_of : FnOk P w K mg base CX0 k A.lots_of D.lots_of ["houses", "many"] spG)
    (hG : ∀ q C, ∀ m : Nat, ∀ H Q E, SqT K H q (C.map V.int) → C.length + 1 ≤ N → C.length ≤ 9 → RetLots K C m H Q → spG [.ref q, .int (m : Int)] H Q E) : FnOk P w K mg base CX0 (k + 1) A.lots_of D.lots_of ["houses", "many"] (sp_lots N K) := by
  refine T.F_lots_of.ok (k := k) sc_lots_of (fun vs H Q E h => len_lots h) (fun cdv A0 outer s H vs Q E hr h => ?_)
  obtain ⟨p, C, m, rfl, hp, hN, h9, kk⟩ := h
  refine ⟨_, (pss_cons (ps_if (pt_cmpR op_eq (pv 1) pe_int (nomark _)) (pss_one (ps_ret (pe_lst (pa_cons (pe_tup pa_nil) pa_nil)))) pss_nil)
  (pss_cons (ps_set (i := 2) sc_lots_of.nd rfl (Or.inl rfl) (pe_lst pa_nil))
  (pss_cons (ps_for PassesOwn.never rfl (pi_enumT (by rfl) T.b_enumerate (pa_cons (pv 0) pa_nil)) (pg_tup rfl (pgs_cons (pg_name (i := 3) sc_lots_of.nd rfl (Or.inl rfl)) (pgs_cons (pg_name (i := 4) sc_lots_of.nd rfl (Or.inl rfl)) pgs_nil))) (pss_one (ps_for PassesOwn.never rfl (pi_list (pe_call G_lots_of (hr.mono (by omega)) rfl T.g_lots_of T.F_lots_of.kp T.b_lots_of .nil pass0 (pa_cons (pe_slice sl_tupA (pv 0) (po_some (pe_op op_add (pv 3) pe_int)) po_none) (pa_cons (pe_op op_sub (pv 1) pe_int) pa_nil)))) (pg_name (i := 5) sc_lots_of.nd rfl (Or.inl rfl)) (pss_one (ps_expr (pe_bm PySem.F.plainAttrs_list PySem.F.slot_list_append PySem.F.type_list_append mt_append (pv 2) (pa_cons (pe_op op_catA (pe_tup (pa_cons (pv 4) pa_nil)) (pv 5)) pa_nil)))))))
  (pss_one (ps_ret (pv 2)))))), ?_⟩
  refine q_when (b := decide (m = 0)) (et_test (ev_is (ev_op (ev_var rfl) ev_c (rv_eq rfl)) ?_)) (fun hb H1 e1 => ?_) (fun hb H1 e1 => ?_)
  · congr 1
    refine decide_eq_decide.mpr ⟨fun z => ?_, fun z => by rw [z]; rfl⟩
    have := V.int.inj z
    omega
  · have m0 := of_decide_eq_true hb
    subst m0
    refine n_ret (n_lstR (n_cons (n_tup (n_nil ⟨sz_of (by simp), fun t ht => n_nil ⟨sz_of (by simp), fun l hl => ?_⟩⟩))))
    have e2 : Ex H1 (L2.upd H1 t (.tup [])) := Ex.new ht
    refine kk l [.ref t] _ (fresh_back (e1.trans e2) hl) ((e1.trans e2).trans (Ex.new hl)) upd_same ?_
    have : lotsOf C 0 = [[]] := by cases C <;> rfl
    rw [this]
    exact .cons (.tup (st_of ((Ex.new hl) _ _ upd_same)) .nil) .nil
  · have m1 := of_decide_eq_false hb
    obtain ⟨m', rfl⟩ : ∃ m', m = m' + 1 := ⟨m - 1, by omega⟩
    have l2 : 2 ^ C.length ≤ 512 := Nat.le_trans (Nat.pow_le_pow_right (by decide) h9) (by decide)
    refine q_asgL (el_lst ea_nil (by decide)) fun f H2 hf e2 h2 => ?_
    have e02 := e1.trans e2
    have hf0 := fresh_back e1 hf
    refine q_forEnG (K := K) (ea_cons (ev_var rfl) ea_nil) (ex_t e02 hp) (fun i σ' H' => (∃ v3 v4 v5, σ' = [some (.ref p), some (.int ((m' + 1 : Nat) : Int)), some (.ref f), v3, v4, v5]) ∧ Ex H H' ∧ ∃ vs, H' f = some (.lst vs) ∧ RpAll K H' vs ((accL C m' i).map ciD) ∧ i ≤ C.length)
      (fun H3 e3 => ⟨⟨_, _, _, rfl⟩, e02.trans e3, [], e3 _ _ h2, .nil, Nat.zero_le _⟩) (fun i σ' H' g => ex_t g.2.1 hp) (fun i x σ' H' t hx g ht => ?_) (fun σ' H' g => ?_)
    · obtain ⟨⟨v3, v4, v5, rfl⟩, e, vs, g1, g2, g3⟩ := g
      rw [List.getElem?_map] at hx
      obtain ⟨h, hi, rfl⟩ : ∃ h, C[i]? = some h ∧ V.int h = x := by
        cases g : C[i]? with
        | none => rw [g] at hx; cases hx
        | some h => rw [g] at hx; exact ⟨h, rfl, Option.some.inj hx⟩
      have hil : i < C.length := (List.getElem?_eq_some_iff.mp hi).1
      have hgd : C.getD i 0 = h := by rw [List.getD_eq_getElem?_getD, hi]; rfl
      have eT : Ex H' (L2.upd H' t (.tup [.int (i : Nat), .int h])) := Ex.new ht
      generalize hHT : L2.upd H' t (.tup [.int (i : Nat), .int h]) = HT at eT
      have e' := e.trans eT
      have gT := eT _ _ g1
      have rT := g2.ex eT
      refine ⟨rfl, ?_⟩
      refine d_raw (n_cons (ew_sl (ev_var rfl) (eo_some (i := (i : Int) + 1) (ev_op (ev_var rfl) ev_c rv_I0)) eo_none (ex_t e' hp) HT (Ex.refl _) _ fun q H4 e4 hq => n_cons ((ev_is (w := .int (m' : Int)) (ev_op (ev_var rfl) ev_c rv_I0) (by congr 1; omega) : Ev _ [some (.ref p), some (.int ((m' + 1 : Nat) : Int)), some (.ref f), some (.int (i : Nat)), some (.int h), v5] H4 (.int (m' : Int))) H4 (Ex.refl _) _ fun H5 e5 => n_nil ?_)))
      have ec : cutV (C.map V.int) (some ((i : Int) + 1)) none = (C.drop (i + 1)).map V.int := by
        have := cut_drop (C.map V.int) (i + 1)
        rw [← List.map_drop] at this
        exact this
      rw [ec] at hq
      have e45 := e4.trans e5
      refine hG q (C.drop (i + 1)) m' H5 _ _ (ex_t e5 hq) (by rw [List.length_drop]; omega) (by rw [List.length_drop]; omega) fun l ws H6 hl e6 h6 r6 => ⟨l, rfl, ⟨ws, sq_of h6⟩, ?_⟩
      have wl : ws.length = (lotsOf (C.drop (i + 1)) m').length := by rw [r6.len, List.length_map]
      have e56 := e45.trans e6
      have hlf : l ≠ f := fun z => by
        rw [z] at hl
        rw [e45 _ _ gT] at hl
        cases hl
      refine for_list (K := K) (xs := ws) (fun n σ' H' => (∃ v5, σ' = [some (.ref p), some (.int ((m' + 1 : Nat) : Int)), some (.ref f), some (.int (i : Nat)), some (.int h), v5]) ∧ Ex H H' ∧ H' l = some (.lst ws) ∧ RpAll K H' ws ((lotsOf (C.drop (i + 1)) m').map ciD) ∧
        ∃ vs, H' f = some (.lst vs) ∧ RpAll K H' vs ((accL C m' i ++ ((lotsOf (C.drop (i + 1)) m').take n).map (h :: ·)).map ciD)) ⟨⟨_, rfl⟩, e'.trans e56, h6, r6, vs, e56 _ _ gT, by rw [List.take_zero, List.map_nil, List.append_nil]; exact rT.ex e56⟩ (fun n σ' H' _ g => sq_of g.2.2.1) (fun n x σ' H' hx g => ?_) (fun σ' H' g => ?_)
      · obtain ⟨⟨v5, rfl⟩, f1, f2, f3, us, f4, f5⟩ := g
        obtain ⟨d, hd, hrd⟩ := RpAll.get _ _ _ _ f3 hx
        rw [List.getElem?_map] at hd
        obtain ⟨L, hL, rfl⟩ : ∃ L, (lotsOf (C.drop (i + 1)) m')[n]? = some L ∧ ciD L = d := by
          cases g : (lotsOf (C.drop (i + 1)) m')[n]? with
          | none => rw [g] at hd; cases hd
          | some L => rw [g] at hd; exact ⟨L, rfl, Option.some.inj hd⟩
        have nl : n < (lotsOf (C.drop (i + 1)) m').length := (List.getElem?_eq_some_iff.mp hL).1
        have ul : us.length < 100000 := by
          rw [f5.len, List.length_map, List.length_append, List.length_map, List.length_take]
          have := accL_len C m' i (by omega)
          have := accL_len C m' (i + 1) (by omega)
          rw [accL_snoc, List.length_append, List.length_map] at this
          omega
        refine s_appD (d := ciD (h :: L)) f4 (ev_var rfl) ?_ ul fun v H8 e8 rv => ?_
        · refine ed_cat (ds := [.int h]) (es := L.map K0.D.int) (ed_tup (eda_cons (ed_ev (ev_var rfl) (.int h)) eda_nil) (by simp)) (ed_ev (ev_var rfl) hrd) ?_
          have := hrd
          obtain ⟨a, rfl, ha⟩ := rp_ints hrd
          have ls : L.length ≤ 9 := by
            have := lots_mem _ _ L (List.mem_of_getElem? hL)
            rw [List.length_drop] at this
            omega
          rw [List.length_map]
          show 1 + L.length ≤ 100000
          omega
        · have eu := ExT.upd (ys := us ++ [v]) (e8 _ _ f4)
          refine ⟨⟨_, rfl⟩, (f1.trans e8).mut hf0, ?_, (f3.ex e8).exT (ciDs_clean _) eu, us ++ [v], upd_same, ?_⟩
          · rw [upd_ne hlf]
            exact e8 _ _ f2
          · have ee : (accL C m' i ++ ((lotsOf (C.drop (i + 1)) m').take (n + 1)).map (h :: ·)).map ciD = (accL C m' i ++ ((lotsOf (C.drop (i + 1)) m').take n).map (h :: ·)).map ciD ++ [ciD (h :: L)] := by
              rw [List.take_succ, hL]
              simp
            rw [ee]
            exact ((f5.ex e8).exT (ciDs_clean _) eu).app (.cons (rv.exT (ciD_clean _) eu) .nil)
      · obtain ⟨⟨v5, rfl⟩, f1, f2, f3, us, f4, f5⟩ := g
        rw [wl, List.take_length] at f5
        refine ⟨⟨_, _, _, rfl⟩, f1, us, f4, ?_, hil⟩
        rw [accL_snoc, hgd]
        exact f5
    · obtain ⟨⟨v3, v4, v5, rfl⟩, e, vs, g1, g2, g3⟩ := g
      refine n_ret (n_var rfl ?_)
      rw [List.length_map, accL_all] at g2
      exact kk f vs H' hf0 e g1 g2
theorem ok_lotsN (T : Txt K mg A D) : ∀ N, FnOk P w K mg base CX0 (1 + N) A.lots_of D.lots_of ["houses", "many"] (sp_lots N K)
  | 0 => ok_lotsG T 0 0 (fun _ _ _ _ => False) ⟨fun _ _ _ _ h => h.elim, fun _ _ _ _ _ _ _ _ _ _ _ _ _ h => h.elim⟩ fun q C m H Q E _ h => absurd h (by omega)
  | N + 1 => by
    have := ok_lotsG (P := P) (w := w) (base := base) T (N + 1) (1 + N) (sp_lots N K) (ok_lotsN T N) fun q C m H Q E h1 h2 h3 h4 => ⟨q, C, m, rfl, h1, by omega, h3, h4⟩
    have e : 1 + N + 1 = 1 + (N + 1) := by omega
    rwa [e] at this
abbrev sp_lots_of (K : PySem.W.Frag) : Sp := sp_lots 7 K
theorem ok_lots_of (T : Txt K mg A D) : FnOk P w K mg base CX0 8 A.lots_of D.lots_of ["houses", "many"] (sp_lots_of K) := ok_lotsN T 7
end
end K0

namespace K0
open PySem PySem.Spec PyProof.Rows L2 Evl
/-! ### what more than half have laid -/
def lk (L : List (Int × Int)) (h : Int) : Int := (L.lookup h).getD 0
def cnt (C : List Int) (L : List (Int × Int)) (v : Int) : Nat := C.countP fun h => decide (v ≤ lk L h)
def Maj (C : List Int) (L : List (Int × Int)) (v : Int) : Prop := C.length < 2 * cnt C L v
instance (C : List Int) (L : List (Int × Int)) (v : Int) : Decidable (Maj C L v) := inferInstanceAs (Decidable (_ < _))
def stepB (C : List Int) (L : List (Int × Int)) (b : Int) (q : Int × Int) : Int := if Maj C L q.2 then (if q.2 > b then q.2 else b) else b
def bestI (C : List Int) (L : List (Int × Int)) : Int := L.foldl (stepB C L) 0
theorem lookup_mem {L : List (Int × Int)} {h x : Int} (e : L.lookup h = some x) : (h, x) ∈ L := by
  induction L with
  | nil => cases e
  | cons q L ih =>
    rw [List.lookup_cons] at e
    by_cases c : h = q.1
    · have c2 : (h == q.1) = true := beq_iff_eq.mpr c
      rw [c2] at e
      have e2 : q.2 = x := Option.some.inj e
      rw [c, ← e2]
      exact List.mem_cons_self
    · have c2 : (h == q.1) = false := beq_eq_false_iff_ne.mpr c
      rw [c2] at e
      exact List.mem_cons_of_mem _ (ih e)
theorem lk_cases (L : List (Int × Int)) (h : Int) : lk L h = 0 ∨ (h, lk L h) ∈ L := by
  unfold lk
  cases e : L.lookup h with
  | none => exact .inl rfl
  | some x => exact .inr (lookup_mem e)
theorem lk_nn {C : List Int} {L : List (Int × Int)} (ok : OkD C L) (h : Int) : 0 ≤ lk L h ∧ lk L h ≤ big := by
  rcases lk_cases L h with e | e
  · rw [e]
    exact ⟨by omega, by have := big_k; omega⟩
  · exact ok.rng _ e
theorem lk_of {L : List (Int × Int)} (nd : (L.map (·.1)).Nodup) {q : Int × Int} (h : q ∈ L) : lk L q.1 = q.2 := by
  obtain ⟨i, hi⟩ := List.mem_iff_getElem?.mp h
  unfold lk
  rw [lookup_at (c := q.1) (x := q.2) nd hi]
  rfl
theorem cnt_anti {C : List Int} {L : List (Int × Int)} {v w : Int} (h : v ≤ w) : cnt C L w ≤ cnt C L v := by
  unfold cnt
  exact List.countP_mono_left fun x _ hx => by
    have := of_decide_eq_true hx
    exact decide_eq_true (by omega)
theorem maj_zero {C : List Int} {L : List (Int × Int)} (hc : OkC C) (ok : OkD C L) : Maj C L 0 := by
  unfold Maj cnt
  rw [List.countP_eq_length.mpr fun x _ => decide_eq_true (lk_nn ok x).1]
  have := hc.l1
  omega
theorem fold_ge (C : List Int) (L : List (Int × Int)) : ∀ (M : List (Int × Int)) (b : Int), b ≤ M.foldl (stepB C L) b
  | [], b => Int.le_refl _
  | q :: M, b => by
    refine Int.le_trans ?_ (fold_ge C L M (stepB C L b q))
    unfold stepB
    split
    · split <;> omega
    · omega
theorem fold_in (C : List Int) (L : List (Int × Int)) : ∀ (M : List (Int × Int)) (b : Int), ∀ q ∈ M, Maj C L q.2 → q.2 ≤ M.foldl (stepB C L) b
  | [], _, q, h, _ => by cases h
  | r :: M, b, q, h, m => by
    rcases List.mem_cons.mp h with rfl | h
    · refine Int.le_trans ?_ (fold_ge C L M (stepB C L b q))
      unfold stepB
      rw [if_pos m]
      split <;> omega
    · exact fold_in C L M _ q h m
theorem fold_is (C : List Int) (L : List (Int × Int)) : ∀ (M : List (Int × Int)) (b : Int), M.foldl (stepB C L) b = b ∨ ∃ q ∈ M, Maj C L q.2 ∧ M.foldl (stepB C L) b = q.2
  | [], _ => .inl rfl
  | r :: M, b => by
    rcases fold_is C L M (stepB C L b r) with h | ⟨q, h1, h2, h3⟩
    · show M.foldl (stepB C L) (stepB C L b r) = b ∨ _
      rw [h]
      unfold stepB
      split
      · rename_i m
        split
        · refine .inr ⟨r, List.mem_cons_self, m, ?_⟩
          show M.foldl (stepB C L) (stepB C L b r) = r.2
          rw [h]
          unfold stepB
          rw [if_pos m, if_pos (by assumption)]
        · exact .inl rfl
      · exact .inl rfl
    · exact .inr ⟨q, List.mem_cons_of_mem _ h1, h2, h3⟩
theorem best_maj {C : List Int} {L : List (Int × Int)} (hc : OkC C) (ok : OkD C L) : Maj C L (bestI C L) := by
  rcases fold_is C L L 0 with h | ⟨q, _, h2, h3⟩
  · unfold bestI
    rw [h]
    exact maj_zero hc ok
  · unfold bestI
    rw [h3]
    exact h2
theorem best_nn (C : List Int) (L : List (Int × Int)) : 0 ≤ bestI C L := fold_ge C L L 0
theorem best_le {C : List Int} {L : List (Int × Int)} {m : Int} (h0 : 0 ≤ m) (h : ∀ q ∈ L, q.2 ≤ m) : bestI C L ≤ m := by
  rcases fold_is C L L 0 with e | ⟨q, h1, _, h3⟩
  · unfold bestI
    rw [e]
    exact h0
  · unfold bestI
    rw [h3]
    exact h q h1
/-- the least of the lengths that are at least v -/
theorem least_ge (L : List (Int × Int)) (v : Int) : ∀ (C : List Int), (∃ h ∈ C, v ≤ lk L h) → ∃ h ∈ C, v ≤ lk L h ∧ ∀ g ∈ C, v ≤ lk L g → lk L h ≤ lk L g
  | [], ⟨_, h, _⟩ => by cases h
  | c :: C, e => by
    by_cases ex : ∃ h ∈ C, v ≤ lk L h
    · obtain ⟨h, h1, h2, h3⟩ := least_ge L v C ex
      by_cases hc : v ≤ lk L c ∧ lk L c < lk L h
      · refine ⟨c, List.mem_cons_self, hc.1, fun g hg hv => ?_⟩
        rcases List.mem_cons.mp hg with rfl | hg
        · omega
        · have := h3 g hg hv
          omega
      · refine ⟨h, List.mem_cons_of_mem _ h1, h2, fun g hg hv => ?_⟩
        rcases List.mem_cons.mp hg with rfl | hg
        · omega
        · exact h3 g hg hv
    · obtain ⟨h, h1, h2⟩ := e
      rcases List.mem_cons.mp h1 with rfl | h1
      · refine ⟨h, List.mem_cons_self, h2, fun g hg hv => ?_⟩
        rcases List.mem_cons.mp hg with rfl | hg
        · omega
        · exact absurd ⟨g, hg, hv⟩ ex
      · exact absurd ⟨h, h1, h2⟩ ex
theorem best_top {C : List Int} {L : List (Int × Int)} (hc : OkC C) (ok : OkD C L) {v : Int} (h : bestI C L < v) : ¬ Maj C L v := fun m => by
  have hb := best_nn C L
  have ex : ∃ h ∈ C, v ≤ lk L h := by
    have : 0 < cnt C L v := by unfold Maj at m; omega
    obtain ⟨x, h1, h2⟩ := List.countP_pos_iff.mp this
    exact ⟨x, h1, of_decide_eq_true h2⟩
  obtain ⟨x, h1, h2, h3⟩ := least_ge L v C ex
  rcases lk_cases L x with e | e
  · omega
  · have m2 : Maj C L (lk L x) := by
      unfold Maj at m ⊢
      have : cnt C L v ≤ cnt C L (lk L x) := by
        unfold cnt
        exact List.countP_mono_left fun g hg hv => decide_eq_true (h3 g hg (of_decide_eq_true hv))
      omega
    have := fold_in C L L 0 _ e m2
    have e2 : L.foldl (stepB C L) 0 = bestI C L := rfl
    rw [e2] at this
    simp only at this
    omega
theorem best_uniq {C : List Int} {L : List (Int × Int)} (hc : OkC C) (ok : OkD C L) {c : Int} (h1 : Maj C L c) (h2 : ∀ v, c < v → ¬ Maj C L v) : c = bestI C L := by
  rcases Int.lt_trichotomy c (bestI C L) with h | h | h
  · exact absurd (best_maj hc ok) (h2 _ h)
  · exact h
  · exact absurd h1 (best_top hc ok h)
def lens (C : List Int) (L : List (Int × Int)) : List Int := C.map fun h => lk L h
theorem cnt_perm {C : List Int} {L : List (Int × Int)} {ns : List Int} (h : ns.Perm (lens C L)) (v : Int) : cnt C L v = ns.countP fun x => decide (v ≤ x) := by
  rw [h.countP_eq]
  unfold lens cnt
  rw [List.countP_map]
  rfl
theorem chosen_is {C : List Int} {L : List (Int × Int)} (hc : OkC C) (ok : OkD C L) {ns : List Int} (h1 : ns.Perm (lens C L)) (h2 : ns.Pairwise (· ≥ ·)) {c : Int} (h3 : ns[C.length / 2]? = some c) : c = bestI C L := by
  have hl : ns.length = C.length := by rw [h1.length_eq]; unfold lens; rw [List.length_map]
  obtain ⟨hk, hk2⟩ := List.getElem?_eq_some_iff.mp h3
  have pw := List.pairwise_iff_getElem.mp h2
  have up : ∀ x ∈ ns.take (C.length / 2 + 1), c ≤ x := fun x hx => by
    obtain ⟨i, hi, rfl⟩ := List.getElem_of_mem hx
    rw [List.length_take] at hi
    rw [List.getElem_take, ← hk2]
    by_cases e : i = C.length / 2
    · subst e
      exact Int.le_refl _
    · exact pw i (C.length / 2) (by omega) hk (by omega)
  have dn : ∀ x ∈ ns.drop (C.length / 2), x ≤ c := fun x hx => by
    obtain ⟨i, hi, rfl⟩ := List.getElem_of_mem hx
    rw [List.length_drop] at hi
    rw [List.getElem_drop, ← hk2]
    by_cases e : i = 0
    · subst e
      exact Int.le_refl _
    · exact pw (C.length / 2) (C.length / 2 + i) hk (by omega) (by omega)
  refine best_uniq hc ok ?_ fun v hv m => ?_
  · unfold Maj
    rw [cnt_perm h1]
    have e := List.take_append_drop (C.length / 2 + 1) ns
    have : (ns.take (C.length / 2 + 1)).countP (fun x => decide (c ≤ x)) = C.length / 2 + 1 := by
      rw [List.countP_eq_length.mpr fun x hx => decide_eq_true (up x hx), List.length_take]
      omega
    rw [← e, List.countP_append, this]
    omega
  · unfold Maj at m
    rw [cnt_perm h1] at m
    have e := List.take_append_drop (C.length / 2) ns
    have z : (ns.drop (C.length / 2)).countP (fun x => decide (v ≤ x)) = 0 := List.countP_eq_zero.mpr fun x hx hv2 => by
      have := dn x hx
      have := of_decide_eq_true hv2
      omega
    have l := List.countP_le_length (p := fun x => decide (v ≤ x)) (l := ns.take (C.length / 2))
    rw [List.length_take] at l
    rw [← e, List.countP_append, z] at m
    omega
def hold (C : List Int) (L : List (Int × Int)) (v : Int) : List Int := C.filter fun h => decide (v ≤ lk L h)
theorem hold_len (C : List Int) (L : List (Int × Int)) (v : Int) : (hold C L v).length = cnt C L v := (List.countP_eq_length_filter ..).symm
theorem given_filter (p : Int → Bool) : ∀ (C : List Int), given C.length (fun i => p (C.getD i 0)) (fun i => V.int (C.getD i 0)) = (C.filter p).map V.int
  | [] => rfl
  | c :: C => by
    have ih := given_filter p C
    unfold given at ih ⊢
    rw [List.length_cons, List.range_succ_eq_map, List.filter_cons, List.filter_cons]
    have e : ((List.map Nat.succ (List.range C.length)).filter fun i => p ((c :: C).getD i 0)).map (fun i => V.int ((c :: C).getD i 0)) = (C.filter p).map V.int := by
      rw [← ih, List.filter_map, List.map_map]
      rfl
    show List.map _ (if p c = true then _ else _) = _
    split
    · rw [List.map_cons, List.map_cons, e]
      rfl
    · exact e
theorem lots_sub : ∀ (C : List Int) (m : Nat), ∀ L ∈ lotsOf C m, L.Sublist C ∧ L.length = m
  | C, 0, L, h => by
    have e : lotsOf C 0 = [[]] := by cases C <;> rfl
    rw [e] at h
    rw [List.mem_singleton.mp h]
    exact ⟨List.nil_sublist _, rfl⟩
  | [], m + 1, L, h => by cases h
  | c :: C, m + 1, L, h => by
    rcases List.mem_append.mp h with h | h
    · obtain ⟨L', h1, rfl⟩ := List.mem_map.mp h
      have := lots_sub C m L' h1
      exact ⟨this.1.cons₂ c, by rw [List.length_cons, this.2]⟩
    · have := lots_sub C (m + 1) L h
      exact ⟨this.1.cons c, this.2⟩
/-- a lot of more than half has a house with a length that more than half have -/
theorem lot_has {C M : List Int} {L : List (Int × Int)} {v : Int} (hm : Maj C L v) (hs : M.Sublist C) (hl : M.length = C.length / 2 + 1) : ∃ h ∈ M, v ≤ lk L h := by
  by_cases ex : ∃ h ∈ M, v ≤ lk L h
  · exact ex
  · exfalso
    have h1 : M.countP (fun h => !decide (v ≤ lk L h)) = M.length := List.countP_eq_length.mpr fun h hh => by
      have : ¬ v ≤ lk L h := fun z => ex ⟨h, hh, z⟩
      rw [decide_eq_false this]
      rfl
    have h2 := hs.countP_le (p := fun h => !decide (v ≤ lk L h))
    have h3 : C.length = C.countP (fun h => decide (v ≤ lk L h)) + C.countP (fun h => !decide (v ≤ lk L h)) := by
      have := List.length_eq_countP_add_countP (fun h => decide (v ≤ lk L h)) (l := C)
      rw [this]
      congr 1
      refine List.countP_congr fun x _ => ?_
      simp
    unfold Maj cnt at hm
    omega
/-! ### one length grows -/
def putI (L : List (Int × Int)) (h v : Int) : List (Int × Int) := if (L.any fun q => decide (q.1 = h)) = true then L.map (fun q => if q.1 = h then (q.1, v) else q) else L ++ [(h, v)]
theorem lk_put (L : List (Int × Int)) (h v g : Int) : lk (putI L h v) g = if g = h then v else lk L g := by
  unfold putI
  split
  · rename_i c
    induction L with
    | nil => cases c
    | cons q L ih =>
      unfold lk at ih ⊢
      rw [List.map_cons, List.lookup_cons, List.lookup_cons]
      by_cases e : q.1 = h
      · simp only [e, if_true]
        by_cases e2 : g = h
        · simp [e2]
        · have b : (g == h) = false := beq_eq_false_iff_ne.mpr e2
          simp only [b, e2, if_false]
          by_cases c2 : (L.any fun q => decide (q.1 = h)) = true
          · rw [ih c2, if_neg e2]
          · have : L.map (fun q => if q.1 = h then (q.1, v) else q) = L := by
              rw [List.map_congr_left (g := id)]
              · exact List.map_id _
              · intro x hx
                have : ¬ x.1 = h := fun z => c2 (List.any_eq_true.mpr ⟨x, hx, decide_eq_true z⟩)
                simp [this]
            rw [this]
      · simp only [e, if_false]
        have c2 : (L.any fun q => decide (q.1 = h)) = true := by
          rw [List.any_cons, decide_eq_false e, Bool.false_or] at c
          exact c
        by_cases e2 : g = q.1
        · have b : (g == q.1) = true := beq_iff_eq.mpr e2
          have : ¬ g = h := fun z => e (e2 ▸ z)
          simp [b, this]
        · have b : (g == q.1) = false := beq_eq_false_iff_ne.mpr e2
          simp only [b]
          exact ih c2
  · rename_i c
    induction L with
    | nil =>
      unfold lk
      rw [List.nil_append, List.lookup_cons]
      by_cases e2 : g = h
      · simp [e2]
      · have b : (g == h) = false := beq_eq_false_iff_ne.mpr e2
        simp [b, e2]
    | cons q L ih =>
      have ce : ¬ q.1 = h ∧ ¬ (L.any fun q => decide (q.1 = h)) = true := by
        constructor
        · exact fun z => c (by rw [List.any_cons, decide_eq_true z]; rfl)
        · exact fun z => c (by rw [List.any_cons, z, Bool.or_true])
      unfold lk at ih ⊢
      rw [List.cons_append, List.lookup_cons, List.lookup_cons]
      by_cases e2 : g = q.1
      · have b : (g == q.1) = true := beq_iff_eq.mpr e2
        have : ¬ g = h := fun z => ce.1 (e2 ▸ z)
        simp [b, this]
      · have b : (g == q.1) = false := beq_eq_false_iff_ne.mpr e2
        simp only [b]
        exact ih ce.2
theorem keys_put (L : List (Int × Int)) (h v : Int) : (putI L h v).map (·.1) = if (L.any fun q => decide (q.1 = h)) = true then L.map (·.1) else L.map (·.1) ++ [h] := by
  unfold putI
  split
  · rw [List.map_map]
    refine List.map_congr_left fun q _ => ?_
    show (if q.1 = h then (q.1, v) else q).1 = q.1
    split <;> rfl
  · rw [List.map_append]
    rfl
theorem List.Nodup.length_le_T : ∀ {M C : List Int}, M.Nodup → (∀ k ∈ M, k ∈ C) → M.length ≤ C.length
  | [], _, _, _ => Nat.zero_le _
  | m :: M, C, nd, h => by
    obtain ⟨n1, n2⟩ := List.nodup_cons.mp nd
    have hm := h m List.mem_cons_self
    have ih := List.Nodup.length_le_T (M := M) (C := C.erase m) n2 fun k hk => (List.mem_erase_of_ne fun z => n1 (by rw [← z]; exact hk)).mpr (h k (List.mem_cons_of_mem _ hk))
    rw [List.length_erase_of_mem hm] at ih
    have : 0 < C.length := List.length_pos_of_mem hm
    rw [List.length_cons]
    omega
theorem ok_put {C : List Int} {L : List (Int × Int)} {h v : Int} (hc : OkC C) (ok : OkD C L) (hm : h ∈ C) (h0 : 0 ≤ v) (h1 : v ≤ big) : OkD C (putI L h v) := by
  have kn : ((putI L h v).map (·.1)).Nodup ∧ ∀ k ∈ (putI L h v).map (·.1), k ∈ C := by
    rw [keys_put]
    split
    · exact ⟨ok.nd, fun k hk => by obtain ⟨q, hq, rfl⟩ := List.mem_map.mp hk; exact ok.sub q hq⟩
    · rename_i c
      refine ⟨List.nodup_append.mpr ⟨ok.nd, List.pairwise_singleton _ _, fun a ha b hb => ?_⟩, fun k hk => ?_⟩
      · rw [List.mem_singleton.mp hb]
        intro z
        obtain ⟨q, hq, e⟩ := List.mem_map.mp ha
        exact c (List.any_eq_true.mpr ⟨q, hq, decide_eq_true (e.trans z)⟩)
      · rcases List.mem_append.mp hk with hk | hk
        · obtain ⟨q, hq, rfl⟩ := List.mem_map.mp hk
          exact ok.sub q hq
        · rw [List.mem_singleton.mp hk]
          exact hm
  refine ⟨kn.1, fun q hq => kn.2 _ (List.mem_map.mpr ⟨q, hq, rfl⟩), fun q hq => ?_, ?_⟩
  · unfold putI at hq
    split at hq
    · obtain ⟨r, hr, e⟩ := List.mem_map.mp hq
      split at e
      · rw [← e]
        exact ⟨h0, h1⟩
      · rw [← e]
        exact ok.rng r hr
    · rcases List.mem_append.mp hq with hq | hq
      · exact ok.rng q hq
      · rw [List.mem_singleton.mp hq]
        exact ⟨h0, h1⟩
  · have key : (putI L h v).length ≤ C.length := by
      rw [← List.length_map (f := fun q : Int × Int => q.1)]
      exact K0.List.Nodup.length_le_T kn.1 kn.2
    have := hc.l7
    omega
theorem grows {C : List Int} {L : List (Int × Int)} {h v : Int} (hc : OkC C) (ok : OkD C L) (ok2 : OkD C (putI L h v)) (hv : lk L h < v) :
    bestI C L ≤ bestI C (putI L h v) ∧ bestI C (putI L h v) ≤ (if v > bestI C L then v else bestI C L) := by
  constructor
  · rcases Int.lt_or_le (bestI C (putI L h v)) (bestI C L) with z | z
    · refine absurd ?_ (best_top hc ok2 z)
      have m := best_maj hc ok
      unfold Maj at m ⊢
      have : cnt C L (bestI C L) ≤ cnt C (putI L h v) (bestI C L) := by
        unfold cnt
        refine List.countP_mono_left fun g _ hg => ?_
        have := of_decide_eq_true hg
        refine decide_eq_true ?_
        rw [lk_put]
        split
        · rename_i e
          rw [e] at this
          omega
        · exact this
      omega
    · exact z
  · rcases Int.lt_or_le (if v > bestI C L then v else bestI C L) (bestI C (putI L h v)) with z | z
    · have zb : bestI C L < bestI C (putI L h v) ∧ v < bestI C (putI L h v) := by
        split at z
        · exact ⟨by omega, z⟩
        · exact ⟨z, by omega⟩
      refine absurd ?_ (best_top hc ok zb.1)
      have m := best_maj hc ok2
      unfold Maj at m ⊢
      have : cnt C (putI L h v) (bestI C (putI L h v)) ≤ cnt C L (bestI C (putI L h v)) := by
        unfold cnt
        refine List.countP_mono_left fun g _ hg => ?_
        have := of_decide_eq_true hg
        refine decide_eq_true ?_
        rw [lk_put] at this
        split at this
        · omega
        · exact this
      omega
    · exact z
end K0

namespace K0
open PySem PySem.Spec PyProof.Rows L2 Evl
section
variable {K : PySem.W.Frag} {σ : L2.St} {H H' : Hp} {ta tb te td tx ty : TE} {tr tk : TA} {t u : TT} {x y z v : V} {Q : VK} {D : Ends} {tu tz : TS}
theorem el_sortKw {ns ms : List Int} (h : EvL te σ H (ns.map V.int)) (hs : ∀ ls : List Int, ls.Perm ns → ls.Pairwise (· ≥ ·) → ls = ms) : EvL (tCKw (rSortedKw K true [.bl true]) (tCons te tNil) (tCons (tC (.bl true)) tNil)) σ H (ms.map V.int) := fun H1 e Q q =>
  h H1 e _ fun p H2 hp e2 h2 => ⟨p, ns, rfl, rfl, sq_of h2, fun ls r pm pw hr => by
    rw [hs ls pm pw]
    exact q r _ (fresh_back e2 hr) (e2.trans (Ex.new hr)) upd_same⟩
theorem q_sortKw {i : Nat} {ns : List Int} (h : EvL te σ H (ns.map V.int)) (k : ∀ (p : Addr) (ls : List Int) H1, H p = none → Ex H H1 → H1 p = some (.lst (ls.map V.int)) → ls.Perm ns → ls.Pairwise (· ≥ ·) → tz D (σ.set i (some (.ref p))) H1) :
    tSeq (tAsg (tCKw (rSortedKw K true [.bl true]) (tCons te tNil) (tCons (tC (.bl true)) tNil)) (gName i)) tz D σ H :=
  h H (Ex.refl _) _ fun p H2 hp e2 h2 => ⟨p, ns, rfl, rfl, sq_of h2, fun ls r pm pw hr => k r ls _ (fresh_back e2 hr) (e2.trans (Ex.new hr)) upd_same pm pw⟩
theorem el_isT {xs ys : List V} (h : EvL te σ H xs) (e : xs = ys) : EvL te σ H ys := e ▸ h
theorem eu_isT {xs ys : List V} (h : EvU te σ H xs) (e : xs = ys) : EvU te σ H ys := e ▸ h
theorem cell_at {C : List Int} {i : Nat} {y : V} (h : (C.map V.int)[i]? = some y) : ∃ c, C[i]? = some c ∧ y = .int c ∧ C.getD i 0 = c := by
  rw [List.getElem?_map] at h
  cases g : C[i]? with
  | none => rw [g] at h; cases h
  | some c =>
    rw [g] at h
    exact ⟨c, rfl, (Option.some.inj h).symm, by rw [List.getD_eq_getElem?_getD, g]; rfl⟩
end
section
variable {P : Program} {w : World} {K : PySem.W.Frag} {mg : Str → Option Value} {base : Heap} {A : Ad} {D : Fd}
def sp_least_halves (K : PySem.W.Frag) : Sp := fun vs H Q _ => ∃ p C, vs = [.ref p] ∧ CirS K H p C ∧ RetR K (.tup ((lotsOf C (C.length / 2 + 1)).map ciD)) H Q
theorem len_least_halves {vs : List V} {H : Hp} {Q : VK} {E : XK} (h : sp_least_halves K vs H Q E) : vs.length = 1 := by
  obtain ⟨p, C, rfl, _⟩ := h
  rfl
theorem ok_least_halves (T : Txt K mg A D) : FnOk P w K mg base CX0 9 A.least_halves D.least_halves ["circle"] (sp_least_halves K) := by
  have G_check_circle : FnOk P w K mg base CX0 5 A.check_circle D.check_circle ["value"] (sp_check_circle K) := ok_check_circle T
  have G_lots_of : FnOk P w K mg base CX0 8 A.lots_of D.lots_of ["houses", "many"] (sp_lots_of K) := ok_lots_of T
  refine T.F_least_halves.ok sc_least_halves (fun vs H Q E h => len_least_halves h) (fun cdv A0 outer s H vs Q E hr h => ?_)
  refine ⟨_, (pss_cons (ps_expr (pe_call G_check_circle (hr.mono (by decide)) rfl T.g_check_circle T.F_check_circle.kp T.b_check_circle .nil pass0 (pa_cons (pv 0) pa_nil)))
  (pss_one (ps_ret (pe_callTy call_tuple_of (by rfl) T.b_tuple (by decide +kernel) (pa_cons (pe_call G_lots_of (hr.mono (by decide)) rfl T.g_lots_of T.F_lots_of.kp T.b_lots_of .nil pass0 (pa_cons (pv 0) (pa_cons (pe_op op_add (pe_op op_fdiv (pe_callB call_len (by rfl) T.b_len (by decide +kernel) (pa_cons (pv 0) pa_nil)) pe_int) pe_int) pa_nil))) pa_nil))))), ?_⟩
  obtain ⟨p, C, rfl, hc, k⟩ := h
  have l7 := hc.2.l7
  have hn : ((C.map V.int).length : Int) = (C.length : Int) := by rw [List.length_map]
  refine q_drop (ev_call (ea_cons (ev_var rfl) ea_nil) (sv_checkC hc)) fun H1 e1 => ?_
  have hc1 := hc.ex e1
  refine n_ret (n_cb (n_cons (d_raw (n_cons (n_var rfl (n_cons ((ev_is (w := .int ((C.length / 2 + 1 : Nat) : Int)) (ev_op (ev_op (ev_cb (ea_cons (ev_var rfl) ea_nil) (rc_lenT hc1.1)) ev_c (rv_I ⟨by decide, by decide⟩)) ev_c rv_I0) (by rw [hn]; congr 1) : Ev _ (L2.start N_least_halves [V.ref p]) H1 (.int ((C.length / 2 + 1 : Nat) : Int))) H1 (Ex.refl _) _ fun H2 e2 => n_nil ⟨p, C, _, rfl, ex_t e2 hc1.1, by omega, by omega, fun l vs H3 hl e3 h3 r3 => n_nil ⟨l, vs, rfl, .inl ⟨sq_of h3, fun q hq => ?_⟩⟩⟩)))))))
  exact k _ _ ((e1.trans e2).trans (e3.trans (Ex.new hq))) (.tup (st_of upd_same) (r3.ex (Ex.new hq)))
def sp_length_chosen (K : PySem.W.Frag) : Sp := fun vs H Q _ => ∃ p d C L, vs = [.ref p, .ref d, .non] ∧ CirS K H p C ∧ DJ H d L ∧ OkD C L ∧ RetV (.int (bestI C L)) H Q
theorem len_length_chosen {vs : List V} {H : Hp} {Q : VK} {E : XK} (h : sp_length_chosen K vs H Q E) : vs.length = 3 := by
  obtain ⟨p, d, C, L, rfl, _⟩ := h
  rfl
theorem ok_length_chosen (T : Txt K mg A D) : FnOk P w K mg base CX0 1 A.length_chosen D.length_chosen ["circle", "laid", "without"] (sp_length_chosen K) := by
  refine T.F_length_chosen.ok sc_length_chosen (fun vs H Q E h => len_length_chosen h) (fun cdv A0 outer s H vs Q E hr h => ?_)
  refine ⟨_, (pss_cons (ps_set (i := 3) sc_length_chosen.nd rfl (Or.inl rfl) (pe_callBK (cr_sortedRev (b := true)) (by rfl) T.b_sorted (by decide +kernel) (pa_cons (pe_lc (own := [("house", 4)]) (g := gName 4) (tt := tYes) rfl sc_length_chosen.nd (pi_tup (pv 0)) (blkOk_by (own := [("house", 4)]) (N := N_length_chosen) (sc := defScope s_length_chosen) (by decide +kernel)) (fun _ _ _ _ _ => by exact pg_name (i := 4) sc_length_chosen.nd rfl (Or.inl rfl)) (fun _ _ _ _ _ => by exact pts_nil) (fun _ _ _ _ _ => by exact (pe_dget2 (hu_of hr) (pv 1) (pv 4) pe_int ⟨by rfl, by rfl, by rfl, by rfl⟩))) pa_nil) (pk_cons pe_bl pk_nil)))
  (pss_one (ps_ret (pe_ix ix_list (pv 3) (pe_ifExp (pt_cmpR op_eq (pv 2) pe_str (nomark _)) (pe_op op_fdiv (pe_op op_sub (pe_callB call_len (by rfl) T.b_len (by decide +kernel) (pa_cons (pv 0) pa_nil)) pe_int) pe_int) (pe_op op_fdiv (pe_callB call_len (by rfl) T.b_len (by decide +kernel) (pa_cons (pv 0) pa_nil)) pe_int)) (fun _ _ => rfl))))), ?_⟩
  obtain ⟨p, d, C, L, rfl, hc, hd, ok, k⟩ := h
  have l7 := hc.2.l7
  have l1 := hc.2.l1
  have hn : ((C.map V.int).length : Int) = (C.length : Int) := by rw [List.length_map]
  refine q_sortKw (ns := lens C L) (el_isT (el_lcT (fun _ => true) (fun i => .int (lk L (C.getD i 0))) (ev_var rfl) hc.1 (by rw [List.length_map]; omega) (fun _ => rfl) (fun i y H1 e1 hy => et_yes) (fun i y H1 e1 hy _ => ?_)) ?_) fun l ls H2 hl e2 h2 pm pw => ?_
  · obtain ⟨c, h1, rfl, h3⟩ := cell_at hy
    rw [h3]
    exact ev_getI (ev_var rfl) (ev_var rfl) ev_c (hd.ex e1).di
  · rw [given_map (fun _ => rfl), List.length_map]
    unfold lens
    rw [List.map_map]
    exact map_rangeD (fun c => V.int (lk L c)) 0 C
  · have ll : ls.length = C.length := by rw [pm.length_eq]; unfold lens; rw [List.length_map]
    have hlt : C.length / 2 < ls.length := by omega
    refine s_ret (ev_op (ev_var rfl) (ev_if (b := false) (et_is (et_test (ev_op (ev_var rfl) ev_c (rv_eq rfl))) rfl) (fun z => by cases z) fun _ => ev_op (ev_cb (ea_cons (ev_var rfl) ea_nil) (rc_lenT (ex_t e2 hc.1))) ev_c (rv_I ⟨by decide, by decide⟩)) (rv_ixL (sq_of h2) (at_of (j := C.length / 2) (by rw [hn]; omega) ?_))) fun H3 e3 => k H3 (e2.trans e3)
    rw [List.getElem?_map, List.getElem?_eq_getElem hlt, ← chosen_is hc.2 ok pm pw (List.getElem?_eq_getElem hlt)]
    rfl
def sp_chosen_length (K : PySem.W.Frag) : Sp := fun vs H Q _ => ∃ p d C L, vs = [.ref p, .ref d] ∧ CirS K H p C ∧ DJ H d L ∧ OkD C L ∧ RetV (.int (bestI C L)) H Q
theorem len_chosen_length {vs : List V} {H : Hp} {Q : VK} {E : XK} (h : sp_chosen_length K vs H Q E) : vs.length = 2 := by
  obtain ⟨p, d, C, L, rfl, _⟩ := h
  rfl
theorem sv_chosen {H : Hp} {p d : Addr} {C : List Int} {L : List (Int × Int)} (hc : CirS K H p C) (hd : DJ H d L) (ok : OkD C L) : SpV (sp_chosen_length K) [.ref p, .ref d] H (.int (bestI C L)) := fun H1 e Q q E => ⟨p, d, C, L, rfl, hc.ex e, hd.ex e, ok, q⟩
theorem ok_chosen_length (T : Txt K mg A D) : FnOk P w K mg base CX0 6 A.chosen_length D.chosen_length ["circle", "laid"] (sp_chosen_length K) := by
  have G_check_circle : FnOk P w K mg base CX0 5 A.check_circle D.check_circle ["value"] (sp_check_circle K) := ok_check_circle T
  have G_check_laid : FnOk P w K mg base CX0 5 A.check_laid D.check_laid ["circle", "laid"] (sp_check_laid K) := ok_check_laid T
  have G_length_chosen : FnOk P w K mg base CX0 1 A.length_chosen D.length_chosen ["circle", "laid", "without"] (sp_length_chosen K) := ok_length_chosen T
  refine T.F_chosen_length.ok sc_chosen_length (fun vs H Q E h => len_chosen_length h) (fun cdv A0 outer s H vs Q E hr h => ?_)
  refine ⟨_, (pss_cons (ps_expr (pe_call G_check_circle (hr.mono (by decide)) rfl T.g_check_circle T.F_check_circle.kp T.b_check_circle .nil pass0 (pa_cons (pv 0) pa_nil)))
  (pss_cons (ps_expr (pe_call G_check_laid (hr.mono (by decide)) rfl T.g_check_laid T.F_check_laid.kp T.b_check_laid .nil pass0 (pa_cons (pv 0) (pa_cons (pv 1) pa_nil))))
  (pss_one (ps_ret (pe_call G_length_chosen (hr.mono (by decide)) rfl T.g_length_chosen T.F_length_chosen.kp T.b_length_chosen .nil pass0 (pa_cons (pv 0) (pa_cons (pv 1) (pa_cons pe_non pa_nil)))))))), ?_⟩
  obtain ⟨p, d, C, L, rfl, hc, hd, ok, k⟩ := h
  refine q_drop (ev_call (ea_cons (ev_var rfl) ea_nil) (sv_checkC hc)) fun H1 e1 => ?_
  refine q_drop (ev_call (ea_cons (ev_var rfl) (ea_cons (ev_var rfl) ea_nil)) fun H2 e2 Q q E => ⟨p, d, C, L, rfl, (hc.ex e1).ex e2, (hd.ex e1).ex e2, ok, q⟩) fun H2 e2 => ?_
  exact s_ret (ev_call (ea_cons (ev_var rfl) (ea_cons (ev_var rfl) (ea_cons ev_c ea_nil))) fun H3 e3 Q q E => ⟨p, d, C, L, rfl, (hc.ex (e1.trans e2)).ex e3, (hd.ex (e1.trans e2)).ex e3, ok, q⟩) fun H3 e3 => k H3 ((e1.trans e2).trans e3)
def sp_holders (K : PySem.W.Frag) : Sp := fun vs H Q _ => ∃ p d C L, ∃ v : Int, vs = [.ref p, .ref d, .int v] ∧ CirS K H p C ∧ DJ H d L ∧ OkD C L ∧ 0 ≤ v ∧ v ≤ big ∧ ∀ q H', H q = none → Ex H H' → H' q = some (.tup ((hold C L v).map V.int)) → Q (.ref q) H'
theorem len_holders {vs : List V} {H : Hp} {Q : VK} {E : XK} (h : sp_holders K vs H Q E) : vs.length = 3 := by
  obtain ⟨p, d, C, L, v, rfl, _⟩ := h
  rfl
theorem eu_holdT {σ : L2.St} {H : Hp} {j p2 d2 : Nat} {vs : List Nat} {tv : TE} {p d : Addr} {C : List Int} {L : List (Int × Int)} {v : Int} (hc : CirS K H p C) (hd : DI H d L) (h1 : σ[p2]? = some (some (.ref p))) (h3 : ∀ x H1, Ex H H1 → Ev tv ((wipe σ vs).set j (some x)) H1 (.int v)) (h4 : ∀ x, ((wipe σ vs).set j (some x))[j]? = some (some x)) (h5 : ∀ x, ((wipe σ vs).set j (some x))[d2]? = some (some (.ref d)))
    (hw : ∀ x, wipe ((wipe σ vs).set j (some x)) vs = wipe σ vs) :
    EvL (tLc (iTup K (tVar p2)) (gName j) (tTest (tOp (rI0 fun i j => .bl (decide (j ≤ i))) (tDGet2 (tVar d2) (tVar j) (tC (.int 0))) tv)) (tVar j) vs) σ H ((hold C L v).map V.int) := by
  have l7 := hc.2.l7
  refine el_isT (el_lcT (fun i => decide (v ≤ lk L (C.getD i 0))) (fun i => .int (C.getD i 0)) (ev_var h1) hc.1 (by rw [List.length_map]; omega) hw (fun i y H1 e1 hy => ?_) (fun i y H1 e1 hy _ => ?_)) ?_
  · obtain ⟨c, g1, rfl, g3⟩ := cell_at hy
    rw [g3]
    exact et_test (ev_op (ev_getI (ev_var (h5 _)) (ev_var (h4 _)) ev_c (hd.ex e1)) (h3 _ _ e1) rv_I0)
  · obtain ⟨c, g1, rfl, g3⟩ := cell_at hy
    rw [g3]
    exact ev_var (h4 _)
  · rw [List.length_map]
    exact given_filter (fun c => decide (v ≤ lk L c)) C
theorem ok_holders (T : Txt K mg A D) : FnOk P w K mg base CX0 6 A.holders D.holders ["circle", "laid", "length"] (sp_holders K) := by
  have G_check_number : FnOk P w K mg base CX0 3 A.check_number D.check_number ["given", "least", "most"] (sp_check_number K) := ok_check_number T
  have G_check_circle : FnOk P w K mg base CX0 5 A.check_circle D.check_circle ["value"] (sp_check_circle K) := ok_check_circle T
  have G_check_laid : FnOk P w K mg base CX0 5 A.check_laid D.check_laid ["circle", "laid"] (sp_check_laid K) := ok_check_laid T
  obtain ⟨ds_check_number, dv_check_number, db_check_number⟩ := T.d_check_number
  refine T.F_holders.ok sc_holders (fun vs H Q E h => len_holders h) (fun cdv A0 outer s H vs Q E hr h => ?_)
  refine ⟨_, (pss_cons (ps_expr (pe_call G_check_circle (hr.mono (by decide)) rfl T.g_check_circle T.F_check_circle.kp T.b_check_circle .nil pass0 (pa_cons (pv 0) pa_nil)))
  (pss_cons (ps_expr (pe_call G_check_laid (hr.mono (by decide)) rfl T.g_check_laid T.F_check_laid.kp T.b_check_laid .nil pass0 (pa_cons (pv 0) (pa_cons (pv 1) pa_nil))))
  (pss_cons (ps_expr (pe_call G_check_number (hr.mono (by decide)) rfl T.g_check_number T.F_check_number.kp db_check_number dv_check_number pass0 (pa_cons (pv 2) (pa_cons pe_int pa_nil))))
  (pss_one (ps_ret (pe_callTy call_tuple_of (by rfl) T.b_tuple (by decide +kernel) (pa_cons (pe_lc (own := [("house", 3)]) (g := gName 3)  rfl sc_holders.nd (pi_tup (pv 0)) (blkOk_by (own := [("house", 3)]) (N := N_holders) (sc := defScope s_holders) (by decide +kernel)) (fun _ _ _ _ _ => by exact pg_name (i := 3) sc_holders.nd rfl (Or.inl rfl)) (fun _ _ _ _ _ => by exact (pts_one (pt_cmpR op_ge (pe_dget2 (hu_of hr) (pv 1) (pv 3) pe_int ⟨by rfl, by rfl, by rfl, by rfl⟩) (pv 2) (nomark _)))) (fun _ _ _ _ _ => by exact (pv 3))) pa_nil))))))), ?_⟩
  obtain ⟨p, d, C, L, v, rfl, hc, hd, ok, v0, v1, k⟩ := h
  refine q_drop (ev_call (ea_cons (ev_var rfl) ea_nil) (sv_checkC hc)) fun H1 e1 => ?_
  refine q_drop (ev_call (ea_cons (ev_var rfl) (ea_cons (ev_var rfl) ea_nil)) fun H2 e2 Q q E => ⟨p, d, C, L, rfl, (hc.ex e1).ex e2, (hd.ex e1).ex e2, ok, q⟩) fun H2 e2 => ?_
  refine q_drop (ev_call (ea_cons (ev_var rfl) (ea_cons ev_c ea_nil)) (sv_check (.int v) (within_P (by omega) v1 v0 v1))) fun H3 e3 => ?_
  have e := (e1.trans e2).trans e3
  refine n_ret (n_cb (n_cons (eu_holdT (p2 := 0) (d2 := 1) (hc.ex e) (hd.ex e).di rfl (fun _ _ _ => ev_var rfl) (fun _ => rfl) (fun _ => rfl) (fun _ => rfl) H3 (Ex.refl _) _ fun l H4 hl e4 h4 => n_nil ⟨l, _, rfl, .inl ⟨sq_of h4, fun q hq => ?_⟩⟩)))
  exact k q _ (fresh_back (e.trans e4) hq) ((e.trans e4).trans (Ex.new hq)) upd_same
end
end K0

namespace K0
open PySem PySem.Spec PyProof.Rows L2 Evl
section
variable {K : PySem.W.Frag} {σ : L2.St} {H H' : Hp} {ta tb te td tx ty : TE} {tr tk : TA} {t u : TT} {x y z v : V} {Q : VK} {D : Ends} {tu tz : TS}
theorem ev_lenNew {xs : List V} (h : EvL te σ H xs) : Ev (tCB (fun xs H Q => ∃ x n, xs = [x] ∧ LenV K x H n ∧ Q (.int n) H) (tCons te tNil)) σ H (.int (xs.length : Nat)) := fun H1 e Q q =>
  h H1 e _ fun p H2 hp e2 h2 => ⟨_, xs.length, rfl, .inl ⟨xs, sq_of h2, rfl⟩, q H2 e2⟩
theorem ev_lenNewT {xs : List V} (h : EvU te σ H xs) : Ev (tCB (fun xs H Q => ∃ x n, xs = [x] ∧ LenV K x H n ∧ Q (.int n) H) (tCons te tNil)) σ H (.int (xs.length : Nat)) := fun H1 e Q q =>
  h H1 e _ fun p H2 hp e2 h2 => ⟨_, xs.length, rfl, .inr ⟨xs, st_of h2, rfl⟩, q H2 e2⟩
/-- for k in d, nothing but growing -/
theorem q_forKeysI {d : Addr} {kvs : List (Key × V)} {j : Nat} (h : ∀ H1, Ev td σ H1 (.ref d)) (hd : H d = some (.dK kvs)) (Pv : Nat → L2.St → Prop) (h0 : Pv 0 σ)
    (hs : ∀ i q od σ' H', Ex (upd H d (.frz od (.dK kvs))) H' → kvs[i]? = some q → Pv i σ' → tu { nx := fun σ2 H2 => Pv (i + 1) σ2 ∧ Ex (upd H d (.frz od (.dK kvs))) H2, rt := fun v H2 => H2 d = some (.frz od (.dK kvs)) ∧ D.rt v (upd H2 d (.dK kvs)), bk := fun σ2 H2 => H2 d = some (.frz od (.dK kvs)) ∧ tz D σ2 (upd H2 d (.dK kvs)), ct := fun σ2 H2 => Pv (i + 1) σ2 ∧ Ex (upd H d (.frz od (.dK kvs))) H2 } (σ'.set j (some (kV q.1))) H')
    (hz : ∀ σ' H', Ex H H' → Pv kvs.length σ' → tz D σ' H') : tSeq (tLock (tFor (iKeys td) (gName j) tu)) tz D σ H := by
  refine ⟨d, .dK kvs, hd, trivial, fun od => ?_⟩
  refine h _ _ (Ex.refl _) _ fun H2 e2 => ?_
  have h2 := e2 _ _ (upd_same (H := H) (a := d) (o := .frz od (.dK kvs)))
  refine ⟨d, od, rfl, .inl ⟨kvs, h2, ?_⟩⟩
  refine for_it (walk_keys (d := d) (o := od) (kvs := kvs)) (fun i σ' H' => Pv i σ' ∧ Ex (upd H d (.frz od (.dK kvs))) H') ⟨h0, e2⟩ (fun i σ' H' _ p => p.2 _ _ upd_same) (fun i x σ' H' H'' hi p y => ?_) (fun σ' H' p => ?_)
  · obtain ⟨rfl, k, v, hq, rfl⟩ := y
    exact hs i (k, v) od σ' H'' p.2 hq p.1
  · refine ⟨p.2 _ _ upd_same, hz σ' _ (fun b o hb => ?_) p.1⟩
    by_cases c : b = d
    · subst c
      rw [upd_same]
      rw [hd] at hb
      exact hb
    · rw [upd_ne c]
      exact p.2 _ _ (by rw [upd_ne c]; exact hb)
theorem cirS_lock {p d : Addr} {C : List Int} {kvs : List (Key × V)} {u : HO} (hd : H d = some (.dK kvs)) (h : CirS K H p C) : CirS K (upd H d u) p C := ⟨sqT_dict hd h.1, h.2⟩
end
section
variable {P : Program} {w : World} {K : PySem.W.Frag} {mg : Str → Option Value} {base : Heap} {A : Ad} {D : Fd}
def sp_law_pickT (K : PySem.W.Frag) : Sp := fun vs H Q _ => ∃ (a p : Addr) (xs : List V), vs = [.ref a, .ref p] ∧ DiceAt H a ∧ p ≠ a ∧ SqT K H p xs ∧ xs ≠ [] ∧ xs.length < 1000000 ∧ ∀ x H', x ∈ xs → Bt a H H' → DiceAt H' a → Q x H'
namespace M
theorem len_law_pickT {vs : List V} {H : Hp} {Q : VK} {E : XK} (h : sp_law_pickT K vs H Q E) : vs.length = 2 := by
  obtain ⟨a, p, xs, rfl, _⟩ := h
  rfl
theorem ok_law_pickT (T : Txt K mg A D) : FnOk P w K mg base CX0 2 A.law_pick D.law_pick ["dice", "items"] (sp_law_pickT K) := by
  have G_law_roll : FnOk P w K mg base CX0 1 A.law_roll D.law_roll ["dice", "most"] (sp_law_roll K) := ok_law_roll T
  refine T.F_law_pick.ok sc_law_pick (fun vs H Q E h => len_law_pickT h) (fun cdv A0 outer s H vs Q E hr h => ?_)
  refine ⟨_, (pss_one (ps_ret (pe_ix ix_tup (pv 1) (pe_call G_law_roll (hr.mono (by decide)) rfl T.g_law_roll T.F_law_roll.kp T.b_law_roll .nil pass0 (pa_cons (pv 0) (pa_cons (pe_callB call_len (by rfl) T.b_len (by decide +kernel) (pa_cons (pv 1) pa_nil)) pa_nil))) (fun _ _ => rfl)))), ?_⟩
  obtain ⟨a, p, xs, rfl, ha, hne, hp, hx, hx2, k⟩ := h
  have hpos : 0 < xs.length := List.length_pos_iff.mpr hx
  refine ⟨_, rfl, ?_⟩
  refine (ea_cons (ev_var rfl) (ea_cons (ev_cb (ea_cons (ev_var rfl) ea_nil) (rc_lenT hp)) ea_nil) : EvA _ _ H [.ref a, .int (xs.length : Nat)]) H (Ex.refl _) _ fun H1 e1 => ?_
  refine ⟨a, _, rfl, ha.ex e1, by omega, by omega, fun r H2 h0 h1 hb hd => ?_⟩
  have hbt := (Bt.of e1).trans hb
  have hj : r.toNat < xs.length := by omega
  refine ⟨p, xs, r, xs[r.toNat], rfl, rfl, hbt.sqT hne hp, at_of (j := r.toNat) (by omega) (List.getElem?_eq_getElem hj), ?_⟩
  exact k _ H2 (List.getElem_mem hj) hbt hd
end M
theorem fn_orT {CX : CXT} {k : Nat} {f : Addr} {fd : FuncData} {ps : List Str} {sp sq : Sp} (F : FnOk P w K mg base CX k f fd ps sp) (G : FnOk P w K mg base CX k f fd ps sq) : FnOk P w K mg base CX k f fd ps (fun vs H Q E => sp vs H Q E ∨ sq vs H Q E) :=
  ⟨fun vs H Q E h => h.elim (F.len vs H Q E) (G.len vs H Q E), fun A0 o s H ar us vs Q E hr e hb hv hs => hs.elim (F.run A0 o s H ar us vs Q E hr e hb hv) (G.run A0 o s H ar us vs Q E hr e hb hv)⟩
def sp_law_pick2 (K : PySem.W.Frag) : Sp := fun vs H Q E => sp_law_pick K vs H Q E ∨ sp_law_pickT K vs H Q E
theorem ok_law_pick2 (T : Txt K mg A D) : FnOk P w K mg base CX0 2 A.law_pick D.law_pick ["dice", "items"] (sp_law_pick2 K) := fn_orT (ok_law_pick T) (M.ok_law_pickT T)
def sp_law_length_drawn (K : PySem.W.Frag) : Sp := fun vs H Q _ => ∃ (a : Addr), vs = [.ref a] ∧ DiceAt H a ∧ ∀ t H', 0 ≤ t → t ≤ 10 ^ 50 → Bt a H H' → DiceAt H' a → Q (.int t) H'
theorem len_law_length_drawn {vs : List V} {H : Hp} {Q : VK} {E : XK} (h : sp_law_length_drawn K vs H Q E) : vs.length = 1 := by
  obtain ⟨a, rfl, _⟩ := h
  rfl
theorem ok_law_length_drawn (T : Txt K mg A D) : FnOk P w K mg base CX0 3 A.law_length_drawn D.law_length_drawn ["dice"] (sp_law_length_drawn K) := by
  have G_law_roll : FnOk P w K mg base CX0 1 A.law_roll D.law_roll ["dice", "most"] (sp_law_roll K) := ok_law_roll T
  have G_law_pick : FnOk P w K mg base CX0 2 A.law_pick D.law_pick ["dice", "items"] (sp_law_pick2 K) := ok_law_pick2 T
  refine T.F_law_length_drawn.ok sc_law_length_drawn (fun vs H Q E h => len_law_length_drawn h) (fun cdv A0 outer s H vs Q E hr h => ?_)
  refine ⟨_, (pss_one (ps_ret (pe_call G_law_pick (hr.mono (by decide)) rfl T.g_law_pick T.F_law_pick.kp T.b_law_pick .nil pass0 (pa_cons (pv 0) (pa_cons (pe_lst (pa_cons pe_int (pa_cons pe_int (pa_cons pe_int (pa_cons pe_int (pa_cons pe_int (pa_cons pe_int (pa_cons (pe_call G_law_roll (hr.mono (by decide)) rfl T.g_law_roll T.F_law_roll.kp T.b_law_roll .nil pass0 (pa_cons (pv 0) (pa_cons pe_int pa_nil))) (pa_cons (pe_call G_law_roll (hr.mono (by decide)) rfl T.g_law_roll T.F_law_roll.kp T.b_law_roll .nil pass0 (pa_cons (pv 0) (pa_cons pe_int pa_nil))) (pa_cons (pe_op op_pow pe_int pe_int) pa_nil)))))))))) pa_nil))))), ?_⟩
  obtain ⟨a, rfl, hd, k⟩ := h
  refine n_ret (d_raw (n_cons (n_var rfl (n_cons (n_lstR (n_cons (n_c (n_cons (n_c (n_cons (n_c (n_cons (n_c (n_cons (n_c (n_cons (n_c (n_cons ?_))))))))))))))))))
  refine d_raw (n_cons (n_var rfl (n_cons (n_c (n_nil ⟨a, 30, rfl, hd, by decide, by decide, fun r1 H1 lo1 hi1 b1 d1 => ?_⟩)))))
  refine n_cons (d_raw (n_cons (n_var rfl (n_cons (n_c (n_nil ⟨a, 30, rfl, d1, by decide, by decide, fun r2 H2 lo2 hi2 b2 d2 => ?_⟩))))))
  refine n_cons (ev_op ev_c ev_c (rv_pw (by decide)) H2 (Ex.refl _) _ fun H3 e3 => n_nil ⟨sz_of (by simp), fun l hl => n_nil ?_⟩)
  have bt := (b1.trans b2).trans (Bt.of e3)
  have d3 := d2.ex e3
  refine .inl ⟨a, l, _, rfl, d3.ex (Ex.new hl), (d3.ne hl), sq_of upd_same, by simp, by simp, fun x H5 hx b5 d5 => ?_⟩
  have fin : ∃ t : Int, x = .int t ∧ 0 ≤ t ∧ t ≤ 10 ^ 50 := by
    have m50 : (1000000 : Int) ≤ 10 ^ 50 := by decide +kernel
    simp only [List.mem_cons, List.not_mem_nil, or_false] at hx
    rcases hx with rfl | rfl | rfl | rfl | rfl | rfl | rfl | rfl | rfl
    · exact ⟨_, rfl, by omega, by omega⟩
    · exact ⟨_, rfl, by omega, by omega⟩
    · exact ⟨_, rfl, by omega, by omega⟩
    · exact ⟨_, rfl, by omega, by omega⟩
    · exact ⟨_, rfl, by omega, by omega⟩
    · exact ⟨_, rfl, by omega, by omega⟩
    · exact ⟨_, rfl, by omega, by omega⟩
    · exact ⟨_, rfl, by omega, by omega⟩
    · exact ⟨10 ^ 50, rfl, by omega, by omega⟩
  obtain ⟨t, rfl, t0, t1⟩ := fin
  exact k t H5 t0 t1 ((bt.trans (Bt.of (Ex.new hl))).trans b5) d5
def sp_law_ro_is_half (K : PySem.W.Frag) : Sp := fun vs H Q _ => ∃ p C, ∃ m : Int, vs = [.ref p, .int m] ∧ CirS K H p C ∧ RetV (.bl (decide ((C.length : Int) < m + m))) H Q
theorem len_law_ro_is_half {vs : List V} {H : Hp} {Q : VK} {E : XK} (h : sp_law_ro_is_half K vs H Q E) : vs.length = 2 := by
  obtain ⟨p, C, m, rfl, _⟩ := h
  rfl
theorem ok_law_ro_is_half (T : Txt K mg A D) : FnOk P w K mg base CX0 1 A.law_ro_is_half D.law_ro_is_half ["circle", "many"] (sp_law_ro_is_half K) := by
  refine T.F_law_ro_is_half.ok sc_law_ro_is_half (fun vs H Q E h => len_law_ro_is_half h) (fun cdv A0 outer s H vs Q E hr h => ?_)
  refine ⟨_, (pss_one (ps_ret (pe_cmpR op_gt (pe_op op_add (pv 1) (pv 1)) (pe_callB call_len (by rfl) T.b_len (by decide +kernel) (pa_cons (pv 0) pa_nil)) (nomark _)))), ?_⟩
  obtain ⟨p, C, m, rfl, hc, k⟩ := h
  exact s_ret (ev_is (ev_op (ev_op (ev_var rfl) (ev_var rfl) rv_I0) (ev_cb (ea_cons (ev_var rfl) ea_nil) (rc_lenT hc.1)) rv_I0) (by rw [List.length_map])) fun H1 e1 => k H1 e1
def sp_law_ro_chosen (K : PySem.W.Frag) : Sp := fun vs H Q _ => ∃ p d C L, vs = [.ref p, .ref d] ∧ CirS K H p C ∧ DJ H d L ∧ OkD C L ∧ RetV (.int (bestI C L)) H Q
theorem len_law_ro_chosen {vs : List V} {H : Hp} {Q : VK} {E : XK} (h : sp_law_ro_chosen K vs H Q E) : vs.length = 2 := by
  obtain ⟨p, d, C, L, rfl, _⟩ := h
  rfl
theorem bestI_snoc (C : List Int) (L : List (Int × Int)) (k : Nat) (q : Int × Int) (h : L[k]? = some q) : (L.take (k + 1)).foldl (stepB C L) 0 = stepB C L ((L.take k).foldl (stepB C L) 0) q := by
  rw [List.take_succ, h, List.foldl_append]
  rfl
theorem ok_law_ro_chosen (T : Txt K mg A D) : FnOk P w K mg base CX0 2 A.law_ro_chosen D.law_ro_chosen ["circle", "laid"] (sp_law_ro_chosen K) := by
  have G_law_ro_is_half : FnOk P w K mg base CX0 1 A.law_ro_is_half D.law_ro_is_half ["circle", "many"] (sp_law_ro_is_half K) := ok_law_ro_is_half T
  refine T.F_law_ro_chosen.ok sc_law_ro_chosen (fun vs H Q E h => len_law_ro_chosen h) (fun cdv A0 outer s H vs Q E hr h => ?_)
  refine ⟨_, (pss_cons (ps_set (i := 2) sc_law_ro_chosen.nd rfl (Or.inl rfl) pe_int)
  (pss_cons (ps_lock (ps_for PassesOwn.never rfl (pi_keys (pv 1)) (pg_name (i := 3) sc_law_ro_chosen.nd rfl (Or.inr rfl)) (pss_one (ps_if (pt_val (pe_call G_law_ro_is_half (hr.mono (by decide)) rfl T.g_law_ro_is_half T.F_law_ro_is_half.kp T.b_law_ro_is_half .nil pass0 (pa_cons (pv 0) (pa_cons (pe_callB call_len (by rfl) T.b_len (by decide +kernel) (pa_cons (pe_lc (own := [("one", 4)]) (g := gName 4)  rfl sc_law_ro_chosen.nd (pi_tup (pv 0)) (blkOk_by (own := [("one", 4)]) (N := N_law_ro_chosen) (sc := defScope s_law_ro_chosen) (by decide +kernel)) (fun _ _ _ _ _ => by exact pg_name (i := 4) sc_law_ro_chosen.nd rfl (Or.inl rfl)) (fun _ _ _ _ _ => by exact (pts_one (pt_cmpR op_ge (pe_dget2 (hu_of hr) (pv 1) (pv 4) pe_int ⟨by rfl, by rfl, by rfl, by rfl⟩) (pe_dget (hu_of hr) (pv 1) (pv 3) (fun _ _ => rfl)) (nomark _)))) (fun _ _ _ _ _ => by exact (pv 4))) pa_nil)) pa_nil)))) (pss_one (ps_set (i := 2) sc_law_ro_chosen.nd rfl (Or.inl rfl) (pe_callB (call_max2 rfl) (by rfl) T.b_max (by decide +kernel) (pa_cons (pv 2) (pa_cons (pe_dget (hu_of hr) (pv 1) (pv 3) (fun _ _ => rfl)) pa_nil))))) pss_nil))))
  (pss_one (ps_ret (pv 2))))), ?_⟩
  obtain ⟨p, d, C, L, rfl, hc, hd, ok, k⟩ := h
  have l9 := ok.len
  have hkl : (kvI L).length = L.length := List.length_map ..
  refine q_asg ev_c fun H1 e1 => ?_
  have hd1 := hd.ex e1
  have hc1 := hc.ex e1
  refine q_forKeysI (fun H2 => ev_var rfl) hd1 (fun i σ' => ∃ v3, σ' = [some (.ref p), some (.ref d), some (.int ((L.take i).foldl (stepB C L) 0)), v3, none]) ⟨_, rfl⟩ (fun i q od σ' H2 e2 hq g => ?_) (fun σ' H2 e2 g => ?_)
  · obtain ⟨v3, rfl⟩ := g
    obtain ⟨r, hr, rfl⟩ := kvI_at hq
    have hi : i < L.length := (List.getElem?_eq_some_iff.mp hr).1
    have hl : L.lookup r.1 = some r.2 := lookup_at ok.nd hr
    have di2 : DI H2 d L := .inr ⟨od, e2 _ _ upd_same⟩
    have hc2 : CirS K H2 p C := (cirS_lock hd1 hc1).ex e2
    have sn := bestI_snoc C L i r hr
    refine s_if (b := decide (Maj C L r.2)) (et_B (ev_is (ev_call (ea_cons (ev_var rfl) (ea_cons (ev_lenNew (xs := (hold C L r.2).map V.int) (eu_holdT (p2 := 0) (d2 := 1) hc2 di2 rfl (fun x H3 e3 => ev_itemI (ev_var rfl) (ev_var rfl) (di2.ex e3) hl) (fun _ => rfl) (fun _ => rfl) (fun _ => rfl))) ea_nil)) fun H3 e3 Q q E => ⟨p, C, _, rfl, hc2.ex e3, q⟩) ?_)) (fun hb H3 e3 => ?_) (fun hb H3 e3 => ?_)
    · congr 1
      refine decide_eq_decide.mpr ?_
      unfold Maj
      rw [List.length_map, hold_len]
      omega
    · refine s_asg (ev_cb (ea_cons (ev_var rfl) (ea_cons (ev_itemI (ev_var rfl) (ev_var rfl) (di2.ex e3) hl) ea_nil)) rc_max2) fun H4 e4 => ⟨⟨some (.int r.1), ?_⟩, e2.trans (e3.trans e4)⟩
      rw [sn]
      unfold stepB
      rw [if_pos (of_decide_eq_true hb)]
      rfl
    · refine n_next ⟨⟨some (.int r.1), ?_⟩, e2.trans e3⟩
      rw [sn]
      unfold stepB
      rw [if_neg (of_decide_eq_false hb)]
      rfl
  · obtain ⟨v3, rfl⟩ := g
    refine s_ret (ev_is (ev_var rfl) ?_) fun H3 e3 => k H3 ((e1.trans e2).trans e3)
    rw [hkl, List.take_length]
    rfl
end
end K0

namespace K0
open PySem PySem.Spec PyProof.Rows L2 Evl
def rDictP (K : PySem.W.Frag) : List V → Hp → VK → Prop := fun xs H Q => ∃ (a : Addr) (ps : List Addr) (kvs : List (Key × V)), xs = [.ref a] ∧ SqL K H a (ps.map V.ref) ∧ Paired (fun p kv => SqT K H p [kV kv.1, kv.2]) ps kvs ∧ ∀ p, H p = none → Q (.ref p) (upd H p (.dK (mergeK [] kvs)))
theorem pairedM {α β : Type} {R S : α → β → Prop} (h : ∀ a b, R a b → S a b) : ∀ {xs : List α} {ys : List β}, Paired R xs ys → Paired S xs ys
  | _, _, .nil => .nil
  | _, _, .cons r t => .cons (h _ _ r) (pairedM h t)
theorem pairedS {α β : Type} {R : α → β → Prop} : ∀ {xs : List α} {ys : List β} {x : α} {y : β}, Paired R xs ys → R x y → Paired R (xs ++ [x]) (ys ++ [y])
  | _, _, _, _, .nil, h => .cons h .nil
  | _, _, _, _, .cons r t, h => .cons r (pairedS t h)
theorem pairedL {α β : Type} {R : α → β → Prop} : ∀ {xs : List α} {ys : List β}, Paired R xs ys → xs.length = ys.length
  | _, _, .nil => rfl
  | _, _, .cons _ t => by rw [List.length_cons, List.length_cons, pairedL t]
theorem pairedF {α β γ : Type} {R : α → γ → Prop} (f : β → γ) : ∀ {xs : List α} {ys : List β}, Paired (fun a b => R a (f b)) xs ys → Paired R xs (ys.map f)
  | _, _, .nil => .nil
  | _, _, .cons r t => .cons r (pairedF f t)
theorem merge_selfI : ∀ (more acc : List (Key × V)), ((acc ++ more).map (·.1)).Nodup → mergeK acc more = acc ++ more
  | [], acc, _ => by rw [List.append_nil]; rfl
  | p :: more, acc, n => by
    have n' : (((acc ++ [p]) ++ more).map (·.1)).Nodup := by rwa [List.append_assoc]
    have hp : putK acc p.1 p.2 = acc ++ [p] := by
      unfold putK
      rw [if_neg]
      intro z
      obtain ⟨q, hq, e⟩ := List.any_eq_true.mp z
      rw [List.map_append, List.nodup_append] at n
      exact absurd (of_decide_eq_true e) (n.2.2 q.1 (List.mem_map.mpr ⟨q, hq, rfl⟩) p.1 (by simp))
    show mergeK (putK acc p.1 p.2) more = _
    rw [hp, merge_selfI more (acc ++ [p]) n', List.append_assoc]
    rfl
theorem kvI_nd {L : List (Int × Int)} (h : (L.map (·.1)).Nodup) : ((kvI L).map (·.1)).Nodup := by
  have e : (kvI L).map (·.1) = (L.map (·.1)).map (Sum.inl : Int → Key) := by
    unfold kvI
    rw [List.map_map, List.map_map]
    rfl
  rw [e]
  exact List.Pairwise.map _ (fun a b h z => h (Sum.inl.inj z)) h
theorem merge_kvI {L : List (Int × Int)} (h : (L.map (·.1)).Nodup) : mergeK [] (kvI L) = kvI L := by
  rw [merge_selfI (kvI L) [] (by rw [List.nil_append]; exact kvI_nd h), List.nil_append]
theorem put_kvI (L : List (Int × Int)) (h v : Int) : putK (kvI L) (.inl h) (.int v) = kvI (putI L h v) := by
  have e : ((kvI L).any fun kv => decide (kv.1 = (Sum.inl h : Key))) = L.any fun q => decide (q.1 = h) := by
    unfold kvI
    rw [List.any_map]
    congr 1
    funext q
    exact decide_eq_decide.mpr ⟨fun z => Sum.inl.inj z, fun z => congrArg Sum.inl z⟩
  unfold putK putI
  rw [e]
  split
  · unfold kvI
    rw [List.map_map, List.map_map]
    refine List.map_congr_left fun q _ => ?_
    show (if (Sum.inl q.1 : Key) = Sum.inl h then ((Sum.inl q.1 : Key), V.int v) else (Sum.inl q.1, V.int q.2)) = _
    by_cases z : q.1 = h
    · simp [z]
    · rw [if_neg fun y => z (Sum.inl.inj y)]
      simp [z]
  · unfold kvI
    rw [List.map_append]
    rfl
theorem ex_max : ∀ {ns : List Int}, ns ≠ [] → ∃ m ∈ ns, ∀ y ∈ ns, y ≤ m
  | [], h => absurd rfl h
  | [a], _ => ⟨a, List.mem_cons_self, fun y hy => by rw [List.mem_singleton.mp hy]; exact Int.le_refl _⟩
  | a :: b :: r, _ => by
    obtain ⟨m, h1, h2⟩ := ex_max (ns := b :: r) (by simp)
    by_cases c : m < a
    · refine ⟨a, List.mem_cons_self, fun y hy => ?_⟩
      rcases List.mem_cons.mp hy with rfl | hy
      · omega
      · have := h2 y hy
        omega
    · refine ⟨m, List.mem_cons_of_mem _ h1, fun y hy => ?_⟩
      rcases List.mem_cons.mp hy with rfl | hy
      · omega
      · exact h2 y hy
theorem Bt.cirS {K : PySem.W.Frag} {a p : Addr} {C : List Int} {H H' : Hp} (b : Bt a H H') (n : p ≠ a) (h : CirS K H p C) : CirS K H' p C := ⟨b.sqT n h.1, h.2⟩
section
variable {K : PySem.W.Frag} {w : World} {σ : L2.St} {H H' : Hp} {ta tb tc te td tl tk tv : TE} {tr : TA} {t u : TT} {x y z v : V} {Q : VK} {D : Ends} {tu tz : TS} {d p : Addr} {C : List Int} {L : List (Int × Int)} {E : XK}
theorem n_lcI {g : TG} {tt : TT} {vs : List Nat} (h : tl σ H fun x H1 => tLc (iList K (tC x)) g tt te vs σ H1 Q) : tLc (iList K tl) g tt te vs σ H Q := h
/-- a comprehension over a list of whole numbers whose elements, pairs, are drawn -/
theorem lc_drawL {vs : List Nat} {j : Nat} {a p : Addr} {cs : List Int} {B : Int} {H1 : Hp} (hd : DiceAt H1 a) (hpa : p ≠ a) (hp : H1 p = some (.lst (cs.map V.int))) (hn : cs.length ≤ 1000)
    (hw : ∀ x, wipe ((wipe σ vs).set j (some x)) vs = wipe σ vs)
    (turn : ∀ (i : Nat) (c : Int) H', cs[i]? = some c → Bt a H1 H' → DiceAt H' a → ∀ Q : VK, (∀ t v H'', Bt a H' H'' → DiceAt H'' a → H'' t = some (.tup [.int c, .int v]) → 0 ≤ v → v ≤ B → Q (.ref t) H'') → te ((wipe σ vs).set j (some (.int c))) H' Q)
    (k : ∀ (Dl : Addr) (ts : List Addr) (M : List (Int × Int)) H', H1 Dl = none → Bt a H1 H' → DiceAt H' a → H' Dl = some (.lst (ts.map V.ref)) → Paired (fun t q => H' t = some (.tup [V.int q.1, V.int q.2])) ts M → M.map (·.1) = cs → (∀ q ∈ M, 0 ≤ q.2 ∧ q.2 ≤ B) → Q (.ref Dl) H') :
    tLc (iList K (tC (.ref p))) (gName j) tYes te vs σ H1 Q := by
  refine ⟨p, rfl, ⟨_, sq_of hp⟩, fun Dl hD => ?_⟩
  have hne : Dl ≠ a := hd.ne hD
  have hcl : (cs.map V.int).length = cs.length := List.length_map ..
  refine lc_it (walk_list (K := K) (a := p) (xs := cs.map V.int)) (fun i H' => ∃ ts, ∃ M : List (Int × Int), H' Dl = some (.lst (ts.map V.ref)) ∧ Paired (fun t q => H' t = some (.tup [V.int q.1, V.int q.2])) ts M ∧ M.map (·.1) = cs.take i ∧ (∀ q ∈ M, 0 ≤ q.2 ∧ q.2 ≤ B) ∧ Bt a H1 H' ∧ DiceAt H' a)
    ⟨[], [], upd_same, .nil, rfl, (fun q hq => nomatch hq), Bt.of (Ex.new hD), hd.ex (Ex.new hD)⟩ (fun i H' _ g => ?_) (fun i x H' H'' hi g y => ?_) (fun H' g => ?_)
  · obtain ⟨ts, M, g1, g2, g3, g4, g5, g6⟩ := g
    exact sq_of (g5.at hpa hp)
  · obtain ⟨ts, M, g1, g2, g3, g4, g5, g6⟩ := g
    obtain ⟨rfl, hx⟩ := y
    obtain ⟨c, h1, rfl, _⟩ := cell_at hx
    have hic : i < cs.length := by omega
    refine ⟨hw _, turn i c _ h1 g5 g6 _ fun t v H3 b3 d3 h3 v0 v1 => ?_⟩
    have hl : M.length = i := by
      have := congrArg List.length g3
      rw [List.length_map, List.length_take] at this
      omega
    have ht : ts.length = i := by rw [pairedL g2, hl]
    have kD := b3.at hne g1
    have neq : ∀ (H : Hp) (s : Addr) (xs : List V), H Dl = some (.lst (ts.map V.ref)) → H s = some (.tup xs) → s ≠ Dl := fun H s xs h1 h2 z => by
      rw [z, h1] at h2
      cases h2
    have nea : ∀ (H : Hp) (s : Addr) (xs : List V), DiceAt H a → H s = some (.tup xs) → s ≠ a := fun H s xs h1 h2 z => by
      obtain ⟨x, y, w, h1⟩ := h1
      rw [z, h1] at h2
      cases h2
    refine ⟨ts.map V.ref, kD, sz_lt (by rw [List.length_map]; omega), ts ++ [t], M ++ [(c, v)], ?_, ?_, ?_, ?_, ?_, ?_⟩
    · rw [List.map_append]
      exact upd_same
    · refine pairedS (pairedM (fun s q hq => ?_) g2) ?_
      · have := b3.at (nea _ _ _ g6 hq) hq
        rw [upd_ne (neq _ _ _ kD this)]
        exact this
      · show L2.upd H3 Dl _ t = _
        rw [upd_ne (neq _ _ _ kD h3)]
        exact h3
    · rw [List.map_append, g3, List.take_succ, h1]
      rfl
    · intro q hq
      rcases List.mem_append.mp hq with hq | hq
      · exact g4 q hq
      · rw [List.mem_singleton.mp hq]
        exact ⟨v0, v1⟩
    · exact (g5.trans b3).newU hD
    · exact d3.updN hne.symm
  · obtain ⟨ts, M, g1, g2, g3, g4, g5, g6⟩ := g
    rw [hcl, List.take_length] at g3
    exact k Dl ts M H' hD g5 g6 g1 g2 g3 g4
/-- list(d.values()) -/
theorem el_valsL (h : Ev td σ H (.ref d)) (hd : DJ H d L) : EvL (tCB rListVals (tCons (tBM0 K "dict" rValsK td) tNil)) σ H ((L.map (·.2)).map V.int) := fun H1 e Q q => h H1 e _ fun H2 e2 => by
  have g2 := hd.ex (e.trans e2)
  refine ⟨.inr (.inr (.inl ⟨rfl, .inl ⟨_, g2⟩⟩)), d, _, rfl, rfl, g2, fun p hp => ?_⟩
  have ep : Ex H2 (L2.upd H2 p (valO p d)) := Ex.new hp
  refine ⟨p, d, _, rfl, upd_same, ep _ _ g2, fun l hl => ?_⟩
  have el := Ex.new (o := HO.lst ((kvI L).map (·.2))) hl
  refine q l _ (fresh_back (e2.trans ep) hl) ((e2.trans ep).trans el) ?_
  rw [upd_same]
  unfold kvI
  rw [List.map_map, List.map_map]
  rfl
theorem el_catR {xs ys : List V} (ha : EvL ta σ H xs) (hb : EvL tb σ H ys) (hl : xs.length + ys.length ≤ 100000) : EvL (tOp rCat ta tb) σ H (xs ++ ys) := fun H1 e Q q =>
  ha H1 e _ fun p H2 hp e2 h2 => hb H2 (e.trans e2) _ fun r H3 hr e3 h3 => ⟨p, r, xs, ys, rfl, rfl, e3 _ _ h2, h3, sz_of hl, fun l hl => q l _ (fresh_back (e2.trans e3) hl) ((e2.trans e3).trans (Ex.new hl)) upd_same⟩
theorem ev_mx {ns : List Int} {m : Int} (h : EvL te σ H (ns.map V.int)) (h1 : m ∈ ns) (h2 : ∀ y ∈ ns, y ≤ m) : Ev (tCB (rMax K) (tCons te tNil)) σ H (.int m) := fun H1 e Q q =>
  h H1 e _ fun p H2 hp e2 g => ⟨p, ns, rfl, sq_of g, List.length_pos_of_mem h1, fun m' h3 h4 => by
    have a := h4 m h1
    have b := h2 m' h3
    have : m' = m := by omega
    rw [this]
    exact q H2 e2⟩
/-- sorted(set([..])) -/
theorem x_sortSet {ns : List Int} (h : EvL te σ H (ns.map V.int)) (hn : ns.length ≤ 60) (Q : VK) (q : ∀ (p : Addr) (ms : List Int) H1, Ex H H1 → H1 p = some (.lst (ms.map V.int)) → (∀ k : Int, k ∈ ms → k ∈ ns) → ms.length ≤ 60 → Q (.ref p) H1) : tCB (rSortedSet w) (tCons (tCB (rSetL K w) (tCons te tNil)) tNil) σ H Q :=
  h H (Ex.refl _) _ fun p H1 hp e1 h1 => ⟨p, ns, rfl, sq_of h1, hn, fun s c hc hs => ⟨s, _, c, rfl, upd_same, by omega, fun ms r hpw hm hl hr => q r ms _ ((e1.trans (Ex.new hs)).trans (Ex.new hr)) upd_same (fun k hk => of_decide_eq_true ((hm k).mp hk)) (by omega)⟩⟩
/-- for c in (a new list of whole numbers) -/
theorem q_forX {j : Nat} {G : List Int → Prop} (h : ∀ Q : VK, (∀ (p : Addr) (ns : List Int) H1, Ex H H1 → H1 p = some (.lst (ns.map V.int)) → G ns → Q (.ref p) H1) → tl σ H Q) (Pv : L2.St → Prop) (h0 : Pv σ)
    (hs : ∀ ns c σ' H1 H', G ns → c ∈ ns → Pv σ' → Ex H H1 → Ex H1 H' → tu { nx := fun σ2 H2 => Pv σ2 ∧ Ex H1 H2, rt := D.rt, bk := tz D, ct := fun σ2 H2 => Pv σ2 ∧ Ex H1 H2 } (σ'.set j (some (.int c))) H')
    (hz : ∀ σ' H', Ex H H' → Pv σ' → tz D σ' H') : tSeq (tFor (iList K tl) (gName j) tu) tz D σ H :=
  h _ fun p ns H1 e1 hp g => ⟨p, rfl, ⟨_, sq_of hp⟩, for_list (K := K) (D := { D with nx := fun σ H => tz D σ H }) (xs := ns.map V.int) (fun _ σ' H' => Pv σ' ∧ Ex H1 H') ⟨h0, Ex.refl _⟩ (fun i σ' H' _ y => sq_of (y.2 _ _ hp)) (fun i x σ' H' hx y => by
    obtain ⟨c, hc, rfl, _⟩ := cell_at hx
    exact hs ns c σ' H1 H' g (List.mem_of_getElem? hc) y.1 e1 y.2) (fun σ' H' y => hz σ' H' (e1.trans y.2) y.1)⟩
/-- for x in (a new tuple of data) -/
theorem q_forTD {j : Nat} {ds : List K0.D} (h : ∀ Q : VK, (∀ v H1, Ex H H1 → Rp K H1 v (.tup ds) → Q v H1) → tl σ H Q) (Pv : L2.St → Prop) (h0 : Pv σ)
    (hs : ∀ d v σ' H1 H', d ∈ ds → Rp K H' v d → Pv σ' → Ex H H1 → Ex H1 H' → tu { nx := fun σ2 H2 => Pv σ2 ∧ Ex H1 H2, rt := D.rt, bk := tz D, ct := fun σ2 H2 => Pv σ2 ∧ Ex H1 H2 } (σ'.set j (some v)) H')
    (hz : ∀ σ' H', Ex H H' → Pv σ' → tz D σ' H') : tSeq (tFor (iTup K tl) (gName j) tu) tz D σ H :=
  h _ fun v H1 e1 r => by
    obtain ⟨a, xs, rfl, h1, h2⟩ := Rp.tupI r
    exact ⟨a, rfl, ⟨_, h1⟩, for_tup (K := K) (D := { D with nx := fun σ H => tz D σ H }) (xs := xs) (fun _ σ' H' => Pv σ' ∧ Ex H1 H') ⟨h0, Ex.refl _⟩ (fun i σ' H' _ y => ex_t y.2 h1) (fun i x σ' H' hx y => by
      obtain ⟨d, hd, hr⟩ := RpAll.get _ _ _ _ h2 hx
      exact hs d x σ' H1 H' (List.mem_of_getElem? hd) (hr.ex y.2) y.1 e1 y.2) (fun σ' H' y => hz σ' H' (e1.trans y.2) y.1)⟩
theorem eqvTU (ns ms : List Int) : PyData.eqv (.tuple (ns.map PyData.int)) (.tuple (ms.map PyData.int)) = decide (ns = ms) := by rw [PyData.eqv, eqvT]
theorem ev_neU {ns ms : List Int} (ha : EvU ta σ H (ns.map V.int)) (hb : EvU tb σ H (ms.map V.int)) : Ev (tOp (rNeD K) ta tb) σ H (.bl (!decide (ns = ms))) := ev_opUU ha hb fun p q H1 h1 h2 _ H2 e Q k => by
  refine ⟨.tuple (ns.map PyData.int), .tuple (ms.map PyData.int), .tup (st_of (e _ _ h1)) (dpAll_intsT ns), .tup (st_of (e _ _ h2)) (dpAll_intsT ms), shapedTT ns, shapedTT ms, ?_⟩
  rw [eqvTU]
  exact k H2 (Ex.refl _)
theorem ev_eqUI {ns ms : List Int} (ha : EvU ta σ H (ns.map V.int)) (hb : EvU tb σ H (ms.map V.int)) : Ev (tOp (rEqD K) ta tb) σ H (.bl (decide (ns = ms))) := ev_opUU ha hb fun p q H1 h1 h2 _ H2 e Q k => by
  refine ⟨.tuple (ns.map PyData.int), .tuple (ms.map PyData.int), .tup (st_of (e _ _ h1)) (dpAll_intsT ns), .tup (st_of (e _ _ h2)) (dpAll_intsT ms), shapedTT ns, shapedTT ms, ?_⟩
  rw [eqvTU]
  exact k H2 (Ex.refl _)
theorem eu_holders {v : Int} (h : EvA tr σ H [.ref p, .ref d, .int v]) (hc : CirS K H p C) (hd : DJ H d L) (ok : OkD C L) (v0 : 0 ≤ v) (v1 : v ≤ big) : EvU (tCall (sp_holders K) [] E tr) σ H ((hold C L v).map V.int) := fun H1 e Q q =>
  d_raw (h H1 e _ fun H2 e2 => ⟨p, d, C, L, v, rfl, hc.ex (e.trans e2), hd.ex (e.trans e2), ok, v0, v1, fun r H3 hr e3 h3 => q r H3 (fresh_back e2 hr) (e2.trans e3) h3⟩)
theorem eu_tupN {xs : List V} (h : EvL te σ H xs) : EvU (tCB (rTupOf K) (tCons te tNil)) σ H xs := fun H1 e Q q => h H1 e _ fun l H2 hl e2 h2 => ⟨l, _, rfl, .inl ⟨sq_of h2, fun r hr => q r _ (fresh_back e2 hr) (e2.trans (Ex.new hr)) upd_same⟩⟩
/-- dict(list(d.items()) + [(h, v)]) -/
theorem x_dictAdd {h v : Int} (hd : DJ H d L) (nd : (L.map (·.1)).Nodup) (hl : L.length ≤ 1000) (ht : Ev td σ H (.ref d)) (hk : Ev tk σ H (.int h)) (hv : Ev tv σ H (.int v)) (Q : VK)
    (q : ∀ p H1, H p = none → Ex H H1 → DJ H1 p (putI L h v) → Q (.ref p) H1) :
    tCB (rDictP K) (tCons (tOp rCat (tCB rListIt (tCons (tBM0 K "dict" rItemsK td) tNil)) (tLst (tCons (tTup (tCons tk (tCons tv tNil))) tNil))) tNil) σ H Q := by
  refine ht H (Ex.refl _) _ fun H2 e2 => ?_
  have g2 := hd.ex e2
  refine ⟨.inr (.inr (.inl ⟨rfl, .inl ⟨_, g2⟩⟩)), d, _, rfl, rfl, g2, fun p hp => ?_⟩
  have ep : Ex H2 (L2.upd H2 p (L2.DX.itemsO p d)) := Ex.new hp
  refine ⟨p, d, _, rfl, upd_same, ep _ _ g2, fun l ts H3 e3 hl3 h3 pd => ?_⟩
  have e03 := (e2.trans ep).trans e3
  refine n_cons (n_tup (n_cons (hk H3 e03 _ fun H4 e4 => n_cons (hv H4 (e03.trans e4) _ fun H5 e5 => n_nil ⟨sz_of (by simp), fun t ht => n_nil ⟨sz_of (by simp), fun b hb => ?_⟩⟩))))
  have eT : Ex H5 (L2.upd H5 t (.tup [.int h, .int v])) := Ex.new ht
  have eB : Ex (L2.upd H5 t (.tup [.int h, .int v])) (L2.upd (L2.upd H5 t (.tup [.int h, .int v])) b (.lst [.ref t])) := Ex.new hb
  have e35 := e4.trans e5
  have e3B := (e35.trans eT).trans eB
  have lts : ts.length = (kvI L).length := pairedL pd
  have lkv : (kvI L).length = L.length := List.length_map ..
  refine ⟨l, b, ts.map V.ref, [.ref t], rfl, rfl, e3B _ _ h3, upd_same, by rw [List.length_map]; exact sz_of (by simp; omega), fun m hm => ?_⟩
  have eM := Ex.new (o := .lst (ts.map V.ref ++ [.ref t])) hm
  have e3M := e3B.trans eM
  refine ⟨m, ts ++ [t], kvI L ++ [(.inl h, .int v)], rfl, by rw [List.map_append]; exact sq_of upd_same, pairedS (pairedM (fun a b q => st_of (e3M _ _ q)) pd) (st_of ((eB.trans eM) _ _ upd_same)), fun r hr => ?_⟩
  have mk : mergeK [] (kvI L ++ [(.inl h, .int v)]) = kvI (putI L h v) := by
    unfold mergeK
    rw [List.foldl_append]
    show putK (mergeK [] (kvI L)) (.inl h) (.int v) = _
    rw [merge_kvI nd, put_kvI]
  rw [mk]
  have eQ := Ex.new (o := .dK (kvI (putI L h v))) hr
  exact q r _ (fresh_back (e03.trans e3M) hr) ((e03.trans e3M).trans eQ) upd_same
end
end K0

namespace K0
open PySem PySem.Spec PyProof.Rows L2 Evl
section
variable {P : Program} {w : World} {K : PySem.W.Frag} {mg : Str → Option Value} {base : Heap} {A : Ad} {D : Fd}
theorem big50 : (10 : Int) ^ 50 ≤ big - 10 ^ 51 := by decide +kernel
def sp_law_right (K : PySem.W.Frag) : Sp := fun vs H Q _ => ∃ (a : Addr), vs = [.ref a] ∧ DiceAt H a ∧ ∀ H', Bt a H H' → DiceAt H' a → Q (.bl true) H'
theorem len_law_right {vs : List V} {H : Hp} {Q : VK} {E : XK} (h : sp_law_right K vs H Q E) : vs.length = 1 := by
  obtain ⟨a, rfl, _⟩ := h
  rfl
theorem ok_law_right (T : Txt K mg A D) : FnOk P w K mg base CX0 10 A.law_right D.law_right ["dice"] (sp_law_right K) := by
  have G_least_halves : FnOk P w K mg base CX0 9 A.least_halves D.least_halves ["circle"] (sp_least_halves K) := ok_least_halves T
  have G_chosen_length : FnOk P w K mg base CX0 6 A.chosen_length D.chosen_length ["circle", "laid"] (sp_chosen_length K) := ok_chosen_length T
  have G_holders : FnOk P w K mg base CX0 6 A.holders D.holders ["circle", "laid", "length"] (sp_holders K) := ok_holders T
  have G_law_roll : FnOk P w K mg base CX0 1 A.law_roll D.law_roll ["dice", "most"] (sp_law_roll K) := ok_law_roll T
  have G_law_pick : FnOk P w K mg base CX0 2 A.law_pick D.law_pick ["dice", "items"] (sp_law_pick2 K) := ok_law_pick2 T
  have G_law_mixed : FnOk P w K mg base CX0 2 A.law_mixed D.law_mixed ["dice", "items"] (sp_law_mixed K) := ok_law_mixed T
  have G_law_circle_drawn : FnOk P w K mg base CX0 3 A.law_circle_drawn D.law_circle_drawn ["dice", "most"] (sp_law_circle_drawn K) := ok_law_circle_drawn T
  have G_law_ro_chosen : FnOk P w K mg base CX0 2 A.law_ro_chosen D.law_ro_chosen ["circle", "laid"] (sp_law_ro_chosen K) := ok_law_ro_chosen T
  have G_law_length_drawn : FnOk P w K mg base CX0 3 A.law_length_drawn D.law_length_drawn ["dice"] (sp_law_length_drawn K) := ok_law_length_drawn T
  refine T.F_law_right.ok sc_law_right (fun vs H Q E h => len_law_right h) (fun cdv A0 outer s H vs Q E hr h => ?_)
  refine ⟨_, (pss_cons (ps_set (i := 1) sc_law_right.nd rfl (Or.inl rfl) (pe_call G_law_circle_drawn (hr.mono (by decide)) rfl T.g_law_circle_drawn T.F_law_circle_drawn.kp T.b_law_circle_drawn .nil pass0 (pa_cons (pv 0) (pa_cons pe_int pa_nil))))
  (pss_cons (ps_set (i := 2) sc_law_right.nd rfl (Or.inr rfl) (pe_callTy (call_dictP rfl) (by rfl) T.b_dict (by decide +kernel) (pa_cons (pe_lc (own := [("house", 3)]) (g := gName 3) (tt := tYes) rfl sc_law_right.nd (pi_list (pe_slice sl_list (pe_call G_law_mixed (hr.mono (by decide)) rfl T.g_law_mixed T.F_law_mixed.kp T.b_law_mixed .nil pass0 (pa_cons (pv 0) (pa_cons (pv 1) pa_nil))) po_none (po_some (pe_call G_law_roll (hr.mono (by decide)) rfl T.g_law_roll T.F_law_roll.kp T.b_law_roll .nil pass0 (pa_cons (pv 0) (pa_cons (pe_op op_add (pe_callB call_len (by rfl) T.b_len (by decide +kernel) (pa_cons (pv 1) pa_nil)) pe_int) pa_nil)))))) (blkOk_by (own := [("house", 3)]) (N := N_law_right) (sc := defScope s_law_right) (by decide +kernel)) (fun _ _ _ _ _ => by exact pg_name (i := 3) sc_law_right.nd rfl (Or.inl rfl)) (fun _ _ _ _ _ => by exact pts_nil) (fun _ _ _ _ _ => by exact (pe_tup (pa_cons (pv 3) (pa_cons (pe_call G_law_length_drawn (hr.mono (by decide)) rfl T.g_law_length_drawn T.F_law_length_drawn.kp T.b_law_length_drawn .nil pass0 (pa_cons (pv 0) pa_nil)) pa_nil))))) pa_nil)))
  (pss_cons (ps_set (i := 4) sc_law_right.nd rfl (Or.inl rfl) (pe_call G_law_ro_chosen (hr.mono (by decide)) rfl T.g_law_ro_chosen T.F_law_ro_chosen.kp T.b_law_ro_chosen .nil pass0 (pa_cons (pv 1) (pa_cons (pv 2) pa_nil))))
  (pss_cons (ps_if (pt_cmpR op_ne (pe_call G_chosen_length (hr.mono (by decide)) rfl T.g_chosen_length T.F_chosen_length.kp T.b_chosen_length .nil pass0 (pa_cons (pv 1) (pa_cons (pv 2) pa_nil))) (pv 4) (nomark _)) (pss_one (ps_ret pe_bl)) pss_nil)
  (pss_cons (ps_for PassesOwn.never rfl (pi_list (pe_callB (cr_sortedSet rfl) (by rfl) T.b_sorted (by decide +kernel) (pa_cons (pe_callTy (cr_setL rfl) (by rfl) T.b_set (by decide +kernel) (pa_cons (pe_op op_cat (pe_lst (pa_cons pe_int (pa_cons (pv 4) (pa_cons (pe_op op_add (pv 4) pe_int) (pa_cons (pe_callB (cr_max rfl) (by rfl) T.b_max (by decide +kernel) (pa_cons (pe_lst (pa_cons pe_int (pa_cons (pe_op op_sub (pv 4) pe_int) pa_nil))) pa_nil)) pa_nil))))) (pe_callTy (cr_listVals rfl) (by rfl) T.b_list (by decide +kernel) (pa_cons (pe_bm0 PySem.F.plainAttrs_dict PySem.F.slot_dict_values PySem.F.type_dict_values mt_valsK (pv 2)) pa_nil))) pa_nil)) pa_nil))) (pg_name (i := 5) sc_law_right.nd rfl (Or.inr rfl)) (pss_one (ps_if (pt_cmpR (op_neD hr.units) (pe_call G_holders (hr.mono (by decide)) rfl T.g_holders T.F_holders.kp T.b_holders .nil pass0 (pa_cons (pv 1) (pa_cons (pv 2) (pa_cons (pv 5) pa_nil)))) (pe_callTy call_tuple_of (by rfl) T.b_tuple (by decide +kernel) (pa_cons (pe_lc (own := [("house", 3)]) (g := gName 3)  rfl sc_law_right.nd (pi_tup (pv 1)) (blkOk_by (own := [("house", 3)]) (N := N_law_right) (sc := defScope s_law_right) (by decide +kernel)) (fun _ _ _ _ _ => by exact pg_name (i := 3) sc_law_right.nd rfl (Or.inl rfl)) (fun _ _ _ _ _ => by exact (pts_one (pt_cmpR op_ge (pe_dget2 (hu_of hr) (pv 2) (pv 3) pe_int ⟨by rfl, by rfl, by rfl, by rfl⟩) (pv 5) (nomark _)))) (fun _ _ _ _ _ => by exact (pv 3))) pa_nil)) (nomark _)) (pss_one (ps_ret pe_bl)) pss_nil)))
  (pss_cons (ps_for PassesOwn.never rfl (pi_tup (pe_call G_least_halves (hr.mono (by decide)) rfl T.g_least_halves T.F_least_halves.kp T.b_least_halves .nil pass0 (pa_cons (pv 1) pa_nil))) (pg_name (i := 6) sc_law_right.nd rfl (Or.inl rfl)) (pss_one (ps_if (pt_cmpR op_lt (pe_callB (cr_max rfl) (by rfl) T.b_max (by decide +kernel) (pa_cons (pe_lc (own := [("house", 3)]) (g := gName 3) (tt := tYes) rfl sc_law_right.nd (pi_tup (pv 6)) (blkOk_by (own := [("house", 3)]) (N := N_law_right) (sc := defScope s_law_right) (by decide +kernel)) (fun _ _ _ _ _ => by exact pg_name (i := 3) sc_law_right.nd rfl (Or.inl rfl)) (fun _ _ _ _ _ => by exact pts_nil) (fun _ _ _ _ _ => by exact (pe_dget2 (hu_of hr) (pv 2) (pv 3) pe_int ⟨by rfl, by rfl, by rfl, by rfl⟩))) pa_nil)) (pv 4) (nomark _)) (pss_one (ps_ret pe_bl)) pss_nil)))
  (pss_cons (ps_if (pt_cmpR op_le (pe_op op_mul pe_int (pe_callB call_len (by rfl) T.b_len (by decide +kernel) (pa_cons (pe_call G_holders (hr.mono (by decide)) rfl T.g_holders T.F_holders.kp T.b_holders .nil pass0 (pa_cons (pv 1) (pa_cons (pv 2) (pa_cons (pv 4) pa_nil)))) pa_nil))) (pe_callB call_len (by rfl) T.b_len (by decide +kernel) (pa_cons (pv 1) pa_nil)) (nomark _)) (pss_one (ps_ret pe_bl)) pss_nil)
  (pss_cons (ps_if (PW.pt (pw_and (pt_cmpR op_lt (pv 4) (pe_callB (cr_max rfl) (by rfl) T.b_max (by decide +kernel) (pa_cons (pe_op op_cat (pe_lst (pa_cons pe_int pa_nil)) (pe_callTy (cr_listVals rfl) (by rfl) T.b_list (by decide +kernel) (pa_cons (pe_bm0 PySem.F.plainAttrs_dict PySem.F.slot_dict_values PySem.F.type_dict_values mt_valsK (pv 2)) pa_nil))) pa_nil)) (nomark _)) (pw_and1 (pt_cmpR op_gt (pe_op op_mul pe_int (pe_callB call_len (by rfl) T.b_len (by decide +kernel) (pa_cons (pe_call G_holders (hr.mono (by decide)) rfl T.g_holders T.F_holders.kp T.b_holders .nil pass0 (pa_cons (pv 1) (pa_cons (pv 2) (pa_cons (pe_op op_add (pv 4) pe_int) pa_nil)))) pa_nil))) (pe_callB call_len (by rfl) T.b_len (by decide +kernel) (pa_cons (pv 1) pa_nil)) (nomark _))))) (pss_one (ps_ret pe_bl)) pss_nil)
  (pss_cons (ps_set (i := 3) sc_law_right.nd rfl (Or.inl rfl) (pe_call G_law_pick (hr.mono (by decide)) rfl T.g_law_pick T.F_law_pick.kp T.b_law_pick .nil pass0 (pa_cons (pv 0) (pa_cons (pv 1) pa_nil))))
  (pss_cons (ps_set (i := 7) sc_law_right.nd rfl (Or.inl rfl) (pe_op op_add (pe_op op_add (pe_dget2 (hu_of hr) (pv 2) (pv 3) pe_int ⟨by rfl, by rfl, by rfl, by rfl⟩) pe_int) (pe_call G_law_length_drawn (hr.mono (by decide)) rfl T.g_law_length_drawn T.F_law_length_drawn.kp T.b_law_length_drawn .nil pass0 (pa_cons (pv 0) pa_nil))))
  (pss_cons (ps_set (i := 8) sc_law_right.nd rfl (Or.inl rfl) (pe_call G_chosen_length (hr.mono (by decide)) rfl T.g_chosen_length T.F_chosen_length.kp T.b_chosen_length .nil pass0 (pa_cons (pv 1) (pa_cons (pe_callTy (call_dictP rfl) (by rfl) T.b_dict (by decide +kernel) (pa_cons (pe_op op_cat (pe_callTy (cr_listIt rfl) (by rfl) T.b_list (by decide +kernel) (pa_cons (pe_bm0 PySem.F.plainAttrs_dict PySem.F.slot_dict_items PySem.F.type_dict_items mt_itemsK (pv 2)) pa_nil)) (pe_lst (pa_cons (pe_tup (pa_cons (pv 3) (pa_cons (pv 7) pa_nil))) pa_nil))) pa_nil)) pa_nil))))
  (pss_one (ps_ret (pe_chain op_le op_le (pv 4) (pv 8) (pe_callB (call_max2 rfl) (by rfl) T.b_max (by decide +kernel) (pa_cons (pv 4) (pa_cons (pv 7) pa_nil))))))))))))))))), ?_⟩
  obtain ⟨a, rfl, hd, k⟩ := h
  have hb50 := big50
  have m51 : (10 : Int) ^ 51 = 10 * 10 ^ 50 := by decide +kernel
  have p50 : (1000 : Int) ≤ 10 ^ 50 := by decide +kernel
  refine q_asgC (ea_cons (ev_var rfl) (ea_cons ev_c ea_nil)) fun H1 e1 => ⟨a, 7, rfl, hd.ex e1, by omega, by omega, fun p C H2 hp b2 d2 hc => ?_⟩
  have hpa : p ≠ a := (hd.ex e1).ne hp
  have b02 := (Bt.of e1).trans b2
  have hn : ((C.map V.int).length : Int) = (C.length : Int) := by rw [List.length_map]
  have l7 := hc.2.l7
  have l1 := hc.2.l1
  refine q_asgX (n_cb (n_cons (n_lcI (n_sl (d_raw (n_cons (n_var rfl (n_cons (n_var rfl (n_nil ⟨a, p, C.map V.int, rfl, d2, hpa, .inr hc.1, by rw [List.length_map]; omega, fun q ys H3 hq b3 d3 h3 pm => ?_⟩))))))))))
  obtain ⟨ns, rfl, pn⟩ := perm_ints pm
  have hqa : q ≠ a := d2.ne hq
  have hc3 := b3.cirS hpa hc
  refine n_noPart (n_part (d_raw (n_cons (n_var rfl (n_cons ((ev_op (ev_cb (ea_cons (ev_var rfl) ea_nil) (rc_lenT hc3.1)) ev_c rv_I0) H3 (Ex.refl _) _ fun H4 e4 => n_nil ⟨a, _, rfl, d3.ex e4, by omega, by omega, fun r H5 r0 r1 b5 d5 => ⟨r, rfl, q, _, rfl, sq_of (b5.at hqa (e4 _ _ h3)), fun s hs => ?_⟩⟩))))))
  have er : r = ((r.toNat : Nat) : Int) := by omega
  have ec : cutV (ns.map V.int) none (some r) = (ns.take r.toNat).map V.int := by
    rw [er, cut_take, List.map_take]
    rfl
  rw [ec]
  have b05 : Bt a H H5 := ((b02.trans b3).trans (Bt.of e4)).trans b5
  have eS := Ex.new (o := HO.lst ((ns.take r.toNat).map V.int)) hs
  have hsa : s ≠ a := d5.ne hs
  have nl : ns.length = C.length := pn.length_eq
  refine lc_drawL (B := 10 ^ 50) (d5.ex eS) hsa upd_same (by rw [List.length_take]; omega) (fun _ => rfl) (fun i c H' hi b d Q q => ?_) fun Dl ts M H7 hD b7 d7 h7 pr hk hb => n_nil ?_
  · exact n_tup (n_cons (n_var rfl (n_cons (d_raw (n_cons (n_var rfl (n_nil ⟨a, rfl, d, fun t H'' t0 t1 b'' d'' => n_nil ⟨sz_of (by simp), fun p hp => q p t _ (b''.trans (Bt.of (Ex.new hp))) (d''.ex (Ex.new hp)) upd_same t0 t1⟩⟩)))))))
  have ndk : (M.map (·.1)).Nodup := by
    rw [hk]
    exact (pn.nodup_iff.mpr hc.2.nd).sublist (List.take_sublist _ _)
  have okM : OkD C M := by
    refine ⟨ndk, fun q hq => ?_, fun q hq => ?_, ?_⟩
    · have := List.mem_map.mpr ⟨q, hq, (rfl : (fun z : Int × Int => z.1) q = q.1)⟩
      rw [hk] at this
      exact pn.subset (List.mem_of_mem_take this)
    · have := hb q hq
      exact ⟨this.1, by omega⟩
    · have := congrArg List.length hk
      rw [List.length_map, List.length_take] at this
      omega
  refine ⟨Dl, ts, kvI M, rfl, sq_of h7, pairedF _ (pairedM (fun t q h => st_of h) pr), fun dd hdd => ?_⟩
  rw [merge_kvI ndk]
  have eD := Ex.new (o := HO.dK (kvI M)) hdd
  have b08 : Bt a H (L2.upd H7 dd (.dK (kvI M))) := ((b05.trans (Bt.of eS)).trans b7).trans (Bt.of eD)
  have b38 : Bt a H2 (L2.upd H7 dd (.dK (kvI M))) := ((((b3.trans (Bt.of e4)).trans b5).trans (Bt.of eS)).trans b7).trans (Bt.of eD)
  have d8 : DiceAt (L2.upd H7 dd (.dK (kvI M))) a := d7.ex eD
  have hc8 := b38.cirS hpa hc
  have j8 : DJ (L2.upd H7 dd (.dK (kvI M))) dd M := upd_same
  have hda : dd ≠ a := d7.ne hdd
  generalize L2.upd H7 dd (.dK (kvI M)) = H8 at b08 d8 hc8 j8
  clear b38 eD hdd pr h7 b7 d7 hD ndk
  have dn := best_nn C M
  have dm : bestI C M ≤ 10 ^ 50 := best_le (by omega) fun q hq => (hb q hq).2
  refine q_asg (ev_call (ea_cons (ev_var rfl) (ea_cons (ev_var rfl) ea_nil)) fun H1 e Q q E => ⟨p, dd, C, M, rfl, hc8.ex e, j8.ex e, okM, q⟩) fun H9 e9 => ?_
  have hc9 := hc8.ex e9
  have j9 := j8.ex e9
  refine q_when (b := false) (et_is (et_test (ev_op (ev_call (ea_cons (ev_var rfl) (ea_cons (ev_var rfl) ea_nil)) (sv_chosen hc9 j9 okM)) (ev_var rfl) (rv_ne rfl))) (by rw [decide_eq_true rfl]; rfl)) (fun z => by cases z) fun _ H10 e10 => ?_
  have hc10 := hc9.ex e10
  have j10 := j9.ex e10
  have e810 := e9.trans e10
  -- the lengths
  obtain ⟨mm, mm1, mm2⟩ := ex_max (ns := [0, bestI C M - 1]) (by simp)
  have mmr : 0 ≤ mm ∧ mm ≤ 10 ^ 50 := by
    have := mm2 0 (by simp)
    simp only [List.mem_cons, List.not_mem_nil, or_false] at mm1
    omega
  have hlen : M.length ≤ 9 := okM.len
  refine q_forX (G := fun ms => ∀ k ∈ ms, 0 ≤ k ∧ k ≤ big) (fun Q q => x_sortSet (ns := [0, bestI C M, bestI C M + 1, mm] ++ M.map (·.2)) (el_isT (el_catR (el_lst (ea_cons ev_c (ea_cons (ev_var rfl) (ea_cons (ev_op (ev_var rfl) ev_c rv_I0) (ea_cons (ev_mx (ns := [0, bestI C M - 1]) (el_lst (ea_cons ev_c (ea_cons (ev_op (ev_var rfl) ev_c rv_I0) ea_nil)) (by simp)) mm1 mm2) ea_nil)))) (by simp)) (el_valsL (ev_var rfl) j10) (by simp; omega)) (by rw [List.map_append]; rfl)) (by simp; omega) Q fun p ms H1 e h1 hm hl => q p ms H1 e h1 fun k hk => ?_)
    (fun σ' => ∃ v5, σ' = [some (.ref a), some (.ref p), some (.ref dd), none, some (.int (bestI C M)), v5, none, none, none]) ⟨_, rfl⟩ (fun ms c σ' H11 H12 g hcm y e11 e12 => ?_) (fun σ' H13 e13 y => ?_)
  · have := hm k hk
    simp only [List.cons_append, List.nil_append, List.mem_cons, List.mem_map] at this
    rcases this with rfl | rfl | rfl | rfl | ⟨q, hq, rfl⟩
    · omega
    · omega
    · omega
    · omega
    · exact okM.rng q hq
  · obtain ⟨v5, rfl⟩ := y
    have gc := g c hcm
    have e := e11.trans e12
    refine s_when (b := false) (et_is (et_test (ev_neU (eu_holders (ea_cons (ev_var rfl) (ea_cons (ev_var rfl) (ea_cons (ev_var rfl) ea_nil))) (hc10.ex e) (j10.ex e) okM gc.1 gc.2) (eu_tupN (eu_holdT (p2 := 1) (d2 := 2) (hc10.ex e) (j10.ex e).di rfl (fun _ _ _ => ev_var rfl) (fun _ => rfl) (fun _ => rfl) (fun _ => rfl))))) (by rw [decide_eq_true rfl]; rfl)) (fun z => by cases z) fun _ H14 e14 => ⟨⟨_, rfl⟩, e12.trans e14⟩
  obtain ⟨v5, rfl⟩ := y
  have hc13 := hc10.ex e13
  have j13 := j10.ex e13
  have bm := best_maj hc.2 okM
  -- the lots
  refine q_forTD (ds := (lotsOf C (C.length / 2 + 1)).map ciD) (fun Q q => d_raw (n_cons (n_var rfl (n_nil ⟨p, C, rfl, hc13, fun v H1 e r => q v H1 e r⟩)))) (fun σ' => ∃ v5 v6, σ' = [some (.ref a), some (.ref p), some (.ref dd), none, some (.int (bestI C M)), v5, v6, none, none]) ⟨_, _, rfl⟩ (fun d v σ' H14 H15 hdm hr y e14 e15 => ?_) (fun σ' H15 e15 y => ?_)
  · obtain ⟨v5, v6, rfl⟩ := y
    obtain ⟨lot, hlot, rfl⟩ := List.mem_map.mp hdm
    obtain ⟨q1, rfl, hq1⟩ := rp_ints hr
    obtain ⟨s1, s2⟩ := lots_sub _ _ _ hlot
    obtain ⟨hh, hh1, hh2⟩ := lot_has bm s1 s2
    obtain ⟨m, m1, m2⟩ := ex_max (ns := lot.map fun h => lk M h) (by
      intro z
      have := congrArg List.length z
      rw [List.length_map, s2] at this
      simp at this)
    have mb := m2 _ (List.mem_map.mpr ⟨hh, hh1, rfl⟩)
    refine s_when (b := false) (et_is (et_test (ev_op (ev_mx (ns := lot.map fun h => lk M h) (el_isT (el_lcT (fun _ => true) (fun i => .int (lk M (lot.getD i 0))) (ev_var rfl) hq1 (by rw [List.length_map]; omega) (fun _ => rfl) (fun i y H1 e1 hy => et_yes) (fun i y H1 e1 hy _ => ?_)) ?_) m1 m2) (ev_var rfl) rv_I0)) (decide_eq_false (by omega))) (fun z => by cases z) fun _ H16 e16 => ⟨⟨_, _, rfl⟩, e15.trans e16⟩
    · obtain ⟨c, g1, rfl, g3⟩ := cell_at hy
      rw [g3]
      exact ev_getI (ev_var rfl) (ev_var rfl) ev_c (((j13.ex (e14.trans e15)).ex e1).di)
    · rw [given_map (fun _ => rfl), List.length_map, List.map_map]
      exact map_rangeD (fun c => V.int (lk M c)) 0 lot
  obtain ⟨v5, v6, rfl⟩ := y
  have hc15 := hc13.ex e15
  have j15 := j13.ex e15
  refine q_when (b := false) (et_is (et_test (ev_op (ev_op ev_c (ev_lenNewT (eu_holders (ea_cons (ev_var rfl) (ea_cons (ev_var rfl) (ea_cons (ev_var rfl) ea_nil))) hc15 j15 okM dn (by omega))) (rv_I (.inl ⟨by decide, by decide⟩))) (ev_cb (ea_cons (ev_var rfl) ea_nil) (rc_lenT hc15.1)) rv_I0)) (decide_eq_false ?_)) (fun z => by cases z) fun _ H16 e16 => ?_
  · rw [List.length_map, List.length_map, hold_len]
    unfold Maj at bm
    omega
  have hc16 := hc15.ex e16
  have j16 := j15.ex e16
  obtain ⟨mv, mv1, mv2⟩ := ex_max (ns := [0] ++ M.map (·.2)) (by simp)
  have bt := best_top hc.2 okM (v := bestI C M + 1) (by omega)
  refine q_when (b := decide (bestI C M < mv) && false) (et_and (et_test (ev_op (ev_var rfl) (ev_mx (ns := [0] ++ M.map (·.2)) (el_isT (el_catR (el_lst (ea_cons ev_c ea_nil) (by simp)) (el_valsL (ev_var rfl) j16) (by simp; omega)) (by rw [List.map_append]; rfl)) mv1 mv2) rv_I0)) fun _ => et_is (et_test (ev_op (ev_op ev_c (ev_lenNewT (eu_holders (ea_cons (ev_var rfl) (ea_cons (ev_var rfl) (ea_cons (ev_op (ev_var rfl) ev_c rv_I0) ea_nil))) hc16 j16 okM (by omega) (by omega))) (rv_I (.inl ⟨by decide, by decide⟩))) (ev_cb (ea_cons (ev_var rfl) ea_nil) (rc_lenT hc16.1)) rv_I0)) (decide_eq_false ?_)) (fun z => by rw [Bool.and_false] at z; cases z) fun _ H17 e17 => ?_
  · rw [List.length_map, List.length_map, hold_len]
    unfold Maj at bt
    omega
  have hc17 := hc16.ex e17
  have j17 := j16.ex e17
  have e817 := (((e810.trans e13).trans e15).trans e16).trans e17
  have d17 := d8.ex e817
  -- one length grows
  refine q_asgC (ea_cons (ev_var rfl) (ea_cons (ev_var rfl) ea_nil)) fun H18 e18 => .inr ⟨a, p, C.map V.int, rfl, d17.ex e18, hpa, (hc17.ex e18).1, ?_, by rw [List.length_map]; omega, fun x H19 hx b19 d19 => ?_⟩
  · intro z
    have := congrArg List.length z
    rw [List.length_map, List.length_nil] at this
    omega
  obtain ⟨hh, hhC, rfl⟩ := List.mem_map.mp hx
  have b89 : Bt a H8 H19 := ((Bt.of e817).trans (Bt.of e18)).trans b19
  have j19 : DJ H19 dd M := b89.at hda j8
  have hc19 := b89.cirS hpa hc8
  refine q_asgX (n_op ((ev_op (ev_getI (ev_var rfl) (ev_var rfl) ev_c j19.di) ev_c rv_I0) H19 (Ex.refl _) _ fun H20 e20 => d_raw (n_cons (n_var rfl (n_nil ⟨a, rfl, d19.ex e20, fun t H21 t0 t1 b21 d21 => ⟨_, _, rfl, rfl, ?_⟩⟩)))))
  have b8x : Bt a H8 H21 := (b89.trans (Bt.of e20)).trans b21
  have j21 : DJ H21 dd M := b8x.at hda j8
  have hc21 := b8x.cirS hpa hc8
  have lkn : 0 ≤ lk M hh ∧ lk M hh ≤ 10 ^ 50 := by
    rcases lk_cases M hh with z | z
    · omega
    · exact hb _ z
  have okP : OkD C (putI M hh (lk M hh + 1 + t)) := ok_put hc.2 okM hhC (by omega) (by omega)
  have gr := grows (v := lk M hh + 1 + t) hc.2 okM okP (by omega)
  refine q_asgX (d_raw (n_cons (n_var rfl (n_cons (x_dictAdd (h := hh) (v := lk M hh + 1 + t) j21 okM.nd (by omega) (ev_var rfl) (ev_var rfl) (ev_var rfl) _ fun d2 H22 hd2 e22 j22 => n_nil ⟨p, d2, C, _, rfl, hc21.ex e22, j22, okP, fun H23 e23 => ?_⟩)))))
  refine s_ret (ev_is (ev_chain_le (ev_var rfl) (ev_var rfl) (ev_cb (ea_cons (ev_var rfl) (ea_cons (ev_var rfl) ea_nil)) rc_max2)) ?_) fun H24 e24 => k H24 ?_ ?_
  · exact congrArg V.bl (Bool.and_eq_true_iff.mpr ⟨decide_eq_true gr.1, decide_eq_true gr.2⟩)
  · exact (b08.trans b8x).trans (Bt.of ((e22.trans e23).trans e24))
  · exact d21.ex ((e22.trans e23).trans e24)
end
end K0

namespace K0
open PySem PySem.Spec PyProof.Rows L2 Evl
def EvDJ (te : TE) (σ : L2.St) (H : Hp) (L : List (Int × Int)) : Prop := ∀ H1, Ex H H1 → ∀ Q : VK, (∀ p H2, H1 p = none → Ex H1 H2 → DJ H2 p L → Q (.ref p) H2) → te σ H1 Q
def trI (L : List (Int × Int)) : List (TE × TE) := L.map fun q => (tC (.int q.1), tC (.int q.2))
section
variable {K : PySem.W.Frag} {w : World} {σ : L2.St} {H H' : Hp} {ta tb tc te td tl tk tv : TE} {tr : TA} {t u : TT} {x y z v : V} {Q : VK} {D : Ends} {tu tz : TS} {d p : Addr} {C : List Int} {L : List (Int × Int)} {E : XK}
theorem s_forLast {ti : TI} {g : TG} (h : tSeq (tFor ti g tu) (fun D σ H => D.nx σ H) D σ H) : tFor ti g tu D σ H := h
theorem pairs_trI : ∀ (L : List (Int × Int)) (H : Hp) (k : List (V × V) → Hp → Prop), k (L.map fun q => (V.int q.1, V.int q.2)) H → tPairs (trI L) σ H k
  | [], H, k, h => h
  | q :: L, H, k, h => pairs_trI L H (fun ps H1 => k ((V.int q.1, V.int q.2) :: ps) H1) h
theorem ed_disp (L : List (Int × Int)) (nd : (L.map (·.1)).Nodup) (hl : L.length ≤ 15) : EvDJ (tDisp (trI L)) σ H L := fun H1 e Q q p hp => pairs_trI L _ _ ⟨upd_same, kvI L, by unfold kvI; rw [List.map_map]; rfl, by unfold kvI; rw [List.length_map]; exact hl, by
  rw [merge_kvI nd]
  have e1 : L2.upd (L2.upd H1 p (.dK [])) p (.dK (kvI L)) = L2.upd H1 p (.dK (kvI L)) := by
    funext b
    unfold L2.upd
    split <;> rfl
  rw [e1]
  exact q p _ hp (Ex.new hp) upd_same⟩
theorem ed_none : EvDJ tDNewK σ H [] := fun H1 e Q q p hp => q p _ hp (Ex.new hp) upd_same
theorem ev_chosenD (h1 : Ev ta σ H (.ref p)) (hc : CirS K H p C) (h2 : EvDJ td σ H L) (ok : OkD C L) {m : Int} (hm : bestI C L = m) : Ev (tCall (sp_chosen_length K) [] E (tCons ta (tCons td tNil))) σ H (.int m) := fun H1 e Q q =>
  d_raw (n_cons (h1 H1 e _ fun H2 e2 => n_cons (h2 H2 (e.trans e2) _ fun dd H3 hd e3 j => n_nil ⟨p, dd, C, L, rfl, hc.ex ((e.trans e2).trans e3), j, ok, fun H4 e4 => by
    rw [hm]
    exact q H4 ((e2.trans e3).trans e4)⟩)))
theorem ev_chosenT (h1 : EvU ta σ H (C.map V.int)) (hc : OkC C) (h2 : EvDJ td σ H L) (ok : OkD C L) {m : Int} (hm : bestI C L = m) : Ev (tCall (sp_chosen_length K) [] E (tCons ta (tCons td tNil))) σ H (.int m) := fun H1 e Q q =>
  d_raw (n_cons (h1 H1 e _ fun p H2 hp e2 g2 => n_cons (h2 H2 (e.trans e2) _ fun dd H3 hd e3 j => n_nil ⟨p, dd, C, L, rfl, ⟨st_of (e3 _ _ g2), hc⟩, j, ok, fun H4 e4 => by
    rw [hm]
    exact q H4 ((e2.trans e3).trans e4)⟩)))
theorem eu_holdersD {v : Int} {ms : List Int} (h1 : Ev ta σ H (.ref p)) (hc : CirS K H p C) (h2 : EvDJ td σ H L) (ok : OkD C L) (v0 : 0 ≤ v) (v1 : v ≤ big) (hm : hold C L v = ms) : EvU (tCall (sp_holders K) [] E (tCons ta (tCons td (tCons (tC (.int v)) tNil)))) σ H (ms.map V.int) := fun H1 e Q q =>
  d_raw (n_cons (h1 H1 e _ fun H2 e2 => n_cons (h2 H2 (e.trans e2) _ fun dd H3 hd e3 j => n_cons (n_c (n_nil ⟨p, dd, C, L, v, rfl, hc.ex ((e.trans e2).trans e3), j, ok, v0, v1, fun r H4 hr e4 h4 => q r H4 (fresh_back (e2.trans e3) hr) ((e2.trans e3).trans e4) (by rw [← hm]; exact h4)⟩)))))
theorem ev_neUT {ns ms : List Int} (ha : EvU ta σ H (ns.map V.int)) (hb : Ev tb σ H (.ref p)) (hp : SqT K H p (ms.map V.int)) : Ev (tOp (rNeD K) ta tb) σ H (.bl (!decide (ns = ms))) := fun H1 e Q q =>
  ha H1 e _ fun r H2 hr e2 h2 => hb H2 (e.trans e2) _ fun H3 e3 => by
    refine ⟨.tuple (ns.map PyData.int), .tuple (ms.map PyData.int), .tup (st_of (e3 _ _ h2)) (dpAll_intsT ns), .tup (ex_t ((e.trans e2).trans e3) hp) (dpAll_intsT ms), shapedTT ns, shapedTT ms, ?_⟩
    rw [eqvTU]
    exact q H3 (e2.trans e3)
theorem ev_neTL {ns ms : List Int} (ha : Ev ta σ H (.ref p)) (hp : H p = some (.lst (ns.map V.int))) (hb : EvL tb σ H (ms.map V.int)) : Ev (tOp (rNeD K) ta tb) σ H (.bl (!decide (ns = ms))) := ev_opL ha hb fun q H1 h1 e1 H2 e2 Q k => by
  refine ⟨.list (ns.map PyData.int), .list (ms.map PyData.int), .lst (sq_of ((e1.trans e2) _ _ hp)) (dpAll_intsT ns), .lst (sq_of (e2 _ _ h1)) (dpAll_intsT ms), shapedT ns, shapedT ms, ?_⟩
  have : PyData.eqv (.list (ns.map PyData.int)) (.list (ms.map PyData.int)) = decide (ns = ms) := by rw [PyData.eqv, eqvT]
  rw [this]
  exact k H2 (Ex.refl _)
end
def C3 : List Int := [0, 1, 2]
def C4 : List Int := [1, 2, 5, 8]
def C1 : List Int := [3]
theorem C3_ok : OkC C3 := ⟨by decide, by decide, by decide, by decide⟩
theorem C4_ok : OkC C4 := ⟨by decide, by decide, by decide, by decide⟩
theorem C1_ok : OkC C1 := ⟨by decide, by decide, by decide, by decide⟩
def La : List (Int × Int) := [(0, 9), (1, 4)]
def Lb : List (Int × Int) := [(1, 9), (2, 9), (5, 4)]
def Lc : List (Int × Int) := [(3, 7)]
def Ld : List (Int × Int) := [(1, 9), (2, 9)]
def Le : List (Int × Int) := [(8, 3), (5, 2), (2, 1), (1, 7)]
def Lf : List (Int × Int) := [(1, 2)]
theorem big_9 : (9 : Int) ≤ big := by decide +kernel
theorem okd_of {C : List Int} {L : List (Int × Int)} (nd : (L.map (·.1)).Nodup) (sub : ∀ q ∈ L, q.1 ∈ C) (rng : ∀ q ∈ L, 0 ≤ q.2 ∧ q.2 ≤ 9) (len : L.length ≤ 9) : OkD C L :=
  ⟨nd, sub, fun q hq => ⟨(rng q hq).1, Int.le_trans (rng q hq).2 big_9⟩, len⟩
theorem sq_btL {K : PySem.W.Frag} {p a : Addr} {xs : List V} {H H1 H2 : Hp} (hp : H p = none) (h : SqL K H a xs) (e : Ex H H1) (b : Bt p H1 H2) : SqL K H2 a xs := by
  rcases h with (h | ⟨o, h⟩) | h
  · exact .inl (.inl (b.at (ne_of_none h hp) (e _ _ h)))
  · exact .inl (.inr ⟨o, b.at (ne_of_none h hp) (e _ _ h)⟩)
  · exact .inr h
section
variable {P : Program} {w : World} {K : PySem.W.Frag} {mg : Str → Option Value} {base : Heap} {A : Ad} {D : Fd}
def sp_law (K : PySem.W.Frag) : Sp := fun vs H Q _ => ∃ (a : Addr) (ns : List Int), vs = [.ref a] ∧ SqL K H a (ns.map V.int) ∧ ns.length ≤ 63 ∧ ∀ H', Q (.bl true) H'
theorem len_law {vs : List V} {H : Hp} {Q : VK} {E : XK} (h : sp_law K vs H Q E) : vs.length = 1 := by
  obtain ⟨a, ns, rfl, _⟩ := h
  rfl
theorem ok_law (T : Txt K mg A D) : FnOk P w K mg base CX0 11 A.law D.law ["script"] (sp_law K) := by
  have G_chosen_length : FnOk P w K mg base CX0 6 A.chosen_length D.chosen_length ["circle", "laid"] (sp_chosen_length K) := ok_chosen_length T
  have G_holders : FnOk P w K mg base CX0 6 A.holders D.holders ["circle", "laid", "length"] (sp_holders K) := ok_holders T
  have G_law_dice : FnOk P w K mg base CX0 1 A.law_dice D.law_dice ["script", "spot"] (sp_law_dice K) := ok_law_dice T
  have G_law_right : FnOk P w K mg base CX0 10 A.law_right D.law_right ["dice"] (sp_law_right K) := ok_law_right T
  refine T.F_law.ok sc_law (fun vs H Q E h => len_law h) (fun cdv A0 outer s H vs Q E hr h => ?_)
  refine ⟨_, (pss_cons (ps_for PassesOwn.never rfl (pi_range1 rfl T.b_range (pa_cons (pe_callB (call_max2 rfl) (by rfl) T.b_max (by decide +kernel) (pa_cons pe_int (pa_cons (pe_callB (call_min2 rfl) (by rfl) T.b_min (by decide +kernel) (pa_cons pe_int (pa_cons (pe_callB call_len (by rfl) T.b_len (by decide +kernel) (pa_cons (pv 0) pa_nil)) pa_nil))) pa_nil))) pa_nil)) (pg_name (i := 1) sc_law.nd rfl (Or.inl rfl)) (pss_cons (ps_set (i := 2) sc_law.nd rfl (Or.inl rfl) (pe_call G_law_dice (hr.mono (by decide)) rfl T.g_law_dice T.F_law_dice.kp T.b_law_dice .nil pass0 (pa_cons (pv 0) (pa_cons (pv 1) pa_nil))))
  (pss_one (ps_for PassesOwn.never rfl (pi_range1 rfl T.b_range (pa_cons pe_int pa_nil)) (pg_name (i := 3) sc_law.nd rfl (Or.inl rfl)) (pss_one (ps_if (pt_not (pt_val (pe_call G_law_right (hr.mono (by decide)) rfl T.g_law_right T.F_law_right.kp T.b_law_right .nil pass0 (pa_cons (pv 2) pa_nil)))) (pss_one (ps_ret pe_bl)) pss_nil))))))
  (pss_cons (ps_asg (pe_tup (pa_cons (pe_tup (pa_cons pe_int (pa_cons pe_int (pa_cons pe_int pa_nil)))) (pa_cons (pe_tup (pa_cons pe_int (pa_cons pe_int (pa_cons pe_int (pa_cons pe_int pa_nil))))) pa_nil))) (pg_tup rfl (pgs_cons (pg_name (i := 4) sc_law.nd rfl (Or.inl rfl)) (pgs_cons (pg_name (i := 5) sc_law.nd rfl (Or.inl rfl)) pgs_nil))))
  (pss_cons (ps_set (i := 6) sc_law.nd rfl (Or.inl rfl) (pe_lst (pa_cons (pe_call G_chosen_length (hr.mono (by decide)) rfl T.g_chosen_length T.F_chosen_length.kp T.b_chosen_length .nil pass0 (pa_cons (pv 4) (pa_cons (pe_disp (pps_cons pe_int pe_int (pps_cons pe_int pe_int pps_nil)) rfl rfl (by simp) (by decide)) pa_nil))) (pa_cons (pe_call G_chosen_length (hr.mono (by decide)) rfl T.g_chosen_length T.F_chosen_length.kp T.b_chosen_length .nil pass0 (pa_cons (pv 5) (pa_cons (pe_disp (pps_cons pe_int pe_int (pps_cons pe_int pe_int (pps_cons pe_int pe_int pps_nil))) rfl rfl (by simp) (by decide)) pa_nil))) (pa_cons (pe_call G_chosen_length (hr.mono (by decide)) rfl T.g_chosen_length T.F_chosen_length.kp T.b_chosen_length .nil pass0 (pa_cons (pe_tup (pa_cons pe_int pa_nil)) (pa_cons pe_dnewK pa_nil))) (pa_cons (pe_call G_chosen_length (hr.mono (by decide)) rfl T.g_chosen_length T.F_chosen_length.kp T.b_chosen_length .nil pass0 (pa_cons (pe_tup (pa_cons pe_int pa_nil)) (pa_cons (pe_disp (pps_cons pe_int pe_int pps_nil) rfl rfl (by simp) (by decide)) pa_nil))) pa_nil))))))
  (pss_cons (ps_if (PW.pt (pw_or (pt_cmpR (op_neD hr.units) (pv 6) (pe_lst (pa_cons pe_int (pa_cons pe_int (pa_cons pe_int (pa_cons pe_int pa_nil))))) (nomark _)) (pw_or (pt_cmpR (op_neD hr.units) (pe_call G_holders (hr.mono (by decide)) rfl T.g_holders T.F_holders.kp T.b_holders .nil pass0 (pa_cons (pv 5) (pa_cons (pe_disp (pps_cons pe_int pe_int (pps_cons pe_int pe_int (pps_cons pe_int pe_int pps_nil))) rfl rfl (by simp) (by decide)) (pa_cons pe_int pa_nil)))) (pe_tup (pa_cons pe_int (pa_cons pe_int (pa_cons pe_int pa_nil)))) (nomark _)) (pw_or1 (pt_cmpR (op_neD hr.units) (pe_call G_holders (hr.mono (by decide)) rfl T.g_holders T.F_holders.kp T.b_holders .nil pass0 (pa_cons (pv 4) (pa_cons pe_dnewK (pa_cons pe_int pa_nil)))) (pv 4) (nomark _)))))) (pss_one (ps_ret pe_bl)) pss_nil)
  (pss_one (ps_ret (pe_and (pe_cmpR op_eq (pe_call G_chosen_length (hr.mono (by decide)) rfl T.g_chosen_length T.F_chosen_length.kp T.b_chosen_length .nil pass0 (pa_cons (pv 5) (pa_cons (pe_disp (pps_cons pe_int pe_int (pps_cons pe_int pe_int pps_nil)) rfl rfl (by simp) (by decide)) pa_nil))) pe_int (nomark _)) (pe_and (pe_cmpR op_eq (pe_call G_chosen_length (hr.mono (by decide)) rfl T.g_chosen_length T.F_chosen_length.kp T.b_chosen_length .nil pass0 (pa_cons (pv 5) (pa_cons (pe_disp (pps_cons pe_int pe_int (pps_cons pe_int pe_int (pps_cons pe_int pe_int (pps_cons pe_int pe_int pps_nil)))) rfl rfl (by simp) (by decide)) pa_nil))) pe_int (nomark _)) (pe_one (pe_cmpR (op_eqD hr.units) (pe_call G_holders (hr.mono (by decide)) rfl T.g_holders T.F_holders.kp T.b_holders .nil pass0 (pa_cons (pv 4) (pa_cons (pe_disp (pps_cons pe_int pe_int pps_nil) rfl rfl (by simp) (by decide)) (pa_cons pe_int pa_nil)))) (pe_tup pa_nil) (nomark _))))))))))), ?_⟩
  obtain ⟨a, ns, rfl, hS, hlen, k⟩ := h
  have hz : (ns.map V.int).length = ns.length := List.length_map ..
  refine q_forR1 (n := if (if ((ns.map V.int).length : Int) < 5 then ((ns.map V.int).length : Int) else 5) > 1 then (if ((ns.map V.int).length : Int) < 5 then ((ns.map V.int).length : Int) else 5) else 1) (ea_cons (ev_cb (ea_cons ev_c (ea_cons (ev_cb (ea_cons ev_c (ea_cons (ev_cb (ea_cons (ev_var rfl) ea_nil) (rc_lenL hS)) ea_nil)) rc_min2) ea_nil)) rc_max2) ea_nil)
    (by split <;> split <;> omega) (fun i σ' H' => ∃ v1 v2 v3, σ' = [some (.ref a), v1, v2, v3, none, none, none] ∧ SqL K H' a (ns.map V.int)) (fun H1 e1 => ⟨none, none, none, rfl, ex_l e1 hS⟩) (fun i σ' H' hi g => ?_) (fun σ' H' g => ?_)
  · obtain ⟨v1, v2, v3, rfl, hS'⟩ := g
    refine q_asgC (ea_cons (ev_var rfl) (ea_cons (ev_var rfl) ea_nil)) fun H1 e1 => ⟨a, ns, i, rfl, ex_l e1 hS', fun d H2 hd e2 dd => ?_⟩
    refine s_forLast (q_forR1 (n := 3) (ea_cons ev_c ea_nil) (by decide) (fun j σ' H' => ∃ v1 v3, σ' = [some (.ref a), v1, some (.ref d), v3, none, none, none] ∧ Bt d H2 H' ∧ DiceAt H' d) (fun H3 e3 => ⟨_, _, rfl, Bt.of e3, dd.ex e3⟩) (fun j σ' H3 hj g => ?_) (fun σ' H3 g => ?_))
    · obtain ⟨v1, v3, rfl, b, dd3⟩ := g
      refine n_ifS (n_not (n_B (c_call (ea_cons (ev_var rfl) ea_nil) fun H4 e4 => ⟨d, rfl, dd3.ex e4, fun H5 b5 d5 => ⟨true, rfl, ?_⟩⟩)))
      rw [if_neg (by decide)]
      exact n_next ⟨_, _, rfl, (b.trans (Bt.of e4)).trans b5, d5⟩
    · obtain ⟨v1, v3, rfl, b, dd3⟩ := g
      exact ⟨_, _, _, rfl, sq_btL hd (ex_l e1 hS') e2 b⟩
  · obtain ⟨v1, v2, v3, rfl, hS'⟩ := g
    have hb9 := big_9
    refine q_asgG (n_tup (n_cons (n_tup (n_cons (n_c (n_cons (n_c (n_cons (n_c (n_nil ⟨sz_of (by simp), fun p3 hp3 => n_cons (n_tup (n_cons (n_c (n_cons (n_c (n_cons (n_c (n_cons (n_c (n_nil ⟨sz_of (by simp), fun p4 hp4 => n_nil ⟨sz_of (by simp), fun pt hpt => ⟨pt, _, rfl, st_of upd_same, rfl, _, _, rfl, _, _, rfl, rfl, ?_⟩⟩⟩))))))))))⟩))))))))))
    have e3 := Ex.new (o := HO.tup (C3.map V.int)) hp3
    have e4 := Ex.new (o := HO.tup (C4.map V.int)) hp4
    have e5 := Ex.new (o := HO.tup [V.ref p3, V.ref p4]) hpt
    have c3 : CirS K _ p3 C3 := ⟨st_of ((e4.trans e5) _ _ upd_same), C3_ok⟩
    have c4 : CirS K _ p4 C4 := ⟨st_of (e5 _ _ upd_same), C4_ok⟩
    refine q_asgL (xs := ([4, 4, 0, 7] : List Int).map V.int) (el_lst (ea_cons ?_ (ea_cons ?_ (ea_cons ?_ (ea_cons ?_ ea_nil)))) (by decide)) fun l H6 hl e6 h6 => ?_
    · exact ev_chosenD (ev_var rfl) c3 (ed_disp La (by decide) (by decide)) (okd_of (by decide) (by decide) (by decide) (by decide)) (by decide +kernel)
    · exact ev_chosenD (ev_var rfl) c4 (ed_disp Lb (by decide) (by decide)) (okd_of (by decide) (by decide) (by decide) (by decide)) (by decide +kernel)
    · exact ev_chosenT (C := C1) (eu_tup (ea_cons ev_c ea_nil) (by decide)) C1_ok ed_none (okd_of (by decide) (by decide) (by decide) (by decide)) (by decide +kernel)
    · exact ev_chosenT (C := C1) (eu_tup (ea_cons ev_c ea_nil) (by decide)) C1_ok (ed_disp Lc (by decide) (by decide)) (okd_of (by decide) (by decide) (by decide) (by decide)) (by decide +kernel)
    have c3 := c3.ex e6
    have c4 := c4.ex e6
    refine q_when (b := false) (et_is (et_or (a := false) (b := false) (et_is (et_test (ev_neTL (ns := [4, 4, 0, 7]) (ms := [4, 4, 0, 7]) (ev_var rfl) h6 (el_lst (ea_cons ev_c (ea_cons ev_c (ea_cons ev_c (ea_cons ev_c ea_nil)))) (by decide)))) (by rw [decide_eq_true rfl]; rfl)) fun _ => et_is (et_or (a := false) (b := false)
      (et_is (et_test (ev_neU (ns := [1, 2, 5]) (ms := [1, 2, 5]) (eu_holdersD (ev_var rfl) c4 (ed_disp Lb (by decide) (by decide)) (okd_of (by decide) (by decide) (by decide) (by decide)) (by decide) (by omega) (by decide +kernel)) (eu_tup (ea_cons ev_c (ea_cons ev_c (ea_cons ev_c ea_nil))) (by decide)))) (by rw [decide_eq_true rfl]; rfl)) fun _ =>
      et_is (et_test (ev_neUT (ns := C3) (ms := C3) (eu_holdersD (ev_var rfl) c3 ed_none (okd_of (by decide) (by decide) (by decide) (by decide)) (by decide) (by omega) (by decide +kernel)) (ev_var rfl) c3.1)) (by rw [decide_eq_true rfl]; rfl)) rfl) rfl) (fun z => by cases z) fun _ H7 e7 => ?_
    have c3 := c3.ex e7
    have c4 := c4.ex e7
    refine s_ret (ev_is (ev_andV (a := true) (b := true) (ev_is (ev_op (ev_chosenD (m := 0) (ev_var rfl) c4 (ed_disp Ld (by decide) (by decide)) (okd_of (by decide) (by decide) (by decide) (by decide)) (by decide +kernel)) ev_c (rv_eq rfl)) (congrArg V.bl (decide_eq_true rfl))) fun _ =>
      ev_andV (a := true) (b := true) (ev_is (ev_op (ev_chosenD (m := 2) (ev_var rfl) c4 (ed_disp Le (by decide) (by decide)) (okd_of (by decide) (by decide) (by decide) (by decide)) (by decide +kernel)) ev_c (rv_eq rfl)) (congrArg V.bl (decide_eq_true rfl))) fun _ =>
      ev_is (ev_eqUI (ns := []) (ms := []) (eu_holdersD (v := 3) (ev_var rfl) c3 (ed_disp Lf (by decide) (by decide)) (okd_of (by decide) (by decide) (by decide) (by decide)) (by decide) (by omega) (by decide +kernel)) (eu_tup ea_nil (by decide))) (congrArg V.bl (decide_eq_true rfl))) rfl) fun H8 _ => k H8
end
end K0

namespace K0
open PySem L2 Evl
theorem all_mk {l : PySem.W.OpenLaw} {w : World} {K : PySem.W.Frag} {h : Heap} {mg : Str → Option Value} {fa f0 f1 f2 f3 f4 f5 f6 f7 f8 f9 f10 f11 f12 f13 f14 f15 f16 f17 f18 f19 f20 f21 f22 f23 : Addr} (X : K.In h) (G : h.Ns mainGlobals mg) (hfa : mg "law" = some (.ref fa))
    {od0 an0 od1 an1 od2 an2 od3 an3 od4 an4 od5 an5 dr5 od6 an6 od7 an7 od8 an8 od9 an9 od10 an10 od11 an11 od12 an12 od13 an13 od14 an14 od15 an15 od16 an16 od17 an17 od18 an18 od19 an19 od20 an20 od21 an21 od22 an22 od23 an23 : Option Addr}
    {sl0 sl1 sl2 sl3 sl4 sl5 dl5 sl6 sl7 sl8 sl9 sl10 sl11 sl12 sl13 sl14 sl15 sl16 sl17 sl18 sl19 sl20 sl21 sl22 sl23 : Array (Option Value)}
    {oc0 kV0 dc0 pm0 cd0 ct0 oc1 kV1 dc1 pm1 cd1 ct1 oc2 kV2 dc2 pm2 cd2 ct2 oc3 kV3 dc3 pm3 cd3 ct3 oc4 kV4 dc4 pm4 cd4 ct4 oc5 kV5 dc5 pm5 cd5 ct5 dq5 oc6 kV6 dc6 pm6 cd6 ct6 oc7 kV7 dc7 pm7 cd7 ct7 oc8 kV8 dc8 pm8 cd8 ct8 oc9 kV9 dc9 pm9 cd9 ct9 oc10 kV10 dc10 pm10 cd10 ct10 oc11 kV11 dc11 pm11 cd11 ct11 oc12 kV12 dc12 pm12 cd12 ct12 oc13 kV13 dc13 pm13 cd13 ct13 oc14 kV14 dc14 pm14 cd14 ct14 oc15 kV15 dc15 pm15 cd15 ct15 oc16 kV16 dc16 pm16 cd16 ct16 oc17 kV17 dc17 pm17 cd17 ct17 oc18 kV18 dc18 pm18 cd18 ct18 oc19 kV19 dc19 pm19 cd19 ct19 oc20 kV20 dc20 pm20 cd20 ct20 oc21 kV21 dc21 pm21 cd21 ct21 oc22 kV22 dc22 pm22 cd22 ct22 oc23 kV23 dc23 pm23 cd23 ct23 : Value}
    {dt5 : Addr}
    {dn5 : Nat}
    {dk5_0 tk0 tk1 tk2 : Tok}
    (a0 : PySem.W.nsIn K mainGlobals "is_number" = some (some (.ref f0)))
    (l0 : K.lookup f0 = some ⟨oc0, od0, .func (PySem.W.fnOf "is_number" "is_number" (defArgs s_is_number) (defBody s_is_number) (defScope s_is_number) .none kV0 dc0 pm0 an0 cd0 ct0), sl0⟩)
    (c0 : PySem.W.codeIn K cd0 "is_number" = true)
    (k0 : PySem.W.keepIn K (.ref f0) = true)
    (a1 : PySem.W.nsIn K mainGlobals "is_within" = some (some (.ref f1)))
    (l1 : K.lookup f1 = some ⟨oc1, od1, .func (PySem.W.fnOf "is_within" "is_within" (defArgs s_is_within) (defBody s_is_within) (defScope s_is_within) .none kV1 dc1 pm1 an1 cd1 ct1), sl1⟩)
    (c1 : PySem.W.codeIn K cd1 "is_within" = true)
    (k1 : PySem.W.keepIn K (.ref f1) = true)
    (a2 : PySem.W.nsIn K mainGlobals "is_circle" = some (some (.ref f2)))
    (l2 : K.lookup f2 = some ⟨oc2, od2, .func (PySem.W.fnOf "is_circle" "is_circle" (defArgs s_is_circle) (defBody s_is_circle) (defScope s_is_circle) .none kV2 dc2 pm2 an2 cd2 ct2), sl2⟩)
    (c2 : PySem.W.codeIn K cd2 "is_circle" = true)
    (k2 : PySem.W.keepIn K (.ref f2) = true)
    (a3 : PySem.W.nsIn K mainGlobals "are_indices" = some (some (.ref f3)))
    (l3 : K.lookup f3 = some ⟨oc3, od3, .func (PySem.W.fnOf "are_indices" "are_indices" (defArgs s_are_indices) (defBody s_are_indices) (defScope s_are_indices) .none kV3 dc3 pm3 an3 cd3 ct3), sl3⟩)
    (c3 : PySem.W.codeIn K cd3 "are_indices" = true)
    (k3 : PySem.W.keepIn K (.ref f3) = true)
    (a4 : PySem.W.nsIn K mainGlobals "are_ascending" = some (some (.ref f4)))
    (l4 : K.lookup f4 = some ⟨oc4, od4, .func (PySem.W.fnOf "are_ascending" "are_ascending" (defArgs s_are_ascending) (defBody s_are_ascending) (defScope s_are_ascending) .none kV4 dc4 pm4 an4 cd4 ct4), sl4⟩)
    (c4 : PySem.W.codeIn K cd4 "are_ascending" = true)
    (k4 : PySem.W.keepIn K (.ref f4) = true)
    (a5 : PySem.W.nsIn K mainGlobals "check_number" = some (some (.ref f5)))
    (l5 : K.lookup f5 = some ⟨oc5, od5, .func (PySem.W.fnOf "check_number" "check_number" (defArgs s_check_number) (defBody s_check_number) (defScope s_check_number) (.ref dt5) kV5 dc5 pm5 an5 cd5 ct5), sl5⟩)
    (c5 : PySem.W.codeIn K cd5 "check_number" = true)
    (k5 : PySem.W.keepIn K (.ref f5) = true)
    (d5 : K.lookup dt5 = some ⟨dq5, dr5, .seq (List.toArray [.int (999999999999999999999999999999999999999999999999999999999999) dk5_0]) dn5, dl5⟩)
    (a6 : PySem.W.nsIn K mainGlobals "check_circle" = some (some (.ref f6)))
    (l6 : K.lookup f6 = some ⟨oc6, od6, .func (PySem.W.fnOf "check_circle" "check_circle" (defArgs s_check_circle) (defBody s_check_circle) (defScope s_check_circle) .none kV6 dc6 pm6 an6 cd6 ct6), sl6⟩)
    (c6 : PySem.W.codeIn K cd6 "check_circle" = true)
    (k6 : PySem.W.keepIn K (.ref f6) = true)
    (a7 : PySem.W.nsIn K mainGlobals "is_lot" = some (some (.ref f7)))
    (l7 : K.lookup f7 = some ⟨oc7, od7, .func (PySem.W.fnOf "is_lot" "is_lot" (defArgs s_is_lot) (defBody s_is_lot) (defScope s_is_lot) .none kV7 dc7 pm7 an7 cd7 ct7), sl7⟩)
    (c7 : PySem.W.codeIn K cd7 "is_lot" = true)
    (k7 : PySem.W.keepIn K (.ref f7) = true)
    (a8 : PySem.W.nsIn K mainGlobals "_check_laid" = some (some (.ref f8)))
    (l8 : K.lookup f8 = some ⟨oc8, od8, .func (PySem.W.fnOf "_check_laid" "_check_laid" (defArgs s_check_laid) (defBody s_check_laid) (defScope s_check_laid) .none kV8 dc8 pm8 an8 cd8 ct8), sl8⟩)
    (c8 : PySem.W.codeIn K cd8 "_check_laid" = true)
    (k8 : PySem.W.keepIn K (.ref f8) = true)
    (a9 : PySem.W.nsIn K mainGlobals "least_halves" = some (some (.ref f9)))
    (l9 : K.lookup f9 = some ⟨oc9, od9, .func (PySem.W.fnOf "least_halves" "least_halves" (defArgs s_least_halves) (defBody s_least_halves) (defScope s_least_halves) .none kV9 dc9 pm9 an9 cd9 ct9), sl9⟩)
    (c9 : PySem.W.codeIn K cd9 "least_halves" = true)
    (k9 : PySem.W.keepIn K (.ref f9) = true)
    (a10 : PySem.W.nsIn K mainGlobals "lots_of" = some (some (.ref f10)))
    (l10 : K.lookup f10 = some ⟨oc10, od10, .func (PySem.W.fnOf "lots_of" "lots_of" (defArgs s_lots_of) (defBody s_lots_of) (defScope s_lots_of) .none kV10 dc10 pm10 an10 cd10 ct10), sl10⟩)
    (c10 : PySem.W.codeIn K cd10 "lots_of" = true)
    (k10 : PySem.W.keepIn K (.ref f10) = true)
    (a11 : PySem.W.nsIn K mainGlobals "chosen_length" = some (some (.ref f11)))
    (l11 : K.lookup f11 = some ⟨oc11, od11, .func (PySem.W.fnOf "chosen_length" "chosen_length" (defArgs s_chosen_length) (defBody s_chosen_length) (defScope s_chosen_length) .none kV11 dc11 pm11 an11 cd11 ct11), sl11⟩)
    (c11 : PySem.W.codeIn K cd11 "chosen_length" = true)
    (k11 : PySem.W.keepIn K (.ref f11) = true)
    (a12 : PySem.W.nsIn K mainGlobals "length_chosen" = some (some (.ref f12)))
    (l12 : K.lookup f12 = some ⟨oc12, od12, .func (PySem.W.fnOf "length_chosen" "length_chosen" (defArgs s_length_chosen) (defBody s_length_chosen) (defScope s_length_chosen) .none kV12 dc12 pm12 an12 cd12 ct12), sl12⟩)
    (c12 : PySem.W.codeIn K cd12 "length_chosen" = true)
    (k12 : PySem.W.keepIn K (.ref f12) = true)
    (a13 : PySem.W.nsIn K mainGlobals "holders" = some (some (.ref f13)))
    (l13 : K.lookup f13 = some ⟨oc13, od13, .func (PySem.W.fnOf "holders" "holders" (defArgs s_holders) (defBody s_holders) (defScope s_holders) .none kV13 dc13 pm13 an13 cd13 ct13), sl13⟩)
    (c13 : PySem.W.codeIn K cd13 "holders" = true)
    (k13 : PySem.W.keepIn K (.ref f13) = true)
    (a14 : PySem.W.nsIn K mainGlobals "_law_dice" = some (some (.ref f14)))
    (l14 : K.lookup f14 = some ⟨oc14, od14, .func (PySem.W.fnOf "_law_dice" "_law_dice" (defArgs s_law_dice) (defBody s_law_dice) (defScope s_law_dice) .none kV14 dc14 pm14 an14 cd14 ct14), sl14⟩)
    (c14 : PySem.W.codeIn K cd14 "_law_dice" = true)
    (k14 : PySem.W.keepIn K (.ref f14) = true)
    (a15 : PySem.W.nsIn K mainGlobals "_law_roll" = some (some (.ref f15)))
    (l15 : K.lookup f15 = some ⟨oc15, od15, .func (PySem.W.fnOf "_law_roll" "_law_roll" (defArgs s_law_roll) (defBody s_law_roll) (defScope s_law_roll) .none kV15 dc15 pm15 an15 cd15 ct15), sl15⟩)
    (c15 : PySem.W.codeIn K cd15 "_law_roll" = true)
    (k15 : PySem.W.keepIn K (.ref f15) = true)
    (a16 : PySem.W.nsIn K mainGlobals "_law_pick" = some (some (.ref f16)))
    (l16 : K.lookup f16 = some ⟨oc16, od16, .func (PySem.W.fnOf "_law_pick" "_law_pick" (defArgs s_law_pick) (defBody s_law_pick) (defScope s_law_pick) .none kV16 dc16 pm16 an16 cd16 ct16), sl16⟩)
    (c16 : PySem.W.codeIn K cd16 "_law_pick" = true)
    (k16 : PySem.W.keepIn K (.ref f16) = true)
    (a17 : PySem.W.nsIn K mainGlobals "_law_mixed" = some (some (.ref f17)))
    (l17 : K.lookup f17 = some ⟨oc17, od17, .func (PySem.W.fnOf "_law_mixed" "_law_mixed" (defArgs s_law_mixed) (defBody s_law_mixed) (defScope s_law_mixed) .none kV17 dc17 pm17 an17 cd17 ct17), sl17⟩)
    (c17 : PySem.W.codeIn K cd17 "_law_mixed" = true)
    (k17 : PySem.W.keepIn K (.ref f17) = true)
    (a18 : PySem.W.nsIn K mainGlobals "_law_circle_drawn" = some (some (.ref f18)))
    (l18 : K.lookup f18 = some ⟨oc18, od18, .func (PySem.W.fnOf "_law_circle_drawn" "_law_circle_drawn" (defArgs s_law_circle_drawn) (defBody s_law_circle_drawn) (defScope s_law_circle_drawn) .none kV18 dc18 pm18 an18 cd18 ct18), sl18⟩)
    (c18 : PySem.W.codeIn K cd18 "_law_circle_drawn" = true)
    (k18 : PySem.W.keepIn K (.ref f18) = true)
    (a19 : PySem.W.nsIn K mainGlobals "_law_ro_is_half" = some (some (.ref f19)))
    (l19 : K.lookup f19 = some ⟨oc19, od19, .func (PySem.W.fnOf "_law_ro_is_half" "_law_ro_is_half" (defArgs s_law_ro_is_half) (defBody s_law_ro_is_half) (defScope s_law_ro_is_half) .none kV19 dc19 pm19 an19 cd19 ct19), sl19⟩)
    (c19 : PySem.W.codeIn K cd19 "_law_ro_is_half" = true)
    (k19 : PySem.W.keepIn K (.ref f19) = true)
    (a20 : PySem.W.nsIn K mainGlobals "_law_ro_chosen" = some (some (.ref f20)))
    (l20 : K.lookup f20 = some ⟨oc20, od20, .func (PySem.W.fnOf "_law_ro_chosen" "_law_ro_chosen" (defArgs s_law_ro_chosen) (defBody s_law_ro_chosen) (defScope s_law_ro_chosen) .none kV20 dc20 pm20 an20 cd20 ct20), sl20⟩)
    (c20 : PySem.W.codeIn K cd20 "_law_ro_chosen" = true)
    (k20 : PySem.W.keepIn K (.ref f20) = true)
    (a21 : PySem.W.nsIn K mainGlobals "_law_length_drawn" = some (some (.ref f21)))
    (l21 : K.lookup f21 = some ⟨oc21, od21, .func (PySem.W.fnOf "_law_length_drawn" "_law_length_drawn" (defArgs s_law_length_drawn) (defBody s_law_length_drawn) (defScope s_law_length_drawn) .none kV21 dc21 pm21 an21 cd21 ct21), sl21⟩)
    (c21 : PySem.W.codeIn K cd21 "_law_length_drawn" = true)
    (k21 : PySem.W.keepIn K (.ref f21) = true)
    (a22 : PySem.W.nsIn K mainGlobals "_law_right" = some (some (.ref f22)))
    (l22 : K.lookup f22 = some ⟨oc22, od22, .func (PySem.W.fnOf "_law_right" "_law_right" (defArgs s_law_right) (defBody s_law_right) (defScope s_law_right) .none kV22 dc22 pm22 an22 cd22 ct22), sl22⟩)
    (c22 : PySem.W.codeIn K cd22 "_law_right" = true)
    (k22 : PySem.W.keepIn K (.ref f22) = true)
    (a23 : PySem.W.nsIn K mainGlobals "law" = some (some (.ref f23)))
    (l23 : K.lookup f23 = some ⟨oc23, od23, .func (PySem.W.fnOf "law" "law" (defArgs s_law) (defBody s_law) (defScope s_law) .none kV23 dc23 pm23 an23 cd23 ct23), sl23⟩)
    (c23 : PySem.W.codeIn K cd23 "law" = true)
    (k23 : PySem.W.keepIn K (.ref f23) = true)
    (x0 : PySem.W.nsIn K mainGlobals "MAX_HOUSES" = some (some (.int (9) tk0)))
    (x1 : PySem.W.nsIn K mainGlobals "MAX_CIRCLE" = some (some (.int (7) tk1)))
    (x2 : PySem.W.nsIn K mainGlobals "MAX_NUMBER" = some (some (.int (999999999999999999999999999999999999999999999999999999999999) tk2)))
    (y0 : PySem.W.nsIn K mainGlobals "abs" = some none)
    (y1 : PySem.W.nsIn K mainGlobals "all" = some none)
    (y2 : PySem.W.nsIn K mainGlobals "bool" = some none)
    (y3 : PySem.W.nsIn K mainGlobals "dict" = some none)
    (y4 : PySem.W.nsIn K mainGlobals "enumerate" = some none)
    (y5 : PySem.W.nsIn K mainGlobals "int" = some none)
    (y6 : PySem.W.nsIn K mainGlobals "isinstance" = some none)
    (y7 : PySem.W.nsIn K mainGlobals "len" = some none)
    (y8 : PySem.W.nsIn K mainGlobals "list" = some none)
    (y9 : PySem.W.nsIn K mainGlobals "max" = some none)
    (y10 : PySem.W.nsIn K mainGlobals "min" = some none)
    (y11 : PySem.W.nsIn K mainGlobals "range" = some none)
    (y12 : PySem.W.nsIn K mainGlobals "set" = some none)
    (y13 : PySem.W.nsIn K mainGlobals "sorted" = some none)
    (y14 : PySem.W.nsIn K mainGlobals "tuple" = some none)
    (y15 : PySem.W.nsIn K mainGlobals "zip" = some none)
    : ∃ fd : FuncData, (∀ (s : Shared) (v : Value), BindsTo s fd ⟨[v], []⟩ [("script", v)]) ∧ ∀ base : Heap, K.In base → base.Ns mainGlobals mg → FnOk l.prog w K mg base CX0 11 fa fd ["script"] (sp_law K) := by
  have e := hfa.symm.trans (PySem.W.mg_of X G a23)
  cases e
  have F0 := fun_mk (st := s_is_number) l0 c0 k0
  have b0 := F0.binds (ps := ["value"]) fun _ _ _ _ _ _ us hl => match us, hl with | [_], _ => rfl
  have F1 := fun_mk (st := s_is_within) l1 c1 k1
  have b1 := F1.binds (ps := ["value", "least", "most"]) fun _ _ _ _ _ _ us hl => match us, hl with | [_, _, _], _ => rfl
  have F2 := fun_mk (st := s_is_circle) l2 c2 k2
  have b2 := F2.binds (ps := ["value"]) fun _ _ _ _ _ _ us hl => match us, hl with | [_], _ => rfl
  have F3 := fun_mk (st := s_are_indices) l3 c3 k3
  have b3 := F3.binds (ps := ["value", "many"]) fun _ _ _ _ _ _ us hl => match us, hl with | [_, _], _ => rfl
  have F4 := fun_mk (st := s_are_ascending) l4 c4 k4
  have b4 := F4.binds (ps := ["row"]) fun _ _ _ _ _ _ us hl => match us, hl with | [_], _ => rfl
  have F5 : FunD K "check_number" "check_number" (defArgs s_check_number) (defBody s_check_number) (defScope s_check_number) [.int (999999999999999999999999999999999999999999999999999999999999)] [] f5 _ := ⟨⟨oc5, od5, .ref dt5, kV5, dc5, pm5, an5, cd5, ct5, sl5, rfl, l5, c5, .inr ⟨by simp, dt5, _, [.int (999999999999999999999999999999999999999999999999999999999999) dk5_0], dn5, rfl, d5, rfl, (.cons ⟨_, rfl⟩ .nil)⟩, .inl rfl⟩, k5⟩
  obtain ⟨ds5, hv5, b5⟩ := F5.binds1 (ps := ["given", "least", "most"]) 3 1 (by simp) rfl fun _ _ _ _ _ _ _ us its hu hi => match us, hu, its, hi with | [_, _, _], _, [_], _ => ⟨_, rfl, rfl⟩
  cases hv5
  have dd5 := F5.binds1 (ps := ["given", "least", "most"]) 2 0 (by simp) rfl fun _ _ _ _ _ _ _ us its hu hi => match us, hu, its, hi with | [_, _], _, [_], _ => ⟨_, rfl, rfl⟩
  have F6 := fun_mk (st := s_check_circle) l6 c6 k6
  have b6 := F6.binds (ps := ["value"]) fun _ _ _ _ _ _ us hl => match us, hl with | [_], _ => rfl
  have F7 := fun_mk (st := s_is_lot) l7 c7 k7
  have b7 := F7.binds (ps := ["circle", "value"]) fun _ _ _ _ _ _ us hl => match us, hl with | [_, _], _ => rfl
  have F8 := fun_mk (st := s_check_laid) l8 c8 k8
  have b8 := F8.binds (ps := ["circle", "laid"]) fun _ _ _ _ _ _ us hl => match us, hl with | [_, _], _ => rfl
  have F9 := fun_mk (st := s_least_halves) l9 c9 k9
  have b9 := F9.binds (ps := ["circle"]) fun _ _ _ _ _ _ us hl => match us, hl with | [_], _ => rfl
  have F10 := fun_mk (st := s_lots_of) l10 c10 k10
  have b10 := F10.binds (ps := ["houses", "many"]) fun _ _ _ _ _ _ us hl => match us, hl with | [_, _], _ => rfl
  have F11 := fun_mk (st := s_chosen_length) l11 c11 k11
  have b11 := F11.binds (ps := ["circle", "laid"]) fun _ _ _ _ _ _ us hl => match us, hl with | [_, _], _ => rfl
  have F12 := fun_mk (st := s_length_chosen) l12 c12 k12
  have b12 := F12.binds (ps := ["circle", "laid", "without"]) fun _ _ _ _ _ _ us hl => match us, hl with | [_, _, _], _ => rfl
  have F13 := fun_mk (st := s_holders) l13 c13 k13
  have b13 := F13.binds (ps := ["circle", "laid", "length"]) fun _ _ _ _ _ _ us hl => match us, hl with | [_, _, _], _ => rfl
  have F14 := fun_mk (st := s_law_dice) l14 c14 k14
  have b14 := F14.binds (ps := ["script", "spot"]) fun _ _ _ _ _ _ us hl => match us, hl with | [_, _], _ => rfl
  have F15 := fun_mk (st := s_law_roll) l15 c15 k15
  have b15 := F15.binds (ps := ["dice", "most"]) fun _ _ _ _ _ _ us hl => match us, hl with | [_, _], _ => rfl
  have F16 := fun_mk (st := s_law_pick) l16 c16 k16
  have b16 := F16.binds (ps := ["dice", "items"]) fun _ _ _ _ _ _ us hl => match us, hl with | [_, _], _ => rfl
  have F17 := fun_mk (st := s_law_mixed) l17 c17 k17
  have b17 := F17.binds (ps := ["dice", "items"]) fun _ _ _ _ _ _ us hl => match us, hl with | [_, _], _ => rfl
  have F18 := fun_mk (st := s_law_circle_drawn) l18 c18 k18
  have b18 := F18.binds (ps := ["dice", "most"]) fun _ _ _ _ _ _ us hl => match us, hl with | [_, _], _ => rfl
  have F19 := fun_mk (st := s_law_ro_is_half) l19 c19 k19
  have b19 := F19.binds (ps := ["circle", "many"]) fun _ _ _ _ _ _ us hl => match us, hl with | [_, _], _ => rfl
  have F20 := fun_mk (st := s_law_ro_chosen) l20 c20 k20
  have b20 := F20.binds (ps := ["circle", "laid"]) fun _ _ _ _ _ _ us hl => match us, hl with | [_, _], _ => rfl
  have F21 := fun_mk (st := s_law_length_drawn) l21 c21 k21
  have b21 := F21.binds (ps := ["dice"]) fun _ _ _ _ _ _ us hl => match us, hl with | [_], _ => rfl
  have F22 := fun_mk (st := s_law_right) l22 c22 k22
  have b22 := F22.binds (ps := ["dice"]) fun _ _ _ _ _ _ us hl => match us, hl with | [_], _ => rfl
  have F23 := fun_mk (st := s_law) l23 c23 k23
  have b23 := F23.binds (ps := ["script"]) fun _ _ _ _ _ _ us hl => match us, hl with | [_], _ => rfl
  have T : Txt K mg ⟨f0, f1, f2, f3, f4, f5, f6, f7, f8, f9, f10, f11, f12, f13, f14, f15, f16, f17, f18, f19, f20, f21, f22, fa⟩ ⟨_, _, _, _, _, _, _, _, _, _, _, _, _, _, _, _, _, _, _, _, _, _, _, _⟩ :=
    ⟨PySem.W.mg_of X G a0,
     F0,
     b0,
     PySem.W.mg_of X G a1,
     F1,
     b1,
     PySem.W.mg_of X G a2,
     F2,
     b2,
     PySem.W.mg_of X G a3,
     F3,
     b3,
     PySem.W.mg_of X G a4,
     F4,
     b4,
     PySem.W.mg_of X G a5,
     F5,
     dd5,
     b5,
     PySem.W.mg_of X G a6,
     F6,
     b6,
     PySem.W.mg_of X G a7,
     F7,
     b7,
     PySem.W.mg_of X G a8,
     F8,
     b8,
     PySem.W.mg_of X G a9,
     F9,
     b9,
     PySem.W.mg_of X G a10,
     F10,
     b10,
     PySem.W.mg_of X G a11,
     F11,
     b11,
     PySem.W.mg_of X G a12,
     F12,
     b12,
     PySem.W.mg_of X G a13,
     F13,
     b13,
     PySem.W.mg_of X G a14,
     F14,
     b14,
     PySem.W.mg_of X G a15,
     F15,
     b15,
     PySem.W.mg_of X G a16,
     F16,
     b16,
     PySem.W.mg_of X G a17,
     F17,
     b17,
     PySem.W.mg_of X G a18,
     F18,
     b18,
     PySem.W.mg_of X G a19,
     F19,
     b19,
     PySem.W.mg_of X G a20,
     F20,
     b20,
     PySem.W.mg_of X G a21,
     F21,
     b21,
     PySem.W.mg_of X G a22,
     F22,
     b22,
     PySem.W.mg_of X G a23,
     F23,
     b23,
     ⟨_, PySem.W.mg_of X G x0⟩,
     ⟨_, PySem.W.mg_of X G x1⟩,
     ⟨_, PySem.W.mg_of X G x2⟩,
     PySem.W.mg_none_of X G y0,
     PySem.W.mg_none_of X G y1,
     PySem.W.mg_none_of X G y2,
     PySem.W.mg_none_of X G y3,
     PySem.W.mg_none_of X G y4,
     PySem.W.mg_none_of X G y5,
     PySem.W.mg_none_of X G y6,
     PySem.W.mg_none_of X G y7,
     PySem.W.mg_none_of X G y8,
     PySem.W.mg_none_of X G y9,
     PySem.W.mg_none_of X G y10,
     PySem.W.mg_none_of X G y11,
     PySem.W.mg_none_of X G y12,
     PySem.W.mg_none_of X G y13,
     PySem.W.mg_none_of X G y14,
     PySem.W.mg_none_of X G y15⟩
  exact ⟨PySem.W.fnOf "law" "law" (defArgs s_law) (defBody s_law) (defScope s_law) .none kV23 dc23 pm23 an23 cd23 ct23, fun s v => .of_eq rfl, fun base _ _ => ok_law T⟩
theorem walk {l : PySem.W.OpenLaw} {q : Program} {loose : List Str} {XP : (Str → Option Value) → Heap → Prop} {YP : World → Heap → Prop} {d : DefRec} {K : Params → PySem.W.Frag} (hn : l.most = some 63) (hdf : d.params.defaults = [])
    (hY : ∀ (w : World) (h : Heap), YP w h → (K w.params).In h)
    (F : ∀ (w : World) (mg : Str → Option Value) (fa : Addr) (h : Heap), (K w.params).In h → h.Ns mainGlobals mg → mg d.name = some (.ref fa) →
      ∃ fd : FuncData, (∀ (s : Shared) (u : Value), BindsTo s fd ⟨[u], []⟩ [("script", u)]) ∧ ∀ base : Heap, (K w.params).In base → base.Ns mainGlobals mg → FnOk l.prog w (K w.params) mg base CX0 11 fa fd ["script"] (sp_law (K w.params))) :
    PySem.W.WalkO q loose XP YP l.row.toRowW d [] (fun f vs => PySem.call f vs) :=
  L2.walk_of (n := 63) (k := 11) (x := "script") (CX := fun _ => CX0) (sp := fun w => sp_law (K w.params)) hn (by decide) hdf ⟨rfl, by decide, by decide⟩ hY F (fun _ _ a ns hl _ hS => ⟨a, ns, rfl, hS, hl, fun _ => rfl⟩) fun _ _ _ _ _ z => z
end K0
open PySem PySem.W PyProof.Rows
set_option maxRecDepth 100000 in
set_option maxHeartbeats 0 in
theorem PySem.Challenge.cw_halvesmeet_k33_whole_chosen_lengths_holds : PySem.Challenge.rw_halvesmeet_k33_whole_chosen_lengths.Holds := by
  w_on; o_law; k_head; (case hw => w_witness2)
  k_fill
  refine K0.walk (l := PySem.Challenge.rw_halvesmeet_k33_whole_chosen_lengths) rfl rfl (fun w h Y => PySem.W.kIn_of Y) ?F
  case F =>
    intro w mg fa h KX G hmg
    refine' K0.all_mk KX G hmg ?a0 ?l0 ?c0 ?k0 ?a1 ?l1 ?c1 ?k1 ?a2 ?l2 ?c2 ?k2 ?a3 ?l3 ?c3 ?k3 ?a4 ?l4 ?c4 ?k4 ?a5 ?l5 ?c5 ?k5 ?d5 ?a6 ?l6 ?c6 ?k6 ?a7 ?l7 ?c7 ?k7 ?a8 ?l8 ?c8 ?k8 ?a9 ?l9 ?c9 ?k9 ?a10 ?l10 ?c10 ?k10 ?a11 ?l11 ?c11 ?k11 ?a12 ?l12 ?c12 ?k12 ?a13 ?l13 ?c13 ?k13 ?a14 ?l14 ?c14 ?k14 ?a15 ?l15 ?c15 ?k15 ?a16 ?l16 ?c16 ?k16 ?a17 ?l17 ?c17 ?k17 ?a18 ?l18 ?c18 ?k18 ?a19 ?l19 ?c19 ?k19 ?a20 ?l20 ?c20 ?k20 ?a21 ?l21 ?c21 ?k21 ?a22 ?l22 ?c22 ?k22 ?a23 ?l23 ?c23 ?k23 ?x0 ?x1 ?x2 ?y0 ?y1 ?y2 ?y3 ?y4 ?y5 ?y6 ?y7 ?y8 ?y9 ?y10 ?y11 ?y12 ?y13 ?y14 ?y15
    (case a0 => k_is)
    (case l0 => k_is)
    (case c0 => k_is)
    (case k0 => k_is)
    (case a1 => k_is)
    (case l1 => k_is)
    (case c1 => k_is)
    (case k1 => k_is)
    (case a2 => k_is)
    (case l2 => k_is)
    (case c2 => k_is)
    (case k2 => k_is)
    (case a3 => k_is)
    (case l3 => k_is)
    (case c3 => k_is)
    (case k3 => k_is)
    (case a4 => k_is)
    (case l4 => k_is)
    (case c4 => k_is)
    (case k4 => k_is)
    (case a5 => k_is)
    (case l5 => k_is)
    (case c5 => k_is)
    (case k5 => k_is)
    (case d5 => k_is)
    (case a6 => k_is)
    (case l6 => k_is)
    (case c6 => k_is)
    (case k6 => k_is)
    (case a7 => k_is)
    (case l7 => k_is)
    (case c7 => k_is)
    (case k7 => k_is)
    (case a8 => k_is)
    (case l8 => k_is)
    (case c8 => k_is)
    (case k8 => k_is)
    (case a9 => k_is)
    (case l9 => k_is)
    (case c9 => k_is)
    (case k9 => k_is)
    (case a10 => k_is)
    (case l10 => k_is)
    (case c10 => k_is)
    (case k10 => k_is)
    (case a11 => k_is)
    (case l11 => k_is)
    (case c11 => k_is)
    (case k11 => k_is)
    (case a12 => k_is)
    (case l12 => k_is)
    (case c12 => k_is)
    (case k12 => k_is)
    (case a13 => k_is)
    (case l13 => k_is)
    (case c13 => k_is)
    (case k13 => k_is)
    (case a14 => k_is)
    (case l14 => k_is)
    (case c14 => k_is)
    (case k14 => k_is)
    (case a15 => k_is)
    (case l15 => k_is)
    (case c15 => k_is)
    (case k15 => k_is)
    (case a16 => k_is)
    (case l16 => k_is)
    (case c16 => k_is)
    (case k16 => k_is)
    (case a17 => k_is)
    (case l17 => k_is)
    (case c17 => k_is)
    (case k17 => k_is)
    (case a18 => k_is)
    (case l18 => k_is)
    (case c18 => k_is)
    (case k18 => k_is)
    (case a19 => k_is)
    (case l19 => k_is)
    (case c19 => k_is)
    (case k19 => k_is)
    (case a20 => k_is)
    (case l20 => k_is)
    (case c20 => k_is)
    (case k20 => k_is)
    (case a21 => k_is)
    (case l21 => k_is)
    (case c21 => k_is)
    (case k21 => k_is)
    (case a22 => k_is)
    (case l22 => k_is)
    (case c22 => k_is)
    (case k22 => k_is)
    (case a23 => k_is)
    (case l23 => k_is)
    (case c23 => k_is)
    (case k23 => k_is)
    (case x0 => k_is)
    (case x1 => k_is)
    (case x2 => k_is)
    (case y0 => k_is)
    (case y1 => k_is)
    (case y2 => k_is)
    (case y3 => k_is)
    (case y4 => k_is)
    (case y5 => k_is)
    (case y6 => k_is)
    (case y7 => k_is)
    (case y8 => k_is)
    (case y9 => k_is)
    (case y10 => k_is)
    (case y11 => k_is)
    (case y12 => k_is)
    (case y13 => k_is)
    (case y14 => k_is)
    (case y15 => k_is)

