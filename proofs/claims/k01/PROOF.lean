import PyProof.Rows.All
import Wide.All
import OpenK.AllK
import Wide.FinOn
import HandS.ForMost
import HandS.Evl
import HandS.IsInst
import HandS.StrMore
import HandS.Strs
import HandS.TupAny
import HandS.Zip
import HandS.Walk
import HandS.Wide
import HandS.Conv
import HandS.Property
import HandS.ClsMeth
import HandS.CallLocal
import HandS.Defaults
import HandS.FStr
import HandS.TupMul
import HandS.Exc
import HandS.ExcInit
import HandS.ExcField
import PySem.Challenge.RW_halvesmeet_k01_whole_order_of_plain_valu
import HandS.SetFor
import HandS.TryMany
import HandS.ExcOwn
import HandS.WordsExc
import HandS.RaiseMore
import HandS.TupLe
import KE.SortKeyHeap
import KE.DataEq
import HandS.SortKw
import HandS.Lambda
import HandS.EndTab
import PyProof.ReprLen
import PyProof.StrLawsRepr
import KE.KEqNest
import PyProof.NeKinds
import HandS.NoneIn
import HandS.Codes
import HandS.SortInts
set_option Elab.async false
set_option linter.all false
set_option maxRecDepth 100000
set_option maxHeartbeats 8000000
namespace K0
open PySem L2 Evl
/-- a dict of the top from texts to defs -/
def TabF (K : PySem.W.Frag) (w : World) (a : Addr) (ts : List (Str × Addr)) : Prop := ∃ es n, KDict K w a es n ∧ ∀ z, PySem.W.nsIn K a z = some ((ts.lookup z).map Value.ref)
/-- an own class has what isinstance asks -/
structure ObjC (K : PySem.W.Frag) (C : Addr) : Prop where
  ca : PySem.W.findIn K (.ref C) "__class__" = some (some (.builtin "object.__class__"))
  cg : PySem.W.specialIn K (.builtin "object.__class__") "__get__" = some (some (.builtin "getset_descriptor.__get__"))
  ct : PySem.W.takesIn K (.builtin "object.__class__") = some true
  co : PySem.W.mroIn K C (.type "object") = some true
def bmVE : List Value := [.type "ValueError", .type "Exception", .type "BaseException", .type "object"]
/-- an exception class over ValueError, without an __init__ of its own -/
structure ExcF (K : PySem.W.Frag) (mg : Str → Option Value) (x : Str) (C : Addr) : Prop where
  g : mg x = some (.ref C)
  q : PySem.W.excIn K C bmVE "ValueError.__new__" = true
  k : PySem.W.keepIn K (.ref C) = true
  b : PySem.W.subIn K (.ref C) (.type "BaseException") = some true
  t : PySem.W.typeIn K (.ref C) = some (.type "type")
/-- an exception class over ValueError with an __init__ of its own alone -/
def oexIn (K : PySem.W.Frag) (C : Addr) : Bool := match K.lookup C with
  | some ⟨.type "type", _, .cls cd, sl⟩ => (match cd.mro, sl.toList with
    | .ref C' :: bm, [_, _, _, _, some (.builtin n), _] => C' == C && n == "ValueError.__new__" && !cd.hasDel && cd.hasDict && PySem.HandSPX.refsVE bm
    | _, _ => false)
  | _ => false
theorem oexC {K : PySem.W.Frag} {C : Addr} (q : oexIn K C = true) (sa : PySem.W.findIn K (.ref C) "__setattr__" = some (some (.builtin "object.__setattr__"))) (exC : PySem.W.subIn K (.ref C) (.type "BaseException") = some true)
    (tyC : PySem.W.typeIn K (.ref C) = some (.type "type")) (kC : PySem.W.keepIn K (.ref C) = true) : OexC K C := by
  refine ⟨?_, sa, exC, tyC, kC⟩
  unfold oexIn at q
  split at q
  · rename_i dd cd sl ho
    split at q
    · rename_i C' bm k0 k1 k2 k3 n k5 hm hs
      simp only [Bool.and_eq_true, beq_iff_eq, Bool.not_eq_true'] at q
      obtain ⟨⟨⟨⟨rfl, rfl⟩, hdel⟩, hdi⟩, ht⟩ := q
      obtain ⟨nm, bs, mro, ns, qn, hd, sn, sub, ab, col, del⟩ := cd
      dsimp only at hm hdel hdi
      subst hm hdel hdi
      have hsl : sl = #[k0, k1, k2, k3, some (.builtin "ValueError.__new__"), k5] := by
        obtain ⟨l⟩ := sl
        simp only at hs
        rw [hs]
      subst hsl
      exact ⟨nm, qn, ns, bs, bm, sn, sub, ab, col, dd, k0, k1, k2, k3, k5, ho, ht⟩
    · cases q
  · cases q
structure ExI (K : PySem.W.Frag) (mg : Str → Option Value) (x : Str) (C fI : Addr) : Prop where
  g : mg x = some (.ref C)
  o : OexC K C
  x : XfC K C
  i : PySem.W.findIn K (.ref C) "__init__" = some (some (.ref fI))
  t : PySem.W.typeIn K (.ref fI) = some (.type "function")
def top (i : Nat) : Stmt := PySem.Challenge.pw_halvesmeet_k01_whole_order_of_plain_valu.main.body.getD i (.Pass ⟨0, 0, 0, 0⟩)
abbrev s_is_number : Stmt := top 8
abbrev N_is_number : List Str := ["value"]
theorem sc_is_number : FnScope N_is_number ["value"] (defScope s_is_number) := ⟨rfl, rfl, rfl, by decide +kernel, rfl, by decide +kernel, by decide +kernel⟩
abbrev s_is_made_of : Stmt := top 9
abbrev N_is_made_of : List Str := ["value", "signs", "most"]
theorem sc_is_made_of : FnScope N_is_made_of ["value", "signs", "most"] (defScope s_is_made_of) := ⟨rfl, rfl, rfl, by decide +kernel, rfl, by decide +kernel, by decide +kernel⟩
abbrev s_is_plain : Stmt := top 10
abbrev N_is_plain : List Str := ["value"]
theorem sc_is_plain : FnScope N_is_plain ["value"] (defScope s_is_plain) := ⟨rfl, rfl, rfl, by decide +kernel, rfl, by decide +kernel, by decide +kernel⟩
abbrev s_is_plain_within : Stmt := top 11
abbrev N_is_plain_within : List Str := ["value", "most", "level", "nest", "inner", "part", "row", "member"]
theorem sc_is_plain_within : FnScope N_is_plain_within ["value", "most"] (defScope s_is_plain_within) := ⟨rfl, rfl, rfl, by decide +kernel, rfl, by decide +kernel, by decide +kernel⟩
abbrev s_is_single : Stmt := top 12
abbrev N_is_single : List Str := ["value"]
theorem sc_is_single : FnScope N_is_single ["value"] (defScope s_is_single) := ⟨rfl, rfl, rfl, by decide +kernel, rfl, by decide +kernel, by decide +kernel⟩
abbrev s_is_less : Stmt := top 13
abbrev N_is_less : List Str := ["one", "other"]
theorem sc_is_less : FnScope N_is_less ["one", "other"] (defScope s_is_less) := ⟨rfl, rfl, rfl, by decide +kernel, rfl, by decide +kernel, by decide +kernel⟩
abbrev s_ordered : Stmt := top 14
abbrev N_ordered : List Str := ["values", "found", "value"]
theorem sc_ordered : FnScope N_ordered ["values"] (defScope s_ordered) := ⟨rfl, rfl, rfl, by decide +kernel, rfl, by decide +kernel, by decide +kernel⟩
abbrev s_check_plain : Stmt := top 15
abbrev N_check_plain : List Str := ["value"]
theorem sc_check_plain : FnScope N_check_plain ["value"] (defScope s_check_plain) := ⟨rfl, rfl, rfl, by decide +kernel, rfl, by decide +kernel, by decide +kernel⟩
abbrev s_sort_key : Stmt := top 16
abbrev N_sort_key : List Str := ["value", "member"]
theorem sc_sort_key : FnScope N_sort_key ["value"] (defScope s_sort_key) := ⟨rfl, rfl, rfl, by decide +kernel, rfl, by decide +kernel, by decide +kernel⟩
abbrev s_law_dice : Stmt := top 18
abbrev N_law_dice : List Str := ["script", "spot", "cell", "left"]
theorem sc_law_dice : FnScope N_law_dice ["script", "spot"] (defScope s_law_dice) := ⟨rfl, rfl, rfl, by decide +kernel, rfl, by decide +kernel, by decide +kernel⟩
abbrev s_law_roll : Stmt := top 19
abbrev N_law_roll : List Str := ["dice", "most", "found", "one", "two"]
theorem sc_law_roll : FnScope N_law_roll ["dice", "most"] (defScope s_law_roll) := ⟨rfl, rfl, rfl, by decide +kernel, rfl, by decide +kernel, by decide +kernel⟩
abbrev s_law_pick : Stmt := top 20
abbrev N_law_pick : List Str := ["dice", "items"]
theorem sc_law_pick : FnScope N_law_pick ["dice", "items"] (defScope s_law_pick) := ⟨rfl, rfl, rfl, by decide +kernel, rfl, by decide +kernel, by decide +kernel⟩
abbrev s_law_mixed : Stmt := top 21
abbrev N_law_mixed : List Str := ["dice", "items", "left", "found"]
theorem sc_law_mixed : FnScope N_law_mixed ["dice", "items"] (defScope s_law_mixed) := ⟨rfl, rfl, rfl, by decide +kernel, rfl, by decide +kernel, by decide +kernel⟩
abbrev s_law_va_plain : Stmt := top 22
abbrev N_law_va_plain : List Str := ["dice", "deep", "turn"]
theorem sc_law_va_plain : FnScope N_law_va_plain ["dice", "deep"] (defScope s_law_va_plain) := ⟨rfl, rfl, rfl, by decide +kernel, rfl, by decide +kernel, by decide +kernel⟩
abbrev s_law_va_near : Stmt := top 23
abbrev N_law_va_near : List Str := ["dice", "value", "at", "some"]
theorem sc_law_va_near : FnScope N_law_va_near ["dice", "value"] (defScope s_law_va_near) := ⟨rfl, rfl, rfl, by decide +kernel, rfl, by decide +kernel, by decide +kernel⟩
abbrev s_law_va_rank : Stmt := top 24
abbrev N_law_va_rank : List Str := ["value", "one"]
theorem sc_law_va_rank : FnScope N_law_va_rank ["value"] (defScope s_law_va_rank) := ⟨rfl, rfl, rfl, by decide +kernel, rfl, by decide +kernel, by decide +kernel⟩
abbrev s_law_ordered : Stmt := top 25
abbrev N_law_ordered : List Str := ["values", "found", "value"]
theorem sc_law_ordered : FnScope N_law_ordered ["values"] (defScope s_law_ordered) := ⟨rfl, rfl, rfl, by decide +kernel, rfl, by decide +kernel, by decide +kernel⟩
abbrev s_law_right : Stmt := top 26
abbrev N_law_right : List Str := ["dice", "some", "turn", "value", "one", "other", "due", "told"]
theorem sc_law_right : FnScope N_law_right ["dice"] (defScope s_law_right) := ⟨rfl, rfl, rfl, by decide +kernel, rfl, by decide +kernel, by decide +kernel⟩
abbrev s_law : Stmt := top 27
abbrev N_law : List Str := ["script", "spot", "dice", "told"]
theorem sc_law : FnScope N_law ["script"] (defScope s_law) := ⟨rfl, rfl, rfl, by decide +kernel, rfl, by decide +kernel, by decide +kernel⟩
structure Ad where
  is_number : Addr
  is_made_of : Addr
  is_plain : Addr
  is_plain_within : Addr
  is_single : Addr
  is_less : Addr
  ordered : Addr
  check_plain : Addr
  sort_key : Addr
  law_dice : Addr
  law_roll : Addr
  law_pick : Addr
  law_mixed : Addr
  law_va_plain : Addr
  law_va_near : Addr
  law_va_rank : Addr
  law_ordered : Addr
  law_right : Addr
  law : Addr
structure Fd where
  is_number : FuncData
  is_made_of : FuncData
  is_plain : FuncData
  is_plain_within : FuncData
  is_single : FuncData
  is_less : FuncData
  ordered : FuncData
  check_plain : FuncData
  sort_key : FuncData
  law_dice : FuncData
  law_roll : FuncData
  law_pick : FuncData
  law_mixed : FuncData
  law_va_plain : FuncData
  law_va_near : FuncData
  law_va_rank : FuncData
  law_ordered : FuncData
  law_right : FuncData
  law : FuncData
/-- what the top has written -/
structure Txt (K : PySem.W.Frag) (mg : Str → Option Value) (A : Ad) (D : Fd) : Prop where
  g_is_number : mg "is_number" = some (.ref A.is_number)
  F_is_number : Fun K "is_number" "is_number" s_is_number A.is_number D.is_number
  b_is_number : Binds K D.is_number ["value"] []
  g_is_made_of : mg "is_made_of" = some (.ref A.is_made_of)
  F_is_made_of : Fun K "is_made_of" "is_made_of" s_is_made_of A.is_made_of D.is_made_of
  b_is_made_of : Binds K D.is_made_of ["value", "signs", "most"] []
  g_is_plain : mg "is_plain" = some (.ref A.is_plain)
  F_is_plain : Fun K "is_plain" "is_plain" s_is_plain A.is_plain D.is_plain
  b_is_plain : Binds K D.is_plain ["value"] []
  g_is_plain_within : mg "is_plain_within" = some (.ref A.is_plain_within)
  F_is_plain_within : Fun K "is_plain_within" "is_plain_within" s_is_plain_within A.is_plain_within D.is_plain_within
  b_is_plain_within : Binds K D.is_plain_within ["value", "most"] []
  g_is_single : mg "_is_single" = some (.ref A.is_single)
  F_is_single : Fun K "_is_single" "_is_single" s_is_single A.is_single D.is_single
  b_is_single : Binds K D.is_single ["value"] []
  g_is_less : mg "is_less" = some (.ref A.is_less)
  F_is_less : Fun K "is_less" "is_less" s_is_less A.is_less D.is_less
  b_is_less : Binds K D.is_less ["one", "other"] []
  g_ordered : mg "ordered" = some (.ref A.ordered)
  F_ordered : Fun K "ordered" "ordered" s_ordered A.ordered D.ordered
  b_ordered : Binds K D.ordered ["values"] []
  g_check_plain : mg "_check_plain" = some (.ref A.check_plain)
  F_check_plain : Fun K "_check_plain" "_check_plain" s_check_plain A.check_plain D.check_plain
  b_check_plain : Binds K D.check_plain ["value"] []
  g_sort_key : mg "_sort_key" = some (.ref A.sort_key)
  F_sort_key : Fun K "_sort_key" "_sort_key" s_sort_key A.sort_key D.sort_key
  b_sort_key : Binds K D.sort_key ["value"] []
  g_law_dice : mg "_law_dice" = some (.ref A.law_dice)
  F_law_dice : Fun K "_law_dice" "_law_dice" s_law_dice A.law_dice D.law_dice
  b_law_dice : Binds K D.law_dice ["script", "spot"] []
  g_law_roll : mg "_law_roll" = some (.ref A.law_roll)
  F_law_roll : Fun K "_law_roll" "_law_roll" s_law_roll A.law_roll D.law_roll
  b_law_roll : Binds K D.law_roll ["dice", "most"] []
  g_law_pick : mg "_law_pick" = some (.ref A.law_pick)
  F_law_pick : Fun K "_law_pick" "_law_pick" s_law_pick A.law_pick D.law_pick
  b_law_pick : Binds K D.law_pick ["dice", "items"] []
  g_law_mixed : mg "_law_mixed" = some (.ref A.law_mixed)
  F_law_mixed : Fun K "_law_mixed" "_law_mixed" s_law_mixed A.law_mixed D.law_mixed
  b_law_mixed : Binds K D.law_mixed ["dice", "items"] []
  g_law_va_plain : mg "_law_va_plain" = some (.ref A.law_va_plain)
  F_law_va_plain : Fun K "_law_va_plain" "_law_va_plain" s_law_va_plain A.law_va_plain D.law_va_plain
  b_law_va_plain : Binds K D.law_va_plain ["dice", "deep"] []
  g_law_va_near : mg "_law_va_near" = some (.ref A.law_va_near)
  F_law_va_near : Fun K "_law_va_near" "_law_va_near" s_law_va_near A.law_va_near D.law_va_near
  b_law_va_near : Binds K D.law_va_near ["dice", "value"] []
  g_law_va_rank : mg "_law_va_rank" = some (.ref A.law_va_rank)
  F_law_va_rank : Fun K "_law_va_rank" "_law_va_rank" s_law_va_rank A.law_va_rank D.law_va_rank
  b_law_va_rank : Binds K D.law_va_rank ["value"] []
  g_law_ordered : mg "_law_ordered" = some (.ref A.law_ordered)
  F_law_ordered : Fun K "_law_ordered" "_law_ordered" s_law_ordered A.law_ordered D.law_ordered
  b_law_ordered : Binds K D.law_ordered ["values"] []
  g_law_right : mg "_law_right" = some (.ref A.law_right)
  F_law_right : Fun K "_law_right" "_law_right" s_law_right A.law_right D.law_right
  b_law_right : Binds K D.law_right ["dice"] []
  g_law : mg "law" = some (.ref A.law)
  F_law : Fun K "law" "law" s_law A.law D.law
  b_law : Binds K D.law ["script"] []
  c_MAX_NEST : ∃ t, mg "MAX_NEST" = some (.int (12) t)
  c_MAX_STRING : ∃ t, mg "MAX_STRING" = some (.int (3000) t)
  c_MAX_NUMBER : ∃ t, mg "MAX_NUMBER" = some (.int (999999999999999999999999999999999999999999999999999999999999) t)
  c_SIGNS : ∃ t, mg "SIGNS" = some (.str "abcdefghijklmnopqrstuvwxyz0123456789 " t)
  b_abs : mg "abs" = none
  b_bool : mg "bool" = none
  b_int : mg "int" = none
  b_isinstance : mg "isinstance" = none
  b_len : mg "len" = none
  b_list : mg "list" = none
  b_max : mg "max" = none
  b_min : mg "min" = none
  b_range : mg "range" = none
  b_repr : mg "repr" = none
  b_sorted : mg "sorted" = none
  b_str : mg "str" = none
  b_tuple : mg "tuple" = none
  b_zip : mg "zip" = none
/-! ### values as data -/
inductive D where
  | non | bl (b : Bool) | int (i : Int) | str (s : Str) | tup (ds : List D) | oth
mutual
inductive Rp (K : PySem.W.Frag) (H : Hp) : V → D → Prop where
  | non : Rp K H .non .non
  | bl (b : Bool) : Rp K H (.bl b) (.bl b)
  | int (i : Int) : Rp K H (.int i) (.int i)
  | str (s : Str) : Rp K H (.str s) (.str s)
  | tup {a : Addr} {xs : List V} {ds : List D} : SqT K H a xs → RpAll K H xs ds → Rp K H (.ref a) (.tup ds)
  | lst {a : Addr} {xs : List V} : H a = some (.lst xs) → Rp K H (.ref a) .oth
  | dct {a : Addr} {kvs : List (Key × V)} : H a = some (.dK kvs) → Rp K H (.ref a) .oth
inductive RpAll (K : PySem.W.Frag) (H : Hp) : List V → List D → Prop where
  | nil : RpAll K H [] []
  | cons {v : V} {vs : List V} {d : D} {ds : List D} : Rp K H v d → RpAll K H vs ds → RpAll K H (v :: vs) (d :: ds)
end
section
variable {K : PySem.W.Frag} {H H' : Hp}
mutual
theorem Rp.ex {v : V} {d : D} (e : Ex H H') : Rp K H v d → Rp K H' v d
  | .non => .non
  | .bl b => .bl b
  | .int i => .int i
  | .str s => .str s
  | .tup h r => .tup (ex_t e h) (RpAll.ex e r)
  | .lst h => .lst (e _ _ h)
  | .dct h => .dct (e _ _ h)
theorem RpAll.ex {vs : List V} {ds : List D} (e : Ex H H') : RpAll K H vs ds → RpAll K H' vs ds
  | .nil => .nil
  | .cons h r => .cons (Rp.ex e h) (RpAll.ex e r)
end
theorem RpAll.len {vs : List V} {ds : List D} : RpAll K H vs ds → vs.length = ds.length
  | .nil => rfl
  | .cons _ r => by rw [List.length_cons, List.length_cons, RpAll.len r]
theorem RpAll.inv {v : V} {vs : List V} {ds : List D} (h : RpAll K H (v :: vs) ds) : ∃ d es, ds = d :: es ∧ Rp K H v d ∧ RpAll K H vs es := by
  cases h with
  | cons h r => exact ⟨_, _, rfl, h, r⟩
theorem RpAll.get : ∀ (vs : List V) (ds : List D) (i : Nat) (v : V), RpAll K H vs ds → vs[i]? = some v → ∃ d, ds[i]? = some d ∧ Rp K H v d
  | [], _, _, _, _, h => by simp at h
  | u :: us, ds, 0, v, h, e => by
    have e' := Option.some.inj e
    subst e'
    obtain ⟨d, es, rfl, h1, _⟩ := h.inv
    exact ⟨d, rfl, h1⟩
  | u :: us, ds, i + 1, v, h, e => by
    obtain ⟨d, es, rfl, _, h2⟩ := h.inv
    obtain ⟨c, h3, h4⟩ := RpAll.get us es i v h2 (by simpa using e)
    exact ⟨c, by simpa using h3, h4⟩
theorem RpAll.app {vs ws : List V} {ds es : List D} : RpAll K H vs ds → RpAll K H ws es → RpAll K H (vs ++ ws) (ds ++ es)
  | .nil, s => s
  | .cons h r, s => .cons h (RpAll.app r s)
/-! ### kinds -/
def D.isInt : D → Bool
  | .int _ => true | .bl _ => true | _ => false
def D.isBl : D → Bool
  | .bl _ => true | _ => false
def D.isStr : D → Bool
  | .str _ => true | _ => false
def D.isTup : D → Bool
  | .tup _ => true | _ => false
theorem ty_tup {a : Addr} {xs : List V} (h : SqT K H a xs) : TyX K H (.ref a) (.type "tuple") := by
  rcases h with (h | ⟨o, h⟩) | ⟨o, its, n, lk, c, _⟩
  · exact .base (.tup h)
  · exact .fTuple h
  · exact .kTuple lk c
theorem rc_isi {n : String} {f : D → Bool} (hn : kitB "NoneType" n = some (f .non)) (hb : ∀ b, kitB "bool" n = some (f (.bl b))) (hi : ∀ i, kitB "int" n = some (f (.int i))) (hs : ∀ s, kitB "str" n = some (f (.str s)))
    (ht : ∀ ds, kitB "tuple" n = some (f (.tup ds))) (hl : kitB "list" n = some (f .oth)) (hd : kitB "dict" n = some (f .oth)) {x : V} {d : D} (h : Rp K H x d) : RC (rIsi K) [x, .ty n] H (.bl (f d)) := fun H1 e Q q => by
  have h1 := Rp.ex e h
  cases h1 with
  | non => exact ⟨_, _, _, _, _, rfl, .ty _, .base .non, kit_ty hn, q H1 (Ex.refl _)⟩
  | bl b => exact ⟨_, _, _, _, _, rfl, .ty _, .base (.bl _), kit_ty (hb b), q H1 (Ex.refl _)⟩
  | int i => exact ⟨_, _, _, _, _, rfl, .ty _, .base (.int _), kit_ty (hi i), q H1 (Ex.refl _)⟩
  | str s => exact ⟨_, _, _, _, _, rfl, .ty _, .base (.str _), kit_ty (hs s), q H1 (Ex.refl _)⟩
  | tup h2 _ => exact ⟨_, _, _, _, _, rfl, .ty _, ty_tup h2, kit_ty (ht _), q H1 (Ex.refl _)⟩
  | lst h2 => exact ⟨_, _, _, _, _, rfl, .ty _, .base (.lst h2), kit_ty hl, q H1 (Ex.refl _)⟩
  | dct h2 => exact ⟨_, _, _, _, _, rfl, .ty _, .base (.dK h2), kit_ty hd, q H1 (Ex.refl _)⟩
theorem rc_int {x : V} {d : D} (h : Rp K H x d) : RC (rIsi K) [x, .ty "int"] H (.bl d.isInt) :=
  rc_isi (f := D.isInt) (show kitB "NoneType" "int" = some false by decide +kernel) (fun _ => show kitB "bool" "int" = some true by decide +kernel) (fun _ => show kitB "int" "int" = some true by decide +kernel) (fun _ => show kitB "str" "int" = some false by decide +kernel)
    (fun _ => show kitB "tuple" "int" = some false by decide +kernel) (show kitB "list" "int" = some false by decide +kernel) (show kitB "dict" "int" = some false by decide +kernel) h
theorem rc_bool {x : V} {d : D} (h : Rp K H x d) : RC (rIsi K) [x, .ty "bool"] H (.bl d.isBl) :=
  rc_isi (f := D.isBl) (show kitB "NoneType" "bool" = some false by decide +kernel) (fun _ => show kitB "bool" "bool" = some true by decide +kernel) (fun _ => show kitB "int" "bool" = some false by decide +kernel) (fun _ => show kitB "str" "bool" = some false by decide +kernel)
    (fun _ => show kitB "tuple" "bool" = some false by decide +kernel) (show kitB "list" "bool" = some false by decide +kernel) (show kitB "dict" "bool" = some false by decide +kernel) h
theorem rc_str {x : V} {d : D} (h : Rp K H x d) : RC (rIsi K) [x, .ty "str"] H (.bl d.isStr) :=
  rc_isi (f := D.isStr) (show kitB "NoneType" "str" = some false by decide +kernel) (fun _ => show kitB "bool" "str" = some false by decide +kernel) (fun _ => show kitB "int" "str" = some false by decide +kernel) (fun _ => show kitB "str" "str" = some true by decide +kernel)
    (fun _ => show kitB "tuple" "str" = some false by decide +kernel) (show kitB "list" "str" = some false by decide +kernel) (show kitB "dict" "str" = some false by decide +kernel) h
theorem rc_tup {x : V} {d : D} (h : Rp K H x d) : RC (rIsi K) [x, .ty "tuple"] H (.bl d.isTup) :=
  rc_isi (f := D.isTup) (show kitB "NoneType" "tuple" = some false by decide +kernel) (fun _ => show kitB "bool" "tuple" = some false by decide +kernel) (fun _ => show kitB "int" "tuple" = some false by decide +kernel) (fun _ => show kitB "str" "tuple" = some false by decide +kernel)
    (fun _ => show kitB "tuple" "tuple" = some true by decide +kernel) (show kitB "list" "tuple" = some false by decide +kernel) (show kitB "dict" "tuple" = some false by decide +kernel) h
theorem Rp.isI {x : V} {d : D} (h : Rp K H x d) (h1 : d.isInt = true) (h2 : d.isBl = false) : ∃ i, d = .int i ∧ x = .int i := by
  cases h <;> first | exact ⟨_, rfl, rfl⟩ | (simp [D.isInt] at h1; done) | (simp [D.isBl] at h2; done)
theorem Rp.isS {x : V} {d : D} (h : Rp K H x d) (h1 : d.isStr = true) : ∃ s, d = .str s ∧ x = .str s := by
  cases h <;> first | exact ⟨_, rfl, rfl⟩ | cases h1
theorem Rp.isT {x : V} {d : D} (h : Rp K H x d) (h1 : d.isTup = true) : ∃ a xs ds, d = .tup ds ∧ x = .ref a ∧ SqT K H a xs ∧ RpAll K H xs ds := by
  cases h <;> first | exact ⟨_, _, _, rfl, rfl, by assumption, by assumption⟩ | cases h1
end
/-! ### the promises of pure judges -/
def sp1 (f : D → Bool) (K : PySem.W.Frag) : Sp := fun vs H Q _ => ∃ x d, vs = [x] ∧ Rp K H x d ∧ RetV (.bl (f d)) H Q
theorem sp1_len {f : D → Bool} {K : PySem.W.Frag} {vs : List V} {H : Hp} {Q : VK} {E : XK} (h : sp1 f K vs H Q E) : vs.length = 1 := by
  obtain ⟨x, d, rfl, _⟩ := h
  rfl
theorem sv1 {f : D → Bool} {K : PySem.W.Frag} {H : Hp} {x : V} {d : D} (h : Rp K H x d) : SpV (sp1 f K) [x] H (.bl (f d)) := fun H1 e Q q E => ⟨x, d, rfl, h.ex e, q⟩
abbrev big : Int := 10 ^ 60 - 1
def numB (i : Int) : Bool := decide (-big ≤ i) && decide (i ≤ big)
def D.num : D → Bool
  | .int i => numB i | _ => false
section
variable {P : Program} {w : World} {K : PySem.W.Frag} {mg : Str → Option Value} {base : Heap} {A : Ad} {D : Fd}
abbrev sp_is_number (K : PySem.W.Frag) : Sp := sp1 K0.D.num K
theorem len_is_number {vs : List V} {H : Hp} {Q : VK} {E : XK} (h : sp_is_number K vs H Q E) : vs.length = 1 := sp1_len h
/-- a chain a <= b <= c of ints -/
theorem ev_chain_le {σ : L2.St} {H : Hp} {ta tb tc : TE} {i j k : Int} (ha : Ev ta σ H (.int i)) (hb : Ev tb σ H (.int j)) (hc : Ev tc σ H (.int k)) :
    Ev (tChain (rI0 fun i j => .bl (decide (i ≤ j))) (rI0 fun i j => .bl (decide (i ≤ j))) ta tb tc) σ H (.bl (decide (i ≤ j) && decide (j ≤ k))) := fun H1 e Q q =>
  ha H1 e _ fun H2 e2 => hb H2 (e.trans e2) _ fun H3 e3 => ⟨i, j, rfl, rfl, _, rfl, by
    by_cases c : i ≤ j
    · rw [if_pos (decide_eq_true c)]
      refine hc H3 ((e.trans e2).trans e3) _ fun H4 e4 => ⟨j, k, rfl, rfl, ?_⟩
      have := q H4 ((e2.trans e3).trans e4)
      rw [decide_eq_true c, Bool.true_and] at this
      exact this
    · rw [if_neg (by rw [decide_eq_false c]; decide)]
      have := q H3 (e2.trans e3)
      rw [decide_eq_false c, Bool.false_and] at this
      exact this⟩
theorem ok_is_number (T : Txt K mg A D) : FnOk P w K mg base CX0 1 A.is_number D.is_number ["value"] (sp_is_number K) := by
  obtain ⟨t_MAX_NUMBER, c_MAX_NUMBER⟩ := T.c_MAX_NUMBER
  refine T.F_is_number.ok sc_is_number (fun vs H Q E h => len_is_number h) (fun cdv A0 outer s H vs Q E hr h => ?_)
  refine ⟨_, (pss_cons (ps_if (PW.pt (pw_or (pt_not (pt_val (pe_callB call_isi (by rfl) T.b_isinstance (by decide +kernel) (pa_cons (pv 0) (pa_cons (pe_bltn (v := .ty "int") (u := .type "int") (by rfl) T.b_int (by decide +kernel) rfl) pa_nil))))) (pw_or1 (pt_val (pe_callB call_isi (by rfl) T.b_isinstance (by decide +kernel) (pa_cons (pv 0) (pa_cons (pe_bltn (v := .ty "bool") (u := .type "bool") (by rfl) T.b_bool (by decide +kernel) rfl) pa_nil))))))) (pss_one (ps_ret pe_bl)) pss_nil)
  (pss_one (ps_ret (pe_chain op_le op_le (pe_un un_neg (pe_glob (v := .int (999999999999999999999999999999999999999999999999999999999999)) rfl c_MAX_NUMBER ⟨_, rfl⟩)) (pv 0) (pe_glob (v := .int (999999999999999999999999999999999999999999999999999999999999)) rfl c_MAX_NUMBER ⟨_, rfl⟩))))), ?_⟩
  obtain ⟨x, d, rfl, hx, k⟩ := h
  refine q_when (et_or (et_not (et_B (ev_cb (ea_cons (ev_var rfl) (ea_cons ev_c ea_nil)) (rc_int hx)))) fun _ => et_B (ev_cb (ea_cons (ev_var rfl) (ea_cons ev_c ea_nil)) (rc_bool hx))) (fun hb H1 e1 => ?_) (fun hb H1 e1 => ?_)
  · refine s_ret ev_c fun H2 e2 => ?_
    have hf : K0.D.num d = false := by cases d <;> first | rfl | simp [K0.D.isInt, K0.D.isBl] at hb
    have := k H2 (e1.trans e2)
    rw [hf] at this
    exact this
  · have h1 : K0.D.isInt d = true := by cases z : K0.D.isInt d <;> rw [z] at hb <;> simp at hb <;> rfl
    have h2 : K0.D.isBl d = false := by cases z : K0.D.isBl d <;> rw [z] at hb <;> simp at hb <;> rfl
    obtain ⟨i, rfl, rfl⟩ := hx.isI h1 h2
    refine s_ret (ev_chain_le (i := -big) (j := i) (k := big) (ev_un ev_c ru_neg) (ev_var rfl) ev_c) fun H2 e2 => ?_
    exact k H2 (e1.trans e2)
end
end K0

namespace K0
open PySem L2 Evl
open PySem.Builtin.Str (strSub)
/-! ### texts -/
theorem takeWhile_le {α : Type} (p : α → Bool) : ∀ l : List α, (l.takeWhile p).length ≤ l.length
  | [] => Nat.le_refl _
  | a :: l => by
    rw [List.takeWhile_cons]
    split
    · simp only [List.length_cons]
      have := takeWhile_le p l
      omega
    · simp
theorem takeWhile_all {α : Type} (p : α → Bool) : ∀ l : List α, (l.takeWhile p).length = l.length → l.all p = true
  | [], _ => rfl
  | a :: l, h => by
    rw [List.takeWhile_cons] at h
    split at h
    · rename_i ha
      simp only [List.length_cons] at h
      rw [List.all_cons, ha, takeWhile_all p l (by omega)]
      rfl
    · simp at h
theorem all_takeWhile {α : Type} (p : α → Bool) : ∀ l : List α, l.all p = true → l.takeWhile p = l
  | [], _ => rfl
  | a :: l, h => by
    rw [List.all_cons, Bool.and_eq_true] at h
    rw [List.takeWhile_cons, if_pos h.1, all_takeWhile p l h.2]
theorem drop_takeWhile {α : Type} (p : α → Bool) : ∀ l : List α, (l.drop (l.takeWhile p).length).all p = true → l.all p = true
  | [], _ => rfl
  | a :: l, h => by
    rw [List.takeWhile_cons] at h
    split at h
    · rename_i ha
      rw [List.all_cons, ha, drop_takeWhile p l (by simpa using h)]
      rfl
    · simpa using h
theorem str_nil {x : Str} : x = ("" : Str) ↔ x.cps.toList.length = 0 := by
  constructor
  · intro h
    subst h
    decide +kernel
  · intro h
    obtain ⟨⟨l⟩⟩ := x
    cases l with
    | nil => decide +kernel
    | cons a l => simp at h
theorem strip_all (x y : Str) : decide (V.str (Txt.stripChars x y) = V.str "") = x.cps.toList.all y.cps.contains := by
  have key : (Txt.stripChars x y = ("" : Str)) ↔ x.cps.toList.all y.cps.contains = true := by
    unfold Txt.stripChars
    rw [PySem.W.stripBy_eq]
    show strSub x (stripLo y.cps.contains true x) (stripHi y.cps.contains true x (stripLo y.cps.contains true x)) = ("" : Str) ↔ _
    rw [str_nil]
    have e1 : stripLo y.cps.contains true x = (x.cps.toList.takeWhile y.cps.contains).length := rfl
    have e2 : stripHi y.cps.contains true x (stripLo y.cps.contains true x) = x.cps.toList.length - ((x.cps.toList.drop (stripLo y.cps.contains true x)).reverse.takeWhile y.cps.contains).length := by
      show x.cps.size - _ = _
      rw [Array.length_toList] <;> rfl
    have e3 : (strSub x (stripLo y.cps.contains true x) (stripHi y.cps.contains true x (stripLo y.cps.contains true x))).cps.toList.length = min (stripHi y.cps.contains true x (stripLo y.cps.contains true x)) x.cps.toList.length - stripLo y.cps.contains true x := by
      show (x.cps.extract _ _).toList.length = _
      rw [Array.length_toList, Array.size_extract, Array.length_toList]
    rw [e3, e2, e1]
    generalize x.cps.toList = l
    generalize y.cps.contains = p
    have h1 := takeWhile_le p l
    have h2 := takeWhile_le p (l.drop (l.takeWhile p).length).reverse
    rw [List.length_reverse, List.length_drop] at h2
    constructor
    · intro h
      have h3 : ((l.drop (l.takeWhile p).length).reverse.takeWhile p).length = (l.drop (l.takeWhile p).length).reverse.length := by
        rw [List.length_reverse, List.length_drop]
        omega
      have h4 := takeWhile_all p _ h3
      rw [List.all_reverse] at h4
      exact drop_takeWhile p l h4
    · intro h
      have h3 := all_takeWhile p l h
      rw [h3, List.drop_length]
      simp
  by_cases c : x.cps.toList.all y.cps.contains = true
  · rw [c]
    exact decide_eq_true (congrArg V.str (key.mpr c))
  · rw [Bool.not_eq_true] at c
    rw [c]
    refine decide_eq_false fun q => ?_
    have := key.mp (V.str.inj q)
    rw [c] at this
    cases this
/-! ### more of what evaluates to what -/
section
variable {K : PySem.W.Frag} {σ : L2.St} {H H' : Hp} {ta tb te tx : TE} {t u : TT} {x y z v : V}
/-- a tuple with these items, new or not -/
def EvW (K : PySem.W.Frag) (te : TE) (σ : L2.St) (H : Hp) (xs : List V) : Prop := ∀ H1, Ex H H1 → ∀ Q : VK, (∀ p H2, Ex H1 H2 → SqT K H2 p xs → Q (.ref p) H2) → te σ H1 Q
theorem ew_sl {tl th : TO} {a : Addr} {xs : List V} {lo hi : Option Int} (h : Ev te σ H (.ref a)) (h1 : EvO tl σ H lo) (h2 : EvO th σ H hi) (hs : SqT K H a xs) : EvW K (tSl (rSlA K) te tl th) σ H (cutV xs lo hi) := fun H1 e Q q =>
  h H1 e _ fun H2 e2 => h1 H2 (e.trans e2) _ fun H3 e3 => h2 H3 ((e.trans e2).trans e3) _ fun H4 e4 => by
    have hx := ex_t (((e.trans e2).trans e3).trans e4) hs
    refine ⟨a, xs, rfl, hx, fun hw => ?_, fun _ p hp => ?_⟩
    · refine q a H4 ((e2.trans e3).trans e4) ?_
      have : cutV xs lo hi = xs := by
        unfold cutV
        rw [hw.1, hw.2]
        simp
      rw [this]
      exact hx
    · exact q p _ (((e2.trans e3).trans e4).trans (Ex.new hp)) (st_of upd_same)
/-- comprehensions over a tuple, over zip of two tuples -/
theorem el_lcT {a : Addr} {xs : List V} {tl : TE} {j : Nat} {vs : List Nat} (f : Nat → Bool) (v : Nat → V) (h : Ev tl σ H (.ref a)) (hx : SqT K H a xs) (hz : xs.length ≤ 40000) (hw : ∀ x, wipe ((wipe σ vs).set j (some x)) vs = wipe σ vs)
    (ht : ∀ (i : Nat) (x : V) H1, Ex H H1 → xs[i]? = some x → EvT t ((wipe σ vs).set j (some x)) H1 (f i)) (he : ∀ (i : Nat) (x : V) H1, Ex H H1 → xs[i]? = some x → f i = true → Ev te ((wipe σ vs).set j (some x)) H1 (v i)) :
    EvL (tLc (iTup K tl) (gName j) t te vs) σ H (given xs.length f v) := fun H0 e Q q => h H0 e _ fun H1 e1 => ⟨a, rfl, ⟨xs, ex_t (e.trans e1) hx⟩, fun Dl hD =>
  lc_tup (xs := xs) (Cw H1 f v Dl) ⟨hD, Ex.new hD, upd_same⟩ (fun i H' _ p => ex_t ((e.trans e1).trans p.2.1) hx)
    (fun i x H' hi p => ⟨hw x, cw_turn p (by have := (List.getElem?_eq_some_iff.mp hi).1; omega) (ht i x H1 (e.trans e1) hi) (fun hf => he i x H1 (e.trans e1) hi hf)⟩)
    (fun H' p => q Dl H' (fresh_back e1 p.1) (e1.trans p.2.1) p.2.2)⟩
theorem walk_zipT {a b : Addr} {xs ys : List V} {n : Nat} (hn : n = min xs.length ys.length) : Walk (RZ.ItzT K a b) n (fun H => SqT K H a xs ∧ SqT K H b ys) (YPair (fun i => xs[i]?) (fun i => ys[i]?)) := by
  subst hn
  refine ⟨fun i _ hi g => ?_, fun _ g => ⟨xs, ys, g.1, g.2, by omega⟩, fun i H v H' _ g yy => ?_⟩
  · have l1 : i < xs.length := by omega
    have l2 : i < ys.length := by omega
    exact ⟨xs, ys, xs[i], ys[i], g.1, g.2, List.getElem?_eq_getElem l1, List.getElem?_eq_getElem l2⟩
  · obtain ⟨T, x, z, e1, e2, e3, e4, e5⟩ := yy
    exact ⟨T, x, z, e1, e2, e3, e4 xs g.1, e5 ys g.2⟩
theorem given_map {n : Nat} {f : Nat → Bool} {v : Nat → V} (hf : ∀ i, f i = true) : given n f v = (List.range n).map v := by
  unfold given
  rw [List.filter_eq_self.mpr (fun a _ => hf a)]
theorem rc_all {a : Addr} {bs : List Bool} (h : SqL K H a (bs.map V.bl)) : RC (rAll K) [.ref a] H (.bl (bs.all id)) := fun H1 e Q q => ⟨a, bs, rfl, ex_l e h, q H1 (Ex.refl _)⟩
/-- all([..]) of a new list of truths -/
theorem ev_all {bs : List Bool} (h : EvL te σ H (bs.map V.bl)) : Ev (tCB (rAll K) (tCons te tNil)) σ H (.bl (bs.all id)) := fun H1 e Q q =>
  h H1 e _ fun p H2 _ e2 h2 => ⟨p, bs, rfl, sq_of h2, q H2 e2⟩
theorem et_yes : EvT tYes σ H true := fun H1 _ _ q => q H1 (Ex.refl _)
end
end K0

namespace K0
open PySem L2 Evl
section
variable {K : PySem.W.Frag} {σ : L2.St} {H H' : Hp} {ta tb te tx : TE} {t u : TT} {x y z v : V}
theorem ev_chain_of {σ : L2.St} {H : Hp} {ta tb tc : TE} {r r' : R2} {x y z : V} {a b : Bool} (ha : Ev ta σ H x) (hb : Ev tb σ H y) (hr : RV r x y H (.bl a)) (hc : Ev tc σ H z) (hr' : RV r' y z H (.bl b)) :
    Ev (tChain r r' ta tb tc) σ H (.bl (a && b)) := fun H1 e Q q =>
  ha H1 e _ fun H2 e2 => hb H2 (e.trans e2) _ fun H3 e3 => hr H3 ((e.trans e2).trans e3) _ fun H4 e4 => ⟨a, rfl, by
    cases a with
    | true => exact hc H4 (((e.trans e2).trans e3).trans e4) _ fun H5 e5 => hr' H5 ((((e.trans e2).trans e3).trans e4).trans e5) Q fun H6 e6 => q H6 ((((e2.trans e3).trans e4).trans e5).trans e6)
    | false => exact q H4 ((e2.trans e3).trans e4)⟩
theorem ev_one (h : Ev te σ H v) : Ev te σ H v := h
theorem rc_lenT {a : Addr} {xs : List V} (h : SqT K H a xs) : RC (fun xs H Q => ∃ x n, xs = [x] ∧ LenV K x H n ∧ Q (.int n) H) [.ref a] H (.int (xs.length : Nat)) := fun H1 e Q q =>
  ⟨_, xs.length, rfl, Or.inr ⟨xs, ex_t e h, rfl⟩, q H1 (Ex.refl _)⟩
theorem rc_lenL {a : Addr} {xs : List V} (h : SqL K H a xs) : RC (fun xs H Q => ∃ x n, xs = [x] ∧ LenV K x H n ∧ Q (.int n) H) [.ref a] H (.int (xs.length : Nat)) := fun H1 e Q q =>
  ⟨_, xs.length, rfl, Or.inl ⟨xs, ex_l e h, rfl⟩, q H1 (Ex.refl _)⟩
theorem rc_lenS {s : Str} (h : s.length ≤ sizeLine) : RC (fun xs H Q => ∃ x n, xs = [x] ∧ LenV K x H n ∧ Q (.int n) H) [.str s] H (.int (s.length : Nat)) := fun H1 e Q q =>
  ⟨_, s.length, rfl, ⟨h, rfl⟩, q H1 (Ex.refl _)⟩
/-- a comprehension over zip of two tuples, no test -/
theorem el_lcZ {a : Addr} {xs ys : List V} {t1 t2 : TE} {g : TG} {vs : List Nat} {n : Nat} (v : Nat → V) (h1 : Ev t1 σ H (.ref a)) (hx : SqT K H a xs) (h2 : EvW K t2 σ H ys) (hn : n = min xs.length ys.length) (hz : n ≤ 40000)
    (hg : ∀ i x y T H', xs[i]? = some x → ys[i]? = some y → H' T = some (.tup [x, y]) → ∃ σ2, (∀ k : L2.St → Hp → Prop, k σ2 H' → g (.ref T) (wipe σ vs) H' k) ∧ wipe σ2 vs = wipe σ vs ∧ Ev te σ2 H (v i)) :
    EvL (tLc (RZ.iZipA K (tCons t1 (tCons t2 tNil))) g tYes te vs) σ H ((List.range n).map v) := fun H0 e Q q =>
  h1 H0 e _ fun H1 e1 => h2 H1 (e.trans e1) _ fun b H2 e2 hy => ⟨a, b, xs, ys, rfl, Or.inr ⟨ex_t ((e.trans e1).trans e2) hx, hy, fun Dl hD => by
    have e02 := (e.trans e1).trans e2
    refine lc_it (walk_zipT hn) (Cw H2 (fun _ => true) v Dl) ⟨hD, Ex.new hD, upd_same⟩ (fun i H' _ p => ⟨ex_t p.2.1 (ex_t e02 hx), ex_t p.2.1 hy⟩) (fun i w H' H'' hi p yp => ?_) (fun H' p => ?_)
    · obtain ⟨T, x, y, rfl, hT, rfl, ex, ey⟩ := yp
      obtain ⟨σ2, k1, k2, k3⟩ := hg i x y T (upd H' T (.tup [x, y])) ex ey upd_same
      have hne : Dl ≠ T := ne_of_none p.2.2 hT
      have p' : Cw H2 (fun _ => true) v Dl i (upd H' T (.tup [x, y])) := ⟨p.1, p.2.1.trans (Ex.new hT), by rw [upd_ne hne]; exact p.2.2⟩
      exact k1 _ ⟨k2, cw_turn p' (by omega) et_yes (fun _ => k3.mono e02)⟩
    · have := p.2.2
      rw [given_map (fun _ => rfl)] at this
      exact q Dl H' (fresh_back (e1.trans e2) p.1) ((e1.trans e2).trans p.2.1) this⟩⟩
theorem rv_le {i j : Int} : RV (rI0 fun i j => .bl (decide (i ≤ j))) (.int i) (.int j) H (.bl (decide (i ≤ j))) := rv_I0
theorem rv_lt {i j : Int} : RV (rI0 fun i j => .bl (decide (i < j))) (.int i) (.int j) H (.bl (decide (i < j))) := rv_I0
theorem rv_isN : RV (fun x y H Q => y = .non ∧ Q (.bl (decide (x = .non))) H) x .non H (.bl (decide (x = .non))) := fun H1 _ _ q => ⟨rfl, q H1 (Ex.refl _)⟩
theorem rc_strip {a b : Str} (h : a.length ≤ sizeLine) : ∀ H1, Ex H H1 → ∀ Q : VK, (∀ H2, Ex H1 H2 → Q (.str (Txt.stripChars a b)) H2) → (fun (x : V) (xs : List V) (H : Hp) (Q : VK) => ∃ a b, x = .str a ∧ xs = [.str b] ∧ a.length ≤ sizeLine ∧ Q (.str (Txt.stripChars a b)) H) (.str a) [.str b] H1 Q :=
  fun H1 _ _ q => ⟨a, b, rfl, rfl, h, q H1 (Ex.refl _)⟩
end
/-! ### the judges of stage 1 as functions of data -/
def D.within (lo hi : Int) : D → Bool
  | .int i => numB i && (decide (lo ≤ i) && decide (i ≤ hi)) | _ => false
def D.toInt : D → Int
  | .int i => i | _ => 0
def ascB : List Int → Bool
  | a :: b :: r => decide (a < b) && ascB (b :: r)
  | _ => true
def D.indices (m : Int) : D → Bool
  | .tup ds => ds.all (D.within 0 (m - 1)) && ascB (ds.map D.toInt) | _ => false
def D.circle : D → Bool
  | .tup ds => D.indices 9 (.tup ds) && (decide (1 ≤ ds.length) && decide (ds.length ≤ 7)) | _ => false
def D.word (signs : Str) (most : Int) : D → Bool
  | .str s => decide ((s.length : Int) ≤ most) && s.cps.toList.all signs.cps.contains | _ => false
def D.nonEmpty : D → Bool
  | .str s => decide (0 < s.length) | _ => false
abbrev letters : Str := "abcdefghijklmnopqrstuvwxyz"
abbrev signs37 : Str := "abcdefghijklmnopqrstuvwxyz0123456789 "
def D.key (d : D) : Bool := d.word letters 8 && d.nonEmpty
def D.short (d : D) : Bool := d.within (-(999999999999)) 999999999999
def D.value (d : D) : Bool := d.short || d.word signs37 12
def D.single : D → Bool
  | .non => true
  | .int i => numB i
  | .str s => D.word signs37 3000 (.str s)
  | _ => false
/-- plain, at most n deep -/
def D.plain : Nat → D → Bool
  | 0, d => d.single
  | n + 1, .tup ds => ds.all (D.plain n)
  | _ + 1, d => d.single
def D.small : D → Prop
  | .tup ds => ds.length ≤ 40000 | _ => True
theorem all_getD (ds : List D) (f : D → Bool) : ((List.range ds.length).all fun i => f (ds.getD i .non)) = ds.all f := by
  induction ds with
  | nil => rfl
  | cons d ds ih =>
    rw [List.length_cons, List.range_succ_eq_map, List.all_cons, List.all_cons, List.all_map, ← ih]
    rfl
theorem ints_of {K : PySem.W.Frag} {H : Hp} {lo hi : Int} : ∀ (xs : List V) (ds : List D), RpAll K H xs ds → ds.all (D.within lo hi) = true → xs = (ds.map D.toInt).map V.int
  | _, _, .nil, _ => rfl
  | _, _, .cons (d := d) h r, e => by
    rw [List.all_cons, Bool.and_eq_true] at e
    rw [List.map_cons, List.map_cons, ← ints_of _ _ r e.2]
    cases h with
    | int i => rfl
    | _ => exact absurd e.1 (by simp [D.within])
section
variable {P : Program} {w : World} {K : PySem.W.Frag} {mg : Str → Option Value} {base : Heap} {A : Ad} {D : Fd}
def sp_is_within (K : PySem.W.Frag) : Sp := fun vs H Q _ => ∃ x d lo hi, vs = [x, .int lo, .int hi] ∧ Rp K H x d ∧ RetV (.bl (d.within lo hi)) H Q
theorem len_is_within {vs : List V} {H : Hp} {Q : VK} {E : XK} (h : sp_is_within K vs H Q E) : vs.length = 3 := by
  obtain ⟨x, d, lo, hi, rfl, _⟩ := h
  rfl
theorem sv_within {H : Hp} {x : V} {d : K0.D} {lo hi : Int} (h : Rp K H x d) : SpV (sp_is_within K) [x, .int lo, .int hi] H (.bl (d.within lo hi)) := fun H1 e Q q E => ⟨x, d, lo, hi, rfl, h.ex e, q⟩
/-- row: a tuple of ints -/
def sp_are_ascending (K : PySem.W.Frag) : Sp := fun vs H Q _ => ∃ a ns, vs = [.ref a] ∧ SqT K H a (ns.map V.int) ∧ ns.length ≤ 40000 ∧ RetV (.bl (ascB ns)) H Q
theorem len_are_ascending {vs : List V} {H : Hp} {Q : VK} {E : XK} (h : sp_are_ascending K vs H Q E) : vs.length = 1 := by
  obtain ⟨a, ns, rfl, _⟩ := h
  rfl
theorem sv_asc {H : Hp} {a : Addr} {ns : List Int} (h : SqT K H a (ns.map V.int)) (hl : ns.length ≤ 40000) : SpV (sp_are_ascending K) [.ref a] H (.bl (ascB ns)) := fun H1 e Q q E => ⟨a, ns, rfl, ex_t e h, hl, q⟩
theorem cut1 (xs : List V) : cutV xs (some 1) none = xs.drop 1 := by
  unfold cutV
  have h1 : HT.sIx xs.length 0 (some 1) = min 1 xs.length := HT.sIx_nat _ _ 1
  have h2 : HT.sIx xs.length xs.length none = xs.length := rfl
  rw [h1, h2]
  cases xs with
  | nil => rfl
  | cons x xs =>
    have : min 1 (x :: xs).length = 1 := by simp
    rw [this]
    exact List.take_of_length_le (by simp)
theorem asc_all : ∀ ns : List Int, ((List.range (ns.length - 1)).map fun i => decide (ns.getD i 0 < ns.getD (i + 1) 0)).all id = ascB ns
  | [] => rfl
  | [a] => rfl
  | a :: b :: r => by
    have ih := asc_all (b :: r)
    have e1 : (a :: b :: r).length - 1 = ((b :: r).length - 1) + 1 := by simp
    rw [e1, List.range_succ_eq_map, List.map_cons, List.all_cons, List.map_map]
    show (decide (a < b) && _) = (decide (a < b) && ascB (b :: r))
    rw [← ih]
    rfl
def sp_are_indices (K : PySem.W.Frag) : Sp := fun vs H Q _ => ∃ x d m, vs = [x, .int m] ∧ Rp K H x d ∧ d.small ∧ RetV (.bl (d.indices m)) H Q
theorem len_are_indices {vs : List V} {H : Hp} {Q : VK} {E : XK} (h : sp_are_indices K vs H Q E) : vs.length = 2 := by
  obtain ⟨x, d, m, rfl, _⟩ := h
  rfl
theorem sv_indices {H : Hp} {x : V} {d : K0.D} {m : Int} (h : Rp K H x d) (hs : d.small) : SpV (sp_are_indices K) [x, .int m] H (.bl (d.indices m)) := fun H1 e Q q E => ⟨x, d, m, rfl, h.ex e, hs, q⟩
end
end K0

namespace K0
open PySem L2 Evl
section
variable {K : PySem.W.Frag} {σ : L2.St} {H H' : Hp} {ta tb te tx : TE} {t u : TT} {x y z v : V}
theorem et_truL {a : Addr} {xs : List V} (h : Ev te σ H (.ref a)) (hx : SqL K H a xs) : EvT (fun σ H Q => te σ H fun x H' => ∃ k, TruV K x H' k ∧ Q k H') σ H (!xs.isEmpty) := fun H1 e Q q =>
  h H1 e _ fun H2 e2 => ⟨_, Or.inl ⟨xs, ex_l (e.trans e2) hx, rfl⟩, q H2 e2⟩
/-- [y for row in rows for y in row]: rows a list of tuples -/
theorem el_flat {a : Addr} {rs : List Addr} {rows : List (List V)} {tl : TE} {j j1 : Nat} {vs vs1 : List Nat} (h : Ev tl σ H (.ref a)) (hx : SqL K H a (rs.map V.ref)) (hl : rs.length = rows.length)
    (hr : ∀ (i : Nat) r row, rs[i]? = some r → rows[i]? = some row → SqT K H r row) (hz : rows.flatten.length ≤ 40000)
    (hw : ∀ x, wipe ((wipe σ vs).set j (some x)) vs = wipe σ vs) (hj : ∀ x, ((wipe σ vs).set j (some x))[j]? = some (some x))
    (hw1 : ∀ x y, wipe ((wipe ((wipe σ vs).set j (some x)) vs1).set j1 (some y)) vs1 = wipe ((wipe σ vs).set j (some x)) vs1) (hj1 : ∀ x y, ((wipe ((wipe σ vs).set j (some x)) vs1).set j1 (some y))[j1]? = some (some y)) :
    EvL (tLc2 (iList K tl) (gName j) tYes (iTup K (tVar j)) (gName j1) tYes (tVar j1) vs vs1) σ H rows.flatten := fun H0 e Q q =>
  h H0 e _ fun H1 e1 => ⟨a, rfl, ⟨_, ex_l (e.trans e1) hx⟩, fun Dl hD => by
    refine ⟨fun i m H' => m = rs.length - i ∧ i ≤ rs.length ∧ Ex H1 H' ∧ H' Dl = some (.lst (rows.take i).flatten), ⟨rs.length, by simp, Nat.zero_le _, Ex.new hD, upd_same⟩, ?_⟩
    rintro i m H' ⟨rfl, hi, p1, p2⟩
    have hxl := ex_l ((e.trans e1).trans p1) hx
    by_cases hlt : i < rs.length
    · have hlt2 : i < rows.length := by omega
      have g1 : rs[i]? = some rs[i] := List.getElem?_eq_getElem hlt
      have g2 : rows[i]? = some rows[i] := List.getElem?_eq_getElem hlt2
      have et : rows.take (i + 1) = rows.take i ++ [rows[i]] := by rw [List.take_succ, g2] <;> rfl
      have efl : ((rows.take (i + 1)).flatten).length ≤ rows.flatten.length := by
        have : rows.flatten = (rows.take (i + 1)).flatten ++ (rows.drop (i + 1)).flatten := by rw [← List.flatten_append, List.take_append_drop]
        rw [this, List.length_append]
        omega
      have efl2 : ((rows.take (i + 1)).flatten).length = ((rows.take i).flatten).length + rows[i].length := by rw [et, List.flatten_append]; simp
      have hrow := hr i _ _ g1 g2
      refine .inr ⟨⟨rs.map V.ref, .ref rs[i], hxl, by rw [List.getElem?_map, g1]; rfl⟩, fun H2 => Ex H1 H2 ∧ H2 Dl = some (.lst (rows.take (i + 1)).flatten), fun H2 k => ⟨rs.length - (i + 1), by omega, rfl, hlt, k⟩, fun y H2 yy => ?_⟩
      obtain ⟨rfl, yy⟩ := yy
      have ey := yy _ hxl
      rw [List.getElem?_map, g1] at ey
      have ey : V.ref rs[i] = y := Option.some.inj ey
      subst ey
      refine ⟨hw _, ?_⟩
      refine ⟨_, hj _, rs[i], rfl, ⟨_, ex_t ((e.trans e1).trans p1) hrow⟩, fun jj kk H3 => kk = rows[i].length - jj ∧ jj ≤ rows[i].length ∧ Ex H1 H3 ∧ H3 Dl = some (.lst ((rows.take i).flatten ++ rows[i].take jj)), ⟨_, rfl, Nat.zero_le _, p1, by rw [p2]; simp⟩, ?_⟩
      rintro jj kk H3 ⟨rfl, hjj, q1, q2⟩
      have hrow3 := ex_t ((e.trans e1).trans q1) hrow
      by_cases hlj : jj < rows[i].length
      · have g3 : rows[i][jj]? = some rows[i][jj] := List.getElem?_eq_getElem hlj
        refine .inr ⟨⟨rows[i], rows[i][jj], hrow3, g3⟩, fun H4 => Ex H1 H4 ∧ H4 Dl = some (.lst ((rows.take i).flatten ++ rows[i].take (jj + 1))), fun H4 k => ⟨rows[i].length - (jj + 1), by omega, rfl, hlj, k⟩, fun y H4 yy => ?_⟩
        obtain ⟨rfl, yy⟩ := yy
        have ey := yy _ hrow3
        rw [g3] at ey
        have ey : rows[i][jj] = y := Option.some.inj ey
        subst ey
        refine ⟨hw1 _ _, _, hj1 _ _, _, q2, ?_, ?_, ?_⟩
        · have : ((rows.take i).flatten ++ rows[i].take jj).length ≤ 40000 := by rw [List.length_append, List.length_take]; omega
          exact sz_lt (by omega)
        · exact Ex.mut q1 hD
        · rw [upd_same, List.append_assoc, List.take_succ, g3]
          rfl
      · have : jj = rows[i].length := by omega
        subst this
        refine .inl ⟨⟨rows[i], hrow3, Nat.le_refl _⟩, q1, ?_⟩
        rw [q2, et, List.flatten_append, List.take_length]
        simp
    · have : i = rs.length := by omega
      subst this
      refine .inl ⟨⟨_, hxl, by rw [List.length_map]; exact Nat.le_refl _⟩, q Dl H' (fresh_back e1 hD) (e1.trans p1) ?_⟩
      rw [p2, hl, List.take_length]⟩
end
mutual
/-- how much of a value there is: signs and members -/
def D.size : D → Nat
  | .str s => 1 + s.length / 100
  | .tup ds => 1 + D.sizeL ds
  | _ => 1
def D.sizeL : List D → Nat
  | [] => 0
  | d :: ds => d.size + D.sizeL ds
end
theorem sizeL_len : ∀ ds : List D, ds.length ≤ D.sizeL ds
  | [] => Nat.le_refl _
  | d :: ds => by
    have := sizeL_len ds
    have h1 : 1 ≤ d.size := by cases d <;> simp [D.size]
    simp only [List.length_cons, D.sizeL]
    omega
theorem sizeL_app : ∀ ds es : List D, D.sizeL (ds ++ es) = D.sizeL ds + D.sizeL es
  | [], es => by simp [D.sizeL]
  | d :: ds, es => by
    show d.size + D.sizeL (ds ++ es) = d.size + D.sizeL ds + D.sizeL es
    rw [sizeL_app ds es]
    omega
theorem size_mem : ∀ {ds : List D} {d : D}, d ∈ ds → d.size ≤ D.sizeL ds
  | a :: ds, d, h => by
    rcases List.mem_cons.mp h with h | h
    · subst h
      simp only [D.sizeL]
      omega
    · have := size_mem h
      simp only [D.sizeL]
      omega
def D.kids : D → List D
  | .tup ds => ds | _ => []
end K0

namespace K0
open PySem L2 Evl
section
variable {P : Program} {w : World} {K : PySem.W.Frag} {mg : Str → Option Value} {base : Heap} {A : Ad} {D : Fd}
/-- a judge of values that are not too great -/
def spS (f : K0.D → Bool) (K : PySem.W.Frag) : Sp := fun vs H Q _ => ∃ x d, vs = [x] ∧ Rp K H x d ∧ d.size ≤ 30000 ∧ RetV (.bl (f d)) H Q
theorem spS_len {f : K0.D → Bool} {vs : List V} {H : Hp} {Q : VK} {E : XK} (h : spS f K vs H Q E) : vs.length = 1 := by
  obtain ⟨x, d, rfl, _⟩ := h
  rfl
theorem svS {f : K0.D → Bool} {H : Hp} {x : V} {d : K0.D} (h : Rp K H x d) (hs : d.size ≤ 30000) : SpV (spS f K) [x] H (.bl (f d)) := fun H1 e Q q E => ⟨x, d, rfl, h.ex e, hs, q⟩
theorem small_of {d : K0.D} (h : d.size ≤ 30000) : d.small := by
  cases d with
  | tup ds =>
    have := sizeL_len ds
    simp only [K0.D.size] at h
    show ds.length ≤ 40000
    omega
  | _ => trivial
theorem sline {n : Nat} (h : n ≤ 3000000) : n ≤ sizeLine := by rw [sizeLine_eq]; omega
def sp_is_made_of (K : PySem.W.Frag) : Sp := fun vs H Q _ => ∃ x d sg m, vs = [x, .str sg, .int m] ∧ Rp K H x d ∧ d.size ≤ 30000 ∧ RetV (.bl (d.word sg m)) H Q
theorem len_is_made_of {vs : List V} {H : Hp} {Q : VK} {E : XK} (h : sp_is_made_of K vs H Q E) : vs.length = 3 := by
  obtain ⟨x, d, sg, m, rfl, _⟩ := h
  rfl
theorem sv_made {H : Hp} {x : V} {d : K0.D} {sg : Str} {m : Int} (h : Rp K H x d) (hs : d.size ≤ 30000) : SpV (sp_is_made_of K) [x, .str sg, .int m] H (.bl (d.word sg m)) := fun H1 e Q q E => ⟨x, d, sg, m, rfl, h.ex e, hs, q⟩
/-- s.strip(t) -/
theorem ev_strip {σ : L2.St} {H : Hp} {ta tb : TE} {a b : Str} (ha : Ev ta σ H (.str a)) (hb : Ev tb σ H (.str b)) (h : a.length ≤ sizeLine) :
    Ev (tBM K "str" (fun (x : V) (xs : List V) (H : Hp) (Q : VK) => ∃ a b, x = .str a ∧ xs = [.str b] ∧ a.length ≤ sizeLine ∧ Q (.str (Txt.stripChars a b)) H) ta (tCons tb tNil)) σ H (.str (Txt.stripChars a b)) := fun H1 e Q q =>
  ha H1 e _ fun H2 e2 => ⟨rfl, hb H2 (e.trans e2) _ fun H3 e3 => ⟨a, b, rfl, rfl, h, q H3 (e2.trans e3)⟩⟩
theorem ok_is_made_of (T : Txt K mg A D) : FnOk P w K mg base CX0 1 A.is_made_of D.is_made_of ["value", "signs", "most"] (sp_is_made_of K) := by
  refine T.F_is_made_of.ok sc_is_made_of (fun vs H Q E h => len_is_made_of h) (fun cdv A0 outer s H vs Q E hr h => ?_)
  refine ⟨_, (pss_one (ps_ret (pe_and (pe_callB call_isi (by rfl) T.b_isinstance (by decide +kernel) (pa_cons (pv 0) (pa_cons (pe_bltn (v := .ty "str") (u := .type "str") (by rfl) T.b_str (by decide +kernel) rfl) pa_nil))) (pe_and (pe_cmpR op_le (pe_callB call_len (by rfl) T.b_len (by decide +kernel) (pa_cons (pv 0) pa_nil)) (pv 2) (nomark _)) (pe_one (pe_cmpR op_eq (pe_bm PySem.F.plainAttrs_str PySem.F.slot_str_strip PySem.F.type_str_strip mt_stripChars (pv 0) (pa_cons (pv 1) pa_nil)) pe_str (nomark _))))))), ?_⟩
  obtain ⟨x, d, sg, m, rfl, hx, hs, k⟩ := h
  refine s_ret (ev_is (ev_andV (a := d.isStr) (b := d.word sg m) (ev_cb (ea_cons (ev_var rfl) (ea_cons ev_c ea_nil)) (rc_str hx)) fun hb => ?_) ?_) fun H2 e2 => k H2 e2
  · obtain ⟨s, rfl, rfl⟩ := hx.isS hb
    have hl : s.length ≤ sizeLine := sline (by simp only [K0.D.size] at hs; omega)
    refine ev_andV (a := decide ((s.length : Int) ≤ m)) (ev_op (ev_cb (ea_cons (ev_var rfl) ea_nil) (rc_lenS hl)) (ev_var rfl) rv_I0) fun _ => ?_
    refine ev_is (ev_op (ev_strip (ev_var rfl) (ev_var rfl) hl) ev_c (rv_eq rfl)) ?_
    exact congrArg V.bl (strip_all _ _)
  · cases d <;> rfl
def D.isNon : K0.D → Bool
  | .non => true | _ => false
theorem Rp.isN {H : Hp} {x : V} {d : K0.D} (h : Rp K H x d) : decide (x = V.non) = d.isNon := by cases h <;> rfl
def sp_is_single (K : PySem.W.Frag) : Sp := spS K0.D.single K
theorem len_is_single {vs : List V} {H : Hp} {Q : VK} {E : XK} (h : sp_is_single K vs H Q E) : vs.length = 1 := spS_len h
theorem ok_is_single (T : Txt K mg A D) : FnOk P w K mg base CX0 2 A.is_single D.is_single ["value"] (sp_is_single K) := by
  have G_is_number : FnOk P w K mg base CX0 1 A.is_number D.is_number ["value"] (sp_is_number K) := ok_is_number T
  have G_is_made_of : FnOk P w K mg base CX0 1 A.is_made_of D.is_made_of ["value", "signs", "most"] (sp_is_made_of K) := ok_is_made_of T
  obtain ⟨t_MAX_STRING, c_MAX_STRING⟩ := T.c_MAX_STRING
  obtain ⟨t_SIGNS, c_SIGNS⟩ := T.c_SIGNS
  refine T.F_is_single.ok sc_is_single (fun vs H Q E h => len_is_single h) (fun cdv A0 outer s H vs Q E hr h => ?_)
  refine ⟨_, (pss_one (ps_ret (pe_or (pe_cmpR op_isN (pv 0) pe_non (nomark _)) (pe_or (pe_call G_is_number (hr.mono (by decide)) rfl T.g_is_number T.F_is_number.kp T.b_is_number .nil pass0 (pa_cons (pv 0) pa_nil)) (pe_one (pe_call G_is_made_of (hr.mono (by decide)) rfl T.g_is_made_of T.F_is_made_of.kp T.b_is_made_of .nil pass0 (pa_cons (pv 0) (pa_cons (pe_glob (v := .str "abcdefghijklmnopqrstuvwxyz0123456789 ") rfl c_SIGNS ⟨_, rfl⟩) (pa_cons (pe_glob (v := .int (3000)) rfl c_MAX_STRING ⟨_, rfl⟩) pa_nil))))))))), ?_⟩
  obtain ⟨x, d, rfl, hx, hs, k⟩ := h
  refine s_ret (ev_is (ev_orV (a := d.isNon) (b := d.num || d.word signs37 3000) (ev_is (ev_op (ev_var rfl) ev_c rv_isN) (congrArg V.bl hx.isN)) fun _ => ?_) ?_) fun H2 e2 => k H2 e2
  · exact ev_orV (ev_call (ea_cons (ev_var rfl) ea_nil) (sv1 hx)) fun _ => ev_call (ea_cons (ev_var rfl) (ea_cons ev_c (ea_cons ev_c ea_nil))) (sv_made hx hs)
  · cases d with
    | int i =>
      show V.bl (false || (numB i || false)) = V.bl (numB i)
      cases numB i <;> rfl
    | _ => rfl
end
end K0

namespace K0
open PySem L2 Evl
def tupsL : List D → List (List D)
  | [] => []
  | .tup es :: r => es :: tupsL r
  | _ :: r => tupsL r
theorem tupsL_app : ∀ a b : List D, tupsL (a ++ b) = tupsL a ++ tupsL b
  | [], _ => rfl
  | d :: r, b => by
    cases d <;> first | exact congrArg _ (tupsL_app r b) | exact tupsL_app r b
def okTop (d : D) : Bool := d.isTup || d.single
theorem plain_flat {j : Nat} : ∀ ds : List D, ds.all okTop = true → ds.all (D.plain (j + 1)) = (tupsL ds).flatten.all (D.plain j)
  | [], _ => rfl
  | d :: r, h => by
    rw [List.all_cons, Bool.and_eq_true] at h
    have ih := plain_flat (j := j) r h.2
    rw [List.all_cons, ih]
    cases d with
    | tup es =>
      show (es.all (D.plain j) && _) = ((es :: tupsL r).flatten).all _
      rw [List.flatten_cons, List.all_append]
    | non => rfl
    | bl b => exact absurd h.1 (by simp [okTop, D.isTup, D.single])
    | int i =>
      have hs : D.single (.int i) = true := h.1
      show (D.single (.int i) && _) = _
      rw [hs, Bool.true_and]
      rfl
    | str s =>
      have hs : D.single (.str s) = true := h.1
      show (D.single (.str s) && _) = _
      rw [hs, Bool.true_and]
      rfl
    | oth => exact absurd h.1 (by simp [okTop, D.isTup, D.single])
theorem plain_single {n : Nat} {d : D} (h : d.isTup = false) : d.plain n = d.single := by
  cases n <;> cases d <;> first | rfl | cases h
theorem plain_none : ∀ {ds : List D} {n : Nat}, ds.all okTop = true → tupsL ds = [] → ds.all (D.plain n) = true
  | [], _, _, _ => rfl
  | d :: r, n, h, e => by
    rw [List.all_cons, Bool.and_eq_true] at h
    cases ht : d.isTup with
    | true =>
      cases d with
      | tup es => exact absurd e (by simp [tupsL])
      | _ => cases ht
    | false =>
      have h1 : d.single = true := by
        have := h.1
        unfold okTop at this
        rw [ht, Bool.false_or] at this
        exact this
      have e' : tupsL r = [] := by cases d <;> first | exact e | cases ht
      rw [List.all_cons, plain_single ht, h1, Bool.true_and]
      exact plain_none h.2 e'
theorem plain_deep : ∀ {ds : List D}, tupsL ds ≠ [] → ds.all (D.plain 0) = false
  | [], h => absurd rfl h
  | d :: r, h => by
    cases ht : d.isTup with
    | true =>
      cases d with
      | tup es => rfl
      | _ => cases ht
    | false =>
      have h' : tupsL r ≠ [] := by cases d <;> first | exact h | cases ht
      rw [List.all_cons, plain_deep h', Bool.and_false]
theorem size_flat : ∀ ds : List D, D.sizeL (tupsL ds).flatten + (tupsL ds).length ≤ D.sizeL ds
  | [] => Nat.le_refl _
  | d :: r => by
    have ih := size_flat r
    cases d with
    | tup es =>
      show D.sizeL (es :: tupsL r).flatten + (tupsL r).length.succ ≤ D.size (.tup es) + D.sizeL r
      rw [List.flatten_cons, sizeL_app]
      simp only [D.size]
      omega
    | _ =>
      simp only [D.sizeL]
      show D.sizeL (tupsL r).flatten + (tupsL r).length ≤ _
      omega
theorem tups_nil_empty : D.sizeL ([] : List D) = 0 := rfl
inductive Rows (K : PySem.W.Frag) (H : Hp) : List Addr → List (List V) → List (List D) → Prop where
  | nil : Rows K H [] [] []
  | cons {r : Addr} {row : List V} {es : List D} {rs : List Addr} {rows : List (List V)} {ess : List (List D)} : SqT K H r row → RpAll K H row es → Rows K H rs rows ess → Rows K H (r :: rs) (row :: rows) (es :: ess)
section
variable {K : PySem.W.Frag} {H H' : Hp}
theorem Rows.snoc {r : Addr} {row : List V} {es : List D} (h : SqT K H r row) (hr : RpAll K H row es) : ∀ {rs : List Addr} {rows : List (List V)} {ess : List (List D)}, Rows K H rs rows ess → Rows K H (rs ++ [r]) (rows ++ [row]) (ess ++ [es])
  | _, _, _, .nil => .cons h hr .nil
  | _, _, _, .cons a b c => .cons a b (Rows.snoc h hr c)
theorem Rows.len : ∀ {rs : List Addr} {rows : List (List V)} {ess : List (List D)}, Rows K H rs rows ess → rs.length = rows.length ∧ rs.length = ess.length
  | _, _, _, .nil => ⟨rfl, rfl⟩
  | _, _, _, .cons _ _ c => ⟨by rw [List.length_cons, List.length_cons, c.len.1], by rw [List.length_cons, List.length_cons, c.len.2]⟩
theorem Rows.get : ∀ {rs : List Addr} {rows : List (List V)} {ess : List (List D)}, Rows K H rs rows ess → ∀ (i : Nat) r row, rs[i]? = some r → rows[i]? = some row → SqT K H r row
  | _, _, _, .nil, i, r, row, h, _ => by simp at h
  | _, _, _, .cons a _ c, 0, r, row, h, h' => by
    have e1 := Option.some.inj h
    have e2 := Option.some.inj h'
    subst e1 e2
    exact a
  | _, _, _, .cons _ _ c, i + 1, r, row, h, h' => Rows.get c i r row (by simpa using h) (by simpa using h')
theorem Rows.flat : ∀ {rs : List Addr} {rows : List (List V)} {ess : List (List D)}, Rows K H rs rows ess → RpAll K H rows.flatten ess.flatten
  | _, _, _, .nil => .nil
  | _, _, _, .cons _ b c => by
    rw [List.flatten_cons, List.flatten_cons]
    exact RpAll.app b (Rows.flat c)
end
section
variable {P : Program} {w : World} {K : PySem.W.Frag} {mg : Str → Option Value} {base : Heap} {A : Ad} {D : Fd}
def sp_is_plain_within (K : PySem.W.Frag) : Sp := fun vs H Q _ => ∃ x d, ∃ n : Nat, vs = [x, .int (n : Int)] ∧ Rp K H x d ∧ d.size ≤ 30000 ∧ RetV (.bl (d.plain n)) H Q
theorem len_is_plain_within {vs : List V} {H : Hp} {Q : VK} {E : XK} (h : sp_is_plain_within K vs H Q E) : vs.length = 2 := by
  obtain ⟨x, d, n, rfl, _⟩ := h
  rfl
theorem sv_within_plain {H : Hp} {x : V} {d : K0.D} {n : Nat} (h : Rp K H x d) (hs : d.size ≤ 30000) : SpV (sp_is_plain_within K) [x, .int (n : Int)] H (.bl (d.plain n)) := fun H1 e Q q E => ⟨x, d, n, rfl, h.ex e, hs, q⟩
def PlainW (K : PySem.W.Frag) (H : Hp) (x : V) (d : K0.D) (n : Nat) (m : Nat) (σ : L2.St) (H' : Hp) : Prop :=
  ∃ (lv : Addr) (xs : List V) (ds : List K0.D) (k : Nat) (v4 v5 : Option V), σ = [some x, some (.int (n : Int)), some (.ref lv), some (.int (k : Int)), v4, v5, none, none] ∧ H' lv = some (.lst xs) ∧ RpAll K H' xs ds ∧ Ex H H' ∧
    K0.D.sizeL ds = m ∧ m ≤ 30000 ∧ k ≤ n ∧ d.plain n = ds.all (K0.D.plain (n - k))
def PlainP (K : PySem.W.Frag) (H1 : Hp) (x : V) (n k : Nat) (lv p : Addr) (ds : List K0.D) (i : Nat) (σ : L2.St) (H' : Hp) : Prop :=
  ∃ (ys : List Addr) (rows : List (List V)) (v5 : Option V), σ = [some x, some (.int (n : Int)), some (.ref lv), some (.int (k : Int)), some (.ref p), v5, none, none] ∧ Ex H1 H' ∧ H' p = some (.lst (ys.map V.ref)) ∧
    Rows K H1 ys rows (tupsL (ds.take i)) ∧ (ds.take i).all okTop = true ∧ ys.length ≤ i
theorem ok_is_plain_within (T : Txt K mg A D) : FnOk P w K mg base CX0 3 A.is_plain_within D.is_plain_within ["value", "most"] (sp_is_plain_within K) := by
  have G_is_single : FnOk P w K mg base CX0 2 A.is_single D.is_single ["value"] (sp_is_single K) := ok_is_single T
  refine T.F_is_plain_within.ok sc_is_plain_within (fun vs H Q E h => len_is_plain_within h) (fun cdv A0 outer s H vs Q E hr h => ?_)
  refine ⟨_, (pss_cons (ps_set (i := 2) sc_is_plain_within.nd rfl (Or.inl rfl) (pe_lst (pa_cons (pv 0) pa_nil)))
  (pss_cons (ps_set (i := 3) sc_is_plain_within.nd rfl (Or.inl rfl) pe_int)
  (pss_cons (ps_while PassesOwn.never (pt_truth (pv 2) (by intro _; rfl)) (pss_cons (ps_set (i := 4) sc_is_plain_within.nd rfl (Or.inl rfl) (pe_lst pa_nil))
  (pss_cons (ps_for PassesOwn.never rfl (pi_list (pv 2)) (pg_name (i := 5) sc_is_plain_within.nd rfl (Or.inl rfl)) (pss_one (ps_if (pt_val (pe_callB call_isi (by rfl) T.b_isinstance (by decide +kernel) (pa_cons (pv 5) (pa_cons (pe_bltn (v := .ty "tuple") (u := .type "tuple") (by rfl) T.b_tuple (by decide +kernel) rfl) pa_nil)))) (pss_one (ps_expr (pe_bm PySem.F.plainAttrs_list PySem.F.slot_list_append PySem.F.type_list_append mt_append (pv 4) (pa_cons (pv 5) pa_nil)))) (pss_one (ps_if (pt_not (pt_val (pe_call G_is_single (hr.mono (by decide)) rfl T.g_is_single T.F_is_single.kp T.b_is_single .nil pass0 (pa_cons (pv 5) pa_nil)))) (pss_one (ps_ret pe_bl)) pss_nil)))))
  (pss_cons (ps_if (pt_truth (pv 4) (by intro _; rfl)) (pss_one (ps_aug (i := 3) sc_is_plain_within.nd rfl (Or.inl rfl) pe_int ip_add)) pss_nil)
  (pss_cons (ps_if (pt_cmpR op_gt (pv 3) (pv 1) (nomark _)) (pss_one (ps_ret pe_bl)) pss_nil)
  (pss_one (ps_setLc2 (i := 2) (wi1 := iTup K (tVar 6)) (own := [("row", 6), ("member", 7)]) (vs1 := [7]) (g := gName 6) (g1 := gName 7) (tt := tYes) (tt1 := tYes) rfl sc_is_plain_within.nd rfl rfl (sw_true rfl rfl rfl (by decide +kernel)) (pi_list (pv 4)) (blkOk_by (own := [("row", 6), ("member", 7)]) (N := N_is_plain_within) (sc := defScope s_is_plain_within) (by decide +kernel)) (by decide) (fun _ _ _ _ _ => by exact pg_name (i := 6) sc_is_plain_within.nd rfl (Or.inl rfl)) (fun _ _ _ _ _ => pts_nil) (fun _ _ _ _ _ => by exact (pi_tup (pv 6))) (fun _ _ _ _ _ => by exact pg_name (i := 7) sc_is_plain_within.nd rfl (Or.inl rfl)) (fun _ _ _ _ _ => pts_nil) (fun _ _ _ _ _ => by exact (pv 7)))))))))
  (pss_one (ps_ret pe_bl))))), ?_⟩
  obtain ⟨x, d, n, rfl, hx, hs, k⟩ := h
  have wl : ∀ (lv : Addr) (xs : List V), xs.length = 1 → True := fun _ _ _ => trivial
  refine q_asgL (el_lst (ea_cons (ev_var rfl) ea_nil) (by simp)) fun lv H1 hlv e1 h1 => ?_
  refine q_asg ev_c fun H2 e2 => ?_
  refine q_while (PlainW K H x d n) _ ⟨lv, [x], [d], 0, none, none, rfl, e2 _ _ h1, .cons (hx.ex (e1.trans e2)) .nil, e1.trans e2, rfl, ?_, Nat.zero_le _, ?_⟩ ?_
  · simp only [K0.D.sizeL]
    omega
  · simp
  rintro m σ' H' ⟨lv, xs, ds, kk, v4, v5, rfl, hl, hr0, e0, hm, hm2, hk, hp⟩
  have hlen := hr0.len
  have hsl := sizeL_len ds
  refine ⟨!xs.isEmpty, et_truL (ev_var rfl) (sq_of hl), fun hb H3 e3 => ⟨fun σ2 H2 => ∃ m', m' < m ∧ PlainW K H x d n m' σ2 H2, fun σ2 H2 z => z, ?_⟩, fun hb H3 e3 => ?_⟩
  · -- a turn
    have hr3 := hr0.ex e3
    refine q_asgL (el_lst ea_nil (by decide)) fun p H4 hp4 e4 h4 => ?_
    refine q_forLn (xs := xs) (ev_var rfl) (sq_of (e4 _ _ (e3 _ _ hl))) (PlainP K H3 x n kk lv p ds) (fun H5 e5 => ?_) (fun i σ5 H5 hi q5 => ?_) (fun i y σ5 H5 hy q5 => ?_) (fun σ5 H5 q5 => ?_)
    · exact ⟨[], [], v5, rfl, e4.trans e5, e5 _ _ h4, .nil, rfl, Nat.le_refl _⟩
    · obtain ⟨ys, rows, w5, rfl, q1, _⟩ := q5
      exact sq_of (q1 _ _ (e3 _ _ hl))
    · obtain ⟨ys, rows, w5, rfl, q1, q2, q3, q4, q6⟩ := q5
      obtain ⟨di, hdi, hrp⟩ := RpAll.get _ _ _ _ hr3 hy
      have hmem : di ∈ ds := List.mem_of_getElem? hdi
      have hsz : di.size ≤ 30000 := by have := size_mem hmem; omega
      have hilt : i < xs.length := (List.getElem?_eq_some_iff.mp hy).1
      have etk : ds.take (i + 1) = ds.take i ++ [di] := by rw [List.take_succ, hdi]; rfl
      refine s_if (et_B (ev_cb (ea_cons (ev_var rfl) (ea_cons ev_c ea_nil)) (rc_tup (hrp.ex q1)))) (fun hb H6 e6 => ?_) (fun hb H6 e6 => ?_)
      · obtain ⟨r, row, es, rfl, rfl, hq, hra⟩ := hrp.isT hb
        refine s_app (e6 _ _ q2) (ev_var rfl) (ev_var rfl) (by rw [List.length_map]; omega) fun H7 e7 => ?_
        refine ⟨ys ++ [r], rows ++ [row], _, rfl, Ex.mut ((q1.trans e6).trans e7) hp4, ?_, ?_, ?_, ?_⟩
        · rw [upd_same, List.map_append]
          rfl
        · rw [etk, tupsL_app]
          exact Rows.snoc hq hra q3
        · rw [etk, List.all_append, q4]
          rfl
        · rw [List.length_append]
          simp
          omega
      · refine s_if (et_not (et_B (ev_call (ea_cons (ev_var rfl) ea_nil) (svS (hrp.ex (q1.trans e6)) hsz)))) (fun hb2 H7 e7 => ?_) (fun hb2 H7 e7 => ?_)
        · refine s_ret ev_c fun H8 e8 => ?_
          have := k H8 ((((e0.trans e3).trans q1).trans e6).trans (e7.trans e8))
          have hf : ds.all (K0.D.plain (n - kk)) = false := by
            have hdf : di.plain (n - kk) = false := by
              rw [plain_single hb]
              cases z : di.single with
              | true => rw [z] at hb2; cases hb2
              | false => rfl
            rw [List.all_eq_false]
            exact ⟨di, hmem, by rw [hdf]; decide⟩
          rw [hp, hf] at this
          exact this
        · have hsi : di.single = true := by
            cases z : di.single with
            | true => rfl
            | false => rw [z] at hb2; cases hb2
          refine ⟨ys, rows, _, rfl, (q1.trans e6).trans e7, e7 _ _ (e6 _ _ q2), ?_, ?_, by omega⟩
          · rw [etk, tupsL_app]
            have : tupsL [di] = [] := by cases di <;> first | rfl | cases hb
            rw [this, List.append_nil]
            exact q3
          · rw [etk, List.all_append, q4]
            show (true && ((di.isTup || di.single) && true)) = true
            rw [hsi]
            cases di.isTup <;> rfl
    · obtain ⟨ys, rows, w5, rfl, q1, q2, q3, q4, q6⟩ := q5
      rw [hlen, List.take_length] at q3 q4
      have hrl := q3.len
      have hszf := size_flat ds
      have hflen : rows.flatten.length ≤ 40000 := by
        have h1 := q3.flat.len
        have h2 := sizeL_len (tupsL ds).flatten
        omega
      have fin : ∀ (k' : Nat) (H8 : Hp), Ex H5 H8 → k' ≤ n → d.plain n = (tupsL ds).flatten.all (K0.D.plain (n - k')) → K0.D.sizeL (tupsL ds).flatten < m →
          tAsg (tLc2 (iList K (tVar 4)) (gName 6) tYes (iTup K (tVar 6)) (gName 7) tYes (tVar 7) [6, 7] [7]) (gName 2) { nx := fun σ2 H2 => ∃ m', m' < m ∧ PlainW K H x d n m' σ2 H2, rt := Q, bk := fun _ _ => False, ct := fun _ _ => False }
            [some x, some (.int (n : Int)), some (.ref lv), some (.int (k' : Int)), some (.ref p), w5, none, none] H8 := fun k' H8 e8 hk' hpl hlt => by
        refine s_asgL (el_flat (a := p) (ev_var rfl) (sq_of (e8 _ _ q2)) hrl.1 (fun i r row h1 h2 => ex_t (q1.trans e8) (q3.get i r row h1 h2)) hflen (fun _ => rfl) (fun _ => rfl) (fun _ _ => rfl) (fun _ _ => rfl)) fun lv2 H9 hlv2 e9 h9 => ?_
        exact ⟨_, hlt, lv2, rows.flatten, (tupsL ds).flatten, k', _, _, rfl, h9, q3.flat.ex ((q1.trans e8).trans e9), ((e0.trans e3).trans q1).trans (e8.trans e9), rfl, by omega, hk', hpl⟩
      have hne : ds ≠ [] := by
        intro z
        subst z
        have : xs = [] := by
          cases xs with
          | nil => rfl
          | cons a b => cases hr0
        subst this
        cases hb
      refine q_when (et_truL (ev_var rfl) (sq_of q2)) (fun hb6 H6 e6 => ?_) (fun hb6 H6 e6 => ?_)
      · have hys : tupsL ds ≠ [] := by
          intro z
          have h1 := hrl.2
          rw [z] at h1
          have h2 : ys = [] := List.length_eq_zero_iff.mp h1
          subst h2
          cases hb6
        have hpos : 0 < (tupsL ds).length := List.length_pos_iff.mpr hys
        refine s_aug (a := (kk : Int)) (b := 1) rfl ev_c fun H7 e7 => ?_
        refine q_when (b := decide ((n : Int) < (kk : Int) + 1)) (et_test (ev_op (ev_var rfl) (ev_var rfl) rv_I0)) (fun hb7 H8 e8 => ?_) (fun hb7 H8 e8 => ?_)
        · refine s_ret ev_c fun H9 e9 => ?_
          have := k H9 ((((e0.trans e3).trans q1).trans e6).trans ((e7.trans e8).trans e9))
          have hkn : n - kk = 0 := by
            have := of_decide_eq_true hb7
            omega
          rw [hp, hkn, plain_deep hys] at this
          exact this
        · have hkn : kk + 1 ≤ n := by
            have := of_decide_eq_false hb7
            omega
          refine fin (kk + 1) H8 ((e6.trans e7).trans e8) hkn ?_ (by omega)
          have e1 : n - kk = (n - (kk + 1)) + 1 := by omega
          rw [hp, e1]
          exact plain_flat ds q4
      · have hys : tupsL ds = [] := by
          have h1 : ys = [] := by
            cases ys with
            | nil => rfl
            | cons a b => cases hb6
          subst h1
          exact List.length_eq_zero_iff.mp hrl.2.symm
        refine q_when (b := decide ((n : Int) < (kk : Int))) (et_test (ev_op (ev_var rfl) (ev_var rfl) rv_I0)) (fun hb7 H8 e8 => ?_) (fun hb7 H8 e8 => ?_)
        · have := of_decide_eq_true hb7
          omega
        · have hpos : 0 < ds.length := List.length_pos_iff.mpr hne
          refine fin kk H8 (e6.trans e8) hk ?_ ?_
          · rw [hp, hys, plain_none q4 hys]
            rfl
          · rw [hys]
            show 0 < m
            omega
  · have : xs = [] := by
      cases xs with
      | nil => rfl
      | cons a b => cases hb
    subst this
    have hd : ds = [] := by
      cases ds with
      | nil => rfl
      | cons a b => cases hr0
    subst hd
    refine s_ret ev_c fun H4 e4 => ?_
    have := k H4 ((e0.trans e3).trans e4)
    rw [hp] at this
    exact this
def sp_is_plain (K : PySem.W.Frag) : Sp := spS (K0.D.plain 12) K
theorem len_is_plain {vs : List V} {H : Hp} {Q : VK} {E : XK} (h : sp_is_plain K vs H Q E) : vs.length = 1 := spS_len h
theorem ok_is_plain (T : Txt K mg A D) : FnOk P w K mg base CX0 4 A.is_plain D.is_plain ["value"] (sp_is_plain K) := by
  have G_is_plain_within : FnOk P w K mg base CX0 3 A.is_plain_within D.is_plain_within ["value", "most"] (sp_is_plain_within K) := ok_is_plain_within T
  obtain ⟨t_MAX_NEST, c_MAX_NEST⟩ := T.c_MAX_NEST
  refine T.F_is_plain.ok sc_is_plain (fun vs H Q E h => len_is_plain h) (fun cdv A0 outer s H vs Q E hr h => ?_)
  refine ⟨_, (pss_one (ps_ret (pe_call G_is_plain_within (hr.mono (by decide)) rfl T.g_is_plain_within T.F_is_plain_within.kp T.b_is_plain_within .nil pass0 (pa_cons (pv 0) (pa_cons (pe_glob (v := .int (12)) rfl c_MAX_NEST ⟨_, rfl⟩) pa_nil))))), ?_⟩
  obtain ⟨x, d, rfl, hx, hs, k⟩ := h
  exact s_ret (ev_call (ea_cons (ev_var rfl) (ea_cons ev_c ea_nil)) (sv_within_plain (n := 12) hx hs)) fun H2 e2 => k H2 e2
end
end K0

namespace K0
open PySem PySem.Spec PyProof.Rows L2 Evl
/-! ### more rules -/
section
variable {X : Cx}
/-- xs == [] for two lists of which one is empty -/
theorem op_eqNil (hu : X.A.units < cLine) : OpR X (compareOp .Eq) (fun x y H Q => ∃ a b xs, x = V.ref a ∧ y = V.ref b ∧ SqL X.K H a xs ∧ SqL X.K H b [] ∧ Q (.bl xs.isEmpty) H) := by
  intro pins s σ H x y v u Q I rx ry h
  obtain ⟨a, b, xs, rfl, rfl, ha, hb, q⟩ := h
  cases rx
  cases ry
  obtain ⟨its, r, p, _⟩ := I.list ha
  obtain ⟨its2, r2, p2, _⟩ := I.list hb
  cases r2
  cases xs with
  | nil =>
    cases r
    exact SeqAt.eq_listAt (e := fun _ => true) p.isList p2.isList rfl hu (fun j h1 _ => absurd h1 (by simp)) ⟨.bl true, H, I, rfl, q⟩
  | cons y ys =>
    refine SeqAt.eq_list_lengthsAt p.isList p2.isList ?_ hu ⟨.bl false, H, I, rfl, q⟩
    cases r with
    | cons r1 r2 => simp
theorem fold_size (x : Array Nat) : ∀ (n : Nat) (acc : Array Nat), ((List.replicate n x).foldl (· ++ ·) acc).size = acc.size + n * x.size
  | 0, acc => by simp
  | n + 1, acc => by
    rw [List.replicate_succ, List.foldl_cons, fold_size x n, Array.size_append, Nat.succ_mul]
    omega
/-- a text times a number: some text of that length -/
theorem op_mulS : OpR X (binaryOp .Mult) (fun x y H Q => ∃ (s : Str) (n : Nat), x = V.str s ∧ y = V.int (n : Int) ∧ 1 < n ∧ n ≤ 5000 ∧ s.length = 1 ∧ ∀ z : Str, z.length = n → Q (.str z) H) := by
  intro pins s σ H x y v u Q I rx ry h
  obtain ⟨a, n, rfl, rfl, h1, h2, hl, q⟩ := h
  obtain ⟨t, rfl⟩ := rx
  obtain ⟨t', rfl⟩ := ry
  have hs : sizeLine = 16777216 := sizeLine_eq
  have hn : ¬ ((n : Int) < 1) := by omega
  have hb : ((n : Int) == 1 || a.length == 0) = false := by
    rw [hl]
    simp
    omega
  have e : (⟨(List.replicate ((n : Int)).toNat a.cps).foldl (· ++ ·) #[]⟩ : Str).length = n := by
    show ((List.replicate ((n : Int)).toNat a.cps).foldl (· ++ ·) #[]).size = n
    rw [fold_size]
    show 0 + ((n : Int)).toNat * a.length = n
    rw [hl]
    omega
  refine PySem.P.mul_str ?_ (fun _ _ => ?_) (fun _ _ => ?_) ?_
  · have c1 : ¬ ((n : Int) < -(2 ^ 63 : Int)) := by omega
    have c2 : ¬ ((n : Int) ≥ 2 ^ 63) := by omega
    rw [decide_eq_false c1, decide_eq_false c2]
    rfl
  · rw [hl]
    have h3 : 1 ≤ (2 ^ 63 - 1 : Int) / (n : Int) := by
      rw [Int.le_ediv_iff_mul_le (by omega)]
      omega
    omega
  · rw [hl]
    unfold Builtin.Str.tooLong
    exact decide_eq_false (by omega)
  · rw [if_neg hn, if_neg (by rw [hb]; decide)]
    exact ⟨by rw [e, hs]; omega, ⟨.str _, H, I.tok _, ⟨_, rfl⟩, q _ e⟩⟩
/-- set(t), t a tuple of ints -/
def rSetT (K : PySem.W.Frag) (w : World) : List V → Hp → VK → Prop := fun vs H Q => ∃ (a : Addr) (ns : List Int), vs = [V.ref a] ∧ SqT K H a (ns.map V.int) ∧ ns.length ≤ 60 ∧
  ∀ (p : Addr) (c : Nat), c ≤ ns.length → H p = none → Q (.ref p) (upd H p (SetO w p (fun j => decide (j ∈ ns)) c))
theorem cr_setT (hc : X.calm = true) : CallR X (.type "set") (rSetT X.K X.w) := by
  intro pins s σ H xs us Q I r h
  obtain ⟨a, ns, rfl, ha, hl, q⟩ := h
  obtain ⟨u, rfl, rx⟩ := vals1 r
  cases rx
  obtain ⟨its, ri, p, _⟩ := I.tuple ha
  have hb : ns.length + 1 < scanBound := Nat.lt_of_le_of_lt (Nat.succ_le_succ hl) (by decide)
  refine L2.call_set_tupI ns (I.ok.hd hc) p (by simpa using intsAre_of ri) hb fun h' tk c R hcl hk => ?_
  exact ⟨.ref _, upd H s.heap.objs.size (SetO X.w s.heap.objs.size (fun j => decide (j ∈ ns)) c), I.laid (t' := tk) hk (Nat.le_refl _) (setO_new R), rfl, q _ c hcl (I.hok.fresh (Nat.le_refl _))⟩
/-- repr of data (where no repr is under way) -/
def rRepr (K : PySem.W.Frag) : List V → Hp → VK → Prop := fun vs H Q => ∃ x d, vs = [V.ref x] ∧ Dp K H (.ref x) d ∧ d.showable = true ∧ d.hasDict = false ∧ d.depth ≤ 60 ∧ d.shown.length ≤ sizeLine ∧ Q (.str d.shown) H
theorem cr_repr (hg : X.A.guards = some []) (hu : X.A.units + 64 < cLine) : CallR X (.builtin "repr") (rRepr X.K) := by
  intro pins s σ H xs us Q I r h
  obtain ⟨a, d, rfl, hd, h1, h2, h3, h4, q⟩ := h
  obtain ⟨u, rfl, rx⟩ := vals1 r
  cases rx
  obtain ⟨as, rr⟩ := Dp.reads I d _ _ hd rfl
  refine repr_of_reads' rr h1 (fun z => by rw [h2] at z; cases z) hg (by omega) (fun b o e => e) (fun h' u tk hk => ?_) h4
  exact ⟨.str d.shown, H, I.kept hk, ⟨_, rfl⟩, q⟩
end
end K0

namespace K0
open PySem L2 Evl
/-! ### the heap but for one list -/
def hid (o : Option Addr) (H : Hp) : Hp := fun b => if o = some b then none else H b
section
variable {o : Option Addr} {a : Addr} {H H' H'' : Hp}
theorem hid_ex (e : Ex H H') : Ex (hid o H) (hid o H') := fun b u h => by
  unfold hid at h ⊢
  split at h
  · cases h
  · rename_i n
    rw [if_neg n]
    exact e b u h
theorem hid_le : Ex (hid o H) H := fun b u h => by
  unfold hid at h
  split at h
  · cases h
  · exact h
theorem hid_none : hid none H = H := by
  funext b
  unfold hid
  rw [if_neg (by simp)]
theorem hid_at {b : Addr} {u : HO} (h : H b = some u) (n : b ≠ a) : hid (some a) H b = some u := by
  unfold hid
  rw [if_neg (by simpa using fun z => n z.symm)]
  exact h
/-- all but what stands at a is as it was -/
def Bt (a : Addr) (H H' : Hp) : Prop := Ex (hid (some a) H) (hid (some a) H')
theorem Bt.refl : Bt a H H := Ex.refl _
theorem Bt.trans (h : Bt a H H') (h' : Bt a H' H'') : Bt a H H'' := Ex.trans h h'
theorem Bt.of (e : Ex H H') : Bt a H H' := hid_ex e
theorem Bt.upd {u : HO} : Bt a H (L2.upd H a u) := fun b v h => by
  unfold hid at h ⊢
  split at h
  · cases h
  · rename_i n
    have n' : b ≠ a := fun z => n (by rw [z])
    rw [if_neg n, upd_ne n']
    exact h
theorem Bt.at {b : Addr} {u : HO} (e : Bt a H H') (n : b ≠ a) (h : H b = some u) : H' b = some u := hid_le _ _ (e _ _ (hid_at h n))
theorem Bt.sqL {K : PySem.W.Frag} {b : Addr} {xs : List V} (e : Bt a H H') (n : b ≠ a) (h : SqL K H b xs) : SqL K H' b xs := by
  rcases h with (h | ⟨o, h⟩) | h
  · exact .inl (.inl (e.at n h))
  · exact .inl (.inr ⟨o, e.at n h⟩)
  · exact .inr h
theorem Bt.sqT {K : PySem.W.Frag} {b : Addr} {xs : List V} (e : Bt a H H') (n : b ≠ a) (h : SqT K H b xs) : SqT K H' b xs := by
  rcases h with (h | ⟨o, h⟩) | h
  · exact .inl (.inl (e.at n h))
  · exact .inl (.inr ⟨o, e.at n h⟩)
  · exact .inr h
theorem Bt.free {b : Addr} (e : Bt a H H') (n : b ≠ a) (h : H' b = none) : H b = none := by
  cases z : H b with
  | none => rfl
  | some u =>
    rw [e.at n z] at h
    cases h
end
def DiceAt (H : Hp) (a : Addr) : Prop := ∃ d0 d1 d2 : Int, H a = some (.lst [.int d0, .int d1, .int d2])
theorem DiceAt.ex {H H' : Hp} {a : Addr} (e : Ex H H') (h : DiceAt H a) : DiceAt H' a := by
  obtain ⟨x, y, z, h⟩ := h
  exact ⟨x, y, z, e _ _ h⟩
theorem DiceAt.ne {H : Hp} {a p : Addr} (h : DiceAt H a) (hp : H p = none) : p ≠ a := by
  obtain ⟨x, y, z, h⟩ := h
  exact (ne_of_none h hp).symm
section
variable {K : PySem.W.Frag} {σ : L2.St} {H H' : Hp} {ta tb te tx : TE} {t u : TT} {x y z v : V}
theorem rc_abs {i : Int} : RC (fun xs H Q => ∃ i, xs = [.int i] ∧ Q (.int (if i < 0 then -i else i)) H) [.int i] H (.int (if i < 0 then -i else i)) := fun H1 _ _ q => ⟨i, rfl, q H1 (Ex.refl _)⟩
theorem rc_max2 {i j : Int} : RC (fun xs H Q => ∃ i j, xs = [.int i, .int j] ∧ Q (.int (if j > i then j else i)) H) [.int i, .int j] H (.int (if j > i then j else i)) := fun H1 _ _ q => ⟨i, j, rfl, q H1 (Ex.refl _)⟩
theorem rc_min2 {i j : Int} : RC (fun xs H Q => ∃ i j, xs = [.int i, .int j] ∧ Q (.int (if j < i then j else i)) H) [.int i, .int j] H (.int (if j < i then j else i)) := fun H1 _ _ q => ⟨i, j, rfl, q H1 (Ex.refl _)⟩
theorem rc_int1 {i : Int} : RC (fun xs H Q => (∃ i, xs = [.int i] ∧ Q (.int i) H) ∨ ∃ k, xs = [.bl k] ∧ Q (.int (if k then 1 else 0)) H) [.int i] H (.int i) := fun H1 _ _ q => Or.inl ⟨i, rfl, q H1 (Ex.refl _)⟩
theorem rc_intB {b : Bool} : RC (fun xs H Q => (∃ i, xs = [.int i] ∧ Q (.int i) H) ∨ ∃ k, xs = [.bl k] ∧ Q (.int (if k then 1 else 0)) H) [.bl b] H (.int (if b then 1 else 0)) := fun H1 _ _ q => Or.inr ⟨b, rfl, q H1 (Ex.refl _)⟩
theorem rv_pow {i : Int} {n : Nat} (h : n ≤ 1000000) (hi : i.natAbs < 2 ^ 64) : RV (rI CPow fun i j => .int (i ^ j.toNat)) (.int i) (.int (n : Int)) H (.int (i ^ n)) := rv_I (by exact ⟨by omega, by omega, hi⟩)
/-- a chosen value -/
theorem ev_ifv {b : Bool} {v w : V} (h : EvT t σ H b) (h1 : b = true → Ev ta σ H v) (h2 : b = false → Ev tb σ H w) : Ev (tIf t ta tb) σ H (if b then v else w) := by
  cases b with
  | true => exact ev_if h (fun _ => h1 rfl) (fun z => by cases z)
  | false => exact ev_if h (fun z => by cases z) (fun _ => h2 rfl)
end
section
variable {P : Program} {w : World} {K : PySem.W.Frag} {mg : Str → Option Value} {base : Heap} {A : Ad} {D : Fd}
def sp_law_dice (K : PySem.W.Frag) : Sp := fun vs H Q _ => ∃ (a : Addr) (ns : List Int) (i : Nat), vs = [.ref a, .int (i : Int)] ∧ SqL K H a (ns.map V.int) ∧ ∀ p H', H p = none → Ex H H' → DiceAt H' p → Q (.ref p) H'
theorem len_law_dice {vs : List V} {H : Hp} {Q : VK} {E : XK} (h : sp_law_dice K vs H Q E) : vs.length = 2 := by
  obtain ⟨a, ns, i, rfl, _⟩ := h
  rfl
theorem ok_law_dice (T : Txt K mg A D) : FnOk P w K mg base CX0 1 A.law_dice D.law_dice ["script", "spot"] (sp_law_dice K) := by
  refine T.F_law_dice.ok sc_law_dice (fun vs H Q E h => len_law_dice h) (fun cdv A0 outer s H vs Q E hr h => ?_)
  refine ⟨_, (pss_cons (ps_set (i := 2) sc_law_dice.nd rfl (Or.inl rfl) (pe_ifExp (pt_cmpR op_lt (pv 1) (pe_callB call_len (by rfl) T.b_len (by decide +kernel) (pa_cons (pv 0) pa_nil)) (nomark _)) (pe_callTy call_int1 (by rfl) T.b_int (by decide +kernel) (pa_cons (pe_ix ix_list (pv 0) (pv 1) (fun _ _ => rfl)) pa_nil)) (pe_op op_add (pe_op op_mul pe_int (pv 1)) pe_int)))
  (pss_cons (ps_set (i := 3) sc_law_dice.nd rfl (Or.inl rfl) (pe_op op_mod (pe_callB (call_max2 rfl) (by rfl) T.b_max (by decide +kernel) (pa_cons pe_int (pa_cons (pe_op op_sub (pe_callB call_abs (by rfl) T.b_abs (by decide +kernel) (pa_cons (pv 2) pa_nil)) (pe_op op_pow pe_int pe_int)) pa_nil))) (pe_op op_mulW (pe_op op_pow pe_int pe_int) (pe_op op_pow pe_int pe_int))))
  (pss_one (ps_ret (pe_lst (pa_cons (pv 3) (pa_cons (pe_op op_add (pe_op op_add (pe_op op_add (pe_op op_mul (pe_op op_mod (pe_callB call_abs (by rfl) T.b_abs (by decide +kernel) (pa_cons (pv 2) pa_nil)) pe_int) pe_int) (pe_op op_mul pe_int (pv 1))) (pe_op op_mul pe_int (pe_callTy call_int1 (by rfl) T.b_int (by decide +kernel) (pa_cons (pe_cmpR op_lt (pv 2) pe_int (nomark _)) pa_nil)))) pe_int) (pa_cons pe_int pa_nil)))))))), ?_⟩
  obtain ⟨a, ns, i, rfl, ha, k⟩ := h
  refine q_asg (v := .int (if i < ns.length then ns.getD i 0 else 97 * (i : Int) + 61)) ?_ fun H1 e1 => ?_
  · refine ev_is (ev_ifv (b := decide ((i : Int) < (ns.length : Int))) (v := .int (ns.getD i 0)) (w := .int (97 * (i : Int) + 61)) (et_test (ev_is (ev_op (ev_var rfl) (ev_cb (ea_cons (ev_var rfl) ea_nil) (rc_lenL ha)) rv_I0) (by rw [List.length_map]))) (fun hb => ?_) (fun hb => ?_)) ?_
    · have hi : i < ns.length := by have := of_decide_eq_true hb; omega
      refine ev_cb (ea_cons (ev_op (ev_var rfl) (ev_var rfl) (rv_ixL ha (at_of (j := i) rfl ?_))) ea_nil) rc_int1
      rw [List.getElem?_map, List.getD_eq_getElem?_getD, List.getElem?_eq_getElem hi]
      rfl
    · exact ev_op (ev_op ev_c (ev_var rfl) (rv_I (.inl ⟨by decide, by decide⟩))) ev_c rv_I0
    · by_cases c : i < ns.length
      · rw [if_pos c, if_pos (decide_eq_true (by omega))]
      · rw [if_neg c, if_neg (by rw [decide_eq_false (by omega)]; decide)]
  generalize (if i < ns.length then ns.getD i 0 else 97 * (i : Int) + 61) = c
  refine q_asg (ev_op (ev_cb (ea_cons ev_c (ea_cons (ev_op (ev_cb (ea_cons (ev_var rfl) ea_nil) rc_abs) (ev_op ev_c ev_c (rv_pow (n := 16) (by decide) (by decide))) rv_I0) ea_nil)) rc_max2)
    (ev_op (ev_op ev_c ev_c (rv_pow (n := 57) (by decide) (by decide))) (ev_op ev_c ev_c (rv_pow (n := 60) (by decide) (by decide))) (rv_I (by show _ < _; decide +kernel))) (rv_I (by decide +kernel))) fun H2 e2 => ?_
  refine s_retL (el_lst (ea_cons (ev_var rfl) (ea_cons (ev_op (ev_op (ev_op (ev_op (ev_op (ev_cb (ea_cons (ev_var rfl) ea_nil) rc_abs) ev_c (rv_I (by decide))) ev_c (rv_I (.inr ⟨by decide, by decide⟩)))
    (ev_op ev_c (ev_var rfl) (rv_I (.inl ⟨by decide, by decide⟩))) rv_I0) (ev_op ev_c (ev_cb (ea_cons (ev_op (ev_var rfl) ev_c rv_I0) ea_nil) rc_intB) (rv_I (.inl ⟨by decide, by decide⟩))) rv_I0) ev_c rv_I0) (ea_cons ev_c ea_nil))) (by simp)) fun p H3 hp e3 h3 => ?_
  exact k p H3 (fresh_back (e1.trans e2) hp) ((e1.trans e2).trans e3) ⟨_, _, _, h3⟩
def sp_law_roll (K : PySem.W.Frag) : Sp := fun vs H Q _ => ∃ (a : Addr) (m : Int), vs = [.ref a, .int m] ∧ DiceAt H a ∧ 0 < m ∧ m < 1000000 ∧ ∀ r H', 0 ≤ r → r < m → Bt a H H' → DiceAt H' a → Q (.int r) H'
theorem len_law_roll {vs : List V} {H : Hp} {Q : VK} {E : XK} (h : sp_law_roll K vs H Q E) : vs.length = 2 := by
  obtain ⟨a, m, rfl, _⟩ := h
  rfl
theorem ok_law_roll (T : Txt K mg A D) : FnOk P w K mg base CX0 1 A.law_roll D.law_roll ["dice", "most"] (sp_law_roll K) := by
  refine T.F_law_roll.ok sc_law_roll (fun vs H Q E h => len_law_roll h) (fun cdv A0 outer s H vs Q E hr h => ?_)
  refine ⟨_, (pss_cons (ps_if (pt_cmpR op_gt (pe_ix ix_list (pv 0) pe_int (fun _ _ => rfl)) pe_int (nomark _)) (pss_cons (ps_set (i := 2) sc_law_roll.nd rfl (Or.inl rfl) (pe_op op_mod (pe_callTy call_int1 (by rfl) T.b_int (by decide +kernel) (pa_cons (pe_ix ix_list (pv 0) pe_int (fun _ _ => rfl)) pa_nil)) (pv 1)))
  (pss_cons (ps_asg (pe_op op_fdiv (pe_ix ix_list (pv 0) pe_int (fun _ _ => rfl)) (pv 1)) (pg_sub (pv 0) pe_int set_list))
  (pss_one (ps_ret (pv 2))))) pss_nil)
  (pss_cons (ps_asg (pe_op op_add (pe_ix ix_list (pv 0) pe_int (fun _ _ => rfl)) pe_int) (pg_sub (pv 0) pe_int set_list))
  (pss_cons (ps_set (i := 3) sc_law_roll.nd rfl (Or.inl rfl) (pe_op op_mod (pe_callTy call_int1 (by rfl) T.b_int (by decide +kernel) (pa_cons (pe_op op_add (pe_ix ix_list (pv 0) pe_int (fun _ _ => rfl)) (pe_op op_mul pe_int (pe_ix ix_list (pv 0) pe_int (fun _ _ => rfl)))) pa_nil)) pe_int))
  (pss_cons (ps_set (i := 4) sc_law_roll.nd rfl (Or.inl rfl) (pe_op op_add (pe_op op_mul (pe_op op_mod (pe_callTy call_int1 (by rfl) T.b_int (by decide +kernel) (pa_cons (pe_op op_add (pe_op op_mul (pv 3) (pv 3)) (pe_op op_mul pe_int (pe_ix ix_list (pv 0) pe_int (fun _ _ => rfl)))) pa_nil)) pe_int) pe_int) (pv 3)))
  (pss_one (ps_ret (pe_op op_mod (pe_callTy call_int1 (by rfl) T.b_int (by decide +kernel) (pa_cons (pe_op op_fdiv (pv 4) pe_int) pa_nil)) (pv 1)))))))), ?_⟩
  obtain ⟨a, m, rfl, ⟨d0, d1, d2, ha⟩, hm, hm2, k⟩ := h
  have hmod : ∀ x : Int, 0 ≤ x % m ∧ x % m < m := fun x => ⟨Int.emod_nonneg _ (by omega), Int.emod_lt_of_pos _ hm⟩
  refine q_when (b := decide (0 < d0)) (et_test (ev_op (ev_op (ev_var rfl) ev_c (rv_ixL (sq_of ha) (at_of (j := 0) rfl rfl))) ev_c rv_I0)) (fun hb H1 e1 => ?_) (fun hb H1 e1 => ?_)
  · have h1 := e1 _ _ ha
    refine q_asg (ev_op (ev_cb (ea_cons (ev_op (ev_var rfl) ev_c (rv_ixL (sq_of h1) (at_of (j := 0) rfl rfl))) ea_nil) rc_int1) (ev_var rfl) (rv_I hm)) fun H2 e2 => ?_
    have h2 := e2 _ _ h1
    refine q_setL (j := 0) h2 (ev_op (ev_op (ev_var rfl) ev_c (rv_ixL (sq_of h2) (at_of (j := 0) rfl rfl))) (ev_var rfl) (rv_I ⟨hm, by omega⟩)) (ev_var rfl) ev_c (by simp) fun H3 e3 => ?_
    refine s_ret (ev_var rfl) fun H4 e4 => ?_
    exact k _ H4 (hmod _).1 (hmod _).2 ((Bt.of ((e1.trans e2).trans e3)).trans (Bt.upd.trans (Bt.of e4))) ⟨_, _, _, e4 _ _ upd_same⟩
  · have h1 := e1 _ _ ha
    refine q_setL (j := 2) h1 (ev_op (ev_op (ev_var rfl) ev_c (rv_ixL (sq_of h1) (at_of (j := 2) rfl rfl))) ev_c rv_I0) (ev_var rfl) ev_c (by simp) fun H2 e2 => ?_
    have h2 : (L2.upd H2 a (.lst [.int d0, .int d1, .int (d2 + 1)])) a = some (.lst [.int d0, .int d1, .int (d2 + 1)]) := upd_same
    refine q_asg (v := .int ((d1 + 71593063 * (d2 + 1)) % 2305843009213693487)) (ev_op (ev_cb (ea_cons (ev_op (ev_op (ev_var rfl) ev_c (rv_ixL (sq_of h2) (at_of (j := 1) rfl rfl))) (ev_op ev_c (ev_op (ev_var rfl) ev_c (rv_ixL (sq_of h2) (at_of (j := 2) rfl rfl))) (rv_I (.inl ⟨by decide, by decide⟩))) rv_I0) ea_nil) rc_int1) ev_c (rv_I (by decide))) fun H3 e3 => ?_
    have h3 := e3 _ _ h2
    have hone : 0 ≤ (d1 + 71593063 * (d2 + 1)) % 2305843009213693487 ∧ (d1 + 71593063 * (d2 + 1)) % 2305843009213693487 < 2305843009213693487 := ⟨Int.emod_nonneg _ (by decide), Int.emod_lt_of_pos _ (by decide)⟩
    generalize (d1 + 71593063 * (d2 + 1)) % 2305843009213693487 = one at hone ⊢
    refine q_asg (v := .int ((one * one + 89 * (d2 + 1)) % 2305843009213693253 * 6700417 + one)) (ev_op (ev_op (ev_op (ev_cb (ea_cons (ev_op (ev_op (ev_var rfl) (ev_var rfl) (rv_I (.inl ⟨by omega, by omega⟩))) (ev_op ev_c (ev_op (ev_var rfl) ev_c (rv_ixL (sq_of h3) (at_of (j := 2) rfl rfl))) (rv_I (.inl ⟨by decide, by decide⟩))) rv_I0) ea_nil) rc_int1) ev_c (rv_I (by decide))) ev_c (rv_I (.inr ⟨by decide, by decide⟩))) (ev_var rfl) rv_I0) fun H4 e4 => ?_
    refine s_ret (ev_op (ev_cb (ea_cons (ev_op (ev_var rfl) ev_c (rv_I ⟨by decide, by decide⟩)) ea_nil) rc_int1) (ev_var rfl) (rv_I hm)) fun H5 e5 => ?_
    exact k _ H5 (hmod _).1 (hmod _).2 ((Bt.of (e1.trans e2)).trans (Bt.upd.trans (Bt.of ((e3.trans e4).trans e5)))) ⟨_, _, _, ((e3.trans e4).trans e5) _ _ h2⟩
def sp_law_pick (K : PySem.W.Frag) : Sp := fun vs H Q _ => ∃ (a p : Addr) (xs : List V), vs = [.ref a, .ref p] ∧ DiceAt H a ∧ p ≠ a ∧ SqL K H p xs ∧ xs ≠ [] ∧ xs.length < 1000000 ∧ ∀ x H', x ∈ xs → Bt a H H' → DiceAt H' a → Q x H'
theorem len_law_pick {vs : List V} {H : Hp} {Q : VK} {E : XK} (h : sp_law_pick K vs H Q E) : vs.length = 2 := by
  obtain ⟨a, p, xs, rfl, _⟩ := h
  rfl
theorem ok_law_pick (T : Txt K mg A D) : FnOk P w K mg base CX0 2 A.law_pick D.law_pick ["dice", "items"] (sp_law_pick K) := by
  have G_law_roll : FnOk P w K mg base CX0 1 A.law_roll D.law_roll ["dice", "most"] (sp_law_roll K) := ok_law_roll T
  refine T.F_law_pick.ok sc_law_pick (fun vs H Q E h => len_law_pick h) (fun cdv A0 outer s H vs Q E hr h => ?_)
  refine ⟨_, (pss_one (ps_ret (pe_ix ix_list (pv 1) (pe_call G_law_roll (hr.mono (by decide)) rfl T.g_law_roll T.F_law_roll.kp T.b_law_roll .nil pass0 (pa_cons (pv 0) (pa_cons (pe_callB call_len (by rfl) T.b_len (by decide +kernel) (pa_cons (pv 1) pa_nil)) pa_nil))) (fun _ _ => rfl)))), ?_⟩
  obtain ⟨a, p, xs, rfl, ha, hne, hp, hx, hx2, k⟩ := h
  have hpos : 0 < xs.length := List.length_pos_iff.mpr hx
  refine ⟨_, rfl, ?_⟩
  refine (ea_cons (ev_var rfl) (ea_cons (ev_cb (ea_cons (ev_var rfl) ea_nil) (rc_lenL hp)) ea_nil) : EvA _ _ H [.ref a, .int (xs.length : Nat)]) H (Ex.refl _) _ fun H1 e1 => ?_
  refine ⟨a, _, rfl, ha.ex e1, by omega, by omega, fun r H2 h0 h1 hb hd => ?_⟩
  have hbt := (Bt.of e1).trans hb
  have hj : r.toNat < xs.length := by omega
  refine ⟨p, xs, r, xs[r.toNat], rfl, rfl, hbt.sqL hne hp, at_of (j := r.toNat) (by omega) (List.getElem?_eq_getElem hj), ?_⟩
  exact k _ H2 (List.getElem_mem hj) hbt hd
end
end K0

namespace K0
open PySem L2 Evl
/-! ### what evaluates to some value of which R holds -/
def Mono (R : V → Hp → Prop) : Prop := ∀ v H H', Ex H H' → R v H → R v H'
def EvR (te : TE) (σ : L2.St) (H : Hp) (R : V → Hp → Prop) : Prop := ∀ H1, Ex H H1 → ∀ Q : VK, (∀ v H2, Ex H1 H2 → R v H2 → Q v H2) → te σ H1 Q
def EvAR (ta : TA) (σ : L2.St) (H : Hp) (n : Nat) (R : V → Hp → Prop) : Prop := ∀ H1, Ex H H1 → ∀ Q : List V → Hp → Prop, (∀ vs H2, Ex H1 H2 → vs.length = n → (∀ v ∈ vs, R v H2) → Q vs H2) → ta σ H1 Q
/-- a value of which the part of the heap but for o tells data of at most this size -/
def Rz (K : PySem.W.Frag) (o : Option Addr) (s : Nat) : V → Hp → Prop := fun v H => ∃ d, Rp K (hid o H) v d ∧ d.size ≤ s
def live (o : Option Addr) (H : Hp) : Prop := ∀ a, o = some a → H a ≠ none
section
variable {K : PySem.W.Frag} {σ : L2.St} {H H' : Hp} {ta tb te tx : TE} {tr : TA} {t u : TT} {x y z v : V} {R : V → Hp → Prop} {n s s' : Nat} {o : Option Addr}
theorem mono_Rz : Mono (Rz K o s) := fun v H H' e ⟨d, h, hs⟩ => ⟨d, h.ex (hid_ex e), hs⟩
theorem Rz.le (h : Rz K o s v H) (hs : s ≤ s') : Rz K o s' v H := let ⟨d, r, z⟩ := h; ⟨d, r, Nat.le_trans z hs⟩
theorem live.ex (h : live o H) (e : Ex H H') : live o H' := fun a ha => by
  cases z : H a with
  | none => exact absurd z (h a ha)
  | some u =>
    rw [e a u z]
    simp
theorem live.new {p : Addr} {u : HO} (h : live o H) (hp : H p = none) : hid o (upd H p u) p = some u := by
  unfold hid
  rw [if_neg, upd_same]
  intro z
  exact h p z hp
theorem live_of {a : Addr} (h : DiceAt H a) : live (some a) H := fun b hb => by
  obtain ⟨d0, d1, d2, h⟩ := h
  have e := Option.some.inj hb
  subst e
  rw [h]
  simp
theorem live_none : live none H := fun b hb => by cases hb
theorem er_ev (h : Ev te σ H v) (hr : ∀ H', R v H') : EvR te σ H R := fun H1 e Q q => h H1 e Q fun H2 e2 => q v H2 e2 (hr H2)
theorem ear_nil : EvAR tNil σ H 0 R := fun H1 _ _ q => q [] H1 (Ex.refl _) rfl (fun v h => by cases h)
theorem ear_cons (hm : Mono R) (h : EvR te σ H R) (hr : EvAR tr σ H n R) : EvAR (tCons te tr) σ H (n + 1) R := fun H1 e Q q =>
  h H1 e _ fun v H2 e2 hv => hr H2 (e.trans e2) _ fun vs H3 e3 hl hvs => q (v :: vs) H3 (e2.trans e3) (by rw [List.length_cons, hl]) fun w hw => by
    rcases List.mem_cons.mp hw with hw | hw
    · rw [hw]
      exact hm _ _ _ e3 hv
    · exact hvs w hw
def EvAL (ta : TA) (σ : L2.St) (H : Hp) (n : Nat) (R : V → Hp → Prop) : Prop := ∀ H1, Ex H H1 → ∀ Q : List V → Hp → Prop, (∀ vs H2, Ex H1 H2 → vs.length ≤ n → (∀ v ∈ vs, R v H2) → Q vs H2) → ta σ H1 Q
theorem eal_nil : EvAL tNil σ H n R := fun H1 _ _ q => q [] H1 (Ex.refl _) (Nat.zero_le _) (fun v h => by cases h)
theorem eal_cons (hm : Mono R) (h : EvR te σ H R) (hr : EvAL tr σ H n R) : EvAL (tCons te tr) σ H (n + 1) R := fun H1 e Q q =>
  h H1 e _ fun v H2 e2 hv => hr H2 (e.trans e2) _ fun vs H3 e3 hl hvs => q (v :: vs) H3 (e2.trans e3) (by rw [List.length_cons]; omega) fun w hw => by
    rcases List.mem_cons.mp hw with hw | hw
    · rw [hw]
      exact hm _ _ _ e3 hv
    · exact hvs w hw
theorem rpAll_of {G : Hp} : ∀ {vs : List V}, (∀ v ∈ vs, ∃ d, Rp K G v d ∧ d.size ≤ s) → ∃ ds, RpAll K G vs ds ∧ D.sizeL ds ≤ vs.length * s
  | [], _ => ⟨[], .nil, Nat.zero_le _⟩
  | v :: vs, h => by
    obtain ⟨d, h1, h2⟩ := h v List.mem_cons_self
    obtain ⟨ds, h3, h4⟩ := rpAll_of (vs := vs) fun w hw => h w (List.mem_cons_of_mem _ hw)
    refine ⟨d :: ds, .cons h1 h3, ?_⟩
    rw [List.length_cons, Nat.succ_mul]
    simp only [D.sizeL]
    omega
theorem er_tup (hl : live o H) (h : EvAL tr σ H n (Rz K o s)) (hn : n ≤ 1000) (hs : 1 + n * s ≤ s') : EvR (tTup tr) σ H (Rz K o s') := fun H1 e Q q =>
  h H1 e _ fun vs H2 e2 hlen hvs => ⟨sz_of (by omega), fun p hp => by
    have hl2 := hl.ex (e.trans e2)
    refine q (.ref p) _ (e2.trans (Ex.new hp)) ?_
    obtain ⟨ds, h1, h2⟩ := rpAll_of hvs
    refine ⟨.tup ds, .tup (st_of (hl2.new hp)) (h1.ex (hid_ex (Ex.new hp))), ?_⟩
    have h5 : vs.length * s ≤ n * s := Nat.mul_le_mul_right s hlen
    simp only [D.size]
    omega⟩
theorem er_lst (hl : live o H) (h : EvAL tr σ H n R) (hn : n ≤ 1000) (hs : 1 ≤ s') : EvR (tLst tr) σ H (Rz K o s') := fun H1 e Q q =>
  h H1 e _ fun vs H2 e2 hlen hvs => ⟨sz_of (by omega), fun p hp => q (.ref p) _ (e2.trans (Ex.new hp)) ⟨.oth, .lst ((hl.ex (e.trans e2)).new hp), hs⟩⟩
theorem er_dict (hl : live o H) (hs : 1 ≤ s') : EvR tDNewK σ H (Rz K o s') := fun H1 e Q q => fun p hp => q (.ref p) _ (Ex.new hp) ⟨.oth, .dct ((hl.ex e).new hp), hs⟩
theorem rz_non (h : 1 ≤ s) : Rz K o s .non H := ⟨.non, .non, h⟩
theorem rz_bl {b : Bool} (h : 1 ≤ s) : Rz K o s (.bl b) H := ⟨.bl b, .bl b, h⟩
theorem rz_int {i : Int} (h : 1 ≤ s) : Rz K o s (.int i) H := ⟨.int i, .int i, h⟩
theorem rz_str {z : Str} (h : 1 + z.length / 100 ≤ s) : Rz K o s (.str z) H := ⟨.str z, .str z, h⟩
theorem rv_pw {i j : Int} (h : 0 ≤ j ∧ j ≤ 1000000 ∧ i.natAbs < 2 ^ 64) : RV (rI CPow fun i j => .int (i ^ j.toNat)) (.int i) (.int j) H (.int (i ^ j.toNat)) := rv_I h
theorem er_mulS {a : Str} {n : Nat} (ha : Ev ta σ H (.str a)) (hb : Ev tb σ H (.int (n : Int))) (h1 : 1 < n) (h2 : n ≤ 5000) (hl : a.length = 1) (hs : 1 + n / 100 ≤ s) :
    EvR (tOp (fun x y H Q => ∃ (s : Str) (n : Nat), x = V.str s ∧ y = V.int (n : Int) ∧ 1 < n ∧ n ≤ 5000 ∧ s.length = 1 ∧ ∀ z : Str, z.length = n → Q (.str z) H) ta tb) σ H (Rz K o s) := fun H1 e Q q =>
  ha H1 e _ fun H2 e2 => hb H2 (e.trans e2) _ fun H3 e3 => ⟨a, n, rfl, rfl, h1, h2, hl, fun z hz => q (.str z) H3 (e2.trans e3) ⟨.str z, .str z, by simp only [D.size]; omega⟩⟩
/-- a call in a def that changes the heap -/
theorem c_call {sp : Sp} {dvs vs : List V} {E : XK} {ta : TA} {Q : VK} (h : EvA ta σ H vs) (k : ∀ H1, Ex H H1 → sp (vs ++ dvs) H1 Q E) : tCall sp dvs E ta σ H Q := h H (Ex.refl H) _ k
theorem s_retC {D : Ends} {sp : Sp} {dvs vs : List V} {E : XK} {ta : TA} (h : EvA ta σ H vs) (k : ∀ H1, Ex H H1 → sp (vs ++ dvs) H1 D.rt E) : tRet (tCall sp dvs E ta) D σ H := h H (Ex.refl H) _ k
theorem s_asgC {D : Ends} {sp : Sp} {dvs vs : List V} {E : XK} {ta : TA} {i : Nat} (h : EvA ta σ H vs) (k : ∀ H1, Ex H H1 → sp (vs ++ dvs) H1 (fun v H2 => D.nx (σ.set i (some v)) H2) E) : tAsg (tCall sp dvs E ta) (gName i) D σ H := h H (Ex.refl H) _ k
theorem q_asgC {D : Ends} {tz : TS} {sp : Sp} {dvs vs : List V} {E : XK} {ta : TA} {i : Nat} (h : EvA ta σ H vs) (k : ∀ H1, Ex H H1 → sp (vs ++ dvs) H1 (fun v H2 => tz D (σ.set i (some v)) H2) E) : tSeq (tAsg (tCall sp dvs E ta) (gName i)) tz D σ H := h H (Ex.refl H) _ k
/-- some = [..], some = some + [..] -/
theorem q_asgLR {D : Ends} {tz : TS} {i : Nat} (hm : Mono R) (h : EvAR tr σ H n R) (hn : n ≤ 1000) (k : ∀ p xs H1, H p = none → Ex H H1 → H1 p = some (.lst xs) → xs.length = n → (∀ v ∈ xs, R v H1) → tz D (σ.set i (some (.ref p))) H1) :
    tSeq (tAsg (tLst tr) (gName i)) tz D σ H :=
  h H (Ex.refl H) _ fun vs H1 e1 hl hvs => ⟨sz_of (by omega), fun p hp => k p vs _ (fresh_back e1 hp) (e1.trans (Ex.new hp)) upd_same hl fun v hv => hm _ _ _ (Ex.new hp) (hvs v hv)⟩
theorem q_asgCR {D : Ends} {tz : TS} {i : Nat} {q0 : Addr} {ys : List V} (hm : Mono R) (ha : Ev ta σ H (.ref q0)) (h0 : H q0 = some (.lst ys)) (hy : ∀ v ∈ ys, R v H) (h : EvAR tr σ H n R) (hn : n + ys.length ≤ 1000)
    (k : ∀ p xs H1, H p = none → Ex H H1 → H1 p = some (.lst xs) → xs.length = ys.length + n → (∀ v ∈ xs, R v H1) → tz D (σ.set i (some (.ref p))) H1) :
    tSeq (tAsg (tOp rCat ta (tLst tr)) (gName i)) tz D σ H :=
  ha H (Ex.refl H) _ fun H1 e1 => h H1 e1 _ fun vs H2 e2 hl hvs => ⟨sz_of (by omega), fun p hp => by
    have hq : q0 ≠ p := ne_of_none (e2 _ _ (e1 _ _ h0)) hp
    refine ⟨q0, p, ys, vs, rfl, rfl, by rw [upd_ne hq]; exact e2 _ _ (e1 _ _ h0), upd_same, sz_of (by omega), fun p2 hp2 => ?_⟩
    have e3 : Ex H2 (upd H2 p (.lst vs)) := Ex.new hp
    have e4 : Ex (upd H2 p (.lst vs)) (upd (upd H2 p (.lst vs)) p2 (.lst (ys ++ vs))) := Ex.new hp2
    refine k p2 (ys ++ vs) _ (fresh_back ((e1.trans e2).trans e3) hp2) (((e1.trans e2).trans e3).trans e4) upd_same (by rw [List.length_append, hl]) fun v hv => ?_
    rcases List.mem_append.mp hv with hv | hv
    · exact hm _ _ _ (((e1.trans e2).trans e3).trans e4) (hy v hv)
    · exact hm _ _ _ (e3.trans e4) (hvs v hv)⟩
end
end K0

namespace K0
open PySem L2 Evl
/-! ### lists may change, nothing else -/
def ExL (G G' : Hp) : Prop := ∀ b u, G b = some u → G' b = some u ∨ ∃ xs ys, u = .lst xs ∧ G' b = some (.lst ys)
theorem ExL.of {G G' : Hp} (e : Ex G G') : ExL G G' := fun b u h => .inl (e b u h)
theorem ExL.upd {G : Hp} {p : Addr} {xs ys : List V} (h : G p = some (.lst xs)) : ExL G (L2.upd G p (.lst ys)) := fun b u hb => by
  by_cases c : b = p
  · subst c
    rw [h] at hb
    exact .inr ⟨xs, ys, (Option.some.inj hb).symm, upd_same⟩
  · exact .inl (by rw [upd_ne c]; exact hb)
theorem ExL.trans {G G' G'' : Hp} (a : ExL G G') (b : ExL G' G'') : ExL G G'' := fun c u h => by
  rcases a c u h with h1 | ⟨xs, ys, rfl, h1⟩
  · exact b c u h1
  · rcases b c _ h1 with h2 | ⟨_, zs, _, h2⟩
    · exact .inr ⟨xs, ys, rfl, h2⟩
    · exact .inr ⟨xs, zs, rfl, h2⟩
theorem ExL.sqT {K : PySem.W.Frag} {G G' : Hp} {a : Addr} {xs : List V} (e : ExL G G') (h : SqT K G a xs) : SqT K G' a xs := by
  rcases h with (h | ⟨o, h⟩) | h
  · rcases e a _ h with h1 | ⟨_, _, z, _⟩
    · exact .inl (.inl h1)
    · cases z
  · rcases e a _ h with h1 | ⟨_, _, z, _⟩
    · exact .inl (.inr ⟨o, h1⟩)
    · cases z
  · exact .inr h
section
variable {K : PySem.W.Frag} {H H' : Hp}
mutual
theorem Rp.exL {v : V} {d : D} (e : ExL H H') : Rp K H v d → Rp K H' v d
  | .non => .non
  | .bl b => .bl b
  | .int i => .int i
  | .str s => .str s
  | .tup h r => .tup (e.sqT h) (RpAll.exL e r)
  | .lst h => by
    rcases e _ _ h with h1 | ⟨_, ys, _, h1⟩
    · exact .lst h1
    · exact .lst h1
  | .dct h => by
    rcases e _ _ h with h1 | ⟨_, _, z, _⟩
    · exact .dct h1
    · cases z
theorem RpAll.exL {vs : List V} {ds : List D} (e : ExL H H') : RpAll K H vs ds → RpAll K H' vs ds
  | .nil => .nil
  | .cons h r => .cons (Rp.exL e h) (RpAll.exL e r)
end
end
theorem hid_upd {a p : Addr} {H : Hp} {u : HO} (h : p ≠ a) : hid (some a) (upd H p u) = upd (hid (some a) H) p u := by
  funext b
  unfold hid upd
  by_cases c : b = p
  · subst c
    rw [if_neg (by simpa using fun z => h z.symm), if_pos rfl, if_pos rfl]
  · rw [if_neg c, if_neg c]
/-- a comprehension over a range whose elements are drawn -/
theorem lc_draws {te : TE} {vs : List Nat} {σ : L2.St} {j : Nat} {a : Addr} {n : Nat} {H1 : Hp} {R : V → Hp → Prop} {Q : VK} (hR : ∀ v H H', ExL (hid (some a) H) (hid (some a) H') → R v H → R v H') (hd : DiceAt H1 a) (hn : n ≤ 1000)
    (hw : ∀ x, wipe ((wipe σ vs).set j (some x)) vs = wipe σ vs)
    (turn : ∀ (i : Nat) H', i < n → Bt a H1 H' → DiceAt H' a → ∀ Q : VK, (∀ x H'', Bt a H' H'' → DiceAt H'' a → R x H'' → Q x H'') → te ((wipe σ vs).set j (some (.int ((0 : Int) + (i : Int))))) H' Q)
    (k : ∀ D xs H', H1 D = none → Bt a H1 H' → DiceAt H' a → H' D = some (.lst xs) → xs.length = n → (∀ x ∈ xs, R x H') → Q (.ref D) H') :
    ∀ D, H1 D = none → ∃ W : Nat → Nat → Hp → Prop, (∃ m, W 0 m (upd H1 D (.lst []))) ∧ ∀ i m H, W i m H →
      ((Itr 0 n).stop i H ∧ Q (.ref D) H) ∨ ((Itr 0 n).go i H ∧ ∃ Nx : Hp → Prop, (∀ H', Nx H' → ∃ m', m' < m ∧ W (i + 1) m' H') ∧ ∀ x H', (Itr 0 n).yld i H x H' → gName j x (wipe σ vs) H' fun σ2 H2 => wipe σ2 vs = wipe σ vs ∧ tYes σ2 H2 fun b H3 =>
        if b = true then te σ2 H3 fun y H4 => ∃ acc, H4 D = some (.lst acc) ∧ acc.length < sizeLine ∧ Nx (upd H4 D (.lst (acc ++ [y]))) else Nx H3) := fun D hD => by
  have hne : D ≠ a := hd.ne hD
  refine lc_range (lo := 0) (n := n) (fun i H' => i ≤ n ∧ ∃ acc, H' D = some (.lst acc) ∧ acc.length = i ∧ (∀ x ∈ acc, R x H') ∧ Bt a H1 H' ∧ DiceAt H' a) ⟨Nat.zero_le _, [], upd_same, rfl, fun x h => (by cases h), Bt.of (Ex.new hD), hd.ex (Ex.new hD)⟩ (fun i H' hi p => ?_) (fun H' p => ?_)
  · obtain ⟨_, acc, p1, p2, p3, p4, p5⟩ := p
    refine ⟨hw _, turn i H' hi p4 p5 _ fun x H'' hb hd2 hx => ?_⟩
    have h2 : H'' D = some (.lst acc) := hb.at hne p1
    have eL : ExL (hid (some a) H'') (hid (some a) (upd H'' D (.lst (acc ++ [x])))) := by
      rw [hid_upd hne]
      exact ExL.upd (hid_at h2 hne)
    refine ⟨acc, h2, sz_lt (by omega), hi, acc ++ [x], upd_same, by rw [List.length_append, p2]; rfl, fun y hy => ?_, ?_, ?_⟩
    · rcases List.mem_append.mp hy with hy | hy
      · exact hR _ _ _ ((ExL.of hb).trans eL) (p3 y hy)
      · rw [List.mem_singleton.mp hy]
        exact hR _ _ _ eL hx
    · have h3 := p4.trans hb
      intro b u hbu
      have := h3 b u hbu
      rw [hid_upd hne]
      have hbD : b ≠ D := fun z => by
        subst z
        have := hid_le _ _ hbu
        rw [hD] at this
        cases this
      rw [upd_ne hbD]
      exact this
    · obtain ⟨x0, x1, x2, h⟩ := hd2
      exact ⟨x0, x1, x2, by rw [upd_ne hne.symm]; exact h⟩
  · obtain ⟨_, acc, p1, p2, p3, p4, p5⟩ := p
    exact k D acc H' hD p4 p5 p1 p2 p3
/-- tuple(xs) -/
def rTupOf (K : PySem.W.Frag) : List V → Hp → VK → Prop := fun xs H Q => ∃ p ys, xs = [.ref p] ∧ ((SqL K H p ys ∧ ∀ l, H l = none → Q (.ref l) (upd H l (.tup ys))) ∨ (SqT K H p ys ∧ Q (.ref p) H))
theorem n_next {D : Ends} {σ : L2.St} {H : Hp} (h : D.nx σ H) : tNext D σ H := h
theorem n_ret {D : Ends} {σ : L2.St} {H : Hp} {te : TE} (h : te σ H D.rt) : tRet te D σ H := h
theorem n_cb {r : List V → Hp → VK → Prop} {t : TA} {σ : L2.St} {H : Hp} {Q : VK} (h : t σ H fun vs H1 => r vs H1 Q) : tCB r t σ H Q := h
theorem n_cons {te : TE} {t : TA} {σ : L2.St} {H : Hp} {Q : List V → Hp → Prop} (h : te σ H fun v H1 => t σ H1 fun vs H2 => Q (v :: vs) H2) : tCons te t σ H Q := h
theorem n_rng1 {ta : TA} {σ : L2.St} {H : Hp} {R : It → Hp → Prop} (h : ta σ H fun vs H1 => ∃ j : Int, vs = [.int j] ∧ -(2 ^ 62) ≤ j ∧ j < 2 ^ 62 ∧ R (Itr 0 j.toNat) H1) : iRng1 ta σ H R := h
end K0

namespace K0
open PySem PySem.Spec PyProof.Rows L2
/-! ### try with several clauses, of which some name the exception -/
/-- a clause: its class, the slot of its name, what its suite reads as -/
structure Clause where
  cls : Value
  at_ : Option Nat
  ts : Addr → Value → Option Addr → TS
def endsC (o : Option Nat) (D : Ends) : Ends := match o with
  | none => D
  | some i => { nx := fun u G => D.nx (u.set i none) G, rt := D.rt, bk := fun u G => D.bk (u.set i none) G, ct := fun u G => D.ct (u.set i none) G }
def slotC (o : Option Nat) (σ : L2.St) (a : Addr) : L2.St := match o with
  | none => σ
  | some i => σ.set i (some (.ref a))
def wClauses (K : PySem.W.Frag) (n : Nat) (Wz : WX) (D : Ends) : List Clause → WX
  | [] => Wz
  | q :: r => fun cls d σ H => ∃ b, PySem.W.exmOne K cls q.cls = some b ∧ (b = true → ∀ a, H a = none → σ.length = n → q.ts a cls d (endsC q.at_ D) (slotC q.at_ σ a) H) ∧ (b = false → wClauses K n Wz D r cls d σ H)
def SuiteOk (X : Cx) (sts : List Stmt) (ts : Addr → Value → Option Addr → TS) : Prop :=
  ∀ (a : Addr) (oe : Obj) (cls : Value) (d : Option Addr) (pn : List (Addr × Obj)), Zc cls d oe → (∃ vs, oe.data = .fields vs) → PSs (X.suite a ((a, oe) :: pn)) sts (ts a cls d)
inductive ClausesOk (X : Cx) : List ExceptHandler → List Clause → Prop
  | nil : ClausesOk X [] []
  | bare {x : Str} {c : Value} {ts : Addr → Value → Option Addr → TS} {s0 : Stmt} {sts : List Stmt} {p1 p2 : Pos} {es : List ExceptHandler} {l : List Clause} (hc : Names X x c) (hs : SuiteOk X (s0 :: sts) ts) (r : ClausesOk X es l) :
      ClausesOk X (.ExceptHandler (some (.Name x p1)) none (s0 :: sts) p2 :: es) (⟨c, none, ts⟩ :: l)
  | named {x n : Str} {c : Value} {i : Nat} {ts : Addr → Value → Option Addr → TS} {s0 : Stmt} {sts : List Stmt} {p1 p2 : Pos} {es : List ExceptHandler} {l : List Clause} (hc : Names X x c) (hN : X.N.Nodup) (hi : X.N[i]? = some n) (hl : X.env.kindOf n = some .local) (hs : SuiteOk X (s0 :: sts) ts) (r : ClausesOk X es l) :
      ClausesOk X (.ExceptHandler (some (.Name x p1)) (some n) (s0 :: sts) p2 :: es) (⟨c, some i, ts⟩ :: l)
section
variable {X : Cx} {body : List Stmt} {e0 : ExceptHandler} {es : List ExceptHandler} {l : List Clause} {pos : Pos} {tb : WX → TS} {Wz : WX}
theorem ps_clauses (st : X.stack = X.env :: X.outer) (fr : X.env.frame = some X.env.locals) (tk : Takes X Wz)
    (hb : ∀ (W : WX) (pn : List (Addr × Obj)) (xe : Value → Shared → Prop), Takes (X.tr pn xe) W → PassesOwn (model X.prog X.w) X.A X.env xe → PSs (X.tr pn xe) body (tb W))
    (hk : ClausesOk X (e0 :: es) l) : PS X (.Try body (e0 :: es) [] [] pos) (fun D σ H => tb (wClauses X.K X.N.length Wz D l) D σ H) := by
  refine ⟨fun pins s σ H D I h => ?_⟩
  have okX := I.ok
  have frs_ : X.A.frames = some (X.env :: X.outer) := by rw [okX.frames, st]
  refine wpAny_Try_except ?_
  have run_ := (hb (wClauses X.K X.N.length Wz D l) (X.pn ++ pins) (fun e t1 => wpAny (model X.prog X.w) X.A (noteFrame e X.env) (fun _ t2 => wpAny (model X.prog X.w) X.A (setFlight e none) (fun _ t3 => wpAny (model X.prog X.w) X.A (handleBy e X.env (e0 :: es)) (SP X pins D) X.xe t3) X.xe t2) X.xe t1)
    (fun u t xx => ?_) PassesOwn.looking).run [] s σ H D (I.toTry _) h
  · refine wpAny_mono run_ (fun f t z => ?_) (fun e t z => z)
    cases f with
    | next => exact let ⟨u, G, J, q⟩ := z; wpAny_execs_nil ⟨u, G, J.ofTry okX, q⟩
    | brk => exact let ⟨u, G, J, q⟩ := z; ⟨u, G, J.ofTry okX, q⟩
    | cont => exact let ⟨u, G, J, q⟩ := z; ⟨u, G, J.ofTry okX, q⟩
    | ret v => exact let ⟨y, u, G, J, r, q⟩ := z; ⟨y, u, G, J.ofTry okX, r, q⟩
  · obtain ⟨a, B, sI, pz, u1, G, cls, d, rfl, Jt, nb, up, sky, na, os, ag, w⟩ := xx
    have J : Inv X pins u1 G sI := Jt.ofTry okX
    rw [show (X.tr (X.pn ++ pins) _).stack = X.env :: X.outer from st] at sky
    show wpAny (model X.prog X.w) X.A (noteFrame (.ref a) X.env) _ _ _
    refine Sky.land Zc.steady frs_ fr sky fun h3 fl3 up3 => ?_
    have J3 : Inv X pins u1 G { t with heap := h3 } := J.landed nb fl3.1 (up.trans up3) os ag
    obtain ⟨o3, w3, at3, z3, f3⟩ := fl3.there
    have off : a ∉ frs (X.env :: X.outer) := fun hm => by
      obtain ⟨_, o', at', hnf⟩ := fl3.2.2.1.mem hm
      rw [at3] at at'
      cases at'
      exact hnf _ f3
    have offL : a ≠ X.env.locals := fun z => off (List.mem_filterMap.mpr ⟨X.env, List.mem_cons_self, by rw [fr, z]⟩)
    have offF : a ∉ X.fs := fun hm => by
      obtain ⟨e, he, q⟩ := List.mem_filterMap.mp hm
      exact off (List.mem_filterMap.mpr ⟨e, List.mem_cons_of_mem _ he, q⟩)
    have S3 := J3.suite at3 f3 na offL offF
    have name_ : ∀ {x : Str} {c : Value} {p1 : Pos} {Q E : Value → Shared → Prop}, Names X x c → Q c { t with heap := h3 } → wpAny (model X.prog X.w) (X.A.mark (some (.ref a))) (eval (.Name x p1) X.env) (fun v s => Q v s) E { t with heap := h3 } := fun {x c p1 Q E} hc q => by
      rcases hc with ⟨g, dbg, m | ⟨m, bb, nn⟩⟩
      · exact ld_glob (X := X.suite a ((a, o3) :: (X.pn ++ pins))) S3 g m q dbg
      · exact ld_blt (X := X.suite a ((a, o3) :: (X.pn ++ pins))) S3 g m bb q nn dbg
    have looks_ : PySem.W.Looks (model X.prog X.w) h3 (typeOf (.ref a)) cls := fun A Q E s k q => wpAny_typeOf_ref (k _ _ at3) (by rw [z3.1]; exact q)
    have go : ∀ {hs : List ExceptHandler} {l : List Clause}, ClausesOk X hs l → wClauses X.K X.N.length Wz D l cls d u1 G → wpAny (model X.prog X.w) X.A (handleBy (.ref a) X.env hs) (SP X pins D) X.xe { t with heap := h3 } := by
      intro hs l ck
      induction ck with
      | nil =>
        intro w
        refine wpAny_handleBy_nil ?_
        obtain ⟨_, _, _, oe, vs, T, oT, ts', he, hz, hd, h1, hr⟩ := id fl3
        unfold PySem.passOn
        refine wpAny_bind (wpAny_field he hd h1 ?_)
        rw [if_neg (show ¬ ((Value.ref T == Value.none) = true) by simp)]
        have out_ : wpAny (model X.prog X.w) X.A (setFlight (.ref a) X.env.frame) (fun _ t4 => wpAny (model X.prog X.w) X.A (throw (.ref a) : Sem Flow) (SP X pins D) X.xe t4) X.xe { t with heap := h3 } := by
          rw [fr]
          exact HandSPX.setFlight_upZ fl3 fun h4 hh4 up4 => wpAny_throw (tk _ _ ⟨a, B, sI, pins, u1, G, cls, d, rfl, J, nb, (up.trans up3).trans up4, .inr (.inr (by rw [st]; exact hh4)), na, os, ag, w⟩)
        first
          | exact wpAny_bind (wpAny_pure (wpAny_bind out_))
          | exact wpAny_bind out_
      | bare hc hsu r ih =>
        intro w
        obtain ⟨b, eb, yes, no⟩ := w
        refine wpAny_handleBy_cons (codeAny_handlers_test ?_) (fun q => by cases q)
        refine name_ hc ((PySem.W.exm_one (M := model X.prog X.w) J3.kIn looks_ eb).here ?_)
        cases b with
        | false =>
          show wpAny _ X.A (handleBy (.ref a) X.env _) _ _ _
          exact ih (no rfl)
        | true =>
          refine codeAny_handlers_suite (HandSPX.lands_againZ fl3 fun h4 fl4 up4 => ?_)
          have J4 : Inv X pins u1 G { t with heap := h4 } := J.landed nb fl4.1 ((up.trans up3).trans up4) os ag
          obtain ⟨o4, w4, at4, z4, f4⟩ := fl4.there
          refine wpAny_mono ((hsu a o4 cls d (X.pn ++ pins) z4 ⟨_, f4⟩).run [] _ _ G _ (J4.suite at4 f4 na offL offF) (yes rfl a na J.len)) (fun f s6 hq => ?_) (fun _ _ z => z.elim)
          cases f with
          | next => exact let ⟨u, G6, S, q⟩ := hq; ⟨u, G6, S.unsuite okX, q⟩
          | brk => exact let ⟨u, G6, S, q⟩ := hq; ⟨u, G6, S.unsuite okX, q⟩
          | cont => exact let ⟨u, G6, S, q⟩ := hq; ⟨u, G6, S.unsuite okX, q⟩
          | ret v => exact let ⟨y, u, G6, S, r, q⟩ := hq; ⟨y, u, G6, S.unsuite okX, r, q⟩
      | @named x n c i ts s0 sts p1 p2 es l hc hN hi hl hsu r ih =>
        intro w
        obtain ⟨b, eb, yes, no⟩ := w
        refine wpAny_handleBy_cons (codeAny_handlers_test ?_) (fun q => by cases q)
        refine name_ hc ((PySem.W.exm_one (M := model X.prog X.w) J3.kIn looks_ eb).here ?_)
        cases b with
        | false =>
          show wpAny _ X.A (handleBy (.ref a) X.env _) _ _ _
          exact ih (no rfl)
        | true =>
          refine codeAny_handlers_suite_as (HandSPX.lands_againZ fl3 fun h4 fl4 up4 => ?_)
          have J4 : Inv X pins u1 G { t with heap := h4 } := J.landed nb fl4.1 ((up.trans up3).trans up4) os ag
          obtain ⟨o4, w4, at4, z4, f4⟩ := fl4.there
          refine store_ok (X := X.suite a ((a, o4) :: (X.pn ++ pins))) (v := .ref a) (J4.suite at4 f4 na offL offF) hN hi (show Loc X.env.scope n from .inl hl) rfl (fun s5 S5 => ?_) (.inr hl)
          refine wpAny_mono ((hsu a o4 cls d (X.pn ++ pins) z4 ⟨_, f4⟩).run [] s5 _ G _ S5 (yes rfl a na J.len)) (fun f s6 hq => ?_) (fun _ _ z => z.elim)
          have gone : ∀ {u : L2.St} {G6 : Hp} {Q : Shared → Prop}, Inv (X.suite a ((a, o4) :: (X.pn ++ pins))) [] u G6 s6 → (∀ s7, Inv X pins (u.set i none) G6 s7 → Q s7) → wpAny (model X.prog X.w) X.A (do bindName X.env n .none; unbindBehindTheSuite X.env n p2) (fun _ s7 => Q s7) X.xe s6 :=
            fun S hq => gone_ok (S.unsuite okX) hN hi hl hq
          cases f with
          | next => exact let ⟨u, G6, S, q⟩ := hq; gone S fun s7 J7 => ⟨_, _, J7, q⟩
          | brk => exact let ⟨u, G6, S, q⟩ := hq; gone S fun s7 J7 => ⟨_, _, J7, q⟩
          | cont => exact let ⟨u, G6, S, q⟩ := hq; gone S fun s7 J7 => ⟨_, _, J7, q⟩
          | ret v => exact let ⟨y, u, G6, S, r, q⟩ := hq; gone S fun s7 J7 => ⟨_, _, _, J7, r, q⟩
    exact go hk w
end
end K0

namespace K0
open PySem L2 Evl
/-! ### data: what can be compared -/
mutual
def D.clean : D → Bool
  | .oth => false
  | .tup ds => D.cleanL ds
  | _ => true
def D.cleanL : List D → Bool
  | [] => true
  | d :: ds => d.clean && D.cleanL ds
end
mutual
def D.py : D → PyData
  | .non => .none
  | .bl b => .bool b
  | .int i => .int i
  | .str s => .str s
  | .tup ds => .tuple (D.pyL ds)
  | .oth => .none
def D.pyL : List D → List PyData
  | [] => []
  | d :: ds => d.py :: D.pyL ds
end
theorem pyL_map : ∀ ds : List D, D.pyL ds = ds.map D.py
  | [] => rfl
  | d :: ds => by
    show d.py :: D.pyL ds = _
    rw [pyL_map ds]
    rfl
theorem cleanL_all : ∀ ds : List D, D.cleanL ds = ds.all D.clean
  | [] => rfl
  | d :: ds => by
    show (d.clean && D.cleanL ds) = _
    rw [cleanL_all ds]
    rfl
section
variable {K : PySem.W.Frag} {H : Hp}
mutual
theorem Rp.dp {v : V} {d : D} (c : d.clean = true) : Rp K H v d → Dp K H v d.py
  | .non => .non
  | .bl b => .bl b
  | .int i => .int i
  | .str s => .str s
  | .tup h r => .tup h (RpAll.dp c r)
  | .lst h => by cases c
  | .dct h => by cases c
theorem RpAll.dp {vs : List V} {ds : List D} (c : D.cleanL ds = true) : RpAll K H vs ds → DpAll K H vs (D.pyL ds)
  | .nil => .nil
  | .cons h r => by
    have c' := Bool.and_eq_true_iff.mp c
    exact .cons (Rp.dp c'.1 h) (RpAll.dp c'.2 r)
end
end
mutual
theorem eqv_self : ∀ d : D, d.clean = true → PyData.eqv d.py d.py = true
  | .non, _ => rfl
  | .bl b, _ => by simp [D.py, PyData.eqv]
  | .int i, _ => by simp [D.py, PyData.eqv]
  | .str s, _ => by simp [D.py, PyData.eqv]
  | .tup ds, c => by
    simp only [D.py, PyData.eqv]
    exact eqvAll_self ds c
  | .oth, c => by cases c
theorem eqvAll_self : ∀ ds : List D, D.cleanL ds = true → PyData.eqvAll (D.pyL ds) (D.pyL ds) = true
  | [], _ => rfl
  | d :: ds, c => by
    have c' := Bool.and_eq_true_iff.mp c
    simp only [D.pyL, PyData.eqvAll]
    rw [eqv_self d c'.1, eqvAll_self ds c'.2]
    rfl
end
/-- clean, of texts that can lie there, not deep -/
def D.fine (n : Nat) (d : D) : Bool := d.clean && d.py.canLay0 && decide (d.py.depth ≤ n)
theorem fine_c {n : Nat} {d : D} (h : d.fine n = true) : d.clean = true := (Bool.and_eq_true_iff.mp (Bool.and_eq_true_iff.mp h).1).1
theorem fine_l {n : Nat} {d : D} (h : d.fine n = true) : d.py.canLay0 = true := (Bool.and_eq_true_iff.mp (Bool.and_eq_true_iff.mp h).1).2
theorem fine_d {n : Nat} {d : D} (h : d.fine n = true) : d.py.depth ≤ n := of_decide_eq_true (Bool.and_eq_true_iff.mp h).2
theorem fine_all {n : Nat} : ∀ ds : List D, (∀ d ∈ ds, d.fine n = true) → D.cleanL ds = true ∧ PyData.canLayAll0 (D.pyL ds) = true ∧ PyData.depthAll (D.pyL ds) ≤ n
  | [], _ => ⟨rfl, rfl, Nat.zero_le _⟩
  | d :: ds, h => by
    have h1 := h d (List.mem_cons_self ..)
    obtain ⟨a, b, c⟩ := fine_all ds fun e he => h e (List.mem_cons_of_mem _ he)
    refine ⟨Bool.and_eq_true_iff.mpr ⟨fine_c h1, a⟩, ?_, ?_⟩
    · simp only [D.pyL, PyData.canLayAll0]
      rw [fine_l h1, b]
      rfl
    · simp only [D.pyL, PyData.depthAll]
      exact Nat.max_le.mpr ⟨fine_d h1, c⟩
theorem fine_tup {n : Nat} {ds : List D} (h : ∀ d ∈ ds, d.fine n = true) : (D.tup ds).fine (n + 1) = true := by
  obtain ⟨a, b, c⟩ := fine_all ds h
  refine Bool.and_eq_true_iff.mpr ⟨Bool.and_eq_true_iff.mpr ⟨a, ?_⟩, decide_eq_true ?_⟩
  · simp only [D.py, PyData.canLay0]
    exact b
  · simp only [D.py, PyData.depth]
    omega
theorem fine_le {n m : Nat} {d : D} (h : d.fine n = true) (l : n ≤ m) : d.fine m = true :=
  Bool.and_eq_true_iff.mpr ⟨Bool.and_eq_true_iff.mpr ⟨fine_c h, fine_l h⟩, decide_eq_true (Nat.le_trans (fine_d h) l)⟩
theorem shaped_of {n : Nat} {d : D} (h : d.fine n = true) (l : n ≤ 64) : SeqAt.shaped d.py = true :=
  Bool.and_eq_true_iff.mpr ⟨fine_l h, decide_eq_true (Nat.le_trans (fine_d h) l)⟩
theorem shapedL_of {n : Nat} {ds : List D} (h : ∀ d ∈ ds, d.fine n = true) (l : n + 1 ≤ 64) : SeqAt.shaped (.list (D.pyL ds)) = true := by
  obtain ⟨a, b, c⟩ := fine_all ds h
  refine Bool.and_eq_true_iff.mpr ⟨?_, decide_eq_true ?_⟩
  · simp only [PyData.canLay0]
    exact b
  · simp only [PyData.depth]
    omega
theorem Rp.tupI {K : PySem.W.Frag} {H : Hp} {v : V} {ds : List D} (h : Rp K H v (.tup ds)) : ∃ a xs, v = .ref a ∧ SqT K H a xs ∧ RpAll K H xs ds := by
  cases h with
  | tup h r => exact ⟨_, _, rfl, h, r⟩
theorem RpAll.setI {K : PySem.W.Frag} {H : Hp} : ∀ {vs : List V} {ds : List D} (i : Nat) {v : V} {d : D}, RpAll K H vs ds → Rp K H v d → RpAll K H (vs.set i v) (ds.set i d)
  | _, _, i, _, _, .nil, _ => by cases i <;> exact .nil
  | _, _, 0, _, _, .cons h r, g => .cons g r
  | _, _, i + 1, _, _, .cons h r, g => .cons h (RpAll.setI i r g)
/-! ### readings -/
section
variable {K : PySem.W.Frag} {σ : L2.St} {H H' : Hp} {ta tb te tv : TE} {x y z v : V} {C a dx : Addr} {fs : List (Str × V)} {f : Str} {D : Ends} {tz : TS}
theorem ev_fld (h : Ev ta σ H (.ref a)) (ha : H a = some (.ins C dx fs)) (c : Cls K C) (n : NoAttr K C f) (l : fs.lookup f = some v) : Ev (tFld K ta f) σ H v := fun H1 e Q q =>
  h H1 e _ fun H2 e2 => ⟨a, C, dx, fs, v, rfl, (e.trans e2) _ _ ha, c, n, l, q H2 e2⟩
theorem q_fld (hv : Ev tv σ H v) (ho : Ev ta σ H (.ref a)) (ha : H a = some (.ins C dx fs)) (c : Cls K C) (n : NoAttr K C f) (hl : fs.length < 1000) (k : ∀ H1, Ex H H1 → tz D σ (upd H1 a (.ins C dx (putF f v fs)))) :
    tSeq (sFld K ta tv f) tz D σ H := hv H (Ex.refl H) _ fun H1 e1 => ho H1 e1 _ fun H2 e2 => ⟨a, C, dx, fs, rfl, (e1.trans e2) _ _ ha, c, n, hl, k H2 (e1.trans e2)⟩
theorem s_fldU {xs : List V} (hv : EvU tv σ H xs) (ho : Ev ta σ H (.ref a)) (ha : H a = some (.ins C dx fs)) (c : Cls K C) (n : NoAttr K C f) (hl : fs.length < 1000)
    (k : ∀ p H1, H p = none → Ex H H1 → H1 p = some (.tup xs) → D.nx σ (upd H1 a (.ins C dx (putF f (.ref p) fs)))) :
    sFld K ta tv f D σ H := hv H (Ex.refl H) _ fun p H1 hp e1 h1 => ho H1 e1 _ fun H2 e2 => ⟨a, C, dx, fs, rfl, (e1.trans e2) _ _ ha, c, n, hl, k p H2 hp (e1.trans e2) (e2 _ _ h1)⟩
theorem q_asgMk {sp : Sp} {E : XK} {i : Nat} {xs : List V} (h : EvU te σ H xs)
    (k : ∀ p H1, H p = none → Ex H H1 → H1 p = some (.tup xs) → ∀ x dx, H1 x = none → H1 dx = none → dx ≠ x → sp [.ref x, .ref p] (upd (upd H1 dx (.own x)) x (.ins C dx [])) (fun v H2 => v = .non ∧ tz D (σ.set i (some (.ref x))) H2) E) :
    tSeq (tAsg (tMake C sp [] E (tCons te tNil)) (gName i)) tz D σ H := h H (Ex.refl H) _ fun p H1 hp e h1 => k p H1 hp e h1
theorem eu_tupOf {p : Addr} {xs : List V} (h : Ev ta σ H (.ref p)) (hx : SqL K H p xs) : EvU (tCB (rTupOf K) (tCons ta tNil)) σ H xs := fun H1 e Q q =>
  h H1 e _ fun H2 e2 => ⟨p, xs, rfl, .inl ⟨ex_l (e.trans e2) hx, fun l hl => q l _ (fresh_back e2 hl) (e2.trans (Ex.new hl)) upd_same⟩⟩
theorem el_listT {p : Addr} {xs : List V} (h : Ev ta σ H (.ref p)) (hx : SqT K H p xs) : EvL (tCB (rListS K) (tCons ta tNil)) σ H xs := fun H1 e Q q =>
  h H1 e _ fun H2 e2 => ⟨p, xs, rfl, .inr (ex_t (e.trans e2) hx), fun l hl => q l _ (fresh_back e2 hl) (e2.trans (Ex.new hl)) upd_same⟩
theorem rc_kitI {P : V → Prop} {n : String} {b : Bool} {dy : Addr} {gs : List (Str × V)} {p : Addr} (o : ObjC K C) (cl : Cls K C) (hp : H p = some (.ins C dy gs)) : RC (rIsi K) [.ref p, .ref C] H (.bl true) := fun H1 e Q q =>
  ⟨_, _, _, _, _, rfl, .own C, .base (.ins (e _ _ hp) cl o.ca o.cg o.ct o.co), by unfold PySem.W.kitOne; rw [if_pos (by simp)], q H1 (Ex.refl _)⟩
end
/-- the promise of a value, by what it is -/
def RetR (K : PySem.W.Frag) (d : D) (H : Hp) (Q : VK) : Prop := ∀ v H', Ex H H' → Rp K H' v d → Q v H'
/-! ### what evaluates to data -/
section
variable {K : PySem.W.Frag} {σ : L2.St} {H H' : Hp} {ta tb te : TE} {tr : TA} {x y z v : V} {d e : D} {ds es : List D}
def EvD (K : PySem.W.Frag) (te : TE) (σ : L2.St) (H : Hp) (d : D) : Prop := ∀ H1, Ex H H1 → ∀ Q : VK, (∀ v H2, Ex H1 H2 → Rp K H2 v d → Q v H2) → te σ H1 Q
def EvDA (K : PySem.W.Frag) (ta : TA) (σ : L2.St) (H : Hp) (ds : List D) : Prop := ∀ H1, Ex H H1 → ∀ Q : List V → Hp → Prop, (∀ vs H2, Ex H1 H2 → RpAll K H2 vs ds → Q vs H2) → ta σ H1 Q
theorem EvD.mono (a : Ex H H') (h : EvD K te σ H d) : EvD K te σ H' d := fun H1 e Q q => h H1 (a.trans e) Q q
theorem ed_ev (h : Ev te σ H v) (r : Rp K H v d) : EvD K te σ H d := fun H1 a Q q => h H1 a Q fun H2 b => q v H2 b (r.ex (a.trans b))
theorem ed_int {i : Int} : EvD K (tC (.int i)) σ H (.int i) := ed_ev ev_c (.int i)
theorem ed_non : EvD K (tC .non) σ H .non := ed_ev ev_c .non
theorem ed_str {s : Str} : EvD K (tC (.str s)) σ H (.str s) := ed_ev ev_c (.str s)
theorem eda_nil : EvDA K tNil σ H [] := fun H1 _ Q q => q [] H1 (Ex.refl _) .nil
theorem eda_cons (h : EvD K te σ H d) (r : EvDA K tr σ H ds) : EvDA K (tCons te tr) σ H (d :: ds) := fun H1 a Q q =>
  h H1 a _ fun v H2 b hv => r H2 (a.trans b) _ fun vs H3 c hs => q (v :: vs) H3 (b.trans c) (.cons (hv.ex c) hs)
theorem ed_tup (h : EvDA K tr σ H ds) (l : ds.length ≤ 100000) : EvD K (tTup tr) σ H (.tup ds) := fun H1 a Q q =>
  h H1 a _ fun vs H2 b hs => ⟨by rw [hs.len]; exact sz_of l, fun p hp => q (.ref p) _ (b.trans (Ex.new hp)) (.tup (st_of upd_same) (hs.ex (Ex.new hp)))⟩
theorem ed_cat (h1 : EvD K ta σ H (.tup ds)) (h2 : EvD K tb σ H (.tup es)) (l : ds.length + es.length ≤ 100000) : EvD K (tOp (rCatA K) ta tb) σ H (.tup (ds ++ es)) := fun H1 a Q q =>
  h1 H1 a _ fun v H2 b hv => h2 H2 (a.trans b) _ fun w H3 c hw => by
    obtain ⟨p, xs, rfl, sp, rp⟩ := (hv.ex c).tupI
    obtain ⟨r, ys, rfl, sr, rr⟩ := hw.tupI
    refine ⟨p, r, xs, ys, rfl, rfl, sp, sr, by rw [rp.len, rr.len]; exact sz_of l, fun h => ?_, fun _ h => ?_, fun _ _ n hn => ?_⟩
    · subst h
      cases rp
      exact q _ _ (b.trans c) (.tup sr rr)
    · subst h
      cases rr
      rw [List.append_nil] at q
      exact q _ _ (b.trans c) (.tup sp rp)
    · exact q _ _ ((b.trans c).trans (Ex.new hn)) (.tup (st_of upd_same) ((rp.app rr).ex (Ex.new hn)))
theorem ed_ix {i : Nat} (h : EvD K ta σ H (.tup ds)) (hb : ∀ H1, Ex H H1 → Ev tb σ H1 (.int (i : Int))) (hi : ds[i]? = some d) : EvD K (tOp (rIxT K) ta tb) σ H d := fun H1 a Q q =>
  h H1 a _ fun v H2 b hv => hb H2 (a.trans b) H2 (Ex.refl _) _ fun H3 c => by
    obtain ⟨p, xs, rfl, sp, rp⟩ := (hv.ex c).tupI
    have hlt : i < ds.length := by
      rcases Nat.lt_or_ge i ds.length with h | h
      · exact h
      · rw [List.getElem?_eq_none h] at hi
        cases hi
    have hxl : i < xs.length := by
      rw [rp.len]
      exact hlt
    have hx : xs[i]? = some xs[i] := List.getElem?_eq_getElem hxl
    obtain ⟨d', hd', hr'⟩ := RpAll.get _ _ _ _ rp hx
    rw [hi] at hd'
    cases hd'
    refine ⟨p, xs, (i : Int), xs[i], rfl, rfl, sp, ?_, q _ _ (b.trans c) hr'⟩
    unfold atI
    rw [ixN_nat (by rw [rp.len]; exact hlt)]
    exact hx
theorem d_call {sp : Sp} {E : XK} {Q : VK} (h : EvDA K tr σ H ds) (k : ∀ vs H1, Ex H H1 → RpAll K H1 vs ds → sp vs H1 Q E) : tCall sp [] E tr σ H Q := h H (Ex.refl H) _ fun vs H1 a r => by
  show sp (vs ++ []) H1 Q E
  rw [List.append_nil]
  exact k vs H1 a r
theorem d_ret {D : Ends} (h : EvD K te σ H d) (k : ∀ v H1, Ex H H1 → Rp K H1 v d → D.rt v H1) : tRet te D σ H := h H (Ex.refl H) _ k
/-- a method without arguments that gives data -/
theorem ed_meth0 {C a dx : Addr} {fs : List (Str × V)} {m : Str} {sp : Sp} {E : XK} (h : Ev ta σ H (.ref a)) (ha : H a = some (.ins C dx fs)) (l : fs.lookup m = none) (k : ∀ H1, Ex H H1 → ∀ Q : VK, RetR K d H1 Q → sp [.ref a] H1 Q E) :
    EvD K (tMeth C m sp [] E ta tNil) σ H d := fun H1 a1 Q q => h H1 a1 _ fun H2 b => ⟨a, dx, fs, rfl, (a1.trans b) _ _ ha, l, k H2 (a1.trans b) Q fun v H3 c hv => q v H3 (b.trans c) hv⟩
theorem ed_call {sp : Sp} {E : XK} (h : EvDA K tr σ H ds) (k : ∀ vs H1, Ex H H1 → RpAll K H1 vs ds → ∀ Q : VK, RetR K d H1 Q → sp vs H1 Q E) : EvD K (tCall sp [] E tr) σ H d := fun H1 a Q q => h H1 a _ fun vs H2 b r => by
  show sp (vs ++ []) H2 Q E
  rw [List.append_nil]
  exact k vs H2 (a.trans b) r Q fun v H3 c hv => q v H3 (b.trans c) hv
theorem rv_eqD (hx : Rp K H x d) (hy : Rp K H y e) {n : Nat} (fd : d.fine n = true) (fe : e.fine n = true) (hn : n ≤ 64) : RV (rEqD K) x y H (.bl (PyData.eqv d.py e.py)) := fun H1 a Q q =>
  ⟨d.py, e.py, (hx.ex a).dp (fine_c fd), (hy.ex a).dp (fine_c fe), shaped_of fd hn, shaped_of fe hn, q H1 (Ex.refl _)⟩
theorem rv_neD (hx : Rp K H x d) (hy : Rp K H y e) {n : Nat} (fd : d.fine n = true) (fe : e.fine n = true) (hn : n ≤ 64) : RV (rNeD K) x y H (.bl (!PyData.eqv d.py e.py)) := fun H1 a Q q =>
  ⟨d.py, e.py, (hx.ex a).dp (fine_c fd), (hy.ex a).dp (fine_c fe), shaped_of fd hn, shaped_of fe hn, q H1 (Ex.refl _)⟩
/-- compared as data -/
theorem ev_neD (h1 : EvD K ta σ H d) (h2 : EvD K tb σ H e) {n : Nat} (fd : d.fine n = true) (fe : e.fine n = true) (hn : n ≤ 64) : Ev (tOp (rNeD K) ta tb) σ H (.bl (!PyData.eqv d.py e.py)) := fun H1 a Q q =>
  h1 H1 a _ fun v H2 b hv => h2 H2 (a.trans b) _ fun w H3 c hw => rv_neD (hv.ex c) hw fd fe hn H3 (Ex.refl _) Q fun H4 g => q H4 ((b.trans c).trans g)
theorem ev_eqD (h1 : EvD K ta σ H d) (h2 : EvD K tb σ H e) {n : Nat} (fd : d.fine n = true) (fe : e.fine n = true) (hn : n ≤ 64) : Ev (tOp (rEqD K) ta tb) σ H (.bl (PyData.eqv d.py e.py)) := fun H1 a Q q =>
  h1 H1 a _ fun v H2 b hv => h2 H2 (a.trans b) _ fun w H3 c hw => rv_eqD (hv.ex c) hw fd fe hn H3 (Ex.refl _) Q fun H4 g => q H4 ((b.trans c).trans g)
theorem Rp.tupR {a : Addr} (h : Rp K H (.ref a) (.tup ds)) : ∃ xs, SqT K H a xs ∧ RpAll K H xs ds := by
  cases h with
  | tup h r => exact ⟨_, h, r⟩
/-! ### f-strings -/
def EvJ (ts : List TE) (acc : Str) (σ : L2.St) (H : Hp) (out : Str) : Prop := ∀ H1, Ex H H1 → ∀ Q : Str → Hp → Prop, (∀ H2, Ex H1 H2 → Q out H2) → tJs ts acc σ H1 Q
theorem ej_nil {acc : Str} : EvJ [] acc σ H acc := fun H1 _ Q q => q H1 (Ex.refl _)
theorem ej_cons {t : TE} {ts : List TE} {acc s out : Str} (h : Ev t σ H (.str s)) (l : (acc ++ s).length ≤ 100000) (r : EvJ ts (acc ++ s) σ H out) : EvJ (t :: ts) acc σ H out := fun H1 a Q q =>
  h H1 a _ fun H2 b => ⟨s, rfl, sz_of l, r H2 (a.trans b) Q fun H3 c => q H3 (b.trans c)⟩
theorem ev_js {ts : List TE} {out : Str} (h : EvJ ts Str.empty σ H out) : Ev (fun σ H Q => tJs ts Str.empty σ H fun out H1 => Q (.str out) H1) σ H (.str out) := fun H1 a Q q => h H1 a _ fun H2 b => q H2 b
theorem ev_fmt {i : Int} (h : Ev te σ H (.int i)) (l : i.natAbs.log2 < 1920) : Ev (tFmt te) σ H (.str (toString i)) := fun H1 a Q q => h H1 a _ fun H2 b => .inr ⟨i, rfl, l, q H2 b⟩
end
/-- the text of a small number -/
def tos (n : Nat) : Str := toString (n : Int)
theorem tos_len {n : Nat} (h : n ≤ 400) : (tos n).length ≤ 8 := by
  have z : ∀ i : Fin 401, (tos i.val).length ≤ 8 := by decide +kernel
  exact z ⟨n, by omega⟩
theorem log_small {n : Nat} (h : n ≤ 400) : (n : Int).natAbs.log2 < 1920 := by
  have z : ∀ i : Fin 401, (i.val : Int).natAbs.log2 < 1920 := by decide +kernel
  exact z ⟨n, by omega⟩
theorem app_len (a b : Str) : (a ++ b).length = a.length + b.length := by
  show (a.cps ++ b.cps).size = _
  rw [Array.size_append]
  rfl
theorem numB_small {n : Nat} (h : n ≤ 1000) : numB (n : Int) = true := by
  unfold numB big
  rw [decide_eq_true (by omega), decide_eq_true (by omega)]
  rfl
theorem within_ok {n : Nat} {lo hi : Int} (h : n ≤ 1000) (h1 : lo ≤ (n : Int)) (h2 : (n : Int) ≤ hi) : (D.int (n : Int)).within lo hi = true := by
  show (numB (n : Int) && (decide (lo ≤ (n : Int)) && decide ((n : Int) ≤ hi))) = true
  rw [numB_small h, decide_eq_true h1, decide_eq_true h2]
  rfl
end K0

namespace K0
open PySem L2 Evl
theorem ix_tupK {X : Cx} {K : PySem.W.Frag} (h : X.K = K) : IxR X (rIxT K) := h ▸ ix_tup
theorem pe_fldK {X : Cx} {K : PySem.W.Frag} {e : Expr} {f : Str} {pos : Pos} {ta : TE} (he : PE X e ta) (hb : attributeBase e f X.env (eval e X.env) = eval e X.env) (h : X.K = K) : PE X (.Attribute e f pos) (tFld K ta f) := h ▸ pe_fld he hb
section
variable {K : PySem.W.Frag} {A : Ad}
theorem d_raw {σ : L2.St} {H : Hp} {tr : TA} {sp : Sp} {E : XK} {Q : VK} (h : tr σ H fun vs H1 => sp vs H1 Q E) : tCall sp [] E tr σ H Q := by
  have e : (fun (vs : List V) H1 => sp (vs ++ []) H1 Q E) = fun vs H1 => sp vs H1 Q E := by
    funext vs H1
    rw [List.append_nil]
  show tr σ H fun vs H1 => sp (vs ++ []) H1 Q E
  rw [e]
  exact h
theorem gd_some {α : Type} {l : List α} {i : Nat} {x y : α} (h : l[i]? = some x) : l.getD i y = x := by
  rw [List.getD_eq_getElem?_getD, h]
  rfl
theorem getD_mem {α : Type} {l : List α} {i : Nat} {x : α} (h : i < l.length) : l.getD i x ∈ l := by
  rw [List.getD_eq_getElem?_getD, List.getElem?_eq_getElem h]
  exact List.getElem_mem h
theorem rp_maps {H : Hp} {α : Type} {v : α → V} {f : α → K0.D} : ∀ (l : List α), (∀ i ∈ l, Rp K H (v i) (f i)) → RpAll K H (l.map v) (l.map f)
  | [], _ => .nil
  | a :: l, h => .cons (h a (List.mem_cons_self ..)) (rp_maps l fun i hi => h i (List.mem_cons_of_mem _ hi))
theorem map_rangeD {α β : Type} (g : α → β) (x : α) : ∀ l : List α, (List.range l.length).map (fun i => g (l.getD i x)) = l.map g
  | [] => rfl
  | a :: l => by
    rw [List.length_cons, List.range_succ_eq_map, List.map_cons, List.map_cons, List.map_map, ← map_rangeD g x l]
    rfl
end
/-! ### all but lists stays -/
def ExT (H H' : Hp) : Prop := ∀ b u, H b = some u → (∀ xs, u ≠ HO.lst xs) → H' b = some u
section
variable {K : PySem.W.Frag} {H H' : Hp}
theorem ExT.of (e : Ex H H') : ExT H H' := fun b u h _ => e b u h
theorem ExT.trans {H'' : Hp} (a : ExT H H') (b : ExT H' H'') : ExT H H'' := fun c u h n => b c u (a c u h n) n
theorem ExT.sqT {a : Addr} {xs : List V} (e : ExT H H') (h : SqT K H a xs) : SqT K H' a xs := by
  rcases h with (h | ⟨o, h⟩) | h
  · exact .inl (.inl (e _ _ h fun _ z => by cases z))
  · exact .inl (.inr ⟨o, e _ _ h fun _ z => by cases z⟩)
  · exact .inr h
mutual
theorem Rp.exT {v : V} {d : D} (c : d.clean = true) (e : ExT H H') : Rp K H v d → Rp K H' v d
  | .non => .non
  | .bl b => .bl b
  | .int i => .int i
  | .str s => .str s
  | .tup h r => .tup (e.sqT h) (RpAll.exT c e r)
  | .lst h => by cases c
  | .dct h => by cases c
theorem RpAll.exT {vs : List V} {ds : List D} (c : D.cleanL ds = true) (e : ExT H H') : RpAll K H vs ds → RpAll K H' vs ds
  | .nil => .nil
  | .cons h r => by
    have c' := Bool.and_eq_true_iff.mp c
    exact .cons (Rp.exT c'.1 e h) (RpAll.exT c'.2 e r)
end
/-- what is hidden is a list -/
def hidL (o : Option Addr) (H : Hp) : Prop := ∀ a, o = some a → ∃ xs, H a = some (.lst xs)
theorem exT_hid {o : Option Addr} (h : hidL o H) : ExT H (hid o H) := fun b u hb n => by
  unfold hid
  by_cases c : o = some b
  · obtain ⟨xs, hx⟩ := h b c
    rw [hb] at hx
    exact absurd (Option.some.inj hx) (n xs)
  · rw [if_neg c]
    exact hb
theorem DiceAt.hidL {a : Addr} (h : DiceAt H a) : hidL (some a) H := fun b e => by
  obtain ⟨x, y, z, h⟩ := h
  cases e
  exact ⟨_, h⟩
theorem Bt.exT {a : Addr} (h : DiceAt H a) (b : Bt a H H') : ExT H H' := ((exT_hid h.hidL).trans (ExT.of b)).trans (ExT.of hid_le)
theorem RpAll.memI : ∀ {vs : List V} {ds : List D}, RpAll K H vs ds → ∀ v ∈ vs, ∃ d ∈ ds, Rp K H v d
  | _, _, .nil, v, h => by cases h
  | _, _, .cons h r, v, hv => by
    rcases List.mem_cons.mp hv with rfl | hv
    · exact ⟨_, List.mem_cons_self .., h⟩
    · obtain ⟨d, hd, hr⟩ := RpAll.memI r v hv
      exact ⟨d, List.mem_cons_of_mem _ hd, hr⟩
end
section
variable {K : PySem.W.Frag} {σ : L2.St} {H H' : Hp} {ta tb te tn : TE} {tr : TA} {ds : List D} {d : D}
theorem l_lst {Q : VK} (h : EvDA K tr σ H ds) (l : ds.length ≤ 100000) (k : ∀ p xs H1, H p = none → Ex H H1 → H1 p = some (.lst xs) → RpAll K H1 xs ds → Q (.ref p) H1) : tLst tr σ H Q := h H (Ex.refl H) _ fun vs H1 e r =>
  ⟨by rw [r.len]; exact sz_of l, fun p hp => k p vs _ (fresh_back e hp) (e.trans (Ex.new hp)) upd_same (r.ex (Ex.new hp))⟩
/-- a new list of data -/
def EvDL (K : PySem.W.Frag) (te : TE) (σ : L2.St) (H : Hp) (ds : List D) : Prop := ∀ H1, Ex H H1 → ∀ Q : VK, (∀ p xs H2, H1 p = none → Ex H1 H2 → H2 p = some (.lst xs) → RpAll K H2 xs ds → Q (.ref p) H2) → te σ H1 Q
/-- [e for j in range(n)], each e data -/
theorem edl_range {n j : Nat} {vs : List Nat} {f : Nat → D} (hn : ∀ H1, Ex H H1 → Ev tn σ H1 (.int (n : Int))) (hz : n ≤ 1000) (hw : ∀ x, wipe ((wipe σ vs).set j (some x)) vs = wipe σ vs)
    (he : ∀ i H1, Ex H H1 → i < n → EvD K te ((wipe σ vs).set j (some (.int (i : Int)))) H1 (f i)) : EvDL K (tLc (iRng1 (tCons tn tNil)) (gName j) tYes te vs) σ H ((List.range n).map f) := fun H0 e0 Q q => by
  unfold tLc
  refine n_rng1 (n_cons (hn H0 e0 H0 (Ex.refl _) _ fun H1 e1 => ⟨(n : Int), rfl, by omega, by omega, fun Dl hD => ?_⟩))
  refine lc_range (lo := 0) (n := (n : Int).toNat) (fun i H' => i ≤ n ∧ ∃ acc, H' Dl = some (.lst acc) ∧ RpAll K H' acc ((List.range i).map f) ∧ Ex H1 H') ⟨Nat.zero_le _, [], upd_same, .nil, Ex.new hD⟩ (fun i H' hi p => ?_) (fun H' p => ?_)
  · obtain ⟨_, acc, p1, p2, p3⟩ := p
    rw [Int.toNat_natCast] at hi
    have ez : (0 : Int) + (i : Int) = (i : Int) := Int.zero_add _
    rw [ez]
    refine ⟨hw _, he i H' ((e0.trans e1).trans p3) hi H' (Ex.refl _) _ fun v H'' e2 hv => ?_⟩
    have h2 := e2 _ _ p1
    have hl : acc.length = i := by rw [p2.len, List.length_map, List.length_range]
    refine ⟨acc, h2, sz_lt (by omega), hi, acc ++ [v], upd_same, ?_, Ex.mut (p3.trans e2) hD⟩
    rw [List.range_succ, List.map_append]
    exact ((p2.ex e2).app (.cons hv .nil)).exL (ExL.upd h2)
  · obtain ⟨_, acc, p1, p2, p3⟩ := p
    rw [Int.toNat_natCast] at p2
    exact q Dl acc H' (fresh_back e1 hD) (e1.trans p3) p1 p2
theorem dpL {a : Addr} {xs : List V} (h : H a = some (.lst xs)) (r : RpAll K H xs ds) (c : D.cleanL ds = true) : Dp K H (.ref a) (.list (D.pyL ds)) := .lst (sq_of h) (r.dp c)
/-- two lists compared as data -/
theorem ev_neLL {es : List D} {n : Nat} (h1 : EvDL K ta σ H ds) (h2 : ∀ H1, Ex H H1 → ∃ b ys, Ev tb σ H1 (.ref b) ∧ H1 b = some (.lst ys) ∧ RpAll K H1 ys es) (fd : ∀ d ∈ ds, d.fine n = true) (fe : ∀ d ∈ es, d.fine n = true) (hn : n + 1 ≤ 64) :
    Ev (tOp (rNeD K) ta tb) σ H (.bl (!PyData.eqvAll (D.pyL ds) (D.pyL es))) := fun H1 a Q q =>
  h1 H1 a _ fun p xs H2 hp b hx rx => by
    obtain ⟨r, ys, ev, hy, ry⟩ := h2 H2 (a.trans b)
    refine ev H2 (Ex.refl _) _ fun H3 c => ?_
    refine ⟨.list (D.pyL ds), .list (D.pyL es), dpL (c _ _ hx) (rx.ex c) (fine_all ds fd).1, dpL (c _ _ hy) (ry.ex c) (fine_all es fe).1, shapedL_of fd hn, shapedL_of fe hn, ?_⟩
    show Q (.bl (!PyData.eqvAll (D.pyL ds) (D.pyL es))) H3
    exact q H3 (b.trans c)
/-- two lists that stand -/
theorem ev_eqLs {a b : Addr} {xs ys : List V} {es : List D} {n : Nat} (h1 : Ev ta σ H (.ref a)) (h2 : Ev tb σ H (.ref b)) (hx : H a = some (.lst xs)) (hy : H b = some (.lst ys)) (rx : RpAll K H xs ds) (ry : RpAll K H ys es) (fd : ∀ d ∈ ds, d.fine n = true) (fe : ∀ d ∈ es, d.fine n = true) (hn : n + 1 ≤ 64) :
    Ev (tOp (rEqD K) ta tb) σ H (.bl (PyData.eqvAll (D.pyL ds) (D.pyL es))) := ev_op h1 h2 fun H1 e Q q => ⟨.list (D.pyL ds), .list (D.pyL es), dpL (e _ _ hx) (rx.ex e) (fine_all ds fd).1, dpL (e _ _ hy) (ry.ex e) (fine_all es fe).1, shapedL_of fd hn, shapedL_of fe hn, q H1 (Ex.refl _)⟩
/-- tuple(xs), xs a list of data -/
theorem ed_tupOf {a : Addr} {xs : List V} (h : Ev ta σ H (.ref a)) (hx : H a = some (.lst xs)) (r : RpAll K H xs ds) : EvD K (tCB (rTupOf K) (tCons ta tNil)) σ H (.tup ds) := fun H1 e Q q =>
  eu_tupOf h (sq_of hx) H1 e Q fun p H2 hp e2 h2 => q (.ref p) H2 e2 (.tup (st_of h2) (r.ex (e.trans e2)))
/-- a property that gives data -/
theorem ed_prop {C a dx : Addr} {fs : List (Str × V)} {sp : Sp} {E : XK} (h : Ev ta σ H (.ref a)) (ha : H a = some (.ins C dx fs)) (k : ∀ H1, Ex H H1 → ∀ Q : VK, RetR K d H1 Q → sp [.ref a] H1 Q E) :
    EvD K (tProp C sp [] E ta) σ H d := fun H1 a1 Q q => h H1 a1 _ fun H2 b => ⟨a, dx, fs, rfl, (a1.trans b) _ _ ha, k H2 (a1.trans b) Q fun v H3 c hv => q v H3 (b.trans c) hv⟩
/-- a method with one argument that gives data -/
theorem ed_meth1 {C a dx : Addr} {fs : List (Str × V)} {m : Str} {sp : Sp} {E : XK} {y : V} (h : Ev ta σ H (.ref a)) (ha : H a = some (.ins C dx fs)) (l : fs.lookup m = none) (hb : ∀ H1, Ex H H1 → Ev tb σ H1 y) (k : ∀ H1, Ex H H1 → ∀ Q : VK, RetR K d H1 Q → sp [.ref a, y] H1 Q E) :
    EvD K (tMeth C m sp [] E ta (tCons tb tNil)) σ H d := fun H1 a1 Q q => h H1 a1 _ fun H2 b => ⟨a, dx, fs, rfl, (a1.trans b) _ _ ha, l, hb H2 (a1.trans b) H2 (Ex.refl _) _ fun H3 c => k H3 ((a1.trans b).trans c) Q fun v H4 g hv => q v H4 ((b.trans c).trans g) hv⟩
theorem rv_addS {a b : Str} (h : a.length + b.length ≤ 100000) : RV (fun x y H Q => ∃ i j, x = .str i ∧ y = .str j ∧ i.length + j.length ≤ sizeLine ∧ Q (.str (i ++ j)) H) (.str a) (.str b) H (.str (a ++ b)) := fun H1 _ Q q => ⟨a, b, rfl, rfl, sz_of h, q H1 (Ex.refl _)⟩
theorem rc_strI {i : Int} (h : i.natAbs.log2 < 1920) : RC (fun xs H Q => ∃ i, xs = [.int i] ∧ i.natAbs.log2 < 1920 ∧ Q (.str (toString i)) H) [.int i] H (.str (toString i)) := fun H1 _ Q q => ⟨i, rfl, h, q H1 (Ex.refl _)⟩
end
theorem range_all {α : Type} (x : α) (l : List α) {n : Nat} (h : l.length = n) : (List.range n).map (fun i => l.getD i x) = l := by
  subst h
  have := map_rangeD (fun y : α => y) x l
  rw [List.map_id''] at this
  · exact this
  · intro y
    rfl
section
variable {K : PySem.W.Frag}
theorem et_neD {σ : L2.St} {H : Hp} {ta tb : TE} {d : K0.D} {n : Nat} (h1 : EvD K ta σ H d) (h2 : EvD K tb σ H d) (fd : d.fine n = true) (hn : n ≤ 64) : EvT (tTest (tOp (rNeD K) ta tb)) σ H false := et_is (et_test (ev_neD h1 h2 fd fd hn)) (by
  rw [eqv_self d (fine_c fd)]
  rfl)
end
section
variable {σ : L2.St} {H H' : Hp} {ta tb te tx : TE} {t u : TT} {tr : TA} {Q : VK} {D : Ends} {tz : TS}
theorem q_par {i j : Nat} (h : tr σ H fun vs H1 => ∃ v w, vs = [v, w] ∧ tz D ((σ.set i (some v)).set j (some w)) H1) : tSeq (tPar i j tr) tz D σ H := h
theorem q_asgX {i : Nat} (h : te σ H fun v H1 => tz D (σ.set i (some v)) H1) : tSeq (tAsg te (gName i)) tz D σ H := h
theorem n_tup (h : tr σ H fun xs H1 => xs.length ≤ sizeLine ∧ ∀ p, H1 p = none → Q (.ref p) (upd H1 p (.tup xs))) : tTup tr σ H Q := h
theorem n_var {i : Nat} {v : V} (h : σ[i]? = some (some v)) (k : Q v H) : tVar i σ H Q := ⟨v, h, k⟩
theorem n_op {r : R2} (h : ta σ H fun x H1 => tb σ H1 fun y H2 => r x y H2 Q) : tOp r ta tb σ H Q := h
theorem n_nil {k : List V → Hp → Prop} (h : k [] H) : tNil σ H k := h
theorem n_if {b : Bool} (h : EvT t σ H b) (h1 : b = true → ∀ H1, Ex H H1 → ta σ H1 Q) (h2 : b = false → ∀ H1, Ex H H1 → tb σ H1 Q) : tIf t ta tb σ H Q := h H (Ex.refl H) _ fun H1 e => by
  cases b with
  | true => exact h1 rfl H1 e
  | false => exact h2 rfl H1 e
theorem c_meth {C p dx : Addr} {fs : List (Str × V)} {m : Str} {sp : Sp} {E : XK} {vs : List V} (h : Ev ta σ H (.ref p)) (hp : H p = some (.ins C dx fs)) (l : fs.lookup m = none) (ha : ∀ H1, Ex H H1 → EvA tr σ H1 vs) (k : ∀ H1, Ex H H1 → sp (.ref p :: vs) H1 Q E) :
    tMeth C m sp [] E ta tr σ H Q := h H (Ex.refl H) _ fun H1 e1 => ⟨p, dx, fs, rfl, e1 _ _ hp, l, ha H1 e1 H1 (Ex.refl _) _ fun H2 e2 => by
  show sp (.ref p :: (vs ++ [])) H2 Q E
  rw [List.append_nil]
  exact k H2 (e1.trans e2)⟩
theorem c_methD {K : PySem.W.Frag} {C p dx : Addr} {fs : List (Str × V)} {m : Str} {sp : Sp} {E : XK} {d : K0.D} (h : Ev ta σ H (.ref p)) (hp : H p = some (.ins C dx fs)) (l : fs.lookup m = none) (ha : ∀ H1, Ex H H1 → EvD K tb σ H1 d) (k : ∀ v H1, Ex H H1 → Rp K H1 v d → sp [.ref p, v] H1 Q E) :
    tMeth C m sp [] E ta (tCons tb tNil) σ H Q := h H (Ex.refl H) _ fun H1 e1 => ⟨p, dx, fs, rfl, e1 _ _ hp, l, ha H1 e1 H1 (Ex.refl _) _ fun v H2 e2 hv => k v H2 (e1.trans e2) hv⟩
end
theorem asc_snoc : ∀ (l : List Int) (y : Int), ascB l = true → (∀ x ∈ l, x < y) → ascB (l ++ [y]) = true
  | [], y, _, _ => rfl
  | [x], y, _, h => by
    show (decide (x < y) && ascB [y]) = true
    rw [decide_eq_true (h x (List.mem_cons_self ..))]
    rfl
  | x :: z :: r, y, h, g => by
    have h' : (decide (x < z) && ascB (z :: r)) = true := h
    have h1 := Bool.and_eq_true_iff.mp h'
    show (decide (x < z) && ascB ((z :: r) ++ [y])) = true
    rw [h1.1, asc_snoc (z :: r) y h1.2 fun w hw => g w (List.mem_cons_of_mem _ hw)]
    rfl
section
variable {K : PySem.W.Frag} {σ : L2.St} {H H' : Hp} {ta tb te tx tn : TE} {t u : TT} {tr : TA} {Q : VK} {D : Ends} {tz : TS} {g : TG}
theorem q_asgG (h : te σ H fun v H1 => g v σ H1 fun σ2 H2 => tz D σ2 H2) : tSeq (tAsg te g) tz D σ H := h
end
section
variable {K : PySem.W.Frag} {σ : L2.St} {H H' : Hp} {ta tb te tx tn : TE} {t u : TT} {tr : TA} {Q : VK} {D : Ends} {tz tu tw : TS}
theorem n_ifS (h : t σ H fun b H1 => if b = true then tu D σ H1 else tw D σ H1) : tIfS t tu tw D σ H := h
theorem n_or {Q : Bool → Hp → Prop} (h : t σ H fun b H1 => if b = true then Q true H1 else u σ H1 Q) : tOr t u σ H Q := h
theorem n_not {Q : Bool → Hp → Prop} (h : t σ H fun b H1 => Q (!b) H1) : tNot t σ H Q := h
theorem n_B {Q : Bool → Hp → Prop} (h : te σ H fun v H1 => ∃ b, v = .bl b ∧ Q b H1) : tB te σ H Q := h
theorem sq_btF {p a : Addr} {xs : List V} {H1 H2 : Hp} (hp : H p = none) (h : SqL K H a xs) (e : Ex H H1) (b : Bt p H1 H2) : SqL K H2 a xs := by
  rcases h with (h | ⟨o, h⟩) | h
  · exact .inl (.inl (b.at (ne_of_none h hp) (e _ _ h)))
  · exact .inl (.inr ⟨o, b.at (ne_of_none h hp) (e _ _ h)⟩)
  · exact .inr h
theorem ev_neVL {a : Addr} {xs : List V} {ds es : List K0.D} {n : Nat} (h1 : Ev ta σ H (.ref a)) (hx : H a = some (.lst xs)) (rx : RpAll K H xs ds) (h2 : EvDA K tr σ H es) (l : es.length ≤ 1000) (fd : ∀ d ∈ ds, d.fine n = true) (fe : ∀ d ∈ es, d.fine n = true) (hn : n + 1 ≤ 64) :
    Ev (tOp (rNeD K) ta (tLst tr)) σ H (.bl (!PyData.eqvAll (K0.D.pyL ds) (K0.D.pyL es))) := fun H1 e Q q =>
  h1 H1 e _ fun H2 e2 => h2 H2 (e.trans e2) _ fun vs H3 e3 r => ⟨by rw [r.len]; exact sz_of (by omega), fun p hp => by
    have e4 := (e.trans e2).trans e3
    refine ⟨.list (K0.D.pyL ds), .list (K0.D.pyL es), dpL ((e4.trans (Ex.new hp)) _ _ hx) (rx.ex (e4.trans (Ex.new hp))) (fine_all ds fd).1, dpL upd_same (r.ex (Ex.new hp)) (fine_all es fe).1, shapedL_of fd hn, shapedL_of fe hn, ?_⟩
    exact q _ ((e2.trans e3).trans (Ex.new hp))⟩
end
section
variable {l : Addr} {H : Hp}
theorem ExT.upd {xs ys : List V} (h : H l = some (.lst xs)) : ExT H (L2.upd H l (.lst ys)) := fun b u hb n => by
  by_cases c : b = l
  · subst c
    rw [h] at hb
    exact absurd (Option.some.inj hb).symm (n xs)
  · rw [upd_ne c]
    exact hb
end
end K0

namespace K0
open PySem PySem.Spec PyProof.Rows L2 Evl
/-! ### own exceptions with a field; repr of None and of numbers -/
/-- what is raised: an exception of the class at C whose one field is f = v -/
def RaF (C : Addr) (f : Str) (v : V) (H : Hp) (E : XK) : Prop := ∀ dd H', Ex H H' → H' dd = some (.xd [(f, v)]) → E (.ref C) (some dd) H'
theorem RaF.ex {C : Addr} {f : Str} {v : V} {H H' : Hp} {E : XK} (e : Ex H H') (h : RaF C f v H E) : RaF C f v H' E := fun dd H2 e2 => h dd H2 (e.trans e2)
/-- the promise of an __init__ that keeps one field -/
def spXI (C : Addr) (f : Str) : Sp := fun vs H Q _ => ∃ a x, vs = [.ref a, x] ∧ H a = some (exo a C none) ∧ ∀ dx, H dx = none → dx ≠ a → Q .non (upd (upd H dx (exd dx [(f, x)])) a (exo a C (some dx)))
section
variable {C : Addr} {f : Str} {ta : TE} {σ : L2.St} {H : Hp} {Q : XK} {v : V}
theorem n_mkO (h : Ev ta σ H v) (k : ∀ H1, Ex H H1 → ∀ dd H2, Ex H1 H2 → H2 dd = some (.xd [(f, v)]) → Q (.ref C) (some dd) H2) : tMkO C (spXI C f) [] (tCons ta tNil) σ H Q :=
  h H (Ex.refl H) _ fun H1 e1 => ⟨by simp, fun a ha => ⟨a, v, rfl, upd_same, fun dx hx ne => ⟨rfl, dx, [(f, v)], upd_same, by rw [upd_ne ne]; exact upd_same, (by rw [upd_ne ne] at hx; exact hx), k H1 e1 dx _ (fun b o hb => by
    have nb : b ≠ a := ne_of_none hb ha
    have hx' : H1 dx = none := by rw [upd_ne ne] at hx; exact hx
    have nd : b ≠ dx := ne_of_none hb hx'
    rw [upd_ne nd, del_ne nb, upd_ne nb, upd_ne nd, upd_ne nb]
    exact hb) upd_same⟩⟩⟩
theorem s_raiseO {D : Ends} {W : WX} (h : Ev ta σ H v) (k : ∀ dd H2, Ex H H2 → H2 dd = some (.xd [(f, v)]) → W (.ref C) (some dd) σ H2) : (fun (_ : Ends) (σ : L2.St) (H : Hp) => tMkO C (spXI C f) [] (tCons ta tNil) σ H fun cls d H' => W cls d σ H') D σ H :=
  n_mkO h fun H1 e1 dd H2 e2 h2 => k dd H2 (e1.trans e2) h2
end
section
variable {X : Cx}
def rReprI : List V → Hp → VK → Prop := fun xs H Q => (xs = [.non] ∧ Q (.str "None") H) ∨ ∃ i, xs = [.int i] ∧ i.natAbs.log2 < 1920 ∧ Q (.str (toString i)) H
theorem cr_reprI : CallR X (.builtin "repr") rReprI := by
  intro pins s σ H xs us Q I r h
  rcases h with ⟨rfl, q⟩ | ⟨i, rfl, hz, q⟩
  · obtain ⟨u, rfl, rx⟩ := vals1 r
    cases rx
    exact PySem.P.repr_of_none ⟨.str "None", H, I.tok _, ⟨_, rfl⟩, q⟩
  · obtain ⟨u, rfl, t, rfl⟩ := vals1 r
    exact PySem.P.repr_of_int hz ⟨.str _, H, I.tok _, ⟨_, rfl⟩, q⟩
end
end K0

namespace K0
open PySem L2 Evl
section
variable {K : PySem.W.Frag} {H H' : Hp} {l : Addr}
mutual
/-- clean data stays where tuples stay -/
theorem Rp.byT {v : V} {d : D} (c : d.clean = true) (h : ∀ a xs, SqT K H a xs → SqT K H' a xs) : Rp K H v d → Rp K H' v d
  | .non => .non
  | .bl b => .bl b
  | .int i => .int i
  | .str s => .str s
  | .tup g r => .tup (h _ _ g) (RpAll.byT c h r)
  | .lst g => by cases c
  | .dct g => by cases c
theorem RpAll.byT {vs : List V} {ds : List D} (c : D.cleanL ds = true) (h : ∀ a xs, SqT K H a xs → SqT K H' a xs) : RpAll K H vs ds → RpAll K H' vs ds
  | .nil => .nil
  | .cons g r => by
    have c' := Bool.and_eq_true_iff.mp c
    exact .cons (Rp.byT c'.1 h g) (RpAll.byT c'.2 h r)
end
theorem sqT_lst {b : Addr} {xs ys zs : List V} (hl : H l = some (.lst xs)) (h : SqT K H b zs) : SqT K (L2.upd H l (.lst ys)) b zs := by
  have ne : ∀ {b : Addr} {o : HO}, H b = some o → (∀ zs, o ≠ .lst zs) → b ≠ l := fun g n z => by
    rw [z, hl] at g
    exact n _ (Option.some.inj g).symm
  rcases h with (h | ⟨o, h⟩) | h
  · exact .inl (.inl (by rw [upd_ne (ne h fun zs z => by cases z)]; exact h))
  · exact .inl (.inr ⟨o, by rw [upd_ne (ne h fun zs z => by cases z)]; exact h⟩)
  · exact .inr h
end
end K0

/-! ### < of two tuples, where only the first places that differ need a < (the later ones may be of unlike kinds) -/
namespace KoM
open PySem PySem.SeqAt
open PySem.AutoSeq1 (wpAny_loadPart')
open PySem.MeetsSeq PySem.MeetsSeq2 PySem.MeetsSeq3
open Ob (lexAt lexAt_zero lexAt_succ RcOp)
theorem tuple_ltF (l b : Addr) (items items2 : Array Value) (n n2 : Nat) (dd dd2 : Option Addr) (sl sl2 : Array (Option Value)) (e r : Nat → Bool) :
    Meets (Builtin.«tuple.__lt__» ⟨[.ref l, .ref b], []⟩)
      (fun A R s => s.heap.get? l = some { cls := .type "tuple", dict := dd, data := .seq items n, slots := sl } ∧ s.heap.get? b = some { cls := .type "tuple", dict := dd2, data := .seq items2 n2, slots := sl2 } ∧
        (∀ j (h1 : j < items.size) (h2 : j < items2.size), EqAt A.in1 s items[j] items2[j] (e j)) ∧
        (∀ j (h1 : j < items.size) (h2 : j < items2.size), (∀ k, k < j → e k = true) → e j = false → RcOp .Lt A.in1 s items[j] items2[j] (r j)) ∧
        R (.ok (.ret (.bool (lexAt e r (decide (items.size < items2.size)) 0 (min items.size items2.size))))) s) :=
  .of_wp fun prog w A R s h => by
    obtain ⟨hp, g, d, tk, os⟩ := s; obtain ⟨hl, hb, he, hr, h⟩ := h
    have f2 := AutoSeq1.sub_tuple_tuple
    have hZ : (items.toList.zip items2.toList).length = min items.size items2.size := by simp
    wp_walk using wpAny_loadPart' hl, wpAny_loadPart' hb, wpAny_forIn_list _ (fun rest b s' => b.1 = none ∧ s' = ⟨hp, g, d, tk, os⟩ ∧ ∃ i, rest = (items.toList.zip items2.toList).drop i ∧ (∀ k, k < i → e k = true) ∧
      R (.ok (.ret (.bool (lexAt e r (decide (items.size < items2.size)) i (min items.size items2.size - i))))) ⟨hp, g, d, tk, os⟩) _
    case turn =>
      rintro ⟨y, x⟩ rest b s' ⟨hb', rfl, i, hz, hbe, hR⟩
      have hlt : i < (items.toList.zip items2.toList).length := by
        rcases Nat.lt_or_ge i (items.toList.zip items2.toList).length with h' | h'
        · exact h'
        · rw [List.drop_of_length_le h'] at hz; cases hz
      have hm : i < min items.size items2.size := hZ ▸ hlt
      have h1 : i < items.size := Nat.lt_of_lt_of_le hm (Nat.min_le_left _ _)
      have h2 : i < items2.size := Nat.lt_of_lt_of_le hm (Nat.min_le_right _ _)
      rw [List.drop_eq_getElem_cons hlt] at hz
      injection hz with hyx hrest
      have hy : y = items[i] := by have := congrArg Prod.fst hyx; simpa using this
      have hx : x = items2[i] := by have := congrArg Prod.snd hyx; simpa using this
      subst hy hx
      rw [show min items.size items2.size - i = (min items.size items2.size - (i + 1)) + 1 by omega, lexAt_succ] at hR
      refine wpAny_bind (he i h1 h2 prog w _ _ ?_)
      cases hei : e i with
      | true =>
        rw [hei, if_pos rfl] at hR
        wp_walk
        exact ⟨rfl, rfl, i + 1, hrest, fun k hk => by
          rcases Nat.lt_or_ge k i with q | q
          · exact hbe k q
          · rw [show k = i by omega]
            exact hei, hR⟩
      | false =>
        rw [hei, if_neg Bool.false_ne_true] at hR
        have hri := hr i h1 h2 hbe hei prog w
        wp_walk using hri
        exact ⟨_, rfl, by simpa using hR⟩
    case fin =>
      rintro ⟨b1, b2⟩ s' ⟨hb', rfl, i, hz, _, hR⟩
      simp only at hb'
      subst hb'
      have hge : min items.size items2.size ≤ i := by
        rcases Nat.lt_or_ge i (items.toList.zip items2.toList).length with h' | h'
        · rw [List.drop_eq_getElem_cons h'] at hz; cases hz
        · exact hZ ▸ h'
      rw [Nat.sub_eq_zero_of_le hge, lexAt_zero] at hR
      wp_walk
      exact ⟨_, rfl, by simpa [Builtin.Tuple.tupleCompareSizes] using hR⟩
    case h =>
      exact ⟨rfl, rfl, 0, rfl, fun k hk => absurd hk (Nat.not_lt_zero k), by simpa using h⟩
theorem tuples_ltF {A : Around} {s : Shared} {l b : Addr} {items items2 : Array Value} {e r : Nat → Bool} (hl : s.heap.IsTuple l items) (hb : s.heap.IsTuple b items2) (hu : A.units < cLine)
    (he : ∀ j (h1 : j < items.size) (h2 : j < items2.size), EqAt A.in1 s items[j] items2[j] (e j))
    (hr : ∀ j (h1 : j < items.size) (h2 : j < items2.size), (∀ k, k < j → e k = true) → e j = false → RcOp .Lt A.in1 s items[j] items2[j] (r j)) :
    RcOp .Lt A s (.ref l) (.ref b) (lexAt e r (decide (items.size < items2.size)) 0 (min items.size items2.size)) := fun prog w E Q h => by
  obtain ⟨⟨cls, dd, data, sl⟩, ho, hc, n, hd⟩ := id hl
  obtain ⟨⟨cls2, dd2, data2, sl2⟩, ho2, hc2, n2, hd2⟩ := id hb
  simp only at hc hd hc2 hd2
  subst hc hd hc2 hd2
  exact richCompare_meets_room (op := .Lt) ⟨_, ho, rfl⟩ ⟨_, ho2, rfl⟩ F.slot_tuple_lt F.entry_tuple_lt (F.args_tuple_lt_2 _ _) (tuple_ltF l b items items2 n n2 dd dd2 sl sl2 e r)
    ⟨ho, ho2, he, hr, ⟨(fun x => nomatch x), h⟩⟩ hu
end KoM
namespace K0
open PySem PySem.W PyProof.Rows
/-! ### plain values in order: a value as a row of signs -/
abbrev Sg := Int ⊕ List Nat
mutual
/-- none, an integer, a text, a tuple of such -/
def D.rkd : D → Bool
  | .non => true
  | .int _ => true
  | .str _ => true
  | .tup ds => D.rkdL ds
  | _ => false
def D.rkdL : List D → Bool
  | [] => true
  | d :: ds => D.rkd d && D.rkdL ds
end
mutual
def tk : D → List Sg
  | .non => [.inl 0]
  | .int i => [.inl 1, .inl i]
  | .str s => [.inl 2, .inr s.cps.toList]
  | .tup ds => .inl 3 :: tkL ds
  | _ => []
def tkL : List D → List Sg
  | [] => [.inl 0]
  | d :: ds => .inl 1 :: (tk d ++ tkL ds)
end
/-- d < e -/
def ltD (d e : D) : Bool := lexLt itemOrd (tk d) (tk e)
theorem plain_rkd : ∀ (d : D) (n : Nat), d.plain n = true → d.rkd = true
  | .non, _, _ => rfl
  | .int _, _, _ => rfl
  | .str _, _, _ => rfl
  | .tup ds, 0, h => by cases h
  | .tup ds, n + 1, h => by
    show D.rkdL ds = true
    exact plains_rkd ds n h
  | .bl _, 0, h => by cases h
  | .bl _, _ + 1, h => by cases h
  | .oth, 0, h => by cases h
  | .oth, _ + 1, h => by cases h
where plains_rkd : ∀ (ds : List D) (n : Nat), ds.all (D.plain n) = true → D.rkdL ds = true
  | [], _, _ => rfl
  | d :: ds, n, h => by
    have h2 := Bool.and_eq_true_iff.mp (show (D.plain n d && ds.all (D.plain n)) = true from h)
    show (d.rkd && D.rkdL ds) = true
    rw [plain_rkd d n h2.1, plains_rkd ds n h2.2]
    rfl
mutual
/-- the row tells the value, whatever follows -/
theorem tk_inj : ∀ (d e : D) (l m : List Sg), d.rkd = true → e.rkd = true → tk d ++ l = tk e ++ m → d = e ∧ l = m
  | .non, e, l, m, _, he, h => by
    cases e with
    | non => exact ⟨rfl, (List.cons.inj h).2⟩
    | int i => cases (List.cons.inj h).1
    | str i => cases (List.cons.inj h).1
    | tup i => cases (List.cons.inj h).1
    | _ => cases he
  | .int i, e, l, m, _, he, h => by
    cases e with
    | non => cases (List.cons.inj h).1
    | int j =>
      obtain ⟨h1, h2⟩ := List.cons.inj (List.cons.inj h).2
      rw [Sum.inl.inj h1]
      exact ⟨rfl, h2⟩
    | str i => cases (List.cons.inj h).1
    | tup i => cases (List.cons.inj h).1
    | _ => cases he
  | .str i, e, l, m, _, he, h => by
    cases e with
    | non => cases (List.cons.inj h).1
    | int j => cases (List.cons.inj h).1
    | str j =>
      obtain ⟨h1, h2⟩ := List.cons.inj (List.cons.inj h).2
      rw [str_of_cps (Sum.inr.inj h1)]
      exact ⟨rfl, h2⟩
    | tup i => cases (List.cons.inj h).1
    | _ => cases he
  | .tup ds, e, l, m, hd, he, h => by
    cases e with
    | non => cases (List.cons.inj h).1
    | int j => cases (List.cons.inj h).1
    | str j => cases (List.cons.inj h).1
    | tup es =>
      obtain ⟨h1, h2⟩ := tkL_inj ds es l m hd he (List.cons.inj h).2
      rw [h1]
      exact ⟨rfl, h2⟩
    | _ => cases he
  | .bl _, _, _, _, hd, _, _ => by cases hd
  | .oth, _, _, _, hd, _, _ => by cases hd
theorem tkL_inj : ∀ (ds es : List D) (l m : List Sg), D.rkdL ds = true → D.rkdL es = true → tkL ds ++ l = tkL es ++ m → ds = es ∧ l = m
  | [], [], l, m, _, _, h => ⟨rfl, (List.cons.inj h).2⟩
  | [], e :: es, l, m, _, _, h => by cases (List.cons.inj h).1
  | d :: ds, [], l, m, _, _, h => by cases (List.cons.inj h).1
  | d :: ds, e :: es, l, m, hd, he, h => by
    have h1 := Bool.and_eq_true_iff.mp (show (d.rkd && D.rkdL ds) = true from hd)
    have h2 := Bool.and_eq_true_iff.mp (show (e.rkd && D.rkdL es) = true from he)
    have h3 : tk d ++ (tkL ds ++ l) = tk e ++ (tkL es ++ m) := by
      rw [← List.append_assoc, ← List.append_assoc]
      exact (List.cons.inj h).2
    obtain ⟨rfl, h4⟩ := tk_inj d e _ _ h1.1 h2.1 h3
    obtain ⟨rfl, h5⟩ := tkL_inj ds es l m h1.2 h2.2 h4
    exact ⟨rfl, h5⟩
end
/-- of two rows neither of which begins the other, the first sign that differs decides -/
theorem lex_apart : ∀ (p q l m : List Sg), (∀ x, p ++ x ≠ q) → (∀ x, q ++ x ≠ p) → lexLt itemOrd (p ++ l) (q ++ m) = lexLt itemOrd p q
  | [], q, _, _, h, _ => absurd rfl (h q)
  | x :: p, [], _, _, _, h => absurd rfl (h (x :: p))
  | x :: p, y :: q, l, m, h1, h2 => by
    by_cases e : x = y
    · subst e
      show lexLt itemOrd (x :: (p ++ l)) (x :: (q ++ m)) = lexLt itemOrd (x :: p) (x :: q)
      rw [lex_self (O := itemOrd), lex_self (O := itemOrd)]
      exact lex_apart p q l m (fun z hz => h1 z (by rw [← hz]; rfl)) fun z hz => h2 z (by rw [← hz]; rfl)
    · show lexLt itemOrd (x :: (p ++ l)) (y :: (q ++ m)) = lexLt itemOrd (x :: p) (y :: q)
      rw [lex_diff (O := itemOrd) e, lex_diff (O := itemOrd) e]
theorem tk_ne {d e : D} (l m : List Sg) (hd : d.rkd = true) (he : e.rkd = true) (h : d ≠ e) : lexLt itemOrd (tk d ++ l) (tk e ++ m) = ltD d e :=
  lex_apart _ _ l m (fun x hx => h (tk_inj d e x [] hd he (by rw [List.append_nil]; exact hx)).1) fun x hx => h (tk_inj e d x [] he hd (by rw [List.append_nil]; exact hx)).1.symm
theorem tkL_cons_eq (d : D) (ds es : List D) : lexLt itemOrd (tkL (d :: ds)) (tkL (d :: es)) = lexLt itemOrd (tkL ds) (tkL es) := by
  show lexLt itemOrd (.inl 1 :: (tk d ++ tkL ds)) (.inl 1 :: (tk d ++ tkL es)) = _
  rw [lex_self (O := itemOrd), lex_pre]
theorem tkL_cons_ne {d e : D} (ds es : List D) (hd : d.rkd = true) (he : e.rkd = true) (h : d ≠ e) : lexLt itemOrd (tkL (d :: ds)) (tkL (e :: es)) = ltD d e := by
  show lexLt itemOrd (.inl 1 :: (tk d ++ tkL ds)) (.inl 1 :: (tk e ++ tkL es)) = _
  rw [lex_self (O := itemOrd)]
  exact tk_ne _ _ hd he h
theorem ltD_irr (d : D) : ltD d d = false := lex_irrefl _
theorem ltD_trans {a b c : D} (h1 : ltD a b = true) (h2 : ltD b c = true) : ltD a c = true := lex_trans (O := itemOrd) _ _ _ h1 h2
theorem ltD_total {d e : D} (hd : d.rkd = true) (he : e.rkd = true) (h1 : ltD d e = false) (h2 : ltD e d = false) : d = e :=
  (tk_inj d e [] [] hd he (by rw [List.append_nil, List.append_nil]; exact lex_total (O := itemOrd) _ _ h1 h2)).1
theorem ltD_asym {d e : D} (h : ltD d e = true) : ltD e d = false := by
  cases q : ltD e d with
  | false => rfl
  | true =>
    have := ltD_trans h q
    rw [ltD_irr] at this
    cases this
end K0

namespace K0
open PySem PySem.SeqAt PySem.W PyProof.Rows
open Ob (lexAt lexAt_zero lexAt_succ RcOp)
/-! ### the keys of plain values: a kind, then the value (z: what stands behind None's kind) -/
mutual
def kD (z : List D) : D → D
  | .non => .tup (.int 0 :: z)
  | .int i => .tup [.int 1, .int i]
  | .str s => .tup [.int 2, .str s]
  | .tup ds => .tup [.int 3, .tup (kDL z ds)]
  | _ => .oth
def kDL (z : List D) : List D → List D
  | [] => []
  | d :: ds => kD z d :: kDL z ds
end
theorem kDL_map (z : List D) : ∀ ds : List D, kDL z ds = ds.map (kD z)
  | [] => rfl
  | d :: ds => by
    show kD z d :: kDL z ds = _
    rw [kDL_map z ds]
    rfl
/-- what stands behind None's kind: nothing, or a nought -/
def Zok (z : List D) : Prop := z = [] ∨ z = [.int 0]
mutual
theorem kD_plain {z : List D} (hz : Zok z) : ∀ d : D, d.rkd = true → (kD z d).py.plain = true
  | .non, _ => by rcases hz with rfl | rfl <;> rfl
  | .int _, _ => rfl
  | .str _, _ => rfl
  | .tup ds, h => by
    show (true && ((PyData.plainAll (D.pyL (kDL z ds))) && true)) = true
    rw [kDL_plain hz ds h]
    rfl
  | .bl _, h => by cases h
  | .oth, h => by cases h
theorem kDL_plain {z : List D} (hz : Zok z) : ∀ ds : List D, D.rkdL ds = true → PyData.plainAll (D.pyL (kDL z ds)) = true
  | [], _ => rfl
  | d :: ds, h => by
    have h2 := Bool.and_eq_true_iff.mp (show (d.rkd && D.rkdL ds) = true from h)
    show ((kD z d).py.plain && PyData.plainAll (D.pyL (kDL z ds))) = true
    rw [kD_plain hz d h2.1, kDL_plain hz ds h2.2]
    rfl
end
mutual
theorem kD_self {z : List D} (hz : Zok z) : ∀ d : D, d.rkd = true → PyData.eqv (kD z d).py (kD z d).py = true
  | .non, _ => by rcases hz with rfl | rfl <;> rfl
  | .int i, _ => by
    show ((1 : Int) == 1 && ((i == i) && true)) = true
    simp
  | .str i, _ => by
    show ((2 : Int) == 2 && ((i == i) && true)) = true
    simp
  | .tup ds, h => by
    show ((3 : Int) == 3 && (PyData.eqvAll (D.pyL (kDL z ds)) (D.pyL (kDL z ds)) && true)) = true
    rw [kDL_self hz ds h]
    rfl
  | .bl _, h => by cases h
  | .oth, h => by cases h
theorem kDL_self {z : List D} (hz : Zok z) : ∀ ds : List D, D.rkdL ds = true → PyData.eqvAll (D.pyL (kDL z ds)) (D.pyL (kDL z ds)) = true
  | [], _ => rfl
  | d :: ds, h => by
    have h2 := Bool.and_eq_true_iff.mp (show (d.rkd && D.rkdL ds) = true from h)
    show (PyData.eqv (kD z d).py (kD z d).py && PyData.eqvAll (D.pyL (kDL z ds)) (D.pyL (kDL z ds))) = true
    rw [kD_self hz d h2.1, kDL_self hz ds h2.2]
    rfl
end
/-- a key's kind, and what stands behind it -/
def kN : D → Int
  | .non => 0
  | .int _ => 1
  | .str _ => 2
  | _ => 3
def kR (z : List D) : D → List D
  | .non => z
  | .int i => [.int i]
  | .str s => [.str s]
  | .tup ds => [.tup (kDL z ds)]
  | _ => []
theorem kD_parts (z : List D) : ∀ d : D, d.rkd = true → kD z d = .tup (.int (kN d) :: kR z d)
  | .non, _ => rfl
  | .int _, _ => rfl
  | .str _, _ => rfl
  | .tup _, _ => rfl
  | .bl _, h => by cases h
  | .oth, h => by cases h
theorem tk_parts : ∀ d : D, d.rkd = true → ∃ r, tk d = .inl (kN d) :: r
  | .non, _ => ⟨_, rfl⟩
  | .int _, _ => ⟨_, rfl⟩
  | .str _, _ => ⟨_, rfl⟩
  | .tup _, _ => ⟨_, rfl⟩
  | .bl _, h => by cases h
  | .oth, h => by cases h
/-- unlike kinds -/
theorem ltD_kinds {d e : D} (hd : d.rkd = true) (he : e.rkd = true) (h : kN d ≠ kN e) : ltD d e = decide (kN d < kN e) := by
  obtain ⟨r, h1⟩ := tk_parts d hd
  obtain ⟨t, h2⟩ := tk_parts e he
  unfold ltD
  rw [h1, h2, lex_diff (O := itemOrd) (fun q => h (Sum.inl.inj q))]
  rfl
theorem ltD_int (i j : Int) : ltD (.int i) (.int j) = decide (i < j) := by
  show lexLt itemOrd [.inl 1, .inl i] [.inl 1, .inl j] = _
  rw [lex_self (O := itemOrd), lex_one]
  rfl
theorem ltD_str (i j : Str) : ltD (.str i) (.str j) = decide (i.cps.toList < j.cps.toList) := by
  show lexLt itemOrd [.inl 2, .inr i.cps.toList] [.inl 2, .inr j.cps.toList] = _
  rw [lex_self (O := itemOrd), lex_one]
  rfl
theorem ltD_tup (ds es : List D) : ltD (.tup ds) (.tup es) = lexLt itemOrd (tkL ds) (tkL es) := by
  show lexLt itemOrd (.inl 3 :: tkL ds) (.inl 3 :: tkL es) = _
  rw [lex_self (O := itemOrd)]
theorem eqv_kinds {z : List D} {d e : D} (hd : d.rkd = true) (he : e.rkd = true) (h : kN d ≠ kN e) : PyData.eqv (kD z d).py (kD z e).py = false := by
  rw [kD_parts z d hd, kD_parts z e he]
  show (kN d == kN e && PyData.eqvAll (D.pyL (kR z d)) (D.pyL (kR z e))) = false
  rw [beq_eq_false_iff_ne.mpr h]
  rfl
mutual
theorem eqK {z : List D} : ∀ d e : D, d.rkd = true → e.rkd = true → PyData.eqv (kD z d).py (kD z e).py = true → d = e
  | .non, e, hd, he, h => by
    cases e with
    | non => rfl
    | int i => exact absurd (h.symm.trans (eqv_kinds hd he (by simp [kN]))) (by decide)
    | str i => exact absurd (h.symm.trans (eqv_kinds hd he (by simp [kN]))) (by decide)
    | tup i => exact absurd (h.symm.trans (eqv_kinds hd he (by simp [kN]))) (by decide)
    | _ => cases he
  | .int i, e, hd, he, h => by
    cases e with
    | non => exact absurd (h.symm.trans (eqv_kinds hd he (by simp [kN]))) (by decide)
    | int j =>
      have h2 : ((1 : Int) == 1 && ((i == j) && true)) = true := h
      simp at h2
      rw [h2]
    | str i => exact absurd (h.symm.trans (eqv_kinds hd he (by simp [kN]))) (by decide)
    | tup i => exact absurd (h.symm.trans (eqv_kinds hd he (by simp [kN]))) (by decide)
    | _ => cases he
  | .str i, e, hd, he, h => by
    cases e with
    | non => exact absurd (h.symm.trans (eqv_kinds hd he (by simp [kN]))) (by decide)
    | int j => exact absurd (h.symm.trans (eqv_kinds hd he (by simp [kN]))) (by decide)
    | str j =>
      have h2 : ((2 : Int) == 2 && ((i == j) && true)) = true := h
      simp at h2
      rw [h2]
    | tup i => exact absurd (h.symm.trans (eqv_kinds hd he (by simp [kN]))) (by decide)
    | _ => cases he
  | .tup ds, e, hd, he, h => by
    cases e with
    | non => exact absurd (h.symm.trans (eqv_kinds hd he (by simp [kN]))) (by decide)
    | int j => exact absurd (h.symm.trans (eqv_kinds hd he (by simp [kN]))) (by decide)
    | str j => exact absurd (h.symm.trans (eqv_kinds hd he (by simp [kN]))) (by decide)
    | tup es =>
      have h2 : ((3 : Int) == 3 && (PyData.eqvAll (D.pyL (kDL z ds)) (D.pyL (kDL z es)) && true)) = true := h
      rw [eqKL ds es hd he (by simpa using h2)]
    | _ => cases he
  | .bl _, _, hd, _, _ => by cases hd
  | .oth, _, hd, _, _ => by cases hd
theorem eqKL {z : List D} : ∀ ds es : List D, D.rkdL ds = true → D.rkdL es = true → PyData.eqvAll (D.pyL (kDL z ds)) (D.pyL (kDL z es)) = true → ds = es
  | [], [], _, _, _ => rfl
  | [], e :: es, _, _, h => by cases h
  | d :: ds, [], _, _, h => by cases h
  | d :: ds, e :: es, hd, he, h => by
    have h1 := Bool.and_eq_true_iff.mp (show (d.rkd && D.rkdL ds) = true from hd)
    have h2 := Bool.and_eq_true_iff.mp (show (e.rkd && D.rkdL es) = true from he)
    have h3 := Bool.and_eq_true_iff.mp (show (PyData.eqv (kD z d).py (kD z e).py && PyData.eqvAll (D.pyL (kDL z ds)) (D.pyL (kDL z es))) = true from h)
    rw [eqK d e h1.1 h2.1 h3.1, eqKL ds es h1.2 h2.2 h3.2]
end
/-- from place i on -/
theorem lexAt_shift (e r : Nat → Bool) (z : Bool) : ∀ (k i : Nat), lexAt e r z (i + 1) k = lexAt (fun j => e (j + 1)) (fun j => r (j + 1)) z i k
  | 0, _ => rfl
  | k + 1, i => by
    rw [lexAt_succ, lexAt_succ, lexAt_shift e r z k (i + 1)]
def gt (ds : List D) (j : Nat) : D := ds.getD j .non
theorem lexAt_toks {z : List D} (hz : Zok z) : ∀ ds es : List D, D.rkdL ds = true → D.rkdL es = true →
    lexAt (SeqAt.pairEq (D.pyL (kDL z ds)) (D.pyL (kDL z es))) (fun j => ltD (gt ds j) (gt es j)) (decide (ds.length < es.length)) 0 (min ds.length es.length) = lexLt itemOrd (tkL ds) (tkL es)
  | [], [], _, _ => (lex_irrefl (O := itemOrd) _).symm
  | [], e :: es, _, _ => by
    show decide ((0 : Nat) < es.length + 1) = lexLt itemOrd [.inl 0] (.inl 1 :: _)
    rw [lex_diff (O := itemOrd) (by simp), decide_eq_true (Nat.succ_pos _)]
    rfl
  | d :: ds, [], _, _ => by
    show decide (ds.length + 1 < (0 : Nat)) = lexLt itemOrd (.inl 1 :: _) [.inl 0]
    rw [lex_diff (O := itemOrd) (by simp), decide_eq_false (Nat.not_lt_zero _)]
    rfl
  | d :: ds, e :: es, hd, he => by
    have h1 := Bool.and_eq_true_iff.mp (show (d.rkd && D.rkdL ds) = true from hd)
    have h2 := Bool.and_eq_true_iff.mp (show (e.rkd && D.rkdL es) = true from he)
    have ih := lexAt_toks hz ds es h1.2 h2.2
    have em : min (d :: ds).length (e :: es).length = min ds.length es.length + 1 := by
      rw [List.length_cons, List.length_cons]
      omega
    have ed : decide ((d :: ds).length < (e :: es).length) = decide (ds.length < es.length) := by
      rw [List.length_cons, List.length_cons]
      exact decide_eq_decide.mpr (by omega)
    rw [em, ed, lexAt_succ]
    show (if PyData.eqv (kD z d).py (kD z e).py = true then _ else ltD d e) = _
    cases q : PyData.eqv (kD z d).py (kD z e).py with
    | true =>
      have := eqK d e h1.1 h2.1 q
      subst this
      rw [if_pos rfl, tkL_cons_eq, ← ih, lexAt_shift]
      rfl
    | false =>
      have hne : d ≠ e := fun x => by
        subst x
        rw [kD_self hz d h1.1] at q
        cases q
      rw [if_neg (by decide), tkL_cons_ne ds es h1.1 h2.1 hne]
end K0

namespace K0
open PySem PySem.SeqAt PySem.W PyProof.Rows
open Ob (lexAt lexAt_zero lexAt_succ RcOp)
/-! ### < of keys, on the values -/
/-- of two tuples that begin with an integer and have at most one place behind it: by the integers, then by what stands behind -/
def twoLt (k k' : Int) (q t : Bool) : Bool := if k = k' then (if q = true then false else t) else decide (k < k')
theorem outer_lt {A : Around} {s : Shared} {a b : Value} {as bs : List Addr} {k k' : Int} {R R' : List PyData} {t : Bool} (ra : Reads s.heap a (.tuple (.int k :: R)) as) (rb : Reads s.heap b (.tuple (.int k' :: R')) bs)
    (p : PyData.plainAll R = true) (p' : PyData.plainAll R' = true) (hu : A.units + min (PyData.tuple (.int k :: R)).depth (PyData.tuple (.int k' :: R')).depth < cLine) (hl : k = k' → R.length = R'.length) (hl1 : R.length ≤ 1)
    (hr : k = k' → ∀ x y u v as bs, R = [x] → R' = [y] → Reads s.heap u x as → Reads s.heap v y bs → PyData.eqv x y = false → RcOp .Lt A.in1 s u v t) :
    RcOp .Lt A s a b (twoLt k k' (PyData.eqvAll R R') t) := by
  cases ra with
  | @tuple l o xs n _ as₁ h1 h2 h3 h4 =>
    cases rb with
    | @tuple l' o' ys n' _ bs₁ k1 k2 k3 k4 =>
      have n1 : xs.size = R.length + 1 := by simpa using ReadsAll.length _ _ _ h4
      have n2 : ys.size = R'.length + 1 := by simpa using ReadsAll.length _ _ _ k4
      have pp : PyData.plainAll (.int k :: R) = true := by
        show (true && PyData.plainAll R) = true
        rw [p]
        rfl
      have pp' : PyData.plainAll (.int k' :: R') = true := by
        show (true && PyData.plainAll R') = true
        rw [p']
        rfl
      have key := KoM.tuples_ltF (A := A) (s := s) (e := SeqAt.pairEq (.int k :: R) (.int k' :: R')) (r := fun j => if j = 0 then decide (k < k') else t) ⟨_, h1, h2, _, h3⟩ ⟨_, k1, k2, _, k3⟩ (room_here hu) (fun j j1 j2 => ?_) (fun j j1 j2 hb hj => ?_)
      · rw [n1, n2] at key
        have em : min (R.length + 1) (R'.length + 1) = min R.length R'.length + 1 := by omega
        rw [em, lexAt_succ] at key
        have e0 : SeqAt.pairEq (.int k :: R) (.int k' :: R') 0 = (k == k') := rfl
        rw [e0] at key
        unfold twoLt
        by_cases hk : k = k'
        · have hlen := hl hk
          rw [if_pos hk]
          rw [if_pos (beq_iff_eq.mpr hk)] at key
          cases R with
          | nil =>
            cases R' with
            | cons y r => cases hlen
            | nil => exact key
          | cons x R =>
            cases R with
            | cons x2 R => simp at hl1
            | nil =>
              cases R' with
              | nil => cases hlen
              | cons y R' =>
                cases R' with
                | cons y2 R' => cases hlen
                | nil =>
                  have key2 : RcOp .Lt A s (.ref l) (.ref l') (if PyData.eqv x y = true then false else t) := key
                  have e2 : PyData.eqvAll [x] [y] = PyData.eqv x y := by
                    show (PyData.eqv x y && true) = _
                    rw [Bool.and_true]
                  rw [e2]
                  exact key2
        · rw [if_neg hk]
          rw [if_neg (by rw [beq_eq_false_iff_ne.mpr hk]; decide)] at key
          exact key
      · have := eqAt_plainAll _ _ A.in1 s xs.toList ys.toList _ _ h4 k4 pp pp' (room_in hu) j (by simpa using j1) (by simpa using j2)
        simpa using this
      · obtain ⟨L, hx⟩ : ∃ L, xs.toList = L := ⟨_, rfl⟩
        obtain ⟨L', hy⟩ : ∃ L', ys.toList = L' := ⟨_, rfl⟩
        have h4' := h4
        have k4' := k4
        rw [hx] at h4'
        rw [hy] at k4'
        cases h4' with
        | @cons v0 vs0 _ _ _ _ r0 rs =>
          cases k4' with
          | @cons w0 ws0 _ _ _ _ q0 qs =>
            cases j with
            | zero =>
              have ex : xs[0] = v0 := by
                have : xs.toList[0]? = some v0 := by rw [hx]; rfl
                rw [Array.getElem?_toList] at this
                exact (Array.getElem?_eq_some_iff.mp this).2
              have ey : ys[0] = w0 := by
                have : ys.toList[0]? = some w0 := by rw [hy]; rfl
                rw [Array.getElem?_toList] at this
                exact (Array.getElem?_eq_some_iff.mp this).2
              rw [ex, ey]
              cases r0
              cases q0
              exact RcOp.lt_int _ _ _ _
            | succ j =>
              have hk : k = k' := beq_iff_eq.mp (show (k == k') = true from hb 0 (Nat.succ_pos _))
              have hlen := hl hk
              have j0 : j = 0 := by omega
              subst j0
              cases R with
              | nil => simp at n1; omega
              | cons x R =>
                cases R' with
                | nil => cases hlen
                | cons y R' =>
                  have z1 : R = [] := List.eq_nil_of_length_eq_zero (by simpa using hl1)
                  have z2 : R' = [] := List.eq_nil_of_length_eq_zero (by rw [z1] at hlen; simpa using hlen.symm)
                  subst z1 z2
                  cases rs with
                  | @cons v1 vs1 _ _ _ _ r1 rs =>
                    cases qs with
                    | @cons w1 ws1 _ _ _ _ q1 qs =>
                      have ex : xs[1] = v1 := by
                        have : xs.toList[1]? = some v1 := by rw [hx]; rfl
                        rw [Array.getElem?_toList] at this
                        exact (Array.getElem?_eq_some_iff.mp this).2
                      have ey : ys[1] = w1 := by
                        have : ys.toList[1]? = some w1 := by rw [hy]; rfl
                        rw [Array.getElem?_toList] at this
                        exact (Array.getElem?_eq_some_iff.mp this).2
                      rw [ex, ey]
                      exact hr hk x y _ _ _ _ rfl rfl r1 q1 hj
end K0

namespace K0
open PySem PySem.SeqAt PySem.W PyProof.Rows
open Ob (lexAt lexAt_zero lexAt_succ RcOp)
theorem lt_strR {A : Around} {s : Shared} (x y : Str) (t u : Tok) : RcOp .Lt A s (.str x t) (.str y u) (decide (x.cps.toList < y.cps.toList)) := fun _ _ _ _ h => PySem.P.lt_str h
theorem pyL_at : ∀ (ds : List D) (j : Nat) (h : j < (D.pyL ds).length), (D.pyL ds)[j] = (gt ds j).py
  | [], _, h => absurd h (Nat.not_lt_zero _)
  | d :: ds, 0, _ => rfl
  | d :: ds, j + 1, h => by
    show (D.pyL ds)[j]'(Nat.lt_of_succ_lt_succ h) = _
    exact pyL_at ds j _
theorem kDL_len (z : List D) : ∀ ds : List D, (kDL z ds).length = ds.length
  | [] => rfl
  | d :: ds => by
    show (kDL z ds).length + 1 = ds.length + 1
    rw [kDL_len z ds]
theorem pyL_len : ∀ ds : List D, (D.pyL ds).length = ds.length
  | [] => rfl
  | d :: ds => by
    show (D.pyL ds).length + 1 = ds.length + 1
    rw [pyL_len ds]
/-- a kind and a value each -/
theorem two_kinds {d e : D} {q t : Bool} (hd : d.rkd = true) (he : e.rkd = true) (h : kN d ≠ kN e) : twoLt (kN d) (kN e) q t = ltD d e := by
  unfold twoLt
  rw [if_neg h, ltD_kinds hd he h]
theorem z_plain {z : List D} (hz : Zok z) : PyData.plainAll (D.pyL z) = true := by rcases hz with rfl | rfl <;> rfl
theorem z_self {z : List D} (hz : Zok z) : PyData.eqvAll (D.pyL z) (D.pyL z) = true := by rcases hz with rfl | rfl <;> rfl
theorem kR_plain {z : List D} (hz : Zok z) : ∀ d : D, d.rkd = true → PyData.plainAll (D.pyL (kR z d)) = true
  | .non, _ => z_plain hz
  | .int _, _ => rfl
  | .str _, _ => rfl
  | .tup ds, h => by
    show (PyData.plainAll (D.pyL (kDL z ds)) && true) = true
    rw [kDL_plain hz ds h]
    rfl
  | .bl _, h => by cases h
  | .oth, h => by cases h
theorem kR_len {z : List D} (hz : Zok z) : ∀ d : D, d.rkd = true → (D.pyL (kR z d)).length ≤ 1
  | .non, _ => by rcases hz with rfl | rfl <;> decide
  | .int _, _ => Nat.le_refl 1
  | .str _, _ => Nat.le_refl 1
  | .tup ds, h => Nat.le_refl 1
  | .bl _, h => by cases h
  | .oth, h => by cases h
theorem kR_same {z : List D} {d e : D} (hd : d.rkd = true) (he : e.rkd = true) (h : kN d = kN e) : (D.pyL (kR z d)).length = (D.pyL (kR z e)).length := by
  cases d <;> cases e <;> first | rfl | (cases hd; done) | (cases he; done) | (simp [kN] at h; done)
/-- what the second places give, where the kinds are one -/
theorem two_same {z : List D} (hz : Zok z) {d e : D} (hd : d.rkd = true) (he : e.rkd = true) (h : kN d = kN e) : twoLt (kN d) (kN e) (PyData.eqvAll (D.pyL (kR z d)) (D.pyL (kR z e))) (ltD d e) = ltD d e := by
  unfold twoLt
  rw [if_pos h]
  cases q : PyData.eqvAll (D.pyL (kR z d)) (D.pyL (kR z e)) with
  | false => rfl
  | true =>
    rw [if_pos rfl]
    have : d = e := by
      refine eqK (z := z) d e hd he ?_
      rw [kD_parts z d hd, kD_parts z e he]
      show (kN d == kN e && PyData.eqvAll (D.pyL (kR z d)) (D.pyL (kR z e))) = true
      rw [q, beq_iff_eq.mpr h]
      rfl
    rw [this, ltD_irr]
theorem two_any {z : List D} (hz : Zok z) {d e : D} (hd : d.rkd = true) (he : e.rkd = true) : twoLt (kN d) (kN e) (PyData.eqvAll (D.pyL (kR z d)) (D.pyL (kR z e))) (ltD d e) = ltD d e := by
  by_cases h : kN d = kN e
  · exact two_same hz hd he h
  · exact two_kinds hd he h
theorem kD_py (z : List D) {d : D} (hd : d.rkd = true) : (kD z d).py = .tuple (.int (kN d) :: D.pyL (kR z d)) := by
  rw [kD_parts z d hd]
  rfl
/-- .. given < of the second places -/
theorem rc_step {z : List D} (hz : Zok z) {d e : D} {A : Around} {s : Shared} {a b : Value} {as bs : List Addr} (ra : Reads s.heap a (kD z d).py as) (rb : Reads s.heap b (kD z e).py bs) (hd : d.rkd = true) (he : e.rkd = true)
    (hu : A.units + min (kD z d).py.depth (kD z e).py.depth < cLine)
    (hr : kN d = kN e → ∀ x y u v as bs, D.pyL (kR z d) = [x] → D.pyL (kR z e) = [y] → Reads s.heap u x as → Reads s.heap v y bs → PyData.eqv x y = false → RcOp .Lt A.in1 s u v (ltD d e)) : RcOp .Lt A s a b (ltD d e) := by
  rw [kD_py z hd] at ra hu
  rw [kD_py z he] at rb hu
  have := outer_lt (t := ltD d e) ra rb (kR_plain hz d hd) (kR_plain hz e he) hu (kR_same hd he) (kR_len hz d hd) hr
  rw [two_any hz hd he] at this
  exact this
theorem rcm_tup {z : List D} (hz : Zok z) {ds es : List D} {A : Around} {s : Shared} {a b : Value} {as bs : List Addr} (ra : Reads s.heap a (.tuple (D.pyL (kDL z ds))) as) (rb : Reads s.heap b (.tuple (D.pyL (kDL z es))) bs) (hd : D.rkdL ds = true) (he : D.rkdL es = true)
    (hu : A.units + min (PyData.tuple (D.pyL (kDL z ds))).depth (PyData.tuple (D.pyL (kDL z es))).depth < cLine)
    (hr : ∀ (vs ws : List Value) (as bs : List Addr), ReadsAll s.heap vs (D.pyL (kDL z ds)) as → ReadsAll s.heap ws (D.pyL (kDL z es)) bs → ∀ j (h1 : j < vs.length) (h2 : j < ws.length), RcOp .Lt A.in1 s vs[j] ws[j] (ltD (gt ds j) (gt es j))) :
    RcOp .Lt A s a b (ltD (.tup ds) (.tup es)) := by
  rw [ltD_tup, ← lexAt_toks hz ds es hd he]
  cases ra with
  | @tuple l o xs n _ as₁ h1 h2 h3 h4 =>
    cases rb with
    | @tuple l' o' ys n' _ bs₁ k1 k2 k3 k4 =>
      have n1 : xs.size = ds.length := by
        have := ReadsAll.length _ _ _ h4
        rw [pyL_len, kDL_len] at this
        simpa using this
      have n2 : ys.size = es.length := by
        have := ReadsAll.length _ _ _ k4
        rw [pyL_len, kDL_len] at this
        simpa using this
      rw [← n1, ← n2]
      refine KoM.tuples_ltF ⟨_, h1, h2, _, h3⟩ ⟨_, k1, k2, _, k3⟩ (room_here hu) (fun j j1 j2 => ?_) (fun j j1 j2 hb hj => ?_)
      · have := eqAt_plainAll _ _ A.in1 s xs.toList ys.toList _ _ h4 k4 (kDL_plain hz ds hd) (kDL_plain hz es he) (room_in hu) j (by simpa using j1) (by simpa using j2)
        simpa using this
      · have := hr xs.toList ys.toList _ _ h4 k4 j (by simpa using j1) (by simpa using j2)
        simpa using this
theorem rc_second {z : List D} (hz : Zok z) {d e : D} (A : Around) {s : Shared} (hd : d.rkd = true) (he : e.rkd = true) (h : kN d = kN e) {x y : PyData} {u v : Value} {as bs : List Addr} (hx : D.pyL (kR z d) = [x]) (hy : D.pyL (kR z e) = [y]) (ru : Reads s.heap u x as) (rv : Reads s.heap v y bs)
    (hne : PyData.eqv x y = false) (ht : ∀ ds es, d = .tup ds → e = .tup es → x = .tuple (D.pyL (kDL z ds)) → y = .tuple (D.pyL (kDL z es)) → RcOp .Lt A s u v (ltD (.tup ds) (.tup es))) : RcOp .Lt A s u v (ltD d e) := by
  cases d with
  | non =>
    cases e with
    | non =>
      exfalso
      have hx' : D.pyL z = [x] := hx
      have hy' : D.pyL z = [y] := hy
      have e1 := hx'.symm.trans hy'
      have e2 : x = y := (List.cons.inj e1).1
      subst e2
      have := z_self hz
      rw [hx'] at this
      have : (PyData.eqv x x && true) = true := this
      rw [hne] at this
      cases this
    | int i => simp [kN] at h
    | str i => simp [kN] at h
    | tup i => simp [kN] at h
    | bl _ => cases he
    | oth => cases he
  | int i =>
    cases e with
    | int j =>
      have e1 : x = .int i := (List.cons.inj hx).1.symm
      have e2 : y = .int j := (List.cons.inj hy).1.symm
      subst e1 e2
      cases ru
      cases rv
      rw [ltD_int]
      exact RcOp.lt_int _ _ _ _
    | non => simp [kN] at h
    | str i => simp [kN] at h
    | tup i => simp [kN] at h
    | bl _ => cases he
    | oth => cases he
  | str i =>
    cases e with
    | str j =>
      have e1 : x = .str i := (List.cons.inj hx).1.symm
      have e2 : y = .str j := (List.cons.inj hy).1.symm
      subst e1 e2
      cases ru
      cases rv
      rw [ltD_str]
      exact lt_strR _ _ _ _
    | non => simp [kN] at h
    | int i => simp [kN] at h
    | tup i => simp [kN] at h
    | bl _ => cases he
    | oth => cases he
  | tup ds =>
    cases e with
    | tup es => exact ht ds es rfl rfl (List.cons.inj hx).1.symm (List.cons.inj hy).1.symm
    | non => simp [kN] at h
    | int i => simp [kN] at h
    | str i => simp [kN] at h
    | bl _ => cases he
    | oth => cases he
  | bl _ => cases hd
  | oth => cases hd
theorem depth_tup2 {k : Int} {x : PyData} {R : List PyData} (h : R = [x]) : (PyData.tuple (.int k :: R)).depth = x.depth + 1 := by
  subst h
  show max 0 (max x.depth 0) + 1 = _
  omega
mutual
theorem rcK {z : List D} (hz : Zok z) : ∀ (d e : D) (A : Around) (s : Shared) (a b : Value) (as bs : List Addr), Reads s.heap a (kD z d).py as → Reads s.heap b (kD z e).py bs → d.rkd = true → e.rkd = true →
    A.units + min (kD z d).py.depth (kD z e).py.depth < cLine → RcOp .Lt A s a b (ltD d e)
  | .tup ds, e, A, s, a, b, as, bs, ra, rb, hd, he, hu => by
    refine rc_step hz ra rb hd he hu fun hk x y u v as' bs' hx hy ru rv hne => ?_
    have hu2 : A.in1.units + min x.depth y.depth < cLine := by
      rw [kD_py z hd, kD_py z he, depth_tup2 hx, depth_tup2 hy] at hu
      exact room_in hu
    refine rc_second hz A.in1 hd he hk hx hy ru rv hne fun ds' es e1 e2 ex ey => ?_
    cases e1
    subst e2 ex ey
    refine rcm_tup hz ru rv hd he hu2 fun vs ws as bs rs qs j h1 h2 => ?_
    exact rcKL hz ds es A.in1.in1 s vs ws as bs rs qs hd he (room_in hu2) j h1 h2
  | .non, e, A, s, a, b, as, bs, ra, rb, hd, he, hu =>
    rc_step hz ra rb hd he hu fun hk x y u v as' bs' hx hy ru rv hne => rc_second hz A.in1 hd he hk hx hy ru rv hne fun ds' es e1 e2 ex ey => by cases e1
  | .int i, e, A, s, a, b, as, bs, ra, rb, hd, he, hu =>
    rc_step hz ra rb hd he hu fun hk x y u v as' bs' hx hy ru rv hne => rc_second hz A.in1 hd he hk hx hy ru rv hne fun ds' es e1 e2 ex ey => by cases e1
  | .str i, e, A, s, a, b, as, bs, ra, rb, hd, he, hu =>
    rc_step hz ra rb hd he hu fun hk x y u v as' bs' hx hy ru rv hne => rc_second hz A.in1 hd he hk hx hy ru rv hne fun ds' es e1 e2 ex ey => by cases e1
  | .bl _, _, _, _, _, _, _, _, _, _, hd, _, _ => by cases hd
  | .oth, _, _, _, _, _, _, _, _, _, hd, _, _ => by cases hd
theorem rcKL {z : List D} (hz : Zok z) : ∀ (ds es : List D) (A : Around) (s : Shared) (vs ws : List Value) (as bs : List Addr), ReadsAll s.heap vs (D.pyL (kDL z ds)) as → ReadsAll s.heap ws (D.pyL (kDL z es)) bs → D.rkdL ds = true → D.rkdL es = true →
    A.units + min (PyData.depthAll (D.pyL (kDL z ds))) (PyData.depthAll (D.pyL (kDL z es))) < cLine → ∀ j (h1 : j < vs.length) (h2 : j < ws.length), RcOp .Lt A s vs[j] ws[j] (ltD (gt ds j) (gt es j))
  | [], _, _, _, _, _, _, _, ra, _, _, _, _, j, h1, _ => by cases ra; exact absurd h1 (Nat.not_lt_zero _)
  | _ :: _, [], _, _, _, _, _, _, _, rb, _, _, _, j, _, h2 => by cases rb; exact absurd h2 (Nat.not_lt_zero _)
  | d :: ds, e :: es, A, s, _, _, _, _, ra, rb, hd, he, hu, j, h1, h2 => by
    have g1 := Bool.and_eq_true_iff.mp (show (d.rkd && D.rkdL ds) = true from hd)
    have g2 := Bool.and_eq_true_iff.mp (show (e.rkd && D.rkdL es) = true from he)
    cases ra with
    | cons r rs =>
      cases rb with
      | cons r' rs' =>
        cases j with
        | zero => exact rcK hz d e A s _ _ _ _ r r' g1.1 g2.1 (room_head hu)
        | succ j => exact rcKL hz ds es A s _ _ _ _ rs rs' g1.2 g2.2 (room_tail hu) j (Nat.lt_of_succ_lt_succ h1) (Nat.lt_of_succ_lt_succ h2)
end
end K0

namespace K0
open PySem PySem.SeqAt PySem.W PyProof.Rows
open Ob (lexAt lexAt_zero lexAt_succ RcOp)
/-! ### the keys as the sort sees them -/
mutual
/-- a value reads as one datum -/
theorem rd_uniq {h : Heap} : ∀ (x y : PyData) (v : Value) (as bs : List Addr), x.plain = true → Reads h v x as → Reads h v y bs → x = y
  | .none, y, v, as, bs, _, ra, rb => by
    cases ra
    cases rb
    rfl
  | .bool _, y, v, as, bs, _, ra, rb => by
    cases ra
    cases rb
    rfl
  | .int _, y, v, as, bs, _, ra, rb => by
    cases ra
    cases rb
    rfl
  | .str _, y, v, as, bs, _, ra, rb => by
    cases ra
    cases rb
    rfl
  | .list xs, y, v, as, bs, hp, ra, rb => by
    cases ra with
    | @list l o vs n _ _ h1 h2 h3 h4 =>
      cases rb with
      | @list l' o' vs' n' ys _ k1 k2 k3 k4 =>
        cases h1.symm.trans k1
        cases h3.symm.trans k3
        rw [rd_uniqAll xs ys _ _ _ hp h4 k4]
      | tuple k1 k2 k3 k4 =>
        cases h1.symm.trans k1
        exact absurd (h2.symm.trans k2) (by simp)
      | dict k1 k2 k3 k4 =>
        cases h1.symm.trans k1
        exact absurd (h2.symm.trans k2) (by simp)
  | .tuple xs, y, v, as, bs, hp, ra, rb => by
    cases ra with
    | @tuple l o vs n _ _ h1 h2 h3 h4 =>
      cases rb with
      | @tuple l' o' vs' n' ys _ k1 k2 k3 k4 =>
        cases h1.symm.trans k1
        cases h3.symm.trans k3
        rw [rd_uniqAll xs ys _ _ _ hp h4 k4]
      | list k1 k2 k3 k4 =>
        cases h1.symm.trans k1
        exact absurd (h2.symm.trans k2) (by simp)
      | dict k1 k2 k3 k4 =>
        cases h1.symm.trans k1
        exact absurd (h2.symm.trans k2) (by simp)
  | .dict _, _, _, _, _, hp, _, _ => by cases hp
theorem rd_uniqAll {h : Heap} : ∀ (xs ys : List PyData) (vs : List Value) (as bs : List Addr), PyData.plainAll xs = true → ReadsAll h vs xs as → ReadsAll h vs ys bs → xs = ys
  | [], ys, _, _, _, _, ra, rb => by
    cases ra
    cases rb
    rfl
  | x :: xs, ys, _, _, _, hp, ra, rb => by
    have h2 := Bool.and_eq_true_iff.mp (show (x.plain && PyData.plainAll xs) = true from hp)
    cases ra with
    | cons r rs =>
      cases rb with
      | cons q qs => rw [rd_uniq x _ _ _ _ h2.1 r q, rd_uniqAll xs _ _ _ _ h2.2 rs qs]
end
theorem kD_inj {z : List D} (hz : Zok z) {d e : D} (hd : d.rkd = true) (he : e.rkd = true) (h : (kD z d).py = (kD z e).py) : d = e :=
  eqK d e hd he (by rw [← h]; exact kD_self hz d hd)
/-- the kind of keys that the values ds make in the heap h -/
noncomputable def kindK (z : List D) (h : Heap) (ds : List D) : PyProof.Rows.KeyKind where
  toKeyOrd := listOrd itemOrd
  keyOf v := open Classical in if q : ∃ d, d ∈ ds ∧ ∃ as, Reads h v (kD z d).py as then some (tk q.choose) else none
  dflt := ([] : List Sg)
theorem kindK_some {z : List D} (hz : Zok z) {h : Heap} {ds : List D} (hr : ∀ d, d ∈ ds → d.rkd = true) {v : Value} {d : D} {as : List Addr} (hd : d ∈ ds) (r : Reads h v (kD z d).py as) : (kindK z h ds).keyOf v = some (tk d) := by
  have q : ∃ d, d ∈ ds ∧ ∃ as, Reads h v (kD z d).py as := ⟨d, hd, as, r⟩
  have e : (kindK z h ds).keyOf v = some (tk q.choose) := by
    show (open Classical in if q : ∃ d, d ∈ ds ∧ ∃ as, Reads h v (kD z d).py as then some (tk q.choose) else none) = _
    rw [dif_pos q]
  obtain ⟨h1, as', h2⟩ := q.choose_spec
  rw [e, kD_inj hz (hr _ h1) (hr d hd) (rd_uniq _ _ _ _ _ (kD_plain hz _ (hr _ h1)) h2 r)]
theorem kindK_inv {z : List D} {h : Heap} {ds : List D} {v : Value} {k : List Sg} (e : (kindK z h ds).keyOf v = some k) : ∃ d as, d ∈ ds ∧ Reads h v (kD z d).py as ∧ k = tk d := by
  by_cases q : ∃ d, d ∈ ds ∧ ∃ as, Reads h v (kD z d).py as
  · have e' : (kindK z h ds).keyOf v = some (tk q.choose) := by
      show (open Classical in if q : ∃ d, d ∈ ds ∧ ∃ as, Reads h v (kD z d).py as then some (tk q.choose) else none) = _
      rw [dif_pos q]
    obtain ⟨h1, as', h2⟩ := q.choose_spec
    rw [e'] at e
    exact ⟨_, as', h1, h2, (Option.some.inj e).symm⟩
  · have e' : (kindK z h ds).keyOf v = none := by
      show (open Classical in if q : ∃ d, d ∈ ds ∧ ∃ as, Reads h v (kD z d).py as then some (tk q.choose) else none) = _
      rw [dif_neg q]
      rfl
    rw [e'] at e
    exact absurd e (by simp)
section
variable {prog : Program} {w : World} {A : Around} {s : Shared}
/-- two tuples as the sort compares them -/
theorem kat_outer {fin : Bool} {Q : Bool → Shared → Prop} {k k' : Int} {R R' : List PyData} {t : Bool} {vs ws : List Value} {as bs : List Addr} (ra : ReadsAll s.heap vs (.int k :: R) as) (rb : ReadsAll s.heap ws (.int k' :: R') bs)
    (p : PyData.plainAll R = true) (p' : PyData.plainAll R' = true) (hu : A.units + min (PyData.depthAll (.int k :: R)) (PyData.depthAll (.int k' :: R')) < cLine) (hl : k = k' → R.length = R'.length) (hl1 : R.length ≤ 1)
    (hfin : fin = decide (vs.length < ws.length)) (hr : k = k' → ∀ x y u v as bs, R = [x] → R' = [y] → Reads s.heap u x as → Reads s.heap v y bs → PyData.eqv x y = false → RcOp .Lt A s u v t)
    (hq : Q (twoLt k k' (PyData.eqvAll R R') t) s) : KatLex prog w A true fin Q (vs.zip ws) 0 s := by
  cases ra with
  | cons r rs =>
    cases rb with
    | cons r' rs' =>
      rw [List.zip_cons_cons]
      refine kat_cons (eqAt_plain (.int k) (.int k') A s _ _ _ _ r r' rfl rfl (room_head hu) prog w _ _ ?_)
      show KatGo prog w A true fin Q _ _ _ 0 (k == k') s
      by_cases hk : k = k'
      · have hlen := hl hk
        rw [beq_iff_eq.mpr hk]
        refine kat_yes ?_
        unfold twoLt at hq
        rw [if_pos hk] at hq
        cases R with
        | nil =>
          cases R' with
          | cons y r => cases hlen
          | nil =>
            cases rs
            cases rs'
            have : fin = false := by rw [hfin]; rfl
            subst this
            exact kat_nil hq
        | cons x R =>
          cases R with
          | cons x2 R => simp at hl1
          | nil =>
            cases R' with
            | nil => cases hlen
            | cons y R' =>
              cases R' with
              | cons y2 R' => cases hlen
              | nil =>
                cases rs with
                | cons r1 r1s =>
                  cases r1s
                  cases rs' with
                  | cons q1 q1s =>
                    cases q1s
                    have : fin = false := by rw [hfin]; rfl
                    subst this
                    have px : x.plain = true := by
                      have := p
                      simpa [PyData.plainAll] using this
                    have py : y.plain = true := by
                      have := p'
                      simpa [PyData.plainAll] using this
                    have e2 : PyData.eqvAll [x] [y] = PyData.eqv x y := by
                      show (PyData.eqv x y && true) = _
                      rw [Bool.and_true]
                    rw [e2] at hq
                    rw [List.zip_cons_cons]
                    refine kat_cons (eqAt_plain x y A s _ _ _ _ r1 q1 px py (room_head (room_tail hu)) prog w _ _ ?_)
                    cases hx : PyData.eqv x y with
                    | true =>
                      rw [hx] at hq
                      exact kat_yes (kat_nil hq)
                    | false =>
                      rw [hx] at hq
                      refine kat_no ?_
                      show wpAny (model prog w) A (oneLt' false _ _) Q _ s
                      rw [oneLt'_eq]
                      simp only [Bool.false_eq_true, if_false]
                      exact wpAny_bind (hr hk x y _ _ _ _ rfl rfl r1 q1 hx prog w _ _ (wpAny_truthy_bool hq))
      · rw [beq_eq_false_iff_ne.mpr hk]
        unfold twoLt at hq
        rw [if_neg hk] at hq
        cases r
        cases r'
        exact kat_no (oneLt_int hq)
theorem depthAll_cons (k : Int) (R : List PyData) : PyData.depthAll (.int k :: R) = PyData.depthAll R := by
  show max 0 (PyData.depthAll R) = _
  omega
/-- values that read as keys can be sorted -/
theorem sortsK {z : List D} (hz : Zok z) {vs : List Value} {ds : List D} (e : EachIs (fun v d => ∃ as, Reads s.heap v (kD z d).py as) vs ds) (hr : ∀ d, d ∈ ds → d.rkd = true) (hu : ∀ d, d ∈ ds → A.units + (kD z d).py.depth < cLine) : SortsAt prog w A s (kindK z s.heap ds) vs := by
  refine ⟨fun v hv => ?_, ?_⟩
  · obtain ⟨d, hd, as, r⟩ := e.left v hv
    exact ⟨_, kindK_some hz hr hd r⟩
  · refine ⟨tuples' (Value.type "int" != Value.type "tuple"), ?_, fun h2 E Q hq => ?_⟩
    · intro E x y a b Q ha hb hq
      obtain ⟨d, as, hd, ra, rfl⟩ := kindK_inv ha
      obtain ⟨d', as', hd', rb, rfl⟩ := kindK_inv hb
      have r1 := hr d hd
      have r2 := hr d' hd'
      have hq' : Q (ltD d d') s := hq
      have hroom : A.units + min (kD z d).py.depth (kD z d').py.depth < cLine := Nat.lt_of_le_of_lt (Nat.add_le_add_left (Nat.min_le_left _ _) _) (hu d hd)
      rw [kD_py z r1] at ra hroom
      rw [kD_py z r2] at rb hroom
      cases ra with
      | @tuple l o xs n _ _ h1 h2 h3 h4 =>
        cases rb with
        | @tuple l' o' xs' n' _ _ k1 k2 k3 k4 =>
          refine kat_lt h1 h3 k1 k3 ?_
          have hroom2 : A.units + min (PyData.depthAll (.int (kN d) :: D.pyL (kR z d))) (PyData.depthAll (.int (kN d') :: D.pyL (kR z d'))) < cLine := by
            have q := SeqAt.room_in hroom
            omega
          refine kat_outer (t := ltD d d') h4 k4 (kR_plain hz d r1) (kR_plain hz d' r2) hroom2 (kR_same r1 r2) (kR_len hz d r1) (by rw [Array.length_toList, Array.length_toList]) (fun hk x y u v as bs hx hy ru rv hne => ?_) (by rw [two_any hz r1 r2]; exact hq')
          refine rc_second hz A r1 r2 hk hx hy ru rv hne fun ds es e1 e2 ex ey => ?_
          subst e1 e2 ex ey
          have hu2 : A.units + min (PyData.tuple (D.pyL (kDL z ds))).depth (PyData.tuple (D.pyL (kDL z es))).depth < cLine := by
            have h7 := hroom2
            rw [depthAll_cons, depthAll_cons, hx, hy] at h7
            exact room_head h7
          exact rcm_tup hz ru rv r1 r2 hu2 fun vs ws as bs rs qs j h1 h2 => rcKL hz ds es A.in1 s vs ws as bs rs qs r1 r2 (room_in hu2) j h1 h2
    · have e' : EachIs (fun v p => ∃ as, Reads s.heap v p as) vs (ds.map fun d => (kD z d).py) := each_map (R := fun v p => ∃ as, Reads s.heap v p as) (fun d => (kD z d).py) e
      obtain ⟨fs, t1, t2, t3⟩ := each_katTups e' fun p hp => by
        obtain ⟨d, hd, rfl⟩ := List.mem_map.mp hp
        exact ⟨_, _, kD_py z (hr d hd)⟩
      refine kat_kind (T := .type "int") t1 (by omega) (fun f hf => ?_) (beq_self_eq_true _) hq
      obtain ⟨x, r, as, m1, m2⟩ := t3 f hf
      obtain ⟨d, hd, hde⟩ := List.mem_map.mp m1
      rw [kD_py z (hr d hd)] at hde
      have hx : x = .int (kN d) := by
        have := PyData.tuple.inj hde
        exact (List.cons.inj this).1.symm
      subst hx
      exact looks_reads m2
end
end K0

namespace K0
open PySem PySem.SeqAt PySem.W PyProof.Rows L2 Evl
/-! ### sorted(values, key=f), f a def that makes keys -/
mutual
theorem kD_clean {z : List D} (hz : Zok z) : ∀ d : D, d.rkd = true → (kD z d).clean = true
  | .non, _ => by rcases hz with rfl | rfl <;> rfl
  | .int _, _ => rfl
  | .str _, _ => rfl
  | .tup ds, h => by
    show (true && ((D.cleanL (kDL z ds)) && true)) = true
    rw [kDL_clean hz ds h]
    rfl
  | .bl _, h => by cases h
  | .oth, h => by cases h
theorem kDL_clean {z : List D} (hz : Zok z) : ∀ ds : List D, D.rkdL ds = true → D.cleanL (kDL z ds) = true
  | [], _ => rfl
  | d :: ds, h => by
    have h2 := Bool.and_eq_true_iff.mp (show (d.rkd && D.rkdL ds) = true from h)
    show ((kD z d).clean && D.cleanL (kDL z ds)) = true
    rw [kD_clean hz d h2.1, kDL_clean hz ds h2.2]
    rfl
end
/-- d not behind e -/
def leD (d e : D) : Bool := !ltD e d
theorem leD_sort : sortLe (listOrd itemOrd) false tk = leD := rfl
/-- the state while sorted runs: its own lists are known to nobody -/
structure JS (X : Cx) (H : Hp) (s : Shared) (a kS : Addr) (e1 : Nat) (kA : Array Value) (Hj : Hp) (sj : Shared) : Prop where
  os : sj.os = s.os
  bare : AllBare sj.gens
  un : Un (frs X.stack) [] H Hj s.heap sj.heap
  hok : HOk X.prog X.w Hj sj.heap
  ex : Ex H Hj
  na : Hj a = none
  nk : Hj kS = none
  ga : sj.heap.get? a = some (seqObj "list" #[] e1)
  gk : ∃ e, sj.heap.get? kS = some (seqObj "list" kA e)
  fa : s.heap.objs.size ≤ a
  fk : s.heap.objs.size ≤ kS
  ak : kS ≠ a
section
variable {X : Cx} {pins : List (Addr × Obj)} {σ : L2.St} {H Hj : Hp} {s sj : Shared} {a kS : Addr} {e1 : Nat} {kA : Array Value}
/-- an object known to nobody turns -/
theorem un_turn {fs : List Addr} {H1 H2 : Hp} {h h1 h2 : Heap} {c : Addr} (u : Un fs [] H1 H2 h h1) (k : ∀ b o, b ≠ c → h1.get? b = some o → h2.get? b = some o) (hc : h.get? c = none) : Un fs [] H1 H2 h h2 := by
  have ne : ∀ b o, h.get? b = some o → b ≠ c := fun b o e z => by rw [z, hc] at e; cases e
  exact ⟨fun b o e n f x => k b o (ne b o e) (u.keep b o e n f x), fun b o e n f x => by
    obtain ⟨sl, q⟩ := u.slot b o e n f x
    exact ⟨sl, k b _ (ne b o e) q⟩, u.free, fun b o e x => by
    obtain ⟨o', q⟩ := u.there b o e x
    exact ⟨o', k b _ (ne b o e) q⟩, u.tups, u.frzs, u.tbls⟩
theorem hok_turn {P : Program} {w : World} {H1 : Hp} {h1 h2 : Heap} {c : Addr} (x : HOk P w H1 h1) (k : ∀ b o, b ≠ c → h1.get? b = some o → h2.get? b = some o) (hn : H1 c = none) : HOk P w H1 h2 := fun b u e => by
  refine (x b u e).stay (fun c' v hc q => k c' v (fun z => ?_) q) (fun _ q => q) fun _ _ q => q
  rcases hc with z2 | z2
  · rw [← z2, z, hn] at e
    cases e
  · rw [z, hn] at z2
    cases z2
theorem hok_tell {P : Program} {w : World} {H1 : Hp} {h1 : Heap} {c : Addr} {o : HO} (x : HOk P w H1 h1) (hn : H1 c = none) (new : ObjOk P w (upd H1 c o) h1 c o) : HOk P w (upd H1 c o) h1 := fun b u e => by
  by_cases hb : b = c
  · subst hb
    rw [upd_same] at e
    cases e
    exact new
  · rw [upd_ne hb] at e
    exact (x b u e).stay (fun _ _ _ q => q) (fun c' q => by rw [upd_ne (ne_of_none q hn)]; exact q) fun c' xs q => by rw [upd_ne (ne_of_none q hn)]; exact q
theorem un_tell {fs : List Addr} {H1 H2 : Hp} {h h1 : Heap} {c : Addr} {o : HO} (u : Un fs [] H1 H2 h h1) (hn : H2 c = none) (hc : h.get? c = none) : Un fs [] H1 (upd H2 c o) h h1 :=
  ⟨u.keep, u.slot, fun b ob e n x => by
    have hb : b ≠ c := fun z => by rw [z, hc] at e; cases e
    rw [upd_ne hb]
    exact u.free b ob e n x, u.there, fun b xs e => by
    have q := u.tups b xs e
    rw [upd_ne (ne_of_none q hn)]
    exact q, fun b ob v e => by
    have q := u.frzs b ob v e
    rw [upd_ne (ne_of_none q hn)]
    exact q, fun b ps e => by
    obtain ⟨more, q⟩ := u.tbls b ps e
    exact ⟨more, by rw [upd_ne (ne_of_none q hn)]; exact q⟩⟩
theorem JS.inv (J : JS X H s a kS e1 kA Hj sj) (I : Inv X pins σ H s) : Inv X pins σ Hj sj := I.call' J.os J.un J.hok J.bare fun b hb => absurd hb (by simp)
theorem JS.nofr (J : JS X H s a kS e1 kA Hj sj) (I : Inv X pins σ H s) {c : Addr} (hc : s.heap.objs.size ≤ c) : c ∉ frs X.stack := fun hb => by
  rcases List.mem_cons.mp (I.stkSub c hb) with z | z
  · have h := I.lt
    rw [← z] at h
    exact Nat.lt_irrefl _ (Nat.lt_of_lt_of_le h hc)
  · exact I.nofs hc z
/-- the call of f on one item -/
theorem JS.turn {k : Nat} {f : Addr} {fd : FuncData} {p : Str} {sp : Sp} {z : List D} {x : V} {v : Value} {d : D} (J : JS X H s a kS e1 kA Hj sj) (I : Inv X pins σ H s) (F : FnOk X.prog X.w X.K X.mg X.base CX0 k f fd [p] sp) (bnd : Binds X.K fd [p] []) (rm : Room (k + 2) X.A)
    (rx : RelV x v) (hsp : ∀ Q : VK, (∀ y H2, Ex Hj H2 → Rp X.K H2 y (kD z d) → Q y H2) → sp [x] Hj Q E0) :
    wpAny (model X.prog X.w) X.A.in1.in1 (call (.ref f) [v]) (fun u s' => ∃ H', JS X H s a kS e1 kA H' s' ∧ Ex Hj H' ∧ ∃ y, RelV y u ∧ Rp X.K H' y (kD z d)) (fun _ _ => False) sj := by
  have Ij := J.inv I
  refine wpAny_call (codeAny_mono (F.run X.A.in1.in1 X.stack sj Hj ⟨[v], []⟩ [v] [x] (fun y H' => Ex Hj H' ∧ Rp X.K H' y (kD z d)) E0 rm.in1.in1 Ij.env0.in1.in1 (by have := bnd sj [v] Ij.kIn rfl; rw [List.append_nil] at this; exact this) (.cons rx .nil) (hsp _ fun y H2 e r => ⟨e, r⟩)) fun r s' zz => ?_)
  cases r with
  | error u => exact zz.elim
  | ok fl =>
    cases fl with
    | ret u =>
      obtain ⟨y, H', os, bare, un, hok, r, e, rp⟩ := zz
      obtain ⟨ek, gk⟩ := J.gk
      refine ⟨H', ⟨os.trans J.os, bare, J.un.trans un, hok, J.ex.trans e, ?_, ?_, un.keep _ _ J.ga J.na (J.nofr I J.fa) (by simp), ⟨ek, un.keep _ _ gk J.nk (J.nofr I J.fk) (by simp)⟩, J.fa, J.fk, J.ak⟩, e, y, r, rp⟩
      · exact un.free _ _ J.ga J.na (by simp)
      · exact un.free _ _ gk J.nk (by simp)
    | _ => exact zz.elim
/-- the keys' list grows -/
theorem JS.push {v : Value} {h' : Heap} {c2 : Nat} (J : JS X H s a kS e1 kA Hj sj) (k : ∀ b o, b ≠ kS → sj.heap.get? b = some o → h'.get? b = some o) (g : h'.get? kS = some (seqObj "list" (kA.push v) c2)) : JS X H s a kS e1 (kA.push v) Hj { sj with heap := h' } :=
  ⟨J.os, J.bare, un_turn J.un k (Heap.get?_none_of_le J.fk), hok_turn J.hok k J.nk, J.ex, J.na, J.nk, k _ _ J.ak.symm J.ga, ⟨c2, g⟩, J.fa, J.fk, J.ak⟩
end
section
variable {X : Cx} {pins : List (Addr × Obj)} {σ : L2.St} {H : Hp} {s : Shared} {a kS : Addr} {e1 : Nat} {k : Nat} {f : Addr} {fd : FuncData} {p : Str} {sp : Sp} {z : List D} {xs : List V} {vs : List Value} {ds : List D} {P : PySem.Fin → Shared → Prop}
/-- what the sort of the items leaves -/
def SrtOut (X : Cx) (H : Hp) (s : Shared) (a : Addr) (P : PySem.Fin → Shared → Prop) (vs : List Value) (ds : List D) : Prop :=
  ∀ (out : List Value) (c : Nat) (Hj : Hp) (s' : Shared), EachIs (fun v d => ∃ x, RelV x v ∧ Rp X.K H x d) out (ds.mergeSort leD) → s'.os = s.os → AllBare s'.gens → Un (frs X.stack) [] H Hj s.heap s'.heap → HOk X.prog X.w Hj s'.heap → Ex H Hj → Hj a = none →
    s'.heap.get? a = some (seqObj "list" (List.toArray out) c) → P (.done (.ret .none)) s'
theorem each_at {α β : Type} {R : α → β → Prop} : ∀ {as : List α} {bs : List β}, EachIs R as bs → ∀ (i : Nat) (a : α), as[i]? = some a → ∃ b, bs[i]? = some b ∧ R a b
  | _, _, .nil, i, a, h => by simp at h
  | _, _, .cons (b := b) h t, 0, a, q => ⟨b, rfl, by cases q; exact h⟩
  | _, _, .cons h t, i + 1, a, q => each_at t i a q
theorem srt_rest (hz : Zok z) (I : Inv X pins σ H s) (F : FnOk X.prog X.w X.K X.mg X.base CX0 k f fd [p] sp) (bnd : Binds X.K fd [p] []) (rm : Room (k + 2) X.A) (hr : ∀ d, d ∈ ds → d.rkd = true) (hdp : ∀ d, d ∈ ds → (kD z d).py.depth ≤ 40)
    (hv : EachIs (fun v d => ∃ x, RelV x v ∧ Rp X.K H x d) vs ds) (hZ : ds.length ≤ 1000)
    (hsp : ∀ x d H1 (Q : VK), Ex H H1 → Rp X.K H1 x d → d ∈ ds → (∀ y H2, Ex H1 H2 → Rp X.K H2 y (kD z d) → Q y H2) → sp [x] H1 Q E0) {s0 : Shared} (J0 : JS X H s a kS e1 #[] H s0) (h : SrtOut X H s a P vs ds) :
    wpAny (model X.prog X.w) X.A.in1.in1 (ksk_rest a (.ref f) false vs.toArray e1 (.ref kS)) P (fun _ _ => False) s0 := by
  have hlen := hv.length
  have hZ' : vs.length ≤ sizeLine := by rw [hlen]; exact sz_of (by omega)
  unfold ksk_rest
  refine wpAny_bind (wpAny_rule ?_)
  first
    | rw [List.forIn_toArray]
    | (rw [← Array.forIn_toList]; simp only [List.toList_toArray])
    | rw [← Array.forIn_toList]
  refine wpAny_bind (ksk_fold (fun i s' => ∃ Hj kA, JS X H s a kS e1 kA Hj s' ∧ EachIs (fun u d => ∃ y, RelV y u ∧ Rp X.K Hj y (kD z d)) kA.toList (ds.take i)) vs 0 s0 ⟨H, #[], J0, by rw [List.take_zero]; exact EachIs.nil⟩ ?step ?done)
  case step =>
    rintro j v s' hx ⟨Hj, kA, J, hk⟩
    simp only [Nat.zero_add] at hk ⊢
    obtain ⟨d, hd, x, rx, rp⟩ := each_at hv j v hx
    have hj : j < vs.length := (List.getElem?_eq_some_iff.mp hx).1
    have hkl : kA.size = (ds.take j).length := by
      have := hk.length
      rwa [Array.length_toList] at this
    rw [List.length_take] at hkl
    refine wpAny_bind (wpAny_attempt (wpAny_mono (J.turn I F bnd rm rx fun Q q => hsp x d Hj Q J.ex (rp.ex J.ex) (List.mem_of_getElem? hd) q) (fun u s'' he => ?_) fun _ _ hF => hF.elim))
    obtain ⟨H', J', e', y, ry, rpy⟩ := he
    try dsimp only
    obtain ⟨ek, gk⟩ := J'.gk
    obtain ⟨c2, hc2⟩ : ∃ c2, (s''.heap.update kS (Obj.mapSeq (·.push u))).get? kS = some (seqObj "list" (kA.push u) c2) := ⟨_, get?_update_seq gk (·.push u)⟩
    have s1 := Heap.SameBut.update s''.heap kS (Obj.mapSeq (·.push u))
    have hz1 : kA.size ≤ sizeLine := sz_of (by omega)
    refine wpAny_bind (listUpdate_at gk rfl ?_ hz1 (by rw [Array.size_push]; exact Nat.succ_le_succ hz1))
    refine wpAny_pure ⟨rfl, H', kA.push u, J'.push (fun b o hb e => (s1.2 b hb).trans e) hc2, ?_⟩
    have ek2 : ds.take (j + 1) = ds.take j ++ [d] := by rw [List.take_add_one, hd]; simp
    have ea : (kA.push u).toList = kA.toList ++ [u] := by simp
    rw [ea, ek2]
    exact each_snoc (R := fun (u : Value) (d : D) => ∃ y, RelV y u ∧ Rp X.K H' y (kD z d)) ⟨y, ry, rpy⟩ (hk.mono fun u d ⟨y, r, q⟩ => ⟨y, r, q.ex e'⟩)
  case done =>
    rintro s' ⟨Hj, kA, J, hk⟩
    rw [List.take_of_length_le (by omega)] at hk
    obtain ⟨ek, gk⟩ := J.gk
    have Ij := J.inv I
    have hrd : EachIs (fun v d => ∃ as, Reads s'.heap v (kD z d).py as) kA.toList ds := (each_mem hk).mono fun u d ⟨⟨y, r, q⟩, hd⟩ => Dp.reads Ij _ y u (q.dp (kD_clean hz d (hr d hd))) r
    have hsz : kA.size = vs.length := by
      have := hrd.length
      rw [Array.length_toList] at this
      omega
    refine wpAny_bind (listItems_at gk rfl ?_)
    obtain ⟨G, g1, g2⟩ := restrict s'.heap fun b => !decide (b = kS)
    have gG : ∀ b, b ≠ kS → G.get? b = s'.heap.get? b := fun b hb => g1 b (by rw [decide_eq_false hb]; rfl)
    have hun : X.A.in1.in1.units + 40 < cLine := by
      have := rm.in1.in1.un
      omega
    refine keyH_end (κ := kindK z s'.heap ds) (h₁ := G) (b := false) (s := s') (fun b o hb e => ?_) (g2 kS (by rw [decide_eq_true rfl]; rfl)) gk J.ga J.ak (sortsK hz hrd hr fun d hd => by have := hdp d hd; omega) hsz hZ' fun h3 tk3 c k3 n3 => ?_
    · by_cases q : b = kS
      · rw [q, g2 kS (by rw [decide_eq_true rfl]; rfl)] at e
        cases e
      · rw [gG b q] at e
        exact e
    · have kk : ∀ b o, b ≠ kS → b ≠ a → s'.heap.get? b = some o → h3.get? b = some o := fun b o hb ha e => k3 b o ha (by rw [gG b hb]; exact e)
      obtain ⟨h2, q1, q2⟩ : ∃ h2 : Heap, (∀ b o, b ≠ kS → s'.heap.get? b = some o → h2.get? b = some o) ∧ ∀ b o, b ≠ a → h2.get? b = some o → h3.get? b = some o := by
        obtain ⟨G2, m1, m2⟩ := restrict s'.heap fun b => !decide (b = kS)
        refine ⟨G2, fun b o hb e => by rw [m1 b (by rw [decide_eq_false hb]; rfl)]; exact e, fun b o hb e => ?_⟩
        by_cases q : b = kS
        · rw [q, m2 kS (by rw [decide_eq_true rfl]; rfl)] at e
          cases e
        · rw [m1 b (by rw [decide_eq_false q]; rfl)] at e
          exact kk b o q hb e
      have out := sortVals_each (κ := kindK z s'.heap ds) (rev := false) (R := fun v d => ∃ x, RelV x v ∧ Rp X.K H x d) (fun d => tk d) hv ((each_mem hrd).mono fun u d ⟨⟨as, q⟩, hd⟩ => kindK_some hz hr hd q)
      exact h _ c Hj { s' with heap := h3, toks := tk3 } out J.os J.bare (un_turn (un_turn J.un q1 (Heap.get?_none_of_le J.fk)) q2 (Heap.get?_none_of_le J.fa)) (hok_turn (hok_turn J.hok q1 J.nk) q2 J.na) J.ex J.na n3
end
end K0

namespace K0
open PySem PySem.SeqAt PySem.W PyProof.Rows PySem.Calls L2 Evl
theorem each_vals {K : PySem.W.Frag} {H : Hp} : ∀ {out : List Value} {ds : List D}, EachIs (fun v d => ∃ x, RelV x v ∧ Rp K H x d) out ds → ∃ ys, Vals ys out ∧ RpAll K H ys ds
  | _, _, .nil => ⟨[], .nil, .nil⟩
  | _, _, .cons ⟨x, r, q⟩ t => by
    obtain ⟨ys, h1, h2⟩ := each_vals t
    exact ⟨x :: ys, .cons r h1, .cons q h2⟩
theorem vals_each {K : PySem.W.Frag} {H : Hp} : ∀ {xs : List V} {us : List Value} {ds : List D}, Vals xs us → RpAll K H xs ds → EachIs (fun v d => ∃ x, RelV x v ∧ Rp K H x d) us ds
  | _, _, _, .nil, .nil => .nil
  | _, _, _, .cons a b, .cons c d => .cons ⟨_, a, c⟩ (vals_each b d)
section
variable {X : Cx} {pins : List (Addr × Obj)} {σ : L2.St} {H : Hp} {s : Shared} {a : Addr} {k n : Nat} {f : Addr} {fd : FuncData} {p : Str} {sp : Sp} {z : List D} {vs : List Value} {ds : List D} {P : PySem.Fin → Shared → Prop}
theorem srt_tree (hz : Zok z) (I : Inv X pins σ H s) (F : FnOk X.prog X.w X.K X.mg X.base CX0 k f fd [p] sp) (bnd : Binds X.K fd [p] []) (rm : Room (k + 2) X.A) (hr : ∀ d, d ∈ ds → d.rkd = true) (hdp : ∀ d, d ∈ ds → (kD z d).py.depth ≤ 40)
    (hv : EachIs (fun v d => ∃ x, RelV x v ∧ Rp X.K H x d) vs ds) (hZ : ds.length ≤ 1000)
    (hsp : ∀ x d H1 (Q : VK), Ex H H1 → Rp X.K H1 x d → d ∈ ds → (∀ y H2, Ex H1 H2 → Rp X.K H2 y (kD z d) → Q y H2) → sp [x] H1 Q E0) {g : Heap} (kp : ∀ b o, s.heap.get? b = some o → g.get? b = some o) (ho : g.get? a = some (seqObj "list" vs.toArray n)) (fa : s.heap.objs.size ≤ a)
    (h : SrtOut X H s a P vs ds) : wpAny (model X.prog X.w) X.A.in1.in1 (ksk_tree a (.ref f) false) P (fun _ _ => False) { s with heap := g } := by
  have hZ' : vs.length ≤ sizeLine := by rw [hv.length]; exact sz_of (by omega)
  have ha : a < g.objs.size := Heap.lt_size ho
  obtain ⟨e1, ho1⟩ : ∃ e1, (g.update a (Obj.mapSeq fun _ => (#[] : Array Value))).get? a = some (seqObj "list" #[] e1) := ⟨_, get?_update_seq ho fun _ => #[]⟩
  have hkS : ((g.update a (Obj.mapSeq fun _ => (#[] : Array Value))).push (seqObj "tuple" vs.toArray 0)).objs.size = g.objs.size + 1 := by rw [size_push', Heap.size_update]
  have kp2 : ∀ b o, s.heap.get? b = some o → (((g.update a (Obj.mapSeq fun _ => (#[] : Array Value))).push (seqObj "tuple" vs.toArray 0)).push (seqObj "list" #[] 0)).get? b = some o := fun b o e => by
    have hb : b ≠ a := fun q => by
      have := Heap.lt_size e
      rw [q] at this
      exact Nat.lt_irrefl _ (Nat.lt_of_lt_of_le this fa)
    exact Heap.get?_push_of_some _ (Heap.get?_push_of_some _ ((Heap.SameBut.update g a _).2 b hb |>.trans (kp b o e)))
  have hgs : s.heap.objs.size ≤ g.objs.size := Nat.le_trans fa (Nat.le_of_lt ha)
  unfold ksk_tree
  refine wpAny_bind (listItems_at ho rfl ?_)
  refine wpAny_bind (listUpdate_at ho rfl ?_ (by rw [List.size_toArray]; exact hZ') (Nat.zero_le _))
  refine wpAny_bind (seqEpoch_at ho1 rfl ?_)
  refine wpAny_bind (wpAny_newTuple ?_ (by show vs.length ≤ _; exact hZ'))
  refine wpAny_bind (wpAny_newList ?_ (Nat.zero_le _))
  refine wpAny_holding ?_
  refine srt_rest (e1 := e1) (kS := ((g.update a (Obj.mapSeq fun _ => (#[] : Array Value))).push (seqObj "tuple" vs.toArray 0)).objs.size) hz I F bnd rm hr hdp hv hZ hsp ⟨rfl, I.bare, Un.kept kp2, I.hok.kept kp2, Ex.refl _, I.hok.fresh fa, I.hok.fresh (by rw [hkS]; omega), ?_, ⟨0, Heap.get?_push_size _ rfl⟩, fa, by rw [hkS]; omega, ?_⟩ h
  · exact Heap.get?_push_of_some _ (Heap.get?_push_of_some _ ho1)
  · rw [hkS]
    exact Nat.ne_of_gt (Nat.lt_succ_of_lt ha)
/-- sorted(l, key=f), l a list or a tuple of values -/
theorem srt_sorted {Q : VK} {it : Addr} {xs : List V} (hz : Zok z) (I : Inv X pins σ H s) (F : FnOk X.prog X.w X.K X.mg X.base CX0 k f fd [p] sp) (bnd : Binds X.K fd [p] []) (rm : Room (k + 2) X.A) (hr : ∀ d, d ∈ ds → d.rkd = true) (hdp : ∀ d, d ∈ ds → (kD z d).py.depth ≤ 40)
    (hs : SqL X.K H it xs ∨ SqT X.K H it xs) (rp : RpAll X.K H xs ds) (hZ : ds.length ≤ 1000)
    (hsp : ∀ x d H1 (Q : VK), Ex H H1 → Rp X.K H1 x d → d ∈ ds → (∀ y H2, Ex H1 H2 → Rp X.K H2 y (kD z d) → Q y H2) → sp [x] H1 Q E0)
    (q : ∀ p ys H2, H p = none → Ex H H2 → H2 p = some (.lst ys) → RpAll X.K H2 ys (ds.mergeSort leD) → Q (.ref p) H2) :
    wpAny (model X.prog X.w) X.A (call (.builtin "sorted") [.ref it] [(Str.ofString "key", .ref f)]) (EP X pins σ Q) X.xe s := by
  obtain ⟨us, T, o, n, rv, hT, ho, hc, hd⟩ : ∃ (us : List Value) (T : String) (o : Obj) (n : Nat), Vals xs us ∧ (T = "list" ∨ T = "tuple") ∧ s.heap.get? it = some o ∧ o.cls = .type T ∧ o.data = .seq us.toArray n := by
    rcases hs with hs | hs
    · obtain ⟨its, rv, ⟨o, n, ho, hc, _, hd⟩, _⟩ := I.list hs
      exact ⟨its, "list", o, n, rv, .inl rfl, ho, hc, hd⟩
    · obtain ⟨its, rv, ⟨o, ho, hc, n, hd⟩, _⟩ := I.tuple hs
      exact ⟨its, "tuple", o, n, rv, .inr rfl, ho, hc, hd⟩
  have hv := vals_each rv rp
  have hZ' : us.length ≤ sizeLine := by rw [hv.length]; exact sz_of (by omega)
  refine call_function_entry_kw kind_sorted plain_sorted entry_sorted (ksk_s1 _ _) ?_
  unfold Builtin.«sorted»
  refine wpAny_bind (m := checkCount "sorted" 1 1 _) (wpAny_pure ?_)
  refine wpAny_bind (wpAny_collect_seq it hT ho hc hd (fun h' kp => ?_) (by rw [List.size_toArray]; exact hZ'))
  refine wpAny_bind (wpAny_newList ?_ hZ')
  have I' : Inv X pins σ H { s with heap := h' } := I.kept (t' := s.toks) kp
  have g0 : (h'.push (seqObj "list" us.toArray 0)).get? h'.objs.size = some (seqObj "list" us.toArray 0) := Heap.get?_push_size _ rfl
  show wpAny _ _ _ _ _ { s with heap := h'.push (seqObj "list" us.toArray 0) }
  refine wpAny_bind (wpAny_holding (wpAny_call_entry_kw slot_list_sort ⟨_, g0, rfl⟩ entry_list_sort ?body (ksk_l1 _ _)))
  case body =>
    show wpAny (model X.prog X.w) X.A.in1.in1 (Builtin.«list.sort» ⟨[.ref h'.objs.size], [(Str.ofString "key", .ref f)]⟩) _ _ _
    rw [ksk_t1]
    refine wpAny_mono (srt_tree (g := h'.push (seqObj "list" us.toArray 0)) hz I' F bnd rm hr hdp hv hZ hsp (fun b o e => Heap.get?_push_of_some _ e) g0 (Nat.le_refl _) (P := fun fin s' => fin = .done (.ret .none) ∧ EP X pins σ Q (.ref h'.objs.size) s') fun out c Hj s' eo os bare un hok ex na ga => ⟨rfl, ?_⟩) (fun fin s' hf => ?_) fun _ _ e => e.elim
    · obtain ⟨ys, h1, h2⟩ := each_vals eo
      have hyl : ys.length ≤ sizeLine := by
        rw [h2.len, List.length_mergeSort]
        exact sz_of (by omega)
      refine ⟨.ref h'.objs.size, upd Hj h'.objs.size (.lst ys), I'.call' os (un_tell un na (Heap.get?_none_of_le (Nat.le_refl _))) (hok_tell hok na ⟨hyl, out, c, h1, ga⟩) bare (fun b hb => absurd hb (by simp)), rfl, ?_⟩
      exact q _ ys _ (I'.hok.fresh (Nat.le_refl _)) (ex.trans (Ex.new na)) upd_same (h2.ex (ex.trans (Ex.new na)))
    · obtain ⟨rfl, hq⟩ := hf
      exact ⟨_, rfl, wpAny_pure ⟨_, rfl, hq⟩⟩
end
/-- sorted(.., key=f), as a rule of the layer -/
def rSortK (K : PySem.W.Frag) (z : List D) (f : Addr) (sp : Sp) : List V → List V → Hp → VK → Prop := fun vs zs H Q => ∃ it xs ds, vs = [.ref it] ∧ zs = [.ref f] ∧ (SqL K H it xs ∨ SqT K H it xs) ∧ RpAll K H xs ds ∧ (∀ d, d ∈ ds → d.rkd = true) ∧ (∀ d, d ∈ ds → (kD z d).py.depth ≤ 40) ∧ ds.length ≤ 1000 ∧
  (∀ x d H1 (Q : VK), Ex H H1 → Rp K H1 x d → d ∈ ds → (∀ y H2, Ex H1 H2 → Rp K H2 y (kD z d) → Q y H2) → sp [x] H1 Q E0) ∧
  ∀ p ys H2, H p = none → Ex H H2 → H2 p = some (.lst ys) → RpAll K H2 ys (ds.mergeSort leD) → Q (.ref p) H2
theorem cr_sortK {X : Cx} {k : Nat} {f : Addr} {fd : FuncData} {p : Str} {sp : Sp} {z : List D} (hz : Zok z) (F : FnOk X.prog X.w X.K X.mg X.base CX0 k f fd [p] sp) (bnd : Binds X.K fd [p] []) (rm : Room (k + 2) X.A) : CallRK X (.builtin "sorted") [Str.ofString "key"] (rSortK X.K z f sp) := by
  intro pins s σ H vs zs us ws Q I r rz h
  obtain ⟨it, xs, ds, rfl, rfl, hs, rp, hr, hdp, hZ, hsp, q⟩ := h
  obtain rfl := Vals.ref1 r
  obtain rfl := Vals.ref1 rz
  exact srt_sorted hz I F bnd rm hr hdp hs rp hZ hsp q
/-- k(d) < k(e) -/
def rLtK (K : PySem.W.Frag) (z : List D) : R2 := fun x y H Q => ∃ d e, Rp K H x (kD z d) ∧ Rp K H y (kD z e) ∧ d.rkd = true ∧ e.rkd = true ∧ (kD z d).py.depth ≤ 40 ∧ Q (.bl (ltD d e)) H
theorem op_ltK {X : Cx} {z : List D} (hz : Zok z) (hu : X.A.units + 64 < cLine) : OpR X (compareOp .Lt) (rLtK X.K z) := by
  intro pins s σ H x y v u Q I rx ry h
  obtain ⟨d, e, hd, he, r1, r2, hp, q⟩ := h
  obtain ⟨as, q1⟩ := Dp.reads I _ x v (hd.dp (kD_clean hz d r1)) rx
  obtain ⟨bs, q2⟩ := Dp.reads I _ y u (he.dp (kD_clean hz e r2)) ry
  exact rcK hz d e X.A s v u as bs q1 q2 r1 r2 (by omega) X.prog X.w X.xe _ ⟨.bl _, H, I, rfl, q⟩
end K0

namespace K0
open PySem L2 Evl LamX
/-! ### laws of errors: lambdas in the law's own defs, what they meet (for any law) -/
def wordsD (a b : Str) : K0.D := .tup [.str a, .str b]
/-- which exceptions are told as which data -/
abbrev EKT := K0.D → Value → Option Addr → Hp → Prop
def TMG (K : PySem.W.Frag) (EK : EKT) (TF : Hp → VK → Prop) : (XK → Hp → VK → Prop) → Hp → VK → Prop := fun tl H Q => tl (fun cls dd H' => ∃ r, EK r cls dd H' ∧ RetR K r H' Q) H (fun _ H' => TF H' Q)
structure Ca where
  cR : Addr
  pR : Addr
  cL : Addr
  pL : Addr
def qR : Str := ("_law_right" : Str) ++ ".<locals>." ++ "<lambda>"
def qL : Str := ("law" : Str) ++ ".<locals>." ++ "<lambda>"
def Ca.tabs (ca : Ca) : List (Addr × Str) := [(ca.pR, qR), (ca.pL, qL)]
structure LamH (base : Heap) (mg : Str → Option Value) (D : Fd) (ca : Ca) : Prop where
  c_law_right : D.law_right.code = .ref ca.cR
  t_law_right : TabB base mg ca.cR ca.pR
  c_law : D.law.code = .ref ca.cL
  t_law : TabB base mg ca.cL ca.pL
  ne : ca.pR ≠ ca.pL
section
variable {P : Program} {w : World} {K : PySem.W.Frag} {mg : Str → Option Value} {base : Heap} {A : Ad} {D : Fd} {ca : Ca}
theorem LamH.m_law_right (_ : LamH base mg D ca) : (ca.pR, ("_law_right" : Str) ++ ".<locals>." ++ "<lambda>") ∈ ca.tabs := List.mem_cons_self
theorem LamH.m_law (_ : LamH base mg D ca) : (ca.pL, ("law" : Str) ++ ".<locals>." ++ "<lambda>") ∈ ca.tabs := List.mem_cons_of_mem _ List.mem_cons_self
theorem LamH.u_law_right (h : LamH base mg D ca) : ∀ p ∈ ca.tabs, p.1 = ca.pR → p.2 = ("_law_right" : Str) ++ ".<locals>." ++ "<lambda>" := fun p hp e => by
  rcases List.mem_cons.mp hp with rfl | hp
  · rfl
  · rcases List.mem_cons.mp hp with rfl | hp
    · exact absurd e.symm h.ne
    · cases hp
theorem LamH.u_law (h : LamH base mg D ca) : ∀ p ∈ ca.tabs, p.1 = ca.pL → p.2 = ("law" : Str) ++ ".<locals>." ++ "<lambda>" := fun p hp e => by
  rcases List.mem_cons.mp hp with rfl | hp
  · exact absurd e h.ne
  · rcases List.mem_cons.mp hp with rfl | hp
    · rfl
    · cases hp
/-- a def whose code object is known -/
theorem okL {x qual : Str} {st : Stmt} {f c : Addr} {fd : FuncData} {N ps : List Str} {k : Nat} {sp : Sp} (F : Fun K x qual st f fd) (hc : fd.code = .ref c) (S : FnScope N ps (defScope st)) (len : ∀ vs H Q E, sp vs H Q E → vs.length = ps.length)
    (hbody : ∀ (A : Around) (outer : List Env) (s : Shared) (H : Hp) (vs : List V) (Q : VK) (E : XK), Room k (A.deeper (PyProof.Rows.envOfC qual (defScope st) s.heap.objs.size f (.ref c))) → sp vs H Q E →
      ∃ t, PSs (cxOf CX0 P w K mg base N qual (defScope st) f (.ref c) A outer s H E).nox (defBody st) t ∧ t { nx := fun _ H' => Q .non H', rt := Q } (start N vs) H) : FnOk P w K mg base CX0 (k + 1) f fd ps sp := by
  obtain ⟨oc, od, kV, doc, pm, an, cdv, ct, osl, rfl, lk, hcd⟩ := F.ex
  obtain rfl : cdv = .ref c := hc
  refine fn_of lk hcd S len fun A outer s H vs Q E hr hsp => ?_
  obtain ⟨t, h, q⟩ := hbody A outer s H vs Q E hr hsp
  exact ⟨t, h.nox, q⟩
/-- the def that meets: g(lambda: body) -/
theorem pe_lmG {X : Cx} {x a : Str} {st : Stmt} {g : Addr} {fd : FuncData} {N : List Str} {TM : (XK → Hp → VK → Prop) → Hp → VK → Prop} {TT : List (Addr × Str)} {c P : Addr} {k : Nat} {params : Arguments} {body : Expr} {scope : Scope} {t : XK → TE} {p lpos pos : Pos}
    (hgx : X.mg x = some (.ref g)) (F : Fun X.K x x st g fd) (hb : Binds X.K fd [a] []) (S : FnScope N [a] (defScope st)) (h0 : N[0]? = some a) (hva : Vis (defScope st) a) (M : ∀ {q : Str} {cdg : Value}, GivesTo X N x (defScope st) g cdg (defBody st) a q TM)
    (TB : TabB X.base X.mg c P) (hcode : X.env.code = .ref c) (hmT : (P, X.env.qual ++ "<lambda>") ∈ TT) (hu : ∀ p ∈ TT, p.1 = P → p.2 = X.env.qual ++ "<lambda>")
    (hr : Room (k + 2) X.A) (L : lamSB X.env.scope scope = true) (hg : Gl X x) (hdef : defaultsOf params X.env = ([], []))
    (hbind : ∀ (q : Str) (cl : List (Str × Addr)) (pm cv ctv : Value), bindArgs (PySem.W.kla_fn "<lambda>" q params body scope cl pm cv ctv) ⟨[], []⟩ = pure [])
    (hbody : ∀ (A : Around) (outer : List Env) (s : Shared) (H : Hp) (E : XK) (f c' : Addr), Room k (A.deeper (lamEnv X scope s.heap.objs.size f c')) → PE (lamCx X A outer s H E scope f c') body (t E))
    (hdb : (x == ("__debug__" : Str)) = false := by decide) (hd : (a == ("__debug__" : Str)) = false := by decide) (hcd : (a == ("__classdict__" : Str)) = false := by decide) :
    PE X (.Call (.Name x p) [.Lambda params body scope lpos] [] pos) (tLam TT TM t) := by
  obtain ⟨oc, od, kV, doc, pm, an, cdv, ct, osl, e, lk, hcod⟩ := F.ex
  rw [e] at hb lk
  exact pe_lamcall hg hgx F.kp lk hcod hb S h0 hva M TB hcode hmT hu hr (lamS_by L) hdef hbind hbody hdb hd hcd
end
/-! ### what stays: all but the tables and the dice list (if there is one) -/
def BtO (o : Option Addr) (H H' : Hp) : Prop := ExtN (hid o H) (hid o H')
def DiceO (o : Option Addr) (H : Hp) : Prop := ∀ a, o = some a → DiceAt H a
section
variable {K : PySem.W.Frag} {H H' H'' : Hp} {a l : Addr} {o : Option Addr}
theorem sqT_extN {b : Addr} {xs : List V} (e : ExtN H H') (h : SqT K H b xs) : SqT K H' b xs := by
  rcases h with (h | ⟨o, h⟩) | h
  · exact .inl (.inl (e _ _ h fun ps z => by cases z))
  · exact .inl (.inr ⟨o, e _ _ h fun ps z => by cases z⟩)
  · exact .inr h
theorem sqL_extN {b : Addr} {xs : List V} (e : ExtN H H') (h : SqL K H b xs) : SqL K H' b xs := by
  rcases h with (h | ⟨o, h⟩) | h
  · exact .inl (.inl (e _ _ h fun ps z => by cases z))
  · exact .inl (.inr ⟨o, e _ _ h fun ps z => by cases z⟩)
  · exact .inr h
mutual
theorem Rp.extN {v : V} {d : K0.D} (e : ExtN H H') : Rp K H v d → Rp K H' v d
  | .non => .non
  | .bl b => .bl b
  | .int i => .int i
  | .str s => .str s
  | .tup h r => .tup (sqT_extN e h) (RpAll.extN e r)
  | .lst h => .lst (e _ _ h fun ps z => by cases z)
  | .dct h => .dct (e _ _ h fun ps z => by cases z)
theorem RpAll.extN {vs : List V} {ds : List K0.D} (e : ExtN H H') : RpAll K H vs ds → RpAll K H' vs ds
  | .nil => .nil
  | .cons h r => .cons (Rp.extN e h) (RpAll.extN e r)
end
theorem ext_of : ExtN (hid o H) H := ExtN.of hid_le
theorem hid_extN (e : ExtN H H') : ExtN (hid o H) (hid o H') := fun b u h n => by
  unfold hid at h ⊢
  split at h
  · cases h
  · rename_i m
    rw [if_neg m]
    exact e b u h n
theorem BtO.refl : BtO o H H := ExtN.refl _
theorem BtO.trans (h : BtO o H H') (h' : BtO o H' H'') : BtO o H H'' := ExtN.trans h h'
theorem BtO.ofN (e : ExtN H H') : BtO o H H' := hid_extN e
theorem BtO.ofE (e : Ex H H') : BtO o H H' := BtO.ofN (ExtN.of e)
theorem BtO.ofB (e : Bt a H H') : BtO (some a) H H' := ExtN.of e
theorem BtO.at_ {b : Addr} {u : HO} (e : BtO o H H') (n : ∀ a, o = some a → b ≠ a) (nt : ∀ ps, u ≠ .tbl ps) (h : H b = some u) : H' b = some u := by
  have hb : hid o H b = some u := by
    unfold hid
    rw [if_neg fun z => n b z rfl]
    exact h
  exact hid_le _ _ (e _ _ hb nt)
theorem BtO.ne (hd : DiceO o H) {b : Addr} {u : HO} (h : H b = some u) (n : ∀ zs, u ≠ .lst zs) : ∀ a, o = some a → b ≠ a := fun a ha z => by
  obtain ⟨x, y, w, hz⟩ := hd a ha
  rw [z, hz] at h
  exact n _ (Option.some.inj h).symm
theorem BtO.sqT (hd : DiceO o H) (e : BtO o H H') {b : Addr} {xs : List V} (h : SqT K H b xs) : SqT K H' b xs := by
  rcases h with (h | ⟨q, h⟩) | h
  · exact .inl (.inl (e.at_ (BtO.ne hd h fun zs z => by cases z) (fun ps z => by cases z) h))
  · exact .inl (.inr ⟨q, e.at_ (BtO.ne hd h fun zs z => by cases z) (fun ps z => by cases z) h⟩)
  · exact .inr h
theorem DiceO.extN (e : ExtN H H') (h : DiceO o H) : DiceO o H' := fun a ha => by
  obtain ⟨x, y, z, h⟩ := h a ha
  exact ⟨x, y, z, e _ _ h fun ps z => by cases z⟩
theorem DiceO.ex (e : Ex H H') (h : DiceO o H) : DiceO o H' := DiceO.extN (ExtN.of e) h
theorem DiceO.of (h : DiceAt H a) : DiceO (some a) H := fun b hb => by cases hb; exact h
theorem DiceO.get (h : DiceO (some a) H) : DiceAt H a := h a rfl
theorem DiceO.none : DiceO none H := fun b hb => by cases hb
/-- nothing, or a table -/
def FreeN (H : Hp) (l : Addr) : Prop := ∀ o, H l = some o → ∃ ps, o = .tbl ps
theorem BtO.mutF {u : HO} (e : BtO o H H') (h : FreeN H l) : BtO o H (L2.upd H' l u) := fun b v g n => by
  have nl : b ≠ l := fun z => by
    have h2 := hid_le _ _ g
    rw [z] at h2
    obtain ⟨ps, hp⟩ := h v h2
    exact n ps hp
  have g2 := e b v g n
  unfold hid at g2 ⊢
  split at g2
  · cases g2
  · rename_i m
    rw [if_neg m, upd_ne nl]
    exact g2
theorem tabs_lst {T : List (Addr × Str)} {xs ys : List V} (hl : H l = some (.lst xs)) (h : Tabs T H) : Tabs T (L2.upd H l (.lst ys)) := fun p hp => by
  obtain ⟨ps, a1, a2, a3⟩ := h p hp
  have ne : ∀ {b : Addr} {o : HO}, H b = some o → (∀ zs, o ≠ .lst zs) → b ≠ l := fun g n z => by
    rw [z, hl] at g
    exact n _ (Option.some.inj g).symm
  refine ⟨ps, by rw [upd_ne (ne a1 fun zs z => by cases z)]; exact a1, a2, fun pos cv hc => ?_⟩
  obtain ⟨c, e1, e2⟩ := a3 pos cv hc
  exact ⟨c, e1, by rw [upd_ne (ne e2 fun zs z => by unfold CodeO at z; cases z)]; exact e2⟩
theorem tabs_bt {T : List (Addr × Str)} (hd : DiceAt H a) (b : Bt a H H') (h : Tabs T H) : Tabs T H' := fun p hp => by
  obtain ⟨ps, a1, a2, a3⟩ := h p hp
  obtain ⟨x, y, z, hz⟩ := hd
  have ne : ∀ {b : Addr} {o : HO}, H b = some o → (∀ zs, o ≠ .lst zs) → b ≠ a := fun g n z => by
    rw [z, hz] at g
    exact n _ (Option.some.inj g).symm
  refine ⟨ps, b.at (ne a1 fun zs z => by cases z) a1, a2, fun pos cv hc => ?_⟩
  obtain ⟨c, e1, e2⟩ := a3 pos cv hc
  exact ⟨c, e1, b.at (ne e2 fun zs z => by unfold CodeO at z; cases z) e2⟩
theorem sq_btO {p b : Addr} {xs : List V} {H1 : Hp} (hp : H p = none) (h : SqL K H b xs) (e : Ex H H1) (g : BtO (some p) H1 H') : SqL K H' b xs := by
  rcases h with (h | ⟨o, h⟩) | h
  · exact .inl (.inl (g.at_ (fun a ha => by cases ha; exact ne_of_none h hp) (fun ps z => by cases z) (e _ _ h)))
  · exact .inl (.inr ⟨o, g.at_ (fun a ha => by cases ha; exact ne_of_none h hp) (fun ps z => by cases z) (e _ _ h)⟩)
  · exact .inr h
end
/-! ### facts beside the dice list -/
structure MonoN (N : Hp → V → Prop) : Prop where
  m : ∀ {H H' : Hp} {v : V}, ExtN H H' → N H v → N H' v
/-- what is true of v where the dice list is hidden -/
def Off (o : Option Addr) (N : Hp → V → Prop) : Hp → V → Prop := fun H v => N (hid o H) v
structure MonoQ (M : Hp → V → Prop) : Prop where
  m : ∀ {H H' : Hp} {v : V}, Ex H H' → M H v → M H' v
theorem MonoN.q {N : Hp → V → Prop} (h : MonoN N) : MonoQ N := ⟨fun e m => h.m (ExtN.of e) m⟩
theorem MonoN.off {N : Hp → V → Prop} {o : Option Addr} (h : MonoN N) : MonoQ (Off o N) := ⟨fun e m => h.m (ExtN.of (hid_ex e)) m⟩
theorem Off.get {N : Hp → V → Prop} {v : V} {o : Option Addr} {H H' : Hp} (mo : MonoN N) (e : BtO o H H') (h : Off o N H v) : N H' v := mo.m ext_of (mo.m e h)
theorem Off.bt {N : Hp → V → Prop} {v : V} {o : Option Addr} {H H' : Hp} (mo : MonoN N) (e : BtO o H H') (h : Off o N H v) : Off o N H' v := mo.m e h
def EvQ (M : Hp → V → Prop) (te : TE) (σ : L2.St) (H : Hp) : Prop := ∀ H1, Ex H H1 → ∀ Q : VK, (∀ v H2, Ex H1 H2 → M H2 v → Q v H2) → te σ H1 Q
def EvQL (M : Hp → V → Prop) (te : TE) (σ : L2.St) (H : Hp) (n : Nat) : Prop := ∀ H1, Ex H H1 → ∀ Q : VK, (∀ p xs H2, H1 p = none → Ex H1 H2 → H2 p = some (.lst xs) → (∀ v ∈ xs, M H2 v) → xs.length = n → Q (.ref p) H2) → te σ H1 Q
def EvQA (M : Hp → V → Prop) (ta : TA) (σ : L2.St) (H : Hp) (n : Nat) : Prop := ∀ H1, Ex H H1 → ∀ Q : List V → Hp → Prop, (∀ vs H2, Ex H1 H2 → (∀ v ∈ vs, M H2 v) → vs.length = n → Q vs H2) → ta σ H1 Q
section
variable {K : PySem.W.Frag} {σ : L2.St} {H H' : Hp} {ta tb te : TE} {tr : TA} {x y z v : V} {d e : K0.D} {ds es : List K0.D} {M N : Hp → V → Prop} {a p : Addr} {n m : Nat} {o : Option Addr}
theorem qa_nil : EvQA M tNil σ H 0 := fun H1 e Q q => q [] H1 (Ex.refl _) (fun v hv => by cases hv) rfl
theorem qa_cons (mo : MonoQ M) (h : EvQ M te σ H) (r : EvQA M tr σ H n) : EvQA M (tCons te tr) σ H (n + 1) := fun H1 e Q q =>
  h H1 e _ fun v H2 e2 m => r H2 (e.trans e2) _ fun vs H3 e3 ms l => q (v :: vs) H3 (e2.trans e3) (fun u hu => by
    rcases List.mem_cons.mp hu with rfl | hu
    · exact mo.m e3 m
    · exact ms u hu) (by rw [List.length_cons, l])
theorem ql_lst (mo : MonoQ M) (h : EvQA M tr σ H n) (hn : n ≤ 1000) : EvQL M (tLst tr) σ H n := fun H1 e Q q =>
  h H1 e _ fun vs H2 e2 ms l => ⟨sz_of (by omega), fun p hp => q p vs _ (fresh_back e2 hp) (e2.trans (Ex.new hp)) upd_same (fun v hv => mo.m (Ex.new hp) (ms v hv)) l⟩
theorem ql_cat {xs : List V} (mo : MonoQ M) (hv : Ev ta σ H (.ref p)) (hp : H p = some (.lst xs)) (hx : ∀ v ∈ xs, M H v) (h : EvQL M te σ H n) (hn : xs.length + n ≤ 1000) : EvQL M (tOp rCat ta te) σ H (xs.length + n) := fun H1 e Q q =>
  hv H1 e _ fun H2 e2 => h H2 (e.trans e2) _ fun r zs H3 hr e3 h3 ms l => ⟨p, r, xs, zs, rfl, rfl, ((e.trans e2).trans e3) _ _ hp, h3, sz_of (by omega), fun t ht =>
    q t _ _ (fresh_back (e2.trans e3) ht) ((e2.trans e3).trans (Ex.new ht)) upd_same (fun v hv => by
      rcases List.mem_append.mp hv with hv | hv
      · exact mo.m (((e.trans e2).trans e3).trans (Ex.new ht)) (hx v hv)
      · exact mo.m (Ex.new ht) (ms v hv)) (by rw [List.length_append, l])⟩
/-- _law_pick(dice, [..]): one of them -/
theorem c_pick {E : XK} {Q : VK} (mo : MonoN N) (hv : σ[0]? = some (some (.ref a))) (hd : DiceAt H a) (h : EvQL (Off (some a) N) te σ H n) (n0 : 0 < n) (hn : n ≤ 1000)
    (k : ∀ x H2, Bt a H H2 → DiceAt H2 a → Off (some a) N H2 x → Q x H2) : tCall (sp_law_pick K) [] E (tCons (tVar 0) (tCons te tNil)) σ H Q := by
  refine d_raw (n_cons (n_var hv (n_cons ?_)))
  refine h H (Ex.refl _) _ fun p xs H2 hp e2 h2 ms l => n_nil ⟨a, p, xs, rfl, hd.ex e2, hd.ne hp, sq_of h2, (fun z => by rw [z] at l; simp at l; omega), by omega, fun x H3 hx b3 d3 => ?_⟩
  exact k x H3 ((Bt.of e2).trans b3) d3 (mo.m (ExtN.of b3) (ms x hx))
theorem q_pick {E : XK} {D : Ends} {tz : TS} {i : Nat} (mo : MonoN N) (hv : σ[0]? = some (some (.ref a))) (hd : DiceAt H a) (h : EvQL (Off (some a) N) te σ H n) (n0 : 0 < n) (hn : n ≤ 1000)
    (k : ∀ x H2, Bt a H H2 → DiceAt H2 a → Off (some a) N H2 x → tz D (σ.set i (some x)) H2) : tSeq (tAsg (tCall (sp_law_pick K) [] E (tCons (tVar 0) (tCons te tNil))) (gName i)) tz D σ H := c_pick mo hv hd h n0 hn k
/-! ### data there -/
def Al (o : Option Addr) (H : Hp) : Prop := ∀ a, o = some a → ∃ u, H a = some u
theorem Al.ex (e : Ex H H') (h : Al o H) : Al o H' := fun a ha => let ⟨u, hu⟩ := h a ha; ⟨u, e _ _ hu⟩
theorem Al.ne (h : Al o H) (hp : H p = none) : ∀ a, o = some a → p ≠ a := fun a ha z => by
  obtain ⟨u, hu⟩ := h a ha
  rw [← z, hp] at hu
  cases hu
theorem Al.of (h : DiceAt H a) : Al (some a) H := fun b hb => by
  cases hb
  obtain ⟨x, y, z, hz⟩ := h
  exact ⟨_, hz⟩
theorem Al.none : Al none H := fun b hb => by cases hb
theorem hidO_at {b : Addr} {u : HO} (h : H b = some u) (n : ∀ a, o = some a → b ≠ a) : hid o H b = some u := by
  unfold hid
  rw [if_neg fun z => n b z rfl]
  exact h
abbrev RpO (K : PySem.W.Frag) (o : Option Addr) (d : K0.D) : Hp → V → Prop := Off o fun H v => Rp K H v d
def EvH (K : PySem.W.Frag) (o : Option Addr) (te : TE) (σ : L2.St) (H : Hp) (d : K0.D) : Prop := EvQ (RpO K o d) te σ H
def EvHA (K : PySem.W.Frag) (o : Option Addr) (ta : TA) (σ : L2.St) (H : Hp) (ds : List K0.D) : Prop := ∀ H1, Ex H H1 → ∀ Q : List V → Hp → Prop, (∀ vs H2, Ex H1 H2 → RpAll K (hid o H2) vs ds → Q vs H2) → ta σ H1 Q
theorem rpN {d : K0.D} : MonoN fun H v => Rp K H v d := ⟨fun e h => h.extN e⟩
theorem h_ev (h : Ev te σ H v) (r : ∀ H, Rp K H v d) : EvH K o te σ H d := fun H1 e Q q => h H1 e Q fun H2 e2 => q v H2 e2 (r _)
theorem h_int {i : Int} : EvH K o (tC (.int i)) σ H (.int i) := h_ev ev_c fun _ => .int i
theorem h_neg {i : Int} : EvH K o (tUn (rU fun i => .int (-i)) (tC (.int i))) σ H (.int (-i)) := h_ev (ev_un ev_c ru_neg) fun _ => .int _
theorem h_str {s : Str} : EvH K o (tC (.str s)) σ H (.str s) := h_ev ev_c fun _ => .str s
theorem h_non : EvH K o (tC .non) σ H .non := h_ev ev_c fun _ => .non
theorem h_bl {b : Bool} : EvH K o (tC (.bl b)) σ H (.bl b) := h_ev ev_c fun _ => .bl b
theorem h_var {i : Nat} (h : σ[i]? = some (some v)) (r : RpO K o d H v) : EvH K o (tVar i) σ H d := fun H1 e Q q => ev_var h H1 e Q fun H2 e2 => q v H2 e2 (Rp.ex (hid_ex (e.trans e2)) r)
theorem ha_nil : EvHA K o tNil σ H [] := fun H1 e Q q => q [] H1 (Ex.refl _) .nil
theorem ha_cons (h : EvH K o te σ H d) (r : EvHA K o tr σ H ds) : EvHA K o (tCons te tr) σ H (d :: ds) := fun H1 e Q q =>
  h H1 e _ fun v H2 e2 hv => r H2 (e.trans e2) _ fun vs H3 e3 hs => q (v :: vs) H3 (e2.trans e3) (.cons (Rp.ex (hid_ex e3) hv) hs)
theorem h_tup (al : Al o H) (h : EvHA K o tr σ H ds) (l : ds.length ≤ 1000) : EvH K o (tTup tr) σ H (.tup ds) := fun H1 e Q q =>
  h H1 e _ fun vs H2 e2 hs => ⟨by rw [hs.len]; exact sz_of (by omega), fun p hp => q (.ref p) _ (e2.trans (Ex.new hp)) (.tup (st_of (hidO_at upd_same ((al.ex (e.trans e2)).ne hp))) (RpAll.ex (hid_ex (Ex.new hp)) hs))⟩
theorem h_lst (al : Al o H) (h : EvHA K o tr σ H ds) (l : ds.length ≤ 1000) : EvH K o (tLst tr) σ H .oth := fun H1 e Q q =>
  h H1 e _ fun vs H2 e2 hs => ⟨by rw [hs.len]; exact sz_of (by omega), fun p hp => q (.ref p) _ (e2.trans (Ex.new hp)) (.lst (hidO_at upd_same ((al.ex (e.trans e2)).ne hp)))⟩
theorem h_dict0 (al : Al o H) : EvH K o tDNewK σ H .oth := fun H1 e Q q p hp => q (.ref p) _ (Ex.new hp) (.dct (hidO_at upd_same ((al.ex e).ne hp)))
theorem h_q {N : Hp → V → Prop} (h : EvH K o te σ H d) (k : ∀ H v, Rp K H v d → N H v) : EvQ (Off o N) te σ H := fun H1 e Q q => h H1 e Q fun v H2 e2 r => q v H2 e2 (k _ _ r)
end
/-! ### told: a list that grows by what lambdas meet -/
structure TIG (K : PySem.W.Frag) (T : List (Addr × Str)) (H0 : Hp) (o : Option Addr) (l : Addr) (ds : List K0.D) (H : Hp) : Prop where
  bt : BtO o H0 H
  dice : DiceO o H
  tabs : Tabs T H
  fr : FreeN H0 l
  na : ∀ a, o = some a → l ≠ a
  lst : ∃ vs, H l = some (.lst vs) ∧ RpAll K H vs ds
section
variable {K : PySem.W.Frag} {σ : L2.St} {H H0 H1 H' : Hp} {ta te : TE} {tr : TA} {sp : Sp} {Q : VK} {T : List (Addr × Str)} {D : Ends} {tz : TS} {i : Nat} {a l : Addr} {ds : List K0.D} {r fine : K0.D} {EK : EKT} {TF : Hp → VK → Prop} {o : Option Addr} {t : XK → TE}
theorem TIG.ex (e : Ex H H') (h : TIG K T H0 o l ds H) : TIG K T H0 o l ds H' := by
  obtain ⟨vs, h1, h2⟩ := h.lst
  exact ⟨h.bt.trans (BtO.ofE e), h.dice.ex e, h.tabs.ext e, h.fr, h.na, vs, e _ _ h1, h2.ex e⟩
/-- what a lambda's body is to do -/
def LamDo (T : List (Addr × Str)) (EK : EKT) (fine r : K0.D) (o : Option Addr) (H0 : Hp) (t : XK → TE) (σ : L2.St) : Prop :=
  ∀ H1 (E : XK), BtO o H0 H1 → DiceO o H1 → Tabs T H1 → (∀ cls dd H2, BtO o H1 H2 → DiceO o H2 → Tabs T H2 → EK r cls dd H2 → E cls dd H2) → ∀ Q : VK, (∀ v H2, BtO o H1 H2 → DiceO o H2 → Tabs T H2 → r = fine → Q v H2) → t E σ H1 Q
theorem n_lamG (hF : ∀ H Q, RetR K fine H Q → TF H Q) (hd : DiceO o H) (ht : Tabs T H) (h : LamDo T EK fine r o H t σ) (k : ∀ v H2, BtO o H H2 → DiceO o H2 → Tabs T H2 → Rp K H2 v r → Q v H2) : tLam T (TMG K EK TF) t σ H Q :=
  ⟨ht, fun H1 e1 T1 => h H1 _ (BtO.ofN e1) (hd.extN e1) T1 (fun cls dd H2 b2 d2 t2 ek => ⟨r, ek, fun v H3 e3 rv => k v H3 (((BtO.ofN e1).trans b2).trans (BtO.ofE e3)) (d2.ex e3) (t2.ext e3) rv⟩) _
    fun v H2 b2 d2 t2 er => hF _ _ fun v H3 e3 rv => k v H3 (((BtO.ofN e1).trans b2).trans (BtO.ofE e3)) (d2.ex e3) (t2.ext e3) (by rw [er]; exact rv)⟩
theorem LamDo.bt (b : BtO o H0 H) (h : LamDo T EK fine r o H0 t σ) : LamDo T EK fine r o H t σ := fun H1 E b1 => h H1 E (b.trans b1)
theorem q_told0 (hF : ∀ H Q, RetR K fine H Q → TF H Q) (hd : DiceO o H) (ht : Tabs T H) (h : LamDo T EK fine r o H t σ) (k : ∀ l H1, TIG K T H o l [r] H1 → tz D (σ.set i (some (.ref l))) H1) : tSeq (tAsg (tLst (tCons (tLam T (TMG K EK TF) t) tNil)) (gName i)) tz D σ H :=
  n_lamG hF hd ht h fun v H1 b1 d1 t1 rv => ⟨sz_of (by simp), fun p hp => k p _ ⟨b1.trans (BtO.ofE (Ex.new hp)), d1.ex (Ex.new hp), t1.ext (Ex.new hp), (fun u hu => by
    by_cases nt : ∃ ps, u = .tbl ps
    · exact nt
    · have hne : ∀ a, o = some a → p ≠ a := fun a ha z => by
        obtain ⟨x, y, w, hz⟩ := d1 a ha
        rw [← z, hp] at hz
        cases hz
      have := b1.at_ hne (fun ps z => nt ⟨ps, z⟩) hu
      rw [hp] at this
      cases this), (fun a ha z => by
      obtain ⟨x, y, w, hz⟩ := d1 a ha
      rw [← z, hp] at hz
      cases hz), [v], upd_same, .cons (rv.ex (Ex.new hp)) .nil⟩⟩
theorem q_toldA (hF : ∀ H Q, RetR K fine H Q → TF H Q) (hv : σ[i]? = some (some (.ref l))) (hl : ds.length ≤ 1000) (hc : K0.D.cleanL ds = true) (hr : r.clean = true) (I : TIG K T H0 o l ds H) (h : LamDo T EK fine r o H0 t σ)
    (k : ∀ H1, TIG K T H0 o l (ds ++ [r]) H1 → tz D σ H1) : tSeq (tDrop (tBM K "list" rAppend (tVar i) (tCons (tLam T (TMG K EK TF) t) tNil))) tz D σ H := by
  obtain ⟨vs, hvs, rvs⟩ := I.lst
  have lv : vs.length = ds.length := rvs.len
  refine ⟨.ref l, hv, Or.inl ⟨rfl, vs, sq_of hvs⟩, n_lamG (K := K) hF I.dice I.tabs (h.bt I.bt) fun v H1 b1 d1 t1 rv => ?_⟩
  have h1 : H1 l = some (.lst vs) := b1.at_ I.na (fun ps z => by cases z) hvs
  refine ⟨l, vs, v, rfl, rfl, h1, sz_lt (by omega), k _ ⟨(I.bt.trans b1).mutF I.fr, ?_, tabs_lst h1 t1, I.fr, I.na, _, upd_same, ?_⟩⟩
  · intro a ha
    obtain ⟨x, y, z, hz⟩ := d1 a ha
    exact ⟨x, y, z, by rw [upd_ne (I.na a ha).symm]; exact hz⟩
  · exact (rvs.byT hc fun _ _ g => sqT_lst h1 (BtO.sqT I.dice b1 g)).app (.cons (rv.byT hr fun _ _ g => sqT_lst h1 g) .nil)
end
end K0

namespace K0
namespace G
open PySem PySem.Spec PyProof.Rows L2 Evl
/-! ### lists of data (the generic part, for laws of errors) -/
section
variable {K : PySem.W.Frag} {σ : L2.St} {H H1 : Hp} {te tl : TE} {t : TT} {vs : List Nat} {j : Nat} {Q : VK}
theorem lc_dataF {α : Type} {J : It} {Gd : Hp → Prop} {ys : List α} {f : α → V} {Pk : α → Bool} {G : α → D} (w : Walk J ys.length Gd (YAt (ys.map f))) (hG : ∀ H', Ex H1 H' → Gd H') (hz : ys.length ≤ 40000)
    (hw : ∀ x, wipe ((wipe σ vs).set j (some x)) vs = wipe σ vs)
    (ht : ∀ y H', y ∈ ys → Ex H1 H' → EvT t ((wipe σ vs).set j (some (f y))) H' (Pk y)) (he : ∀ y H', y ∈ ys → Pk y = true → Ex H1 H' → EvD K te ((wipe σ vs).set j (some (f y))) H' (G y))
    (q : ∀ p xs H2, H1 p = none → Ex H1 H2 → H2 p = some (.lst xs) → RpAll K H2 xs ((ys.filter Pk).map G) → Q (.ref p) H2) :
    ∀ Dl, H1 Dl = none → ∃ W : Nat → Nat → Hp → Prop, (∃ m, W 0 m (upd H1 Dl (.lst []))) ∧ ∀ i m H, W i m H → (J.stop i H ∧ Q (.ref Dl) H) ∨ (J.go i H ∧ ∃ Nx : Hp → Prop, (∀ H', Nx H' → ∃ m', m' < m ∧ W (i + 1) m' H') ∧
      ∀ x H', J.yld i H x H' → gName j x (wipe σ vs) H' fun σ2 H2 => wipe σ2 vs = wipe σ vs ∧ t σ2 H2 fun b H3 => if b = true then te σ2 H3 fun y H4 => ∃ acc, H4 Dl = some (.lst acc) ∧ acc.length < sizeLine ∧ Nx (upd H4 Dl (.lst (acc ++ [y]))) else Nx H3) := fun Dl hD => by
  refine lc_it w (fun i H' => i ≤ ys.length ∧ ∃ acc, H' Dl = some (.lst acc) ∧ RpAll K H' acc (((ys.take i).filter Pk).map G) ∧ Ex H1 H') ⟨Nat.zero_le _, [], upd_same, .nil, Ex.new hD⟩ (fun i H' _ p => hG H' p.2.choose_spec.2.2) (fun i x H' H'' hi p y => ?_) (fun H' p => ?_)
  · obtain ⟨_, acc, p1, p2, p3⟩ := p
    obtain ⟨rfl, hx⟩ := y
    rw [List.getElem?_map, List.getElem?_eq_getElem hi] at hx
    have hx' : f ys[i] = x := Option.some.inj hx
    subst hx'
    have hm : ys[i] ∈ ys := List.getElem_mem hi
    have et : ys.take (i + 1) = ys.take i ++ [ys[i]] := by rw [List.take_succ, List.getElem?_eq_getElem hi]; rfl
    refine ⟨hw _, ht ys[i] H'' hm p3 H'' (Ex.refl _) _ fun H3 e3 => ?_⟩
    have hal : acc.length ≤ i := by
      rw [p2.len, List.length_map]
      refine Nat.le_trans (List.length_filter_le _ _) ?_
      rw [List.length_take]
      omega
    cases hk : Pk ys[i] with
    | true =>
      rw [if_pos rfl]
      refine he ys[i] H3 hm hk (p3.trans e3) H3 (Ex.refl _) _ fun v H4 e4 hv => ?_
      have h4 := e4 _ _ (e3 _ _ p1)
      refine ⟨acc, h4, sz_lt (by omega), hi, acc ++ [v], upd_same, ?_, Ex.mut ((p3.trans e3).trans e4) hD⟩
      rw [et, List.filter_append, List.map_append, show [ys[i]].filter Pk = [ys[i]] from by rw [List.filter_cons, if_pos hk]; rfl]
      exact ((p2.ex (e3.trans e4)).app (.cons hv .nil)).exL (ExL.upd h4)
    | false =>
      rw [if_neg (by decide)]
      refine ⟨hi, acc, e3 _ _ p1, ?_, p3.trans e3⟩
      rw [et, List.filter_append, show [ys[i]].filter Pk = [] from by rw [List.filter_cons, if_neg (by rw [hk]; decide)]; rfl, List.append_nil]
      exact p2.ex e3
  · obtain ⟨_, acc, p1, p2, p3⟩ := p
    rw [List.take_length] at p2
    exact q Dl acc H' hD p3 p1 p2
/-- .. as what evaluates to a new list of data, over a list that stands -/
theorem edl_listF {α : Type} {a : Addr} {ys : List α} {f : α → V} {Pk : α → Bool} {G : α → D} (h : Ev tl σ H (.ref a)) (hx : SqL K H a (ys.map f)) (hz : ys.length ≤ 40000) (hw : ∀ x, wipe ((wipe σ vs).set j (some x)) vs = wipe σ vs)
    (ht : ∀ y H', y ∈ ys → Ex H H' → EvT t ((wipe σ vs).set j (some (f y))) H' (Pk y)) (he : ∀ y H', y ∈ ys → Pk y = true → Ex H H' → EvD K te ((wipe σ vs).set j (some (f y))) H' (G y)) :
    EvDL K (tLc (iList K tl) (gName j) t te vs) σ H ((ys.filter Pk).map G) := fun H0 e Q q => h H0 e _ fun H1 e1 => by
  have wk := walk_list (K := K) (a := a) (xs := ys.map f)
  rw [List.length_map] at wk
  exact ⟨a, rfl, ⟨_, ex_l (e.trans e1) hx⟩, lc_dataF wk (fun H' e' => ex_l ((e.trans e1).trans e') hx) hz hw (fun y H' hy e' => ht y H' hy ((e.trans e1).trans e')) (fun y H' hy hk e' => he y H' hy hk ((e.trans e1).trans e')) fun p xs H2 hp e2 h2 r => q p xs H2 (fresh_back e1 hp) (e1.trans e2) h2 r⟩
end
section
variable {K : PySem.W.Frag} {σ : L2.St} {H H' : Hp} {te ta tb : TE} {a : Addr} {ds es : List D} {M : Hp → V → Prop} {n : Nat}
theorem edl_cat (h1 : EvDL K ta σ H ds) (h2 : EvDL K tb σ H es) (l : ds.length + es.length ≤ 100000) : EvDL K (tOp rCat ta tb) σ H (ds ++ es) := fun H1 e Q q =>
  h1 H1 e _ fun p xs H2 hp e2 h3 r3 => h2 H2 (e.trans e2) _ fun p' ys H3 hp' e3 h4 r4 => ⟨p, p', xs, ys, rfl, rfl, e3 _ _ h3, h4, by rw [r3.len, r4.len]; exact sz_of l, fun q' hq => q q' _ _ (fresh_back (e2.trans e3) hq) ((e2.trans e3).trans (Ex.new hq)) upd_same (((r3.ex e3).app r4).ex (Ex.new hq))⟩
theorem edl_lst {tr : TA} (h : EvDA K tr σ H ds) (l : ds.length ≤ 1000) : EvDL K (tLst tr) σ H ds := fun H1 e Q q =>
  h H1 e _ fun vs H2 e2 r2 => ⟨by rw [r2.len]; exact sz_of (by omega), fun p hp => q p vs _ (fresh_back e2 hp) (e2.trans (Ex.new hp)) upd_same (r2.ex (Ex.new hp))⟩
theorem ev_eqDL {a : Addr} {xs : List V} {n : Nat} (h1 : Ev ta σ H (.ref a)) (hx : H a = some (.lst xs)) (rx : RpAll K H xs ds) (h2 : EvDL K tb σ H es) (fd : ∀ d ∈ ds, d.fine n = true) (fe : ∀ d ∈ es, d.fine n = true) (hn : n + 1 ≤ 64) :
    Ev (tOp (rEqD K) ta tb) σ H (.bl (PyData.eqvAll (K0.D.pyL ds) (K0.D.pyL es))) := fun H1 e Q q => h1 H1 e _ fun H2 e2 => h2 H2 (e.trans e2) _ fun p ys H3 hp e3 h3 ry =>
  ⟨.list (K0.D.pyL ds), .list (K0.D.pyL es), dpL (((e.trans e2).trans e3) _ _ hx) (rx.ex ((e.trans e2).trans e3)) (fine_all ds fd).1, dpL h3 ry (fine_all es fe).1, shapedL_of fd hn, shapedL_of fe hn, q H3 (e2.trans e3)⟩
/-- two new lists of data compared -/
theorem ev_neLN {n : Nat} (h1 : EvDL K ta σ H ds) (h2 : EvDL K tb σ H es) (fd : ∀ d ∈ ds, d.fine n = true) (fe : ∀ d ∈ es, d.fine n = true) (hn : n + 1 ≤ 64) :
    Ev (tOp (rNeD K) ta tb) σ H (.bl (!PyData.eqvAll (K0.D.pyL ds) (K0.D.pyL es))) := fun H1 e Q q => h1 H1 e _ fun p0 xs H2 hp0 e2 hx rx => h2 H2 (e.trans e2) _ fun p ys H3 hp e3 h3 ry =>
  ⟨.list (K0.D.pyL ds), .list (K0.D.pyL es), dpL (e3 _ _ hx) (rx.ex e3) (fine_all ds fd).1, dpL h3 ry (fine_all es fe).1, shapedL_of fd hn, shapedL_of fe hn, q H3 (e2.trans e3)⟩
theorem q_asgQ {M : Hp → V → Prop} {D : Ends} {tz : TS} {i : Nat} (h : EvQL M te σ H n) (k : ∀ p xs H1, H p = none → Ex H H1 → H1 p = some (.lst xs) → (∀ v ∈ xs, M H1 v) → xs.length = n → tz D (σ.set i (some (.ref p))) H1) : tSeq (tAsg te (gName i)) tz D σ H :=
  h H (Ex.refl _) _ fun p xs H1 hp e1 h1 ms l => k p xs H1 hp e1 h1 ms l
theorem q_asgDL {D : Ends} {tz : TS} {i : Nat} (h : EvDL K te σ H ds) (k : ∀ p xs H1, H p = none → Ex H H1 → H1 p = some (.lst xs) → RpAll K H1 xs ds → tz D (σ.set i (some (.ref p))) H1) : tSeq (tAsg te (gName i)) tz D σ H :=
  h H (Ex.refl _) _ fun p xs H1 hp e1 h1 r => k p xs H1 hp e1 h1 r
/-- texts -/
theorem strs_of {xs : List V} {ws : List Str} (h : RpAll K H xs (ws.map D.str)) : xs = ws.map V.str := by
  induction ws generalizing xs with
  | nil => cases h; rfl
  | cons z ws ih =>
    cases h with
    | cons a b =>
      cases a
      rw [List.map_cons, ih b]
/-- a list of one, some times over -/
theorem edl_rep {d : D} {k : Nat} (h : EvD K te σ H d) (hk : k ≤ 1000) : EvDL K (tOp rRep (tLst (tCons te tNil)) (tC (.int (k : Int)))) σ H (List.replicate k d) := fun G e Q q =>
  edl_lst (eda_cons h eda_nil) (by simp) G e _ fun p xs G1 hp e1 h1 r => by
    cases r with
    | cons r0 r1 =>
      cases r1
      rename_i v
      refine ⟨p, (k : Int), [v], rfl, rfl, h1, by omega, by omega, sz_of (by simp; omega), fun t ht => q t _ _ (fresh_back e1 ht) (e1.trans (Ex.new ht)) upd_same ?_⟩
      have key : ∀ m, RpAll K G1 (List.replicate m v) (List.replicate m d) := fun m => by
        induction m with
        | zero => exact .nil
        | succ m ih => exact .cons r0 ih
      have hz : (List.replicate (k : Int).toNat [v]).flatten = List.replicate k v := by
        rw [Int.toNat_natCast]
        clear q r0 key ht h1 hp e1
        induction k with
        | zero => rfl
        | succ m ih => rw [List.replicate_succ, List.flatten_cons, ih (by omega), List.replicate_succ]; rfl
      rw [hz]
      exact (key k).ex (Ex.new ht)
theorem eqvAll_same {ds : List D} (h : D.cleanL ds = true) : PyData.eqvAll (D.pyL ds) (D.pyL ds) = true := eqvAll_self ds h
end
end G
end K0

namespace K0
open PySem L2 Evl
/-! ### plain values: what can be shown, equal ones (as in RL, WR) -/
theorem num_len {i : Int} (h : numB i = true) : (Str.ofString (toString i)).length ≤ 61 ∧ i.natAbs.log2 < 1920 := by
  have h2 := Bool.and_eq_true_iff.mp h
  have h3 := of_decide_eq_true h2.1
  have h4 := of_decide_eq_true h2.2
  have hb : i.natAbs < 10 ^ 60 := by unfold big at h3 h4; omega
  constructor
  · rw [ofString_length]
    exact int_text_length_le10 (k := 60) (by decide) hb
  · by_cases h0 : i.natAbs = 0
    · rw [h0]; decide
    · exact (Nat.log2_lt h0).mpr (Nat.lt_of_lt_of_le hb (Nat.le_trans (Nat.pow_le_pow_left (by decide : 10 ≤ 2 ^ 4) 60) (by rw [← Nat.pow_mul]; exact Nat.pow_le_pow_right (by decide) (by decide))))
theorem word_low {z : Str} (h : D.word signs37 3000 (.str z) = true) : ∀ c ∈ z.cps.toList, c < 128 := fun c hc => by
  have h2 := Bool.and_eq_true_iff.mp (show (decide ((z.length : Int) ≤ 3000) && z.cps.toList.all signs37.cps.contains) = true from h)
  have := List.all_eq_true.mp h2.2 c hc
  rw [Array.contains_iff_mem] at this
  exact of_decide_eq_true (List.all_eq_true.mp (show signs37.cps.toList.all (fun c => decide (c < 128)) = true by decide +kernel) c (Array.mem_toList_iff.mpr this))
mutual
theorem plain_facts : ∀ (d : K0.D) (n : Nat), d.plain n = true → d.clean = true ∧ d.py.canLay0 = true ∧ d.py.depth ≤ n + 1 ∧ d.py.showable = true ∧ d.py.shown.length + 2 ≤ 1005 * d.size
  | .non, n, _ => ⟨rfl, rfl, Nat.zero_le _, rfl, by show 4 + 2 ≤ 1005 * 1; decide⟩
  | .bl b, n, h => by cases n <;> cases h
  | .oth, n, h => by cases n <;> cases h
  | .int i, n, h => by
    have h1 : numB i = true := by cases n <;> exact h
    have hn := num_len h1
    exact ⟨rfl, rfl, Nat.zero_le _, decide_eq_true hn.2, by show (Str.ofString (toString i)).length + 2 ≤ 1005 * 1; omega⟩
  | .str z, n, h => by
    have hw : D.word signs37 3000 (.str z) = true := by cases n <;> exact h
    have hl := word_low hw
    refine ⟨rfl, ?_, Nat.zero_le _, rfl, ?_⟩
    · show z.cps.all (· < 0x110000) = true
      rw [← Array.all_toList]
      exact List.all_eq_true.mpr fun c hc => decide_eq_true (by have := hl c hc; omega)
    · have := PySem.StrLaws.reprText_len z fun c hc => by have := hl c hc; omega
      show (reprText z).length + 2 ≤ 1005 * (1 + z.length / 100)
      omega
  | .tup ds, n, h => by
    cases n with
    | zero => cases h
    | succ n =>
      obtain ⟨a, b, c, e, f⟩ := plains_facts ds n h
      refine ⟨a, b, by show PyData.depthAll (K0.D.pyL ds) + 1 ≤ n + 1 + 1; omega, e, ?_⟩
      have := tupleText_len_le (PyData.shownAll (K0.D.pyL ds))
      show (tupleText (PyData.shownAll (K0.D.pyL ds))).length + 2 ≤ 1005 * (K0.D.tup ds).size
      simp only [K0.D.size]
      omega
theorem plains_facts : ∀ (ds : List K0.D) (n : Nat), ds.all (K0.D.plain n) = true → K0.D.cleanL ds = true ∧ PyData.canLayAll0 (K0.D.pyL ds) = true ∧ PyData.depthAll (K0.D.pyL ds) ≤ n + 1 ∧ PyData.showableAll (K0.D.pyL ds) = true ∧
    ((PyData.shownAll (K0.D.pyL ds)).map (·.length)).sum + 2 * (PyData.shownAll (K0.D.pyL ds)).length ≤ 1005 * K0.D.sizeL ds
  | [], n, _ => ⟨rfl, rfl, Nat.zero_le _, rfl, Nat.zero_le _⟩
  | d :: ds, n, h => by
    rw [List.all_cons, Bool.and_eq_true] at h
    obtain ⟨a1, b1, c1, e1, f1⟩ := plain_facts d n h.1
    obtain ⟨a2, b2, c2, e2, f2⟩ := plains_facts ds n h.2
    refine ⟨Bool.and_eq_true_iff.mpr ⟨a1, a2⟩, ?_, ?_, ?_, ?_⟩
    · simp only [K0.D.pyL, PyData.canLayAll0]
      rw [b1, b2]
      rfl
    · simp only [K0.D.pyL, PyData.depthAll]
      exact Nat.max_le.mpr ⟨c1, c2⟩
    · simp only [K0.D.pyL, PyData.showableAll]
      rw [e1, e2]
      rfl
    · simp only [K0.D.pyL, PyData.shownAll, List.map_cons, List.sum_cons, List.length_cons, K0.D.sizeL]
      omega
end
theorem plain_fine {d : K0.D} {n : Nat} (h : d.plain n = true) : d.fine (n + 1) = true := by
  obtain ⟨a, b, c, _⟩ := plain_facts d n h
  unfold K0.D.fine
  rw [a, b, decide_eq_true c]
  rfl
mutual
theorem eqv_eq : ∀ (d e : K0.D) (n m : Nat), d.plain n = true → e.plain m = true → PyData.eqv d.py e.py = true → d = e
  | .bl b, _, n, _, h, _, _ => by cases n <;> cases h
  | .oth, _, n, _, h, _, _ => by cases n <;> cases h
  | _, .bl b, _, m, _, h, _ => by cases m <;> cases h
  | _, .oth, _, m, _, h, _ => by cases m <;> cases h
  | .non, .non, _, _, _, _, _ => rfl
  | .int i, .int j, _, _, _, _, h => by rw [show i = j from by simpa [K0.D.py, PyData.eqv] using h]
  | .str x, .str y, _, _, _, _, h => by rw [show x = y from by simpa [K0.D.py, PyData.eqv] using h]
  | .tup ds, .tup es, n, m, h1, h2, h => by
    cases n with
    | zero => cases h1
    | succ n =>
      cases m with
      | zero => cases h2
      | succ m => rw [eqvs_eq ds es n m h1 h2 h]
  | .non, .int _, _, _, _, _, h => by cases h
  | .non, .str _, _, _, _, _, h => by cases h
  | .non, .tup _, _, _, _, _, h => by cases h
  | .int _, .non, _, _, _, _, h => by cases h
  | .int _, .str _, _, _, _, _, h => by cases h
  | .int _, .tup _, _, _, _, _, h => by cases h
  | .str _, .non, _, _, _, _, h => by cases h
  | .str _, .int _, _, _, _, _, h => by cases h
  | .str _, .tup _, _, _, _, _, h => by cases h
  | .tup _, .non, _, _, _, _, h => by cases h
  | .tup _, .int _, _, _, _, _, h => by cases h
  | .tup _, .str _, _, _, _, _, h => by cases h
theorem eqvs_eq : ∀ (ds es : List K0.D) (n m : Nat), ds.all (K0.D.plain n) = true → es.all (K0.D.plain m) = true → PyData.eqvAll (K0.D.pyL ds) (K0.D.pyL es) = true → ds = es
  | [], [], _, _, _, _, _ => rfl
  | d :: ds, e :: es, n, m, h1, h2, h => by
    rw [List.all_cons, Bool.and_eq_true] at h1 h2
    have h' := Bool.and_eq_true_iff.mp (show (PyData.eqv d.py e.py && PyData.eqvAll (K0.D.pyL ds) (K0.D.pyL es)) = true from h)
    rw [eqv_eq d e n m h1.1 h2.1 h'.1, eqvs_eq ds es n m h1.2 h2.2 h'.2]
  | [], _ :: _, _, _, _, _, h => by cases h
  | _ :: _, [], _, _, _, _, h => by cases h
end
end K0

namespace K0
open PySem L2 Evl
/-! ### k01: keys, is_less -/
section
variable {P : Program} {w : World} {K : PySem.W.Frag} {mg : Str → Option Value} {base : Heap} {A : Ad} {D : Fd}
def sp_check_plainG (K : PySem.W.Frag) : Sp := fun vs H Q _ => ∃ x d, vs = [x] ∧ Rp K H x d ∧ d.size ≤ 29000 ∧ d.plain 12 = true ∧ RetV .non H Q
theorem ok_check_plainG (T : Txt K mg A D) : FnOk P w K mg base CX0 30 A.check_plain D.check_plain ["value"] (sp_check_plainG K) := by
  have G_is_plain : FnOk P w K mg base CX0 4 A.is_plain D.is_plain ["value"] (sp_is_plain K) := ok_is_plain T
  refine T.F_check_plain.ok sc_check_plain (fun vs H Q E h => by obtain ⟨x, d, rfl, _⟩ := h; rfl) (fun cdv A0 outer s H vs Q E hr h => ?_)
  refine ⟨_, (pss_one (ps_if (pt_not (pt_val (pe_call G_is_plain (hr.mono (by decide)) rfl T.g_is_plain T.F_is_plain.kp T.b_is_plain .nil pass0 (pa_cons (pv 0) pa_nil)))) (pss_one ps_never) pss_nil)), ?_⟩
  obtain ⟨x, d, rfl, hx, hs, hp, k⟩ := h
  exact s_when (b := false) (et_is (et_not (et_B (ev_call (ea_cons (ev_var rfl) ea_nil) (svS hx (by omega))))) (by rw [hp]; rfl)) (fun zz => by cases zz) fun _ H1 e1 => k H1 e1
theorem s_retR {K : PySem.W.Frag} {te : TE} {σ : L2.St} {H : Hp} {D : Ends} {d : K0.D} (h : EvD K te σ H d) (k : RetR K d H D.rt) : tRet te D σ H := h H (Ex.refl H) _ k
theorem RetR.ex {K : PySem.W.Frag} {H H' : Hp} {Q : VK} {d : K0.D} (e : Ex H H') (k : RetR K d H Q) : RetR K d H' Q := fun v H2 e2 => k v H2 (e.trans e2)
def noFn : Sp := fun _ _ _ _ => False
/-- a list comprehension over a tuple of data -/
theorem edl_tupG {σ : L2.St} {H : Hp} {tt te : TE} {j : Nat} {vs : List Nat} {ds : List K0.D} {G : K0.D → K0.D} (h : EvD K tt σ H (.tup ds)) (hz : ds.length ≤ 40000) (hw : ∀ x, wipe ((wipe σ vs).set j (some x)) vs = wipe σ vs) (he : ∀ d x H', Ex H H' → d ∈ ds → Rp K H' x d → EvD K te ((wipe σ vs).set j (some x)) H' (G d)) :
    EvDL K (tLc (iTup K tt) (gName j) tYes te vs) σ H (ds.map G) := fun H0 e Q q => h H0 e _ fun v H1 e1 hv => by
  obtain ⟨a, xs, rfl, ha, rr⟩ := hv.tupI
  have hl : xs.length = ds.length := rr.len
  have zm : ∀ {xs : List V} {ys : List K0.D}, xs.length = ys.length → (xs.zip ys).map (·.1) = xs ∧ (xs.zip ys).map (·.2) = ys := by
    intro xs
    induction xs with
    | nil => intro ys h; cases ys <;> first | exact ⟨rfl, rfl⟩ | simp at h
    | cons x xs ih =>
      intro ys h
      cases ys with
      | nil => simp at h
      | cons y ys =>
        obtain ⟨a, b⟩ := ih (by simpa using h)
        exact ⟨by rw [List.zip_cons_cons, List.map_cons, a], by rw [List.zip_cons_cons, List.map_cons, b]⟩
  have zr : ∀ {G : Hp} {xs : List V} {ys : List K0.D}, RpAll K G xs ys → ∀ p ∈ xs.zip ys, Rp K G p.1 p.2 ∧ p.2 ∈ ys := by
    intro G xs ys h
    induction ys generalizing xs with
    | nil => intro p hp; cases h; cases hp
    | cons d ds ih =>
      intro p hp
      cases h with
      | cons h r =>
        rw [List.zip_cons_cons] at hp
        rcases List.mem_cons.mp hp with rfl | hp
        · exact ⟨h, List.mem_cons_self ..⟩
        · obtain ⟨a, b⟩ := ih r p hp
          exact ⟨a, List.mem_cons_of_mem _ b⟩
  obtain ⟨z1, z2⟩ := zm hl
  have wk := walk_tup (K := K) (a := a) (xs := (xs.zip ds).map (·.1))
  rw [List.length_map] at wk
  refine ⟨a, rfl, ⟨xs, ha⟩, K0.G.lc_dataF (K := K) (Q := Q) (ys := xs.zip ds) (f := (·.1)) (Pk := fun _ => true) (G := fun p => G p.2) wk (fun H' e' => by rw [z1]; exact ex_t e' ha) (by rw [List.length_zip]; omega) hw (fun y H' hy _ => et_yes) (fun y H' hy hk e' => ?_) fun p ys H2 hp e2 h2 r => ?_⟩
  · obtain ⟨a1, a2⟩ := zr rr y hy
    exact he y.2 y.1 H' ((e.trans e1).trans e') a2 (a1.ex e')
  · rw [List.filter_eq_self.mpr fun _ _ => rfl] at r
    have : (xs.zip ds).map (fun p => G p.2) = ds.map G := by
      have h4 : (xs.zip ds).map (fun p => G p.2) = ((xs.zip ds).map (·.2)).map G := by rw [List.map_map]; rfl
      rw [h4, z2]
    rw [this] at r
    exact q p ys H2 (fresh_back e1 hp) (e1.trans e2) h2 r
theorem ed_tupNL {σ : L2.St} {H : Hp} {te : TE} {ds : List K0.D} (h : EvDL K te σ H ds) : EvD K (tCB (rTupOf K) (tCons te tNil)) σ H (.tup ds) := fun H1 e Q q =>
  h H1 e _ fun p xs H2 hp e2 h2 r => ⟨p, xs, rfl, .inl ⟨sq_of h2, fun l hl => q (.ref l) _ (e2.trans (Ex.new hl)) (.tup (st_of upd_same) (r.ex (Ex.new hl)))⟩⟩
/-- a def that makes the key of a value nested m levels -/
def sp_keyOf (K : PySem.W.Frag) (z : List K0.D) (m : Nat) : Sp := fun vs H Q _ => ∃ x d, vs = [x] ∧ Rp K H x d ∧ d.size ≤ 30000 ∧ d.plain m = true ∧ RetR K (kD z d) H Q
theorem key_core {n m : Nat} {spT : Sp} (T : Txt K mg A D) (G_sort_key : FnOk P w K mg base CX0 n A.sort_key D.sort_key ["value"] spT) (hT : 0 < m → ∀ vs H Q E, sp_keyOf K [] (m - 1) vs H Q E → spT vs H Q E) :
    FnOk P w K mg base CX0 (n + 1) A.sort_key D.sort_key ["value"] (sp_keyOf K [] m) := by
  refine T.F_sort_key.ok sc_sort_key (fun vs H Q E h => by obtain ⟨x, d, rfl, _⟩ := h; rfl) (fun cdv A0 outer s H vs Q E hr h => ?_)
  refine ⟨_, (pss_cons (ps_if (pt_cmpR op_isN (pv 0) pe_non (nomark _)) (pss_one (ps_ret (pe_tup (pa_cons pe_int pa_nil)))) pss_nil)
  (pss_cons (ps_if (pt_val (pe_callB call_isi (by rfl) T.b_isinstance (by decide +kernel) (pa_cons (pv 0) (pa_cons (pe_bltn (v := .ty "int") (u := .type "int") (by rfl) T.b_int (by decide +kernel) rfl) pa_nil)))) (pss_one (ps_ret (pe_tup (pa_cons pe_int (pa_cons (pv 0) pa_nil))))) pss_nil)
  (pss_cons (ps_if (pt_val (pe_callB call_isi (by rfl) T.b_isinstance (by decide +kernel) (pa_cons (pv 0) (pa_cons (pe_bltn (v := .ty "str") (u := .type "str") (by rfl) T.b_str (by decide +kernel) rfl) pa_nil)))) (pss_one (ps_ret (pe_tup (pa_cons pe_int (pa_cons (pv 0) pa_nil))))) pss_nil)
  (pss_one (ps_ret (pe_tup (pa_cons pe_int (pa_cons (pe_callTy call_tuple_of (by rfl) T.b_tuple (by decide +kernel) (pa_cons (pe_lc (own := [("member", 1)]) (g := gName 1) (tt := tYes) rfl sc_sort_key.nd (pi_tup (pv 0)) (blkOk_by (own := [("member", 1)]) (N := N_sort_key) (sc := defScope s_sort_key) (by decide +kernel)) (fun _ _ _ _ _ => by exact pg_name (i := 1) sc_sort_key.nd rfl (Or.inl rfl)) (fun _ _ _ _ _ => by exact pts_nil) (fun _ _ _ _ _ => by exact (pe_call G_sort_key (hr.mono (by omega)) rfl T.g_sort_key T.F_sort_key.kp T.b_sort_key .nil pass0 (pa_cons (pv 1) pa_nil)))) pa_nil)) pa_nil)))))))), ?_⟩
  obtain ⟨x, d, rfl, hx, hs, hp, k⟩ := h
  refine q_when (et_test (ev_op (ev_var rfl) ev_c rv_isN)) (fun hb H1 e1 => ?_) (fun hb H1 e1 => ?_)
  · have hn := of_decide_eq_true hb
    subst hn
    cases hx
    exact s_retR (K := K) (ed_tup (ds := [.int 0]) (eda_cons (ed_ev ev_c (.int _)) eda_nil) (by simp)) (RetR.ex e1 k)
  have hx1 := hx.ex e1
  refine q_when (et_B (ev_cb (ea_cons (ev_var rfl) (ea_cons ev_c ea_nil)) (rc_int hx1))) (fun hb H2 e2 => ?_) (fun hb H2 e2 => ?_)
  · cases hx with
    | int i => exact s_retR (K := K) (ed_tup (ds := [.int 1, .int i]) (eda_cons (ed_ev ev_c (.int _)) (eda_cons (ed_ev (ev_var rfl) (.int _)) eda_nil)) (by simp)) (RetR.ex (e1.trans e2) k)
    | bl b => cases m <;> cases hp
    | _ => cases hb
  refine q_when (et_B (ev_cb (ea_cons (ev_var rfl) (ea_cons ev_c ea_nil)) (rc_str (hx1.ex e2)))) (fun hb3 H3 e3 => ?_) (fun hb3 H3 e3 => ?_)
  · obtain ⟨z, rfl, rfl⟩ := hx.isS hb3
    exact s_retR (K := K) (ed_tup (ds := [.int 2, .str z]) (eda_cons (ed_ev ev_c (.int _)) (eda_cons (ed_ev (ev_var rfl) (.str _)) eda_nil)) (by simp)) (RetR.ex ((e1.trans e2).trans e3) k)
  · cases hx with
    | @tup a xs ds hq hr0 =>
      have e03 := (e1.trans e2).trans e3
      cases m with
      | zero => cases hp
      | succ m =>
        have hpl : ds.all (K0.D.plain m) = true := hp
        have hsl := sizeL_len ds
        have hsz : 1 + K0.D.sizeL ds ≤ 30000 := by have := hs; simp only [K0.D.size] at this; exact this
        refine s_retR (K := K) (ed_tup (ds := [.int 3, .tup (kDL [] ds)]) (eda_cons (ed_ev ev_c (.int _)) (eda_cons (ed_tupNL (by rw [kDL_map]; exact edl_tupG (ed_ev (ev_var rfl) (.tup (ex_t e03 hq) (hr0.ex e03))) (by omega) (fun _ => rfl) fun d y H' e' hd hy => (by
          have hz := size_mem hd
          exact fun H1 e Q q => c_call (ea_cons (ev_var rfl) ea_nil) fun H2 e2 => hT (by omega) _ _ _ _ ⟨y, d, rfl, hy.ex (e.trans e2), by omega, List.all_eq_true.mp hpl d hd, fun v H3 e3 r => q v H3 (e2.trans e3) r⟩))) eda_nil)) (by simp)) (RetR.ex e03 k)
    | int i => cases hb
    | str s => cases hb3
    | bl b => cases hb
    | non => exact absurd rfl (of_decide_eq_false ‹_›)
    | lst h => cases m <;> cases hp
    | dct h => cases m <;> cases hp
theorem ok_sort_key (T : Txt K mg A D) : ∀ m, FnOk P w K mg base CX0 (m + 2) A.sort_key D.sort_key ["value"] (sp_keyOf K [] m)
  | 0 => key_core (n := 1) (spT := noFn) T ⟨fun _ _ _ _ h => h.elim, fun _ _ _ _ _ _ _ _ _ _ _ _ _ h => h.elim⟩ fun h => by omega
  | m + 1 => key_core T (ok_sort_key T m) fun _ vs H Q E h => h
theorem rank_core {n m : Nat} {spT : Sp} (T : Txt K mg A D) (G_law_va_rank : FnOk P w K mg base CX0 n A.law_va_rank D.law_va_rank ["value"] spT) (hT : 0 < m → ∀ vs H Q E, sp_keyOf K [.int 0] (m - 1) vs H Q E → spT vs H Q E) :
    FnOk P w K mg base CX0 (n + 1) A.law_va_rank D.law_va_rank ["value"] (sp_keyOf K [.int 0] m) := by
  refine T.F_law_va_rank.ok sc_law_va_rank (fun vs H Q E h => by obtain ⟨x, d, rfl, _⟩ := h; rfl) (fun cdv A0 outer s H vs Q E hr h => ?_)
  refine ⟨_, (pss_cons (ps_if (pt_cmpR op_isN (pv 0) pe_non (nomark _)) (pss_one (ps_ret (pe_tup (pa_cons pe_int (pa_cons pe_int pa_nil))))) pss_nil)
  (pss_cons (ps_if (pt_val (pe_callB call_isi (by rfl) T.b_isinstance (by decide +kernel) (pa_cons (pv 0) (pa_cons (pe_bltn (v := .ty "tuple") (u := .type "tuple") (by rfl) T.b_tuple (by decide +kernel) rfl) pa_nil)))) (pss_one (ps_ret (pe_tup (pa_cons pe_int (pa_cons (pe_callTy call_tuple_of (by rfl) T.b_tuple (by decide +kernel) (pa_cons (pe_lc (own := [("one", 1)]) (g := gName 1) (tt := tYes) rfl sc_law_va_rank.nd (pi_tup (pv 0)) (blkOk_by (own := [("one", 1)]) (N := N_law_va_rank) (sc := defScope s_law_va_rank) (by decide +kernel)) (fun _ _ _ _ _ => by exact pg_name (i := 1) sc_law_va_rank.nd rfl (Or.inl rfl)) (fun _ _ _ _ _ => by exact pts_nil) (fun _ _ _ _ _ => by exact (pe_call G_law_va_rank (hr.mono (by omega)) rfl T.g_law_va_rank T.F_law_va_rank.kp T.b_law_va_rank .nil pass0 (pa_cons (pv 1) pa_nil)))) pa_nil)) pa_nil))))) pss_nil)
  (pss_one (ps_ret (pe_ifExp (pt_val (pe_callB call_isi (by rfl) T.b_isinstance (by decide +kernel) (pa_cons (pv 0) (pa_cons (pe_bltn (v := .ty "str") (u := .type "str") (by rfl) T.b_str (by decide +kernel) rfl) pa_nil)))) (pe_tup (pa_cons pe_int (pa_cons (pv 0) pa_nil))) (pe_tup (pa_cons pe_int (pa_cons (pv 0) pa_nil)))))))), ?_⟩
  obtain ⟨x, d, rfl, hx, hs, hp, k⟩ := h
  refine q_when (et_test (ev_op (ev_var rfl) ev_c rv_isN)) (fun hb H1 e1 => ?_) (fun hb H1 e1 => ?_)
  · have hn := of_decide_eq_true hb
    subst hn
    cases hx
    exact s_retR (K := K) (ed_tup (ds := [.int 0, .int 0]) (eda_cons (ed_ev ev_c (.int _)) (eda_cons (ed_ev ev_c (.int _)) eda_nil)) (by simp)) (RetR.ex e1 k)
  have hx1 := hx.ex e1
  refine q_when (et_B (ev_cb (ea_cons (ev_var rfl) (ea_cons ev_c ea_nil)) (rc_tup hx1))) (fun hb H2 e2 => ?_) (fun hb H2 e2 => ?_)
  · cases hx with
    | @tup a xs ds hq hr0 =>
      have e02 := e1.trans e2
      cases m with
      | zero => cases hp
      | succ m =>
        have hpl : ds.all (K0.D.plain m) = true := hp
        have hsl := sizeL_len ds
        have hsz : 1 + K0.D.sizeL ds ≤ 30000 := by have := hs; simp only [K0.D.size] at this; exact this
        refine s_retR (K := K) (ed_tup (ds := [.int 3, .tup (kDL [.int 0] ds)]) (eda_cons (ed_ev ev_c (.int _)) (eda_cons (ed_tupNL (by rw [kDL_map]; exact edl_tupG (ed_ev (ev_var rfl) (.tup (ex_t e02 hq) (hr0.ex e02))) (by omega) (fun _ => rfl) fun d y H' e' hd hy => (by
          have hz := size_mem hd
          exact fun H1 e Q q => c_call (ea_cons (ev_var rfl) ea_nil) fun H2 e2 => hT (by omega) _ _ _ _ ⟨y, d, rfl, hy.ex (e.trans e2), by omega, List.all_eq_true.mp hpl d hd, fun v H3 e3 r => q v H3 (e2.trans e3) r⟩))) eda_nil)) (by simp)) (RetR.ex e02 k)
    | int i => cases hb
    | str s => cases hb
    | bl b => cases hb
    | non => cases hb
    | lst h => cases hb
    | dct h => cases hb
  have e02 := e1.trans e2
  cases hx with
  | str z =>
    refine s_retR (K := K) (d := .tup [.int 2, .str z]) (fun H3 e3 Q q => ?_) (RetR.ex e02 k)
    exact (et_B (b := true) (ev_cb (ea_cons (ev_var rfl) (ea_cons ev_c ea_nil)) (rc_str (.str z)))) H3 e3 _ fun H4 e4 => (ed_tup (K := K) (ds := [.int 2, .str z]) (eda_cons (ed_ev ev_c (.int _)) (eda_cons (ed_ev (ev_var rfl) (.str _)) eda_nil)) (by simp)) H4 (Ex.refl _) _ fun v H5 e5 r => q v H5 (e4.trans e5) r
  | int i =>
    refine s_retR (K := K) (d := .tup [.int 1, .int i]) (fun H3 e3 Q q => ?_) (RetR.ex e02 k)
    exact (et_B (b := false) (ev_cb (ea_cons (ev_var rfl) (ea_cons ev_c ea_nil)) (rc_str (.int i)))) H3 e3 _ fun H4 e4 => (ed_tup (K := K) (ds := [.int 1, .int i]) (eda_cons (ed_ev ev_c (.int _)) (eda_cons (ed_ev (ev_var rfl) (.int _)) eda_nil)) (by simp)) H4 (Ex.refl _) _ fun v H5 e5 r => q v H5 (e4.trans e5) r
  | tup hq hr0 => cases hb
  | bl b => cases m <;> cases hp
  | non => exact absurd rfl (of_decide_eq_false ‹_›)
  | lst h => cases m <;> cases hp
  | dct h => cases m <;> cases hp
theorem ok_law_va_rank (T : Txt K mg A D) : ∀ m, FnOk P w K mg base CX0 (m + 2) A.law_va_rank D.law_va_rank ["value"] (sp_keyOf K [.int 0] m)
  | 0 => rank_core (n := 1) (spT := noFn) T ⟨fun _ _ _ _ h => h.elim, fun _ _ _ _ _ _ _ _ _ _ _ _ _ h => h.elim⟩ fun h => by omega
  | m + 1 => rank_core T (ok_law_va_rank T m) fun _ vs H Q E h => h
mutual
theorem kD_depth {z : List K0.D} (hz : Zok z) : ∀ (d : K0.D) (n : Nat), d.plain n = true → (kD z d).py.depth ≤ 2 * n + 1
  | .non, n, _ => by
    rcases hz with rfl | rfl
    · exact Nat.le_add_left 1 (2 * n)
    · exact Nat.le_add_left 1 (2 * n)
  | .int _, n, _ => Nat.le_add_left 1 (2 * n)
  | .str _, n, _ => Nat.le_add_left 1 (2 * n)
  | .tup ds, 0, h => by cases h
  | .tup ds, n + 1, h => by
    have := kDL_depth hz ds n h
    show max 0 (max (PyData.depthAll (K0.D.pyL (kDL z ds)) + 1) 0) + 1 ≤ _
    omega
  | .bl _, 0, h => by cases h
  | .bl _, _ + 1, h => by cases h
  | .oth, 0, h => by cases h
  | .oth, _ + 1, h => by cases h
theorem kDL_depth {z : List K0.D} (hz : Zok z) : ∀ (ds : List K0.D) (n : Nat), ds.all (K0.D.plain n) = true → PyData.depthAll (K0.D.pyL (kDL z ds)) ≤ 2 * n + 1
  | [], n, _ => Nat.zero_le _
  | d :: ds, n, h => by
    have h2 := Bool.and_eq_true_iff.mp (show (K0.D.plain n d && ds.all (K0.D.plain n)) = true from h)
    have a := kD_depth hz d n h2.1
    have b := kDL_depth hz ds n h2.2
    show max (kD z d).py.depth (PyData.depthAll (K0.D.pyL (kDL z ds))) ≤ _
    omega
end
def sp_is_less (K : PySem.W.Frag) : Sp := fun vs H Q _ => ∃ x d y e, vs = [x, y] ∧ Rp K H x d ∧ d.size ≤ 29000 ∧ d.plain 12 = true ∧ Rp K H y e ∧ e.size ≤ 29000 ∧ e.plain 12 = true ∧ RetV (.bl (ltD d e)) H Q
theorem ok_is_less (T : Txt K mg A D) : FnOk P w K mg base CX0 31 A.is_less D.is_less ["one", "other"] (sp_is_less K) := by
  have G_check_plain := ok_check_plainG (P := P) (w := w) (base := base) T
  have G_sort_key := ok_sort_key (P := P) (w := w) (base := base) T 12
  refine T.F_is_less.ok sc_is_less (fun vs H Q E h => by obtain ⟨x, d, y, e, rfl, _⟩ := h; rfl) (fun cdv A0 outer s H vs Q E hr h => ?_)
  refine ⟨_, (pss_cons (ps_expr (pe_call G_check_plain (hr.mono (by decide)) rfl T.g_check_plain T.F_check_plain.kp T.b_check_plain .nil pass0 (pa_cons (pv 0) pa_nil)))
  (pss_cons (ps_expr (pe_call G_check_plain (hr.mono (by decide)) rfl T.g_check_plain T.F_check_plain.kp T.b_check_plain .nil pass0 (pa_cons (pv 1) pa_nil)))
  (pss_one (ps_ret (pe_cmpR (op_ltK (z := []) (.inl rfl) hr.units) (pe_call G_sort_key (hr.mono (by decide)) rfl T.g_sort_key T.F_sort_key.kp T.b_sort_key .nil pass0 (pa_cons (pv 0) pa_nil)) (pe_call G_sort_key (hr.mono (by decide)) rfl T.g_sort_key T.F_sort_key.kp T.b_sort_key .nil pass0 (pa_cons (pv 1) pa_nil)) (nomark _)))))), ?_⟩
  obtain ⟨x, d, y, e, rfl, hx, hs, hp, hy, hs', hp', k⟩ := h
  refine c_call (ea_cons (ev_var rfl) ea_nil) fun H1 e1 => ⟨x, d, rfl, hx.ex e1, hs, hp, fun H2 e2 => ?_⟩
  refine c_call (ea_cons (ev_var rfl) ea_nil) fun H3 e3 => ⟨y, e, rfl, hy.ex ((e1.trans e2).trans e3), hs', hp', fun H4 e4 => ?_⟩
  have e04 := ((e1.trans e2).trans e3).trans e4
  refine c_call (ea_cons (ev_var rfl) ea_nil) fun H5 e5 => ⟨x, d, rfl, hx.ex (e04.trans e5), by omega, hp, fun v H6 e6 rv => ?_⟩
  refine c_call (ea_cons (ev_var rfl) ea_nil) fun H7 e7 => ⟨y, e, rfl, hy.ex (((e04.trans e5).trans e6).trans e7), by omega, hp', fun u H8 e8 ru => ?_⟩
  have dd := kD_depth (.inl rfl : Zok []) d 12 hp
  exact ⟨d, e, rv.ex (e7.trans e8), ru, plain_rkd d 12 hp, plain_rkd e 12 hp', by omega, k H8 ((((e04.trans e5).trans e6).trans e7).trans e8)⟩
end
end K0

namespace K0
open PySem L2 Evl
/-! ### k01: values in order, equal ones once -/
/-- one more, if it isn't the last already -/
noncomputable def addU (acc : List K0.D) (d : K0.D) : List K0.D := open Classical in if acc.getLast? = some d then acc else acc ++ [d]
noncomputable def ddM (l : List K0.D) : List K0.D := l.foldl addU []
/-- the ascending list of some values -/
noncomputable def ordD (ds : List K0.D) : List K0.D := ddM (ds.mergeSort leD)
theorem addU_yes {acc : List K0.D} {d : K0.D} (h : acc.getLast? = some d) : addU acc d = acc := by
  unfold addU
  rw [if_pos h]
theorem addU_no {acc : List K0.D} {d : K0.D} (h : acc.getLast? ≠ some d) : addU acc d = acc ++ [d] := by
  unfold addU
  rw [if_neg h]
theorem ddM_snoc (l : List K0.D) (d : K0.D) : ddM (l ++ [d]) = addU (ddM l) d := by
  unfold ddM
  rw [List.foldl_append]
  rfl
theorem addU_mem {acc : List K0.D} {d x : K0.D} (h : x ∈ addU acc d) : x ∈ acc ∨ x = d := by
  by_cases q : acc.getLast? = some d
  · rw [addU_yes q] at h
    exact .inl h
  · rw [addU_no q] at h
    rcases List.mem_append.mp h with h | h
    · exact .inl h
    · exact .inr (List.mem_singleton.mp h)
theorem addU_len (acc : List K0.D) (d : K0.D) : (addU acc d).length ≤ acc.length + 1 := by
  by_cases q : acc.getLast? = some d
  · rw [addU_yes q]
    omega
  · rw [addU_no q, List.length_append]
    exact Nat.le_refl _
theorem fold_addU (l : List K0.D) : ∀ acc : List K0.D, (∀ x, x ∈ l.foldl addU acc → x ∈ acc ∨ x ∈ l) ∧ (l.foldl addU acc).length ≤ acc.length + l.length := by
  induction l with
  | nil => exact fun acc => ⟨fun x h => .inl h, Nat.le_refl _⟩
  | cons d l ih =>
    intro acc
    obtain ⟨a, b⟩ := ih (addU acc d)
    refine ⟨fun x h => ?_, ?_⟩
    · rcases a x h with h | h
      · rcases addU_mem h with h | h
        · exact .inl h
        · exact .inr (by rw [h]; exact List.mem_cons_self ..)
      · exact .inr (List.mem_cons_of_mem _ h)
    · have := addU_len acc d
      show (l.foldl addU (addU acc d)).length ≤ _
      rw [List.length_cons]
      omega
theorem ddM_mem {l : List K0.D} {x : K0.D} (h : x ∈ ddM l) : x ∈ l := by
  rcases (fold_addU l []).1 x h with h | h
  · cases h
  · exact h
theorem ddM_len (l : List K0.D) : (ddM l).length ≤ l.length := by
  have := (fold_addU l []).2
  rw [List.length_nil, Nat.zero_add] at this
  exact this
theorem sort_mem {l : List K0.D} {x : K0.D} : x ∈ l.mergeSort leD ↔ x ∈ l := (List.mergeSort_perm l leD).mem_iff
theorem ordD_mem {l : List K0.D} {x : K0.D} (h : x ∈ ordD l) : x ∈ l := sort_mem.mp (ddM_mem h)
theorem ordD_len (l : List K0.D) : (ordD l).length ≤ l.length := by
  have := ddM_len (l.mergeSort leD)
  rw [List.length_mergeSort] at this
  exact this
theorem atI_last {α : Type} (l : List α) (v : α) : atI (l ++ [v]) (-1) = some v := by
  unfold atI ixN
  rw [if_neg (by decide), List.length_append, List.length_singleton, if_pos (by omega)]
  show (l ++ [v])[((-1 : Int) + ((l.length + 1 : Nat) : Int)).toNat]? = some v
  rw [show ((-1 : Int) + ((l.length + 1 : Nat) : Int)).toNat = l.length by omega, List.getElem?_append_right (Nat.le_refl _), Nat.sub_self]
  rfl
theorem rpAll_snoc {K : PySem.W.Frag} {H : Hp} : ∀ {ys : List V} {acc : List K0.D} {d : K0.D}, RpAll K H ys (acc ++ [d]) → ∃ ys' y, ys = ys' ++ [y] ∧ RpAll K H ys' acc ∧ Rp K H y d
  | _, [], d, .cons r .nil => ⟨[], _, rfl, .nil, r⟩
  | _, e :: acc, d, .cons r t => by
    obtain ⟨ys', y, rfl, a, b⟩ := rpAll_snoc t
    exact ⟨_ :: ys', y, rfl, .cons r a, b⟩
theorem plain_upP : ∀ {n : Nat} {d : K0.D}, d.plain n = true → d.plain (n + 1) = true
  | 0, d, h => by
    cases d with
    | tup ds => cases h
    | _ => exact h
  | n + 1, .tup ds, h => List.all_eq_true.mpr fun d hd => plain_upP (List.all_eq_true.mp (show ds.all (K0.D.plain n) = true from h) d hd)
  | n + 1, .non, h => h
  | n + 1, .bl _, h => h
  | n + 1, .int _, h => h
  | n + 1, .str _, h => h
  | n + 1, .oth, h => h
theorem eqv_iff {d e : K0.D} {n m : Nat} (hd : d.plain n = true) (he : e.plain m = true) : PyData.eqv d.py e.py = true ↔ d = e :=
  ⟨eqv_eq d e n m hd he, fun q => by
    subst q
    exact eqv_self d (plain_facts d n hd).1⟩
theorem eqvK_iff {z : List K0.D} (hz : Zok z) {d e : K0.D} (hd : d.rkd = true) (he : e.rkd = true) : PyData.eqv (kD z d).py (kD z e).py = true ↔ d = e :=
  ⟨eqK d e hd he, fun q => by
    subst q
    exact kD_self hz d hd⟩
mutual
theorem kD_lay {z : List K0.D} (hz : Zok z) : ∀ (d : K0.D) (n : Nat), d.plain n = true → (kD z d).py.canLay0 = true
  | .non, n, _ => by rcases hz with rfl | rfl <;> rfl
  | .int _, n, _ => rfl
  | .str x, n, h => by
    have := (plain_facts (.str x) n h).2.1
    show (true && ((K0.D.str x).py.canLay0 && true)) = true
    rw [this]
    rfl
  | .tup ds, 0, h => by cases h
  | .tup ds, n + 1, h => by
    show (true && (PyData.canLayAll0 (K0.D.pyL (kDL z ds)) && true)) = true
    rw [kDL_lay hz ds n h]
    rfl
  | .bl _, 0, h => by cases h
  | .bl _, _ + 1, h => by cases h
  | .oth, 0, h => by cases h
  | .oth, _ + 1, h => by cases h
theorem kDL_lay {z : List K0.D} (hz : Zok z) : ∀ (ds : List K0.D) (n : Nat), ds.all (K0.D.plain n) = true → PyData.canLayAll0 (K0.D.pyL (kDL z ds)) = true
  | [], n, _ => rfl
  | d :: ds, n, h => by
    have h2 := Bool.and_eq_true_iff.mp (show (K0.D.plain n d && ds.all (K0.D.plain n)) = true from h)
    show ((kD z d).py.canLay0 && PyData.canLayAll0 (K0.D.pyL (kDL z ds))) = true
    rw [kD_lay hz d n h2.1, kDL_lay hz ds n h2.2]
    rfl
end
theorem kD_fine {z : List K0.D} (hz : Zok z) {d : K0.D} (h : d.plain 12 = true) : (kD z d).fine 40 = true := by
  have := kD_depth hz d 12 h
  unfold K0.D.fine
  rw [kD_clean hz d (plain_rkd d 12 h), kD_lay hz d 12 h, decide_eq_true (by omega)]
  rfl
theorem n_cK {σ : L2.St} {H : Hp} {v : V} {Q : VK} (h : Q v H) : tC v σ H Q := h
theorem last_cases (acc : List K0.D) : acc = [] ∨ ∃ pre e, acc = pre ++ [e] := by
  rcases List.eq_nil_or_concat acc with h | ⟨pre, e, h⟩
  · exact .inl h
  · exact .inr ⟨pre, e, by rw [h, List.concat_eq_append]⟩
section
variable {P : Program} {w : World} {K : PySem.W.Frag} {mg : Str → Option Value} {base : Heap} {A : Ad} {D : Fd}
/-- the loop that takes equal ones once -/
theorem q_dd {te : TE} {tt : TT} {tz : TS} {Dn : Ends} {x : V} {l : Addr} {v0 : Option V} {H0 H : Hp} {sd : List K0.D} (e0 : Ex H0 H) (n0 : H0 l = none) (hl : H l = some (.lst [])) (hsd : sd.length ≤ 1000)
    (he : ∀ Q : VK, (∀ L xs H1, H L = none → Ex H H1 → H1 L = some (.lst xs) → RpAll K H1 xs sd → Q (.ref L) H1) → te [some x, some (.ref l), v0] H Q)
    (ht : ∀ acc ys d y H', Ex H0 H' → (∀ e, e ∈ acc → e ∈ sd) → d ∈ sd → H' l = some (.lst ys) → RpAll K H' ys acc → Rp K H' y d → ∃ b : Bool, EvT tt [some x, some (.ref l), some y] H' b ∧ (b = true ↔ acc.getLast? ≠ some d))
    (k : ∀ v2 ys H', Ex H0 H' → H' l = some (.lst ys) → RpAll K H' ys (ddM sd) → tz Dn [some x, some (.ref l), v2] H') :
    tSeq (tFor (iList K te) (gName 2) (tIfS tt (tDrop (tBM K "list" rAppend (tVar 1) (tCons (tVar 2) tNil))) tNext)) tz Dn [some x, some (.ref l), v0] H := by
  refine he _ fun L xs H1 hL e1 hx rx => ?_
  have hne : L ≠ l := fun q => by rw [q, hl] at hL; cases hL
  have hlen := rx.len
  show tSeq (tFor (iList K (tC (.ref L))) (gName 2) _) tz Dn _ H1
  refine q_forLn (ev_c) (sq_of hx) (fun i σ' H' => ∃ v2 ys, σ' = [some x, some (.ref l), v2] ∧ H' l = some (.lst ys) ∧ RpAll K H' ys (ddM (sd.take i)) ∧ H' L = some (.lst xs) ∧ RpAll K H' xs sd ∧ Ex H0 H') (fun H2 e2 => ⟨v0, [], rfl, e2 _ _ (e1 _ _ hl), by rw [List.take_zero]; exact .nil, e2 _ _ hx, rx.ex e2, (e0.trans e1).trans e2⟩)
    (fun i σ' H' _ g => by obtain ⟨_, _, _, _, _, g, _⟩ := g; exact sq_of g) (fun i y σ' H' hi g => ?_) (fun σ' H' g => ?_)
  · obtain ⟨v2, ys, rfl, g1, g2, g3, g4, g5⟩ := g
    obtain ⟨d, hd, ry⟩ := RpAll.get _ _ _ _ g4 hi
    have hm : d ∈ sd := List.mem_of_getElem? hd
    have et : sd.take (i + 1) = sd.take i ++ [d] := by rw [List.take_add_one, hd]; rfl
    obtain ⟨b, hb, hiff⟩ := ht (ddM (sd.take i)) ys d y H' g5 (fun e he => List.mem_of_mem_take (ddM_mem he)) hm g1 g2 ry
    refine s_when hb (fun q H2 e2 => ?_) fun q H2 e2 => ?_
    · have hyl : ys.length ≤ 1000 := by
        have h1 := ddM_len (sd.take i)
        rw [← g2.len, List.length_take] at h1
        omega
      refine s_app (e2 _ _ g1) (ev_var rfl) (ev_var rfl) (by omega) fun H3 e3 => ⟨some y, ys ++ [y], rfl, upd_same, ?_, ?_, ?_, ?_⟩
      · rw [et, ddM_snoc, addU_no (hiff.mp q)]
        exact ((g2.ex (e2.trans e3)).app (.cons (ry.ex (e2.trans e3)) .nil)).exL (ExL.upd (e3 _ _ (e2 _ _ g1)))
      · rw [upd_ne hne]
        exact e3 _ _ (e2 _ _ g3)
      · exact (g4.ex (e2.trans e3)).exL (ExL.upd (e3 _ _ (e2 _ _ g1)))
      · exact Ex.mut (g5.trans (e2.trans e3)) n0
    · refine ⟨some y, ys, rfl, e2 _ _ g1, ?_, e2 _ _ g3, g4.ex e2, g5.trans e2⟩
      have hl2 : (ddM (sd.take i)).getLast? = some d := by
        by_cases z : (ddM (sd.take i)).getLast? = some d
        · exact z
        · rw [hiff.mpr z] at q
          cases q
      rw [et, ddM_snoc, addU_yes hl2]
      exact g2.ex e2
  · obtain ⟨v2, ys, rfl, g1, g2, g3, g4, g5⟩ := g
    rw [hlen, List.take_length] at g2
    exact k v2 ys H' g5 g1 g2
def PL (l : List K0.D) : Prop := ∀ d, d ∈ l → d.plain 12 = true ∧ d.size ≤ 29000
def sp_law_ordered (K : PySem.W.Frag) : Sp := fun vs H Q _ => ∃ a xs ds, vs = [.ref a] ∧ SqL K H a xs ∧ RpAll K H xs ds ∧ PL ds ∧ ds.length ≤ 900 ∧ RetR K (.tup (ordD ds)) H Q
def sp_ordered (K : PySem.W.Frag) : Sp := fun vs H Q _ => ∃ x ds, vs = [x] ∧ Rp K H x (.tup ds) ∧ (K0.D.tup ds).size ≤ 29000 ∧ (K0.D.tup ds).plain 12 = true ∧ ds.length ≤ 900 ∧ RetR K (.tup (ordD ds)) H Q
theorem ok_ordered (T : Txt K mg A D) : FnOk P w K mg base CX0 31 A.ordered D.ordered ["values"] (sp_ordered K) := by
  have G_check_plain := ok_check_plainG (P := P) (w := w) (base := base) T
  have G_sort_key := ok_sort_key (P := P) (w := w) (base := base) T 12
  refine T.F_ordered.ok sc_ordered (fun vs H Q E h => by obtain ⟨x, ds, rfl, _⟩ := h; rfl) (fun cdv A0 outer s H vs Q E hr h => ?_)
  refine ⟨_, (pss_cons (ps_expr (pe_call G_check_plain (hr.mono (by decide)) rfl T.g_check_plain T.F_check_plain.kp T.b_check_plain .nil pass0 (pa_cons (pv 0) pa_nil)))
  (pss_cons (ps_if (pt_not (pt_val (pe_callB call_isi (by rfl) T.b_isinstance (by decide +kernel) (pa_cons (pv 0) (pa_cons (pe_bltn (v := .ty "tuple") (u := .type "tuple") (by rfl) T.b_tuple (by decide +kernel) rfl) pa_nil))))) (pss_one ps_never) pss_nil)
  (pss_cons (ps_set (i := 1) sc_ordered.nd rfl (Or.inl rfl) (pe_lst pa_nil))
  (pss_cons (ps_for PassesOwn.never rfl (pi_list (pe_callBK (cr_sortK (z := []) (.inl rfl) G_sort_key T.b_sort_key (hr.mono (by decide))) (by rfl) T.b_sorted (by decide +kernel) (pa_cons (pv 0) pa_nil) (pk_cons (pe_glob (v := V.ref A.sort_key) rfl T.g_sort_key rfl) pk_nil))) (pg_name (i := 2) sc_ordered.nd rfl (Or.inl rfl)) (pss_one (ps_if (PW.pt (pw_or (pt_not (pt_truth (pv 1) (by intro _; rfl))) (pw_or1 (pt_cmpR (op_neD hr.units) (pe_ix ix_list (pv 1) (pe_un un_neg pe_int) (fun _ _ => rfl)) (pv 2) (nomark _))))) (pss_one (ps_expr (pe_bm PySem.F.plainAttrs_list PySem.F.slot_list_append PySem.F.type_list_append mt_append (pv 1) (pa_cons (pv 2) pa_nil)))) pss_nil)))
  (pss_one (ps_ret (pe_callTy call_tuple_of (by rfl) T.b_tuple (by decide +kernel) (pa_cons (pv 1) pa_nil)))))))), ?_⟩
  obtain ⟨x, ds, rfl, hx, hs, hp, hl, k⟩ := h
  have hpl : ∀ d, d ∈ ds → d.plain 11 = true := fun d hd => List.all_eq_true.mp (show ds.all (K0.D.plain 11) = true from hp) d hd
  have hp12 : ∀ d, d ∈ ds → d.plain 12 = true := fun d hd => plain_upP (hpl d hd)
  have hsz : ∀ d, d ∈ ds → d.size ≤ 29000 := fun d hd => by
    have := size_mem hd
    simp only [K0.D.size] at hs
    omega
  refine c_call (ea_cons (ev_var rfl) ea_nil) fun H1 e1 => ⟨x, .tup ds, rfl, hx.ex e1, hs, hp, fun H2 e2 => ?_⟩
  have e02 := e1.trans e2
  obtain ⟨a, xs, rfl, ha, rr⟩ := (hx.ex e02).tupI
  refine q_when (b := false) (et_is (et_not (et_B (ev_cb (ea_cons (ev_var rfl) (ea_cons ev_c ea_nil)) (rc_tup (.tup ha rr))))) rfl) (fun zz => by cases zz) fun _ H3 e3 => ?_
  refine q_asgL (el_lst ea_nil (by decide)) fun l H4 hlN e4 hl4 => ?_
  refine q_dd (H0 := H3) (sd := ds.mergeSort leD) e4 hlN hl4 (by rw [List.length_mergeSort]; omega) (fun Q q => ?_) (fun acc ys d y H' e' hacc hd hl' ra ry => ?_) (fun v2 ys H' e' hl' ra => ?_)
  · show tCons _ _ _ _ _
    refine n_cons (n_var rfl (n_nil (n_cons (n_cK (n_nil ⟨a, xs, ds, rfl, rfl, .inr (ex_t (e3.trans e4) ha), rr.ex (e3.trans e4), fun d hd => plain_rkd d 12 (hp12 d hd), fun d hd => (by have := kD_depth (.inl rfl : Zok []) d 12 (hp12 d hd); omega), by omega, fun x d H5 Q e5 rx hd qq => ⟨x, d, rfl, rx, by have := hsz d hd; omega, hp12 d hd, fun v H6 e6 r => qq v H6 e6 r⟩, fun p ys H2 hp2 e2 h2 r2 => q p ys H2 hp2 e2 h2 r2⟩)))))
  · have hd12 := hp12 d (sort_mem.mp hd)
    rcases last_cases acc with rfl | ⟨pre, e, rfl⟩
    · cases ra
      exact ⟨true, et_is (et_or (b := false) (et_not (et_truL (ev_var rfl) (sq_of hl'))) (fun z => by cases z)) rfl, ⟨fun _ z => (by cases z), fun _ => rfl⟩⟩
    · obtain ⟨ys', y', rfl, ra', re⟩ := rpAll_snoc ra
      have he12 := hp12 e (sort_mem.mp (hacc e (List.mem_append_right _ (List.mem_singleton.mpr rfl))))
      have hne : (ys' ++ [y']).isEmpty = false := by cases ys' <;> rfl
      refine ⟨!PyData.eqv e.py d.py, et_is (et_or (a := false) (et_is (et_not (et_truL (ev_var rfl) (sq_of hl'))) (by rw [hne]; rfl)) fun _ => et_test (ev_neD (n := 13) (ed_ev (ev_op (ev_var rfl) (ev_un ev_c ru_neg) (rv_ixL (sq_of hl') (atI_last ys' y'))) re) (ed_ev (ev_var rfl) ry) (plain_fine he12) (plain_fine hd12) (by decide))) (by rw [Bool.false_or]), ?_⟩
      rw [List.getLast?_concat, Bool.not_eq_true', ← Bool.not_eq_true, eqv_iff he12 hd12]
      exact ⟨fun h z => h (Option.some.inj z), fun h z => h (by rw [z])⟩
  · refine s_retR (K := K) (ed_tupOf (ev_var rfl) hl' ra) (RetR.ex ((e02.trans e3).trans e') k)
theorem ok_law_ordered (T : Txt K mg A D) : FnOk P w K mg base CX0 31 A.law_ordered D.law_ordered ["values"] (sp_law_ordered K) := by
  have G_law_va_rank := ok_law_va_rank (P := P) (w := w) (base := base) T 12
  refine T.F_law_ordered.ok sc_law_ordered (fun vs H Q E h => by obtain ⟨a, xs, ds, rfl, _⟩ := h; rfl) (fun cdv A0 outer s H vs Q E hr h => ?_)
  refine ⟨_, (pss_cons (ps_set (i := 1) sc_law_ordered.nd rfl (Or.inl rfl) (pe_lst pa_nil))
  (pss_cons (ps_for PassesOwn.never rfl (pi_list (pe_callBK (cr_sortK (z := [.int 0]) (.inr rfl) G_law_va_rank T.b_law_va_rank (hr.mono (by decide))) (by rfl) T.b_sorted (by decide +kernel) (pa_cons (pv 0) pa_nil) (pk_cons (pe_glob (v := V.ref A.law_va_rank) rfl T.g_law_va_rank rfl) pk_nil))) (pg_name (i := 2) sc_law_ordered.nd rfl (Or.inl rfl)) (pss_one (ps_if (PW.pt (pw_or (pt_cmpR (op_eqD hr.units) (pv 1) (pe_lst pa_nil) (nomark _)) (pw_or1 (pt_cmpR (op_neD hr.units) (pe_call G_law_va_rank (hr.mono (by decide)) rfl T.g_law_va_rank T.F_law_va_rank.kp T.b_law_va_rank .nil pass0 (pa_cons (pe_ix ix_list (pv 1) (pe_un un_neg pe_int) (fun _ _ => rfl)) pa_nil)) (pe_call G_law_va_rank (hr.mono (by decide)) rfl T.g_law_va_rank T.F_law_va_rank.kp T.b_law_va_rank .nil pass0 (pa_cons (pv 2) pa_nil)) (nomark _))))) (pss_one (ps_expr (pe_bm PySem.F.plainAttrs_list PySem.F.slot_list_append PySem.F.type_list_append mt_append (pv 1) (pa_cons (pv 2) pa_nil)))) pss_nil)))
  (pss_one (ps_ret (pe_callTy call_tuple_of (by rfl) T.b_tuple (by decide +kernel) (pa_cons (pv 1) pa_nil)))))), ?_⟩
  obtain ⟨a, xs, ds, rfl, ha, rr, hpl, hl, k⟩ := h
  have hp12 : ∀ d, d ∈ ds → d.plain 12 = true := fun d hd => (hpl d hd).1
  have z0 : Zok [K0.D.int 0] := .inr rfl
  have ed_rank : ∀ {te : TE} {σ : L2.St} {H : Hp} {d : K0.D}, EvD K te σ H d → d.plain 12 = true → d.size ≤ 29000 → EvD K (tCall (sp_keyOf K [.int 0] 12) [] E0 (tCons te tNil)) σ H (kD [.int 0] d) := fun h hp hs H1 e Q q =>
    d_raw (n_cons (h H1 e _ fun v H2 e2 rv => n_nil ⟨v, _, rfl, rv, by omega, hp, fun u H3 e3 r => q u H3 (e2.trans e3) r⟩))
  refine q_asgL (el_lst ea_nil (by decide)) fun l H4 hlN e4 hl4 => ?_
  refine q_dd (H0 := H) (sd := ds.mergeSort leD) e4 hlN hl4 (by rw [List.length_mergeSort]; omega) (fun Q q => ?_) (fun acc ys d y H' e' hacc hd hl' ra ry => ?_) (fun v2 ys H' e' hl' ra => ?_)
  · show tCons _ _ _ _ _
    refine n_cons (n_var rfl (n_nil (n_cons (n_cK (n_nil ⟨a, xs, ds, rfl, rfl, .inl (ex_l e4 ha), rr.ex e4, fun d hd => plain_rkd d 12 (hp12 d hd), fun d hd => (by have := kD_depth z0 d 12 (hp12 d hd); omega), by omega, fun x d H5 Q e5 rx hd qq => ⟨x, d, rfl, rx, by have := (hpl d hd).2; omega, hp12 d hd, fun v H6 e6 r => qq v H6 e6 r⟩, fun p ys H2 hp2 e2 h2 r2 => q p ys H2 hp2 e2 h2 r2⟩)))))
  · have hd12 := hp12 d (sort_mem.mp hd)
    have hds := (hpl d (sort_mem.mp hd)).2
    have hf : ∀ e, e ∈ acc → e.fine 13 = true := fun e he => plain_fine (hp12 e (sort_mem.mp (hacc e he)))
    have h1 := G.ev_eqDL (K := K) (n := 13) (es := []) (ta := tVar 1) (σ := [some (.ref a), some (.ref l), some y]) (ev_var rfl) hl' ra (G.edl_lst eda_nil (by decide)) hf (fun d hd => by cases hd) (by decide)
    rcases last_cases acc with rfl | ⟨pre, e, rfl⟩
    · exact ⟨true, et_is (et_or (b := false) (et_test h1) (fun z => by cases z)) rfl, ⟨fun _ z => (by cases z), fun _ => rfl⟩⟩
    · obtain ⟨ys', y', rfl, ra', re⟩ := rpAll_snoc ra
      have hm := sort_mem.mp (hacc e (List.mem_append_right _ (List.mem_singleton.mpr rfl)))
      have he12 := hp12 e hm
      have hes := (hpl e hm).2
      have hne : PyData.eqvAll (K0.D.pyL (pre ++ [e])) (K0.D.pyL []) = false := by cases pre <;> rfl
      rw [hne] at h1
      refine ⟨!PyData.eqv (kD [.int 0] e).py (kD [.int 0] d).py, et_is (et_or (a := false) (et_test h1) fun _ => et_test (ev_neD (n := 40) (ed_rank (ed_ev (ev_op (ev_var rfl) (ev_un ev_c ru_neg) (rv_ixL (sq_of hl') (atI_last ys' y'))) re) he12 hes) (ed_rank (ed_ev (ev_var rfl) ry) hd12 hds) (kD_fine z0 he12) (kD_fine z0 hd12) (by decide))) (by rw [Bool.false_or]), ?_⟩
      rw [List.getLast?_concat, Bool.not_eq_true', ← Bool.not_eq_true, eqvK_iff z0 (plain_rkd e 12 he12) (plain_rkd d 12 hd12)]
      exact ⟨fun h z => h (Option.some.inj z), fun h z => h (by rw [z])⟩
  · refine s_retR (K := K) (ed_tupOf (ev_var rfl) hl' ra) (RetR.ex e' k)
end
end K0

namespace K0
open PySem L2 Evl
/-! ### what draws data -/
def clean1 (d : D) : Prop := d.clean = true
section
variable {K : PySem.W.Frag} {σ : L2.St} {H H' : Hp} {a : Addr} {te : TE} {ta : TA} {M : D → Prop}
def EvX (K : PySem.W.Frag) (a : Addr) (te : TE) (σ : L2.St) (M : D → Prop) : Prop := ∀ H1, DiceAt H1 a → ∀ Q : VK, (∀ v d H2, Bt a H1 H2 → DiceAt H2 a → M d → d.clean = true → Rp K H2 v d → Q v H2) → te σ H1 Q
def EvXA (K : PySem.W.Frag) (a : Addr) (ta : TA) (σ : L2.St) (M : List D → Prop) : Prop := ∀ H1, DiceAt H1 a → ∀ Q : List V → Hp → Prop, (∀ vs ds H2, Bt a H1 H2 → DiceAt H2 a → M ds → D.cleanL ds = true → RpAll K H2 vs ds → Q vs H2) → ta σ H1 Q
theorem Rp.bt {v : V} {d : D} (c : d.clean = true) (h : DiceAt H a) (b : Bt a H H') (r : Rp K H v d) : Rp K H' v d := r.exT c (b.exT h)
theorem RpAll.bt {vs : List V} {ds : List D} (c : D.cleanL ds = true) (h : DiceAt H a) (b : Bt a H H') (r : RpAll K H vs ds) : RpAll K H' vs ds := r.exT c (b.exT h)
theorem x_ev {v : V} {d : D} (h : ∀ H1, Ev te σ H1 v) (r : ∀ H1, Rp K H1 v d) (m : M d) (c : d.clean = true) : EvX K a te σ M := fun H1 d1 Q q => h H1 H1 (Ex.refl _) Q fun H2 e2 => q v d H2 (Bt.of e2) (d1.ex e2) m c (r H2)
theorem x_str {s : Str} (m : M (.str s)) : EvX K a (tC (.str s)) σ M := x_ev (fun _ => ev_c) (fun _ => .str s) m rfl
theorem x_int {i : Int} (m : M (.int i)) : EvX K a (tC (.int i)) σ M := x_ev (fun _ => ev_c) (fun _ => .int i) m rfl
theorem x_neg {i : Int} (m : M (.int (-i))) : EvX K a (tUn (rU fun i => V.int (-i)) (tC (.int i))) σ M := x_ev (fun _ => ev_un ev_c ru_neg) (fun _ => .int _) m rfl
theorem x_non (m : M .non) : EvX K a (tC .non) σ M := x_ev (fun _ => ev_c) (fun _ => .non) m rfl
theorem x_imp {N : D → Prop} (h : EvX K a te σ M) (k : ∀ d, M d → N d) : EvX K a te σ N := fun H1 d1 Q q => h H1 d1 Q fun v d H2 b d2 m c r => q v d H2 b d2 (k d m) c r
theorem xa_nil : EvXA K a tNil σ fun ds => ds = [] := fun H1 d1 Q q => q [] [] H1 Bt.refl d1 rfl rfl .nil
theorem xa_cons {N : List D → Prop} (h : EvX K a te σ M) (r : EvXA K a ta σ N) : EvXA K a (tCons te ta) σ fun ds => ∃ d es, ds = d :: es ∧ M d ∧ N es := fun H1 d1 Q q =>
  h H1 d1 _ fun v d H2 b2 d2 m c hv => r H2 d2 _ fun vs ds H3 b3 d3 n c3 hs => q (v :: vs) (d :: ds) H3 (b2.trans b3) d3 ⟨d, ds, rfl, m, n⟩ (Bool.and_eq_true_iff.mpr ⟨c, c3⟩) (.cons (hv.bt c d2 b3) hs)
/-- all of one kind -/
theorem xl_nil : EvXA K a tNil σ fun ds => (∀ d ∈ ds, M d) ∧ ds.length ≤ 0 := fun H1 d1 Q q => q [] [] H1 Bt.refl d1 ⟨(fun d h => by cases h), Nat.le_refl _⟩ rfl .nil
theorem xl_cons {n : Nat} (h : EvX K a te σ M) (r : EvXA K a ta σ fun ds => (∀ d ∈ ds, M d) ∧ ds.length ≤ n) : EvXA K a (tCons te ta) σ fun ds => (∀ d ∈ ds, M d) ∧ ds.length ≤ n + 1 := fun H1 d1 Q q =>
  h H1 d1 _ fun v d H2 b2 d2 m c hv => r H2 d2 _ fun vs ds H3 b3 d3 n c3 hs => q (v :: vs) (d :: ds) H3 (b2.trans b3) d3 ⟨(fun e he => by
    rcases List.mem_cons.mp he with rfl | he
    · exact m
    · exact n.1 e he), by rw [List.length_cons]; exact Nat.succ_le_succ n.2⟩ (Bool.and_eq_true_iff.mpr ⟨c, c3⟩) (.cons (hv.bt c d2 b3) hs)
theorem x_tup {N : List D → Prop} (h : EvXA K a ta σ N) (k : ∀ ds, N ds → ds.length ≤ 1000 ∧ M (.tup ds)) : EvX K a (tTup ta) σ M := fun H1 d1 Q q =>
  h H1 d1 _ fun vs ds H2 b2 d2 n c hs => ⟨by rw [hs.len]; exact sz_of (by have := (k ds n).1; omega), fun p hp => q (.ref p) (.tup ds) _ (b2.trans (Bt.of (Ex.new hp))) (d2.ex (Ex.new hp)) (k ds n).2 c (.tup (st_of upd_same) (hs.ex (Ex.new hp)))⟩
/-- _law_pick(dice, [..]) -/
theorem x_pick {E : XK} {n : Nat} {tx : TE} (hv : σ[0]? = some (some (.ref a))) (hx : EvX K a tx σ M) (h : EvXA K a ta σ fun ds => (∀ d ∈ ds, M d) ∧ ds.length ≤ n) (hn : n ≤ 1000) : EvX K a (tCall (sp_law_pick K) [] E (tCons (tVar 0) (tCons (tLst (tCons tx ta)) tNil))) σ M := fun H1 d1 Q q => by
  refine d_raw (n_cons (n_var hv (n_cons ?_)))
  refine hx H1 d1 _ fun v d H2 b2 d2 m c hv => h H2 d2 _ fun vs ds H3 b3 d3 n3 c3 hs => ?_
  have rr : RpAll K H3 (v :: vs) (d :: ds) := .cons (hv.bt c d2 b3) hs
  have l3 := hs.len
  refine ⟨sz_of (by rw [List.length_cons]; omega), fun p hp => n_nil ⟨a, p, v :: vs, rfl, d3.ex (Ex.new hp), d3.ne hp, sq_of upd_same, by simp, by rw [List.length_cons]; omega, fun x H4 hx4 b4 d4 => ?_⟩⟩
  obtain ⟨y, hy, ry⟩ := (rr.ex (Ex.new hp)).memI x hx4
  have cy : y.clean = true := by
    rcases List.mem_cons.mp hy with rfl | hy
    · exact c
    · rw [cleanL_all] at c3
      exact List.all_eq_true.mp c3 y hy
  refine q x y H4 (((b2.trans b3).trans (Bt.of (Ex.new hp))).trans b4) d4 ?_ cy (ry.bt cy (d3.ex (Ex.new hp)) b4)
  rcases List.mem_cons.mp hy with rfl | hy
  · exact m
  · exact n3.1 y hy
/-- a def that draws -/
def spDraw (M : D → Prop) (K : PySem.W.Frag) : Sp := fun vs H Q _ => ∃ a, vs = [.ref a] ∧ DiceAt H a ∧ ∀ v d H', Bt a H H' → DiceAt H' a → M d → d.clean = true → Rp K H' v d → Q v H'
theorem spDraw_len {vs : List V} {H : Hp} {Q : VK} {E : XK} (h : spDraw M K vs H Q E) : vs.length = 1 := by
  obtain ⟨a, rfl, _⟩ := h
  rfl
theorem x_draw {E : XK} {i : Nat} (hv : σ[i]? = some (some (.ref a))) : EvX K a (tCall (spDraw M K) [] E (tCons (tVar i) tNil)) σ M := fun H1 d1 Q q => d_raw (n_cons (n_var hv (n_nil ⟨a, rfl, d1, fun v d H2 b d2 m c r => q v d H2 b d2 m c r⟩)))
theorem x_ret {D : Ends} (h : EvX K a te σ M) (hd : DiceAt H a) (k : ∀ v d H2, Bt a H H2 → DiceAt H2 a → M d → d.clean = true → Rp K H2 v d → D.rt v H2) : tRet te D σ H := h H hd _ k
theorem x_asg {D : Ends} {tz : TS} {i : Nat} (h : EvX K a te σ M) (hd : DiceAt H a) (k : ∀ v d H2, Bt a H H2 → DiceAt H2 a → M d → d.clean = true → Rp K H2 v d → tz D (σ.set i (some v)) H2) : tSeq (tAsg te (gName i)) tz D σ H := h H hd _ k
end
/-- [.. for turn in range(n)], each drawn -/
theorem l_draws {K : PySem.W.Frag} {M : D → Prop} {a : Addr} {te : TE} {vs : List Nat} {σ : L2.St} {j n : Nat} {H1 : Hp} {Q : VK} (hd : DiceAt H1 a) (hn : n ≤ 1000) (hw : ∀ x, wipe ((wipe σ vs).set j (some x)) vs = wipe σ vs) (hx : ∀ i : Int, EvX K a te ((wipe σ vs).set j (some (.int i))) M)
    (k : ∀ p xs ds H2, H1 p = none → Bt a H1 H2 → DiceAt H2 a → H2 p = some (.lst xs) → RpAll K H2 xs ds → ds.length = n → (∀ d ∈ ds, M d) → D.cleanL ds = true → Q (.ref p) H2) :
    ∀ D, H1 D = none → ∃ W : Nat → Nat → Hp → Prop, (∃ m, W 0 m (upd H1 D (.lst []))) ∧ ∀ i m H, W i m H →
      ((Itr 0 n).stop i H ∧ Q (.ref D) H) ∨ ((Itr 0 n).go i H ∧ ∃ Nx : Hp → Prop, (∀ H', Nx H' → ∃ m', m' < m ∧ W (i + 1) m' H') ∧ ∀ x H', (Itr 0 n).yld i H x H' → gName j x (wipe σ vs) H' fun σ2 H2 => wipe σ2 vs = wipe σ vs ∧ tYes σ2 H2 fun b H3 =>
        if b = true then te σ2 H3 fun y H4 => ∃ acc, H4 D = some (.lst acc) ∧ acc.length < sizeLine ∧ Nx (upd H4 D (.lst (acc ++ [y]))) else Nx H3) :=
  lc_draws (te := te) (vs := vs) (σ := σ) (j := j) (a := a) (n := n) (R := fun v H => ∃ d, (M d ∧ d.clean = true) ∧ Rp K (hid (some a) H) v d) (Q := Q) (fun v H H' e ⟨d, hm, hr⟩ => ⟨d, hm, hr.exL e⟩) hd hn hw
    (fun i H' _ b d Q q => hx _ H' d Q fun v d' H2 b2 d2 m c r => q v H2 b2 d2 ⟨d', ⟨m, c⟩, r.exT c (exT_hid d2.hidL)⟩) fun Dl xs H' hDl b d h1 h2 h3 => by
    obtain ⟨ds, rr, mm⟩ := rp_those (K := K) (H := H') (xs := xs) fun x hx => by
      obtain ⟨d, hm, hr⟩ := h3 x hx
      exact ⟨d, hm, hr.ex hid_le⟩
    exact k Dl xs ds H' hDl b d h1 rr (by rw [← rr.len, h2]) (fun d hd => (mm d hd).1) (by rw [cleanL_all]; exact List.all_eq_true.mpr fun d hd => (mm d hd).2)
where
  rp_those {K : PySem.W.Frag} {H : Hp} {M : D → Prop} : ∀ {xs : List V}, (∀ x ∈ xs, ∃ d, M d ∧ Rp K H x d) → ∃ ds, RpAll K H xs ds ∧ ∀ d ∈ ds, M d
    | [], _ => ⟨[], .nil, fun d hd => by cases hd⟩
    | x :: xs, h => by
      obtain ⟨d, hm, hr⟩ := h x (List.mem_cons_self ..)
      obtain ⟨ds, r, m⟩ := rp_those (xs := xs) fun y hy => h y (List.mem_cons_of_mem _ hy)
      refine ⟨d :: ds, .cons hr r, fun e he => ?_⟩
      rcases List.mem_cons.mp he with rfl | he
      · exact hm
      · exact m e he
end K0

namespace PySem.SeqAt
open AutoSeq1 (wpAny_loadPart')
open MeetsSeq MeetsSeq2 MeetsSeq3 SeqRoads2
section
variable {prog : Program} {w : World}
/-- != of two tuples whose items are equal, one by one -/
theorem own_tupNe (l b : Addr) (us vs : Array Value) (n m : Nat) (dl db : Option Addr) (sl sb : Array (Option Value)) (hz : us.size = vs.size) : MeetsIn prog w (Builtin.«tuple.__ne__» ⟨[.ref l, .ref b], []⟩) (fun A R s =>
    s.heap.get? l = some { cls := .type "tuple", dict := dl, data := .seq us n, slots := sl } ∧ s.heap.get? b = some { cls := .type "tuple", dict := db, data := .seq vs m, slots := sb } ∧
    (∀ j (h1 : j < us.size) (h2 : j < vs.size), EqIn prog w A.in1 s us[j] vs[j] true) ∧ R (.ok (.ret (.bool false))) s) :=
  .of_wp fun A R s h => by
  obtain ⟨hp, g, d, tk, os⟩ := s
  obtain ⟨hl, hb, he, h⟩ := h
  have sub := AutoSeq1.sub_tuple_tuple
  have lz : (us.toList.zip vs.toList).length = us.size := by simp [hz]
  wp_walk using wpAny_loadPart' hl, wpAny_loadPart' hb, wpAny_forIn_list _ (fun rest c s' => c.1 = none ∧ s' = ⟨hp, g, d, tk, os⟩ ∧ ∃ i, rest = (us.toList.zip vs.toList).drop i) _
  case turn =>
    rintro ⟨y, x⟩ rest c s' ⟨hc, rfl, i, hi⟩
    have lt : i < (us.toList.zip vs.toList).length := by
      rcases Nat.lt_or_ge i (us.toList.zip vs.toList).length with z | z
      · exact z
      · rw [List.drop_of_length_le z] at hi
        cases hi
    have h1 : i < us.size := lz ▸ lt
    have h2 : i < vs.size := hz ▸ h1
    rw [List.drop_eq_getElem_cons lt] at hi
    injection hi with e1 e2
    have ey : y = us[i] := by simpa using congrArg Prod.fst e1
    have ex : x = vs[i] := by simpa using congrArg Prod.snd e1
    subst ey ex
    refine wpAny_bind (he i h1 h2 _ _ ?_)
    wp_walk
    exact ⟨rfl, rfl, i + 1, e2⟩
  case fin =>
    rintro ⟨c1, c2⟩ s' ⟨hc, rfl, _⟩
    have hc' : c1 = none := hc
    subst hc'
    wp_walk
    exact ⟨_, rfl, by simpa [Builtin.Tuple.tupleCompareSizes, bne, hz] using h⟩
  case h => exact ⟨rfl, rfl, 0, rfl⟩
/-- the loop of != over two lists whose items are equal -/
theorem own_lstNeLoop (l b : Addr) (us vs : Array Value) (n m : Nat) (dl db : Option Addr) (sl sb : Array (Option Value)) (hz : us.size = vs.size) : ∀ (k i : Nat), us.size - i = k → MeetsIn prog w (Builtin.«list.__eq__.loop» ⟨[.ref l, .ref b, rawInt i, rawInt 3], []⟩) (fun A R s =>
    s.heap.get? l = some { cls := .type "list", dict := dl, data := .seq us n, slots := sl } ∧ s.heap.get? b = some { cls := .type "list", dict := db, data := .seq vs m, slots := sb } ∧
    (∀ j (h1 : j < us.size) (h2 : j < vs.size), EqIn prog w A.in1 s us[j] vs[j] true) ∧ R (.ok (.ret (.bool false))) s)
  | 0, i, hk => by
    intro A R s h
    obtain ⟨hp, g, d, tk, os⟩ := s
    obtain ⟨hl, hb, he, h⟩ := h
    wp_walk using wpAny_loadPart' hl, wpAny_loadPart' hb
    have o1 : us[((i : Nat) : Int).toNat]? = none := by simp; omega
    have o2 : vs[((i : Nat) : Int).toNat]? = none := by simp; omega
    rw [o1, o2]
    wp_walk using wpAny_loadPart' hl, wpAny_loadPart' hb
    show R (.ok (.ret (.bool (us.size != vs.size)))) _
    rw [hz]
    simpa using h
  | k + 1, i, hk => by
    intro A R s h
    obtain ⟨hp, g, d, tk, os⟩ := s
    obtain ⟨hl, hb, he, h⟩ := h
    wp_walk using wpAny_loadPart' hl, wpAny_loadPart' hb
    have l1 : i < us.size := by omega
    have l2 : i < vs.size := by omega
    have o1 : us[((i : Nat) : Int).toNat]? = some us[i] := by simp [l1]
    have o2 : vs[((i : Nat) : Int).toNat]? = some vs[i] := by simp [l2]
    have next : ((i : Int) + 1) = ((i + 1 : Nat) : Int) := by push_cast; rfl
    rw [o1, o2]
    refine wpAny_bind (he i l1 l2 _ _ ?_)
    wp_walk
    rw [next]
    refine ⟨plainId_quiet plain_eq_loop _, codeAny_builtin entry_eq_loop ?_⟩
    rw [Around.under_plainId plain_eq_loop _]
    exact own_lstNeLoop l b us vs n m dl db sl sb hz k (i + 1) (by omega) A R _ ⟨hl, hb, he, h⟩
theorem own_lstNe (l b : Addr) (us vs : Array Value) (n m : Nat) (dl db : Option Addr) (sl sb : Array (Option Value)) (hz : us.size = vs.size) : MeetsIn prog w (Builtin.«list.__ne__» ⟨[.ref l, .ref b], []⟩) (fun A R s =>
    s.heap.get? l = some { cls := .type "list", dict := dl, data := .seq us n, slots := sl } ∧ s.heap.get? b = some { cls := .type "list", dict := db, data := .seq vs m, slots := sb } ∧
    (∀ j (h1 : j < us.size) (h2 : j < vs.size), EqIn prog w A.in1 s us[j] vs[j] true) ∧ R (.ok (.ret (.bool false))) s) := by
  intro A R s h
  obtain ⟨hp, g, d, tk, os⟩ := s
  obtain ⟨hl, hb, he, h⟩ := h
  have sub := AutoSeq1.sub_list_list
  have nz : ¬ (us.size != vs.size) = true := by simp [hz]
  wp_walk using wpAny_loadPart' hl, wpAny_loadPart' hb
  refine ⟨plainId_quiet plain_eq_loop _, codeAny_builtin entry_eq_loop ?_⟩
  rw [Around.under_plainId plain_eq_loop _]
  exact own_lstNeLoop l b us vs n m dl db sl sb hz _ 0 rfl A R _ ⟨hl, hb, he, h⟩
variable {A : Around} {s : Shared} {l b : Addr} {us vs : Array Value}
theorem own_neT (hl : s.heap.IsTuple l us) (hb : s.heap.IsTuple b vs) (hz : us.size = vs.size) (hu : A.units < cLine) (he : ∀ j (h1 : j < us.size) (h2 : j < vs.size), EqIn prog w A.in1 s us[j] vs[j] true)
    {E Q : Value → Shared → Prop} (h : Q (.bool false) s) : wpAny (model prog w) A (richCompare .NotEq (.ref l) (.ref b)) Q E s := by
  obtain ⟨⟨c1, d1, dt1, s1⟩, o1, k1, n1, e1⟩ := id hl
  obtain ⟨⟨c2, d2, dt2, s2⟩, o2, k2, n2, e2⟩ := id hb
  simp only at k1 e1 k2 e2
  subst k1 e1 k2 e2
  have t1 : s.TypeIs (.ref l) "tuple" := ⟨_, o1, rfl⟩
  have t2 : s.TypeIs (.ref b) "tuple" := ⟨_, o2, rfl⟩
  refine wpAny_richCompare_same_room (op := .NotEq) t1 t2 F.slot_tuple_ne (call_meetsIn F.slot_tuple_ne t1 F.entry_tuple_ne (F.args_tuple_ne_2 _ _) (own_tupNe l b us vs n1 n2 d1 d2 s1 s2 hz) ⟨o1, o2, he, ?_⟩) hu
  exact show Value.bool false ≠ Value.notImplemented ∧ Q (.bool false) s from ⟨(fun x => nomatch x), h⟩
theorem own_neL (hl : s.heap.IsList l us) (hb : s.heap.IsList b vs) (hz : us.size = vs.size) (hu : A.units < cLine) (he : ∀ j (h1 : j < us.size) (h2 : j < vs.size), EqIn prog w A.in1 s us[j] vs[j] true)
    {E Q : Value → Shared → Prop} (h : Q (.bool false) s) : wpAny (model prog w) A (richCompare .NotEq (.ref l) (.ref b)) Q E s := by
  obtain ⟨⟨c1, d1, dt1, s1⟩, o1, k1, n1, e1⟩ := id hl
  obtain ⟨⟨c2, d2, dt2, s2⟩, o2, k2, n2, e2⟩ := id hb
  simp only at k1 e1 k2 e2
  subst k1 e1 k2 e2
  have t1 : s.TypeIs (.ref l) "list" := ⟨_, o1, rfl⟩
  have t2 : s.TypeIs (.ref b) "list" := ⟨_, o2, rfl⟩
  refine wpAny_richCompare_same_room (op := .NotEq) t1 t2 F.slot_list_ne (call_meetsIn F.slot_list_ne t1 F.entry_list_ne (F.args_list_ne_2 _ _) (own_lstNe l b us vs n1 n2 d1 d2 s1 s2 hz) ⟨o1, o2, he, ?_⟩) hu
  exact show Value.bool false ≠ Value.notImplemented ∧ Q (.bool false) s from ⟨(fun x => nomatch x), h⟩
end
end PySem.SeqAt

namespace PySem.SeqAt
open AutoSeq1 (wpAny_loadPart')
open MeetsSeq MeetsSeq2 MeetsSeq3 SeqRoads2
section
variable {prog : Program} {w : World}
/-- a list that is not empty != [] -/
theorem own_lstNe0 (l b : Addr) (us : Array Value) (n m : Nat) (dl db : Option Addr) (sl sb : Array (Option Value)) (hz : us.size ≠ 0) : MeetsIn prog w (Builtin.«list.__ne__» ⟨[.ref l, .ref b], []⟩) (fun A R s =>
    s.heap.get? l = some { cls := .type "list", dict := dl, data := .seq us n, slots := sl } ∧ s.heap.get? b = some { cls := .type "list", dict := db, data := .seq #[] m, slots := sb } ∧ R (.ok (.ret (.bool true))) s) := by
  intro A R s h
  obtain ⟨hp, g, d, tk, os⟩ := s
  obtain ⟨hl, hb, h⟩ := h
  have sub := AutoSeq1.sub_list_list
  have nz : (us.size != (#[] : Array Value).size) = true := by simpa using hz
  wp_walk using wpAny_loadPart' hl, wpAny_loadPart' hb
  all_goals first | exact h | (simp at nz; done) | skip
variable {A : Around} {s : Shared} {l b : Addr} {us : Array Value}
theorem own_neL0 (hl : s.heap.IsList l us) (hb : s.heap.IsList b #[]) (hz : us.size ≠ 0) (hu : A.units < cLine) {E Q : Value → Shared → Prop} (h : Q (.bool true) s) : wpAny (model prog w) A (richCompare .NotEq (.ref l) (.ref b)) Q E s := by
  obtain ⟨⟨c1, d1, dt1, z1⟩, o1, k1, n1, e1⟩ := id hl
  obtain ⟨⟨c2, d2, dt2, z2⟩, o2, k2, n2, e2⟩ := id hb
  simp only at k1 e1 k2 e2
  subst k1 e1 k2 e2
  have t1 : s.TypeIs (.ref l) "list" := ⟨_, o1, rfl⟩
  have t2 : s.TypeIs (.ref b) "list" := ⟨_, o2, rfl⟩
  refine wpAny_richCompare_same_room (op := .NotEq) t1 t2 F.slot_list_ne (call_meetsIn F.slot_list_ne t1 F.entry_list_ne (F.args_list_ne_2 _ _) (own_lstNe0 l b us n1 n2 d1 d2 z1 z2 hz) ⟨o1, o2, ?_⟩) hu
  exact show Value.bool true ≠ Value.notImplemented ∧ Q (.bool true) s from ⟨(fun x => nomatch x), h⟩
end
end PySem.SeqAt
namespace K0
open PySem PySem.Spec PyProof.Rows L2 Evl
section
variable {X : Cx}
/-- != of a list and [] -/
def rNeL0 (K : PySem.W.Frag) : R2 := fun x y H Q => ∃ a b xs, x = V.ref a ∧ y = V.ref b ∧ SqL K H a xs ∧ SqL K H b [] ∧ Q (.bl (!xs.isEmpty)) H
theorem op_neL0 (hu : X.A.units + 64 < cLine) : OpR X (compareOp .NotEq) (rNeL0 X.K) := by
  intro pins s σ H x y v u Q I rx ry h
  obtain ⟨a, b, xs, rfl, rfl, ha, hb, q⟩ := h
  cases rx
  cases ry
  obtain ⟨us, r1, p1, _⟩ := I.list ha
  obtain ⟨ws, r2, p2, _⟩ := I.list hb
  cases r2
  cases xs with
  | nil =>
    cases r1
    exact SeqAt.own_neL p1.isList p2.isList rfl (by omega) (fun j g1 _ => absurd g1 (by simp)) ⟨.bl false, H, I, rfl, q⟩
  | cons y ys =>
    refine SeqAt.own_neL0 p1.isList p2.isList ?_ (by omega) ⟨.bl true, H, I, rfl, q⟩
    cases r1 with
    | cons r1 r2 => simp
end
end K0

namespace K0
open PySem PySem.Spec PyProof.Rows L2 Evl
/-! ### promises of defs where no repr is under way; the law's end for such -/
structure FnG (P : Program) (w : World) (K : PySem.W.Frag) (mg : Str → Option Value) (base : Heap) (CXr : CXT) (k : Nat) (f : Addr) (fd : FuncData) (ps : List Str) (sp : Sp) : Prop where
  len : ∀ vs H Q E, sp vs H Q E → vs.length = ps.length
  run : ∀ (A : Around) (out : List Env) (t0 : Shared) (H : Hp) (ar : Args) (ws : List Value) (vs : List V) (Q : VK) (E : XK), A.guards = some [] → Room k A → Env0 P w K mg base A out t0 H → BindsTo t0 fd ar (ps.zip ws) → Vals vs ws → sp vs H Q E → codeAny (model P w) A (.call (.ref f) ar) (CR CXr out P w H t0 Q E) t0
section
variable {P : Program} {w : World} {K : PySem.W.Frag} {mg : Str → Option Value} {base : Heap} {CXr : CXT} {k : Nat} {f : Addr} {fd : FuncData} {ps : List Str} {sp : Sp}
theorem FnG.of (F : FnOk P w K mg base CXr k f fd ps sp) : FnG P w K mg base CXr k f fd ps sp := ⟨F.len, fun A out t0 H ar ws vs Q E _ => F.run A out t0 H ar ws vs Q E⟩
/-- by its body; the code object may be known -/
theorem okG {x qual : Str} {st : Stmt} {N : List Str} (F : Fun K x qual st f fd) (S : FnScope N ps (defScope st)) (len : ∀ vs H Q E, sp vs H Q E → vs.length = ps.length)
    (body : ∀ (cdv : Value) (A : Around) (out : List Env) (t0 : Shared) (H : Hp) (vs : List V) (Q : VK) (E : XK), fd.code = cdv → A.guards = some [] → Room k (A.deeper (envOfC qual (defScope st) t0.heap.objs.size f cdv)) → sp vs H Q E →
      ∃ t, PSs (cxOf CXr P w K mg base N qual (defScope st) f cdv A out t0 H E) (defBody st) t ∧ t { nx := fun _ H' => Q .non H', rt := Q } (start N vs) H) : FnG P w K mg base CXr (k + 1) f fd ps sp := by
  obtain ⟨oc, od, kV, doc, pm, an, cdv, ct, osl, rfl, lk, hcd⟩ := F.ex
  refine ⟨len, fun A out t0 H ar ws vs Q E gd rm env bnd rel prm => ?_⟩
  have kin : K.In t0.heap := env.mod.kin.keeps fun b u ee => (env.bs b u ee).1
  have pk : ∀ y ∈ ps.zip ws, (defScope st).names.lookup y.1 = some .local ∨ ((defScope st).names.lookup y.1 = some .cell ∧ ((cellsFrom (t0.heap.objs.size + 1) (defScope st).names []).lookup y.1).isSome = true) := fun ⟨n, v⟩ hy =>
    (S.par n (List.of_mem_zip hy).1).imp (fun q => q) fun q => ⟨q, PySem.W.cellsFrom_some _ _ _ (.inl q)⟩
  refine codeAny_call_function rm.depth (kin _ _ lk) rfl S.co S.gen rfl (PySem.W.codeRec_of kin hcd) (bnd _ _ _ _ ?_)
  refine wpAny_newFunctionEnv_cells S.kind pk fun ev he t1 xx => ?_
  subst he
  refine ⟨(env.mod.nolimit.keeps fun b u ee => (env.bs b u ee).1).keeps xx.toInCall.keep, codeAny_func ?_⟩
  obtain ⟨t, tt, tq⟩ := body cdv A out t0 H vs Q E rfl gd (rm.deeper _) prm
  refine wpAny_mono (tt.run [] t1 (start N vs) H _ (inv_start S rm.hd env (len _ _ _ _ prm) rel xx) tq) (fun fl t2 z => ?_) fun _ _ z => z
  cases fl with
  | ret u => exact let ⟨v, _, H', J, rv, q⟩ := z; ⟨v, H', J.os, J.bare, J.base, J.hok, rv, q⟩
  | next => exact let ⟨_, H', J, q⟩ := z; ⟨.non, H', J.os, J.bare, J.base, J.hok, rfl, q⟩
  | brk => exact let ⟨_, _, _, q⟩ := z; q.elim
  | cont => exact let ⟨_, _, _, q⟩ := z; q.elim
end
section
variable {X : Cx} {CXr : CXT} {k : Nat} {f : Addr} {fd : FuncData} {ps : List Str} {sp : Sp} {E : XK} {x : Str} {p pos : Pos} {e : Expr} {es : List Expr} {t : TA}
/-- f(e, ..) of such a def -/
theorem pe_callG (F : FnG X.prog X.w X.K X.mg X.base CXr k f fd ps sp) (gd : X.A.guards = some []) (rm : Room k X.A) (gl : Gl X x) (at_ : X.mg x = some (.ref f)) (kp : PySem.W.keepIn X.K (.ref f) = true) (bnd : Binds X.K fd ps []) (px : Passes CXr X E) (ha : PA X (e :: es) t)
    (nd : (x == ("__debug__" : Str)) = false := by decide) (h1 : starEach (e :: es) X.env = (false, eval e X.env) :: starEach es X.env := by rfl) (h2 : (backTo pos (starEach es X.env)).any (·.1) = false := by rfl) :
    PE X (.Call (.Name x p) (e :: es) [] pos) (tCall sp [] E t) := ⟨fun pins s σ H Q I h => by
  refine wpAny_Call_Name_kw (ld_glob I gl at_ ?_ nd)
  refine PySem.W.callWith_K (h₀ := X.base) I.ok.mod.kin kp (thn (ha.run pos pins s σ H _ I h) fun us s1 z => ?_) h1 h2
  obtain ⟨vs, H1, I1, rel, q⟩ := z
  rw [List.append_nil] at q
  have ln : us.length = ps.length := by rw [← rel.length]; exact F.len _ _ _ _ q
  refine ⟨I1.kIn, wpAny_call (codeAny_mono (F.run X.A X.stack s1 H1 ⟨us, []⟩ us vs Q E gd rm I1.env0 (by have := bnd s1 us I1.kIn (by rw [List.append_nil]; exact ln); rw [List.append_nil] at this; exact this) rel q) fun r s2 zz => ?_)⟩
  cases r with
  | error u => exact px pins σ H1 s1 u s2 I1 zz
  | ok fl =>
    cases fl with
    | ret u => exact I1.after zz
    | _ => exact False.elim zz⟩
end
/-! ### the law's call -/
/-- what is told of the heap where the law is called: the tables, and the script (where it is not an object of the written part) -/
def lawH (K : PySem.W.Frag) (T : List Addr) (a : Addr) (so : Obj) (ns : List Int) : Hp := fun b => if b ∈ T then some (.tbl #[]) else if b = a ∧ K.lookup a = none then some (.frz so (.lst (ns.map V.int))) else none
section
variable {K : PySem.W.Frag} {T : List Addr} {a b : Addr} {so : Obj} {ns : List Int} {u : HO}
theorem lawH_tab (h : b ∈ T) : lawH K T a so ns b = some (.tbl #[]) := if_pos h
theorem lawH_cases (h : lawH K T a so ns b = some u) : (b ∈ T ∧ u = .tbl #[]) ∨ (b ∉ T ∧ b = a ∧ K.lookup a = none ∧ u = .frz so (.lst (ns.map V.int))) := by
  unfold lawH at h
  split at h
  · rename_i m
    exact .inl ⟨m, (Option.some.inj h).symm⟩
  · rename_i m
    split at h
    · rename_i m2
      exact .inr ⟨m, m2.1, m2.2, (Option.some.inj h).symm⟩
    · cases h
end
theorem law_callG {P : Program} {w : World} {K : PySem.W.Frag} {mg mb : Str → Option Value} {CXr : CXT} {k : Nat} {fa a : Addr} {cs : List (Addr × Addr)} {fd : FuncData} {x : Str} {sp : Sp} {t0 : Shared} {vs : List Value} {ns : List Int}
    (kin : K.In t0.heap) (gns : t0.heap.Ns mainGlobals mg) (bns : t0.heap.Ns builtinsNs mb) (bb : ∀ x : Str, x ≠ "__name__" → mb x = bootBuiltins x) (lim : t0.heap.NoLimit) (gen0 : t0.gens = #[])
    (tabs : ∀ p ∈ cs, t0.heap.get? p.2 = some { cls := .none, data := .fields #[] }) (tabN : ∀ p ∈ cs, K.lookup p.2 = none) (heads : ∀ p ∈ cs, PySem.W.CodeHd t0.heap p.1 p.2)
    (main : ∃ (m : Addr) (o : Obj), mg "__builtins__" = some (.ref m) ∧ m ≠ builtinsNs ∧ t0.heap.get? m = some o ∧ o.cls = .type "module" ∧ o.dict = some builtinsNs ∧ o.data = .plain)
    (scr : t0.heap.get? a = some { cls := .type "list", data := .seq vs.toArray }) (scrI : IntsAre vs ns) (few : ns.length ≤ sizeLine) (rm : Room k callerA)
    (F : ∀ base : Heap, K.In base → base.Ns mainGlobals mg → (∀ p ∈ cs, LamX.TabB base mg p.1 p.2) → FnG P w K mg base CXr k fa fd [x] sp) (bnd : ∀ (s : Shared) (u : Value), BindsTo s fd ⟨[u], []⟩ [(x, u)])
    (prm : ∀ H : Hp, (∀ p ∈ cs, H p.2 = some (.tbl #[])) → SqL K H a (ns.map V.int) → sp [.ref a] H (fun v _ => v = .bl true) fun _ _ _ => False)
    (noX : ∀ H e s', CXr [] H t0 (fun _ _ _ => False) e s' → False) :
    codeAny (model P w) callerA (.call (.ref fa) ⟨[.ref a], []⟩) (fun rr t1 => rr = .ok (.ret (.bool true)) ∧ OldK t0.heap t1.heap ∧ t1.os = t0.os ∧ AllBare t1.gens) t0 := by
  have tab_ : ∀ {b : Addr}, b ∈ cs.map (·.2) → t0.heap.get? b = some { cls := .none, data := .fields #[] } := fun hb => by
    obtain ⟨p, hp, rfl⟩ := List.mem_map.mp hb
    exact tabs p hp
  have in_ : ∀ p ∈ cs, p.2 ∈ cs.map (·.2) := fun p hp => List.mem_map.mpr ⟨p, hp, rfl⟩
  have aOut : a ∉ cs.map (·.2) := fun z => by
    have y := (tab_ z).symm.trans scr
    have y2 : Data.fields #[] = Data.seq vs.toArray _ := congrArg Obj.data (Option.some.inj y)
    cases y2
  obtain ⟨so, eso⟩ : ∃ so : Obj, so = { cls := .type "list", data := .seq vs.toArray } := ⟨_, rfl⟩
  rw [← eso] at scr
  generalize eH : lawH K (cs.map (·.2)) a so ns = H
  have rel := vals_ints scrI
  have lnV := scrI.length
  -- what is told stands in the heap, and is no part of what is written
  have what : ∀ {b : Addr} {u : HO}, H b = some u → K.lookup b = none ∧ ∃ o : Obj, t0.heap.get? b = some o ∧ ((∃ q n, o.data = .seq q n) ∨ o.data = .fields #[]) := fun {b u} h => by
    rw [← eH] at h
    rcases lawH_cases h with ⟨m, _⟩ | ⟨_, rfl, kn, _⟩
    · obtain ⟨p, hp, rfl⟩ := List.mem_map.mp m
      exact ⟨tabN p hp, _, tabs p hp, .inr rfl⟩
    · exact ⟨kn, so, scr, .inl ⟨_, _, by rw [eso]⟩⟩
  have free : ∀ {b : Addr} {o : Obj}, t0.heap.get? b = some o → (∀ q n, o.data ≠ .seq q n) → o.data ≠ .fields #[] → H b = none := fun {b o} e n1 n2 => by
    cases q : H b with
    | none => rfl
    | some u =>
      obtain ⟨_, o', e', d⟩ := what q
      cases e.symm.trans e'
      rcases d with ⟨q', n', d⟩ | d
      · exact absurd d (n1 _ _)
      · exact absurd d n2
  have low : ∀ {b : Addr} {o : Obj}, t0.heap.get? b = some o → H b = none → (hidT t0.heap H).get? b = some o := fun e n => hidT_get e n
  have lowN : ∀ {b : Addr} {m : Str → Option Value}, t0.heap.Ns b m → (hidT t0.heap H).Ns b m := fun ⟨o, es, ep, e, d, r⟩ =>
    ⟨o, es, ep, low e (free e (fun q n z => by rw [d] at z; cases z) fun z => by rw [d] at z; cases z), d, r⟩
  have lowK : K.In (hidT t0.heap H) := fun b o e => low (kin b o e) (by
    cases q : H b with
    | none => rfl
    | some u => exact absurd e (by rw [(what q).1]; simp))
  have modl : L2.Mod K mg (hidT t0.heap H) := ⟨lowK, lowN gns, ⟨mb, lowN bns, bb⟩, let ⟨mc, l1, l2⟩ := lim; ⟨mc, lowN l1, l2⟩⟩
  have hTabs : ∀ p ∈ cs, H p.2 = some (.tbl #[]) := fun p hp => by rw [← eH]; exact lawH_tab (in_ p hp)
  have okH : HOk P w H t0.heap := fun b u h => by
    rw [← eH] at h
    rcases lawH_cases h with ⟨m, rfl⟩ | ⟨_, rfl, _, rfl⟩
    · exact tab_ m
    · exact ⟨scr, by rw [List.length_map]; exact few, vs, _, rel, by rw [scr, eso]⟩
  have seqA : SqL K H a (ns.map V.int) := by
    cases kl : K.lookup a with
    | none => exact .inl (.inr ⟨so, by rw [← eH]; unfold lawH; rw [if_neg aOut, if_pos ⟨rfl, kl⟩]⟩)
    | some o =>
      have y := scr.symm.trans (kin a o kl)
      cases y
      exact .inr ⟨_, vs.toArray, _, kl, by rw [eso], by rw [eso], by rw [eso], by rw [List.size_toArray, lnV]; exact few, by simpa using rel⟩
  have lowT : ∀ p ∈ cs, LamX.TabB (hidT t0.heap H) mg p.1 p.2 := fun p hp => by
    refine ⟨?_, ?_, fun z => ?_⟩
    · obtain ⟨o, us, file, tf, flags, tg, inF, text, tt, c1, c2, c3, c4, c5, c6, c7, c8, c9, cn⟩ := heads p hp
      exact ⟨o, us, file, tf, flags, tg, inF, text, tt, low c1 (free c1 (fun q n y => by rw [c3] at y; cases y) fun y => by rw [c3] at y; cases y; simp at c4), c2, c3, c4, c5, c6, c7, c8, c9, cn⟩
    · obtain ⟨m, o, m1, m2, m3, m4, m5, m6⟩ := main
      refine ⟨m, o, m1, m2, fun y => ?_, fun y => ?_, low m3 (free m3 (fun q n y => by rw [m6] at y; cases y) fun y => by rw [m6] at y; cases y), m4, m5, m6⟩
      · obtain ⟨o', es, ep, e', d', _⟩ := gns
        rw [y, e'] at m3
        cases m3
        rw [d'] at m6
        cases m6
      · rw [y, tabs p hp] at m3
        cases m3
        cases m6
    · obtain ⟨o', es, ep, e', d', _⟩ := gns
      rw [z, tabs p hp] at e'
      cases e'
      cases d'
  have env : Env0 P w K mg (hidT t0.heap H) callerA [] t0 H := ⟨rfl, modl, fun b o e => of_hidT e, Nat.le_of_eq (hidT_size _ _), trivial, fun b hb => (List.not_mem_nil hb).elim, okH, .of_eq gen0⟩
  refine codeAny_mono ((F _ lowK (lowN gns) lowT).run callerA [] t0 H ⟨[.ref a], []⟩ [.ref a] [.ref a] _ _ rfl rm env (bnd t0 (.ref a)) (.cons rfl .nil) (prm H hTabs seqA)) fun rr t1 z => ?_
  cases rr with
  | error u => exact (noX H u t1 z).elim
  | ok fl =>
    cases fl with
    | ret u =>
      obtain ⟨v, G, os1, bare, un, ok1, rv, qv⟩ := z
      obtain rfl : v = .bl true := qv
      obtain rfl : u = Value.bool true := rv
      have kept : ∀ b o, b ∉ cs.map (·.2) → t0.heap.get? b = some o → t1.heap.get? b = some o := fun b o nb e => by
        cases q : H b with
        | none => exact un.keep b o e q (fun y => List.not_mem_nil y) (fun y => List.not_mem_nil y)
        | some u =>
          have q2 := q
          rw [← eH] at q2
          rcases lawH_cases q2 with ⟨m, _⟩ | ⟨_, rfl, _, rfl⟩
          · exact absurd m nb
          · obtain ⟨e1, _⟩ := ok1 b _ (un.frzs b so _ q)
            cases e.symm.trans scr
            exact e1
      refine ⟨rfl, ⟨fun b o e => ?_, fun b o e => ?_⟩, os1, bare⟩
      all_goals
        by_cases m : b ∈ cs.map (·.2)
      · obtain ⟨p, hp, rfl⟩ := List.mem_map.mp m
        obtain ⟨more, zz⟩ := un.tbls p.2 #[] (hTabs p hp)
        cases (tabs p hp).symm.trans e
        exact .inr (.inl ⟨((heads p hp).tab (tabs p hp)).isCodeTable, rfl, #[], more, rfl, by rw [Array.empty_append]; have := ok1 p.2 _ zz; rw [Array.empty_append] at this; exact this⟩)
      · exact .inl (kept b o m e)
      · obtain ⟨p, hp, rfl⟩ := List.mem_map.mp m
        obtain ⟨more, zz⟩ := un.tbls p.2 #[] (hTabs p hp)
        exact ⟨_, ok1 p.2 _ zz⟩
      · exact ⟨o, kept b o m e⟩
    | _ => exact False.elim z
/-- what a law's def keeps, where no repr is under way -/
def LawG (l : PySem.W.OpenLaw) (w : World) (K : PySem.W.Frag) (CXr : CXT) (k n : Nat) (x : Str) (mg : Str → Option Value) (fa : Addr) (h : Heap) : Prop :=
  ∃ (fd : FuncData) (cs : List (Addr × Addr)) (sp : Sp), (∀ p ∈ cs, h.get? p.2 = some { cls := .none, data := .fields #[] }) ∧ (∀ p ∈ cs, K.lookup p.2 = none) ∧ (∀ p ∈ cs, PySem.W.CodeHd h p.1 p.2) ∧ (∀ (s : Shared) (u : Value), BindsTo s fd ⟨[u], []⟩ [(x, u)]) ∧
    (∀ (H : Hp) (a : Addr) (ns : List Int), ns.length ≤ n → (∀ p ∈ cs, H p.2 = some (.tbl #[])) → SqL K H a (ns.map V.int) → sp [.ref a] H (fun v _ => v = .bl true) fun _ _ _ => False) ∧
    ∀ base : Heap, K.In base → base.Ns mainGlobals mg → (∀ p ∈ cs, LamX.TabB base mg p.1 p.2) → FnG l.prog w K mg base CXr k fa fd [x] sp
theorem walk_ofG {l : PySem.W.OpenLaw} {n k : Nat} {q : Program} {loose : List Str} {XP : (Str → Option Value) → Heap → Prop} {YP : World → Heap → Prop} {d : DefRec} {K : Params → PySem.W.Frag} {CXr : World → CXT} {x : Str}
    (most : l.most = some n) (few : n ≤ sizeLine) (nodef : d.params.defaults = []) (rm : Room k callerA) (kin : ∀ (w : World) (h : Heap), YP w h → (K w.params).In h)
    (F : ∀ (w : World) (mg : Str → Option Value) (fa : Addr) (h : Heap), YP w h → (K w.params).In h → h.Ns mainGlobals mg → mg d.name = some (.ref fa) → LawG l w (K w.params) (CXr w) k n x mg fa h)
    (noX : ∀ (w : World) (H : Hp) (s : Shared) (e : Value) (s' : Shared), CXr w [] H s (fun _ _ _ => False) e s' → False) :
    PySem.W.WalkO q loose XP YP l.row.toRowW d [] (fun f vs => PySem.call f vs) :=
  Att.attach_call most nodef fun w t0 t1 mg mb fa o pm cd doc a vs ns G Y ho hd hcd fnd hobj scrI hlen gen0 => by
    obtain ⟨fd, cs, sp, c1, c2, c3, bnd, prm, hF⟩ := F w mg fa _ Y (kin w _ Y) G.T.g fnd
    exact law_callG (kin w _ Y) G.T.g G.T.b G.T.builtins G.T.nolimit gen0 c1 c2 c3 G.T.bmain hobj scrI (Nat.le_trans hlen few) rm hF bnd (fun H hH hS => prm H a ns hlen hH hS) fun H e s' => noX w H t1 e s'
end K0

namespace K0
open PySem PySem.Spec PyProof.Rows L2 Evl
/-! ### items in a drawn sequence (as in T3) -/
section
variable {K : PySem.W.Frag} {σ : L2.St} {H H' : Hp} {ta tb te tx : TE} {tr : TA} {t u : TT} {x y z v : V} {Q : VK} {D : Ends}
theorem n_bm {T : String} {r : V → List V → Hp → VK → Prop} (h : ta σ H fun x H1 => tyV K T x H1 ∧ tr σ H1 fun xs H2 => r x xs H2 Q) : tBM K T r ta tr σ H Q := h
theorem n_drop (h : te σ H fun _ H1 => D.nx σ H1) : tDrop te D σ H := h
theorem n_sl {r : V → Option Int → Option Int → Hp → VK → Prop} {tl th : TO} (h : te σ H fun x H1 => tl σ H1 fun l H2 => th σ H2 fun u H3 => r x l u H3 Q) : tSl r te tl th σ H Q := h
theorem n_c (h : Q v H) : tC v σ H Q := h
theorem n_noPart {k : Option Int → Hp → Prop} (h : k none H) : tNoPart σ H k := h
theorem n_part {k : Option Int → Hp → Prop} (h : te σ H fun x H1 => ∃ i, x = .int i ∧ k (some i) H1) : tPart te σ H k := h
theorem ev_neNil {a : Addr} {xs : List V} (h : Ev ta σ H (.ref a)) (hx : SqL K H a xs) (hb : EvL tb σ H []) : Ev (tOp (rNeL0 K) ta tb) σ H (.bl (!xs.isEmpty)) :=
  ev_opL h hb fun q H1 h1 e H2 e2 Q k => ⟨a, q, xs, rfl, rfl, ex_l (e.trans e2) hx, sq_of (e2 _ _ h1), k H2 (Ex.refl _)⟩
theorem Bt.newU {a l : Addr} {o : HO} (b : Bt a H H') (hl : H l = none) : Bt a H (L2.upd H' l o) := fun c v h => by
  have h0 := hid_le _ _ h
  have hc : c ≠ l := fun z => by rw [z, hl] at h0; cases h0
  have h1 := b c v h
  unfold hid at h1 ⊢
  split at h1
  · cases h1
  · rename_i n
    rw [if_neg n, upd_ne hc]
    exact h1
theorem DiceAt.updN {a l : Addr} {o : HO} (h : DiceAt H a) (n : a ≠ l) : DiceAt (L2.upd H l o) a := by
  obtain ⟨x, y, z, h⟩ := h
  exact ⟨x, y, z, by rw [upd_ne n]; exact h⟩
end
theorem erase_perm {α : Type} : ∀ (l : List α) (i : Nat) (y : α), l[i]? = some y → (y :: l.eraseIdx i).Perm l
  | [], _, _, h => by simp at h
  | a :: l, 0, y, h => by
    cases h
    exact List.Perm.refl _
  | a :: l, i + 1, y, h => by
    have ih := erase_perm l i y (by simpa using h)
    rw [List.eraseIdx_cons_succ]
    exact (List.Perm.swap a y _).trans (ih.cons a)
theorem seqIx {r : Int} {n : Nat} (h0 : 0 ≤ r) (h1 : r < (n : Int)) : seqIndex? r n = some r.toNat := by
  unfold seqIndex?
  have e : (if r < 0 then r + (n : Int) else r) = r := if_neg (by omega)
  simp only [e, decide_eq_true h0, decide_eq_true h1, Bool.and_self, if_true]
section
variable {P : Program} {w : World} {K : PySem.W.Frag} {mg : Str → Option Value} {base : Heap} {A : Ad} {D : Fd}
def sp_law_mixed (K : PySem.W.Frag) : Sp := fun vs H Q _ => ∃ (a p : Addr) (xs : List V), vs = [.ref a, .ref p] ∧ DiceAt H a ∧ p ≠ a ∧ (SqL K H p xs ∨ SqT K H p xs) ∧ xs.length ≤ 1000 ∧
  ∀ q ys H', H q = none → Bt a H H' → DiceAt H' a → H' q = some (.lst ys) → ys.Perm xs → Q (.ref q) H'
theorem len_law_mixed {vs : List V} {H : Hp} {Q : VK} {E : XK} (h : sp_law_mixed K vs H Q E) : vs.length = 2 := by
  obtain ⟨a, p, xs, rfl, _⟩ := h
  rfl
def MixW (a p l f : Addr) (xs : List V) (H : Hp) (m : Nat) (σ : L2.St) (H' : Hp) : Prop :=
  σ = [some (.ref a), some (.ref p), some (.ref l), some (.ref f)] ∧ ∃ ys zs, H' l = some (.lst ys) ∧ H' f = some (.lst zs) ∧ (zs ++ ys).Perm xs ∧ m = ys.length ∧ Bt a H H' ∧ DiceAt H' a
theorem ok_law_mixed (T : Txt K mg A D) : FnOk P w K mg base CX0 2 A.law_mixed D.law_mixed ["dice", "items"] (sp_law_mixed K) := by
  have G_law_roll : FnOk P w K mg base CX0 1 A.law_roll D.law_roll ["dice", "most"] (sp_law_roll K) := ok_law_roll T
  refine T.F_law_mixed.ok sc_law_mixed (fun vs H Q E h => len_law_mixed h) (fun cdv A0 outer s H vs Q E hr h => ?_)
  refine ⟨_, (pss_cons (ps_par (i := 2) (j := 3) (by rfl) sc_law_mixed.nd rfl rfl (by decide) rfl rfl (pa_cons (pe_callTy call_list_of (by rfl) T.b_list (by decide +kernel) (pa_cons (pv 1) pa_nil)) (pa_cons (pe_lst pa_nil) pa_nil)) (by rfl))
  (pss_cons (ps_while PassesOwn.never (pt_cmpR (op_neL0 hr.units) (pv 2) (pe_lst pa_nil) (nomark _)) (pss_one (ps_expr (pe_bm PySem.F.plainAttrs_list PySem.F.slot_list_append PySem.F.type_list_append mt_append (pv 3) (pa_cons (pe_bm PySem.F.plainAttrs_list PySem.F.slot_list_pop PySem.F.type_list_pop mt_popAt (pv 2) (pa_cons (pe_call G_law_roll (hr.mono (by decide)) rfl T.g_law_roll T.F_law_roll.kp T.b_law_roll .nil pass0 (pa_cons (pv 0) (pa_cons (pe_callB call_len (by rfl) T.b_len (by decide +kernel) (pa_cons (pv 2) pa_nil)) pa_nil))) pa_nil)) pa_nil)))))
  (pss_one (ps_ret (pv 3))))), ?_⟩
  obtain ⟨a, p, xs, rfl, hd, hpa, hp, hl, k⟩ := h
  refine q_par (n_cons (n_cb (n_cons (n_var rfl (n_nil ⟨p, xs, rfl, hp, fun l hlf => ?_⟩)))))
  have e1 : Ex H (L2.upd H l (.lst xs)) := Ex.new hlf
  refine n_cons (el_lst ea_nil (by decide) _ (Ex.refl _) _ fun f H2 hf e2 h2 => n_nil ⟨_, _, rfl, ?_⟩)
  have hla := hd.ne hlf
  have hff := fresh_back e1 hf
  have hfa := hd.ne hff
  have hfl : f ≠ l := fun z => by rw [z, upd_same] at hf; cases hf
  refine q_while (MixW a p l f xs H) xs.length ⟨rfl, xs, [], e2 _ _ upd_same, h2, List.Perm.refl _, rfl, Bt.of (e1.trans e2), hd.ex (e1.trans e2)⟩ fun m σ' H' g => ?_
  obtain ⟨rfl, ys, zs, g1, g2, g3, rfl, g4, g5⟩ := g
  have hlen := g3.length_eq
  rw [List.length_append] at hlen
  refine ⟨!ys.isEmpty, et_test (ev_neNil (ev_var rfl) (sq_of g1) (el_lst ea_nil (by decide))), fun hb H3 e3 => ?_, fun hb H3 e3 => ?_⟩
  · have hpos : 0 < ys.length := by
      cases ys with
      | nil => cases hb
      | cons _ _ => exact Nat.succ_pos _
    refine ⟨fun σ2 H2 => ∃ m', m' < ys.length ∧ MixW a p l f xs H m' σ2 H2, fun _ _ z => z, ?_⟩
    refine n_drop (n_bm (n_var rfl ⟨.inl ⟨rfl, _, sq_of (e3 _ _ g2)⟩, n_cons (n_bm (n_var rfl ⟨.inl ⟨rfl, _, sq_of (e3 _ _ g1)⟩, n_cons (c_call (ea_cons (ev_var rfl) (ea_cons (ev_cb (ea_cons (ev_var rfl) ea_nil) (rc_lenL (sq_of (e3 _ _ g1)))) ea_nil)) fun H4 e4 => ?_)⟩))⟩))
    refine ⟨a, _, rfl, g5.ex (e3.trans e4), by omega, by omega, fun r H5 r0 r1 b5 d5 => n_nil ?_⟩
    have l5 : H5 l = some (.lst ys) := b5.at hla ((e3.trans e4) _ _ g1)
    have f5 : H5 f = some (.lst zs) := b5.at hfa ((e3.trans e4) _ _ g2)
    have hk : r.toNat < ys.length := by omega
    have hy := List.getElem?_eq_getElem hk
    refine ⟨l, ys, r, r.toNat, ys[r.toNat], rfl, rfl, l5, by omega, by omega, seqIx r0 r1, hy, n_nil ⟨f, zs, _, rfl, rfl, by rw [upd_ne hfl]; exact f5, sz_lt (by omega), ?_⟩⟩
    have pe := erase_perm ys r.toNat _ hy
    have pl := pe.length_eq
    rw [List.length_cons] at pl
    refine ⟨(ys.eraseIdx r.toNat).length, by omega, rfl, _, _, by rw [upd_ne hfl.symm, upd_same], upd_same, ?_, rfl, ?_, ?_⟩
    · refine List.Perm.trans ?_ g3
      rw [List.append_assoc]
      exact pe.append_left zs
    · exact (((g4.trans (Bt.of (e3.trans e4))).trans b5).newU hlf).newU hff
    · exact (d5.updN hla.symm).updN hfa.symm
  · have hnil : ys = [] := by
      cases ys with
      | nil => rfl
      | cons _ _ => cases hb
    subst hnil
    rw [List.append_nil] at g3
    refine n_ret (n_var rfl ?_)
    exact k f zs H3 hff (g4.trans (Bt.of e3)) (g5.ex e3) (e3 _ _ g2) g3
end
end K0

namespace K0
namespace G
open PySem L2 Evl
/-! ### what draws, once more (generic) -/
section
variable {K : PySem.W.Frag} {σ : L2.St} {H : Hp} {a : Addr} {te : TE} {ta : TA} {M : D → Prop}
theorem n_c {v : V} {Q : VK} (h : Q v H) : tC v σ H Q := h
theorem x_rollOp {E : XK} {g : Int → Int → Int} {b m : Int} (hv : σ[0]? = some (some (.ref a))) (hm : 0 < m ∧ m < 1000000) (h : ∀ r, 0 ≤ r → r < m → M (.int (g b r))) :
    EvX K a (tOp (rI0 fun i j => V.int (g i j)) (tC (.int b)) (tCall (sp_law_roll K) [] E (tCons (tVar 0) (tCons (tC (.int m)) tNil)))) σ M := fun H1 d1 Q q => by
  refine n_op (n_c ?_)
  refine c_call (ea_cons (ev_var hv) (ea_cons ev_c ea_nil)) fun H2 e2 => ⟨a, m, rfl, d1.ex e2, hm.1, hm.2, fun r H3 r0 r1 b3 d3 => ⟨b, r, rfl, rfl, ?_⟩⟩
  exact q _ (.int _) H3 ((Bt.of e2).trans b3) d3 (h r r0 r1) rfl (.int _)
theorem q_forRng {g : TG} {tu tz : TS} {Dn : Ends} {W : Int → Hp → Prop} (h : ∀ Q : List V → Hp → Prop, (∀ n H1, W n H1 → Q [.int n] H1) → ta σ H Q) (k : ∀ n H1, W n H1 → tSeq (tFor (iRng1 (tCons (tC (.int n)) tNil)) g tu) tz Dn σ H1) : tSeq (tFor (iRng1 ta) g tu) tz Dn σ H :=
  h _ fun n H1 hn => k n H1 hn
/-- _law_pick(dice, some), some a list of drawn data -/
theorem x_pickV {E : XK} {i : Nat} {p : Addr} {xs : List V} {ds : List D} {H0 : Hp} {Q : VK} (hv : σ[0]? = some (some (.ref a))) (hp : σ[i]? = some (some (.ref p))) (na : p ≠ a) (hd : DiceAt H0 a) (h : H0 p = some (.lst xs)) (r : RpAll K H0 xs ds) (ne : ds ≠ []) (hl : ds.length ≤ 1000) (hm : ∀ d ∈ ds, M d) (hc : D.cleanL ds = true)
    (q : ∀ v d H2, Bt a H0 H2 → DiceAt H2 a → M d → d.clean = true → Rp K H2 v d → Q v H2) : tCall (sp_law_pick K) [] E (tCons (tVar 0) (tCons (tVar i) tNil)) σ H0 Q := by
  have l3 := r.len
  refine d_raw (n_cons (n_var hv (n_cons (n_var hp (n_nil ⟨a, p, xs, rfl, hd, na, sq_of h, (fun z => ne (by rw [z] at l3; exact List.length_eq_zero_iff.mp l3.symm)), by omega, fun x H4 hx b4 d4 => ?_⟩)))))
  obtain ⟨y, hy, ry⟩ := r.memI x hx
  have cy : y.clean = true := by
    rw [cleanL_all] at hc
    exact List.all_eq_true.mp hc y hy
  exact q x y H4 b4 d4 (hm y hy) cy (ry.bt cy hd b4)
theorem xq_list {Dn : Ends} {tz : TS} {i n : Nat} (hd : DiceAt H a) (hx : EvX K a te σ M) (h : EvXA K a ta σ fun ds => (∀ d ∈ ds, M d) ∧ ds.length ≤ n) (hn : n ≤ 900)
    (k : ∀ p xs ds H2, H p = none → p ≠ a → Bt a H H2 → DiceAt H2 a → H2 p = some (.lst xs) → RpAll K H2 xs ds → (∀ d ∈ ds, M d) → D.cleanL ds = true → ds ≠ [] → ds.length ≤ n + 1 → tz Dn (σ.set i (some (.ref p))) H2) : tSeq (tAsg (tLst (tCons te ta)) (gName i)) tz Dn σ H := by
  refine q_asgX ?_
  refine hx H hd _ fun v d H1 b1 d1 m1 c1 r1 => h H1 d1 _ fun vs ds H2 b2 d2 m c r => ⟨by rw [List.length_cons, r.len]; exact sz_of (by omega), fun p hp => ?_⟩
  have b : Bt a H (L2.upd H2 p (.lst (v :: vs))) := (b1.trans b2).trans (Bt.of (Ex.new hp))
  have np := d2.ne hp
  refine k p (v :: vs) (d :: ds) _ ((b1.trans b2).free np hp) np b (d2.ex (Ex.new hp)) upd_same ((RpAll.cons (r1.bt c1 d1 b2) r).ex (Ex.new hp)) (fun e he => ?_) (Bool.and_eq_true_iff.mpr ⟨c1, c⟩) (by simp) (by rw [List.length_cons]; omega)
  rcases List.mem_cons.mp he with rfl | he
  · exact m1
  · exact m.1 e he
theorem n_test {Q : Bool → Hp → Prop} (h : te σ H fun v H1 => ∃ b, v = .bl b ∧ Q b H1) : tTest te σ H Q := h
theorem n_when {t : TT} {tu tz : TS} {Dn : Ends} (h : t σ H fun b H1 => if b = true then tu { Dn with nx := tz Dn } σ H1 else tz Dn σ H1) : tSeq (tIfS t tu tNext) tz Dn σ H := h
theorem ev_slO {z : Str} {tl th : TO} {lo hi : Option Int} (h : Ev te σ H (.str z)) (h1 : EvO tl σ H lo) (h2 : EvO th σ H hi) (hz : z.length ≤ 100000) : Ev (tSl rSlS te tl th) σ H (.str (cutS z lo hi)) := fun H1 e Q q =>
  h H1 e _ fun H2 e2 => h1 H2 (e.trans e2) _ fun H3 e3 => h2 H3 ((e.trans e2).trans e3) _ fun H4 e4 => ⟨z, rfl, sz_of hz, q H4 ((e2.trans e3).trans e4)⟩
end
end G
end K0

namespace K0
open PySem L2 Evl
/-! ### k01: drawn plain values -/
def szB : Nat → Nat
  | 0 => 1
  | m + 1 => 1 + 3 * szB m
def MPl (m : Nat) (d : D) : Prop := d.plain (m + 1) = true ∧ d.size ≤ szB m
section
variable {P : Program} {w : World} {K : PySem.W.Frag} {mg : Str → Option Value} {base : Heap} {A : Ad} {D : Fd}
def sp_law_va_plain (K : PySem.W.Frag) (m : Nat) : Sp := fun vs H Q _ => ∃ a, vs = [.ref a, .int (m : Int)] ∧ DiceAt H a ∧ ∀ v d H', Bt a H H' → DiceAt H' a → MPl m d → d.clean = true → Rp K H' v d → Q v H'
theorem plain1 {d : K0.D} {m : Nat} (h : d.plain 1 = true) (hs : d.size ≤ 1) : MPl m d := by
  have up : ∀ k, d.plain (k + 1) = true := fun k => by
    induction k with
    | zero => exact h
    | succ k ih =>
      cases d with
      | tup ds =>
        cases ds with
        | nil => rfl
        | cons x xs =>
          simp only [K0.D.size, K0.D.sizeL] at hs
          have := size_pos x
          omega
      | _ => exact ih
  refine ⟨up m, ?_⟩
  cases m with
  | zero => exact hs
  | succ m => show d.size ≤ 1 + 3 * szB m; omega
where
  size_pos : ∀ x : K0.D, 1 ≤ x.size := fun x => by cases x <;> simp [K0.D.size] <;> omega
theorem va_core {m n : Nat} {spT : Sp} (T : Txt K mg A D) (hn : 4 ≤ n) (G_law_va_plain : FnOk P w K mg base CX0 n A.law_va_plain D.law_va_plain ["dice", "deep"] spT) (hT : 0 < m → ∀ vs H Q E, sp_law_va_plain K (m - 1) vs H Q E → spT vs H Q E) :
    FnOk P w K mg base CX0 (n + 1) A.law_va_plain D.law_va_plain ["dice", "deep"] (sp_law_va_plain K m) := by
  have G_law_roll : FnOk P w K mg base CX0 1 A.law_roll D.law_roll ["dice", "most"] (sp_law_roll K) := ok_law_roll T
  have G_law_pick : FnOk P w K mg base CX0 2 A.law_pick D.law_pick ["dice", "items"] (sp_law_pick K) := ok_law_pick T
  refine T.F_law_va_plain.ok sc_law_va_plain (fun vs H Q E h => by obtain ⟨a, rfl, _⟩ := h; rfl) (fun cdv A0 outer st H vs Q E hr h => ?_)
  refine ⟨_, (pss_cons (ps_if (PW.pt (pw_or (pt_cmpR op_eq (pv 1) pe_int (nomark _)) (pw_or1 (pt_cmpR op_eq (pe_call G_law_roll (hr.mono (by omega)) rfl T.g_law_roll T.F_law_roll.kp T.b_law_roll .nil pass0 (pa_cons (pv 0) (pa_cons pe_int pa_nil))) pe_int (nomark _))))) (pss_one (ps_ret (pe_call G_law_pick (hr.mono (by omega)) rfl T.g_law_pick T.F_law_pick.kp T.b_law_pick .nil pass0 (pa_cons (pv 0) (pa_cons (pe_lst (pa_cons pe_non (pa_cons pe_int (pa_cons pe_int (pa_cons (pe_un un_neg pe_int) (pa_cons pe_int (pa_cons pe_int (pa_cons (pe_un un_neg pe_int) (pa_cons (pe_op op_sub (pe_op op_pow pe_int pe_int) pe_int) (pa_cons pe_str (pa_cons pe_str (pa_cons pe_str (pa_cons pe_str (pa_cons pe_str (pa_cons pe_str (pa_cons pe_str (pa_cons pe_str (pa_cons (pe_tup pa_nil) (pa_cons (pe_op op_sub pe_int (pe_call G_law_roll (hr.mono (by omega)) rfl T.g_law_roll T.F_law_roll.kp T.b_law_roll .nil pass0 (pa_cons (pv 0) (pa_cons pe_int pa_nil)))) pa_nil))))))))))))))))))) pa_nil))))) pss_nil)
  (pss_one (ps_ret (pe_callTy call_tuple_of (by rfl) T.b_tuple (by decide +kernel) (pa_cons (pe_lc (own := [("turn", 2)]) (g := gName 2) (tt := tYes) rfl sc_law_va_plain.nd (pi_range1 rfl T.b_range (pa_cons (pe_call G_law_roll (hr.mono (by omega)) rfl T.g_law_roll T.F_law_roll.kp T.b_law_roll .nil pass0 (pa_cons (pv 0) (pa_cons pe_int pa_nil))) pa_nil)) (blkOk_by (own := [("turn", 2)]) (N := N_law_va_plain) (sc := defScope s_law_va_plain) (by decide +kernel)) (fun _ _ _ _ _ => by exact pg_name (i := 2) sc_law_va_plain.nd rfl (Or.inl rfl)) (fun _ _ _ _ _ => by exact pts_nil) (fun _ _ _ _ _ => by exact (pe_call G_law_va_plain (hr.mono (by omega)) rfl T.g_law_va_plain T.F_law_va_plain.kp T.b_law_va_plain .nil pass0 (pa_cons (pv 0) (pa_cons (pe_op op_sub (pv 1) pe_int) pa_nil))))) pa_nil))))), ?_⟩
  obtain ⟨a, rfl, hd, k⟩ := h
  have then_ : ∀ H1, Bt a H H1 → DiceAt H1 a → ∀ Dn : Ends, Dn.rt = Q →
      tRet (tCall (sp_law_pick K) [] (fun _ _ _ => False) (tCons (tVar 0) (tCons (tLst (tCons (tC .non) (tCons (tC (.int 0)) (tCons (tC (.int 1)) (tCons (tUn (rU fun i => V.int (-i)) (tC (.int 1))) (tCons (tC (.int 9)) (tCons (tC (.int 10)) (tCons (tUn (rU fun i => V.int (-i)) (tC (.int 10))) (tCons (tOp (rI0 fun i j => V.int (i - j)) (tOp (rI CPow fun i j => V.int (i ^ j.toNat)) (tC (.int 10)) (tC (.int 60))) (tC (.int 1)))
        (tCons (tC (.str "")) (tCons (tC (.str "a")) (tCons (tC (.str "b")) (tCons (tC (.str "ab")) (tCons (tC (.str "9")) (tCons (tC (.str "10")) (tCons (tC (.str " ")) (tCons (tC (.str "a b")) (tCons (tTup tNil) (tCons (tOp (rI0 fun i j => V.int (i - j)) (tC (.int 7)) (tCall (sp_law_roll K) [] (fun _ _ _ => False) (tCons (tVar 0) (tCons (tC (.int 15)) tNil)))) tNil))))))))))))))))))) tNil))) Dn (L2.start N_law_va_plain [V.ref a, V.int (m : Int)]) H1 := fun H1 b1 d1 Dn hDn => by
    refine x_ret (x_pick (K := K) (M := MPl m) (n := 17) rfl (x_non (plain1 rfl (by decide))) (xl_cons (x_int (plain1 (by decide +kernel) (by decide))) (xl_cons (x_int (plain1 (by decide +kernel) (by decide))) (xl_cons (x_neg (plain1 (by decide +kernel) (by decide))) (xl_cons (x_int (plain1 (by decide +kernel) (by decide)))
      (xl_cons (x_int (plain1 (by decide +kernel) (by decide))) (xl_cons (x_neg (plain1 (by decide +kernel) (by decide))) (xl_cons (x_ev (fun _ => ev_op (ev_op ev_c ev_c (rv_pow (n := 60) (by decide) (by decide))) ev_c rv_I0) (fun _ => .int _) (plain1 (by decide +kernel) (by decide)) rfl)
      (xl_cons (x_str (plain1 (by decide +kernel) (by decide))) (xl_cons (x_str (plain1 (by decide +kernel) (by decide))) (xl_cons (x_str (plain1 (by decide +kernel) (by decide))) (xl_cons (x_str (plain1 (by decide +kernel) (by decide))) (xl_cons (x_str (plain1 (by decide +kernel) (by decide)))
      (xl_cons (x_str (plain1 (by decide +kernel) (by decide))) (xl_cons (x_str (plain1 (by decide +kernel) (by decide))) (xl_cons (x_str (plain1 (by decide +kernel) (by decide))) (xl_cons (x_tup (N := fun ds => ds = []) xa_nil fun ds hds => by subst hds; exact ⟨by simp, plain1 rfl (by decide)⟩)
      (xl_cons (G.x_rollOp (g := fun i j => i - j) rfl (by decide) fun r r0 r1 => plain1 (by
        show numB (7 - r) = true
        unfold numB
        rw [decide_eq_true (show (-(10 ^ 60 - 1) : Int) ≤ 7 - r by omega), decide_eq_true (show 7 - r ≤ (10 ^ 60 - 1 : Int) by omega)]
        rfl) (by show 1 ≤ 1; decide)) xl_nil))))))))))))))))) (by decide)) d1 fun v d H3 b3 d3 m3 c3 r3 => ?_
    rw [hDn]
    exact k v d H3 (b1.trans b3) d3 m3 c3 r3
  refine G.n_when (n_or ?_)
  refine (et_test (ev_op (ev_var rfl) ev_c (rv_eq rfl))) H (Ex.refl _) _ fun H1 e1 => ?_
  by_cases hm : m = 0
  · have hb : decide (V.int (m : Int) = V.int 0) = true := by rw [hm]; exact decide_eq_true rfl
    rw [if_pos hb, if_pos rfl]
    exact then_ H1 (Bt.of e1) (hd.ex e1) _ rfl
  · have hb : decide (V.int (m : Int) = V.int 0) = false := decide_eq_false fun z => hm (by injection z with z; omega)
    rw [if_neg (by rw [hb]; decide)]
    refine G.n_test (n_op (c_call (ea_cons (ev_var rfl) (ea_cons ev_c ea_nil)) fun H2 e2 => ⟨a, 3, rfl, hd.ex (e1.trans e2), by decide, by decide, fun r H3 r0 r1 b3 d3 => ⟨rfl, _, rfl, ?_⟩⟩))
    have b13 : Bt a H H3 := (Bt.of (e1.trans e2)).trans b3
    by_cases hr0 : r = 0
    · rw [if_pos (decide_eq_true (congrArg V.int hr0))]
      exact then_ H3 b13 d3 _ rfl
    · rw [if_neg (by rw [decide_eq_false fun z => hr0 (V.int.inj z)]; decide)]
      show tCB (rTupOf K) _ _ _ _
      refine n_cb (n_cons ?_)
      unfold tLc
      refine n_rng1 (n_cons (c_call (ea_cons (ev_var rfl) (ea_cons ev_c ea_nil)) fun H4 e4 => ⟨a, 4, rfl, d3.ex e4, by decide, by decide, fun r4 H5 r40 r41 b5 d5 => n_nil ⟨r4, rfl, by omega, by omega, ?_⟩⟩))
      refine l_draws (K := K) (M := MPl (m - 1)) (a := a) (σ := L2.start N_law_va_plain [V.ref a, V.int (m : Int)]) (j := 2) (vs := [2]) (n := r4.toNat) (te := tCall spT [] (fun _ _ _ => False) (tCons (tVar 0) (tCons (tOp (rI0 fun i j => V.int (i - j)) (tVar 1) (tC (.int 1))) tNil))) (Q := fun v H1 => tNil (L2.start N_law_va_plain [V.ref a, V.int (m : Int)]) H1 fun vs H2 => rTupOf K (v :: vs) H2 Q) d5 (by omega) (fun _ => rfl) (fun i H6 d6 Q' q' => ?_) fun p xs ds H6 hp b6 d6 h6 rr hl hmm hc => ?_
      · exact c_call (ea_cons (ev_var rfl) (ea_cons (ev_op (ev_var rfl) ev_c rv_I0) ea_nil)) fun H7 e7 => hT (by omega) _ _ _ _ ⟨a, by show [V.ref a, V.int ((m : Int) - 1)] = _; rw [show ((m : Int) - 1) = ((m - 1 : Nat) : Int) by omega], d6.ex e7, fun v d H8 b8 d8 m8 c8 r8 => q' v d H8 ((Bt.of e7).trans b8) d8 m8 c8 r8⟩
      · have bAll : Bt a H H6 := ((b13.trans (Bt.of e4)).trans b5).trans b6
        refine n_nil ⟨p, xs, rfl, .inl ⟨sq_of h6, fun l hl2 => k (.ref l) (.tup ds) _ (bAll.trans (Bt.of (Ex.new hl2))) (d6.ex (Ex.new hl2)) ⟨?_, ?_⟩ hc (.tup (st_of upd_same) (rr.ex (Ex.new hl2)))⟩⟩
        · show ds.all (K0.D.plain m) = true
          refine List.all_eq_true.mpr fun d hdm => ?_
          have := (hmm d hdm).1
          rw [show m - 1 + 1 = m by omega] at this
          exact this
        · obtain ⟨m', rfl⟩ : ∃ q, m = q + 1 := ⟨m - 1, by omega⟩
          have key : ∀ l : List K0.D, (∀ d ∈ l, MPl m' d) → K0.D.sizeL l ≤ l.length * szB m' := fun l => by
            induction l with
            | nil => intro _; exact Nat.zero_le _
            | cons x l ih =>
              intro h
              have h1 := (h x (List.mem_cons_self ..)).2
              have h2 := ih fun y hy => h y (List.mem_cons_of_mem _ hy)
              simp only [K0.D.sizeL, List.length_cons, Nat.succ_mul]
              omega
          have h1 := key ds hmm
          have h2 : ds.length * szB m' ≤ 3 * szB m' := Nat.mul_le_mul_right _ (by omega)
          show 1 + K0.D.sizeL ds ≤ 1 + 3 * szB m'
          omega
theorem ok_law_va_plain (T : Txt K mg A D) : ∀ m, FnOk P w K mg base CX0 (6 + m) A.law_va_plain D.law_va_plain ["dice", "deep"] (sp_law_va_plain K m)
  | 0 => va_core (n := 5) (spT := noFn) T (by omega) ⟨fun _ _ _ _ h => h.elim, fun _ _ _ _ _ _ _ _ _ _ _ _ _ h => h.elim⟩ fun h => by omega
  | m + 1 => by
    have := va_core (m := m + 1) (n := 6 + m) T (by omega) (ok_law_va_plain T m) fun _ vs H Q E h => h
    rw [show 6 + m + 1 = 6 + (m + 1) by omega] at this
    exact this
end
end K0

namespace K0
open PySem L2 Evl
section
variable {K : PySem.W.Frag} {σ : L2.St} {H : Hp} {te : TE}
theorem rpAll_cut {G : Hp} {xs : List V} {ds : List D} (h : RpAll K G xs ds) (i j : Nat) : RpAll K G ((xs.drop i).take j) ((ds.drop i).take j) := by
  have hd : ∀ (i : Nat) {xs : List V} {ds : List D}, RpAll K G xs ds → RpAll K G (xs.drop i) (ds.drop i) := by
    intro i
    induction i with
    | zero => exact fun h => h
    | succ i ih =>
      intro xs ds h
      cases h with
      | nil => exact .nil
      | cons _ h2 => exact ih h2
  have ht : ∀ (j : Nat) {xs : List V} {ds : List D}, RpAll K G xs ds → RpAll K G (xs.take j) (ds.take j) := by
    intro j
    induction j with
    | zero => exact fun _ => .nil
    | succ j ih =>
      intro xs ds h
      cases h with
      | nil => exact .nil
      | cons h1 h2 => exact .cons h1 (ih h2)
  exact ht j (hd i h)
theorem ed_cut {tl th : TO} {lo hi : Option Int} {ds : List D} (h : EvD K te σ H (.tup ds)) (h1 : ∀ H1, Ex H H1 → EvO tl σ H1 lo) (h2 : ∀ H1, Ex H H1 → EvO th σ H1 hi) :
    EvD K (tSl (rSlA K) te tl th) σ H (.tup ((ds.drop (HT.sIx ds.length 0 lo)).take (HT.sIx ds.length ds.length hi - HT.sIx ds.length 0 lo))) := fun H1 e Q q =>
  h H1 e _ fun v H2 e2 hv => h1 H2 (e.trans e2) H2 (Ex.refl _) _ fun H3 e3 => h2 H3 ((e.trans e2).trans e3) H3 (Ex.refl _) _ fun H4 e4 => by
    obtain ⟨p, xs, rfl, hq, hx⟩ := (hv.ex (e3.trans e4)).tupI
    have e14 := e2.trans (e3.trans e4)
    rw [← hx.len] at q
    refine ⟨p, xs, rfl, hq, fun hw => q _ H4 e14 ?_, fun _ b hb => q _ _ (e14.trans (Ex.new hb)) (.tup (st_of upd_same) ((rpAll_cut hx _ _).ex (Ex.new hb)))⟩
    rw [hw.1, hw.2, List.drop_zero, Nat.sub_zero, hx.len, List.take_length]
    exact .tup hq hx
def MNr (d : K0.D) : Prop := d.plain 11 = true ∧ d.size ≤ 100
theorem sizeL_sub : ∀ (ds : List K0.D) (i j : Nat), K0.D.sizeL ((ds.drop i).take j) ≤ K0.D.sizeL ds := fun ds i j => by
  have ht : ∀ (j : Nat) (ds : List K0.D), K0.D.sizeL (ds.take j) ≤ K0.D.sizeL ds := fun j => by
    induction j with
    | zero => intro ds; rw [List.take_zero]; exact Nat.zero_le _
    | succ j ih =>
      intro ds
      cases ds with
      | nil => exact Nat.le_refl _
      | cons d ds =>
        have := ih ds
        simp only [List.take_succ_cons, K0.D.sizeL]
        omega
  have hd : ∀ (i : Nat) (ds : List K0.D), K0.D.sizeL (ds.drop i) ≤ K0.D.sizeL ds := fun i => by
    induction i with
    | zero => intro ds; exact Nat.le_refl _
    | succ i ih =>
      intro ds
      cases ds with
      | nil => exact Nat.le_refl _
      | cons d ds =>
        have := ih ds
        simp only [List.drop_succ_cons, K0.D.sizeL]
        omega
  exact Nat.le_trans (ht _ _) (hd _ _)
theorem cleanL_app {ds es : List K0.D} (h1 : K0.D.cleanL ds = true) (h2 : K0.D.cleanL es = true) : K0.D.cleanL (ds ++ es) = true := by
  rw [cleanL_all] at h1 h2 ⊢
  rw [List.all_append, h1, h2]
  rfl
theorem cleanL_sub {ds : List K0.D} (h : K0.D.cleanL ds = true) (i j : Nat) : K0.D.cleanL ((ds.drop i).take j) = true := by
  rw [cleanL_all] at h ⊢
  exact List.all_eq_true.mpr fun d hd => List.all_eq_true.mp h d (List.mem_of_mem_drop (List.mem_of_mem_take hd))
/-- what is near is near -/
structure Nr (d : K0.D) : Prop where
  m : MNr d
  c : d.clean = true
theorem ca_cat {x y : V} {ds es : List K0.D} {Q : VK} (r1 : Rp K H x (.tup ds)) (r2 : Rp K H y (.tup es)) (l : ds.length + es.length ≤ 100000) (k : ∀ v H2, Ex H H2 → Rp K H2 v (.tup (ds ++ es)) → Q v H2) : rCatA K x y H Q :=
  (ed_cat (K := K) (ta := tC x) (tb := tC y) (σ := ([] : L2.St)) (ed_ev ev_c r1) (ed_ev ev_c r2) l) H (Ex.refl _) Q k
theorem nr_tup {es : List K0.D} (hp : ∀ e, e ∈ es → e.plain 10 = true) (hs : K0.D.sizeL es ≤ 99) (hc : K0.D.cleanL es = true) : Nr (.tup es) :=
  ⟨⟨List.all_eq_true.mpr hp, by simp only [K0.D.size]; omega⟩, hc⟩
theorem mem_sub {ds : List K0.D} {i j : Nat} {e : K0.D} (h : e ∈ (ds.drop i).take j) : e ∈ ds := List.mem_of_mem_drop (List.mem_of_mem_take h)
theorem pick_near {E : XK} {a : Addr} {p : Addr} {xs : List V} {ds : List K0.D} {Q : VK} {H0 : Hp} (hd : DiceAt H0 a) (na : p ≠ a) (h : H0 p = some (.lst xs)) (r : RpAll K H0 xs ds) (ne : ds ≠ []) (hl : ds.length ≤ 100) (hm : ∀ d ∈ ds, Nr d)
    (q : ∀ v e H', Bt a H0 H' → DiceAt H' a → MNr e → e.clean = true → Rp K H' v e → Q v H') : sp_law_pick K [.ref a, .ref p] H0 Q E := by
  have l3 := r.len
  refine ⟨a, p, xs, rfl, hd, na, sq_of h, (fun z => ne (by rw [z] at l3; exact List.length_eq_zero_iff.mp l3.symm)), by omega, fun x H4 hx b4 d4 => ?_⟩
  obtain ⟨y, hy, ry⟩ := r.memI x hx
  exact q x y H4 b4 d4 (hm y hy).m (hm y hy).c (ry.bt (hm y hy).c hd b4)
end
section
variable {P : Program} {w : World} {K : PySem.W.Frag} {mg : Str → Option Value} {base : Heap} {A : Ad} {D : Fd}
def sp_law_va_near (K : PySem.W.Frag) : Sp := fun vs H Q _ => ∃ a x d, vs = [.ref a, x] ∧ DiceAt H a ∧ Rp K H x d ∧ d.clean = true ∧ MPl 3 d ∧ ∀ v e H', Bt a H H' → DiceAt H' a → MNr e → e.clean = true → Rp K H' v e → Q v H'
theorem ok_law_va_near (T : Txt K mg A D) : FnOk P w K mg base CX0 21 A.law_va_near D.law_va_near ["dice", "value"] (sp_law_va_near K) := by
  have G_law_roll : FnOk P w K mg base CX0 1 A.law_roll D.law_roll ["dice", "most"] (sp_law_roll K) := ok_law_roll T
  have G_law_pick : FnOk P w K mg base CX0 2 A.law_pick D.law_pick ["dice", "items"] (sp_law_pick K) := ok_law_pick T
  have G_law_va_plain := ok_law_va_plain (P := P) (w := w) (base := base) T 1
  refine T.F_law_va_near.ok sc_law_va_near (fun vs H Q E h => by obtain ⟨a, x, d, rfl, _⟩ := h; rfl) (fun cdv A0 outer st H vs Q E hr h => ?_)
  refine ⟨_, (pss_cons (ps_if (PW.pt (pw_or (pt_not (pt_val (pe_callB call_isi (by rfl) T.b_isinstance (by decide +kernel) (pa_cons (pv 1) (pa_cons (pe_bltn (v := .ty "tuple") (u := .type "tuple") (by rfl) T.b_tuple (by decide +kernel) rfl) pa_nil))))) (pw_or1 (pt_cmpR (op_eqD hr.units) (pv 1) (pe_tup pa_nil) (nomark _))))) (pss_one (ps_ret (pe_call G_law_pick (hr.mono (by omega)) rfl T.g_law_pick T.F_law_pick.kp T.b_law_pick .nil pass0 (pa_cons (pv 0) (pa_cons (pe_lst (pa_cons (pv 1) (pa_cons (pe_tup (pa_cons (pv 1) pa_nil)) (pa_cons (pe_tup (pa_cons (pv 1) (pa_cons pe_non pa_nil))) (pa_cons pe_non pa_nil))))) pa_nil))))) pss_nil)
  (pss_cons (ps_set (i := 2) sc_law_va_near.nd rfl (Or.inl rfl) (pe_call G_law_roll (hr.mono (by omega)) rfl T.g_law_roll T.F_law_roll.kp T.b_law_roll .nil pass0 (pa_cons (pv 0) (pa_cons (pe_callB call_len (by rfl) T.b_len (by decide +kernel) (pa_cons (pv 1) pa_nil)) pa_nil))))
  (pss_cons (ps_set (i := 3) sc_law_va_near.nd rfl (Or.inl rfl) (pe_lst (pa_cons (pe_op op_catA (pv 1) (pe_tup (pa_cons pe_non pa_nil))) (pa_cons (pe_slice sl_tupA (pv 1) po_none (po_some (pe_un un_neg pe_int))) (pa_cons (pe_op op_catA (pe_op op_catA (pe_slice sl_tupA (pv 1) po_none (po_some (pv 2))) (pe_tup (pa_cons (pe_call G_law_va_plain (hr.mono (by omega)) rfl T.g_law_va_plain T.F_law_va_plain.kp T.b_law_va_plain .nil pass0 (pa_cons (pv 0) (pa_cons pe_int pa_nil))) pa_nil))) (pe_slice sl_tupA (pv 1) (po_some (pe_op op_add (pv 2) pe_int)) po_none)) (pa_cons (pv 1) (pa_cons (pe_ix ix_tup (pv 1) (pv 2) (fun _ _ => rfl)) (pa_cons (pe_tup (pa_cons (pv 1) pa_nil)) pa_nil))))))))
  (pss_one (ps_ret (pe_call G_law_pick (hr.mono (by omega)) rfl T.g_law_pick T.F_law_pick.kp T.b_law_pick .nil pass0 (pa_cons (pv 0) (pa_cons (pv 3) pa_nil)))))))), ?_⟩
  obtain ⟨a, x, d, rfl, hd, hx, hc, hm, k⟩ := h
  have p4 : d.plain 4 = true := hm.1
  have s4 : d.size ≤ 40 := hm.2
  have p10 : d.plain 10 = true := plain_upP (plain_upP (plain_upP (plain_upP (plain_upP (plain_upP p4)))))
  have p11 : d.plain 11 = true := plain_upP p10
  have p12 : d.plain 12 = true := plain_upP p11
  have nS : Nr d := ⟨⟨p11, by omega⟩, hc⟩
  have n1 : Nr (.tup [d]) := ⟨⟨by show (d.plain 10 && true) = true; rw [p10]; rfl, by simp only [K0.D.size, K0.D.sizeL]; omega⟩, by show (d.clean && true) = true; rw [hc]; rfl⟩
  have n2 : Nr (.tup [d, .non]) := ⟨⟨by show (d.plain 10 && true) = true; rw [p10]; rfl, by simp only [K0.D.size, K0.D.sizeL]; omega⟩, by show (d.clean && true) = true; rw [hc]; rfl⟩
  have n0 : Nr .non := ⟨⟨rfl, by decide⟩, rfl⟩
  have first_ : ∀ H1, Ex H H1 → tCall (sp_law_pick K) [] E0 (tCons (tVar 0) (tCons (tLst (tCons (tVar 1) (tCons (tTup (tCons (tVar 1) tNil)) (tCons (tTup (tCons (tVar 1) (tCons (tC V.non) tNil))) (tCons (tC V.non) tNil))))) tNil)) (L2.start N_law_va_near [V.ref a, x]) H1 Q := fun H1 e1 =>
    d_raw (n_cons (n_var rfl (n_cons ((G.edl_lst (K := K) (ds := [d, .tup [d], .tup [d, .non], .non]) (eda_cons (ed_ev (ev_var rfl) (hx.ex e1)) (eda_cons (ed_tup (eda_cons (ed_ev (ev_var rfl) (hx.ex e1)) eda_nil) (by simp)) (eda_cons (ed_tup (eda_cons (ed_ev (ev_var rfl) (hx.ex e1)) (eda_cons (ed_ev ev_c .non) eda_nil)) (by simp)) (eda_cons (ed_ev ev_c .non) eda_nil)))) (by simp)) H1 (Ex.refl _) _ fun p xs H2 hp e2 h2 r2 =>
      n_nil (pick_near ((hd.ex e1).ex e2) ((hd.ex e1).ne hp) h2 r2 (by simp) (by simp) (fun y hy => by
        rcases List.mem_cons.mp hy with rfl | hy
        · exact nS
        rcases List.mem_cons.mp hy with rfl | hy
        · exact n1
        rcases List.mem_cons.mp hy with rfl | hy
        · exact n2
        rw [List.mem_singleton.mp hy]
        exact n0) fun v e H' b' d' m' c' r' => k v e H' ((Bt.of (e1.trans e2)).trans b') d' m' c' r')))))
  by_cases ht : ∃ y ys, d = .tup (y :: ys)
  · obtain ⟨y, ys, rfl⟩ := ht
    refine q_when (b := false) (et_is (et_or (a := false) (b := false) (et_is (et_not (et_B (ev_cb (ea_cons (ev_var rfl) (ea_cons ev_c ea_nil)) (rc_tup hx)))) rfl) fun _ => et_is (et_test (ev_eqD (n := 13) (ed_ev (ev_var rfl) hx) (ed_tup eda_nil (by simp)) (plain_fine p12) (by decide) (by decide))) rfl) rfl) (fun z => by cases z) fun _ H1 e1 => ?_
    have hx1 := hx.ex e1
    obtain ⟨t, xs, rfl, hq, rr⟩ := hx1.tupI
    have hlen := rr.len
    have hcL : K0.D.cleanL (y :: ys) = true := hc
    have hsz : 1 + K0.D.sizeL (y :: ys) ≤ 40 := by have := s4; simp only [K0.D.size] at this; exact this
    have hsl := sizeL_len (y :: ys)
    have hpa : (y :: ys).all (K0.D.plain 10) = true := p11
    refine q_asgX (c_call (ea_cons (ev_var rfl) (ea_cons (ev_cb (ea_cons (ev_var rfl) ea_nil) (rc_lenT hq)) ea_nil)) fun H2 e2 => ⟨a, _, rfl, hd.ex (e1.trans e2), by rw [hlen]; exact Int.natCast_pos.mpr (Nat.succ_pos _), by rw [hlen]; omega, fun r H3 r0 r1 b3 d3 => ?_⟩)
    obtain ⟨i, rfl⟩ : ∃ i : Nat, r = (i : Int) := ⟨r.toNat, by omega⟩
    have hi : i < (y :: ys).length := by rw [← hlen]; omega
    have b13 : Bt a H1 H3 := (Bt.of e2).trans b3
    have hx3 : Rp K H3 (.ref t) (.tup (y :: ys)) := hx1.bt hc (hd.ex e1) b13
    obtain ⟨ds, hds⟩ : ∃ ds : List K0.D, ds = y :: ys := ⟨_, rfl⟩
    rw [← hds] at hx3 hc nS n1 hcL hsz hsl hpa hi hlen p12 p11 p10
    have hpe : ∀ e, e ∈ ds → e.plain 10 = true := fun e he => List.all_eq_true.mp hpa e he
    refine q_asgX ?_
    refine n_cons ((ed_cat (K := K) (ed_ev (ev_var rfl) hx3) (ed_tup (eda_cons (ed_ev ev_c .non) eda_nil) (by simp)) (by simp; omega)) H3 (Ex.refl _) _ fun v1 H4 e4 r1 => ?_)
    refine n_cons ((ed_cut (K := K) (lo := none) (hi := some (-1)) (ed_ev (ev_var rfl) (hx3.ex e4)) (fun _ _ => eo_none) fun _ _ => eo_some (ev_un ev_c ru_neg)) H4 (Ex.refl _) _ fun v2 H5 e5 r2 => ?_)
    refine n_cons (n_op (n_op ((ed_cut (K := K) (lo := none) (hi := some (i : Int)) (ed_ev (ev_var rfl) (hx3.ex (e4.trans e5))) (fun _ _ => eo_none) fun _ _ => eo_some (ev_var rfl)) H5 (Ex.refl _) _ fun v3 H6 e6 r3 => ?_)))
    have e36 := (e4.trans e5).trans e6
    refine n_tup (n_cons (c_call (ea_cons (ev_var rfl) (ea_cons ev_c ea_nil)) fun H7 e7 => ⟨a, rfl, d3.ex (e36.trans e7), fun w f H8 b8 d8 m8 c8 rw8 => n_nil ⟨sz_of (by simp), fun p hp => ?_⟩⟩))
    have b69 : Bt a H6 (L2.upd H8 p (.tup [w])) := ((Bt.of e7).trans b8).trans (Bt.of (Ex.new hp))
    have d9 : DiceAt (L2.upd H8 p (.tup [w])) a := d8.ex (Ex.new hp)
    have cs : ∀ i j, K0.D.cleanL ((ds.drop i).take j) = true := fun i j => cleanL_sub hcL i j
    have f11 : f.plain 10 = true := plain_upP (plain_upP (plain_upP (plain_upP (plain_upP (plain_upP (plain_upP (plain_upP m8.1)))))))
    have f4 : f.size ≤ 4 := m8.2
    refine ca_cat (K := K) (x := v3) (y := V.ref p) (es := [f]) (r3.bt (cs _ _) (d3.ex e36) b69) (.tup (ds := [f]) (st_of upd_same) (.cons (rw8.ex (Ex.new hp)) .nil)) (by simp; omega) fun v4 H10 e10 r4 => ?_
    have b310 : Bt a H3 H10 := ((Bt.of e36).trans b69).trans (Bt.of e10)
    have hx10 : Rp K H10 (.ref t) (.tup ds) := hx3.bt hc d3 b310
    have d10 := d9.ex e10
    refine (ed_cut (K := K) (lo := some ((i + 1 : Nat) : Int)) (hi := none) (ed_ev (ev_var rfl) hx10) (fun _ _ => eo_some (ev_is (ev_op (ev_var rfl) ev_c rv_I0) (by simp))) fun _ _ => eo_none) H10 (Ex.refl _) _ fun v5 H11 e11 r5 => ?_
    refine ca_cat (K := K) (x := v4) (y := v5) (r4.ex e11) r5 (by simp; omega) fun v6 H12 e12 r6 => ?_
    refine n_cons (n_var rfl ?_)
    obtain ⟨di, hdi⟩ : ∃ di, ds[i]? = some di := ⟨_, List.getElem?_eq_getElem hi⟩
    have hmi : di ∈ ds := List.mem_of_getElem? hdi
    refine n_cons ((ed_ix (K := K) (i := i) (ed_ev (ev_var rfl) (hx10.ex (e11.trans e12))) (fun _ _ => ev_var rfl) hdi) H12 (Ex.refl _) _ fun v7 H13 e13 r7 => ?_)
    refine n_cons ((ed_tup (K := K) (ds := [.tup ds]) (eda_cons (ed_ev (ev_var rfl) (hx10.ex ((e11.trans e12).trans e13))) eda_nil) (by simp)) H13 (Ex.refl _) _ fun v8 H14 e14 r8 => n_nil ⟨sz_of (by simp), fun q hq => ?_⟩)
    have eN := Ex.new (o := .lst [v1, v2, v6, .ref t, v7, v8]) hq
    have eAll := (((e11.trans e12).trans e13).trans e14).trans eN
    have b4 : Bt a H4 H10 := ((Bt.of (e5.trans e6)).trans b69).trans (Bt.of e10)
    have b5 : Bt a H5 H10 := ((Bt.of e6).trans b69).trans (Bt.of e10)
    have c1 : K0.D.cleanL (ds ++ [.non]) = true := cleanL_app hcL rfl
    refine d_raw (n_cons (n_var rfl (n_cons (n_var rfl (n_nil (pick_near (ds := [.tup (ds ++ [.non]), .tup ((ds.drop (HT.sIx ds.length 0 none)).take (HT.sIx ds.length ds.length (some (-1)) - HT.sIx ds.length 0 none)), .tup ((((ds.drop (HT.sIx ds.length 0 none)).take (HT.sIx ds.length ds.length (some (i : Int)) - HT.sIx ds.length 0 none)) ++ [f]) ++ ((ds.drop (HT.sIx ds.length 0 (some ((i + 1 : Nat) : Int)))).take (HT.sIx ds.length ds.length none - HT.sIx ds.length 0 (some ((i + 1 : Nat) : Int))))), .tup ds, di, .tup [.tup ds]])
      (d10.ex eAll) ((d10.ex (((e11.trans e12).trans e13).trans e14)).ne hq) upd_same (.cons ((r1.bt (show (K0.D.tup (ds ++ [.non])).clean = true from c1) (d3.ex e4) b4).ex eAll) (.cons ((r2.bt (show (K0.D.tup ((ds.drop (HT.sIx ds.length 0 none)).take (HT.sIx ds.length ds.length (some (-1)) - HT.sIx ds.length 0 none))).clean = true from cs _ _) (d3.ex (e4.trans e5)) b5).ex eAll) (.cons (r6.ex ((e13.trans e14).trans eN)) (.cons (hx10.ex eAll) (.cons (r7.ex (e14.trans eN)) (.cons (r8.ex eN) .nil)))))) (by simp) (by simp) (fun z hz => ?_) fun v e H' b' d' m' c' r' => k v e H' (((((Bt.of e1).trans b13).trans b310).trans (Bt.of eAll)).trans b') d' m' c' r'))))))
    rcases List.mem_cons.mp hz with rfl | hz
    · refine nr_tup (fun e he => ?_) (by rw [sizeL_app]; simp only [K0.D.sizeL, K0.D.size]; omega) c1
      rcases List.mem_append.mp he with he | he
      · exact hpe e he
      · rw [List.mem_singleton.mp he]
        rfl
    rcases List.mem_cons.mp hz with rfl | hz
    · exact nr_tup (fun e he => hpe e (mem_sub he)) (by have := sizeL_sub ds (HT.sIx ds.length 0 none) (HT.sIx ds.length ds.length (some (-1)) - HT.sIx ds.length 0 none); omega) (cs _ _)
    rcases List.mem_cons.mp hz with rfl | hz
    · refine nr_tup (fun e he => ?_) ?_ (cleanL_app (cleanL_app (cs _ _) (Bool.and_eq_true_iff.mpr ⟨c8, rfl⟩)) (cs _ _))
      · rcases List.mem_append.mp he with he | he
        · rcases List.mem_append.mp he with he | he
          · exact hpe e (mem_sub he)
          · rw [List.mem_singleton.mp he]
            exact f11
        · exact hpe e (mem_sub he)
      · have h1 := sizeL_sub ds (HT.sIx ds.length 0 none) (HT.sIx ds.length ds.length (some (i : Int)) - HT.sIx ds.length 0 none)
        have h2 := sizeL_sub ds (HT.sIx ds.length 0 (some ((i + 1 : Nat) : Int))) (HT.sIx ds.length ds.length none - HT.sIx ds.length 0 (some ((i + 1 : Nat) : Int)))
        rw [sizeL_app, sizeL_app]
        simp only [K0.D.sizeL]
        omega
    rcases List.mem_cons.mp hz with rfl | hz
    · exact nS
    rcases List.mem_cons.mp hz with rfl | hz
    · refine ⟨⟨plain_upP (hpe _ hmi), ?_⟩, ?_⟩
      · have := size_mem hmi
        omega
      · rw [cleanL_all] at hcL
        exact List.all_eq_true.mp hcL _ hmi
    rw [List.mem_singleton.mp hz]
    exact n1
  · refine q_when (b := true) ?_ (fun _ H1 e1 => first_ H1 e1) (fun z => by cases z)
    cases d with
    | tup ds =>
      cases ds with
      | cons y ys => exact absurd ⟨y, ys, rfl⟩ ht
      | nil => exact et_is (et_or (a := false) (b := true) (et_is (et_not (et_B (ev_cb (ea_cons (ev_var rfl) (ea_cons ev_c ea_nil)) (rc_tup hx)))) rfl) fun _ => et_is (et_test (ev_eqD (n := 13) (ed_ev (ev_var rfl) hx) (ed_tup eda_nil (by simp)) (plain_fine p12) (by decide) (by decide))) rfl) rfl
    | _ => exact et_is (et_or (a := true) (b := true) (et_is (et_not (et_B (ev_cb (ea_cons (ev_var rfl) (ea_cons ev_c ea_nil)) (rc_tup hx)))) rfl) fun z => by cases z) rfl
end
end K0

namespace K0
open PySem PySem.W PyProof.Rows
/-! ### k01: there is just one ascending list of some values -/
abbrev SA (l : List D) : Prop := l.Pairwise fun d e => ltD d e = true
def RK (l : List D) : Prop := ∀ d, d ∈ l → d.rkd = true
theorem sort_le (l : List D) : (l.mergeSort leD).Pairwise fun d e => leD d e = true := sort_pairwise (sortLe_total (listOrd itemOrd) false tk) l
theorem leD_iff {d e : D} : leD d e = true ↔ ltD e d = false := by
  unfold leD
  cases ltD e d <;> simp
theorem lt_of_le {d e : D} (hd : d.rkd = true) (he : e.rkd = true) (h : leD d e = true) (hn : d ≠ e) : ltD d e = true := by
  cases q : ltD d e with
  | true => rfl
  | false => exact absurd (ltD_total hd he q (leD_iff.mp h)) hn
theorem fold_sa : ∀ (l acc : List D), RK l → RK acc → (l.Pairwise fun d e => leD d e = true) → SA acc → (∀ a, a ∈ acc → ∀ x, x ∈ l → leD a x = true) → SA (l.foldl addU acc) ∧ ∀ x, x ∈ l.foldl addU acc ↔ x ∈ acc ∨ x ∈ l
  | [], acc, _, _, _, h, _ => ⟨h, fun x => by simp⟩
  | d :: l, acc, hl, ha, hs, h, hx => by
    have hd := hl d (List.mem_cons_self ..)
    have hs2 := List.pairwise_cons.mp hs
    show SA (l.foldl addU (addU acc d)) ∧ ∀ x, x ∈ l.foldl addU (addU acc d) ↔ _
    by_cases q : acc.getLast? = some d
    · rw [addU_yes q]
      obtain ⟨r1, r2⟩ := fold_sa l acc (fun x hx => hl x (List.mem_cons_of_mem _ hx)) ha hs2.2 h (fun a ha x hx2 => hx a ha x (List.mem_cons_of_mem _ hx2))
      refine ⟨r1, fun x => ?_⟩
      rw [r2 x]
      have hm : d ∈ acc := List.mem_of_getLast? q
      constructor
      · rintro (z | z)
        · exact .inl z
        · exact .inr (List.mem_cons_of_mem _ z)
      · rintro (z | z)
        · exact .inl z
        · rcases List.mem_cons.mp z with z | z
          · exact .inl (by rw [z]; exact hm)
          · exact .inr z
    · rw [addU_no q]
      have hlt : ∀ a, a ∈ acc → ltD a d = true := fun a hm => by
        refine lt_of_le (ha a hm) hd (hx a hm d (List.mem_cons_self ..)) fun z => ?_
        subst z
        rcases last_cases acc with e | ⟨pre, e, rfl⟩
        · rw [e] at hm
          cases hm
        · have he : e ≠ a := fun z => q (by rw [List.getLast?_concat, z])
          have hpre : a ∈ pre := by
            rcases List.mem_append.mp hm with z | z
            · exact z
            · exact absurd (List.mem_singleton.mp z).symm he
          have h1 := (List.pairwise_append.mp h).2.2 a hpre e (List.mem_singleton.mpr rfl)
          have h2 := leD_iff.mp (hx e (List.mem_append_right _ (List.mem_singleton.mpr rfl)) a (List.mem_cons_self ..))
          rw [h1] at h2
          cases h2
      obtain ⟨r1, r2⟩ := fold_sa l (acc ++ [d]) (fun x hx => hl x (List.mem_cons_of_mem _ hx)) (fun x hm => by
        rcases List.mem_append.mp hm with z | z
        · exact ha x z
        · rw [List.mem_singleton.mp z]
          exact hd) hs2.2 (List.pairwise_append.mpr ⟨h, List.pairwise_singleton _ _, fun a hm b hb => by rw [List.mem_singleton.mp hb]; exact hlt a hm⟩) (fun a hm x hx2 => by
        rcases List.mem_append.mp hm with z | z
        · exact hx a z x (List.mem_cons_of_mem _ hx2)
        · rw [List.mem_singleton.mp z]
          exact hs2.1 x hx2)
      refine ⟨r1, fun x => ?_⟩
      rw [r2 x, List.mem_append, List.mem_singleton, List.mem_cons, or_assoc]
theorem sa_uniq : ∀ (l m : List D), SA l → SA m → (∀ x, x ∈ l ↔ x ∈ m) → l = m
  | [], [], _, _, _ => rfl
  | [], b :: m, _, _, h => by cases (h b).mpr (List.mem_cons_self ..)
  | a :: l, [], _, _, h => by cases (h a).mp (List.mem_cons_self ..)
  | a :: l, b :: m, h1, h2, h => by
    obtain ⟨p1, q1⟩ := List.pairwise_cons.mp h1
    obtain ⟨p2, q2⟩ := List.pairwise_cons.mp h2
    have hab : a = b := by
      rcases List.mem_cons.mp ((h a).mp (List.mem_cons_self ..)) with z | z
      · exact z
      · rcases List.mem_cons.mp ((h b).mpr (List.mem_cons_self ..)) with w | w
        · exact w.symm
        · have := ltD_asym (p2 a z)
          rw [p1 b w] at this
          cases this
    subst hab
    rw [sa_uniq l m q1 q2 fun x => ⟨fun hx => ?_, fun hx => ?_⟩]
    · rcases List.mem_cons.mp ((h x).mp (List.mem_cons_of_mem _ hx)) with z | z
      · have := p1 x hx
        rw [z, ltD_irr] at this
        cases this
      · exact z
    · rcases List.mem_cons.mp ((h x).mpr (List.mem_cons_of_mem _ hx)) with z | z
      · have := p2 x hx
        rw [z, ltD_irr] at this
        cases this
      · exact z
theorem ordD_facts {ds : List D} (h : RK ds) : SA (ordD ds) ∧ ∀ x, x ∈ ordD ds ↔ x ∈ ds := by
  obtain ⟨a, b⟩ := fold_sa (ds.mergeSort leD) [] (fun x hx => h x (sort_mem.mp hx)) (fun x hx => by cases hx) (sort_le ds) List.Pairwise.nil (fun a ha => by cases ha)
  refine ⟨a, fun x => ?_⟩
  have := b x
  unfold ordD ddM
  rw [this, sort_mem]
  simp
/-- the one ascending list of these members -/
theorem ordD_uniq {ds l : List D} (h : RK ds) (hl : SA l) (hm : ∀ x, x ∈ l ↔ x ∈ ds) : ordD ds = l := by
  obtain ⟨a, b⟩ := ordD_facts h
  exact sa_uniq _ _ a hl fun x => (b x).trans (hm x).symm
theorem ordD_same {ds es : List D} (h : RK ds) (h2 : RK es) (hm : ∀ x, x ∈ es ↔ x ∈ ds) : ordD es = ordD ds := by
  obtain ⟨a, b⟩ := ordD_facts h
  exact ordD_uniq h2 a fun x => (b x).trans (hm x).symm
/-- two that stand side by side -/
theorem sa_next {l : List D} (h : SA l) : ∀ (i : Nat) (d e : D), l[i]? = some d → l[i + 1]? = some e → ltD d e = true := fun i d e hd he => by
  obtain ⟨i1, e1⟩ := List.getElem?_eq_some_iff.mp hd
  obtain ⟨i2, e2⟩ := List.getElem?_eq_some_iff.mp he
  rw [← e1, ← e2]
  exact List.pairwise_iff_getElem.mp h i (i + 1) i1 i2 (Nat.lt_succ_self i)
end K0

namespace K0
open PySem L2 Evl
section
variable {K : PySem.W.Frag} {a p : Addr} {te : TE} {vs : List Nat} {σ : L2.St} {j : Nat} {H1 : Hp} {Q : VK} {M : D → Prop} {xs : List V} {ds : List D}
/-- [.. for x in some], each drawn from x -/
theorem lc_bt (hp : H1 p = some (.lst xs)) (hpa : p ≠ a) (r : RpAll K H1 xs ds) (hc : D.cleanL ds = true) (hd : DiceAt H1 a) (hz : ds.length ≤ 1000) (hw : ∀ x, wipe ((wipe σ vs).set j (some x)) vs = wipe σ vs)
    (he : ∀ x d H', d ∈ ds → Bt a H1 H' → DiceAt H' a → Rp K H' x d → d.clean = true → ∀ Q : VK, (∀ v e H2, Bt a H' H2 → DiceAt H2 a → M e → e.clean = true → Rp K H2 v e → Q v H2) → te ((wipe σ vs).set j (some x)) H' Q)
    (k : ∀ q ys es H2, H1 q = none → Bt a H1 H2 → DiceAt H2 a → H2 q = some (.lst ys) → RpAll K H2 ys es → es.length = ds.length → (∀ e ∈ es, M e) → D.cleanL es = true → Q (.ref q) H2) :
    tLc (iList K (tC (.ref p))) (gName j) tYes te vs σ H1 Q := by
  have hlen := r.len
  refine ⟨p, rfl, ⟨xs, sq_of hp⟩, fun Dl hD => ?_⟩
  have hDa := hd.ne hD
  refine lc_it (walk_list (K := K) (a := p) (xs := xs)) (fun i H' => i ≤ xs.length ∧ ∃ acc es, H' Dl = some (.lst acc) ∧ RpAll K H' acc es ∧ es.length = i ∧ (∀ e ∈ es, M e) ∧ D.cleanL es = true ∧ Bt a H1 H' ∧ DiceAt H' a)
    ⟨Nat.zero_le _, [], [], upd_same, .nil, rfl, (fun e h => by cases h), rfl, Bt.of (Ex.new hD), hd.ex (Ex.new hD)⟩ (fun i H' _ g => by
      obtain ⟨_, acc, es, _, _, _, _, _, b, _⟩ := g
      exact sq_of (b.at hpa hp)) (fun i x H' H'' hi g y => ?_) (fun H' g => ?_)
  · obtain ⟨_, acc, es, g1, g2, g3, g4, g5, g6, g7⟩ := g
    obtain ⟨rfl, hx⟩ := y
    obtain ⟨d, hdd, rx⟩ := RpAll.get _ _ _ _ (r.bt hc hd g6) hx
    have hm : d ∈ ds := List.mem_of_getElem? hdd
    have hcd : d.clean = true := by
      rw [cleanL_all] at hc
      exact List.all_eq_true.mp hc d hm
    refine ⟨hw _, et_yes H'' (Ex.refl _) _ fun H3 e3 => ?_⟩
    rw [if_pos rfl]
    refine he x d H3 hm (g6.trans (Bt.of e3)) (g7.ex e3) (rx.ex e3) hcd _ fun v e H4 b4 d4 m4 c4 r4 => ?_
    have al : acc.length = i := by rw [g2.len, g3]
    have h4 : H4 Dl = some (.lst acc) := b4.at hDa (e3 _ _ g1)
    refine ⟨acc, h4, sz_lt (by omega), hi, acc ++ [v], es ++ [e], upd_same, ?_, by rw [List.length_append, g3]; rfl, fun z hz => ?_, cleanL_app g5 (Bool.and_eq_true_iff.mpr ⟨c4, rfl⟩), ((g6.trans (Bt.of e3)).trans b4).newU hD, d4.updN hDa.symm⟩
    · exact (((g2.ex e3).bt g5 (g7.ex e3) b4).app (.cons r4 .nil)).exL (ExL.upd h4)
    · rcases List.mem_append.mp hz with hz | hz
      · exact g4 z hz
      · rw [List.mem_singleton.mp hz]
        exact m4
  · obtain ⟨_, acc, es, g1, g2, g3, g4, g5, g6, g7⟩ := g
    exact k Dl acc es H' hD g6 g7 g1 g2 (by omega) g4 g5
end
end K0

namespace K0
open PySem L2 Evl
theorem cr_reprB1 {X : Cx} : CallR X (.builtin "repr") (fun xs H Q => ∃ b, xs = [.bl b] ∧ Q (.str (if b then "True" else "False")) H) := by
  intro pins s σ H xs us Q I r h
  obtain ⟨b, rfl, q⟩ := h
  obtain ⟨u, rfl, rb⟩ := vals1 r
  cases rb
  exact PySem.P.repr_of_bool ⟨.str _, H, I.tok _, ⟨_, rfl⟩, q⟩
/-- repr of a truth value, or of data -/
def rReprU (K : PySem.W.Frag) : List V → Hp → VK → Prop := fun vs H Q => (∃ b, vs = [.bl b] ∧ Q (.str (if b then "True" else "False")) H) ∨ rRepr K vs H Q
theorem cr_reprU {X : Cx} (hg : X.A.guards = some []) (hu : X.A.units + 64 < cLine) : CallR X (.builtin "repr") (rReprU X.K) := by
  intro pins s σ H xs us Q I r h
  rcases h with h | h
  · exact cr_reprB1 pins s σ H xs us Q I r h
  · exact cr_repr hg hu pins s σ H xs us Q I r h
section
variable {K : PySem.W.Frag} {σ : L2.St} {H : Hp} {te ta tb tl : TE} {t : TT} {Q : VK} {g : TG} {vs : List Nat}
theorem lc_drawsA {a : Addr} {M : D → Prop} {n j : Nat} (hd : DiceAt H a) (hn : n ≤ 1000) (hw : ∀ x, wipe ((wipe σ vs).set j (some x)) vs = wipe σ vs) (hx : ∀ i : Int, EvX K a te ((wipe σ vs).set j (some (.int i))) M)
    (k : ∀ p xs ds H2, H p = none → Bt a H H2 → DiceAt H2 a → H2 p = some (.lst xs) → RpAll K H2 xs ds → ds.length = n → (∀ d ∈ ds, M d) → D.cleanL ds = true → Q (.ref p) H2) : tLc (iRng1 (tCons (tC (.int (n : Int))) tNil)) (gName j) tYes te vs σ H Q := by
  unfold tLc
  exact n_rng1 (n_cons (n_cK (n_nil ⟨(n : Int), rfl, by omega, by omega, by
    have := l_draws (K := K) (M := M) (Q := Q) (te := te) (vs := vs) (σ := σ) (j := j) (n := n) hd hn hw hx k
    simpa using this⟩)))
theorem lc_var {i : Nat} {v : V} (hv : σ[i]? = some (some v)) (h : tLc (iList K (tC v)) g t te vs σ H Q) : tLc (iList K (tVar i)) g t te vs σ H Q := ⟨v, hv, h⟩
theorem ev_ltK {z : List D} {d e : D} (hz : Zok z) (h1 : EvD K ta σ H (kD z d)) (h2 : EvD K tb σ H (kD z e)) (hd : d.plain 12 = true) (he : e.plain 12 = true) : Ev (tOp (rLtK K z) ta tb) σ H (.bl (ltD d e)) := fun H1 e1 Q q =>
  h1 H1 e1 _ fun v H2 e2 r1 => h2 H2 (e1.trans e2) _ fun u H3 e3 r2 => ⟨d, e, r1.ex e3, r2, plain_rkd d 12 hd, plain_rkd e 12 he, by have := kD_depth hz d 12 hd; omega, q H3 (e2.trans e3)⟩
theorem ed_rank {E : XK} {d : D} (h : EvD K te σ H d) (hp : d.plain 12 = true) (hs : d.size ≤ 29000) : EvD K (tCall (sp_keyOf K [.int 0] 12) [] E (tCons te tNil)) σ H (kD [.int 0] d) := fun H1 e Q q =>
  d_raw (n_cons (h H1 e _ fun v H2 e2 rv => n_nil ⟨v, _, rfl, rv, by omega, hp, fun u H3 e3 r => q u H3 (e2.trans e3) r⟩))
theorem ev_less {E : XK} {d e : D} (h1 : EvD K ta σ H d) (h2 : EvD K tb σ H e) (hd : d.plain 12 = true) (he : e.plain 12 = true) (sd : d.size ≤ 29000) (se : e.size ≤ 29000) : Ev (tCall (sp_is_less K) [] E (tCons ta (tCons tb tNil))) σ H (.bl (ltD d e)) := fun H1 e1 Q q =>
  d_raw (n_cons (h1 H1 e1 _ fun v H2 e2 r1 => n_cons (h2 H2 (e1.trans e2) _ fun u H3 e3 r2 => n_nil ⟨v, d, u, e, rfl, r1.ex e3, sd, hd, r2, se, he, fun H4 e4 => q H4 ((e2.trans e3).trans e4)⟩)))
theorem ed_ordered {E : XK} {ds : List D} (h : EvD K te σ H (.tup ds)) (hs : (K0.D.tup ds).size ≤ 29000) (hp : (K0.D.tup ds).plain 12 = true) (hl : ds.length ≤ 900) : EvD K (tCall (sp_ordered K) [] E (tCons te tNil)) σ H (.tup (ordD ds)) := fun H1 e Q q =>
  d_raw (n_cons (h H1 e _ fun v H2 e2 rv => n_nil ⟨v, ds, rfl, rv, hs, hp, hl, fun u H3 e3 r => q u H3 (e2.trans e3) r⟩))
theorem et_truB {b : Bool} (h : Ev te σ H (.bl b)) : EvT (fun σ H Q => te σ H fun x H' => ∃ k, TruV K x H' k ∧ Q k H') σ H b := fun H1 e Q q => h H1 e _ fun H2 e2 => ⟨b, rfl, q H2 e2⟩
theorem ev_reprBU {b : Bool} (h : Ev te σ H (.bl b)) : Ev (tCB (rReprU K) (tCons te tNil)) σ H (.str (if b then "True" else "False")) := ev_cb (ea_cons h ea_nil) fun H1 _ Q q => .inl ⟨b, rfl, q H1 (Ex.refl _)⟩
theorem ev_reprDU {ds : List D} (h : EvD K te σ H (.tup ds)) (hp : (K0.D.tup ds).plain 12 = true) (hs : (K0.D.tup ds).size ≤ 15000) : Ev (tCB (rReprU K) (tCons te tNil)) σ H (.str (K0.D.tup ds).py.shown) := fun H1 e Q q => h H1 e _ fun v H2 e2 rv => by
  obtain ⟨f1, f2, f3, f4, f5⟩ := plain_facts (.tup ds) 12 hp
  obtain ⟨a, xs, rfl, ha, hr⟩ := rv.tupI
  exact n_nil (.inr ⟨a, _, rfl, rv.dp f1, f4, PyData.hasDict_of_canLay _ f2, by omega, by rw [sizeLine_eq]; omega, q H2 e2⟩)
theorem perm_rp {xs ys : List V} (h : ys.Perm xs) : ∀ {ds : List D}, RpAll K H xs ds → ∃ ms, RpAll K H ys ms ∧ ms.Perm ds := by
  induction h with
  | nil => exact fun r => ⟨_, r, List.Perm.refl _⟩
  | cons x _ ih =>
    intro ds r
    cases r with
    | cons a b =>
      obtain ⟨ms, r1, p1⟩ := ih b
      exact ⟨_, .cons a r1, p1.cons _⟩
  | swap x y l =>
    intro ds r
    cases r with
    | cons a b =>
      cases b with
      | cons b c => exact ⟨_, .cons b (.cons a c), List.Perm.swap _ _ _⟩
  | trans _ _ ih1 ih2 =>
    intro ds r
    obtain ⟨ms, r1, p1⟩ := ih2 r
    obtain ⟨ns, r2, p2⟩ := ih1 r1
    exact ⟨ns, r2, p2.trans p1⟩
/-- a comprehension over zip of two tuples, none of which passes the test -/
theorem el_lcZ0 {a : Addr} {xs ys : List V} {t1 t2 : TE} {n : Nat} (h1 : Ev t1 σ H (.ref a)) (hx : SqT K H a xs) (h2 : EvW K t2 σ H ys) (hn : n = min xs.length ys.length) (hz : n ≤ 40000)
    (hg : ∀ (i : Nat) (x y : V) (T : Addr) (H' : Hp), Ex H H' → xs[i]? = some x → ys[i]? = some y → H' T = some (.tup [x, y]) → ∃ σ2, (∀ k : L2.St → Hp → Prop, k σ2 H' → g (.ref T) (wipe σ vs) H' k) ∧ wipe σ2 vs = wipe σ vs ∧ EvT t σ2 H' false) :
    EvL (tLc (RZ.iZipA K (tCons t1 (tCons t2 tNil))) g t te vs) σ H [] := fun H0 e Q q =>
  h1 H0 e _ fun H1 e1 => h2 H1 (e.trans e1) _ fun b H2 e2 hy => ⟨a, b, xs, ys, rfl, Or.inr ⟨ex_t ((e.trans e1).trans e2) hx, hy, fun Dl hD => by
    have e02 := (e.trans e1).trans e2
    refine lc_it (walk_zipT hn) (fun _ H' => Ex H2 H' ∧ H' Dl = some (.lst [])) ⟨Ex.new hD, upd_same⟩ (fun i H' _ p => ⟨ex_t p.1 (ex_t e02 hx), ex_t p.1 hy⟩) (fun i w H' H'' hi p yp => ?_) (fun H' p => ?_)
    · obtain ⟨T, x, y, rfl, hT, rfl, ex, ey⟩ := yp
      obtain ⟨σ2, k1, k2, k3⟩ := hg i x y T (upd H' T (.tup [x, y])) ((e02.trans p.1).trans (Ex.new hT)) ex ey upd_same
      have hne : Dl ≠ T := ne_of_none p.2 hT
      refine k1 _ ⟨k2, k3 _ (Ex.refl _) _ fun H3 e3 => ?_⟩
      rw [if_neg (by decide)]
      exact ⟨(p.1.trans (Ex.new hT)).trans e3, e3 _ _ (by rw [upd_ne hne]; exact p.2)⟩
    · exact q Dl H' (fresh_back (e1.trans e2) hD) ((e1.trans e2).trans p.1) p.2⟩⟩
theorem ev_eqLN {ds es : List D} {n : Nat} (h1 : EvDL K ta σ H ds) (h2 : EvDL K tb σ H es) (fd : ∀ d ∈ ds, d.fine n = true) (fe : ∀ d ∈ es, d.fine n = true) (hn : n + 1 ≤ 64) :
    Ev (tOp (rEqD K) ta tb) σ H (.bl (PyData.eqvAll (K0.D.pyL ds) (K0.D.pyL es))) := fun H1 e Q q => h1 H1 e _ fun p0 xs H2 hp0 e2 hx rx => h2 H2 (e.trans e2) _ fun p ys H3 hp e3 h3 ry =>
  ⟨.list (K0.D.pyL ds), .list (K0.D.pyL es), dpL (e3 _ _ hx) (rx.ex e3) (fine_all ds fd).1, dpL h3 ry (fine_all es fe).1, shapedL_of fd hn, shapedL_of fe hn, q H3 (e2.trans e3)⟩
theorem ed_to3 {ds es : List D} (h : EvD K te σ H (.tup ds)) (q : ds = es) : EvD K te σ H (.tup es) := q ▸ h
theorem edl_of0 (h : EvL te σ H []) : EvDL K te σ H [] := fun H1 e Q q => h H1 e Q fun p H2 hp e2 h2 => q p [] H2 hp e2 h2 .nil
theorem sizeL_all : ∀ (l : List D) (m : Nat), (∀ d, d ∈ l → d.size ≤ m) → K0.D.sizeL l ≤ l.length * m
  | [], _, _ => Nat.zero_le _
  | d :: l, m, h => by
    have a := h d (List.mem_cons_self ..)
    have b := sizeL_all l m fun x hx => h x (List.mem_cons_of_mem _ hx)
    simp only [K0.D.sizeL, List.length_cons, Nat.succ_mul]
    omega
end
section
variable {P : Program} {w : World} {K : PySem.W.Frag} {mg : Str → Option Value} {base : Heap} {A : Ad} {D : Fd}
def sp_law_right (K : PySem.W.Frag) : Sp := fun vs H Q _ => ∃ a, vs = [.ref a] ∧ DiceAt H a ∧ ∀ H', Bt a H H' → DiceAt H' a → Q (.bl true) H'
theorem ok_law_right (T : Txt K mg A D) : FnG P w K mg base CX0 40 A.law_right D.law_right ["dice"] (sp_law_right K) := by
  have G_law_va_plain := ok_law_va_plain (P := P) (w := w) (base := base) T 3
  have G_law_va_near := ok_law_va_near (P := P) (w := w) (base := base) T
  have G_law_va_rank := ok_law_va_rank (P := P) (w := w) (base := base) T 12
  have G_is_less := ok_is_less (P := P) (w := w) (base := base) T
  have G_ordered := ok_ordered (P := P) (w := w) (base := base) T
  have G_law_ordered := ok_law_ordered (P := P) (w := w) (base := base) T
  have G_law_mixed : FnOk P w K mg base CX0 2 A.law_mixed D.law_mixed ["dice", "items"] (sp_law_mixed K) := ok_law_mixed T
  refine okG T.F_law_right sc_law_right (fun vs H Q E h => by obtain ⟨a, rfl, _⟩ := h; rfl) (fun cdv A0 outer s H vs Q E _ gd hr h => ?_)
  refine ⟨_, PSs.nox (pss_cons (ps_setLc (i := 1) (own := [("turn", 2)]) (g := gName 2) (tt := tYes) rfl sc_law_right.nd rfl rfl (sw_true rfl rfl rfl (by decide +kernel)) (pi_range1 rfl T.b_range (pa_cons pe_int pa_nil)) (blkOk_by (own := [("turn", 2)]) (N := N_law_right) (sc := defScope s_law_right) (by decide +kernel)) (fun _ _ _ _ _ => by exact pg_name (i := 2) sc_law_right.nd rfl (Or.inl rfl)) (fun _ _ _ _ _ => by exact pts_nil) (fun _ _ _ _ _ => by exact (pe_call G_law_va_plain (hr.mono (by decide)) rfl T.g_law_va_plain T.F_law_va_plain.kp T.b_law_va_plain .nil pass0 (pa_cons (pv 0) (pa_cons pe_int pa_nil)))))
  (pss_cons (ps_set (i := 1) sc_law_right.nd rfl (Or.inl rfl) (pe_op op_cat (pv 1) (pe_lc (own := [("value", 3)]) (g := gName 3) (tt := tYes) rfl sc_law_right.nd (pi_list (pv 1)) (blkOk_by (own := [("value", 3)]) (N := N_law_right) (sc := defScope s_law_right) (by decide +kernel)) (fun _ _ _ _ _ => by exact pg_name (i := 3) sc_law_right.nd rfl (Or.inl rfl)) (fun _ _ _ _ _ => by exact pts_nil) (fun _ _ _ _ _ => by exact (pe_call G_law_va_near (hr.mono (by decide)) rfl T.g_law_va_near T.F_law_va_near.kp T.b_law_va_near .nil pass0 (pa_cons (pv 0) (pa_cons (pv 3) pa_nil)))))))
  (pss_cons (ps_for PassesOwn.never rfl (pi_list (pv 1)) (pg_name (i := 4) sc_law_right.nd rfl (Or.inl rfl)) (pss_one (ps_for PassesOwn.never rfl (pi_list (pv 1)) (pg_name (i := 5) sc_law_right.nd rfl (Or.inl rfl)) (pss_cons (ps_set (i := 6) sc_law_right.nd rfl (Or.inl rfl) (pe_cmpR (op_ltK (z := [.int 0]) (.inr rfl) hr.units) (pe_call G_law_va_rank (hr.mono (by decide)) rfl T.g_law_va_rank T.F_law_va_rank.kp T.b_law_va_rank .nil pass0 (pa_cons (pv 4) pa_nil)) (pe_call G_law_va_rank (hr.mono (by decide)) rfl T.g_law_va_rank T.F_law_va_rank.kp T.b_law_va_rank .nil pass0 (pa_cons (pv 5) pa_nil)) (nomark _)))
  (pss_one (ps_if (PW.pt (pw_or (pt_cmpR op_ne (pe_callB (cr_reprU gd hr.units) (by rfl) T.b_repr (by decide +kernel) (pa_cons (pe_call G_is_less (hr.mono (by decide)) rfl T.g_is_less T.F_is_less.kp T.b_is_less .nil pass0 (pa_cons (pv 4) (pa_cons (pv 5) pa_nil))) pa_nil)) (pe_callB (cr_reprU gd hr.units) (by rfl) T.b_repr (by decide +kernel) (pa_cons (pv 6) pa_nil)) (nomark _)) (pw_or (PW.pt (pw_and (pt_truth (pv 6) (by intro _; rfl)) (pw_and1 (pt_val (pe_call G_is_less (hr.mono (by decide)) rfl T.g_is_less T.F_is_less.kp T.b_is_less .nil pass0 (pa_cons (pv 5) (pa_cons (pv 4) pa_nil))))))) (pw_or1 (PW.pt (pw_and (pt_not (pt_truth (pv 6) (by intro _; rfl))) (pw_and (pt_not (pt_val (pe_call G_is_less (hr.mono (by decide)) rfl T.g_is_less T.F_is_less.kp T.b_is_less .nil pass0 (pa_cons (pv 5) (pa_cons (pv 4) pa_nil))))) (pw_and1 (pt_cmpR (op_neD hr.units) (pv 4) (pv 5) (nomark _)))))))))) (pss_one (ps_ret pe_bl)) pss_nil))))))
  (pss_cons (ps_par (i := 6) (j := 7) (by rfl) sc_law_right.nd rfl rfl (by decide) rfl rfl (pa_cons (pe_call G_law_ordered (hr.mono (by decide)) rfl T.g_law_ordered T.F_law_ordered.kp T.b_law_ordered .nil pass0 (pa_cons (pv 1) pa_nil)) (pa_cons (pe_call G_ordered (hr.mono (by decide)) rfl T.g_ordered T.F_ordered.kp T.b_ordered .nil pass0 (pa_cons (pe_callTy call_tuple_of (by rfl) T.b_tuple (by decide +kernel) (pa_cons (pv 1) pa_nil)) pa_nil)) pa_nil)) (by rfl))
  (pss_cons (ps_if (PW.pt (pw_or (pt_cmpR (op_neD hr.units) (pv 7) (pv 6) (nomark _)) (pw_or (pt_cmpR op_ne (pe_callB (cr_reprU gd hr.units) (by rfl) T.b_repr (by decide +kernel) (pa_cons (pv 7) pa_nil)) (pe_callB (cr_reprU gd hr.units) (by rfl) T.b_repr (by decide +kernel) (pa_cons (pv 6) pa_nil)) (nomark _)) (pw_or (pt_cmpR (op_neD hr.units) (pe_call G_ordered (hr.mono (by decide)) rfl T.g_ordered T.F_ordered.kp T.b_ordered .nil pass0 (pa_cons (pe_callTy call_tuple_of (by rfl) T.b_tuple (by decide +kernel) (pa_cons (pe_call G_law_mixed (hr.mono (by decide)) rfl T.g_law_mixed T.F_law_mixed.kp T.b_law_mixed .nil pass0 (pa_cons (pv 0) (pa_cons (pv 1) pa_nil))) pa_nil)) pa_nil)) (pv 6) (nomark _)) (pw_or1 (pt_cmpR (op_neD hr.units) (pe_call G_ordered (hr.mono (by decide)) rfl T.g_ordered T.F_ordered.kp T.b_ordered .nil pass0 (pa_cons (pv 7) pa_nil)) (pv 6) (nomark _))))))) (pss_one (ps_ret pe_bl)) pss_nil)
  (pss_one (ps_ret (pe_and (pe_cmpR (op_eqD hr.units) (pe_lc (own := [("one", 4), ("other", 5)]) (g := gTup K 2 (gCons (gName 4) (gCons (gName 5) gNil)))  rfl sc_law_right.nd (RZ.pi_zipA (by rfl) T.b_zip (pa_cons (pv 7) (pa_cons (pe_slice sl_tupA (pv 7) (po_some pe_int) po_none) pa_nil))) (blkOk_by (own := [("one", 4), ("other", 5)]) (N := N_law_right) (sc := defScope s_law_right) (by decide +kernel)) (fun _ _ _ _ _ => by exact (pg_tup rfl (pgs_cons (pg_name (i := 4) sc_law_right.nd rfl (Or.inl rfl)) (pgs_cons (pg_name (i := 5) sc_law_right.nd rfl (Or.inl rfl)) pgs_nil)))) (fun _ _ _ _ _ => by exact (pts_one (pt_not (pt_val (pe_call G_is_less (hr.mono (by decide)) rfl T.g_is_less T.F_is_less.kp T.b_is_less .nil pass0 (pa_cons (pv 4) (pa_cons (pv 5) pa_nil))))))) (fun _ _ _ _ _ => by exact pe_int)) (pe_lst pa_nil) (nomark _)) (pe_one (pe_cmpR (op_eqD hr.units) (pe_call G_ordered (hr.mono (by decide)) rfl T.g_ordered T.F_ordered.kp T.b_ordered .nil pass0 (pa_cons (pe_op op_catA (pe_callTy call_tuple_of (by rfl) T.b_tuple (by decide +kernel) (pa_cons (pv 1) pa_nil)) (pv 7)) pa_nil)) (pv 6) (nomark _))))))))))), ?_⟩
  obtain ⟨a, rfl, hd, k⟩ := h
  refine q_asgX ?_
  refine lc_drawsA (K := K) (M := MPl 3) (n := 5) hd (by omega) (fun _ => rfl) (fun i H6 d6 Q' q' => ?_) fun p xs ds H1 hp b1 d1 h1 r1 l1 m1 c1 => ?_
  · exact c_call (ea_cons (ev_var rfl) (ea_cons ev_c ea_nil)) fun H7 e7 => ⟨a, rfl, d6.ex e7, fun v d H8 b8 d8 m8 c8 r8 => q' v d H8 ((Bt.of e7).trans b8) d8 m8 c8 r8⟩
  have hpa : p ≠ a := hd.ne hp
  refine q_asgX (n_op (n_var rfl ?_))
  refine lc_var (K := K) (v := .ref p) rfl (lc_bt (K := K) (M := MNr) h1 hpa r1 c1 d1 (by omega) (fun _ => rfl) (fun x d H2 hm b2 d2 rx cd Q' q' => ?_) fun q ys es H2 hq b2 d2 h2 r2 l2 m2 c2 => ?_)
  · exact c_call (ea_cons (ev_var rfl) (ea_cons (ev_var rfl) ea_nil)) fun H3 e3 => ⟨a, x, d, rfl, d2.ex e3, rx.ex e3, cd, m1 d hm, fun v e H4 b4 d4 m4 c4 r4 => q' v e H4 ((Bt.of e3).trans b4) d4 m4 c4 r4⟩
  have p2 : H2 p = some (.lst xs) := b2.at hpa h1
  refine ⟨p, q, xs, ys, rfl, rfl, p2, h2, by rw [r1.len, r2.len]; exact sz_of (by omega), fun L hL => ?_⟩
  obtain ⟨gs, hgs⟩ : ∃ gs : List K0.D, gs = ds ++ es := ⟨_, rfl⟩
  have hlen : gs.length = 10 := by rw [hgs, List.length_append, l2, l1]
  have rr : RpAll K (L2.upd H2 L (.lst (xs ++ ys))) (xs ++ ys) gs := by
    rw [hgs]
    exact ((r1.bt c1 d1 b2).app r2).ex (Ex.new hL)
  have hN : ∀ d, d ∈ gs → MNr d := fun d hm => by
    rw [hgs] at hm
    rcases List.mem_append.mp hm with hm | hm
    · have := m1 d hm
      exact ⟨plain_upP (plain_upP (plain_upP (plain_upP (plain_upP (plain_upP (plain_upP this.1)))))), Nat.le_trans this.2 (by decide)⟩
    · exact m2 d hm
  have cg : K0.D.cleanL gs = true := by rw [hgs]; exact cleanL_app c1 c2
  have hg12 : ∀ d, d ∈ gs → d.plain 12 = true := fun d hm => plain_upP (hN d hm).1
  have hgsz : ∀ d, d ∈ gs → d.size ≤ 29000 := fun d hm => Nat.le_trans (hN d hm).2 (by decide)
  have rk : RK gs := fun d hm => plain_rkd d 12 (hg12 d hm)
  have hLa : L ≠ a := d2.ne hL
  have bL : Bt a H (L2.upd H2 L (.lst (xs ++ ys))) := (b1.trans b2).trans (Bt.of (Ex.new hL))
  have dL : DiceAt (L2.upd H2 L (.lst (xs ++ ys))) a := d2.ex (Ex.new hL)
  have hLs : (L2.upd H2 L (.lst (xs ++ ys))) L = some (.lst (xs ++ ys)) := upd_same
  obtain ⟨zs, hzs⟩ : ∃ zs, zs = xs ++ ys := ⟨_, rfl⟩
  rw [← hzs] at rr bL dL hLs ⊢
  obtain ⟨Hs, hHs⟩ : ∃ Hs, Hs = L2.upd H2 L (.lst zs) := ⟨_, rfl⟩
  rw [← hHs] at rr bL dL hLs ⊢
  refine q_forLn (ev_var rfl) (sq_of hLs) (fun i σ' H' => ∃ v4 v5 v6, σ' = [some (.ref a), some (.ref L), none, none, v4, v5, v6, none] ∧ Ex Hs H') (fun H3 e3 => ⟨_, _, _, rfl, e3⟩) (fun i σ' H' _ g => by
    obtain ⟨_, _, _, _, e⟩ := g
    exact sq_of (e _ _ hLs)) (fun i x σ' H' hi g => ?_) (fun σ' H' g => ?_)
  · obtain ⟨v4, v5, v6, rfl, e3⟩ := g
    obtain ⟨d, hd1, rx⟩ := RpAll.get _ _ _ _ rr hi
    have hdm : d ∈ gs := List.mem_of_getElem? hd1
    refine s_forLn (ev_var rfl) (sq_of (e3 _ _ hLs)) (fun j σ' H' => ∃ v5 v6, σ' = [some (.ref a), some (.ref L), none, none, some x, v5, v6, none] ∧ Ex Hs H') (fun H4 e4 => ⟨_, _, rfl, e3.trans e4⟩) (fun i σ' H' _ g => by
      obtain ⟨_, _, _, e⟩ := g
      exact sq_of (e _ _ hLs)) (fun j y σ' H' hj g => ?_) (fun σ' H' g => ?_)
    · obtain ⟨v5, v6, rfl, e4⟩ := g
      obtain ⟨e, he1, ry⟩ := RpAll.get _ _ _ _ rr hj
      have hem : e ∈ gs := List.mem_of_getElem? he1
      have pd := hg12 d hdm
      have pe := hg12 e hem
      have sd := hgsz d hdm
      have se := hgsz e hem
      have z0 : Zok [K0.D.int 0] := .inr rfl
      refine q_asg (v := .bl (ltD d e)) (ev_ltK z0 (ed_rank (ed_ev (ev_var rfl) (rx.ex e4)) pd sd) (ed_rank (ed_ev (ev_var rfl) (ry.ex e4)) pe se) pd pe) fun H5 e5 => ?_
      have e45 := e4.trans e5
      have t1 := et_test (ev_op (ev_reprBU (K := K) (ev_less (E := E0) (ed_ev (ev_var (i := 4) (σ := [some (.ref a), some (.ref L), none, none, some x, some y, some (.bl (ltD d e)), none]) rfl) (rx.ex e45)) (ed_ev (ev_var (i := 5) rfl) (ry.ex e45)) pd pe sd se)) (ev_reprBU (K := K) (b := ltD d e) (ev_var (i := 6) rfl)) (rv_ne rfl))
      have less2 := et_B (ev_less (K := K) (E := E0) (ed_ev (ev_var (i := 5) (σ := [some (.ref a), some (.ref L), none, none, some x, some y, some (.bl (ltD d e)), none]) rfl) (ry.ex e45)) (ed_ev (ev_var (i := 4) rfl) (rx.ex e45)) pe pd se sd)
      have trd := et_truB (K := K) (b := ltD d e) (σ := [some (.ref a), some (.ref L), none, none, some x, some y, some (.bl (ltD d e)), none]) (H := H5) (ev_var (i := 6) rfl)
      refine s_when (b := false) (et_is (et_or (a := false) (b := false) (et_is t1 (by rw [decide_eq_true rfl]; rfl)) fun _ => et_is (et_or (a := false) (b := false) (et_is (et_and trd fun _ => less2) ?_) fun _ => et_is (et_and (et_not trd) fun _ => et_and (et_not less2) fun _ => et_test (ev_neD (n := 13) (ed_ev (ev_var rfl) (rx.ex e45)) (ed_ev (ev_var rfl) (ry.ex e45)) (plain_fine pd) (plain_fine pe) (by decide))) ?_) rfl) rfl) (fun zz => by cases zz) fun _ H6 e6 => ⟨_, _, rfl, e45.trans e6⟩
      · cases q1 : ltD d e with
        | false => rfl
        | true => rw [ltD_asym q1]; rfl
      · cases q1 : ltD d e with
        | true => rfl
        | false =>
          cases q2 : ltD e d with
          | true => rfl
          | false =>
            have := ltD_total (rk d hdm) (rk e hem) q1 q2
            rw [(eqv_iff pd pe).mpr this]
            rfl
    · obtain ⟨v5, v6, rfl, e4⟩ := g
      exact ⟨_, _, _, rfl, e4⟩
  · obtain ⟨v4, v5, v6, rfl, e3⟩ := g
    have hL3 := e3 _ _ hLs
    have rr3 := rr.ex e3
    have hgp : (K0.D.tup gs).plain 12 = true := List.all_eq_true.mpr fun d hm => (hN d hm).1
    have hg1 := sizeL_all gs 100 fun d hm => (hN d hm).2
    have hPL : PL gs := fun d hm => ⟨hg12 d hm, hgsz d hm⟩
    obtain ⟨hsa, hmem⟩ := ordD_facts rk
    obtain ⟨os, hos⟩ : ∃ os, os = ordD gs := ⟨_, rfl⟩
    have hol := ordD_len gs
    rw [← hos] at hsa hmem hol
    have hop : (K0.D.tup os).plain 12 = true := List.all_eq_true.mpr fun d hm => (hN d ((hmem d).mp hm)).1
    have ho1 := sizeL_all os 100 fun d hm => (hN d ((hmem d).mp hm)).2
    have hos1 : (K0.D.tup os).size ≤ 1100 := by
      simp only [K0.D.size]
      have : os.length * 100 ≤ 10 * 100 := Nat.mul_le_mul_right _ (by omega)
      omega
    have hgs1 : (K0.D.tup gs).size ≤ 1100 := by
      simp only [K0.D.size]
      rw [hlen] at hg1
      omega
    have cos : (K0.D.tup os).clean = true := (plain_facts (.tup os) 12 hop).1
    have fo := plain_fine hop
    have eoo : PyData.eqv (K0.D.tup os).py (K0.D.tup os).py = true := eqv_self _ cos
    refine q_par (n_cons (c_call (ea_cons (ev_var rfl) ea_nil) fun H4 e4 => ⟨L, zs, gs, rfl, sq_of (e4 _ _ hL3), rr3.ex e4, hPL, by omega, fun v H5 e5 rv => n_cons ((ed_ordered (K := K) (ed_tupOf (ev_var rfl) ((e4.trans e5) _ _ hL3) (rr3.ex (e4.trans e5))) (by omega) hgp (by omega)) H5 (Ex.refl _) _ fun u H6 e6 ru => n_nil ⟨v, u, rfl, ?_⟩)⟩))
    rw [← hos] at rv ru
    have e36 := (e4.trans e5).trans e6
    have rv6 := rv.ex e6
    have hL6 := e36 _ _ hL3
    have rr6 := rr3.ex e36
    have d6 := (dL.ex e3).ex e36
    refine G.n_when (n_or ?_)
    refine (et_is (et_test (ev_neD (K := K) (n := 13) (ed_ev (ev_var rfl) ru) (ed_ev (ev_var rfl) rv6) fo fo (by decide))) (by rw [eoo]; rfl) : EvT _ _ _ false) H6 (Ex.refl _) _ fun H7 e7 => ?_
    rw [if_neg (by decide)]
    refine n_or ?_
    refine (et_is (et_test (ev_op (ev_reprDU (K := K) (ed_ev (ev_var rfl) (ru.ex e7)) hop (by omega)) (ev_reprDU (K := K) (ed_ev (ev_var rfl) (rv6.ex e7)) hop (by omega)) (rv_ne rfl))) (by rw [decide_eq_true rfl]; rfl) : EvT _ _ _ false) H7 (Ex.refl _) _ fun H8 e8 => ?_
    rw [if_neg (by decide)]
    refine n_or ?_
    have e68 := e7.trans e8
    refine G.n_test (n_op (d_raw (n_cons (n_cb (n_cons (c_call (ea_cons (ev_var rfl) (ea_cons (ev_var rfl) ea_nil)) fun H9 e9 => ⟨a, L, zs, rfl, d6.ex (e68.trans e9), hLa, .inl (sq_of ((e68.trans e9) _ _ hL6)), by rw [rr.len]; omega, fun q2 ys2 H10 hq2 b10 d10 h10 pm => n_nil ⟨q2, ys2, rfl, .inl ⟨sq_of h10, fun l2 hl2 => ?_⟩⟩⟩))))))
    have d9 := d6.ex (e68.trans e9)
    obtain ⟨ms, rms, pms⟩ := perm_rp (K := K) pm ((rr6.ex (e68.trans e9)).bt cg d9 b10)
    have hml := pms.length_eq
    have hmN : ∀ d, d ∈ ms → MNr d := fun d hm => hN d (pms.mem_iff.mp hm)
    have hmp : (K0.D.tup ms).plain 12 = true := List.all_eq_true.mpr fun d hm => (hmN d hm).1
    have hm1 := sizeL_all ms 100 fun d hm => (hmN d hm).2
    have hms : (K0.D.tup ms).size ≤ 29000 := by
      simp only [K0.D.size]
      rw [hml, hlen] at hm1
      omega
    have hom : ordD ms = os := by
      rw [hos]
      exact ordD_same rk (fun d hm => plain_rkd d 12 (plain_upP (hmN d hm).1)) fun x => pms.mem_iff
    refine n_nil ⟨.ref l2, ms, rfl, .tup (st_of upd_same) (rms.ex (Ex.new hl2)), hms, hmp, by omega, fun u2 H11 e11 r11 => n_var rfl ?_⟩
    rw [hom] at r11
    have b911 : Bt a H9 H11 := (b10.trans (Bt.of (Ex.new hl2))).trans (Bt.of e11)
    have d11 : DiceAt H11 a := (d10.ex (Ex.new hl2)).ex e11
    have ru11 := (ru.ex (e68.trans e9)).bt cos d9 b911
    have rv11 := (rv6.ex (e68.trans e9)).bt cos d9 b911
    have hL11 := b911.at hLa ((e68.trans e9) _ _ hL6)
    have rr11 := (rr6.ex (e68.trans e9)).bt cg d9 b911
    refine rv_neD (K := K) (n := 13) r11 rv11 fo fo (by decide) H11 (Ex.refl _) _ fun H12 e12 => ⟨_, rfl, ?_⟩
    rw [eoo, if_neg (by decide)]
    refine (et_is (et_test (ev_neD (K := K) (n := 13) (ed_to3 (ed_ordered (K := K) (ed_ev (ev_var rfl) (ru11.ex e12)) (by omega) hop (by omega)) (ordD_uniq (fun d hm => rk d ((hmem d).mp hm)) hsa fun x => Iff.rfl)) (ed_ev (ev_var rfl) (rv11.ex e12)) fo fo (by decide))) (by rw [eoo]; rfl) : EvT _ _ _ false) H12 (Ex.refl _) _ fun H13 e13 => ?_
    rw [if_neg (by decide)]
    have e113 := e12.trans e13
    obtain ⟨t, us, rfl, hT, rT⟩ := (ru11.ex e113).tupI
    have rv13 := rv11.ex e113
    have hL13 := e113 _ _ hL11
    have rr13 := rr11.ex e113
    have hul := rT.len
    have n1 : Ev (tOp (rEqD K) (tLc (RZ.iZipA K (tCons (tVar 7) (tCons (tSl (rSlA K) (tVar 7) (tPart (tC (V.int 1))) tNoPart) tNil))) (gTup K 2 (gCons (gName 4) (gCons (gName 5) gNil))) (tNot (tB (tCall (sp_is_less K) [] E0 (tCons (tVar 4) (tCons (tVar 5) tNil))))) (tC (V.int 1)) [4, 5]) (tLst tNil))
        [some (.ref a), some (.ref L), none, none, v4, v5, some v, some (.ref t)] H13 (.bl true) := by
      refine ev_eqLN (K := K) (n := 1) (ds := []) (es := []) (edl_of0 ?_) (G.edl_lst eda_nil (by decide)) (fun d hd => by cases hd) (fun d hd => by cases hd) (by decide)
      refine el_lcZ0 (K := K) (ys := us.drop 1) (ev_var rfl) hT ?_ rfl (by rw [List.length_drop]; omega) fun i x y T H' ex hx hy hT2 => ?_
      · have := ew_sl (K := K) (lo := some 1) (hi := none) (ev_var rfl : Ev (tVar 7) [some (.ref a), some (.ref L), none, none, v4, v5, some v, some (.ref t)] H13 (.ref t)) (eo_some ev_c) eo_none hT
        rw [cut1] at this
        exact this
      · rw [List.getElem?_drop, Nat.add_comm] at hy
        obtain ⟨d, hd2, rx⟩ := RpAll.get _ _ _ _ rT hx
        obtain ⟨e, he2, ry⟩ := RpAll.get _ _ _ _ rT hy
        have hdm := (hmem d).mp (List.mem_of_getElem? hd2)
        have hem := (hmem e).mp (List.mem_of_getElem? he2)
        refine ⟨[some (.ref a), some (.ref L), none, none, some x, some y, some v, some (.ref t)], fun kk hk => ⟨T, _, rfl, st_of hT2, rfl, _, _, rfl, _, _, rfl, rfl, hk⟩, rfl, ?_⟩
        exact et_is (et_not (et_B (ev_less (K := K) (ed_ev (ev_var rfl) (rx.ex ex)) (ed_ev (ev_var rfl) (ry.ex ex)) (hg12 d hdm) (hg12 e hem) (hgsz d hdm) (hgsz e hem)))) (by rw [sa_next hsa i d e hd2 he2]; rfl)
    have sgo : (K0.D.tup (gs ++ os)).size ≤ 29000 := by
      simp only [K0.D.size] at hgs1 hos1 ⊢
      rw [sizeL_app]
      omega
    have pgo : (K0.D.tup (gs ++ os)).plain 12 = true := List.all_eq_true.mpr fun d hm => by
      rcases List.mem_append.mp hm with hm | hm
      · exact (hN d hm).1
      · exact (hN d ((hmem d).mp hm)).1
    have ogo : ordD (gs ++ os) = os := by
      rw [hos]
      refine ordD_same rk (fun d hm => ?_) fun x => ?_
      · rcases List.mem_append.mp hm with hm | hm
        · exact rk d hm
        · rw [← hos] at hm
          exact rk d ((hmem d).mp hm)
      · rw [← hos, List.mem_append, hmem, or_self]
    refine s_ret (ev_is (ev_andV (a := true) (b := true) n1 fun _ => ev_is (ev_eqD (K := K) (n := 13) (ed_to3 (ed_ordered (K := K) (ed_cat (K := K) (ed_tupOf (ev_var rfl) hL13 rr13) (ed_ev (ev_var rfl) (.tup hT rT)) (by omega)) sgo pgo (by rw [List.length_append]; omega)) ogo) (ed_ev (ev_var rfl) rv13) fo fo (by decide)) (by rw [eoo])) rfl) fun H14 e14 => ?_
    exact k H14 ((((bL.trans (Bt.of ((e3.trans e36).trans (e68.trans e9)))).trans b911).trans (Bt.of e113)).trans (Bt.of e14)) ((d11.ex e113).ex e14)
end
end K0

namespace K0
open PySem L2 Evl
abbrev someT : List D := [.tup [.tup [.str "a"], .int 1], .str "a", .tup [], .int 3, .non, .str "a", .tup [.tup [.str "a"]]]
abbrev ordT : List D := [.non, .int 3, .str "a", .tup [], .tup [.tup [.str "a"]], .tup [.tup [.str "a"], .int 1]]
theorem some_rk : RK someT := fun d hd => by
  have : someT.all (fun d => d.rkd) = true := by decide +kernel
  exact List.all_eq_true.mp this d hd
theorem ordT_sa : SA ordT := by
  have h : ∀ l : List D, (List.range l.length).all (fun i => (List.range l.length).all fun j => decide (j ≤ i) || ltD (gt l i) (gt l j)) = true → SA l := fun l h => by
    refine List.pairwise_iff_getElem.mpr fun i j hi hj hij => ?_
    have h1 := List.all_eq_true.mp (List.all_eq_true.mp h i (List.mem_range.mpr hi)) j (List.mem_range.mpr hj)
    rw [decide_eq_false (by omega), Bool.false_or] at h1
    unfold gt at h1
    rw [List.getD_eq_getElem?_getD, List.getD_eq_getElem?_getD, List.getElem?_eq_getElem hi, List.getElem?_eq_getElem hj] at h1
    exact h1
  exact h _ (by decide +kernel)
theorem some_ord : ordD someT = ordT := ordD_uniq some_rk ordT_sa fun x => by
  simp only [List.mem_cons, List.not_mem_nil, or_false]
  constructor
  · rintro (h | h | h | h | h | h) <;> simp [h]
  · rintro (h | h | h | h | h | h | h) <;> simp [h]
theorem nil_ord : ordD [] = [] := ordD_uniq (fun d hd => by cases hd) List.Pairwise.nil fun x => Iff.rfl
section
variable {P : Program} {w : World} {K : PySem.W.Frag} {mg : Str → Option Value} {base : Heap} {A : Ad} {D : Fd}
theorem sq_bt {p b : Addr} {xs : List V} {H H1 H' : Hp} (hp : H p = none) (h : SqL K H b xs) (e : Ex H H1) (g : Bt p H1 H') : SqL K H' b xs := sq_btO hp h e (BtO.ofB g)
/-- two lists of data compared, the first a name's -/
theorem ev_neDL {σ : L2.St} {H : Hp} {ta tb : TE} {ds es : List K0.D} {a : Addr} {xs : List V} {n : Nat} (h1 : Ev ta σ H (.ref a)) (hx : H a = some (.lst xs)) (rx : RpAll K H xs ds) (h2 : EvDL K tb σ H es) (fd : ∀ d ∈ ds, d.fine n = true) (fe : ∀ d ∈ es, d.fine n = true) (hn : n + 1 ≤ 64) :
    Ev (tOp (rNeD K) ta tb) σ H (.bl (!PyData.eqvAll (K0.D.pyL ds) (K0.D.pyL es))) := fun H1 e Q q => h1 H1 e _ fun H2 e2 => h2 H2 (e.trans e2) _ fun p ys H3 hp e3 h3 ry =>
  ⟨.list (K0.D.pyL ds), .list (K0.D.pyL es), dpL (((e.trans e2).trans e3) _ _ hx) (rx.ex ((e.trans e2).trans e3)) (fine_all ds fd).1, dpL h3 ry (fine_all es fe).1, shapedL_of fd hn, shapedL_of fe hn, q H3 (e2.trans e3)⟩
def sp_law (K : PySem.W.Frag) : Sp := fun vs H Q _ => ∃ (a : Addr) (ns : List Int), vs = [.ref a] ∧ SqL K H a (ns.map V.int) ∧ ns.length ≤ 63 ∧ ∀ H', Q (.bl true) H'
abbrev toldB : List K0.D := [.bl true, .bl false, .bl true, .bl false, .bl true, .bl true, .bl false]
theorem toldB_fine : ∀ d ∈ toldB, d.fine 1 = true := fun d hd => List.all_eq_true.mp (show toldB.all (K0.D.fine 1) = true by decide +kernel) d hd
theorem ok_law (T : Txt K mg A D) : FnG P w K mg base CX0 41 A.law D.law ["script"] (sp_law K) := by
  have G_law_dice : FnOk P w K mg base CX0 1 A.law_dice D.law_dice ["script", "spot"] (sp_law_dice K) := ok_law_dice T
  have G_law_right := ok_law_right (P := P) (w := w) (base := base) T
  have G_is_less := ok_is_less (P := P) (w := w) (base := base) T
  have G_ordered := ok_ordered (P := P) (w := w) (base := base) T
  refine okG T.F_law sc_law (fun vs H Q E h => by obtain ⟨a, ns, rfl, _⟩ := h; rfl) (fun cdv A0 outer s H vs Q E _ gd hr h => ?_)
  refine ⟨_, PSs.nox (pss_cons (ps_for PassesOwn.never rfl (pi_range1 rfl T.b_range (pa_cons (pe_callB (call_max2 rfl) (by rfl) T.b_max (by decide +kernel) (pa_cons pe_int (pa_cons (pe_callB (call_min2 rfl) (by rfl) T.b_min (by decide +kernel) (pa_cons pe_int (pa_cons (pe_callB call_len (by rfl) T.b_len (by decide +kernel) (pa_cons (pv 0) pa_nil)) pa_nil))) pa_nil))) pa_nil)) (pg_name (i := 1) sc_law.nd rfl (Or.inl rfl)) (pss_cons (ps_set (i := 2) sc_law.nd rfl (Or.inl rfl) (pe_call G_law_dice (hr.mono (by decide)) rfl T.g_law_dice T.F_law_dice.kp T.b_law_dice .nil pass0 (pa_cons (pv 0) (pa_cons (pv 1) pa_nil))))
  (pss_one (ps_if (PW.pt (pw_or (pt_not (pt_val (pe_callG G_law_right gd (hr.mono (by decide)) rfl T.g_law_right T.F_law_right.kp T.b_law_right pass0 (pa_cons (pv 2) pa_nil)))) (pw_or1 (pt_not (pt_val (pe_callG G_law_right gd (hr.mono (by decide)) rfl T.g_law_right T.F_law_right.kp T.b_law_right pass0 (pa_cons (pv 2) pa_nil))))))) (pss_one (ps_ret pe_bl)) pss_nil))))
  (pss_cons (ps_set (i := 3) sc_law.nd rfl (Or.inl rfl) (pe_lst (pa_cons (pe_call G_is_less (hr.mono (by decide)) rfl T.g_is_less T.F_is_less.kp T.b_is_less .nil pass0 (pa_cons pe_int (pa_cons pe_int pa_nil))) (pa_cons (pe_call G_is_less (hr.mono (by decide)) rfl T.g_is_less T.F_is_less.kp T.b_is_less .nil pass0 (pa_cons pe_str (pa_cons pe_str pa_nil))) (pa_cons (pe_call G_is_less (hr.mono (by decide)) rfl T.g_is_less T.F_is_less.kp T.b_is_less .nil pass0 (pa_cons (pe_tup pa_nil) (pa_cons (pe_tup (pa_cons pe_non pa_nil)) pa_nil))) (pa_cons (pe_call G_is_less (hr.mono (by decide)) rfl T.g_is_less T.F_is_less.kp T.b_is_less .nil pass0 (pa_cons (pe_tup (pa_cons pe_int pa_nil)) (pa_cons (pe_tup (pa_cons pe_int (pa_cons (pe_tup (pa_cons pe_int pa_nil)) pa_nil))) pa_nil))) (pa_cons (pe_call G_is_less (hr.mono (by decide)) rfl T.g_is_less T.F_is_less.kp T.b_is_less .nil pass0 (pa_cons pe_str (pa_cons (pe_tup pa_nil) pa_nil))) (pa_cons (pe_call G_is_less (hr.mono (by decide)) rfl T.g_is_less T.F_is_less.kp T.b_is_less .nil pass0 (pa_cons pe_non (pa_cons (pe_un un_neg pe_int) pa_nil))) (pa_cons (pe_call G_is_less (hr.mono (by decide)) rfl T.g_is_less T.F_is_less.kp T.b_is_less .nil pass0 (pa_cons pe_int (pa_cons pe_int pa_nil))) pa_nil)))))))))
  (pss_cons (ps_if (PW.pt (pw_or (pt_cmpR (op_neD hr.units) (pv 3) (pe_lst (pa_cons pe_bl (pa_cons pe_bl (pa_cons pe_bl (pa_cons pe_bl (pa_cons pe_bl (pa_cons pe_bl (pa_cons pe_bl pa_nil)))))))) (nomark _)) (pw_or1 (pt_cmpR (op_neD hr.units) (pe_call G_ordered (hr.mono (by decide)) rfl T.g_ordered T.F_ordered.kp T.b_ordered .nil pass0 (pa_cons (pe_tup pa_nil) pa_nil)) (pe_tup pa_nil) (nomark _))))) (pss_one (ps_ret pe_bl)) pss_nil)
  (pss_one (ps_ret (pe_cmpR (op_eqD hr.units) (pe_call G_ordered (hr.mono (by decide)) rfl T.g_ordered T.F_ordered.kp T.b_ordered .nil pass0 (pa_cons (pe_tup (pa_cons (pe_tup (pa_cons (pe_tup (pa_cons pe_str pa_nil)) (pa_cons pe_int pa_nil))) (pa_cons pe_str (pa_cons (pe_tup pa_nil) (pa_cons pe_int (pa_cons pe_non (pa_cons pe_str (pa_cons (pe_tup (pa_cons (pe_tup (pa_cons pe_str pa_nil)) pa_nil)) pa_nil)))))))) pa_nil)) (pe_tup (pa_cons pe_non (pa_cons pe_int (pa_cons pe_str (pa_cons (pe_tup pa_nil) (pa_cons (pe_tup (pa_cons (pe_tup (pa_cons pe_str pa_nil)) pa_nil)) (pa_cons (pe_tup (pa_cons (pe_tup (pa_cons pe_str pa_nil)) (pa_cons pe_int pa_nil))) pa_nil))))))) (nomark _))))))), ?_⟩
  obtain ⟨a, ns, rfl, hS, hlen, k⟩ := h
  have hz : (ns.map V.int).length = ns.length := List.length_map ..
  refine q_forR1 (n := if (if ((ns.map V.int).length : Int) < 3 then ((ns.map V.int).length : Int) else 3) > 1 then (if ((ns.map V.int).length : Int) < 3 then ((ns.map V.int).length : Int) else 3) else 1) (ea_cons (ev_cb (ea_cons ev_c (ea_cons (ev_cb (ea_cons ev_c (ea_cons (ev_cb (ea_cons (ev_var rfl) ea_nil) (rc_lenL hS)) ea_nil)) rc_min2) ea_nil)) rc_max2) ea_nil)
    (by split <;> split <;> omega) (fun i σ' H' => (∃ v1 v2, σ' = [some (.ref a), v1, v2, none]) ∧ SqL K H' a (ns.map V.int)) (fun H1 e1 => ⟨⟨_, _, rfl⟩, ex_l e1 hS⟩) (fun i σ' H' hi g => ?_) (fun σ' H' g => ?_)
  · obtain ⟨⟨v1, v2, rfl⟩, hS'⟩ := g
    refine q_asgX (c_call (ea_cons (ev_var rfl) (ea_cons (ev_var rfl) ea_nil)) fun H1 e1 => ⟨a, ns, i, rfl, ex_l e1 hS', fun d H2 hd e2 dd => ?_⟩)
    have hne := fresh_back e1 hd
    refine n_ifS (n_or (n_not (n_B (c_call (ea_cons (ev_var rfl) ea_nil) fun H3 e3 => ⟨d, rfl, dd.ex e3, fun H4 b4 d4 => ⟨true, rfl, ?_⟩⟩))))
    rw [if_neg (by decide)]
    refine n_not (n_B (c_call (ea_cons (ev_var rfl) ea_nil) fun H5 e5 => ⟨d, rfl, d4.ex e5, fun H6 b6 d6 => ⟨true, rfl, ?_⟩⟩))
    rw [if_neg (by decide)]
    exact n_next ⟨⟨_, _, rfl⟩, sq_bt hne hS' (e1.trans e2) ((((Bt.of e3).trans b4).trans (Bt.of e5)).trans b6)⟩
  · obtain ⟨⟨v1, v2, rfl⟩, hS'⟩ := g
    have L : ∀ {ta tb : TE} {σ : L2.St} {H : Hp} {d e : K0.D} {b : Bool}, EvD K ta σ H d → EvD K tb σ H e → d.plain 12 = true → e.plain 12 = true → d.size ≤ 29000 → e.size ≤ 29000 → ltD d e = b → EvD K (tCall (sp_is_less K) [] E0 (tCons ta (tCons tb tNil))) σ H (.bl b) := fun h1 h2 p1 p2 s1 s2 q => ed_ev (ev_is (ev_less h1 h2 p1 p2 s1 s2) (congrArg V.bl q)) (.bl _)
    have cI : ∀ {i : Int} {σ : L2.St} {H : Hp}, EvD K (tC (.int i)) σ H (.int i) := ed_ev ev_c (.int _)
    have cS : ∀ {i : Str} {σ : L2.St} {H : Hp}, EvD K (tC (.str i)) σ H (.str i) := ed_ev ev_c (.str _)
    have cN : ∀ {σ : L2.St} {H : Hp}, EvD K (tC .non) σ H .non := ed_ev ev_c .non
    have t1 : ∀ {te : TE} {σ : L2.St} {H : Hp} {d : K0.D}, EvD K te σ H d → EvD K (tTup (tCons te tNil)) σ H (.tup [d]) := fun h => ed_tup (eda_cons h eda_nil) (by simp)
    refine G.q_asgDL (K := K) (ds := toldB) (G.edl_lst (eda_cons (L cI cI (by decide +kernel) (by decide +kernel) (by decide) (by decide) (by decide +kernel)) (eda_cons (L cS cS (by decide +kernel) (by decide +kernel) (by decide) (by decide) (by decide +kernel))
      (eda_cons (L (ed_tup eda_nil (by simp)) (t1 cN) (by decide +kernel) (by decide +kernel) (by decide) (by decide) (by decide +kernel)) (eda_cons (L (t1 cI) (ed_tup (eda_cons cI (eda_cons (t1 cI) eda_nil)) (by simp)) (by decide +kernel) (by decide +kernel) (by decide) (by decide) (by decide +kernel))
      (eda_cons (L cS (ed_tup eda_nil (by simp)) (by decide +kernel) (by decide +kernel) (by decide) (by decide) (by decide +kernel)) (eda_cons (L cN (ed_ev (ev_un ev_c ru_neg) (.int _)) (by decide +kernel) (by decide +kernel) (by decide) (by decide) (by decide +kernel))
      (eda_cons (L cI cI (by decide +kernel) (by decide +kernel) (by decide) (by decide) (by decide +kernel)) eda_nil))))))) (by simp)) fun p xs H1 hp e1 h1 r1 => ?_
    refine q_when (b := false) (et_is (et_or (a := false) (b := false) (et_is (et_test (ev_neDL (n := 1) (ev_var rfl) h1 r1 (G.edl_lst (eda_cons (ed_ev ev_c (.bl _)) (eda_cons (ed_ev ev_c (.bl _)) (eda_cons (ed_ev ev_c (.bl _)) (eda_cons (ed_ev ev_c (.bl _)) (eda_cons (ed_ev ev_c (.bl _)) (eda_cons (ed_ev ev_c (.bl _)) (eda_cons (ed_ev ev_c (.bl _)) eda_nil))))))) (by simp)) toldB_fine toldB_fine (by decide))) (by decide +kernel)) fun _ =>
      et_is (et_test (ev_neD (K := K) (n := 13) (ed_to3 (ed_ordered (ds := []) (ed_tup eda_nil (by simp)) (by decide) (by decide +kernel) (by decide)) nil_ord) (ed_tup (ds := []) eda_nil (by simp)) (by decide +kernel) (by decide +kernel) (by decide))) (by decide +kernel)) rfl) (fun z => by cases z) fun _ H2 e2 => ?_
    refine s_ret (ev_is (ev_eqD (K := K) (n := 13) (ed_to3 (ed_ordered (ds := someT) (ed_tup (eda_cons (ed_tup (eda_cons (t1 cS) (eda_cons cI eda_nil)) (by simp)) (eda_cons cS (eda_cons (ed_tup eda_nil (by simp)) (eda_cons cI (eda_cons cN (eda_cons cS (eda_cons (t1 (t1 cS)) eda_nil))))))) (by simp)) (by decide) (by decide +kernel) (by decide)) some_ord)
      (ed_tup (ds := ordT) (eda_cons cN (eda_cons cI (eda_cons cS (eda_cons (ed_tup eda_nil (by simp)) (eda_cons (t1 (t1 cS)) (eda_cons (ed_tup (eda_cons (t1 cS) (eda_cons cI eda_nil)) (by simp)) eda_nil)))))) (by simp)) (by decide +kernel) (by decide +kernel) (by decide)) (congrArg V.bl (by decide +kernel))) fun H3 e3 => k H3
end
end K0

namespace K0
open PySem L2 Evl
theorem all_mk {l : PySem.W.OpenLaw} {w : World} {K : PySem.W.Frag} {h : Heap} {mg : Str → Option Value} {fa f0 f1 f2 f3 f4 f5 f6 f7 f8 f9 f10 f11 f12 f13 f14 f15 f16 f17 f18 : Addr} (X : K.In h) (G : h.Ns mainGlobals mg) (hfa : mg "law" = some (.ref fa))
    {od0 an0 od1 an1 od2 an2 od3 an3 od4 an4 od5 an5 od6 an6 od7 an7 od8 an8 od9 an9 od10 an10 od11 an11 od12 an12 od13 an13 od14 an14 od15 an15 od16 an16 od17 an17 od18 an18 : Option Addr}
    {sl0 sl1 sl2 sl3 sl4 sl5 sl6 sl7 sl8 sl9 sl10 sl11 sl12 sl13 sl14 sl15 sl16 sl17 sl18 : Array (Option Value)}
    {oc0 kV0 dc0 pm0 cd0 ct0 oc1 kV1 dc1 pm1 cd1 ct1 oc2 kV2 dc2 pm2 cd2 ct2 oc3 kV3 dc3 pm3 cd3 ct3 oc4 kV4 dc4 pm4 cd4 ct4 oc5 kV5 dc5 pm5 cd5 ct5 oc6 kV6 dc6 pm6 cd6 ct6 oc7 kV7 dc7 pm7 cd7 ct7 oc8 kV8 dc8 pm8 cd8 ct8 oc9 kV9 dc9 pm9 cd9 ct9 oc10 kV10 dc10 pm10 cd10 ct10 oc11 kV11 dc11 pm11 cd11 ct11 oc12 kV12 dc12 pm12 cd12 ct12 oc13 kV13 dc13 pm13 cd13 ct13 oc14 kV14 dc14 pm14 cd14 ct14 oc15 kV15 dc15 pm15 cd15 ct15 oc16 kV16 dc16 pm16 cd16 ct16 oc17 kV17 dc17 pm17 cd17 ct17 oc18 kV18 dc18 pm18 cd18 ct18 : Value}
    {tk0 tk1 tk2 tk3 : Tok}
    (a0 : PySem.W.nsIn K mainGlobals "is_number" = some (some (.ref f0)))
    (l0 : K.lookup f0 = some ⟨oc0, od0, .func (PySem.W.fnOf "is_number" "is_number" (defArgs s_is_number) (defBody s_is_number) (defScope s_is_number) .none kV0 dc0 pm0 an0 cd0 ct0), sl0⟩)
    (c0 : PySem.W.codeIn K cd0 "is_number" = true)
    (k0 : PySem.W.keepIn K (.ref f0) = true)
    (a1 : PySem.W.nsIn K mainGlobals "is_made_of" = some (some (.ref f1)))
    (l1 : K.lookup f1 = some ⟨oc1, od1, .func (PySem.W.fnOf "is_made_of" "is_made_of" (defArgs s_is_made_of) (defBody s_is_made_of) (defScope s_is_made_of) .none kV1 dc1 pm1 an1 cd1 ct1), sl1⟩)
    (c1 : PySem.W.codeIn K cd1 "is_made_of" = true)
    (k1 : PySem.W.keepIn K (.ref f1) = true)
    (a2 : PySem.W.nsIn K mainGlobals "is_plain" = some (some (.ref f2)))
    (l2 : K.lookup f2 = some ⟨oc2, od2, .func (PySem.W.fnOf "is_plain" "is_plain" (defArgs s_is_plain) (defBody s_is_plain) (defScope s_is_plain) .none kV2 dc2 pm2 an2 cd2 ct2), sl2⟩)
    (c2 : PySem.W.codeIn K cd2 "is_plain" = true)
    (k2 : PySem.W.keepIn K (.ref f2) = true)
    (a3 : PySem.W.nsIn K mainGlobals "is_plain_within" = some (some (.ref f3)))
    (l3 : K.lookup f3 = some ⟨oc3, od3, .func (PySem.W.fnOf "is_plain_within" "is_plain_within" (defArgs s_is_plain_within) (defBody s_is_plain_within) (defScope s_is_plain_within) .none kV3 dc3 pm3 an3 cd3 ct3), sl3⟩)
    (c3 : PySem.W.codeIn K cd3 "is_plain_within" = true)
    (k3 : PySem.W.keepIn K (.ref f3) = true)
    (a4 : PySem.W.nsIn K mainGlobals "_is_single" = some (some (.ref f4)))
    (l4 : K.lookup f4 = some ⟨oc4, od4, .func (PySem.W.fnOf "_is_single" "_is_single" (defArgs s_is_single) (defBody s_is_single) (defScope s_is_single) .none kV4 dc4 pm4 an4 cd4 ct4), sl4⟩)
    (c4 : PySem.W.codeIn K cd4 "_is_single" = true)
    (k4 : PySem.W.keepIn K (.ref f4) = true)
    (a5 : PySem.W.nsIn K mainGlobals "is_less" = some (some (.ref f5)))
    (l5 : K.lookup f5 = some ⟨oc5, od5, .func (PySem.W.fnOf "is_less" "is_less" (defArgs s_is_less) (defBody s_is_less) (defScope s_is_less) .none kV5 dc5 pm5 an5 cd5 ct5), sl5⟩)
    (c5 : PySem.W.codeIn K cd5 "is_less" = true)
    (k5 : PySem.W.keepIn K (.ref f5) = true)
    (a6 : PySem.W.nsIn K mainGlobals "ordered" = some (some (.ref f6)))
    (l6 : K.lookup f6 = some ⟨oc6, od6, .func (PySem.W.fnOf "ordered" "ordered" (defArgs s_ordered) (defBody s_ordered) (defScope s_ordered) .none kV6 dc6 pm6 an6 cd6 ct6), sl6⟩)
    (c6 : PySem.W.codeIn K cd6 "ordered" = true)
    (k6 : PySem.W.keepIn K (.ref f6) = true)
    (a7 : PySem.W.nsIn K mainGlobals "_check_plain" = some (some (.ref f7)))
    (l7 : K.lookup f7 = some ⟨oc7, od7, .func (PySem.W.fnOf "_check_plain" "_check_plain" (defArgs s_check_plain) (defBody s_check_plain) (defScope s_check_plain) .none kV7 dc7 pm7 an7 cd7 ct7), sl7⟩)
    (c7 : PySem.W.codeIn K cd7 "_check_plain" = true)
    (k7 : PySem.W.keepIn K (.ref f7) = true)
    (a8 : PySem.W.nsIn K mainGlobals "_sort_key" = some (some (.ref f8)))
    (l8 : K.lookup f8 = some ⟨oc8, od8, .func (PySem.W.fnOf "_sort_key" "_sort_key" (defArgs s_sort_key) (defBody s_sort_key) (defScope s_sort_key) .none kV8 dc8 pm8 an8 cd8 ct8), sl8⟩)
    (c8 : PySem.W.codeIn K cd8 "_sort_key" = true)
    (k8 : PySem.W.keepIn K (.ref f8) = true)
    (a9 : PySem.W.nsIn K mainGlobals "_law_dice" = some (some (.ref f9)))
    (l9 : K.lookup f9 = some ⟨oc9, od9, .func (PySem.W.fnOf "_law_dice" "_law_dice" (defArgs s_law_dice) (defBody s_law_dice) (defScope s_law_dice) .none kV9 dc9 pm9 an9 cd9 ct9), sl9⟩)
    (c9 : PySem.W.codeIn K cd9 "_law_dice" = true)
    (k9 : PySem.W.keepIn K (.ref f9) = true)
    (a10 : PySem.W.nsIn K mainGlobals "_law_roll" = some (some (.ref f10)))
    (l10 : K.lookup f10 = some ⟨oc10, od10, .func (PySem.W.fnOf "_law_roll" "_law_roll" (defArgs s_law_roll) (defBody s_law_roll) (defScope s_law_roll) .none kV10 dc10 pm10 an10 cd10 ct10), sl10⟩)
    (c10 : PySem.W.codeIn K cd10 "_law_roll" = true)
    (k10 : PySem.W.keepIn K (.ref f10) = true)
    (a11 : PySem.W.nsIn K mainGlobals "_law_pick" = some (some (.ref f11)))
    (l11 : K.lookup f11 = some ⟨oc11, od11, .func (PySem.W.fnOf "_law_pick" "_law_pick" (defArgs s_law_pick) (defBody s_law_pick) (defScope s_law_pick) .none kV11 dc11 pm11 an11 cd11 ct11), sl11⟩)
    (c11 : PySem.W.codeIn K cd11 "_law_pick" = true)
    (k11 : PySem.W.keepIn K (.ref f11) = true)
    (a12 : PySem.W.nsIn K mainGlobals "_law_mixed" = some (some (.ref f12)))
    (l12 : K.lookup f12 = some ⟨oc12, od12, .func (PySem.W.fnOf "_law_mixed" "_law_mixed" (defArgs s_law_mixed) (defBody s_law_mixed) (defScope s_law_mixed) .none kV12 dc12 pm12 an12 cd12 ct12), sl12⟩)
    (c12 : PySem.W.codeIn K cd12 "_law_mixed" = true)
    (k12 : PySem.W.keepIn K (.ref f12) = true)
    (a13 : PySem.W.nsIn K mainGlobals "_law_va_plain" = some (some (.ref f13)))
    (l13 : K.lookup f13 = some ⟨oc13, od13, .func (PySem.W.fnOf "_law_va_plain" "_law_va_plain" (defArgs s_law_va_plain) (defBody s_law_va_plain) (defScope s_law_va_plain) .none kV13 dc13 pm13 an13 cd13 ct13), sl13⟩)
    (c13 : PySem.W.codeIn K cd13 "_law_va_plain" = true)
    (k13 : PySem.W.keepIn K (.ref f13) = true)
    (a14 : PySem.W.nsIn K mainGlobals "_law_va_near" = some (some (.ref f14)))
    (l14 : K.lookup f14 = some ⟨oc14, od14, .func (PySem.W.fnOf "_law_va_near" "_law_va_near" (defArgs s_law_va_near) (defBody s_law_va_near) (defScope s_law_va_near) .none kV14 dc14 pm14 an14 cd14 ct14), sl14⟩)
    (c14 : PySem.W.codeIn K cd14 "_law_va_near" = true)
    (k14 : PySem.W.keepIn K (.ref f14) = true)
    (a15 : PySem.W.nsIn K mainGlobals "_law_va_rank" = some (some (.ref f15)))
    (l15 : K.lookup f15 = some ⟨oc15, od15, .func (PySem.W.fnOf "_law_va_rank" "_law_va_rank" (defArgs s_law_va_rank) (defBody s_law_va_rank) (defScope s_law_va_rank) .none kV15 dc15 pm15 an15 cd15 ct15), sl15⟩)
    (c15 : PySem.W.codeIn K cd15 "_law_va_rank" = true)
    (k15 : PySem.W.keepIn K (.ref f15) = true)
    (a16 : PySem.W.nsIn K mainGlobals "_law_ordered" = some (some (.ref f16)))
    (l16 : K.lookup f16 = some ⟨oc16, od16, .func (PySem.W.fnOf "_law_ordered" "_law_ordered" (defArgs s_law_ordered) (defBody s_law_ordered) (defScope s_law_ordered) .none kV16 dc16 pm16 an16 cd16 ct16), sl16⟩)
    (c16 : PySem.W.codeIn K cd16 "_law_ordered" = true)
    (k16 : PySem.W.keepIn K (.ref f16) = true)
    (a17 : PySem.W.nsIn K mainGlobals "_law_right" = some (some (.ref f17)))
    (l17 : K.lookup f17 = some ⟨oc17, od17, .func (PySem.W.fnOf "_law_right" "_law_right" (defArgs s_law_right) (defBody s_law_right) (defScope s_law_right) .none kV17 dc17 pm17 an17 cd17 ct17), sl17⟩)
    (c17 : PySem.W.codeIn K cd17 "_law_right" = true)
    (k17 : PySem.W.keepIn K (.ref f17) = true)
    (a18 : PySem.W.nsIn K mainGlobals "law" = some (some (.ref f18)))
    (l18 : K.lookup f18 = some ⟨oc18, od18, .func (PySem.W.fnOf "law" "law" (defArgs s_law) (defBody s_law) (defScope s_law) .none kV18 dc18 pm18 an18 cd18 ct18), sl18⟩)
    (c18 : PySem.W.codeIn K cd18 "law" = true)
    (k18 : PySem.W.keepIn K (.ref f18) = true)
    (x0 : PySem.W.nsIn K mainGlobals "MAX_NEST" = some (some (.int (12) tk0)))
    (x1 : PySem.W.nsIn K mainGlobals "MAX_STRING" = some (some (.int (3000) tk1)))
    (x2 : PySem.W.nsIn K mainGlobals "MAX_NUMBER" = some (some (.int (999999999999999999999999999999999999999999999999999999999999) tk2)))
    (x3 : PySem.W.nsIn K mainGlobals "SIGNS" = some (some (.str "abcdefghijklmnopqrstuvwxyz0123456789 " tk3)))
    (y0 : PySem.W.nsIn K mainGlobals "abs" = some none)
    (y1 : PySem.W.nsIn K mainGlobals "bool" = some none)
    (y2 : PySem.W.nsIn K mainGlobals "int" = some none)
    (y3 : PySem.W.nsIn K mainGlobals "isinstance" = some none)
    (y4 : PySem.W.nsIn K mainGlobals "len" = some none)
    (y5 : PySem.W.nsIn K mainGlobals "list" = some none)
    (y6 : PySem.W.nsIn K mainGlobals "max" = some none)
    (y7 : PySem.W.nsIn K mainGlobals "min" = some none)
    (y8 : PySem.W.nsIn K mainGlobals "range" = some none)
    (y9 : PySem.W.nsIn K mainGlobals "repr" = some none)
    (y10 : PySem.W.nsIn K mainGlobals "sorted" = some none)
    (y11 : PySem.W.nsIn K mainGlobals "str" = some none)
    (y12 : PySem.W.nsIn K mainGlobals "tuple" = some none)
    (y13 : PySem.W.nsIn K mainGlobals "zip" = some none)
    : LawG l w K CX0 41 63 "script" mg fa h := by
  have e := hfa.symm.trans (PySem.W.mg_of X G a18)
  cases e
  have F0 := fun_mk (st := s_is_number) l0 c0 k0
  have b0 := F0.binds (ps := ["value"]) fun _ _ _ _ _ _ us hl => match us, hl with | [_], _ => rfl
  have F1 := fun_mk (st := s_is_made_of) l1 c1 k1
  have b1 := F1.binds (ps := ["value", "signs", "most"]) fun _ _ _ _ _ _ us hl => match us, hl with | [_, _, _], _ => rfl
  have F2 := fun_mk (st := s_is_plain) l2 c2 k2
  have b2 := F2.binds (ps := ["value"]) fun _ _ _ _ _ _ us hl => match us, hl with | [_], _ => rfl
  have F3 := fun_mk (st := s_is_plain_within) l3 c3 k3
  have b3 := F3.binds (ps := ["value", "most"]) fun _ _ _ _ _ _ us hl => match us, hl with | [_, _], _ => rfl
  have F4 := fun_mk (st := s_is_single) l4 c4 k4
  have b4 := F4.binds (ps := ["value"]) fun _ _ _ _ _ _ us hl => match us, hl with | [_], _ => rfl
  have F5 := fun_mk (st := s_is_less) l5 c5 k5
  have b5 := F5.binds (ps := ["one", "other"]) fun _ _ _ _ _ _ us hl => match us, hl with | [_, _], _ => rfl
  have F6 := fun_mk (st := s_ordered) l6 c6 k6
  have b6 := F6.binds (ps := ["values"]) fun _ _ _ _ _ _ us hl => match us, hl with | [_], _ => rfl
  have F7 := fun_mk (st := s_check_plain) l7 c7 k7
  have b7 := F7.binds (ps := ["value"]) fun _ _ _ _ _ _ us hl => match us, hl with | [_], _ => rfl
  have F8 := fun_mk (st := s_sort_key) l8 c8 k8
  have b8 := F8.binds (ps := ["value"]) fun _ _ _ _ _ _ us hl => match us, hl with | [_], _ => rfl
  have F9 := fun_mk (st := s_law_dice) l9 c9 k9
  have b9 := F9.binds (ps := ["script", "spot"]) fun _ _ _ _ _ _ us hl => match us, hl with | [_, _], _ => rfl
  have F10 := fun_mk (st := s_law_roll) l10 c10 k10
  have b10 := F10.binds (ps := ["dice", "most"]) fun _ _ _ _ _ _ us hl => match us, hl with | [_, _], _ => rfl
  have F11 := fun_mk (st := s_law_pick) l11 c11 k11
  have b11 := F11.binds (ps := ["dice", "items"]) fun _ _ _ _ _ _ us hl => match us, hl with | [_, _], _ => rfl
  have F12 := fun_mk (st := s_law_mixed) l12 c12 k12
  have b12 := F12.binds (ps := ["dice", "items"]) fun _ _ _ _ _ _ us hl => match us, hl with | [_, _], _ => rfl
  have F13 := fun_mk (st := s_law_va_plain) l13 c13 k13
  have b13 := F13.binds (ps := ["dice", "deep"]) fun _ _ _ _ _ _ us hl => match us, hl with | [_, _], _ => rfl
  have F14 := fun_mk (st := s_law_va_near) l14 c14 k14
  have b14 := F14.binds (ps := ["dice", "value"]) fun _ _ _ _ _ _ us hl => match us, hl with | [_, _], _ => rfl
  have F15 := fun_mk (st := s_law_va_rank) l15 c15 k15
  have b15 := F15.binds (ps := ["value"]) fun _ _ _ _ _ _ us hl => match us, hl with | [_], _ => rfl
  have F16 := fun_mk (st := s_law_ordered) l16 c16 k16
  have b16 := F16.binds (ps := ["values"]) fun _ _ _ _ _ _ us hl => match us, hl with | [_], _ => rfl
  have F17 := fun_mk (st := s_law_right) l17 c17 k17
  have b17 := F17.binds (ps := ["dice"]) fun _ _ _ _ _ _ us hl => match us, hl with | [_], _ => rfl
  have F18 := fun_mk (st := s_law) l18 c18 k18
  have b18 := F18.binds (ps := ["script"]) fun _ _ _ _ _ _ us hl => match us, hl with | [_], _ => rfl
  have T : Txt K mg ⟨f0, f1, f2, f3, f4, f5, f6, f7, f8, f9, f10, f11, f12, f13, f14, f15, f16, f17, fa⟩ ⟨_, _, _, _, _, _, _, _, _, _, _, _, _, _, _, _, _, _, _⟩ :=
    ⟨PySem.W.mg_of X G a0,
     F0,
     b0,
     PySem.W.mg_of X G a1,
     F1,
     b1,
     PySem.W.mg_of X G a2,
     F2,
     b2,
     PySem.W.mg_of X G a3,
     F3,
     b3,
     PySem.W.mg_of X G a4,
     F4,
     b4,
     PySem.W.mg_of X G a5,
     F5,
     b5,
     PySem.W.mg_of X G a6,
     F6,
     b6,
     PySem.W.mg_of X G a7,
     F7,
     b7,
     PySem.W.mg_of X G a8,
     F8,
     b8,
     PySem.W.mg_of X G a9,
     F9,
     b9,
     PySem.W.mg_of X G a10,
     F10,
     b10,
     PySem.W.mg_of X G a11,
     F11,
     b11,
     PySem.W.mg_of X G a12,
     F12,
     b12,
     PySem.W.mg_of X G a13,
     F13,
     b13,
     PySem.W.mg_of X G a14,
     F14,
     b14,
     PySem.W.mg_of X G a15,
     F15,
     b15,
     PySem.W.mg_of X G a16,
     F16,
     b16,
     PySem.W.mg_of X G a17,
     F17,
     b17,
     PySem.W.mg_of X G a18,
     F18,
     b18,
     ⟨_, PySem.W.mg_of X G x0⟩,
     ⟨_, PySem.W.mg_of X G x1⟩,
     ⟨_, PySem.W.mg_of X G x2⟩,
     ⟨_, PySem.W.mg_of X G x3⟩,
     PySem.W.mg_none_of X G y0,
     PySem.W.mg_none_of X G y1,
     PySem.W.mg_none_of X G y2,
     PySem.W.mg_none_of X G y3,
     PySem.W.mg_none_of X G y4,
     PySem.W.mg_none_of X G y5,
     PySem.W.mg_none_of X G y6,
     PySem.W.mg_none_of X G y7,
     PySem.W.mg_none_of X G y8,
     PySem.W.mg_none_of X G y9,
     PySem.W.mg_none_of X G y10,
     PySem.W.mg_none_of X G y11,
     PySem.W.mg_none_of X G y12,
     PySem.W.mg_none_of X G y13⟩
  exact ⟨PySem.W.fnOf "law" "law" (defArgs s_law) (defBody s_law) (defScope s_law) .none kV18 dc18 pm18 an18 cd18 ct18, [], sp_law K, fun p hp => (List.not_mem_nil hp).elim, fun p hp => (List.not_mem_nil hp).elim, fun p hp => (List.not_mem_nil hp).elim, fun s v => .of_eq rfl, fun H a ns hl _ hS => ⟨a, ns, rfl, hS, hl, fun _ => rfl⟩, fun base _ _ _ => ok_law T⟩
theorem walk {l : PySem.W.OpenLaw} {q : Program} {loose : List Str} {XP : (Str → Option Value) → Heap → Prop} {YP : World → Heap → Prop} {d : DefRec} {K : Params → PySem.W.Frag} (hn : l.most = some 63) (hdf : d.params.defaults = [])
    (hY : ∀ (w : World) (h : Heap), YP w h → (K w.params).In h)
    (F : ∀ (w : World) (mg : Str → Option Value) (fa : Addr) (h : Heap), YP w h → (K w.params).In h → h.Ns mainGlobals mg → mg d.name = some (.ref fa) →
      LawG l w (K w.params) CX0 41 63 "script" mg fa h) :
    PySem.W.WalkO q loose XP YP l.row.toRowW d [] (fun f vs => PySem.call f vs) :=
  walk_ofG (n := 63) (k := 41) (x := "script") (CXr := fun _ => CX0) hn (by rw [sizeLine_eq]; decide) hdf ⟨rfl, by decide, by decide⟩ hY F fun _ _ _ _ _ z => z
end K0
open PySem PySem.W PyProof.Rows
set_option maxRecDepth 100000 in
set_option maxHeartbeats 0 in
theorem PySem.Challenge.cw_halvesmeet_k01_whole_order_of_plain_valu_holds : PySem.Challenge.rw_halvesmeet_k01_whole_order_of_plain_valu.Holds := by
  w_on; o_law; k_head; (case hw => w_witness2)
  k_fill
  refine K0.walk (l := PySem.Challenge.rw_halvesmeet_k01_whole_order_of_plain_valu) rfl rfl (fun w h Y => PySem.W.kIn_of Y) ?F
  case F =>
    intro w mg fa h Y KX G hmg
    refine' K0.all_mk KX G hmg ?a0 ?l0 ?c0 ?k0 ?a1 ?l1 ?c1 ?k1 ?a2 ?l2 ?c2 ?k2 ?a3 ?l3 ?c3 ?k3 ?a4 ?l4 ?c4 ?k4 ?a5 ?l5 ?c5 ?k5 ?a6 ?l6 ?c6 ?k6 ?a7 ?l7 ?c7 ?k7 ?a8 ?l8 ?c8 ?k8 ?a9 ?l9 ?c9 ?k9 ?a10 ?l10 ?c10 ?k10 ?a11 ?l11 ?c11 ?k11 ?a12 ?l12 ?c12 ?k12 ?a13 ?l13 ?c13 ?k13 ?a14 ?l14 ?c14 ?k14 ?a15 ?l15 ?c15 ?k15 ?a16 ?l16 ?c16 ?k16 ?a17 ?l17 ?c17 ?k17 ?a18 ?l18 ?c18 ?k18 ?x0 ?x1 ?x2 ?x3 ?y0 ?y1 ?y2 ?y3 ?y4 ?y5 ?y6 ?y7 ?y8 ?y9 ?y10 ?y11 ?y12 ?y13
    (case a0 => k_is)
    (case l0 => k_is)
    (case c0 => k_is)
    (case k0 => k_is)
    (case a1 => k_is)
    (case l1 => k_is)
    (case c1 => k_is)
    (case k1 => k_is)
    (case a2 => k_is)
    (case l2 => k_is)
    (case c2 => k_is)
    (case k2 => k_is)
    (case a3 => k_is)
    (case l3 => k_is)
    (case c3 => k_is)
    (case k3 => k_is)
    (case a4 => k_is)
    (case l4 => k_is)
    (case c4 => k_is)
    (case k4 => k_is)
    (case a5 => k_is)
    (case l5 => k_is)
    (case c5 => k_is)
    (case k5 => k_is)
    (case a6 => k_is)
    (case l6 => k_is)
    (case c6 => k_is)
    (case k6 => k_is)
    (case a7 => k_is)
    (case l7 => k_is)
    (case c7 => k_is)
    (case k7 => k_is)
    (case a8 => k_is)
    (case l8 => k_is)
    (case c8 => k_is)
    (case k8 => k_is)
    (case a9 => k_is)
    (case l9 => k_is)
    (case c9 => k_is)
    (case k9 => k_is)
    (case a10 => k_is)
    (case l10 => k_is)
    (case c10 => k_is)
    (case k10 => k_is)
    (case a11 => k_is)
    (case l11 => k_is)
    (case c11 => k_is)
    (case k11 => k_is)
    (case a12 => k_is)
    (case l12 => k_is)
    (case c12 => k_is)
    (case k12 => k_is)
    (case a13 => k_is)
    (case l13 => k_is)
    (case c13 => k_is)
    (case k13 => k_is)
    (case a14 => k_is)
    (case l14 => k_is)
    (case c14 => k_is)
    (case k14 => k_is)
    (case a15 => k_is)
    (case l15 => k_is)
    (case c15 => k_is)
    (case k15 => k_is)
    (case a16 => k_is)
    (case l16 => k_is)
    (case c16 => k_is)
    (case k16 => k_is)
    (case a17 => k_is)
    (case l17 => k_is)
    (case c17 => k_is)
    (case k17 => k_is)
    (case a18 => k_is)
    (case l18 => k_is)
    (case c18 => k_is)
    (case k18 => k_is)
    (case x0 => k_is)
    (case x1 => k_is)
    (case x2 => k_is)
    (case x3 => k_is)
    (case y0 => k_is)
    (case y1 => k_is)
    (case y2 => k_is)
    (case y3 => k_is)
    (case y4 => k_is)
    (case y5 => k_is)
    (case y6 => k_is)
    (case y7 => k_is)
    (case y8 => k_is)
    (case y9 => k_is)
    (case y10 => k_is)
    (case y11 => k_is)
    (case y12 => k_is)
    (case y13 => k_is)

