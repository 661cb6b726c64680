import PyProof.Rows.All
import Wide.All
import OpenK.AllK
import Wide.FinOn
import HandS.Evl
import HandS.Exc
import HandS.ExcInit
import HandS.ExcField
import HandS.RaiseMore
import KE.KExcInit
import HandS.ForMost
import HandS.IsInst
import HandS.StrMore
import HandS.Strs
import HandS.TupAny
import HandS.Zip
import HandS.Walk
import HandS.Wide
import HandS.Conv
import HandS.Property
import HandS.ClsMeth
import HandS.CallLocal
import HandS.Defaults
import HandS.FStr
import HandS.TupMul
import PySem.Challenge.RW_halvesmeet_k30_errors_of_letters_and_bag
import HandS.SetFor
import HandS.TryMany
import KE.KEqNest
import PyProof.NeKinds
import HandS.DictComp
import KE.GoesEnum
import KE.GoesMore
import HandS.SortRule
import HandS.NoneIn
import HandS.ExcOwn
import HandS.WordsExc
import HandS.EndTab
import HandS.Codes
import HandS.Lambda
import HandS.TupLe
import HandS.Head0
import HandS.Head1
import HandS.Head2
import KE.KNestM
set_option Elab.async false
set_option linter.all false
set_option maxRecDepth 100000
set_option maxHeartbeats 8000000
/-! ### own exceptions with a field over any base (IndexError, OverflowError, ..): as ExcInit's rules, the base's row a parameter -/
namespace K0
open PySem PySem.HandSPX PySem.W PySem.Calls PyProof.Rows Builtin Builtin.ObjectAttr
/-- own classes, then the base's row -/
def refsT (tail : List Value) : List Value → Bool
  | .ref _ :: r => refsT tail r
  | l => l == tail
/-- what is asked of the base -/
structure ExTail (B newId initId : String) (tail : List Value) : Prop where
  F : ExcBaseFacts B newId initId tail
  ne : tail.isEmpty = false
  pass : ∀ self : Value, refuseLoop self "__setattr__" tail = pure ()
  obj : tail.contains (.type "object") = true
abbrev tailIndex : List Value := [.type "IndexError", .type "LookupError", .type "Exception", .type "BaseException", .type "object"]
abbrev tailOver : List Value := [.type "OverflowError", .type "ArithmeticError", .type "Exception", .type "BaseException", .type "object"]
theorem exT_index : ExTail "IndexError" "IndexError.__new__" "IndexError.__init__" tailIndex :=
  ⟨F.excBase_IndexError, rfl, F.store_IndexError.passes, by decide +kernel⟩
theorem exT_over : ExTail "OverflowError" "OverflowError.__new__" "OverflowError.__init__" tailOver :=
  ⟨F.excBase_OverflowError, rfl, F.store_OverflowError.passes, by decide +kernel⟩
theorem exT_value : ExTail "ValueError" "ValueError.__new__" "ValueError.__init__" [.type "ValueError", .type "Exception", .type "BaseException", .type "object"] :=
  ⟨F.excBase_ValueError, rfl, F.store_ValueError.passes, by decide +kernel⟩
theorem refsT_cases {tail : List Value} (l : List Value) (e : refsT tail l = true) : (∃ c r, l = .ref c :: r ∧ refsT tail r = true) ∨ l = tail := by
  unfold refsT at e
  split at e
  · exact .inl ⟨_, _, rfl, e⟩
  · exact .inr (beq_iff_eq.mp e)
section
variable {B newId initId : String} {tail : List Value} (T : ExTail B newId initId tail)
include T
theorem refsT_pass (self : Value) : ∀ l : List Value, refsT tail l = true → refuseLoop self "__setattr__" l = pure ()
  | [], e => by
    rcases refsT_cases [] e with ⟨c, r, q, _⟩ | q
    · cases q
    · rw [q]
      exact T.pass self
  | a :: r, e => by
    rcases refsT_cases (a :: r) e with ⟨c, r', q, h⟩ | q
    · obtain ⟨rfl, rfl⟩ := List.cons.inj q
      rw [refuseLoop_ref]
      exact refsT_pass self r h
    · rw [q]
      exact T.pass self
theorem refsT_has (X : String) : ∀ l : List Value, refsT tail l = true → l.contains (.type X) = tail.contains (.type X)
  | [], e => by
    rcases refsT_cases [] e with ⟨c, r, q, _⟩ | q
    · cases q
    · rw [q]
  | a :: r, e => by
    rcases refsT_cases (a :: r) e with ⟨c, r', q, h⟩ | q
    · obtain ⟨rfl, rfl⟩ := List.cons.inj q
      rw [List.contains_cons, refsT_has X r h]
      rfl
    · rw [q]
theorem refsT_ne {l : List Value} (e : refsT tail l = true) : l.isEmpty = false := by
  cases l with
  | nil =>
    rcases refsT_cases [] e with ⟨c, r, q, _⟩ | q
    · cases q
    · have := T.ne
      rw [← q] at this
      cases this
  | cons _ _ => rfl
end
section
variable {prog : Program} {w : World} {A : Around} {R : Result → Shared → Prop} {hp : Heap} {g : Array GenState} {d : Drawn} {t : Nat} {os : OsState} {B newId initId : String} {tail : List Value}
/-- the first field of such an exception -/
theorem osaT {K : W.Frag} {name : Str} {tk : Tok} {v : Value} {x C : Addr} {fv : Array Value} {cd : ClassData} (T : ExTail B newId initId tail)
    (X : K.In hp) (hx : hp.get? x = some { cls := .ref C, data := .fields fv }) (hcd : W.clsIn K C = some cd) (hm : refsT tail cd.mro = true) (hh : cd.hasDict = true) (ha : W.findIn K (.ref C) name = some none)
    (hq : ∀ h' tk' dx, (∀ b o, b ≠ x → hp.get? b = some o → h'.get? b = some o) → hp.objs.size ≤ dx → dx ≠ x → h'.get? x = some { cls := .ref C, dict := some dx, data := .fields fv } →
      h'.Ns1 dx (fun y => if y = name then some v else none) → R (.ok (.ret .none)) ⟨h', g, d, tk', os⟩) :
    codeAny (model prog w) A (.call (.builtin "object.__setattr__") ⟨[.ref x, .str name tk, v], []⟩) R ⟨hp, g, d, t, os⟩ := by
  have It : W.InstAt hp x { cls := .ref C, data := .fields fv } C none := ⟨hx, rfl, rfl, trivial⟩
  have SO := F.store_object
  have sub : W.Looks (model prog w) hp (isInstance (.ref x) (.type "object")) true := It.type.andThen (W.looks_mroIn X (by
    unfold W.mroIn
    rw [hcd, Option.bind_some, if_neg (by rw [refsT_ne T hm]; decide), refsT_has T "object" _ hm, T.obj]))
  refine codeAny_call_builtin SO.slot.plain SO.entry (@W.check_slot (model prog w) _ _ ⟨hp, g, d, t, os⟩ "object.__setattr__" "object" "__setattr__" (.ref x) [.str name tk, v] [] _ SO.kind SO.split sub (SO.args (.ref x) (.str name tk) v) ?_)
  have Lm : W.Looks (model prog w) hp (mroOf (.ref C)) cd.mro := (W.looks_clsIn X hcd).andThen .now
  have Ln : W.Looks (model prog w) hp (storeTaker? none) none := .now
  have Lc : W.Looks (model prog w) hp (classData C) cd := W.looks_clsIn X hcd
  have nx : x ≠ hp.objs.size := Nat.ne_of_lt (Heap.lt_size hx)
  rw [W.osa_eq, refuse_eq]
  refine wpAny_bind (wpAny_bind (It.type.at (wpAny_bind (Lm.at ?_))))
  rw [refsT_pass T _ _ hm]
  refine wpAny_pure (wpAny_bind (It.type.at (wpAny_bind ((W.looks_findIn X ha).at (wpAny_bind (Ln.at ?_))))))
  show wpAny _ _ (storeInOwnDict (.ref x) (.ref C) (.str name tk) name v false) _ _ _
  cases cd
  dsimp only at hh
  subst hh
  unfold storeInOwnDict ownDictForStores
  repeat (first | with_reducible refine store_in_new ?_ ?_ | with_reducible refine wpAny_loadPart_at hx ?_ | with_reducible refine Lc.at ?_ | wp_step)
  · exact ⟨_, #[], _, (Heap.get?_update_ne _ _ _ _ nx.symm).trans (Heap.get?_push_at rfl rfl), rfl, fun e he => absurd he (by simp), fun _ => rfl⟩
  · intro h' tk' hn' hs
    have hx1 : (hp.push { cls := .type "dict", data := .dict #[] }).get? x = some { cls := .ref C, data := .fields fv } := Heap.get?_push_of_some _ hx
    exact hq h' tk' hp.objs.size (fun b o hb ho => (hs.2 b (Nat.ne_of_lt (Heap.lt_size ho))).trans ((Heap.get?_update_ne _ _ _ _ hb).trans (Heap.get?_push_of_some _ ho))) (Nat.le_refl _) nx.symm ((hs.2 x nx).trans (Heap.get?_update_self _ hx1 rfl)) hn'
end
end K0
namespace K0
open PySem PySem.Spec PyProof.Rows L2 Evl
/-- what the written part says of such a class, whatever its base -/
structure OexT (K : PySem.W.Frag) (C : Addr) : Prop where
  cls : ∃ B newId initId tail nm q N bs bm sn sub ab col dd k0 k1 k2 k3 k5, ExTail B newId initId tail ∧ K.lookup C = some (excClassObj nm q C N bs bm true sn sub ab col dd k0 k1 k2 k3 k5 newId) ∧ refsT tail bm = true
  sa : PySem.W.findIn K (.ref C) "__setattr__" = some (some (.builtin "object.__setattr__"))
  exC : PySem.W.subIn K (.ref C) (.type "BaseException") = some true
  tyC : PySem.W.typeIn K (.ref C) = some (.type "type")
  kC : PySem.W.keepIn K (.ref C) = true
section
variable {X : Cx} {pins : List (Addr × Obj)} {σ : L2.St} {H : Hp} {s : Shared} {a C dx : Addr} {f : Str} {y : V} {u : Value} {Q : Unit → Shared → Prop} {E : Value → Shared → Prop} {A : Around}
/-- self.f = y, the first one -/
theorem ost_newT (T : OexT X.K C) (I : Inv X pins σ H s) (e : H a = some (exo a C none)) (hno : PySem.W.findIn X.K (.ref C) f = some none) (ry : RelV y u)
    (h : ∀ dx s', H dx = none → dx ≠ a → Inv X pins σ (upd (upd H dx (exd dx [(f, y)])) a (exo a C (some dx))) s' → Q () s') : wpAny (model X.prog X.w) A (setAttr (.ref a) f u) Q E s := by
  obtain ⟨B, newId, initId, tail, nm, q, N, bs, bm, sn, sub, ab, col, dd, k0, k1, k2, k3, k5, TT, hC, hbm⟩ := T.cls
  have hcl : PySem.W.clsIn X.K C = some { name := nm, bases := bs, mro := .ref C :: bm, ns := N, qualname := q, hasDict := true, slotNames := sn, subclasses := sub, abstract := ab, collection := col, hasDel := false } := by unfold PySem.W.clsIn; rw [hC] <;> rfl
  obtain ⟨t1, ho⟩ := exo_at I.hok e
  obtain ⟨hp, g, d, t, os⟩ := s
  refine PySem.W.set_plain I.kIn (ox := { cls := .ref C, dict := none, data := .fields #[.ref t1, .none, .none, .none, .bool false, .none] }) (od := none) ⟨ho, rfl, rfl, trivial⟩ T.sa ?_
  refine osaT TT I.kIn ho hcl (show refsT tail (.ref C :: bm) = true from hbm) rfl hno (fun h' tk' dx k dn dne hx hn => ?_)
  have hnd : H dx = none := I.hok.fresh dn
  have nd : ∀ {b : Addr} {o : Obj}, hp.get? b = some o → b ≠ dx := fun {b o} q => Nat.ne_of_lt (Nat.lt_of_lt_of_le (Heap.lt_size q) dn)
  have na : ∀ {b : Addr}, H b = none → b ≠ a := fun {b} n z => by
    rw [z, e] at n
    cases n
  have U : Un X.fs [] H (upd (upd H dx (exd dx [(f, y)])) a (exo a C (some dx))) hp h' :=
    ⟨fun b o q n _ _ => k b o (na n) q, fun b o q n _ _ => ⟨o.slots, k b o (na n) q⟩, fun b o q n _ => by rw [upd_ne (na n), upd_ne (nd q)]; exact n, fun b o q _ => by
      by_cases hb : b = a
      · exact ⟨_, by rw [hb]; exact hx⟩
      · exact ⟨o, k b o hb q⟩, fun b xs q => by rw [upd_ne (at_ne e q exo_tup), upd_ne (ne_of_none q hnd)]; exact q, fun b o v q => by rw [upd_ne (at_ne e q exo_frz), upd_ne (ne_of_none q hnd)]; exact q,
      fun b ps q => ⟨#[], by rw [upd_ne (at_ne e q exo_tbl), upd_ne (ne_of_none q hnd), q]; simp⟩⟩
  refine h dx _ hnd dne (I.un (t' := tk') U fun b o q => ?_)
  by_cases hb : b = a
  · subst hb
    rw [upd_same] at q
    cases q
    exact exo_ok hx
  · rw [upd_ne hb] at q
    by_cases hd : b = dx
    · subst hd
      rw [upd_same] at q
      cases q
      exact exd_ok hn (relO_put (fs := []) ry fun g => True.intro)
    · rw [upd_ne hd] at q
      refine (I.hok b o q).stay (fun c v hc z => k c v ?_ z) (fun c hc => by rw [upd_ne (at_ne e hc exo_own), upd_ne (ne_of_none hc hnd)]; exact hc) (fun c xs hc => by rw [upd_ne (at_ne e hc exo_tup), upd_ne (ne_of_none hc hnd)]; exact hc)
      rcases hc with hc | hc
      · rw [hc]
        exact hb
      · exact at_ne e hc exo_own
end
/-- self.f = e -/
def tOstT (K : PySem.W.Frag) (f : Str) (to te : TE) : TS := fun D σ H => te σ H fun y H1 => to σ H1 fun x H2 => ∃ a C : Addr, x = .ref a ∧ OexT K C ∧ PySem.W.findIn K (.ref C) f = some none ∧
  H2 a = some (exo a C none) ∧ ∀ dx, H2 dx = none → dx ≠ a → D.nx σ (upd (upd H2 dx (exd dx [(f, y)])) a (exo a C (some dx)))
section
variable {X : Cx} {o e : Expr} {es : List Expr} {to te : TE} {ta : TA} {f : Str} {p p' pos : Pos}
theorem ps_ostT (ho : PE X o to) (he : PE X e te) (hs : swapsWith e (some (.Attribute o f p')) pos.line X.env = pure false := by rfl) : PS X (.Assign [.Attribute o f p'] e pos) (tOstT X.K f to te) := by
  refine ⟨fun pins s σ H D I h => ?_⟩
  refine plainObj_wpAny_Assign_Attribute (thn (he.run pins s σ H _ I h) fun v s1 ⟨y, H1, I1, r1, q1⟩ => thn (ho.run pins s1 σ H1 _ I1 q1) fun u s2 ⟨x, H2, I2, r2, a, C, ex, T, hno, ea, q⟩ => ?_) hs
  subst ex
  obtain rfl : u = Value.ref a := r2
  exact ost_newT T I2 ea hno r1 fun dx s' n ne J => ⟨σ, _, J, q dx n ne⟩
theorem pmk_oexT {CX : CXT} {x : Str} {C fI : Addr} {k : Nat} {fd : FuncData} {ps : List Str} {sp : Sp} {ds : List Value} {dvs : List V} (T : OexT X.K C) (iC : PySem.W.findIn X.K (.ref C) "__init__" = some (some (.ref fI))) (tI : PySem.W.typeIn X.K (.ref fI) = some (.type "function"))
    (F1 : FnOk X.prog X.w X.K X.mg X.base CX k fI fd ps sp) (hr : Room (k + 1) X.A) (hb : Binds X.K fd ps ds) (hd : Vals dvs ds) (hx : Passes CX X (fun _ _ _ => False)) (hg : Gl X x) (hm : X.mg x = some (.ref C)) (ha : PA X (e :: es) ta)
    (hdb : (x == ("__debug__" : Str)) = false := by decide) (he : starEach (e :: es) X.env = (false, eval e X.env) :: starEach es X.env := by rfl) (hpl : (backTo pos (starEach es X.env)).any (·.1) = false := by rfl) :
    PMk X (.Call (.Name x p) (e :: es) [] pos) (tMkO C sp dvs ta) := by
  intro pins s σ H Q I h
  obtain ⟨B, newId, initId, tail, nm, q, N, bs, bm, sn, sub, ab, col, dd, k0, k1, k2, k3, k5, TT, hC, hbm⟩ := T.cls
  refine wpAny_Call_Name_kw (ld_glob I hg hm ?_ hdb)
  refine PySem.W.callWith_K (h₀ := X.base) I.ok.mod.kin T.kC (thn (ha.run pos pins s σ H _ I h) fun us s1 ⟨vs, H1, I1, r1, hz, q1⟩ => ⟨I1.kIn, ?_⟩) he hpl
  show wpAny _ _ (call (.ref C) us) _ _ _
  obtain ⟨hp, g, dr, tk, os⟩ := s1
  have hsz : hp.objs.size ≤ hp.objs.size + 1 := Nat.le_succ _
  have hq := q1 (hp.objs.size + 1) (I1.hok.fresh hsz)
  have kk : ∀ b o, hp.get? b = some o → ((hp.push (PySem.W.kdv_tup us)).push (PySem.HandSPX.excO C hp.objs.size)).get? b = some o := fun b o e => Heap.get?_push_of_some _ (Heap.get?_push_of_some _ e)
  have hget : ((hp.push (PySem.W.kdv_tup us)).push (PySem.HandSPX.excO C hp.objs.size)).get? (hp.objs.size + 1) = some (PySem.HandSPX.excO C hp.objs.size) := by heap_get
  have I2 : Inv X pins σ (upd H1 (hp.objs.size + 1) (exo (hp.objs.size + 1) C none)) ⟨(hp.push (PySem.W.kdv_tup us)).push (PySem.HandSPX.excO C hp.objs.size), g, dr, tk, os⟩ :=
    I1.laid (t' := tk) (a := hp.objs.size + 1) (o := exo (hp.objs.size + 1) C none) (h' := (hp.push (PySem.W.kdv_tup us)).push (PySem.HandSPX.excO C hp.objs.size)) kk hsz (exo_ok hget)
  have r2 : Vals (V.ref (hp.objs.size + 1) :: (vs ++ dvs)) (Value.ref (hp.objs.size + 1) :: (us ++ ds)) := .cons rfl (r1.append hd)
  have hl : (Value.ref (hp.objs.size + 1) :: us ++ ds).length = ps.length := (r2.length.symm.trans (F1.len _ _ _ _ hq))
  have hus : us.length ≤ sizeLine := by
    rw [← Paired.length r1, sizeLine_eq]
    omega
  refine wpAny_call (PySem.HandSPX.call_own TT.F (fun Y => refsT_has TT Y bm hbm) (I1.kIn _ _ hC) (PySem.W.looks_findIn I1.kIn iC) (fun self => PySem.W.bind_fn I1.kIn self tI) hus
    (codeAny_mono (F1.run _ X.stack _ _ ⟨Value.ref (hp.objs.size + 1) :: us, []⟩ (Value.ref (hp.objs.size + 1) :: (us ++ ds)) _ _ (fun _ _ _ => False) (hr.make C us []) (I2.env0.make C us []) (hb _ (Value.ref (hp.objs.size + 1) :: us) I2.kIn hl) r2 hq) fun r s' hq' => ?_))
  cases r with
  | error er => exact hx pins σ _ _ er s' I2 hq'
  | ok fl =>
    cases fl with
    | ret u =>
      obtain ⟨v, H2, os2, bare2, un2, hok2, rv, ev, d, fs, ea, ed, hd1, q2⟩ := hq'
      subst ev
      obtain ⟨h2, g2, d2, t2, os'⟩ := s'
      exact ⟨rv, mk_end (raises_own T.exC T.tyC) I1 hsz kk un2 hok2 os2 bare2 ea ed hd1 q2⟩
    | _ => exact False.elim hq'
end
/-- read off the written part -/
def oexInT (newId : String) (tail : List Value) (K : PySem.W.Frag) (C : Addr) : Bool := match K.lookup C with
  | some ⟨.type "type", _, .cls cd, sl⟩ => (match cd.mro, sl.toList with
    | .ref C' :: bm, [_, _, _, _, some (.builtin n), _] => C' == C && n == newId && !cd.hasDel && cd.hasDict && refsT tail bm
    | _, _ => false)
  | _ => false
theorem oexCT {B newId initId : String} {tail : List Value} (T : ExTail B newId initId tail) {K : PySem.W.Frag} {C : Addr} (q : oexInT newId tail K C = true) (sa : PySem.W.findIn K (.ref C) "__setattr__" = some (some (.builtin "object.__setattr__")))
    (exC : PySem.W.subIn K (.ref C) (.type "BaseException") = some true) (tyC : PySem.W.typeIn K (.ref C) = some (.type "type")) (kC : PySem.W.keepIn K (.ref C) = true) : OexT K C := by
  refine ⟨?_, sa, exC, tyC, kC⟩
  unfold oexInT at q
  split at q
  · rename_i dd cd sl ho
    split at q
    · rename_i C' bm k0 k1 k2 k3 n k5 hm hs
      simp only [Bool.and_eq_true, beq_iff_eq, Bool.not_eq_true'] at q
      obtain ⟨⟨⟨⟨rfl, rfl⟩, hdel⟩, hdi⟩, ht⟩ := q
      obtain ⟨nm, bs, mro, ns, qn, hd, sn, sub, ab, col, del⟩ := cd
      dsimp only at hm hdel hdi
      subst hm hdel hdi
      have hsl : sl = #[k0, k1, k2, k3, some (.builtin n), k5] := by
        obtain ⟨l⟩ := sl
        simp only at hs
        rw [hs]
      subst hsl
      exact ⟨B, n, initId, tail, nm, qn, ns, bs, bm, sn, sub, ab, col, dd, k0, k1, k2, k3, k5, T, ho, ht⟩
    · cases q
  · cases q
structure ExIT (K : PySem.W.Frag) (mg : Str → Option Value) (x : Str) (C fI : Addr) : Prop where
  g : mg x = some (.ref C)
  o : OexT K C
  x : XfC K C
  i : PySem.W.findIn K (.ref C) "__init__" = some (some (.ref fI))
  t : PySem.W.typeIn K (.ref fI) = some (.type "function")
end K0

namespace K0
open PySem L2 Evl
/-- a dict of the top from texts to defs -/
def TabF (K : PySem.W.Frag) (w : World) (a : Addr) (ts : List (Str × Addr)) : Prop := ∃ es n, KDict K w a es n ∧ ∀ z, PySem.W.nsIn K a z = some ((ts.lookup z).map Value.ref)
/-- an own class has what isinstance asks -/
structure ObjC (K : PySem.W.Frag) (C : Addr) : Prop where
  ca : PySem.W.findIn K (.ref C) "__class__" = some (some (.builtin "object.__class__"))
  cg : PySem.W.specialIn K (.builtin "object.__class__") "__get__" = some (some (.builtin "getset_descriptor.__get__"))
  ct : PySem.W.takesIn K (.builtin "object.__class__") = some true
  co : PySem.W.mroIn K C (.type "object") = some true
def bmVE : List Value := [.type "ValueError", .type "Exception", .type "BaseException", .type "object"]
/-- an exception class over ValueError, without an __init__ of its own -/
structure ExcF (K : PySem.W.Frag) (mg : Str → Option Value) (x : Str) (C : Addr) : Prop where
  g : mg x = some (.ref C)
  q : PySem.W.excIn K C bmVE "ValueError.__new__" = true
  k : PySem.W.keepIn K (.ref C) = true
  b : PySem.W.subIn K (.ref C) (.type "BaseException") = some true
  t : PySem.W.typeIn K (.ref C) = some (.type "type")
/-- an exception class over ValueError with an __init__ of its own alone -/
def oexIn (K : PySem.W.Frag) (C : Addr) : Bool := match K.lookup C with
  | some ⟨.type "type", _, .cls cd, sl⟩ => (match cd.mro, sl.toList with
    | .ref C' :: bm, [_, _, _, _, some (.builtin n), _] => C' == C && n == "ValueError.__new__" && !cd.hasDel && cd.hasDict && PySem.HandSPX.refsVE bm
    | _, _ => false)
  | _ => false
theorem oexC {K : PySem.W.Frag} {C : Addr} (q : oexIn K C = true) (sa : PySem.W.findIn K (.ref C) "__setattr__" = some (some (.builtin "object.__setattr__"))) (exC : PySem.W.subIn K (.ref C) (.type "BaseException") = some true)
    (tyC : PySem.W.typeIn K (.ref C) = some (.type "type")) (kC : PySem.W.keepIn K (.ref C) = true) : OexC K C := by
  refine ⟨?_, sa, exC, tyC, kC⟩
  unfold oexIn at q
  split at q
  · rename_i dd cd sl ho
    split at q
    · rename_i C' bm k0 k1 k2 k3 n k5 hm hs
      simp only [Bool.and_eq_true, beq_iff_eq, Bool.not_eq_true'] at q
      obtain ⟨⟨⟨⟨rfl, rfl⟩, hdel⟩, hdi⟩, ht⟩ := q
      obtain ⟨nm, bs, mro, ns, qn, hd, sn, sub, ab, col, del⟩ := cd
      dsimp only at hm hdel hdi
      subst hm hdel hdi
      have hsl : sl = #[k0, k1, k2, k3, some (.builtin "ValueError.__new__"), k5] := by
        obtain ⟨l⟩ := sl
        simp only at hs
        rw [hs]
      subst hsl
      exact ⟨nm, qn, ns, bs, bm, sn, sub, ab, col, dd, k0, k1, k2, k3, k5, ho, ht⟩
    · cases q
  · cases q
structure ExI (K : PySem.W.Frag) (mg : Str → Option Value) (x : Str) (C fI : Addr) : Prop where
  g : mg x = some (.ref C)
  o : OexC K C
  x : XfC K C
  i : PySem.W.findIn K (.ref C) "__init__" = some (some (.ref fI))
  t : PySem.W.typeIn K (.ref fI) = some (.type "function")
def top (i : Nat) : Stmt := PySem.Challenge.pw_halvesmeet_k30_errors_of_letters_and_bag.main.body.getD i (.Pass ⟨0, 0, 0, 0⟩)
abbrev s_is_number : Stmt := top 21
abbrev N_is_number : List Str := ["value"]
theorem sc_is_number : FnScope N_is_number ["value"] (defScope s_is_number) := ⟨rfl, rfl, rfl, by decide +kernel, rfl, by decide +kernel, by decide +kernel⟩
abbrev s_is_within : Stmt := top 22
abbrev N_is_within : List Str := ["value", "least", "most"]
theorem sc_is_within : FnScope N_is_within ["value", "least", "most"] (defScope s_is_within) := ⟨rfl, rfl, rfl, by decide +kernel, rfl, by decide +kernel, by decide +kernel⟩
abbrev s_is_house : Stmt := top 23
abbrev N_is_house : List Str := ["value"]
theorem sc_is_house : FnScope N_is_house ["value"] (defScope s_is_house) := ⟨rfl, rfl, rfl, by decide +kernel, rfl, by decide +kernel, by decide +kernel⟩
abbrev s_is_client : Stmt := top 24
abbrev N_is_client : List Str := ["value"]
theorem sc_is_client : FnScope N_is_client ["value"] (defScope s_is_client) := ⟨rfl, rfl, rfl, by decide +kernel, rfl, by decide +kernel, by decide +kernel⟩
abbrev s_is_circle : Stmt := top 25
abbrev N_is_circle : List Str := ["value"]
theorem sc_is_circle : FnScope N_is_circle ["value"] (defScope s_is_circle) := ⟨rfl, rfl, rfl, by decide +kernel, rfl, by decide +kernel, by decide +kernel⟩
abbrev s_are_indices : Stmt := top 26
abbrev N_are_indices : List Str := ["value", "many", "index"]
theorem sc_are_indices : FnScope N_are_indices ["value", "many"] (defScope s_are_indices) := ⟨rfl, rfl, rfl, by decide +kernel, rfl, by decide +kernel, by decide +kernel⟩
abbrev s_are_ascending : Stmt := top 27
abbrev N_are_ascending : List Str := ["row", "one", "other"]
theorem sc_are_ascending : FnScope N_are_ascending ["row"] (defScope s_are_ascending) := ⟨rfl, rfl, rfl, by decide +kernel, rfl, by decide +kernel, by decide +kernel⟩
abbrev s_is_made_of : Stmt := top 28
abbrev N_is_made_of : List Str := ["value", "signs", "most"]
theorem sc_is_made_of : FnScope N_is_made_of ["value", "signs", "most"] (defScope s_is_made_of) := ⟨rfl, rfl, rfl, by decide +kernel, rfl, by decide +kernel, by decide +kernel⟩
abbrev s_is_key : Stmt := top 29
abbrev N_is_key : List Str := ["value"]
theorem sc_is_key : FnScope N_is_key ["value"] (defScope s_is_key) := ⟨rfl, rfl, rfl, by decide +kernel, rfl, by decide +kernel, by decide +kernel⟩
abbrev s_is_short_number : Stmt := top 30
abbrev N_is_short_number : List Str := ["value"]
theorem sc_is_short_number : FnScope N_is_short_number ["value"] (defScope s_is_short_number) := ⟨rfl, rfl, rfl, by decide +kernel, rfl, by decide +kernel, by decide +kernel⟩
abbrev s_is_value : Stmt := top 31
abbrev N_is_value : List Str := ["value"]
theorem sc_is_value : FnScope N_is_value ["value"] (defScope s_is_value) := ⟨rfl, rfl, rfl, by decide +kernel, rfl, by decide +kernel, by decide +kernel⟩
abbrev s_check_number : Stmt := top 33
abbrev N_check_number : List Str := ["given", "least", "most"]
theorem sc_check_number : FnScope N_check_number ["given", "least", "most"] (defScope s_check_number) := ⟨rfl, rfl, rfl, by decide +kernel, rfl, by decide +kernel, by decide +kernel⟩
abbrev s_check_house : Stmt := top 34
abbrev N_check_house : List Str := ["given"]
theorem sc_check_house : FnScope N_check_house ["given"] (defScope s_check_house) := ⟨rfl, rfl, rfl, by decide +kernel, rfl, by decide +kernel, by decide +kernel⟩
abbrev s_check_client : Stmt := top 35
abbrev N_check_client : List Str := ["given"]
theorem sc_check_client : FnScope N_check_client ["given"] (defScope s_check_client) := ⟨rfl, rfl, rfl, by decide +kernel, rfl, by decide +kernel, by decide +kernel⟩
abbrev s_is_worth : Stmt := top 44
abbrev N_is_worth : List Str := ["value"]
theorem sc_is_worth : FnScope N_is_worth ["value"] (defScope s_is_worth) := ⟨rfl, rfl, rfl, by decide +kernel, rfl, by decide +kernel, by decide +kernel⟩
abbrev s_word_of : Stmt := top 45
abbrev N_word_of : List Str := ["value"]
theorem sc_word_of : FnScope N_word_of ["value"] (defScope s_word_of) := ⟨rfl, rfl, rfl, by decide +kernel, rfl, by decide +kernel, by decide +kernel⟩
abbrev s_is_put : Stmt := top 46
abbrev N_is_put : List Str := ["value"]
theorem sc_is_put : FnScope N_is_put ["value"] (defScope s_is_put) := ⟨rfl, rfl, rfl, by decide +kernel, rfl, by decide +kernel, by decide +kernel⟩
abbrev s_is_of_key : Stmt := top 47
abbrev N_is_of_key : List Str := ["value"]
theorem sc_is_of_key : FnScope N_is_of_key ["value"] (defScope s_is_of_key) := ⟨rfl, rfl, rfl, by decide +kernel, rfl, by decide +kernel, by decide +kernel⟩
abbrev s_is_add : Stmt := top 48
abbrev N_is_add : List Str := ["value"]
theorem sc_is_add : FnScope N_is_add ["value"] (defScope s_is_add) := ⟨rfl, rfl, rfl, by decide +kernel, rfl, by decide +kernel, by decide +kernel⟩
abbrev s_is_swap : Stmt := top 49
abbrev N_is_swap : List Str := ["value"]
theorem sc_is_swap : FnScope N_is_swap ["value"] (defScope s_is_swap) := ⟨rfl, rfl, rfl, by decide +kernel, rfl, by decide +kernel, by decide +kernel⟩
abbrev s_is_list : Stmt := top 50
abbrev N_is_list : List Str := ["value"]
theorem sc_is_list : FnScope N_is_list ["value"] (defScope s_is_list) := ⟨rfl, rfl, rfl, by decide +kernel, rfl, by decide +kernel, by decide +kernel⟩
abbrev s_is_all : Stmt := top 51
abbrev N_is_all : List Str := ["value", "part"]
theorem sc_is_all : FnScope N_is_all ["value"] (defScope s_is_all) := ⟨rfl, rfl, rfl, by decide +kernel, rfl, by decide +kernel, by decide +kernel⟩
abbrev s_has_lot_size : Stmt := top 52
abbrev N_has_lot_size : List Str := ["value"]
theorem sc_has_lot_size : FnScope N_has_lot_size ["value"] (defScope s_has_lot_size) := ⟨rfl, rfl, rfl, by decide +kernel, rfl, by decide +kernel, by decide +kernel⟩
abbrev s_is_of_circle : Stmt := top 53
abbrev N_is_of_circle : List Str := ["value"]
theorem sc_is_of_circle : FnScope N_is_of_circle ["value"] (defScope s_is_of_circle) := ⟨rfl, rfl, rfl, by decide +kernel, rfl, by decide +kernel, by decide +kernel⟩
abbrev s_is_deed : Stmt := top 55
abbrev N_is_deed : List Str := ["value", "word", "form"]
theorem sc_is_deed : FnScope N_is_deed ["value"] (defScope s_is_deed) := ⟨rfl, rfl, rfl, by decide +kernel, rfl, by decide +kernel, by decide +kernel⟩
abbrev s_made : Stmt := top 128
abbrev N_made : List Str := ["letters", "bag"]
theorem sc_made : FnScope N_made ["letters"] (defScope s_made) := ⟨rfl, rfl, rfl, by decide +kernel, rfl, by decide +kernel, by decide +kernel⟩
abbrev s_is_count : Stmt := top 101
abbrev N_is_count : List Str := ["value"]
theorem sc_is_count : FnScope N_is_count ["value"] (defScope s_is_count) := ⟨rfl, rfl, rfl, by decide +kernel, rfl, by decide +kernel, by decide +kernel⟩
abbrev s_is_call_number : Stmt := top 103
abbrev N_is_call_number : List Str := ["value"]
theorem sc_is_call_number : FnScope N_is_call_number ["value"] (defScope s_is_call_number) := ⟨rfl, rfl, rfl, by decide +kernel, rfl, by decide +kernel, by decide +kernel⟩
abbrev s_is_ask : Stmt := top 107
abbrev N_is_ask : List Str := ["rest"]
theorem sc_is_ask : FnScope N_is_ask ["rest"] (defScope s_is_ask) := ⟨rfl, rfl, rfl, by decide +kernel, rfl, by decide +kernel, by decide +kernel⟩
abbrev s_is_grant : Stmt := top 108
abbrev N_is_grant : List Str := ["rest"]
theorem sc_is_grant : FnScope N_is_grant ["rest"] (defScope s_is_grant) := ⟨rfl, rfl, rfl, by decide +kernel, rfl, by decide +kernel, by decide +kernel⟩
abbrev s_is_bar : Stmt := top 109
abbrev N_is_bar : List Str := ["rest"]
theorem sc_is_bar : FnScope N_is_bar ["rest"] (defScope s_is_bar) := ⟨rfl, rfl, rfl, by decide +kernel, rfl, by decide +kernel, by decide +kernel⟩
abbrev s_is_lay : Stmt := top 110
abbrev N_is_lay : List Str := ["rest", "term", "first", "base", "start", "entries", "decided", "number", "count"]
theorem sc_is_lay : FnScope N_is_lay ["rest"] (defScope s_is_lay) := ⟨rfl, rfl, rfl, by decide +kernel, rfl, by decide +kernel, by decide +kernel⟩
abbrev s_is_laid : Stmt := top 111
abbrev N_is_laid : List Str := ["rest", "count"]
theorem sc_is_laid : FnScope N_is_laid ["rest"] (defScope s_is_laid) := ⟨rfl, rfl, rfl, by decide +kernel, rfl, by decide +kernel, by decide +kernel⟩
abbrev s_is_carry : Stmt := top 112
abbrev N_is_carry : List Str := ["rest"]
theorem sc_is_carry : FnScope N_is_carry ["rest"] (defScope s_is_carry) := ⟨rfl, rfl, rfl, by decide +kernel, rfl, by decide +kernel, by decide +kernel⟩
abbrev s_is_begun : Stmt := top 113
abbrev N_is_begun : List Str := ["rest"]
theorem sc_is_begun : FnScope N_is_begun ["rest"] (defScope s_is_begun) := ⟨rfl, rfl, rfl, by decide +kernel, rfl, by decide +kernel, by decide +kernel⟩
abbrev s_is_call : Stmt := top 115
abbrev N_is_call : List Str := ["letter"]
theorem sc_is_call : FnScope N_is_call ["letter"] (defScope s_is_call) := ⟨rfl, rfl, rfl, by decide +kernel, rfl, by decide +kernel, by decide +kernel⟩
abbrev s_is_reply : Stmt := top 117
abbrev N_is_reply : List Str := ["letter"]
theorem sc_is_reply : FnScope N_is_reply ["letter"] (defScope s_is_reply) := ⟨rfl, rfl, rfl, by decide +kernel, rfl, by decide +kernel, by decide +kernel⟩
abbrev s_is_try : Stmt := top 118
abbrev N_is_try : List Str := ["letter", "_", "other", "epoch", "circle"]
theorem sc_is_try : FnScope N_is_try ["letter"] (defScope s_is_try) := ⟨rfl, rfl, rfl, by decide +kernel, rfl, by decide +kernel, by decide +kernel⟩
abbrev s_is_letter : Stmt := top 120
abbrev N_is_letter : List Str := ["value", "word", "form"]
theorem sc_is_letter : FnScope N_is_letter ["value"] (defScope s_is_letter) := ⟨rfl, rfl, rfl, by decide +kernel, rfl, by decide +kernel, by decide +kernel⟩
abbrev s_is_house_letter : Stmt := top 121
abbrev N_is_house_letter : List Str := ["value", "word", "form"]
theorem sc_is_house_letter : FnScope N_is_house_letter ["value"] (defScope s_is_house_letter) := ⟨rfl, rfl, rfl, by decide +kernel, rfl, by decide +kernel, by decide +kernel⟩
abbrev s_check_letter : Stmt := top 122
abbrev N_check_letter : List Str := ["value"]
theorem sc_check_letter : FnScope N_check_letter ["value"] (defScope s_check_letter) := ⟨rfl, rfl, rfl, by decide +kernel, rfl, by decide +kernel, by decide +kernel⟩
abbrev s_check_letters : Stmt := top 123
abbrev N_check_letters : List Str := ["value", "letter"]
theorem sc_check_letters : FnScope N_check_letters ["value"] (defScope s_check_letters) := ⟨rfl, rfl, rfl, by decide +kernel, rfl, by decide +kernel, by decide +kernel⟩
abbrev s_sender : Stmt := top 124
abbrev N_sender : List Str := ["letter"]
theorem sc_sender : FnScope N_sender ["letter"] (defScope s_sender) := ⟨rfl, rfl, rfl, by decide +kernel, rfl, by decide +kernel, by decide +kernel⟩
abbrev s_receiver : Stmt := top 125
abbrev N_receiver : List Str := ["letter"]
theorem sc_receiver : FnScope N_receiver ["letter"] (defScope s_receiver) := ⟨rfl, rfl, rfl, by decide +kernel, rfl, by decide +kernel, by decide +kernel⟩
abbrev s_Bag_init : Stmt := inClass (top 127) 0
abbrev N_Bag_init : List Str := ["self", "letters"]
theorem sc_Bag_init : FnScope N_Bag_init ["self", "letters"] (defScope s_Bag_init) := ⟨rfl, rfl, rfl, by decide +kernel, rfl, by decide +kernel, by decide +kernel⟩
abbrev s_Bag_letters : Stmt := inClass (top 127) 1
abbrev N_Bag_letters : List Str := ["self"]
theorem sc_Bag_letters : FnScope N_Bag_letters ["self"] (defScope s_Bag_letters) := ⟨rfl, rfl, rfl, by decide +kernel, rfl, by decide +kernel, by decide +kernel⟩
abbrev s_Bag_sent : Stmt := inClass (top 127) 2
abbrev N_Bag_sent : List Str := ["self", "letters"]
theorem sc_Bag_sent : FnScope N_Bag_sent ["self", "letters"] (defScope s_Bag_sent) := ⟨rfl, rfl, rfl, by decide +kernel, rfl, by decide +kernel, by decide +kernel⟩
abbrev s_Bag_taken : Stmt := inClass (top 127) 3
abbrev N_Bag_taken : List Str := ["self", "index", "later"]
theorem sc_Bag_taken : FnScope N_Bag_taken ["self", "index"] (defScope s_Bag_taken) := ⟨rfl, rfl, rfl, by decide +kernel, rfl, by decide +kernel, by decide +kernel⟩
abbrev s_Bag_lost : Stmt := inClass (top 127) 4
abbrev N_Bag_lost : List Str := ["self", "index"]
theorem sc_Bag_lost : FnScope N_Bag_lost ["self", "index"] (defScope s_Bag_lost) := ⟨rfl, rfl, rfl, by decide +kernel, rfl, by decide +kernel, by decide +kernel⟩
abbrev s_Bag_doubled : Stmt := inClass (top 127) 5
abbrev N_Bag_doubled : List Str := ["self", "index"]
theorem sc_Bag_doubled : FnScope N_Bag_doubled ["self", "index"] (defScope s_Bag_doubled) := ⟨rfl, rfl, rfl, by decide +kernel, rfl, by decide +kernel, by decide +kernel⟩
abbrev s_Bag_to_house : Stmt := inClass (top 127) 6
abbrev N_Bag_to_house : List Str := ["self", "house"]
theorem sc_Bag_to_house : FnScope N_Bag_to_house ["self", "house"] (defScope s_Bag_to_house) := ⟨rfl, rfl, rfl, by decide +kernel, rfl, by decide +kernel, by decide +kernel⟩
abbrev s_Bag_to_client : Stmt := inClass (top 127) 7
abbrev N_Bag_to_client : List Str := ["self", "client"]
theorem sc_Bag_to_client : FnScope N_Bag_to_client ["self", "client"] (defScope s_Bag_to_client) := ⟨rfl, rfl, rfl, by decide +kernel, rfl, by decide +kernel, by decide +kernel⟩
abbrev s_Bag_has_same : Stmt := inClass (top 127) 8
abbrev N_Bag_has_same : List Str := ["self", "other"]
theorem sc_Bag_has_same : FnScope N_Bag_has_same ["self", "other"] (defScope s_Bag_has_same) := ⟨rfl, rfl, rfl, by decide +kernel, rfl, by decide +kernel, by decide +kernel⟩
abbrev s_Bag_len : Stmt := inClass (top 127) 9
abbrev N_Bag_len : List Str := ["self"]
theorem sc_Bag_len : FnScope N_Bag_len ["self"] (defScope s_Bag_len) := ⟨rfl, rfl, rfl, by decide +kernel, rfl, by decide +kernel, by decide +kernel⟩
abbrev s_Bag_iter : Stmt := inClass (top 127) 10
abbrev N_Bag_iter : List Str := ["self"]
theorem sc_Bag_iter : FnScope N_Bag_iter ["self"] (defScope s_Bag_iter) := ⟨rfl, rfl, rfl, by decide +kernel, rfl, by decide +kernel, by decide +kernel⟩
abbrev s_Bag_eq : Stmt := inClass (top 127) 11
abbrev N_Bag_eq : List Str := ["self", "other"]
theorem sc_Bag_eq : FnScope N_Bag_eq ["self", "other"] (defScope s_Bag_eq) := ⟨rfl, rfl, rfl, by decide +kernel, rfl, by decide +kernel, by decide +kernel⟩
abbrev s_Bag_str : Stmt := inClass (top 127) 12
abbrev N_Bag_str : List Str := ["self"]
theorem sc_Bag_str : FnScope N_Bag_str ["self"] (defScope s_Bag_str) := ⟨rfl, rfl, rfl, by decide +kernel, rfl, by decide +kernel, by decide +kernel⟩
abbrev s_law_dice : Stmt := top 133
abbrev N_law_dice : List Str := ["script", "spot", "cell", "left"]
theorem sc_law_dice : FnScope N_law_dice ["script", "spot"] (defScope s_law_dice) := ⟨rfl, rfl, rfl, by decide +kernel, rfl, by decide +kernel, by decide +kernel⟩
abbrev s_law_roll : Stmt := top 134
abbrev N_law_roll : List Str := ["dice", "most", "found", "one", "two"]
theorem sc_law_roll : FnScope N_law_roll ["dice", "most"] (defScope s_law_roll) := ⟨rfl, rfl, rfl, by decide +kernel, rfl, by decide +kernel, by decide +kernel⟩
abbrev s_law_pick : Stmt := top 135
abbrev N_law_pick : List Str := ["dice", "items"]
theorem sc_law_pick : FnScope N_law_pick ["dice", "items"] (defScope s_law_pick) := ⟨rfl, rfl, rfl, by decide +kernel, rfl, by decide +kernel, by decide +kernel⟩
abbrev s_law_met : Stmt := top 136
abbrev N_law_met : List Str := ["call", "error"]
theorem sc_law_met : FnScope N_law_met ["call"] (defScope s_law_met) := ⟨rfl, rfl, rfl, by decide +kernel, rfl, by decide +kernel, by decide +kernel⟩
abbrev s_law_right : Stmt := top 137
abbrev N_law_right : List Str := ["dice", "bag", "good", "some", "letter", "letters", "index", "house", "client", "other", "told", "due", "word"]
theorem sc_law_right : FnScope N_law_right ["dice", "bag"] (defScope s_law_right) := ⟨rfl, rfl, rfl, by decide +kernel, rfl, by decide +kernel, by decide +kernel⟩
abbrev s_law : Stmt := top 138
abbrev N_law : List Str := ["script", "good", "bag", "spot", "dice", "told", "word"]
theorem sc_law : FnScope N_law ["script"] (defScope s_law) := ⟨rfl, rfl, rfl, by decide +kernel, rfl, by decide +kernel, by decide +kernel⟩
abbrev s_InvalidNumber_init : Stmt := inClass (top 7) 0
abbrev N_InvalidNumber_init : List Str := ["self", "given"]
theorem sc_InvalidNumber_init : FnScope N_InvalidNumber_init ["self", "given"] (defScope s_InvalidNumber_init) := ⟨rfl, rfl, rfl, by decide +kernel, rfl, by decide +kernel, by decide +kernel⟩
abbrev s_TooMany_init : Stmt := inClass (top 8) 0
abbrev N_TooMany_init : List Str := ["self", "limit"]
theorem sc_TooMany_init : FnScope N_TooMany_init ["self", "limit"] (defScope s_TooMany_init) := ⟨rfl, rfl, rfl, by decide +kernel, rfl, by decide +kernel, by decide +kernel⟩
structure Ad where
  Bag : Addr
  is_number : Addr
  is_within : Addr
  is_house : Addr
  is_client : Addr
  is_circle : Addr
  are_indices : Addr
  are_ascending : Addr
  is_made_of : Addr
  is_key : Addr
  is_short_number : Addr
  is_value : Addr
  check_number : Addr
  check_house : Addr
  check_client : Addr
  is_worth : Addr
  word_of : Addr
  is_put : Addr
  is_of_key : Addr
  is_add : Addr
  is_swap : Addr
  is_list : Addr
  is_all : Addr
  has_lot_size : Addr
  is_of_circle : Addr
  is_deed : Addr
  made : Addr
  is_count : Addr
  is_call_number : Addr
  is_ask : Addr
  is_grant : Addr
  is_bar : Addr
  is_lay : Addr
  is_laid : Addr
  is_carry : Addr
  is_begun : Addr
  is_call : Addr
  is_reply : Addr
  is_try : Addr
  is_letter : Addr
  is_house_letter : Addr
  check_letter : Addr
  check_letters : Addr
  sender : Addr
  receiver : Addr
  Bag_init : Addr
  Bag_letters : Addr
  Bag_sent : Addr
  Bag_taken : Addr
  Bag_lost : Addr
  Bag_doubled : Addr
  Bag_to_house : Addr
  Bag_to_client : Addr
  Bag_has_same : Addr
  Bag_len : Addr
  Bag_iter : Addr
  Bag_eq : Addr
  Bag_str : Addr
  law_dice : Addr
  law_roll : Addr
  law_pick : Addr
  law_met : Addr
  law_right : Addr
  law : Addr
  InvalidNumber_init : Addr
  TooMany_init : Addr
  EInvalidDeed : Addr
  EInvalidState : Addr
  EInvalidLetter : Addr
  EInvalidOperation : Addr
  EInvalidNumber : Addr
  ETooMany : Addr
  VBag_init : Addr
structure Fd where
  is_number : FuncData
  is_within : FuncData
  is_house : FuncData
  is_client : FuncData
  is_circle : FuncData
  are_indices : FuncData
  are_ascending : FuncData
  is_made_of : FuncData
  is_key : FuncData
  is_short_number : FuncData
  is_value : FuncData
  check_number : FuncData
  check_house : FuncData
  check_client : FuncData
  is_worth : FuncData
  word_of : FuncData
  is_put : FuncData
  is_of_key : FuncData
  is_add : FuncData
  is_swap : FuncData
  is_list : FuncData
  is_all : FuncData
  has_lot_size : FuncData
  is_of_circle : FuncData
  is_deed : FuncData
  made : FuncData
  is_count : FuncData
  is_call_number : FuncData
  is_ask : FuncData
  is_grant : FuncData
  is_bar : FuncData
  is_lay : FuncData
  is_laid : FuncData
  is_carry : FuncData
  is_begun : FuncData
  is_call : FuncData
  is_reply : FuncData
  is_try : FuncData
  is_letter : FuncData
  is_house_letter : FuncData
  check_letter : FuncData
  check_letters : FuncData
  sender : FuncData
  receiver : FuncData
  Bag_init : FuncData
  Bag_letters : FuncData
  Bag_sent : FuncData
  Bag_taken : FuncData
  Bag_lost : FuncData
  Bag_doubled : FuncData
  Bag_to_house : FuncData
  Bag_to_client : FuncData
  Bag_has_same : FuncData
  Bag_len : FuncData
  Bag_iter : FuncData
  Bag_eq : FuncData
  Bag_str : FuncData
  law_dice : FuncData
  law_roll : FuncData
  law_pick : FuncData
  law_met : FuncData
  law_right : FuncData
  law : FuncData
  InvalidNumber_init : FuncData
  TooMany_init : FuncData
/-- what the top has written -/
structure Txt (K : PySem.W.Frag) (mg : Str → Option Value) (A : Ad) (D : Fd) : Prop where
  g_is_number : mg "is_number" = some (.ref A.is_number)
  F_is_number : Fun K "is_number" "is_number" s_is_number A.is_number D.is_number
  b_is_number : Binds K D.is_number ["value"] []
  g_is_within : mg "is_within" = some (.ref A.is_within)
  F_is_within : Fun K "is_within" "is_within" s_is_within A.is_within D.is_within
  b_is_within : Binds K D.is_within ["value", "least", "most"] []
  g_is_house : mg "is_house" = some (.ref A.is_house)
  F_is_house : Fun K "is_house" "is_house" s_is_house A.is_house D.is_house
  b_is_house : Binds K D.is_house ["value"] []
  g_is_client : mg "is_client" = some (.ref A.is_client)
  F_is_client : Fun K "is_client" "is_client" s_is_client A.is_client D.is_client
  b_is_client : Binds K D.is_client ["value"] []
  g_is_circle : mg "is_circle" = some (.ref A.is_circle)
  F_is_circle : Fun K "is_circle" "is_circle" s_is_circle A.is_circle D.is_circle
  b_is_circle : Binds K D.is_circle ["value"] []
  g_are_indices : mg "are_indices" = some (.ref A.are_indices)
  F_are_indices : Fun K "are_indices" "are_indices" s_are_indices A.are_indices D.are_indices
  b_are_indices : Binds K D.are_indices ["value", "many"] []
  g_are_ascending : mg "are_ascending" = some (.ref A.are_ascending)
  F_are_ascending : Fun K "are_ascending" "are_ascending" s_are_ascending A.are_ascending D.are_ascending
  b_are_ascending : Binds K D.are_ascending ["row"] []
  g_is_made_of : mg "is_made_of" = some (.ref A.is_made_of)
  F_is_made_of : Fun K "is_made_of" "is_made_of" s_is_made_of A.is_made_of D.is_made_of
  b_is_made_of : Binds K D.is_made_of ["value", "signs", "most"] []
  g_is_key : mg "is_key" = some (.ref A.is_key)
  F_is_key : Fun K "is_key" "is_key" s_is_key A.is_key D.is_key
  b_is_key : Binds K D.is_key ["value"] []
  g_is_short_number : mg "is_short_number" = some (.ref A.is_short_number)
  F_is_short_number : Fun K "is_short_number" "is_short_number" s_is_short_number A.is_short_number D.is_short_number
  b_is_short_number : Binds K D.is_short_number ["value"] []
  g_is_value : mg "is_value" = some (.ref A.is_value)
  F_is_value : Fun K "is_value" "is_value" s_is_value A.is_value D.is_value
  b_is_value : Binds K D.is_value ["value"] []
  g_check_number : mg "check_number" = some (.ref A.check_number)
  F_check_number : FunD K "check_number" "check_number" (defArgs s_check_number) (defBody s_check_number) (defScope s_check_number) [.int (999999999999999999999999999999999999999999999999999999999999)] [] A.check_number D.check_number
  d_check_number : ∃ ds, Vals [.int (999999999999999999999999999999999999999999999999999999999999)] ds ∧ Binds K D.check_number ["given", "least", "most"] ds
  b_check_number : Binds K D.check_number ["given", "least", "most"] []
  g_check_house : mg "check_house" = some (.ref A.check_house)
  F_check_house : Fun K "check_house" "check_house" s_check_house A.check_house D.check_house
  b_check_house : Binds K D.check_house ["given"] []
  g_check_client : mg "check_client" = some (.ref A.check_client)
  F_check_client : Fun K "check_client" "check_client" s_check_client A.check_client D.check_client
  b_check_client : Binds K D.check_client ["given"] []
  g_is_worth : mg "_is_worth" = some (.ref A.is_worth)
  F_is_worth : Fun K "_is_worth" "_is_worth" s_is_worth A.is_worth D.is_worth
  b_is_worth : Binds K D.is_worth ["value"] []
  g_word_of : mg "word_of" = some (.ref A.word_of)
  F_word_of : Fun K "word_of" "word_of" s_word_of A.word_of D.word_of
  b_word_of : Binds K D.word_of ["value"] []
  g_is_put : mg "_is_put" = some (.ref A.is_put)
  F_is_put : Fun K "_is_put" "_is_put" s_is_put A.is_put D.is_put
  b_is_put : Binds K D.is_put ["value"] []
  g_is_of_key : mg "_is_of_key" = some (.ref A.is_of_key)
  F_is_of_key : Fun K "_is_of_key" "_is_of_key" s_is_of_key A.is_of_key D.is_of_key
  b_is_of_key : Binds K D.is_of_key ["value"] []
  g_is_add : mg "_is_add" = some (.ref A.is_add)
  F_is_add : Fun K "_is_add" "_is_add" s_is_add A.is_add D.is_add
  b_is_add : Binds K D.is_add ["value"] []
  g_is_swap : mg "_is_swap" = some (.ref A.is_swap)
  F_is_swap : Fun K "_is_swap" "_is_swap" s_is_swap A.is_swap D.is_swap
  b_is_swap : Binds K D.is_swap ["value"] []
  g_is_list : mg "_is_list" = some (.ref A.is_list)
  F_is_list : Fun K "_is_list" "_is_list" s_is_list A.is_list D.is_list
  b_is_list : Binds K D.is_list ["value"] []
  g_is_all : mg "_is_all" = some (.ref A.is_all)
  F_is_all : Fun K "_is_all" "_is_all" s_is_all A.is_all D.is_all
  b_is_all : Binds K D.is_all ["value"] []
  g_has_lot_size : mg "_has_lot_size" = some (.ref A.has_lot_size)
  F_has_lot_size : Fun K "_has_lot_size" "_has_lot_size" s_has_lot_size A.has_lot_size D.has_lot_size
  b_has_lot_size : Binds K D.has_lot_size ["value"] []
  g_is_of_circle : mg "_is_of_circle" = some (.ref A.is_of_circle)
  F_is_of_circle : Fun K "_is_of_circle" "_is_of_circle" s_is_of_circle A.is_of_circle D.is_of_circle
  b_is_of_circle : Binds K D.is_of_circle ["value"] []
  g_is_deed : mg "is_deed" = some (.ref A.is_deed)
  F_is_deed : Fun K "is_deed" "is_deed" s_is_deed A.is_deed D.is_deed
  b_is_deed : Binds K D.is_deed ["value"] []
  g_made : mg "_made" = some (.ref A.made)
  F_made : Fun K "_made" "_made" s_made A.made D.made
  b_made : Binds K D.made ["letters"] []
  g_is_count : mg "_is_count" = some (.ref A.is_count)
  F_is_count : Fun K "_is_count" "_is_count" s_is_count A.is_count D.is_count
  b_is_count : Binds K D.is_count ["value"] []
  g_is_call_number : mg "_is_call_number" = some (.ref A.is_call_number)
  F_is_call_number : Fun K "_is_call_number" "_is_call_number" s_is_call_number A.is_call_number D.is_call_number
  b_is_call_number : Binds K D.is_call_number ["value"] []
  g_is_ask : mg "_is_ask" = some (.ref A.is_ask)
  F_is_ask : Fun K "_is_ask" "_is_ask" s_is_ask A.is_ask D.is_ask
  b_is_ask : Binds K D.is_ask ["rest"] []
  g_is_grant : mg "_is_grant" = some (.ref A.is_grant)
  F_is_grant : Fun K "_is_grant" "_is_grant" s_is_grant A.is_grant D.is_grant
  b_is_grant : Binds K D.is_grant ["rest"] []
  g_is_bar : mg "_is_bar" = some (.ref A.is_bar)
  F_is_bar : Fun K "_is_bar" "_is_bar" s_is_bar A.is_bar D.is_bar
  b_is_bar : Binds K D.is_bar ["rest"] []
  g_is_lay : mg "_is_lay" = some (.ref A.is_lay)
  F_is_lay : Fun K "_is_lay" "_is_lay" s_is_lay A.is_lay D.is_lay
  b_is_lay : Binds K D.is_lay ["rest"] []
  g_is_laid : mg "_is_laid" = some (.ref A.is_laid)
  F_is_laid : Fun K "_is_laid" "_is_laid" s_is_laid A.is_laid D.is_laid
  b_is_laid : Binds K D.is_laid ["rest"] []
  g_is_carry : mg "_is_carry" = some (.ref A.is_carry)
  F_is_carry : Fun K "_is_carry" "_is_carry" s_is_carry A.is_carry D.is_carry
  b_is_carry : Binds K D.is_carry ["rest"] []
  g_is_begun : mg "_is_begun" = some (.ref A.is_begun)
  F_is_begun : Fun K "_is_begun" "_is_begun" s_is_begun A.is_begun D.is_begun
  b_is_begun : Binds K D.is_begun ["rest"] []
  g_is_call : mg "_is_call" = some (.ref A.is_call)
  F_is_call : Fun K "_is_call" "_is_call" s_is_call A.is_call D.is_call
  b_is_call : Binds K D.is_call ["letter"] []
  g_is_reply : mg "_is_reply" = some (.ref A.is_reply)
  F_is_reply : Fun K "_is_reply" "_is_reply" s_is_reply A.is_reply D.is_reply
  b_is_reply : Binds K D.is_reply ["letter"] []
  g_is_try : mg "_is_try" = some (.ref A.is_try)
  F_is_try : Fun K "_is_try" "_is_try" s_is_try A.is_try D.is_try
  b_is_try : Binds K D.is_try ["letter"] []
  g_is_letter : mg "is_letter" = some (.ref A.is_letter)
  F_is_letter : Fun K "is_letter" "is_letter" s_is_letter A.is_letter D.is_letter
  b_is_letter : Binds K D.is_letter ["value"] []
  g_is_house_letter : mg "is_house_letter" = some (.ref A.is_house_letter)
  F_is_house_letter : Fun K "is_house_letter" "is_house_letter" s_is_house_letter A.is_house_letter D.is_house_letter
  b_is_house_letter : Binds K D.is_house_letter ["value"] []
  g_check_letter : mg "check_letter" = some (.ref A.check_letter)
  F_check_letter : Fun K "check_letter" "check_letter" s_check_letter A.check_letter D.check_letter
  b_check_letter : Binds K D.check_letter ["value"] []
  g_check_letters : mg "check_letters" = some (.ref A.check_letters)
  F_check_letters : Fun K "check_letters" "check_letters" s_check_letters A.check_letters D.check_letters
  b_check_letters : Binds K D.check_letters ["value"] []
  g_sender : mg "sender" = some (.ref A.sender)
  F_sender : Fun K "sender" "sender" s_sender A.sender D.sender
  b_sender : Binds K D.sender ["letter"] []
  g_receiver : mg "receiver" = some (.ref A.receiver)
  F_receiver : Fun K "receiver" "receiver" s_receiver A.receiver D.receiver
  b_receiver : Binds K D.receiver ["letter"] []
  F_Bag_init : FunD K "__init__" "Bag.__init__" (defArgs s_Bag_init) (defBody s_Bag_init) (defScope s_Bag_init) [.ref A.VBag_init] [] A.Bag_init D.Bag_init
  d_Bag_init : ∃ ds, Vals [.ref A.VBag_init] ds ∧ Binds K D.Bag_init ["self", "letters"] ds
  b_Bag_init : Binds K D.Bag_init ["self", "letters"] []
  F_Bag_letters : Fun K "letters" "Bag.letters" s_Bag_letters A.Bag_letters D.Bag_letters
  b_Bag_letters : Binds K D.Bag_letters ["self"] []
  F_Bag_sent : Fun K "sent" "Bag.sent" s_Bag_sent A.Bag_sent D.Bag_sent
  b_Bag_sent : Binds K D.Bag_sent ["self", "letters"] []
  F_Bag_taken : Fun K "taken" "Bag.taken" s_Bag_taken A.Bag_taken D.Bag_taken
  b_Bag_taken : Binds K D.Bag_taken ["self", "index"] []
  F_Bag_lost : Fun K "lost" "Bag.lost" s_Bag_lost A.Bag_lost D.Bag_lost
  b_Bag_lost : Binds K D.Bag_lost ["self", "index"] []
  F_Bag_doubled : Fun K "doubled" "Bag.doubled" s_Bag_doubled A.Bag_doubled D.Bag_doubled
  b_Bag_doubled : Binds K D.Bag_doubled ["self", "index"] []
  F_Bag_to_house : Fun K "to_house" "Bag.to_house" s_Bag_to_house A.Bag_to_house D.Bag_to_house
  b_Bag_to_house : Binds K D.Bag_to_house ["self", "house"] []
  F_Bag_to_client : Fun K "to_client" "Bag.to_client" s_Bag_to_client A.Bag_to_client D.Bag_to_client
  b_Bag_to_client : Binds K D.Bag_to_client ["self", "client"] []
  F_Bag_has_same : Fun K "has_same" "Bag.has_same" s_Bag_has_same A.Bag_has_same D.Bag_has_same
  b_Bag_has_same : Binds K D.Bag_has_same ["self", "other"] []
  F_Bag_len : Fun K "__len__" "Bag.__len__" s_Bag_len A.Bag_len D.Bag_len
  b_Bag_len : Binds K D.Bag_len ["self"] []
  F_Bag_iter : Fun K "__iter__" "Bag.__iter__" s_Bag_iter A.Bag_iter D.Bag_iter
  b_Bag_iter : Binds K D.Bag_iter ["self"] []
  F_Bag_eq : Fun K "__eq__" "Bag.__eq__" s_Bag_eq A.Bag_eq D.Bag_eq
  b_Bag_eq : Binds K D.Bag_eq ["self", "other"] []
  F_Bag_str : Fun K "__str__" "Bag.__str__" s_Bag_str A.Bag_str D.Bag_str
  b_Bag_str : Binds K D.Bag_str ["self"] []
  g_law_dice : mg "_law_dice" = some (.ref A.law_dice)
  F_law_dice : Fun K "_law_dice" "_law_dice" s_law_dice A.law_dice D.law_dice
  b_law_dice : Binds K D.law_dice ["script", "spot"] []
  g_law_roll : mg "_law_roll" = some (.ref A.law_roll)
  F_law_roll : Fun K "_law_roll" "_law_roll" s_law_roll A.law_roll D.law_roll
  b_law_roll : Binds K D.law_roll ["dice", "most"] []
  g_law_pick : mg "_law_pick" = some (.ref A.law_pick)
  F_law_pick : Fun K "_law_pick" "_law_pick" s_law_pick A.law_pick D.law_pick
  b_law_pick : Binds K D.law_pick ["dice", "items"] []
  g_law_met : mg "_law_met" = some (.ref A.law_met)
  F_law_met : Fun K "_law_met" "_law_met" s_law_met A.law_met D.law_met
  b_law_met : Binds K D.law_met ["call"] []
  g_law_right : mg "_law_right" = some (.ref A.law_right)
  F_law_right : Fun K "_law_right" "_law_right" s_law_right A.law_right D.law_right
  b_law_right : Binds K D.law_right ["dice", "bag"] []
  g_law : mg "law" = some (.ref A.law)
  F_law : Fun K "law" "law" s_law A.law D.law
  b_law : Binds K D.law ["script"] []
  F_InvalidNumber_init : Fun K "__init__" "InvalidNumber.__init__" s_InvalidNumber_init A.InvalidNumber_init D.InvalidNumber_init
  b_InvalidNumber_init : Binds K D.InvalidNumber_init ["self", "given"] []
  F_TooMany_init : Fun K "__init__" "TooMany.__init__" s_TooMany_init A.TooMany_init D.TooMany_init
  b_TooMany_init : Binds K D.TooMany_init ["self", "limit"] []
  g_made_letters : mg "made_letters" = some (.ref A.made)
  v_Bag_init : ∀ H, SqT K H A.VBag_init []
  g_Bag : mg "Bag" = some (.ref A.Bag)
  cl_Bag : Cls K A.Bag
  mk_Bag : Mk K A.Bag A.Bag_init
  ob_Bag : ObjC K A.Bag
  rd_Bag : ClX.CRead K A.Bag (.type "type")
  kNoneType_Bag : PySem.W.kitOne K (.type "NoneType") (.ref A.Bag) = some false
  fNoneType_Bag : PySem.W.notFirst K A.Bag (.type "NoneType") = true
  ktuple_Bag : PySem.W.kitOne K (.type "tuple") (.ref A.Bag) = some false
  ftuple_Bag : PySem.W.notFirst K A.Bag (.type "tuple") = true
  kint_Bag : PySem.W.kitOne K (.type "int") (.ref A.Bag) = some false
  fint_Bag : PySem.W.notFirst K A.Bag (.type "int") = true
  kstr_Bag : PySem.W.kitOne K (.type "str") (.ref A.Bag) = some false
  fstr_Bag : PySem.W.notFirst K A.Bag (.type "str") = true
  klist_Bag : PySem.W.kitOne K (.type "list") (.ref A.Bag) = some false
  flist_Bag : PySem.W.notFirst K A.Bag (.type "list") = true
  kbool_Bag : PySem.W.kitOne K (.type "bool") (.ref A.Bag) = some false
  fbool_Bag : PySem.W.notFirst K A.Bag (.type "bool") = true
  kdict_Bag : PySem.W.kitOne K (.type "dict") (.ref A.Bag) = some false
  fdict_Bag : PySem.W.notFirst K A.Bag (.type "dict") = true
  ne_Bag : PySem.W.findIn K (.ref A.Bag) "__ne__" = some (some (.builtin "object.__ne__"))
  no_Bag_letters : NoAttr K A.Bag "_letters"
  m_Bag_init : Meth K A.Bag "__init__" A.Bag_init
  p_Bag_letters : ∃ p, PropOf K A.Bag "letters" p A.Bag_letters
  m_Bag_sent : Meth K A.Bag "sent" A.Bag_sent
  m_Bag_taken : Meth K A.Bag "taken" A.Bag_taken
  m_Bag_lost : Meth K A.Bag "lost" A.Bag_lost
  m_Bag_doubled : Meth K A.Bag "doubled" A.Bag_doubled
  m_Bag_to_house : Meth K A.Bag "to_house" A.Bag_to_house
  m_Bag_to_client : Meth K A.Bag "to_client" A.Bag_to_client
  m_Bag_has_same : Meth K A.Bag "has_same" A.Bag_has_same
  m_Bag_len : Meth K A.Bag "__len__" A.Bag_len
  m_Bag_iter : Meth K A.Bag "__iter__" A.Bag_iter
  m_Bag_eq : Meth K A.Bag "__eq__" A.Bag_eq
  m_Bag_str : Meth K A.Bag "__str__" A.Bag_str
  c_MAX_HOUSES : ∃ t, mg "MAX_HOUSES" = some (.int (9) t)
  c_MAX_CIRCLE : ∃ t, mg "MAX_CIRCLE" = some (.int (7) t)
  c_MAX_CLIENTS : ∃ t, mg "MAX_CLIENTS" = some (.int (5) t)
  c_MAX_KEYS : ∃ t, mg "MAX_KEYS" = some (.int (24) t)
  c_MAX_SIGNS : ∃ t, mg "MAX_SIGNS" = some (.int (12) t)
  c_MAX_LOT : ∃ t, mg "MAX_LOT" = some (.int (6) t)
  c_MAX_KEY_SIGNS : ∃ t, mg "MAX_KEY_SIGNS" = some (.int (8) t)
  c_MAX_NUMBER : ∃ t, mg "MAX_NUMBER" = some (.int (999999999999999999999999999999999999999999999999999999999999) t)
  c_MAX_SHORT_NUMBER : ∃ t, mg "MAX_SHORT_NUMBER" = some (.int (999999999999) t)
  c_LETTERS : ∃ t, mg "LETTERS" = some (.str "abcdefghijklmnopqrstuvwxyz" t)
  c_SIGNS : ∃ t, mg "SIGNS" = some (.str "abcdefghijklmnopqrstuvwxyz0123456789 " t)
  c_MAX_SUM : ∃ t, mg "MAX_SUM" = some (.int (999999999999) t)
  c_STOP_WORD : ∃ t, mg "STOP_WORD" = some (.str "circle" t)
  c_GREATEST_KEY : ∃ t, mg "GREATEST_KEY" = some (.str "zzzzzzzz" t)
  c_MAX_LENGTH : ∃ t, mg "MAX_LENGTH" = some (.int (1000000000) t)
  c_MAX_LETTERS : ∃ t, mg "MAX_LETTERS" = some (.int (400) t)
  c_MAX_CARRIED : ∃ t, mg "MAX_CARRIED" = some (.int (64) t)
  c_MAX_COUNT : ∃ t, mg "MAX_COUNT" = some (.int (1000000000) t)
  c_GRANT_MEMBERS : ∃ t, mg "GRANT_MEMBERS" = some (.int (5) t)
  t_LOT_WORDS : ∃ a, mg "LOT_WORDS" = some (.ref a) ∧ ∀ H, SqT K H a [.str "put", .str "drop", .str "get", .str "add", .str "swap"]
  t_LOT_ANSWERS : ∃ a, mg "LOT_ANSWERS" = some (.ref a) ∧ ∀ H, SqT K H a [.str "was", .str "is", .str "sum", .str "swapped"]
  t_BREAKS : ∃ a, mg "BREAKS" = some (.ref a) ∧ ∀ H, SqT K H a [.str "kind", .str "bound", .str "full", .str "other"]
  t_HOUSE_WORDS : ∃ a, mg "HOUSE_WORDS" = some (.ref a) ∧ ∀ H, SqT K H a [.str "ask", .str "grant", .str "bar", .str "lay", .str "laid", .str "carry", .str "begun"]
  b_abs : mg "abs" = none
  b_all : mg "all" = none
  b_bool : mg "bool" = none
  b_dict : mg "dict" = none
  b_enumerate : mg "enumerate" = none
  b_int : mg "int" = none
  b_isinstance : mg "isinstance" = none
  b_len : mg "len" = none
  b_list : mg "list" = none
  b_max : mg "max" = none
  b_min : mg "min" = none
  b_range : mg "range" = none
  b_repr : mg "repr" = none
  b_sorted : mg "sorted" = none
  b_str : mg "str" = none
  b_tuple : mg "tuple" = none
  b_zip : mg "zip" = none
  e_InvalidDeed : ExcF K mg "InvalidDeed" A.EInvalidDeed
  e_InvalidState : ExcF K mg "InvalidState" A.EInvalidState
  e_InvalidLetter : ExcF K mg "InvalidLetter" A.EInvalidLetter
  e_InvalidOperation : ExcF K mg "InvalidOperation" A.EInvalidOperation
  e_InvalidNumber : ExIT K mg "InvalidNumber" A.EInvalidNumber A.InvalidNumber_init
  n_InvalidNumbergiven : PySem.W.findIn K (.ref A.EInvalidNumber) "given" = some none
  e_TooMany : ExIT K mg "TooMany" A.ETooMany A.TooMany_init
  n_TooManylimit : PySem.W.findIn K (.ref A.ETooMany) "limit" = some none
  m_InvalidDeed_InvalidLetter : PySem.W.exmOne K (.ref A.EInvalidDeed) (.ref A.EInvalidLetter) = some false
  m_InvalidDeed_InvalidNumber : PySem.W.exmOne K (.ref A.EInvalidDeed) (.ref A.EInvalidNumber) = some false
  m_InvalidDeed_InvalidOperation : PySem.W.exmOne K (.ref A.EInvalidDeed) (.ref A.EInvalidOperation) = some false
  m_InvalidDeed_TooMany : PySem.W.exmOne K (.ref A.EInvalidDeed) (.ref A.ETooMany) = some false
  m_InvalidState_InvalidLetter : PySem.W.exmOne K (.ref A.EInvalidState) (.ref A.EInvalidLetter) = some false
  m_InvalidState_InvalidNumber : PySem.W.exmOne K (.ref A.EInvalidState) (.ref A.EInvalidNumber) = some false
  m_InvalidState_InvalidOperation : PySem.W.exmOne K (.ref A.EInvalidState) (.ref A.EInvalidOperation) = some false
  m_InvalidState_TooMany : PySem.W.exmOne K (.ref A.EInvalidState) (.ref A.ETooMany) = some false
  m_InvalidLetter_InvalidLetter : PySem.W.exmOne K (.ref A.EInvalidLetter) (.ref A.EInvalidLetter) = some true
  m_InvalidLetter_InvalidNumber : PySem.W.exmOne K (.ref A.EInvalidLetter) (.ref A.EInvalidNumber) = some false
  m_InvalidLetter_InvalidOperation : PySem.W.exmOne K (.ref A.EInvalidLetter) (.ref A.EInvalidOperation) = some false
  m_InvalidLetter_TooMany : PySem.W.exmOne K (.ref A.EInvalidLetter) (.ref A.ETooMany) = some false
  m_InvalidOperation_InvalidLetter : PySem.W.exmOne K (.ref A.EInvalidOperation) (.ref A.EInvalidLetter) = some false
  m_InvalidOperation_InvalidNumber : PySem.W.exmOne K (.ref A.EInvalidOperation) (.ref A.EInvalidNumber) = some false
  m_InvalidOperation_InvalidOperation : PySem.W.exmOne K (.ref A.EInvalidOperation) (.ref A.EInvalidOperation) = some true
  m_InvalidOperation_TooMany : PySem.W.exmOne K (.ref A.EInvalidOperation) (.ref A.ETooMany) = some false
  m_InvalidNumber_InvalidLetter : PySem.W.exmOne K (.ref A.EInvalidNumber) (.ref A.EInvalidLetter) = some false
  m_InvalidNumber_InvalidNumber : PySem.W.exmOne K (.ref A.EInvalidNumber) (.ref A.EInvalidNumber) = some true
  m_InvalidNumber_InvalidOperation : PySem.W.exmOne K (.ref A.EInvalidNumber) (.ref A.EInvalidOperation) = some false
  m_InvalidNumber_TooMany : PySem.W.exmOne K (.ref A.EInvalidNumber) (.ref A.ETooMany) = some false
  m_TooMany_InvalidLetter : PySem.W.exmOne K (.ref A.ETooMany) (.ref A.EInvalidLetter) = some false
  m_TooMany_InvalidNumber : PySem.W.exmOne K (.ref A.ETooMany) (.ref A.EInvalidNumber) = some false
  m_TooMany_InvalidOperation : PySem.W.exmOne K (.ref A.ETooMany) (.ref A.EInvalidOperation) = some false
  m_TooMany_TooMany : PySem.W.exmOne K (.ref A.ETooMany) (.ref A.ETooMany) = some true
/-- the tables of defs -/
structure Tab (K : PySem.W.Frag) (w : World) (mg : Str → Option Value) (A : Ad) : Prop where
  d_DEED_FORMS : ∃ a, mg "DEED_FORMS" = some (.ref a) ∧ TabF K w a [("put", A.is_put), ("drop", A.is_of_key), ("get", A.is_of_key), ("add", A.is_add), ("swap", A.is_swap), ("list", A.is_list), ("all", A.is_all), ("circle", A.is_of_circle)]
  d_HOUSE_FORMS : ∃ a, mg "HOUSE_FORMS" = some (.ref a) ∧ TabF K w a [("ask", A.is_ask), ("grant", A.is_grant), ("bar", A.is_bar), ("lay", A.is_lay), ("laid", A.is_laid), ("carry", A.is_carry), ("begun", A.is_begun)]
  d_CLIENT_FORMS : ∃ a, mg "CLIENT_FORMS" = some (.ref a) ∧ TabF K w a [("deed", A.is_call), ("answer", A.is_reply), ("try", A.is_try)]
/-! ### values as data -/
inductive D where
  | non | bl (b : Bool) | int (i : Int) | str (s : Str) | tup (ds : List D) | oth
mutual
inductive Rp (K : PySem.W.Frag) (H : Hp) : V → D → Prop where
  | non : Rp K H .non .non
  | bl (b : Bool) : Rp K H (.bl b) (.bl b)
  | int (i : Int) : Rp K H (.int i) (.int i)
  | str (s : Str) : Rp K H (.str s) (.str s)
  | tup {a : Addr} {xs : List V} {ds : List D} : SqT K H a xs → RpAll K H xs ds → Rp K H (.ref a) (.tup ds)
  | lst {a : Addr} {xs : List V} : H a = some (.lst xs) → Rp K H (.ref a) .oth
  | dct {a : Addr} {kvs : List (Key × V)} : H a = some (.dK kvs) → Rp K H (.ref a) .oth
inductive RpAll (K : PySem.W.Frag) (H : Hp) : List V → List D → Prop where
  | nil : RpAll K H [] []
  | cons {v : V} {vs : List V} {d : D} {ds : List D} : Rp K H v d → RpAll K H vs ds → RpAll K H (v :: vs) (d :: ds)
end
section
variable {K : PySem.W.Frag} {H H' : Hp}
mutual
theorem Rp.ex {v : V} {d : D} (e : Ex H H') : Rp K H v d → Rp K H' v d
  | .non => .non
  | .bl b => .bl b
  | .int i => .int i
  | .str s => .str s
  | .tup h r => .tup (ex_t e h) (RpAll.ex e r)
  | .lst h => .lst (e _ _ h)
  | .dct h => .dct (e _ _ h)
theorem RpAll.ex {vs : List V} {ds : List D} (e : Ex H H') : RpAll K H vs ds → RpAll K H' vs ds
  | .nil => .nil
  | .cons h r => .cons (Rp.ex e h) (RpAll.ex e r)
end
theorem RpAll.len {vs : List V} {ds : List D} : RpAll K H vs ds → vs.length = ds.length
  | .nil => rfl
  | .cons _ r => by rw [List.length_cons, List.length_cons, RpAll.len r]
theorem RpAll.inv {v : V} {vs : List V} {ds : List D} (h : RpAll K H (v :: vs) ds) : ∃ d es, ds = d :: es ∧ Rp K H v d ∧ RpAll K H vs es := by
  cases h with
  | cons h r => exact ⟨_, _, rfl, h, r⟩
theorem RpAll.get : ∀ (vs : List V) (ds : List D) (i : Nat) (v : V), RpAll K H vs ds → vs[i]? = some v → ∃ d, ds[i]? = some d ∧ Rp K H v d
  | [], _, _, _, _, h => by simp at h
  | u :: us, ds, 0, v, h, e => by
    have e' := Option.some.inj e
    subst e'
    obtain ⟨d, es, rfl, h1, _⟩ := h.inv
    exact ⟨d, rfl, h1⟩
  | u :: us, ds, i + 1, v, h, e => by
    obtain ⟨d, es, rfl, _, h2⟩ := h.inv
    obtain ⟨c, h3, h4⟩ := RpAll.get us es i v h2 (by simpa using e)
    exact ⟨c, by simpa using h3, h4⟩
theorem RpAll.app {vs ws : List V} {ds es : List D} : RpAll K H vs ds → RpAll K H ws es → RpAll K H (vs ++ ws) (ds ++ es)
  | .nil, s => s
  | .cons h r, s => .cons h (RpAll.app r s)
/-! ### kinds -/
def D.isInt : D → Bool
  | .int _ => true | .bl _ => true | _ => false
def D.isBl : D → Bool
  | .bl _ => true | _ => false
def D.isStr : D → Bool
  | .str _ => true | _ => false
def D.isTup : D → Bool
  | .tup _ => true | _ => false
theorem ty_tup {a : Addr} {xs : List V} (h : SqT K H a xs) : TyX K H (.ref a) (.type "tuple") := by
  rcases h with (h | ⟨o, h⟩) | ⟨o, its, n, lk, c, _⟩
  · exact .base (.tup h)
  · exact .fTuple h
  · exact .kTuple lk c
theorem rc_isi {n : String} {f : D → Bool} (hn : kitB "NoneType" n = some (f .non)) (hb : ∀ b, kitB "bool" n = some (f (.bl b))) (hi : ∀ i, kitB "int" n = some (f (.int i))) (hs : ∀ s, kitB "str" n = some (f (.str s)))
    (ht : ∀ ds, kitB "tuple" n = some (f (.tup ds))) (hl : kitB "list" n = some (f .oth)) (hd : kitB "dict" n = some (f .oth)) {x : V} {d : D} (h : Rp K H x d) : RC (rIsi K) [x, .ty n] H (.bl (f d)) := fun H1 e Q q => by
  have h1 := Rp.ex e h
  cases h1 with
  | non => exact ⟨_, _, _, _, _, rfl, .ty _, .base .non, kit_ty hn, q H1 (Ex.refl _)⟩
  | bl b => exact ⟨_, _, _, _, _, rfl, .ty _, .base (.bl _), kit_ty (hb b), q H1 (Ex.refl _)⟩
  | int i => exact ⟨_, _, _, _, _, rfl, .ty _, .base (.int _), kit_ty (hi i), q H1 (Ex.refl _)⟩
  | str s => exact ⟨_, _, _, _, _, rfl, .ty _, .base (.str _), kit_ty (hs s), q H1 (Ex.refl _)⟩
  | tup h2 _ => exact ⟨_, _, _, _, _, rfl, .ty _, ty_tup h2, kit_ty (ht _), q H1 (Ex.refl _)⟩
  | lst h2 => exact ⟨_, _, _, _, _, rfl, .ty _, .base (.lst h2), kit_ty hl, q H1 (Ex.refl _)⟩
  | dct h2 => exact ⟨_, _, _, _, _, rfl, .ty _, .base (.dK h2), kit_ty hd, q H1 (Ex.refl _)⟩
theorem rc_int {x : V} {d : D} (h : Rp K H x d) : RC (rIsi K) [x, .ty "int"] H (.bl d.isInt) :=
  rc_isi (f := D.isInt) (show kitB "NoneType" "int" = some false by decide +kernel) (fun _ => show kitB "bool" "int" = some true by decide +kernel) (fun _ => show kitB "int" "int" = some true by decide +kernel) (fun _ => show kitB "str" "int" = some false by decide +kernel)
    (fun _ => show kitB "tuple" "int" = some false by decide +kernel) (show kitB "list" "int" = some false by decide +kernel) (show kitB "dict" "int" = some false by decide +kernel) h
theorem rc_bool {x : V} {d : D} (h : Rp K H x d) : RC (rIsi K) [x, .ty "bool"] H (.bl d.isBl) :=
  rc_isi (f := D.isBl) (show kitB "NoneType" "bool" = some false by decide +kernel) (fun _ => show kitB "bool" "bool" = some true by decide +kernel) (fun _ => show kitB "int" "bool" = some false by decide +kernel) (fun _ => show kitB "str" "bool" = some false by decide +kernel)
    (fun _ => show kitB "tuple" "bool" = some false by decide +kernel) (show kitB "list" "bool" = some false by decide +kernel) (show kitB "dict" "bool" = some false by decide +kernel) h
theorem rc_str {x : V} {d : D} (h : Rp K H x d) : RC (rIsi K) [x, .ty "str"] H (.bl d.isStr) :=
  rc_isi (f := D.isStr) (show kitB "NoneType" "str" = some false by decide +kernel) (fun _ => show kitB "bool" "str" = some false by decide +kernel) (fun _ => show kitB "int" "str" = some false by decide +kernel) (fun _ => show kitB "str" "str" = some true by decide +kernel)
    (fun _ => show kitB "tuple" "str" = some false by decide +kernel) (show kitB "list" "str" = some false by decide +kernel) (show kitB "dict" "str" = some false by decide +kernel) h
theorem rc_tup {x : V} {d : D} (h : Rp K H x d) : RC (rIsi K) [x, .ty "tuple"] H (.bl d.isTup) :=
  rc_isi (f := D.isTup) (show kitB "NoneType" "tuple" = some false by decide +kernel) (fun _ => show kitB "bool" "tuple" = some false by decide +kernel) (fun _ => show kitB "int" "tuple" = some false by decide +kernel) (fun _ => show kitB "str" "tuple" = some false by decide +kernel)
    (fun _ => show kitB "tuple" "tuple" = some true by decide +kernel) (show kitB "list" "tuple" = some false by decide +kernel) (show kitB "dict" "tuple" = some false by decide +kernel) h
theorem Rp.isI {x : V} {d : D} (h : Rp K H x d) (h1 : d.isInt = true) (h2 : d.isBl = false) : ∃ i, d = .int i ∧ x = .int i := by
  cases h <;> first | exact ⟨_, rfl, rfl⟩ | (simp [D.isInt] at h1; done) | (simp [D.isBl] at h2; done)
theorem Rp.isS {x : V} {d : D} (h : Rp K H x d) (h1 : d.isStr = true) : ∃ s, d = .str s ∧ x = .str s := by
  cases h <;> first | exact ⟨_, rfl, rfl⟩ | cases h1
theorem Rp.isT {x : V} {d : D} (h : Rp K H x d) (h1 : d.isTup = true) : ∃ a xs ds, d = .tup ds ∧ x = .ref a ∧ SqT K H a xs ∧ RpAll K H xs ds := by
  cases h <;> first | exact ⟨_, _, _, rfl, rfl, by assumption, by assumption⟩ | cases h1
end
/-! ### the promises of pure judges -/
def sp1 (f : D → Bool) (K : PySem.W.Frag) : Sp := fun vs H Q _ => ∃ x d, vs = [x] ∧ Rp K H x d ∧ RetV (.bl (f d)) H Q
theorem sp1_len {f : D → Bool} {K : PySem.W.Frag} {vs : List V} {H : Hp} {Q : VK} {E : XK} (h : sp1 f K vs H Q E) : vs.length = 1 := by
  obtain ⟨x, d, rfl, _⟩ := h
  rfl
theorem sv1 {f : D → Bool} {K : PySem.W.Frag} {H : Hp} {x : V} {d : D} (h : Rp K H x d) : SpV (sp1 f K) [x] H (.bl (f d)) := fun H1 e Q q E => ⟨x, d, rfl, h.ex e, q⟩
abbrev big : Int := 10 ^ 60 - 1
def numB (i : Int) : Bool := decide (-big ≤ i) && decide (i ≤ big)
def D.num : D → Bool
  | .int i => numB i | _ => false
section
variable {P : Program} {w : World} {K : PySem.W.Frag} {mg : Str → Option Value} {base : Heap} {A : Ad} {D : Fd}
abbrev sp_is_number (K : PySem.W.Frag) : Sp := sp1 K0.D.num K
theorem len_is_number {vs : List V} {H : Hp} {Q : VK} {E : XK} (h : sp_is_number K vs H Q E) : vs.length = 1 := sp1_len h
/-- a chain a <= b <= c of ints -/
theorem ev_chain_le {σ : L2.St} {H : Hp} {ta tb tc : TE} {i j k : Int} (ha : Ev ta σ H (.int i)) (hb : Ev tb σ H (.int j)) (hc : Ev tc σ H (.int k)) :
    Ev (tChain (rI0 fun i j => .bl (decide (i ≤ j))) (rI0 fun i j => .bl (decide (i ≤ j))) ta tb tc) σ H (.bl (decide (i ≤ j) && decide (j ≤ k))) := fun H1 e Q q =>
  ha H1 e _ fun H2 e2 => hb H2 (e.trans e2) _ fun H3 e3 => ⟨i, j, rfl, rfl, _, rfl, by
    by_cases c : i ≤ j
    · rw [if_pos (decide_eq_true c)]
      refine hc H3 ((e.trans e2).trans e3) _ fun H4 e4 => ⟨j, k, rfl, rfl, ?_⟩
      have := q H4 ((e2.trans e3).trans e4)
      rw [decide_eq_true c, Bool.true_and] at this
      exact this
    · rw [if_neg (by rw [decide_eq_false c]; decide)]
      have := q H3 (e2.trans e3)
      rw [decide_eq_false c, Bool.false_and] at this
      exact this⟩
theorem ok_is_number (T : Txt K mg A D) : FnOk P w K mg base CX0 1 A.is_number D.is_number ["value"] (sp_is_number K) := by
  obtain ⟨t_MAX_NUMBER, c_MAX_NUMBER⟩ := T.c_MAX_NUMBER
  refine T.F_is_number.ok sc_is_number (fun vs H Q E h => len_is_number h) (fun cdv A0 outer s H vs Q E hr h => ?_)
  refine ⟨_, (pss_cons (ps_if (PW.pt (pw_or (pt_not (pt_val (pe_callB call_isi (by rfl) T.b_isinstance (by decide +kernel) (pa_cons (pv 0) (pa_cons (pe_bltn (v := .ty "int") (u := .type "int") (by rfl) T.b_int (by decide +kernel) rfl) pa_nil))))) (pw_or1 (pt_val (pe_callB call_isi (by rfl) T.b_isinstance (by decide +kernel) (pa_cons (pv 0) (pa_cons (pe_bltn (v := .ty "bool") (u := .type "bool") (by rfl) T.b_bool (by decide +kernel) rfl) pa_nil))))))) (pss_one (ps_ret pe_bl)) pss_nil)
  (pss_one (ps_ret (pe_chain op_le op_le (pe_un un_neg (pe_glob (v := .int (999999999999999999999999999999999999999999999999999999999999)) rfl c_MAX_NUMBER ⟨_, rfl⟩)) (pv 0) (pe_glob (v := .int (999999999999999999999999999999999999999999999999999999999999)) rfl c_MAX_NUMBER ⟨_, rfl⟩))))), ?_⟩
  obtain ⟨x, d, rfl, hx, k⟩ := h
  refine q_when (et_or (et_not (et_B (ev_cb (ea_cons (ev_var rfl) (ea_cons ev_c ea_nil)) (rc_int hx)))) fun _ => et_B (ev_cb (ea_cons (ev_var rfl) (ea_cons ev_c ea_nil)) (rc_bool hx))) (fun hb H1 e1 => ?_) (fun hb H1 e1 => ?_)
  · refine s_ret ev_c fun H2 e2 => ?_
    have hf : K0.D.num d = false := by cases d <;> first | rfl | simp [K0.D.isInt, K0.D.isBl] at hb
    have := k H2 (e1.trans e2)
    rw [hf] at this
    exact this
  · have h1 : K0.D.isInt d = true := by cases z : K0.D.isInt d <;> rw [z] at hb <;> simp at hb <;> rfl
    have h2 : K0.D.isBl d = false := by cases z : K0.D.isBl d <;> rw [z] at hb <;> simp at hb <;> rfl
    obtain ⟨i, rfl, rfl⟩ := hx.isI h1 h2
    refine s_ret (ev_chain_le (i := -big) (j := i) (k := big) (ev_un ev_c ru_neg) (ev_var rfl) ev_c) fun H2 e2 => ?_
    exact k H2 (e1.trans e2)
end
end K0

namespace K0
open PySem L2 Evl
open PySem.Builtin.Str (strSub)
/-! ### texts -/
theorem takeWhile_le {α : Type} (p : α → Bool) : ∀ l : List α, (l.takeWhile p).length ≤ l.length
  | [] => Nat.le_refl _
  | a :: l => by
    rw [List.takeWhile_cons]
    split
    · simp only [List.length_cons]
      have := takeWhile_le p l
      omega
    · simp
theorem takeWhile_all {α : Type} (p : α → Bool) : ∀ l : List α, (l.takeWhile p).length = l.length → l.all p = true
  | [], _ => rfl
  | a :: l, h => by
    rw [List.takeWhile_cons] at h
    split at h
    · rename_i ha
      simp only [List.length_cons] at h
      rw [List.all_cons, ha, takeWhile_all p l (by omega)]
      rfl
    · simp at h
theorem all_takeWhile {α : Type} (p : α → Bool) : ∀ l : List α, l.all p = true → l.takeWhile p = l
  | [], _ => rfl
  | a :: l, h => by
    rw [List.all_cons, Bool.and_eq_true] at h
    rw [List.takeWhile_cons, if_pos h.1, all_takeWhile p l h.2]
theorem drop_takeWhile {α : Type} (p : α → Bool) : ∀ l : List α, (l.drop (l.takeWhile p).length).all p = true → l.all p = true
  | [], _ => rfl
  | a :: l, h => by
    rw [List.takeWhile_cons] at h
    split at h
    · rename_i ha
      rw [List.all_cons, ha, drop_takeWhile p l (by simpa using h)]
      rfl
    · simpa using h
theorem str_nil {x : Str} : x = ("" : Str) ↔ x.cps.toList.length = 0 := by
  constructor
  · intro h
    subst h
    decide +kernel
  · intro h
    obtain ⟨⟨l⟩⟩ := x
    cases l with
    | nil => decide +kernel
    | cons a l => simp at h
theorem strip_all (x y : Str) : decide (V.str (Txt.stripChars x y) = V.str "") = x.cps.toList.all y.cps.contains := by
  have key : (Txt.stripChars x y = ("" : Str)) ↔ x.cps.toList.all y.cps.contains = true := by
    unfold Txt.stripChars
    rw [PySem.W.stripBy_eq]
    show strSub x (stripLo y.cps.contains true x) (stripHi y.cps.contains true x (stripLo y.cps.contains true x)) = ("" : Str) ↔ _
    rw [str_nil]
    have e1 : stripLo y.cps.contains true x = (x.cps.toList.takeWhile y.cps.contains).length := rfl
    have e2 : stripHi y.cps.contains true x (stripLo y.cps.contains true x) = x.cps.toList.length - ((x.cps.toList.drop (stripLo y.cps.contains true x)).reverse.takeWhile y.cps.contains).length := by
      show x.cps.size - _ = _
      rw [Array.length_toList] <;> rfl
    have e3 : (strSub x (stripLo y.cps.contains true x) (stripHi y.cps.contains true x (stripLo y.cps.contains true x))).cps.toList.length = min (stripHi y.cps.contains true x (stripLo y.cps.contains true x)) x.cps.toList.length - stripLo y.cps.contains true x := by
      show (x.cps.extract _ _).toList.length = _
      rw [Array.length_toList, Array.size_extract, Array.length_toList]
    rw [e3, e2, e1]
    generalize x.cps.toList = l
    generalize y.cps.contains = p
    have h1 := takeWhile_le p l
    have h2 := takeWhile_le p (l.drop (l.takeWhile p).length).reverse
    rw [List.length_reverse, List.length_drop] at h2
    constructor
    · intro h
      have h3 : ((l.drop (l.takeWhile p).length).reverse.takeWhile p).length = (l.drop (l.takeWhile p).length).reverse.length := by
        rw [List.length_reverse, List.length_drop]
        omega
      have h4 := takeWhile_all p _ h3
      rw [List.all_reverse] at h4
      exact drop_takeWhile p l h4
    · intro h
      have h3 := all_takeWhile p l h
      rw [h3, List.drop_length]
      simp
  by_cases c : x.cps.toList.all y.cps.contains = true
  · rw [c]
    exact decide_eq_true (congrArg V.str (key.mpr c))
  · rw [Bool.not_eq_true] at c
    rw [c]
    refine decide_eq_false fun q => ?_
    have := key.mp (V.str.inj q)
    rw [c] at this
    cases this
/-! ### more of what evaluates to what -/
section
variable {K : PySem.W.Frag} {σ : L2.St} {H H' : Hp} {ta tb te tx : TE} {t u : TT} {x y z v : V}
/-- a tuple with these items, new or not -/
def EvW (K : PySem.W.Frag) (te : TE) (σ : L2.St) (H : Hp) (xs : List V) : Prop := ∀ H1, Ex H H1 → ∀ Q : VK, (∀ p H2, Ex H1 H2 → SqT K H2 p xs → Q (.ref p) H2) → te σ H1 Q
theorem ew_sl {tl th : TO} {a : Addr} {xs : List V} {lo hi : Option Int} (h : Ev te σ H (.ref a)) (h1 : EvO tl σ H lo) (h2 : EvO th σ H hi) (hs : SqT K H a xs) : EvW K (tSl (rSlA K) te tl th) σ H (cutV xs lo hi) := fun H1 e Q q =>
  h H1 e _ fun H2 e2 => h1 H2 (e.trans e2) _ fun H3 e3 => h2 H3 ((e.trans e2).trans e3) _ fun H4 e4 => by
    have hx := ex_t (((e.trans e2).trans e3).trans e4) hs
    refine ⟨a, xs, rfl, hx, fun hw => ?_, fun _ p hp => ?_⟩
    · refine q a H4 ((e2.trans e3).trans e4) ?_
      have : cutV xs lo hi = xs := by
        unfold cutV
        rw [hw.1, hw.2]
        simp
      rw [this]
      exact hx
    · exact q p _ (((e2.trans e3).trans e4).trans (Ex.new hp)) (st_of upd_same)
/-- comprehensions over a tuple, over zip of two tuples -/
theorem el_lcT {a : Addr} {xs : List V} {tl : TE} {j : Nat} {vs : List Nat} (f : Nat → Bool) (v : Nat → V) (h : Ev tl σ H (.ref a)) (hx : SqT K H a xs) (hz : xs.length ≤ 40000) (hw : ∀ x, wipe ((wipe σ vs).set j (some x)) vs = wipe σ vs)
    (ht : ∀ (i : Nat) (x : V) H1, Ex H H1 → xs[i]? = some x → EvT t ((wipe σ vs).set j (some x)) H1 (f i)) (he : ∀ (i : Nat) (x : V) H1, Ex H H1 → xs[i]? = some x → f i = true → Ev te ((wipe σ vs).set j (some x)) H1 (v i)) :
    EvL (tLc (iTup K tl) (gName j) t te vs) σ H (given xs.length f v) := fun H0 e Q q => h H0 e _ fun H1 e1 => ⟨a, rfl, ⟨xs, ex_t (e.trans e1) hx⟩, fun Dl hD =>
  lc_tup (xs := xs) (Cw H1 f v Dl) ⟨hD, Ex.new hD, upd_same⟩ (fun i H' _ p => ex_t ((e.trans e1).trans p.2.1) hx)
    (fun i x H' hi p => ⟨hw x, cw_turn p (by have := (List.getElem?_eq_some_iff.mp hi).1; omega) (ht i x H1 (e.trans e1) hi) (fun hf => he i x H1 (e.trans e1) hi hf)⟩)
    (fun H' p => q Dl H' (fresh_back e1 p.1) (e1.trans p.2.1) p.2.2)⟩
theorem walk_zipT {a b : Addr} {xs ys : List V} {n : Nat} (hn : n = min xs.length ys.length) : Walk (RZ.ItzT K a b) n (fun H => SqT K H a xs ∧ SqT K H b ys) (YPair (fun i => xs[i]?) (fun i => ys[i]?)) := by
  subst hn
  refine ⟨fun i _ hi g => ?_, fun _ g => ⟨xs, ys, g.1, g.2, by omega⟩, fun i H v H' _ g yy => ?_⟩
  · have l1 : i < xs.length := by omega
    have l2 : i < ys.length := by omega
    exact ⟨xs, ys, xs[i], ys[i], g.1, g.2, List.getElem?_eq_getElem l1, List.getElem?_eq_getElem l2⟩
  · obtain ⟨T, x, z, e1, e2, e3, e4, e5⟩ := yy
    exact ⟨T, x, z, e1, e2, e3, e4 xs g.1, e5 ys g.2⟩
theorem given_map {n : Nat} {f : Nat → Bool} {v : Nat → V} (hf : ∀ i, f i = true) : given n f v = (List.range n).map v := by
  unfold given
  rw [List.filter_eq_self.mpr (fun a _ => hf a)]
theorem rc_all {a : Addr} {bs : List Bool} (h : SqL K H a (bs.map V.bl)) : RC (rAll K) [.ref a] H (.bl (bs.all id)) := fun H1 e Q q => ⟨a, bs, rfl, ex_l e h, q H1 (Ex.refl _)⟩
/-- all([..]) of a new list of truths -/
theorem ev_all {bs : List Bool} (h : EvL te σ H (bs.map V.bl)) : Ev (tCB (rAll K) (tCons te tNil)) σ H (.bl (bs.all id)) := fun H1 e Q q =>
  h H1 e _ fun p H2 _ e2 h2 => ⟨p, bs, rfl, sq_of h2, q H2 e2⟩
theorem et_yes : EvT tYes σ H true := fun H1 _ _ q => q H1 (Ex.refl _)
end
end K0

namespace K0
open PySem L2 Evl
section
variable {K : PySem.W.Frag} {σ : L2.St} {H H' : Hp} {ta tb te tx : TE} {t u : TT} {x y z v : V}
theorem ev_chain_of {σ : L2.St} {H : Hp} {ta tb tc : TE} {r r' : R2} {x y z : V} {a b : Bool} (ha : Ev ta σ H x) (hb : Ev tb σ H y) (hr : RV r x y H (.bl a)) (hc : Ev tc σ H z) (hr' : RV r' y z H (.bl b)) :
    Ev (tChain r r' ta tb tc) σ H (.bl (a && b)) := fun H1 e Q q =>
  ha H1 e _ fun H2 e2 => hb H2 (e.trans e2) _ fun H3 e3 => hr H3 ((e.trans e2).trans e3) _ fun H4 e4 => ⟨a, rfl, by
    cases a with
    | true => exact hc H4 (((e.trans e2).trans e3).trans e4) _ fun H5 e5 => hr' H5 ((((e.trans e2).trans e3).trans e4).trans e5) Q fun H6 e6 => q H6 ((((e2.trans e3).trans e4).trans e5).trans e6)
    | false => exact q H4 ((e2.trans e3).trans e4)⟩
theorem ev_one (h : Ev te σ H v) : Ev te σ H v := h
theorem rc_lenT {a : Addr} {xs : List V} (h : SqT K H a xs) : RC (fun xs H Q => ∃ x n, xs = [x] ∧ LenV K x H n ∧ Q (.int n) H) [.ref a] H (.int (xs.length : Nat)) := fun H1 e Q q =>
  ⟨_, xs.length, rfl, Or.inr ⟨xs, ex_t e h, rfl⟩, q H1 (Ex.refl _)⟩
theorem rc_lenL {a : Addr} {xs : List V} (h : SqL K H a xs) : RC (fun xs H Q => ∃ x n, xs = [x] ∧ LenV K x H n ∧ Q (.int n) H) [.ref a] H (.int (xs.length : Nat)) := fun H1 e Q q =>
  ⟨_, xs.length, rfl, Or.inl ⟨xs, ex_l e h, rfl⟩, q H1 (Ex.refl _)⟩
theorem rc_lenS {s : Str} (h : s.length ≤ sizeLine) : RC (fun xs H Q => ∃ x n, xs = [x] ∧ LenV K x H n ∧ Q (.int n) H) [.str s] H (.int (s.length : Nat)) := fun H1 e Q q =>
  ⟨_, s.length, rfl, ⟨h, rfl⟩, q H1 (Ex.refl _)⟩
/-- a comprehension over zip of two tuples, no test -/
theorem el_lcZ {a : Addr} {xs ys : List V} {t1 t2 : TE} {g : TG} {vs : List Nat} {n : Nat} (v : Nat → V) (h1 : Ev t1 σ H (.ref a)) (hx : SqT K H a xs) (h2 : EvW K t2 σ H ys) (hn : n = min xs.length ys.length) (hz : n ≤ 40000)
    (hg : ∀ i x y T H', xs[i]? = some x → ys[i]? = some y → H' T = some (.tup [x, y]) → ∃ σ2, (∀ k : L2.St → Hp → Prop, k σ2 H' → g (.ref T) (wipe σ vs) H' k) ∧ wipe σ2 vs = wipe σ vs ∧ Ev te σ2 H (v i)) :
    EvL (tLc (RZ.iZipA K (tCons t1 (tCons t2 tNil))) g tYes te vs) σ H ((List.range n).map v) := fun H0 e Q q =>
  h1 H0 e _ fun H1 e1 => h2 H1 (e.trans e1) _ fun b H2 e2 hy => ⟨a, b, xs, ys, rfl, Or.inr ⟨ex_t ((e.trans e1).trans e2) hx, hy, fun Dl hD => by
    have e02 := (e.trans e1).trans e2
    refine lc_it (walk_zipT hn) (Cw H2 (fun _ => true) v Dl) ⟨hD, Ex.new hD, upd_same⟩ (fun i H' _ p => ⟨ex_t p.2.1 (ex_t e02 hx), ex_t p.2.1 hy⟩) (fun i w H' H'' hi p yp => ?_) (fun H' p => ?_)
    · obtain ⟨T, x, y, rfl, hT, rfl, ex, ey⟩ := yp
      obtain ⟨σ2, k1, k2, k3⟩ := hg i x y T (upd H' T (.tup [x, y])) ex ey upd_same
      have hne : Dl ≠ T := ne_of_none p.2.2 hT
      have p' : Cw H2 (fun _ => true) v Dl i (upd H' T (.tup [x, y])) := ⟨p.1, p.2.1.trans (Ex.new hT), by rw [upd_ne hne]; exact p.2.2⟩
      exact k1 _ ⟨k2, cw_turn p' (by omega) et_yes (fun _ => k3.mono e02)⟩
    · have := p.2.2
      rw [given_map (fun _ => rfl)] at this
      exact q Dl H' (fresh_back (e1.trans e2) p.1) ((e1.trans e2).trans p.2.1) this⟩⟩
theorem rv_le {i j : Int} : RV (rI0 fun i j => .bl (decide (i ≤ j))) (.int i) (.int j) H (.bl (decide (i ≤ j))) := rv_I0
theorem rv_lt {i j : Int} : RV (rI0 fun i j => .bl (decide (i < j))) (.int i) (.int j) H (.bl (decide (i < j))) := rv_I0
theorem rv_isN : RV (fun x y H Q => y = .non ∧ Q (.bl (decide (x = .non))) H) x .non H (.bl (decide (x = .non))) := fun H1 _ _ q => ⟨rfl, q H1 (Ex.refl _)⟩
theorem rc_strip {a b : Str} (h : a.length ≤ sizeLine) : ∀ H1, Ex H H1 → ∀ Q : VK, (∀ H2, Ex H1 H2 → Q (.str (Txt.stripChars a b)) H2) → (fun (x : V) (xs : List V) (H : Hp) (Q : VK) => ∃ a b, x = .str a ∧ xs = [.str b] ∧ a.length ≤ sizeLine ∧ Q (.str (Txt.stripChars a b)) H) (.str a) [.str b] H1 Q :=
  fun H1 _ _ q => ⟨a, b, rfl, rfl, h, q H1 (Ex.refl _)⟩
end
/-! ### the judges of stage 1 as functions of data -/
def D.within (lo hi : Int) : D → Bool
  | .int i => numB i && (decide (lo ≤ i) && decide (i ≤ hi)) | _ => false
def D.toInt : D → Int
  | .int i => i | _ => 0
def ascB : List Int → Bool
  | a :: b :: r => decide (a < b) && ascB (b :: r)
  | _ => true
def D.indices (m : Int) : D → Bool
  | .tup ds => ds.all (D.within 0 (m - 1)) && ascB (ds.map D.toInt) | _ => false
def D.circle : D → Bool
  | .tup ds => D.indices 9 (.tup ds) && (decide (1 ≤ ds.length) && decide (ds.length ≤ 7)) | _ => false
def D.word (signs : Str) (most : Int) : D → Bool
  | .str s => decide ((s.length : Int) ≤ most) && s.cps.toList.all signs.cps.contains | _ => false
def D.nonEmpty : D → Bool
  | .str s => decide (0 < s.length) | _ => false
abbrev letters : Str := "abcdefghijklmnopqrstuvwxyz"
abbrev signs37 : Str := "abcdefghijklmnopqrstuvwxyz0123456789 "
def D.key (d : D) : Bool := d.word letters 8 && d.nonEmpty
def D.short (d : D) : Bool := d.within (-(999999999999)) 999999999999
def D.value (d : D) : Bool := d.short || d.word signs37 12
def D.single : D → Bool
  | .non => true
  | .int i => numB i
  | .str s => D.word signs37 3000 (.str s)
  | _ => false
/-- plain, at most n deep -/
def D.plain : Nat → D → Bool
  | 0, d => d.single
  | n + 1, .tup ds => ds.all (D.plain n)
  | _ + 1, d => d.single
def D.small : D → Prop
  | .tup ds => ds.length ≤ 40000 | _ => True
theorem all_getD (ds : List D) (f : D → Bool) : ((List.range ds.length).all fun i => f (ds.getD i .non)) = ds.all f := by
  induction ds with
  | nil => rfl
  | cons d ds ih =>
    rw [List.length_cons, List.range_succ_eq_map, List.all_cons, List.all_cons, List.all_map, ← ih]
    rfl
theorem ints_of {K : PySem.W.Frag} {H : Hp} {lo hi : Int} : ∀ (xs : List V) (ds : List D), RpAll K H xs ds → ds.all (D.within lo hi) = true → xs = (ds.map D.toInt).map V.int
  | _, _, .nil, _ => rfl
  | _, _, .cons (d := d) h r, e => by
    rw [List.all_cons, Bool.and_eq_true] at e
    rw [List.map_cons, List.map_cons, ← ints_of _ _ r e.2]
    cases h with
    | int i => rfl
    | _ => exact absurd e.1 (by simp [D.within])
section
variable {P : Program} {w : World} {K : PySem.W.Frag} {mg : Str → Option Value} {base : Heap} {A : Ad} {D : Fd}
def sp_is_within (K : PySem.W.Frag) : Sp := fun vs H Q _ => ∃ x d lo hi, vs = [x, .int lo, .int hi] ∧ Rp K H x d ∧ RetV (.bl (d.within lo hi)) H Q
theorem len_is_within {vs : List V} {H : Hp} {Q : VK} {E : XK} (h : sp_is_within K vs H Q E) : vs.length = 3 := by
  obtain ⟨x, d, lo, hi, rfl, _⟩ := h
  rfl
theorem sv_within {H : Hp} {x : V} {d : K0.D} {lo hi : Int} (h : Rp K H x d) : SpV (sp_is_within K) [x, .int lo, .int hi] H (.bl (d.within lo hi)) := fun H1 e Q q E => ⟨x, d, lo, hi, rfl, h.ex e, q⟩
theorem ok_is_within (T : Txt K mg A D) : FnOk P w K mg base CX0 2 A.is_within D.is_within ["value", "least", "most"] (sp_is_within K) := by
  have G_is_number : FnOk P w K mg base CX0 1 A.is_number D.is_number ["value"] (sp_is_number K) := ok_is_number T
  refine T.F_is_within.ok sc_is_within (fun vs H Q E h => len_is_within h) (fun cdv A0 outer s H vs Q E hr h => ?_)
  refine ⟨_, (pss_one (ps_ret (pe_and (pe_call G_is_number (hr.mono (by decide)) rfl T.g_is_number T.F_is_number.kp T.b_is_number .nil pass0 (pa_cons (pv 0) pa_nil)) (pe_one (pe_chain op_le op_le (pv 1) (pv 0) (pv 2)))))), ?_⟩
  obtain ⟨x, d, lo, hi, rfl, hx, k⟩ := h
  refine s_ret (ev_is (ev_andV (a := d.num) (b := d.within lo hi) (ev_call (ea_cons (ev_var rfl) ea_nil) (sv1 hx)) fun hb => ?_) ?_) fun H2 e2 => k H2 e2
  · cases hx with
    | int i =>
      have hb' : numB i = true := hb
      refine ev_is (ev_chain_le (i := lo) (j := i) (k := hi) (ev_var rfl) (ev_var rfl) (ev_var rfl)) ?_
      show V.bl (decide (lo ≤ i) && decide (i ≤ hi)) = V.bl (numB i && (decide (lo ≤ i) && decide (i ≤ hi)))
      rw [hb', Bool.true_and]
    | _ => cases hb
  · cases d with
    | int i =>
      show V.bl (numB i && (numB i && _)) = V.bl (numB i && _)
      cases numB i <;> rfl
    | _ => rfl
abbrev sp_is_house (K : PySem.W.Frag) : Sp := sp1 (K0.D.within 0 8) K
theorem len_is_house {vs : List V} {H : Hp} {Q : VK} {E : XK} (h : sp_is_house K vs H Q E) : vs.length = 1 := sp1_len h
theorem ok_is_house (T : Txt K mg A D) : FnOk P w K mg base CX0 3 A.is_house D.is_house ["value"] (sp_is_house K) := by
  have G_is_within : FnOk P w K mg base CX0 2 A.is_within D.is_within ["value", "least", "most"] (sp_is_within K) := ok_is_within T
  obtain ⟨t_MAX_HOUSES, c_MAX_HOUSES⟩ := T.c_MAX_HOUSES
  refine T.F_is_house.ok sc_is_house (fun vs H Q E h => len_is_house h) (fun cdv A0 outer s H vs Q E hr h => ?_)
  refine ⟨_, (pss_one (ps_ret (pe_call G_is_within (hr.mono (by decide)) rfl T.g_is_within T.F_is_within.kp T.b_is_within .nil pass0 (pa_cons (pv 0) (pa_cons pe_int (pa_cons (pe_op op_sub (pe_glob (v := .int (9)) rfl c_MAX_HOUSES ⟨_, rfl⟩) pe_int) pa_nil)))))), ?_⟩
  obtain ⟨x, d, rfl, hx, k⟩ := h
  exact s_ret (ev_call (ea_cons (ev_var rfl) (ea_cons ev_c (ea_cons (ev_op ev_c ev_c rv_I0) ea_nil))) (sv_within hx)) fun H2 e2 => k H2 e2
abbrev sp_is_client (K : PySem.W.Frag) : Sp := sp1 (K0.D.within 0 4) K
theorem len_is_client {vs : List V} {H : Hp} {Q : VK} {E : XK} (h : sp_is_client K vs H Q E) : vs.length = 1 := sp1_len h
theorem ok_is_client (T : Txt K mg A D) : FnOk P w K mg base CX0 3 A.is_client D.is_client ["value"] (sp_is_client K) := by
  have G_is_within : FnOk P w K mg base CX0 2 A.is_within D.is_within ["value", "least", "most"] (sp_is_within K) := ok_is_within T
  obtain ⟨t_MAX_CLIENTS, c_MAX_CLIENTS⟩ := T.c_MAX_CLIENTS
  refine T.F_is_client.ok sc_is_client (fun vs H Q E h => len_is_client h) (fun cdv A0 outer s H vs Q E hr h => ?_)
  refine ⟨_, (pss_one (ps_ret (pe_call G_is_within (hr.mono (by decide)) rfl T.g_is_within T.F_is_within.kp T.b_is_within .nil pass0 (pa_cons (pv 0) (pa_cons pe_int (pa_cons (pe_op op_sub (pe_glob (v := .int (5)) rfl c_MAX_CLIENTS ⟨_, rfl⟩) pe_int) pa_nil)))))), ?_⟩
  obtain ⟨x, d, rfl, hx, k⟩ := h
  exact s_ret (ev_call (ea_cons (ev_var rfl) (ea_cons ev_c (ea_cons (ev_op ev_c ev_c rv_I0) ea_nil))) (sv_within hx)) fun H2 e2 => k H2 e2
abbrev sp_is_short_number (K : PySem.W.Frag) : Sp := sp1 K0.D.short K
theorem len_is_short_number {vs : List V} {H : Hp} {Q : VK} {E : XK} (h : sp_is_short_number K vs H Q E) : vs.length = 1 := sp1_len h
theorem ok_is_short_number (T : Txt K mg A D) : FnOk P w K mg base CX0 3 A.is_short_number D.is_short_number ["value"] (sp_is_short_number K) := by
  have G_is_within : FnOk P w K mg base CX0 2 A.is_within D.is_within ["value", "least", "most"] (sp_is_within K) := ok_is_within T
  obtain ⟨t_MAX_SHORT_NUMBER, c_MAX_SHORT_NUMBER⟩ := T.c_MAX_SHORT_NUMBER
  refine T.F_is_short_number.ok sc_is_short_number (fun vs H Q E h => len_is_short_number h) (fun cdv A0 outer s H vs Q E hr h => ?_)
  refine ⟨_, (pss_one (ps_ret (pe_call G_is_within (hr.mono (by decide)) rfl T.g_is_within T.F_is_within.kp T.b_is_within .nil pass0 (pa_cons (pv 0) (pa_cons (pe_un un_neg (pe_glob (v := .int (999999999999)) rfl c_MAX_SHORT_NUMBER ⟨_, rfl⟩)) (pa_cons (pe_glob (v := .int (999999999999)) rfl c_MAX_SHORT_NUMBER ⟨_, rfl⟩) pa_nil)))))), ?_⟩
  obtain ⟨x, d, rfl, hx, k⟩ := h
  exact s_ret (ev_call (ea_cons (ev_var rfl) (ea_cons (ev_un ev_c ru_neg) (ea_cons ev_c ea_nil))) (sv_within hx)) fun H2 e2 => k H2 e2
/-- row: a tuple of ints -/
def sp_are_ascending (K : PySem.W.Frag) : Sp := fun vs H Q _ => ∃ a ns, vs = [.ref a] ∧ SqT K H a (ns.map V.int) ∧ ns.length ≤ 40000 ∧ RetV (.bl (ascB ns)) H Q
theorem len_are_ascending {vs : List V} {H : Hp} {Q : VK} {E : XK} (h : sp_are_ascending K vs H Q E) : vs.length = 1 := by
  obtain ⟨a, ns, rfl, _⟩ := h
  rfl
theorem sv_asc {H : Hp} {a : Addr} {ns : List Int} (h : SqT K H a (ns.map V.int)) (hl : ns.length ≤ 40000) : SpV (sp_are_ascending K) [.ref a] H (.bl (ascB ns)) := fun H1 e Q q E => ⟨a, ns, rfl, ex_t e h, hl, q⟩
theorem cut1 (xs : List V) : cutV xs (some 1) none = xs.drop 1 := by
  unfold cutV
  have h1 : HT.sIx xs.length 0 (some 1) = min 1 xs.length := HT.sIx_nat _ _ 1
  have h2 : HT.sIx xs.length xs.length none = xs.length := rfl
  rw [h1, h2]
  cases xs with
  | nil => rfl
  | cons x xs =>
    have : min 1 (x :: xs).length = 1 := by simp
    rw [this]
    exact List.take_of_length_le (by simp)
theorem asc_all : ∀ ns : List Int, ((List.range (ns.length - 1)).map fun i => decide (ns.getD i 0 < ns.getD (i + 1) 0)).all id = ascB ns
  | [] => rfl
  | [a] => rfl
  | a :: b :: r => by
    have ih := asc_all (b :: r)
    have e1 : (a :: b :: r).length - 1 = ((b :: r).length - 1) + 1 := by simp
    rw [e1, List.range_succ_eq_map, List.map_cons, List.all_cons, List.map_map]
    show (decide (a < b) && _) = (decide (a < b) && ascB (b :: r))
    rw [← ih]
    rfl
theorem ok_are_ascending (T : Txt K mg A D) : FnOk P w K mg base CX0 1 A.are_ascending D.are_ascending ["row"] (sp_are_ascending K) := by
  refine T.F_are_ascending.ok sc_are_ascending (fun vs H Q E h => len_are_ascending h) (fun cdv A0 outer s H vs Q E hr h => ?_)
  refine ⟨_, (pss_one (ps_ret (pe_callB (cr_all rfl) (by rfl) T.b_all (by decide +kernel) (pa_cons (pe_lc (own := [("one", 1), ("other", 2)]) (g := gTup K 2 (gCons (gName 1) (gCons (gName 2) gNil))) (tt := tYes) rfl sc_are_ascending.nd (RZ.pi_zipA (by rfl) T.b_zip (pa_cons (pv 0) (pa_cons (pe_slice sl_tupA (pv 0) (po_some pe_int) po_none) pa_nil))) (blkOk_by (own := [("one", 1), ("other", 2)]) (N := N_are_ascending) (sc := defScope s_are_ascending) (by decide +kernel)) (fun _ _ _ _ _ => by exact (pg_tup rfl (pgs_cons (pg_name (i := 1) sc_are_ascending.nd rfl (Or.inl rfl)) (pgs_cons (pg_name (i := 2) sc_are_ascending.nd rfl (Or.inl rfl)) pgs_nil)))) (fun _ _ _ _ _ => by exact pts_nil) (fun _ _ _ _ _ => by exact (pe_cmpR op_lt (pv 1) (pv 2) (nomark _)))) pa_nil)))), ?_⟩
  obtain ⟨a, ns, rfl, ha, hl, k⟩ := h
  refine s_ret (ev_is (ev_all (bs := (List.range (ns.length - 1)).map fun i => decide (ns.getD i 0 < ns.getD (i + 1) 0)) ?_) (congrArg V.bl (asc_all ns))) fun H2 e2 => k H2 e2
  rw [List.map_map]
  refine el_lcZ (ys := (ns.map V.int).drop 1) _ (ev_var rfl) ha ?_ (by rw [List.length_drop, List.length_map]; omega) (by omega) (fun i x y T H' hx hy hT => ?_)
  · have := ew_sl (K := K) (lo := some 1) (hi := none) (ev_var rfl : Ev (tVar 0) (start N_are_ascending [V.ref a]) H (.ref a)) (eo_some ev_c) eo_none ha
    rw [cut1] at this
    exact this
  · rw [List.getElem?_map] at hx
    rw [List.getElem?_drop, List.getElem?_map, Nat.add_comm] at hy
    obtain ⟨p, hp, rfl⟩ : ∃ p, ns[i]? = some p ∧ V.int p = x := by
      cases z : ns[i]? with
      | none => rw [z] at hx; cases hx
      | some p => rw [z] at hx; exact ⟨p, rfl, Option.some.inj hx⟩
    obtain ⟨r, hr', rfl⟩ : ∃ p, ns[i + 1]? = some p ∧ V.int p = y := by
      cases z : ns[i + 1]? with
      | none => rw [z] at hy; cases hy
      | some p => rw [z] at hy; exact ⟨p, rfl, Option.some.inj hy⟩
    refine ⟨[some (.ref a), some (.int p), some (.int r)], fun kk hk => ⟨T, _, rfl, st_of hT, rfl, _, _, rfl, _, _, rfl, rfl, hk⟩, rfl, ?_⟩
    refine ev_is (ev_op (ev_var rfl) (ev_var rfl) rv_I0) ?_
    show V.bl (decide (p < r)) = V.bl (decide (ns.getD i 0 < ns.getD (i + 1) 0))
    rw [List.getD_eq_getElem?_getD, List.getD_eq_getElem?_getD, hp, hr']
    rfl
def sp_are_indices (K : PySem.W.Frag) : Sp := fun vs H Q _ => ∃ x d m, vs = [x, .int m] ∧ Rp K H x d ∧ d.small ∧ RetV (.bl (d.indices m)) H Q
theorem len_are_indices {vs : List V} {H : Hp} {Q : VK} {E : XK} (h : sp_are_indices K vs H Q E) : vs.length = 2 := by
  obtain ⟨x, d, m, rfl, _⟩ := h
  rfl
theorem sv_indices {H : Hp} {x : V} {d : K0.D} {m : Int} (h : Rp K H x d) (hs : d.small) : SpV (sp_are_indices K) [x, .int m] H (.bl (d.indices m)) := fun H1 e Q q E => ⟨x, d, m, rfl, h.ex e, hs, q⟩
theorem ok_are_indices (T : Txt K mg A D) : FnOk P w K mg base CX0 3 A.are_indices D.are_indices ["value", "many"] (sp_are_indices K) := by
  have G_is_within : FnOk P w K mg base CX0 2 A.is_within D.is_within ["value", "least", "most"] (sp_is_within K) := ok_is_within T
  have G_are_ascending : FnOk P w K mg base CX0 1 A.are_ascending D.are_ascending ["row"] (sp_are_ascending K) := ok_are_ascending T
  refine T.F_are_indices.ok sc_are_indices (fun vs H Q E h => len_are_indices h) (fun cdv A0 outer s H vs Q E hr h => ?_)
  refine ⟨_, (pss_cons (ps_if (pt_not (pt_val (pe_callB call_isi (by rfl) T.b_isinstance (by decide +kernel) (pa_cons (pv 0) (pa_cons (pe_bltn (v := .ty "tuple") (u := .type "tuple") (by rfl) T.b_tuple (by decide +kernel) rfl) pa_nil))))) (pss_one (ps_ret pe_bl)) pss_nil)
  (pss_cons (ps_if (pt_not (pt_val (pe_callB (cr_all rfl) (by rfl) T.b_all (by decide +kernel) (pa_cons (pe_lc (own := [("index", 2)]) (g := gName 2) (tt := tYes) rfl sc_are_indices.nd (pi_tup (pv 0)) (blkOk_by (own := [("index", 2)]) (N := N_are_indices) (sc := defScope s_are_indices) (by decide +kernel)) (fun _ _ _ _ _ => by exact pg_name (i := 2) sc_are_indices.nd rfl (Or.inl rfl)) (fun _ _ _ _ _ => by exact pts_nil) (fun _ _ _ _ _ => by exact (pe_call G_is_within (hr.mono (by decide)) rfl T.g_is_within T.F_is_within.kp T.b_is_within .nil pass0 (pa_cons (pv 2) (pa_cons pe_int (pa_cons (pe_op op_sub (pv 1) pe_int) pa_nil)))))) pa_nil)))) (pss_one (ps_ret pe_bl)) pss_nil)
  (pss_one (ps_ret (pe_call G_are_ascending (hr.mono (by decide)) rfl T.g_are_ascending T.F_are_ascending.kp T.b_are_ascending .nil pass0 (pa_cons (pv 0) pa_nil)))))), ?_⟩
  obtain ⟨x, d, m, rfl, hx, hs, k⟩ := h
  refine q_when (et_not (et_B (ev_cb (ea_cons (ev_var rfl) (ea_cons ev_c ea_nil)) (rc_tup hx)))) (fun hb H1 e1 => ?_) (fun hb H1 e1 => ?_)
  · refine s_ret ev_c fun H2 e2 => ?_
    have hf : d.indices m = false := by cases d <;> first | rfl | (simp [K0.D.isTup] at hb; done)
    have := k H2 (e1.trans e2)
    rw [hf] at this
    exact this
  · have h1 : d.isTup = true := by cases z : d.isTup <;> rw [z] at hb <;> simp at hb <;> rfl
    obtain ⟨a, xs, ds, rfl, rfl, hq, hr1⟩ := hx.isT h1
    have hl := hr1.len
    have hq1 := ex_t e1 hq
    have hr2 := hr1.ex e1
    have hsz : ds.length ≤ 40000 := hs
    refine q_when (b := !(ds.all (K0.D.within 0 (m - 1)))) (et_not (et_B (ev_is (ev_all (bs := (List.range xs.length).map fun i => (ds.getD i .non).within 0 (m - 1)) ?_) ?_))) (fun hb H2 e2 => ?_) (fun hb H2 e2 => ?_)
    · rw [List.map_map, ← given_map (f := fun _ => true) (fun _ => rfl)]
      refine el_lcT (fun _ => true) _ (ev_var rfl) hq1 (by omega) (fun _ => rfl) (fun i y H3 e3 hy => et_yes) (fun i y H3 e3 hy _ => ?_)
      obtain ⟨d, hd, hrp⟩ := RpAll.get _ _ _ _ (hr2.ex e3) hy
      refine ev_is (ev_call (ea_cons (ev_var rfl) (ea_cons ev_c (ea_cons (ev_op (ev_var rfl) ev_c rv_I0) ea_nil))) (sv_within hrp)) ?_
      show V.bl (d.within 0 (m - 1)) = V.bl ((ds.getD i .non).within 0 (m - 1))
      rw [List.getD_eq_getElem?_getD, hd]
      rfl
    · rw [List.all_map, hl]
      congr 1
      exact all_getD ds _
    · refine s_ret ev_c fun H3 e3 => ?_
      have := k H3 ((e1.trans e2).trans e3)
      have hf : (K0.D.tup ds).indices m = false := by
        show (ds.all (K0.D.within 0 (m - 1)) && _) = false
        cases z : ds.all (K0.D.within 0 (m - 1)) with
        | true => rw [z] at hb; cases hb
        | false => rfl
      rw [hf] at this
      exact this
    · have hall : ds.all (K0.D.within 0 (m - 1)) = true := by
        cases z : ds.all (K0.D.within 0 (m - 1)) with
        | true => rfl
        | false => rw [z] at hb; cases hb
      have hints : xs = (ds.map K0.D.toInt).map V.int := ints_of _ _ hr1 hall
      have hq2 : SqT K H2 a ((ds.map K0.D.toInt).map V.int) := by rw [← hints]; exact ex_t (e1.trans e2) hq
      refine s_ret (ev_call (ea_cons (ev_var rfl) ea_nil) (sv_asc hq2 (by rw [List.length_map]; exact hsz))) fun H3 e3 => ?_
      have := k H3 ((e1.trans e2).trans e3)
      have hf : (K0.D.tup ds).indices m = ascB (ds.map K0.D.toInt) := by
        show (ds.all (K0.D.within 0 (m - 1)) && _) = _
        rw [hall, Bool.true_and]
      rw [hf] at this
      exact this
end
end K0

namespace K0
open PySem L2 Evl
section
variable {K : PySem.W.Frag} {σ : L2.St} {H H' : Hp} {ta tb te tx : TE} {t u : TT} {x y z v : V}
theorem et_truL {a : Addr} {xs : List V} (h : Ev te σ H (.ref a)) (hx : SqL K H a xs) : EvT (fun σ H Q => te σ H fun x H' => ∃ k, TruV K x H' k ∧ Q k H') σ H (!xs.isEmpty) := fun H1 e Q q =>
  h H1 e _ fun H2 e2 => ⟨_, Or.inl ⟨xs, ex_l (e.trans e2) hx, rfl⟩, q H2 e2⟩
/-- [y for row in rows for y in row]: rows a list of tuples -/
theorem el_flat {a : Addr} {rs : List Addr} {rows : List (List V)} {tl : TE} {j j1 : Nat} {vs vs1 : List Nat} (h : Ev tl σ H (.ref a)) (hx : SqL K H a (rs.map V.ref)) (hl : rs.length = rows.length)
    (hr : ∀ (i : Nat) r row, rs[i]? = some r → rows[i]? = some row → SqT K H r row) (hz : rows.flatten.length ≤ 40000)
    (hw : ∀ x, wipe ((wipe σ vs).set j (some x)) vs = wipe σ vs) (hj : ∀ x, ((wipe σ vs).set j (some x))[j]? = some (some x))
    (hw1 : ∀ x y, wipe ((wipe ((wipe σ vs).set j (some x)) vs1).set j1 (some y)) vs1 = wipe ((wipe σ vs).set j (some x)) vs1) (hj1 : ∀ x y, ((wipe ((wipe σ vs).set j (some x)) vs1).set j1 (some y))[j1]? = some (some y)) :
    EvL (tLc2 (iList K tl) (gName j) tYes (iTup K (tVar j)) (gName j1) tYes (tVar j1) vs vs1) σ H rows.flatten := fun H0 e Q q =>
  h H0 e _ fun H1 e1 => ⟨a, rfl, ⟨_, ex_l (e.trans e1) hx⟩, fun Dl hD => by
    refine ⟨fun i m H' => m = rs.length - i ∧ i ≤ rs.length ∧ Ex H1 H' ∧ H' Dl = some (.lst (rows.take i).flatten), ⟨rs.length, by simp, Nat.zero_le _, Ex.new hD, upd_same⟩, ?_⟩
    rintro i m H' ⟨rfl, hi, p1, p2⟩
    have hxl := ex_l ((e.trans e1).trans p1) hx
    by_cases hlt : i < rs.length
    · have hlt2 : i < rows.length := by omega
      have g1 : rs[i]? = some rs[i] := List.getElem?_eq_getElem hlt
      have g2 : rows[i]? = some rows[i] := List.getElem?_eq_getElem hlt2
      have et : rows.take (i + 1) = rows.take i ++ [rows[i]] := by rw [List.take_succ, g2] <;> rfl
      have efl : ((rows.take (i + 1)).flatten).length ≤ rows.flatten.length := by
        have : rows.flatten = (rows.take (i + 1)).flatten ++ (rows.drop (i + 1)).flatten := by rw [← List.flatten_append, List.take_append_drop]
        rw [this, List.length_append]
        omega
      have efl2 : ((rows.take (i + 1)).flatten).length = ((rows.take i).flatten).length + rows[i].length := by rw [et, List.flatten_append]; simp
      have hrow := hr i _ _ g1 g2
      refine .inr ⟨⟨rs.map V.ref, .ref rs[i], hxl, by rw [List.getElem?_map, g1]; rfl⟩, fun H2 => Ex H1 H2 ∧ H2 Dl = some (.lst (rows.take (i + 1)).flatten), fun H2 k => ⟨rs.length - (i + 1), by omega, rfl, hlt, k⟩, fun y H2 yy => ?_⟩
      obtain ⟨rfl, yy⟩ := yy
      have ey := yy _ hxl
      rw [List.getElem?_map, g1] at ey
      have ey : V.ref rs[i] = y := Option.some.inj ey
      subst ey
      refine ⟨hw _, ?_⟩
      refine ⟨_, hj _, rs[i], rfl, ⟨_, ex_t ((e.trans e1).trans p1) hrow⟩, fun jj kk H3 => kk = rows[i].length - jj ∧ jj ≤ rows[i].length ∧ Ex H1 H3 ∧ H3 Dl = some (.lst ((rows.take i).flatten ++ rows[i].take jj)), ⟨_, rfl, Nat.zero_le _, p1, by rw [p2]; simp⟩, ?_⟩
      rintro jj kk H3 ⟨rfl, hjj, q1, q2⟩
      have hrow3 := ex_t ((e.trans e1).trans q1) hrow
      by_cases hlj : jj < rows[i].length
      · have g3 : rows[i][jj]? = some rows[i][jj] := List.getElem?_eq_getElem hlj
        refine .inr ⟨⟨rows[i], rows[i][jj], hrow3, g3⟩, fun H4 => Ex H1 H4 ∧ H4 Dl = some (.lst ((rows.take i).flatten ++ rows[i].take (jj + 1))), fun H4 k => ⟨rows[i].length - (jj + 1), by omega, rfl, hlj, k⟩, fun y H4 yy => ?_⟩
        obtain ⟨rfl, yy⟩ := yy
        have ey := yy _ hrow3
        rw [g3] at ey
        have ey : rows[i][jj] = y := Option.some.inj ey
        subst ey
        refine ⟨hw1 _ _, _, hj1 _ _, _, q2, ?_, ?_, ?_⟩
        · have : ((rows.take i).flatten ++ rows[i].take jj).length ≤ 40000 := by rw [List.length_append, List.length_take]; omega
          exact sz_lt (by omega)
        · exact Ex.mut q1 hD
        · rw [upd_same, List.append_assoc, List.take_succ, g3]
          rfl
      · have : jj = rows[i].length := by omega
        subst this
        refine .inl ⟨⟨rows[i], hrow3, Nat.le_refl _⟩, q1, ?_⟩
        rw [q2, et, List.flatten_append, List.take_length]
        simp
    · have : i = rs.length := by omega
      subst this
      refine .inl ⟨⟨_, hxl, by rw [List.length_map]; exact Nat.le_refl _⟩, q Dl H' (fresh_back e1 hD) (e1.trans p1) ?_⟩
      rw [p2, hl, List.take_length]⟩
end
mutual
/-- how much of a value there is: signs and members -/
def D.size : D → Nat
  | .str s => 1 + s.length / 100
  | .tup ds => 1 + D.sizeL ds
  | _ => 1
def D.sizeL : List D → Nat
  | [] => 0
  | d :: ds => d.size + D.sizeL ds
end
theorem sizeL_len : ∀ ds : List D, ds.length ≤ D.sizeL ds
  | [] => Nat.le_refl _
  | d :: ds => by
    have := sizeL_len ds
    have h1 : 1 ≤ d.size := by cases d <;> simp [D.size]
    simp only [List.length_cons, D.sizeL]
    omega
theorem sizeL_app : ∀ ds es : List D, D.sizeL (ds ++ es) = D.sizeL ds + D.sizeL es
  | [], es => by simp [D.sizeL]
  | d :: ds, es => by
    show d.size + D.sizeL (ds ++ es) = d.size + D.sizeL ds + D.sizeL es
    rw [sizeL_app ds es]
    omega
theorem size_mem : ∀ {ds : List D} {d : D}, d ∈ ds → d.size ≤ D.sizeL ds
  | a :: ds, d, h => by
    rcases List.mem_cons.mp h with h | h
    · subst h
      simp only [D.sizeL]
      omega
    · have := size_mem h
      simp only [D.sizeL]
      omega
def D.kids : D → List D
  | .tup ds => ds | _ => []
end K0

namespace K0
open PySem L2 Evl
section
variable {P : Program} {w : World} {K : PySem.W.Frag} {mg : Str → Option Value} {base : Heap} {A : Ad} {D : Fd}
/-- a judge of values that are not too great -/
def spS (f : K0.D → Bool) (K : PySem.W.Frag) : Sp := fun vs H Q _ => ∃ x d, vs = [x] ∧ Rp K H x d ∧ d.size ≤ 30000 ∧ RetV (.bl (f d)) H Q
theorem spS_len {f : K0.D → Bool} {vs : List V} {H : Hp} {Q : VK} {E : XK} (h : spS f K vs H Q E) : vs.length = 1 := by
  obtain ⟨x, d, rfl, _⟩ := h
  rfl
theorem svS {f : K0.D → Bool} {H : Hp} {x : V} {d : K0.D} (h : Rp K H x d) (hs : d.size ≤ 30000) : SpV (spS f K) [x] H (.bl (f d)) := fun H1 e Q q E => ⟨x, d, rfl, h.ex e, hs, q⟩
theorem small_of {d : K0.D} (h : d.size ≤ 30000) : d.small := by
  cases d with
  | tup ds =>
    have := sizeL_len ds
    simp only [K0.D.size] at h
    show ds.length ≤ 40000
    omega
  | _ => trivial
theorem sline {n : Nat} (h : n ≤ 3000000) : n ≤ sizeLine := by rw [sizeLine_eq]; omega
def sp_is_made_of (K : PySem.W.Frag) : Sp := fun vs H Q _ => ∃ x d sg m, vs = [x, .str sg, .int m] ∧ Rp K H x d ∧ d.size ≤ 30000 ∧ RetV (.bl (d.word sg m)) H Q
theorem len_is_made_of {vs : List V} {H : Hp} {Q : VK} {E : XK} (h : sp_is_made_of K vs H Q E) : vs.length = 3 := by
  obtain ⟨x, d, sg, m, rfl, _⟩ := h
  rfl
theorem sv_made {H : Hp} {x : V} {d : K0.D} {sg : Str} {m : Int} (h : Rp K H x d) (hs : d.size ≤ 30000) : SpV (sp_is_made_of K) [x, .str sg, .int m] H (.bl (d.word sg m)) := fun H1 e Q q E => ⟨x, d, sg, m, rfl, h.ex e, hs, q⟩
/-- s.strip(t) -/
theorem ev_strip {σ : L2.St} {H : Hp} {ta tb : TE} {a b : Str} (ha : Ev ta σ H (.str a)) (hb : Ev tb σ H (.str b)) (h : a.length ≤ sizeLine) :
    Ev (tBM K "str" (fun (x : V) (xs : List V) (H : Hp) (Q : VK) => ∃ a b, x = .str a ∧ xs = [.str b] ∧ a.length ≤ sizeLine ∧ Q (.str (Txt.stripChars a b)) H) ta (tCons tb tNil)) σ H (.str (Txt.stripChars a b)) := fun H1 e Q q =>
  ha H1 e _ fun H2 e2 => ⟨rfl, hb H2 (e.trans e2) _ fun H3 e3 => ⟨a, b, rfl, rfl, h, q H3 (e2.trans e3)⟩⟩
theorem ok_is_made_of (T : Txt K mg A D) : FnOk P w K mg base CX0 1 A.is_made_of D.is_made_of ["value", "signs", "most"] (sp_is_made_of K) := by
  refine T.F_is_made_of.ok sc_is_made_of (fun vs H Q E h => len_is_made_of h) (fun cdv A0 outer s H vs Q E hr h => ?_)
  refine ⟨_, (pss_one (ps_ret (pe_and (pe_callB call_isi (by rfl) T.b_isinstance (by decide +kernel) (pa_cons (pv 0) (pa_cons (pe_bltn (v := .ty "str") (u := .type "str") (by rfl) T.b_str (by decide +kernel) rfl) pa_nil))) (pe_and (pe_cmpR op_le (pe_callB call_len (by rfl) T.b_len (by decide +kernel) (pa_cons (pv 0) pa_nil)) (pv 2) (nomark _)) (pe_one (pe_cmpR op_eq (pe_bm PySem.F.plainAttrs_str PySem.F.slot_str_strip PySem.F.type_str_strip mt_stripChars (pv 0) (pa_cons (pv 1) pa_nil)) pe_str (nomark _))))))), ?_⟩
  obtain ⟨x, d, sg, m, rfl, hx, hs, k⟩ := h
  refine s_ret (ev_is (ev_andV (a := d.isStr) (b := d.word sg m) (ev_cb (ea_cons (ev_var rfl) (ea_cons ev_c ea_nil)) (rc_str hx)) fun hb => ?_) ?_) fun H2 e2 => k H2 e2
  · obtain ⟨s, rfl, rfl⟩ := hx.isS hb
    have hl : s.length ≤ sizeLine := sline (by simp only [K0.D.size] at hs; omega)
    refine ev_andV (a := decide ((s.length : Int) ≤ m)) (ev_op (ev_cb (ea_cons (ev_var rfl) ea_nil) (rc_lenS hl)) (ev_var rfl) rv_I0) fun _ => ?_
    refine ev_is (ev_op (ev_strip (ev_var rfl) (ev_var rfl) hl) ev_c (rv_eq rfl)) ?_
    exact congrArg V.bl (strip_all _ _)
  · cases d <;> rfl
def sp_is_key (K : PySem.W.Frag) : Sp := spS K0.D.key K
theorem len_is_key {vs : List V} {H : Hp} {Q : VK} {E : XK} (h : sp_is_key K vs H Q E) : vs.length = 1 := spS_len h
theorem ok_is_key (T : Txt K mg A D) : FnOk P w K mg base CX0 2 A.is_key D.is_key ["value"] (sp_is_key K) := by
  have G_is_made_of : FnOk P w K mg base CX0 1 A.is_made_of D.is_made_of ["value", "signs", "most"] (sp_is_made_of K) := ok_is_made_of T
  obtain ⟨t_LETTERS, c_LETTERS⟩ := T.c_LETTERS
  obtain ⟨t_MAX_KEY_SIGNS, c_MAX_KEY_SIGNS⟩ := T.c_MAX_KEY_SIGNS
  refine T.F_is_key.ok sc_is_key (fun vs H Q E h => len_is_key h) (fun cdv A0 outer s H vs Q E hr h => ?_)
  refine ⟨_, (pss_one (ps_ret (pe_and (pe_call G_is_made_of (hr.mono (by decide)) rfl T.g_is_made_of T.F_is_made_of.kp T.b_is_made_of .nil pass0 (pa_cons (pv 0) (pa_cons (pe_glob (v := .str "abcdefghijklmnopqrstuvwxyz") rfl c_LETTERS ⟨_, rfl⟩) (pa_cons (pe_glob (v := .int (8)) rfl c_MAX_KEY_SIGNS ⟨_, rfl⟩) pa_nil)))) (pe_one (pe_cmpR op_gt (pe_callB call_len (by rfl) T.b_len (by decide +kernel) (pa_cons (pv 0) pa_nil)) pe_int (nomark _)))))), ?_⟩
  obtain ⟨x, d, rfl, hx, hs, k⟩ := h
  refine s_ret (ev_andV (a := d.word letters 8) (b := d.nonEmpty) (ev_call (ea_cons (ev_var rfl) (ea_cons ev_c (ea_cons ev_c ea_nil))) (sv_made hx hs)) fun hb => ?_) fun H2 e2 => k H2 e2
  cases hx with
  | str s =>
    have hl : s.length ≤ sizeLine := sline (by simp only [K0.D.size] at hs; omega)
    refine ev_is (ev_op (ev_cb (ea_cons (ev_var rfl) ea_nil) (rc_lenS hl)) ev_c rv_I0) ?_
    show V.bl (decide ((0 : Int) < (s.length : Int))) = V.bl (decide (0 < s.length))
    congr 1
    exact decide_eq_decide.mpr (by omega)
  | _ => cases hb
def sp_is_value (K : PySem.W.Frag) : Sp := spS K0.D.value K
theorem len_is_value {vs : List V} {H : Hp} {Q : VK} {E : XK} (h : sp_is_value K vs H Q E) : vs.length = 1 := spS_len h
theorem ok_is_value (T : Txt K mg A D) : FnOk P w K mg base CX0 4 A.is_value D.is_value ["value"] (sp_is_value K) := by
  have G_is_made_of : FnOk P w K mg base CX0 1 A.is_made_of D.is_made_of ["value", "signs", "most"] (sp_is_made_of K) := ok_is_made_of T
  have G_is_short_number : FnOk P w K mg base CX0 3 A.is_short_number D.is_short_number ["value"] (sp_is_short_number K) := ok_is_short_number T
  obtain ⟨t_MAX_SIGNS, c_MAX_SIGNS⟩ := T.c_MAX_SIGNS
  obtain ⟨t_SIGNS, c_SIGNS⟩ := T.c_SIGNS
  refine T.F_is_value.ok sc_is_value (fun vs H Q E h => len_is_value h) (fun cdv A0 outer s H vs Q E hr h => ?_)
  refine ⟨_, (pss_one (ps_ret (pe_or (pe_call G_is_short_number (hr.mono (by decide)) rfl T.g_is_short_number T.F_is_short_number.kp T.b_is_short_number .nil pass0 (pa_cons (pv 0) pa_nil)) (pe_one (pe_call G_is_made_of (hr.mono (by decide)) rfl T.g_is_made_of T.F_is_made_of.kp T.b_is_made_of .nil pass0 (pa_cons (pv 0) (pa_cons (pe_glob (v := .str "abcdefghijklmnopqrstuvwxyz0123456789 ") rfl c_SIGNS ⟨_, rfl⟩) (pa_cons (pe_glob (v := .int (12)) rfl c_MAX_SIGNS ⟨_, rfl⟩) pa_nil)))))))), ?_⟩
  obtain ⟨x, d, rfl, hx, hs, k⟩ := h
  exact s_ret (ev_orV (a := d.short) (b := d.word signs37 12) (ev_call (ea_cons (ev_var rfl) ea_nil) (sv1 hx)) fun hb => ev_call (ea_cons (ev_var rfl) (ea_cons ev_c (ea_cons ev_c ea_nil))) (sv_made hx hs)) fun H2 e2 => k H2 e2
def D.isNon : K0.D → Bool
  | .non => true | _ => false
theorem Rp.isN {H : Hp} {x : V} {d : K0.D} (h : Rp K H x d) : decide (x = V.non) = d.isNon := by cases h <;> rfl
def sp_is_circle (K : PySem.W.Frag) : Sp := spS K0.D.circle K
theorem len_is_circle {vs : List V} {H : Hp} {Q : VK} {E : XK} (h : sp_is_circle K vs H Q E) : vs.length = 1 := spS_len h
theorem ok_is_circle (T : Txt K mg A D) : FnOk P w K mg base CX0 4 A.is_circle D.is_circle ["value"] (sp_is_circle K) := by
  have G_are_indices : FnOk P w K mg base CX0 3 A.are_indices D.are_indices ["value", "many"] (sp_are_indices K) := ok_are_indices T
  obtain ⟨t_MAX_CIRCLE, c_MAX_CIRCLE⟩ := T.c_MAX_CIRCLE
  obtain ⟨t_MAX_HOUSES, c_MAX_HOUSES⟩ := T.c_MAX_HOUSES
  refine T.F_is_circle.ok sc_is_circle (fun vs H Q E h => len_is_circle h) (fun cdv A0 outer s H vs Q E hr h => ?_)
  refine ⟨_, (pss_one (ps_ret (pe_and (pe_call G_are_indices (hr.mono (by decide)) rfl T.g_are_indices T.F_are_indices.kp T.b_are_indices .nil pass0 (pa_cons (pv 0) (pa_cons (pe_glob (v := .int (9)) rfl c_MAX_HOUSES ⟨_, rfl⟩) pa_nil))) (pe_one (pe_chain op_le op_le pe_int (pe_callB call_len (by rfl) T.b_len (by decide +kernel) (pa_cons (pv 0) pa_nil)) (pe_glob (v := .int (7)) rfl c_MAX_CIRCLE ⟨_, rfl⟩)))))), ?_⟩
  obtain ⟨x, d, rfl, hx, hs, k⟩ := h
  refine s_ret (ev_is (ev_andV (a := d.indices 9) (b := d.circle) (ev_call (ea_cons (ev_var rfl) (ea_cons ev_c ea_nil)) (sv_indices hx (small_of hs))) fun hb => ?_) ?_) fun H2 e2 => k H2 e2
  · cases hx with
    | tup hq hr1 =>
      have hl := hr1.len
      refine ev_is (ev_chain_le (ev_c (v := .int 1)) (ev_cb (ea_cons (ev_var rfl) ea_nil) (rc_lenT hq)) ev_c) ?_
      rename_i a xs ds
      show V.bl (decide ((1 : Int) ≤ (xs.length : Int)) && decide ((xs.length : Int) ≤ 7)) = V.bl (K0.D.indices 9 (.tup ds) && (decide (1 ≤ ds.length) && decide (ds.length ≤ 7)))
      rw [hb, Bool.true_and, hl]
      congr 2
      · exact decide_eq_decide.mpr (by omega)
      · exact decide_eq_decide.mpr (by omega)
    | _ => cases hb
  · cases d with
    | tup ds =>
      show V.bl (K0.D.indices 9 (.tup ds) && (K0.D.indices 9 (.tup ds) && _)) = V.bl (K0.D.indices 9 (.tup ds) && _)
      cases K0.D.indices 9 (.tup ds) <;> rfl
    | _ => rfl
end
end K0

namespace K0
open PySem L2 Evl
def tupsL : List D → List (List D)
  | [] => []
  | .tup es :: r => es :: tupsL r
  | _ :: r => tupsL r
theorem tupsL_app : ∀ a b : List D, tupsL (a ++ b) = tupsL a ++ tupsL b
  | [], _ => rfl
  | d :: r, b => by
    cases d <;> first | exact congrArg _ (tupsL_app r b) | exact tupsL_app r b
def okTop (d : D) : Bool := d.isTup || d.single
theorem plain_flat {j : Nat} : ∀ ds : List D, ds.all okTop = true → ds.all (D.plain (j + 1)) = (tupsL ds).flatten.all (D.plain j)
  | [], _ => rfl
  | d :: r, h => by
    rw [List.all_cons, Bool.and_eq_true] at h
    have ih := plain_flat (j := j) r h.2
    rw [List.all_cons, ih]
    cases d with
    | tup es =>
      show (es.all (D.plain j) && _) = ((es :: tupsL r).flatten).all _
      rw [List.flatten_cons, List.all_append]
    | non => rfl
    | bl b => exact absurd h.1 (by simp [okTop, D.isTup, D.single])
    | int i =>
      have hs : D.single (.int i) = true := h.1
      show (D.single (.int i) && _) = _
      rw [hs, Bool.true_and]
      rfl
    | str s =>
      have hs : D.single (.str s) = true := h.1
      show (D.single (.str s) && _) = _
      rw [hs, Bool.true_and]
      rfl
    | oth => exact absurd h.1 (by simp [okTop, D.isTup, D.single])
theorem plain_single {n : Nat} {d : D} (h : d.isTup = false) : d.plain n = d.single := by
  cases n <;> cases d <;> first | rfl | cases h
theorem plain_none : ∀ {ds : List D} {n : Nat}, ds.all okTop = true → tupsL ds = [] → ds.all (D.plain n) = true
  | [], _, _, _ => rfl
  | d :: r, n, h, e => by
    rw [List.all_cons, Bool.and_eq_true] at h
    cases ht : d.isTup with
    | true =>
      cases d with
      | tup es => exact absurd e (by simp [tupsL])
      | _ => cases ht
    | false =>
      have h1 : d.single = true := by
        have := h.1
        unfold okTop at this
        rw [ht, Bool.false_or] at this
        exact this
      have e' : tupsL r = [] := by cases d <;> first | exact e | cases ht
      rw [List.all_cons, plain_single ht, h1, Bool.true_and]
      exact plain_none h.2 e'
theorem plain_deep : ∀ {ds : List D}, tupsL ds ≠ [] → ds.all (D.plain 0) = false
  | [], h => absurd rfl h
  | d :: r, h => by
    cases ht : d.isTup with
    | true =>
      cases d with
      | tup es => rfl
      | _ => cases ht
    | false =>
      have h' : tupsL r ≠ [] := by cases d <;> first | exact h | cases ht
      rw [List.all_cons, plain_deep h', Bool.and_false]
theorem size_flat : ∀ ds : List D, D.sizeL (tupsL ds).flatten + (tupsL ds).length ≤ D.sizeL ds
  | [] => Nat.le_refl _
  | d :: r => by
    have ih := size_flat r
    cases d with
    | tup es =>
      show D.sizeL (es :: tupsL r).flatten + (tupsL r).length.succ ≤ D.size (.tup es) + D.sizeL r
      rw [List.flatten_cons, sizeL_app]
      simp only [D.size]
      omega
    | _ =>
      simp only [D.sizeL]
      show D.sizeL (tupsL r).flatten + (tupsL r).length ≤ _
      omega
theorem tups_nil_empty : D.sizeL ([] : List D) = 0 := rfl
inductive Rows (K : PySem.W.Frag) (H : Hp) : List Addr → List (List V) → List (List D) → Prop where
  | nil : Rows K H [] [] []
  | cons {r : Addr} {row : List V} {es : List D} {rs : List Addr} {rows : List (List V)} {ess : List (List D)} : SqT K H r row → RpAll K H row es → Rows K H rs rows ess → Rows K H (r :: rs) (row :: rows) (es :: ess)
section
variable {K : PySem.W.Frag} {H H' : Hp}
theorem Rows.snoc {r : Addr} {row : List V} {es : List D} (h : SqT K H r row) (hr : RpAll K H row es) : ∀ {rs : List Addr} {rows : List (List V)} {ess : List (List D)}, Rows K H rs rows ess → Rows K H (rs ++ [r]) (rows ++ [row]) (ess ++ [es])
  | _, _, _, .nil => .cons h hr .nil
  | _, _, _, .cons a b c => .cons a b (Rows.snoc h hr c)
theorem Rows.len : ∀ {rs : List Addr} {rows : List (List V)} {ess : List (List D)}, Rows K H rs rows ess → rs.length = rows.length ∧ rs.length = ess.length
  | _, _, _, .nil => ⟨rfl, rfl⟩
  | _, _, _, .cons _ _ c => ⟨by rw [List.length_cons, List.length_cons, c.len.1], by rw [List.length_cons, List.length_cons, c.len.2]⟩
theorem Rows.get : ∀ {rs : List Addr} {rows : List (List V)} {ess : List (List D)}, Rows K H rs rows ess → ∀ (i : Nat) r row, rs[i]? = some r → rows[i]? = some row → SqT K H r row
  | _, _, _, .nil, i, r, row, h, _ => by simp at h
  | _, _, _, .cons a _ c, 0, r, row, h, h' => by
    have e1 := Option.some.inj h
    have e2 := Option.some.inj h'
    subst e1 e2
    exact a
  | _, _, _, .cons _ _ c, i + 1, r, row, h, h' => Rows.get c i r row (by simpa using h) (by simpa using h')
theorem Rows.flat : ∀ {rs : List Addr} {rows : List (List V)} {ess : List (List D)}, Rows K H rs rows ess → RpAll K H rows.flatten ess.flatten
  | _, _, _, .nil => .nil
  | _, _, _, .cons _ b c => by
    rw [List.flatten_cons, List.flatten_cons]
    exact RpAll.app b (Rows.flat c)
end
section
variable {P : Program} {w : World} {K : PySem.W.Frag} {mg : Str → Option Value} {base : Heap} {A : Ad} {D : Fd}
def sp_is_plain_within (K : PySem.W.Frag) : Sp := fun vs H Q _ => ∃ x d, ∃ n : Nat, vs = [x, .int (n : Int)] ∧ Rp K H x d ∧ d.size ≤ 30000 ∧ RetV (.bl (d.plain n)) H Q
theorem len_is_plain_within {vs : List V} {H : Hp} {Q : VK} {E : XK} (h : sp_is_plain_within K vs H Q E) : vs.length = 2 := by
  obtain ⟨x, d, n, rfl, _⟩ := h
  rfl
theorem sv_within_plain {H : Hp} {x : V} {d : K0.D} {n : Nat} (h : Rp K H x d) (hs : d.size ≤ 30000) : SpV (sp_is_plain_within K) [x, .int (n : Int)] H (.bl (d.plain n)) := fun H1 e Q q E => ⟨x, d, n, rfl, h.ex e, hs, q⟩
def PlainW (K : PySem.W.Frag) (H : Hp) (x : V) (d : K0.D) (n : Nat) (m : Nat) (σ : L2.St) (H' : Hp) : Prop :=
  ∃ (lv : Addr) (xs : List V) (ds : List K0.D) (k : Nat) (v4 v5 : Option V), σ = [some x, some (.int (n : Int)), some (.ref lv), some (.int (k : Int)), v4, v5, none, none] ∧ H' lv = some (.lst xs) ∧ RpAll K H' xs ds ∧ Ex H H' ∧
    K0.D.sizeL ds = m ∧ m ≤ 30000 ∧ k ≤ n ∧ d.plain n = ds.all (K0.D.plain (n - k))
def PlainP (K : PySem.W.Frag) (H1 : Hp) (x : V) (n k : Nat) (lv p : Addr) (ds : List K0.D) (i : Nat) (σ : L2.St) (H' : Hp) : Prop :=
  ∃ (ys : List Addr) (rows : List (List V)) (v5 : Option V), σ = [some x, some (.int (n : Int)), some (.ref lv), some (.int (k : Int)), some (.ref p), v5, none, none] ∧ Ex H1 H' ∧ H' p = some (.lst (ys.map V.ref)) ∧
    Rows K H1 ys rows (tupsL (ds.take i)) ∧ (ds.take i).all okTop = true ∧ ys.length ≤ i
end
end K0

namespace K0
open PySem PySem.Spec PyProof.Rows L2 Evl
/-! ### more rules -/
section
variable {X : Cx}
/-- xs == [] for two lists of which one is empty -/
theorem op_eqNil (hu : X.A.units < cLine) : OpR X (compareOp .Eq) (fun x y H Q => ∃ a b xs, x = V.ref a ∧ y = V.ref b ∧ SqL X.K H a xs ∧ SqL X.K H b [] ∧ Q (.bl xs.isEmpty) H) := by
  intro pins s σ H x y v u Q I rx ry h
  obtain ⟨a, b, xs, rfl, rfl, ha, hb, q⟩ := h
  cases rx
  cases ry
  obtain ⟨its, r, p, _⟩ := I.list ha
  obtain ⟨its2, r2, p2, _⟩ := I.list hb
  cases r2
  cases xs with
  | nil =>
    cases r
    exact SeqAt.eq_listAt (e := fun _ => true) p.isList p2.isList rfl hu (fun j h1 _ => absurd h1 (by simp)) ⟨.bl true, H, I, rfl, q⟩
  | cons y ys =>
    refine SeqAt.eq_list_lengthsAt p.isList p2.isList ?_ hu ⟨.bl false, H, I, rfl, q⟩
    cases r with
    | cons r1 r2 => simp
theorem fold_size (x : Array Nat) : ∀ (n : Nat) (acc : Array Nat), ((List.replicate n x).foldl (· ++ ·) acc).size = acc.size + n * x.size
  | 0, acc => by simp
  | n + 1, acc => by
    rw [List.replicate_succ, List.foldl_cons, fold_size x n, Array.size_append, Nat.succ_mul]
    omega
/-- a text times a number: some text of that length -/
theorem op_mulS : OpR X (binaryOp .Mult) (fun x y H Q => ∃ (s : Str) (n : Nat), x = V.str s ∧ y = V.int (n : Int) ∧ 1 < n ∧ n ≤ 5000 ∧ s.length = 1 ∧ ∀ z : Str, z.length = n → Q (.str z) H) := by
  intro pins s σ H x y v u Q I rx ry h
  obtain ⟨a, n, rfl, rfl, h1, h2, hl, q⟩ := h
  obtain ⟨t, rfl⟩ := rx
  obtain ⟨t', rfl⟩ := ry
  have hs : sizeLine = 16777216 := sizeLine_eq
  have hn : ¬ ((n : Int) < 1) := by omega
  have hb : ((n : Int) == 1 || a.length == 0) = false := by
    rw [hl]
    simp
    omega
  have e : (⟨(List.replicate ((n : Int)).toNat a.cps).foldl (· ++ ·) #[]⟩ : Str).length = n := by
    show ((List.replicate ((n : Int)).toNat a.cps).foldl (· ++ ·) #[]).size = n
    rw [fold_size]
    show 0 + ((n : Int)).toNat * a.length = n
    rw [hl]
    omega
  refine PySem.P.mul_str ?_ (fun _ _ => ?_) (fun _ _ => ?_) ?_
  · have c1 : ¬ ((n : Int) < -(2 ^ 63 : Int)) := by omega
    have c2 : ¬ ((n : Int) ≥ 2 ^ 63) := by omega
    rw [decide_eq_false c1, decide_eq_false c2]
    rfl
  · rw [hl]
    have h3 : 1 ≤ (2 ^ 63 - 1 : Int) / (n : Int) := by
      rw [Int.le_ediv_iff_mul_le (by omega)]
      omega
    omega
  · rw [hl]
    unfold Builtin.Str.tooLong
    exact decide_eq_false (by omega)
  · rw [if_neg hn, if_neg (by rw [hb]; decide)]
    exact ⟨by rw [e, hs]; omega, ⟨.str _, H, I.tok _, ⟨_, rfl⟩, q _ e⟩⟩
/-- set(t), t a tuple of ints -/
def rSetT (K : PySem.W.Frag) (w : World) : List V → Hp → VK → Prop := fun vs H Q => ∃ (a : Addr) (ns : List Int), vs = [V.ref a] ∧ SqT K H a (ns.map V.int) ∧ ns.length ≤ 60 ∧
  ∀ (p : Addr) (c : Nat), c ≤ ns.length → H p = none → Q (.ref p) (upd H p (SetO w p (fun j => decide (j ∈ ns)) c))
theorem cr_setT (hc : X.calm = true) : CallR X (.type "set") (rSetT X.K X.w) := by
  intro pins s σ H xs us Q I r h
  obtain ⟨a, ns, rfl, ha, hl, q⟩ := h
  obtain ⟨u, rfl, rx⟩ := vals1 r
  cases rx
  obtain ⟨its, ri, p, _⟩ := I.tuple ha
  have hb : ns.length + 1 < scanBound := Nat.lt_of_le_of_lt (Nat.succ_le_succ hl) (by decide)
  refine L2.call_set_tupI ns (I.ok.hd hc) p (by simpa using intsAre_of ri) hb fun h' tk c R hcl hk => ?_
  exact ⟨.ref _, upd H s.heap.objs.size (SetO X.w s.heap.objs.size (fun j => decide (j ∈ ns)) c), I.laid (t' := tk) hk (Nat.le_refl _) (setO_new R), rfl, q _ c hcl (I.hok.fresh (Nat.le_refl _))⟩
/-- repr of data (where no repr is under way) -/
def rRepr (K : PySem.W.Frag) : List V → Hp → VK → Prop := fun vs H Q => ∃ x d, vs = [V.ref x] ∧ Dp K H (.ref x) d ∧ d.showable = true ∧ d.hasDict = false ∧ d.depth ≤ 60 ∧ d.shown.length ≤ sizeLine ∧ Q (.str d.shown) H
theorem cr_repr (hg : X.A.guards = some []) (hu : X.A.units + 64 < cLine) : CallR X (.builtin "repr") (rRepr X.K) := by
  intro pins s σ H xs us Q I r h
  obtain ⟨a, d, rfl, hd, h1, h2, h3, h4, q⟩ := h
  obtain ⟨u, rfl, rx⟩ := vals1 r
  cases rx
  obtain ⟨as, rr⟩ := Dp.reads I d _ _ hd rfl
  refine repr_of_reads' rr h1 (fun z => by rw [h2] at z; cases z) hg (by omega) (fun b o e => e) (fun h' u tk hk => ?_) h4
  exact ⟨.str d.shown, H, I.kept hk, ⟨_, rfl⟩, q⟩
end
end K0

namespace K0
open PySem L2 Evl
/-! ### the heap but for one list -/
def hid (o : Option Addr) (H : Hp) : Hp := fun b => if o = some b then none else H b
section
variable {o : Option Addr} {a : Addr} {H H' H'' : Hp}
theorem hid_ex (e : Ex H H') : Ex (hid o H) (hid o H') := fun b u h => by
  unfold hid at h ⊢
  split at h
  · cases h
  · rename_i n
    rw [if_neg n]
    exact e b u h
theorem hid_le : Ex (hid o H) H := fun b u h => by
  unfold hid at h
  split at h
  · cases h
  · exact h
theorem hid_none : hid none H = H := by
  funext b
  unfold hid
  rw [if_neg (by simp)]
theorem hid_at {b : Addr} {u : HO} (h : H b = some u) (n : b ≠ a) : hid (some a) H b = some u := by
  unfold hid
  rw [if_neg (by simpa using fun z => n z.symm)]
  exact h
/-- all but what stands at a is as it was -/
def Bt (a : Addr) (H H' : Hp) : Prop := Ex (hid (some a) H) (hid (some a) H')
theorem Bt.refl : Bt a H H := Ex.refl _
theorem Bt.trans (h : Bt a H H') (h' : Bt a H' H'') : Bt a H H'' := Ex.trans h h'
theorem Bt.of (e : Ex H H') : Bt a H H' := hid_ex e
theorem Bt.upd {u : HO} : Bt a H (L2.upd H a u) := fun b v h => by
  unfold hid at h ⊢
  split at h
  · cases h
  · rename_i n
    have n' : b ≠ a := fun z => n (by rw [z])
    rw [if_neg n, upd_ne n']
    exact h
theorem Bt.at {b : Addr} {u : HO} (e : Bt a H H') (n : b ≠ a) (h : H b = some u) : H' b = some u := hid_le _ _ (e _ _ (hid_at h n))
theorem Bt.sqL {K : PySem.W.Frag} {b : Addr} {xs : List V} (e : Bt a H H') (n : b ≠ a) (h : SqL K H b xs) : SqL K H' b xs := by
  rcases h with (h | ⟨o, h⟩) | h
  · exact .inl (.inl (e.at n h))
  · exact .inl (.inr ⟨o, e.at n h⟩)
  · exact .inr h
theorem Bt.sqT {K : PySem.W.Frag} {b : Addr} {xs : List V} (e : Bt a H H') (n : b ≠ a) (h : SqT K H b xs) : SqT K H' b xs := by
  rcases h with (h | ⟨o, h⟩) | h
  · exact .inl (.inl (e.at n h))
  · exact .inl (.inr ⟨o, e.at n h⟩)
  · exact .inr h
theorem Bt.free {b : Addr} (e : Bt a H H') (n : b ≠ a) (h : H' b = none) : H b = none := by
  cases z : H b with
  | none => rfl
  | some u =>
    rw [e.at n z] at h
    cases h
end
def DiceAt (H : Hp) (a : Addr) : Prop := ∃ d0 d1 d2 : Int, H a = some (.lst [.int d0, .int d1, .int d2])
theorem DiceAt.ex {H H' : Hp} {a : Addr} (e : Ex H H') (h : DiceAt H a) : DiceAt H' a := by
  obtain ⟨x, y, z, h⟩ := h
  exact ⟨x, y, z, e _ _ h⟩
theorem DiceAt.ne {H : Hp} {a p : Addr} (h : DiceAt H a) (hp : H p = none) : p ≠ a := by
  obtain ⟨x, y, z, h⟩ := h
  exact (ne_of_none h hp).symm
section
variable {K : PySem.W.Frag} {σ : L2.St} {H H' : Hp} {ta tb te tx : TE} {t u : TT} {x y z v : V}
theorem rc_abs {i : Int} : RC (fun xs H Q => ∃ i, xs = [.int i] ∧ Q (.int (if i < 0 then -i else i)) H) [.int i] H (.int (if i < 0 then -i else i)) := fun H1 _ _ q => ⟨i, rfl, q H1 (Ex.refl _)⟩
theorem rc_max2 {i j : Int} : RC (fun xs H Q => ∃ i j, xs = [.int i, .int j] ∧ Q (.int (if j > i then j else i)) H) [.int i, .int j] H (.int (if j > i then j else i)) := fun H1 _ _ q => ⟨i, j, rfl, q H1 (Ex.refl _)⟩
theorem rc_min2 {i j : Int} : RC (fun xs H Q => ∃ i j, xs = [.int i, .int j] ∧ Q (.int (if j < i then j else i)) H) [.int i, .int j] H (.int (if j < i then j else i)) := fun H1 _ _ q => ⟨i, j, rfl, q H1 (Ex.refl _)⟩
theorem rc_int1 {i : Int} : RC (fun xs H Q => (∃ i, xs = [.int i] ∧ Q (.int i) H) ∨ ∃ k, xs = [.bl k] ∧ Q (.int (if k then 1 else 0)) H) [.int i] H (.int i) := fun H1 _ _ q => Or.inl ⟨i, rfl, q H1 (Ex.refl _)⟩
theorem rc_intB {b : Bool} : RC (fun xs H Q => (∃ i, xs = [.int i] ∧ Q (.int i) H) ∨ ∃ k, xs = [.bl k] ∧ Q (.int (if k then 1 else 0)) H) [.bl b] H (.int (if b then 1 else 0)) := fun H1 _ _ q => Or.inr ⟨b, rfl, q H1 (Ex.refl _)⟩
theorem rv_pow {i : Int} {n : Nat} (h : n ≤ 1000000) (hi : i.natAbs < 2 ^ 64) : RV (rI CPow fun i j => .int (i ^ j.toNat)) (.int i) (.int (n : Int)) H (.int (i ^ n)) := rv_I (by exact ⟨by omega, by omega, hi⟩)
/-- a chosen value -/
theorem ev_ifv {b : Bool} {v w : V} (h : EvT t σ H b) (h1 : b = true → Ev ta σ H v) (h2 : b = false → Ev tb σ H w) : Ev (tIf t ta tb) σ H (if b then v else w) := by
  cases b with
  | true => exact ev_if h (fun _ => h1 rfl) (fun z => by cases z)
  | false => exact ev_if h (fun z => by cases z) (fun _ => h2 rfl)
end
section
variable {P : Program} {w : World} {K : PySem.W.Frag} {mg : Str → Option Value} {base : Heap} {A : Ad} {D : Fd}
def sp_law_dice (K : PySem.W.Frag) : Sp := fun vs H Q _ => ∃ (a : Addr) (ns : List Int) (i : Nat), vs = [.ref a, .int (i : Int)] ∧ SqL K H a (ns.map V.int) ∧ ∀ p H', H p = none → Ex H H' → DiceAt H' p → Q (.ref p) H'
theorem len_law_dice {vs : List V} {H : Hp} {Q : VK} {E : XK} (h : sp_law_dice K vs H Q E) : vs.length = 2 := by
  obtain ⟨a, ns, i, rfl, _⟩ := h
  rfl
theorem ok_law_dice (T : Txt K mg A D) : FnOk P w K mg base CX0 1 A.law_dice D.law_dice ["script", "spot"] (sp_law_dice K) := by
  refine T.F_law_dice.ok sc_law_dice (fun vs H Q E h => len_law_dice h) (fun cdv A0 outer s H vs Q E hr h => ?_)
  refine ⟨_, (pss_cons (ps_set (i := 2) sc_law_dice.nd rfl (Or.inl rfl) (pe_ifExp (pt_cmpR op_lt (pv 1) (pe_callB call_len (by rfl) T.b_len (by decide +kernel) (pa_cons (pv 0) pa_nil)) (nomark _)) (pe_callTy call_int1 (by rfl) T.b_int (by decide +kernel) (pa_cons (pe_ix ix_list (pv 0) (pv 1) (fun _ _ => rfl)) pa_nil)) (pe_op op_add (pe_op op_mul pe_int (pv 1)) pe_int)))
  (pss_cons (ps_set (i := 3) sc_law_dice.nd rfl (Or.inl rfl) (pe_op op_mod (pe_callB (call_max2 rfl) (by rfl) T.b_max (by decide +kernel) (pa_cons pe_int (pa_cons (pe_op op_sub (pe_callB call_abs (by rfl) T.b_abs (by decide +kernel) (pa_cons (pv 2) pa_nil)) (pe_op op_pow pe_int pe_int)) pa_nil))) (pe_op op_mulW (pe_op op_pow pe_int pe_int) (pe_op op_pow pe_int pe_int))))
  (pss_one (ps_ret (pe_lst (pa_cons (pv 3) (pa_cons (pe_op op_add (pe_op op_add (pe_op op_add (pe_op op_mul (pe_op op_mod (pe_callB call_abs (by rfl) T.b_abs (by decide +kernel) (pa_cons (pv 2) pa_nil)) pe_int) pe_int) (pe_op op_mul pe_int (pv 1))) (pe_op op_mul pe_int (pe_callTy call_int1 (by rfl) T.b_int (by decide +kernel) (pa_cons (pe_cmpR op_lt (pv 2) pe_int (nomark _)) pa_nil)))) pe_int) (pa_cons pe_int pa_nil)))))))), ?_⟩
  obtain ⟨a, ns, i, rfl, ha, k⟩ := h
  refine q_asg (v := .int (if i < ns.length then ns.getD i 0 else 97 * (i : Int) + 61)) ?_ fun H1 e1 => ?_
  · refine ev_is (ev_ifv (b := decide ((i : Int) < (ns.length : Int))) (v := .int (ns.getD i 0)) (w := .int (97 * (i : Int) + 61)) (et_test (ev_is (ev_op (ev_var rfl) (ev_cb (ea_cons (ev_var rfl) ea_nil) (rc_lenL ha)) rv_I0) (by rw [List.length_map]))) (fun hb => ?_) (fun hb => ?_)) ?_
    · have hi : i < ns.length := by have := of_decide_eq_true hb; omega
      refine ev_cb (ea_cons (ev_op (ev_var rfl) (ev_var rfl) (rv_ixL ha (at_of (j := i) rfl ?_))) ea_nil) rc_int1
      rw [List.getElem?_map, List.getD_eq_getElem?_getD, List.getElem?_eq_getElem hi]
      rfl
    · exact ev_op (ev_op ev_c (ev_var rfl) (rv_I (.inl ⟨by decide, by decide⟩))) ev_c rv_I0
    · by_cases c : i < ns.length
      · rw [if_pos c, if_pos (decide_eq_true (by omega))]
      · rw [if_neg c, if_neg (by rw [decide_eq_false (by omega)]; decide)]
  generalize (if i < ns.length then ns.getD i 0 else 97 * (i : Int) + 61) = c
  refine q_asg (ev_op (ev_cb (ea_cons ev_c (ea_cons (ev_op (ev_cb (ea_cons (ev_var rfl) ea_nil) rc_abs) (ev_op ev_c ev_c (rv_pow (n := 16) (by decide) (by decide))) rv_I0) ea_nil)) rc_max2)
    (ev_op (ev_op ev_c ev_c (rv_pow (n := 57) (by decide) (by decide))) (ev_op ev_c ev_c (rv_pow (n := 60) (by decide) (by decide))) (rv_I (by show _ < _; decide +kernel))) (rv_I (by decide +kernel))) fun H2 e2 => ?_
  refine s_retL (el_lst (ea_cons (ev_var rfl) (ea_cons (ev_op (ev_op (ev_op (ev_op (ev_op (ev_cb (ea_cons (ev_var rfl) ea_nil) rc_abs) ev_c (rv_I (by decide))) ev_c (rv_I (.inr ⟨by decide, by decide⟩)))
    (ev_op ev_c (ev_var rfl) (rv_I (.inl ⟨by decide, by decide⟩))) rv_I0) (ev_op ev_c (ev_cb (ea_cons (ev_op (ev_var rfl) ev_c rv_I0) ea_nil) rc_intB) (rv_I (.inl ⟨by decide, by decide⟩))) rv_I0) ev_c rv_I0) (ea_cons ev_c ea_nil))) (by simp)) fun p H3 hp e3 h3 => ?_
  exact k p H3 (fresh_back (e1.trans e2) hp) ((e1.trans e2).trans e3) ⟨_, _, _, h3⟩
def sp_law_roll (K : PySem.W.Frag) : Sp := fun vs H Q _ => ∃ (a : Addr) (m : Int), vs = [.ref a, .int m] ∧ DiceAt H a ∧ 0 < m ∧ m < 1000000 ∧ ∀ r H', 0 ≤ r → r < m → Bt a H H' → DiceAt H' a → Q (.int r) H'
theorem len_law_roll {vs : List V} {H : Hp} {Q : VK} {E : XK} (h : sp_law_roll K vs H Q E) : vs.length = 2 := by
  obtain ⟨a, m, rfl, _⟩ := h
  rfl
theorem ok_law_roll (T : Txt K mg A D) : FnOk P w K mg base CX0 1 A.law_roll D.law_roll ["dice", "most"] (sp_law_roll K) := by
  refine T.F_law_roll.ok sc_law_roll (fun vs H Q E h => len_law_roll h) (fun cdv A0 outer s H vs Q E hr h => ?_)
  refine ⟨_, (pss_cons (ps_if (pt_cmpR op_gt (pe_ix ix_list (pv 0) pe_int (fun _ _ => rfl)) pe_int (nomark _)) (pss_cons (ps_set (i := 2) sc_law_roll.nd rfl (Or.inl rfl) (pe_op op_mod (pe_callTy call_int1 (by rfl) T.b_int (by decide +kernel) (pa_cons (pe_ix ix_list (pv 0) pe_int (fun _ _ => rfl)) pa_nil)) (pv 1)))
  (pss_cons (ps_asg (pe_op op_fdiv (pe_ix ix_list (pv 0) pe_int (fun _ _ => rfl)) (pv 1)) (pg_sub (pv 0) pe_int set_list))
  (pss_one (ps_ret (pv 2))))) pss_nil)
  (pss_cons (ps_asg (pe_op op_add (pe_ix ix_list (pv 0) pe_int (fun _ _ => rfl)) pe_int) (pg_sub (pv 0) pe_int set_list))
  (pss_cons (ps_set (i := 3) sc_law_roll.nd rfl (Or.inl rfl) (pe_op op_mod (pe_callTy call_int1 (by rfl) T.b_int (by decide +kernel) (pa_cons (pe_op op_add (pe_ix ix_list (pv 0) pe_int (fun _ _ => rfl)) (pe_op op_mul pe_int (pe_ix ix_list (pv 0) pe_int (fun _ _ => rfl)))) pa_nil)) pe_int))
  (pss_cons (ps_set (i := 4) sc_law_roll.nd rfl (Or.inl rfl) (pe_op op_add (pe_op op_mul (pe_op op_mod (pe_callTy call_int1 (by rfl) T.b_int (by decide +kernel) (pa_cons (pe_op op_add (pe_op op_mul (pv 3) (pv 3)) (pe_op op_mul pe_int (pe_ix ix_list (pv 0) pe_int (fun _ _ => rfl)))) pa_nil)) pe_int) pe_int) (pv 3)))
  (pss_one (ps_ret (pe_op op_mod (pe_callTy call_int1 (by rfl) T.b_int (by decide +kernel) (pa_cons (pe_op op_fdiv (pv 4) pe_int) pa_nil)) (pv 1)))))))), ?_⟩
  obtain ⟨a, m, rfl, ⟨d0, d1, d2, ha⟩, hm, hm2, k⟩ := h
  have hmod : ∀ x : Int, 0 ≤ x % m ∧ x % m < m := fun x => ⟨Int.emod_nonneg _ (by omega), Int.emod_lt_of_pos _ hm⟩
  refine q_when (b := decide (0 < d0)) (et_test (ev_op (ev_op (ev_var rfl) ev_c (rv_ixL (sq_of ha) (at_of (j := 0) rfl rfl))) ev_c rv_I0)) (fun hb H1 e1 => ?_) (fun hb H1 e1 => ?_)
  · have h1 := e1 _ _ ha
    refine q_asg (ev_op (ev_cb (ea_cons (ev_op (ev_var rfl) ev_c (rv_ixL (sq_of h1) (at_of (j := 0) rfl rfl))) ea_nil) rc_int1) (ev_var rfl) (rv_I hm)) fun H2 e2 => ?_
    have h2 := e2 _ _ h1
    refine q_setL (j := 0) h2 (ev_op (ev_op (ev_var rfl) ev_c (rv_ixL (sq_of h2) (at_of (j := 0) rfl rfl))) (ev_var rfl) (rv_I ⟨hm, by omega⟩)) (ev_var rfl) ev_c (by simp) fun H3 e3 => ?_
    refine s_ret (ev_var rfl) fun H4 e4 => ?_
    exact k _ H4 (hmod _).1 (hmod _).2 ((Bt.of ((e1.trans e2).trans e3)).trans (Bt.upd.trans (Bt.of e4))) ⟨_, _, _, e4 _ _ upd_same⟩
  · have h1 := e1 _ _ ha
    refine q_setL (j := 2) h1 (ev_op (ev_op (ev_var rfl) ev_c (rv_ixL (sq_of h1) (at_of (j := 2) rfl rfl))) ev_c rv_I0) (ev_var rfl) ev_c (by simp) fun H2 e2 => ?_
    have h2 : (L2.upd H2 a (.lst [.int d0, .int d1, .int (d2 + 1)])) a = some (.lst [.int d0, .int d1, .int (d2 + 1)]) := upd_same
    refine q_asg (v := .int ((d1 + 71593063 * (d2 + 1)) % 2305843009213693487)) (ev_op (ev_cb (ea_cons (ev_op (ev_op (ev_var rfl) ev_c (rv_ixL (sq_of h2) (at_of (j := 1) rfl rfl))) (ev_op ev_c (ev_op (ev_var rfl) ev_c (rv_ixL (sq_of h2) (at_of (j := 2) rfl rfl))) (rv_I (.inl ⟨by decide, by decide⟩))) rv_I0) ea_nil) rc_int1) ev_c (rv_I (by decide))) fun H3 e3 => ?_
    have h3 := e3 _ _ h2
    have hone : 0 ≤ (d1 + 71593063 * (d2 + 1)) % 2305843009213693487 ∧ (d1 + 71593063 * (d2 + 1)) % 2305843009213693487 < 2305843009213693487 := ⟨Int.emod_nonneg _ (by decide), Int.emod_lt_of_pos _ (by decide)⟩
    generalize (d1 + 71593063 * (d2 + 1)) % 2305843009213693487 = one at hone ⊢
    refine q_asg (v := .int ((one * one + 89 * (d2 + 1)) % 2305843009213693253 * 6700417 + one)) (ev_op (ev_op (ev_op (ev_cb (ea_cons (ev_op (ev_op (ev_var rfl) (ev_var rfl) (rv_I (.inl ⟨by omega, by omega⟩))) (ev_op ev_c (ev_op (ev_var rfl) ev_c (rv_ixL (sq_of h3) (at_of (j := 2) rfl rfl))) (rv_I (.inl ⟨by decide, by decide⟩))) rv_I0) ea_nil) rc_int1) ev_c (rv_I (by decide))) ev_c (rv_I (.inr ⟨by decide, by decide⟩))) (ev_var rfl) rv_I0) fun H4 e4 => ?_
    refine s_ret (ev_op (ev_cb (ea_cons (ev_op (ev_var rfl) ev_c (rv_I ⟨by decide, by decide⟩)) ea_nil) rc_int1) (ev_var rfl) (rv_I hm)) fun H5 e5 => ?_
    exact k _ H5 (hmod _).1 (hmod _).2 ((Bt.of (e1.trans e2)).trans (Bt.upd.trans (Bt.of ((e3.trans e4).trans e5)))) ⟨_, _, _, ((e3.trans e4).trans e5) _ _ h2⟩
def sp_law_pick (K : PySem.W.Frag) : Sp := fun vs H Q _ => ∃ (a p : Addr) (xs : List V), vs = [.ref a, .ref p] ∧ DiceAt H a ∧ p ≠ a ∧ SqL K H p xs ∧ xs ≠ [] ∧ xs.length < 1000000 ∧ ∀ x H', x ∈ xs → Bt a H H' → DiceAt H' a → Q x H'
theorem len_law_pick {vs : List V} {H : Hp} {Q : VK} {E : XK} (h : sp_law_pick K vs H Q E) : vs.length = 2 := by
  obtain ⟨a, p, xs, rfl, _⟩ := h
  rfl
theorem ok_law_pick (T : Txt K mg A D) : FnOk P w K mg base CX0 2 A.law_pick D.law_pick ["dice", "items"] (sp_law_pick K) := by
  have G_law_roll : FnOk P w K mg base CX0 1 A.law_roll D.law_roll ["dice", "most"] (sp_law_roll K) := ok_law_roll T
  refine T.F_law_pick.ok sc_law_pick (fun vs H Q E h => len_law_pick h) (fun cdv A0 outer s H vs Q E hr h => ?_)
  refine ⟨_, (pss_one (ps_ret (pe_ix ix_list (pv 1) (pe_call G_law_roll (hr.mono (by decide)) rfl T.g_law_roll T.F_law_roll.kp T.b_law_roll .nil pass0 (pa_cons (pv 0) (pa_cons (pe_callB call_len (by rfl) T.b_len (by decide +kernel) (pa_cons (pv 1) pa_nil)) pa_nil))) (fun _ _ => rfl)))), ?_⟩
  obtain ⟨a, p, xs, rfl, ha, hne, hp, hx, hx2, k⟩ := h
  have hpos : 0 < xs.length := List.length_pos_iff.mpr hx
  refine ⟨_, rfl, ?_⟩
  refine (ea_cons (ev_var rfl) (ea_cons (ev_cb (ea_cons (ev_var rfl) ea_nil) (rc_lenL hp)) ea_nil) : EvA _ _ H [.ref a, .int (xs.length : Nat)]) H (Ex.refl _) _ fun H1 e1 => ?_
  refine ⟨a, _, rfl, ha.ex e1, by omega, by omega, fun r H2 h0 h1 hb hd => ?_⟩
  have hbt := (Bt.of e1).trans hb
  have hj : r.toNat < xs.length := by omega
  refine ⟨p, xs, r, xs[r.toNat], rfl, rfl, hbt.sqL hne hp, at_of (j := r.toNat) (by omega) (List.getElem?_eq_getElem hj), ?_⟩
  exact k _ H2 (List.getElem_mem hj) hbt hd
end
end K0

namespace K0
open PySem L2 Evl
/-! ### what evaluates to some value of which R holds -/
def Mono (R : V → Hp → Prop) : Prop := ∀ v H H', Ex H H' → R v H → R v H'
def EvR (te : TE) (σ : L2.St) (H : Hp) (R : V → Hp → Prop) : Prop := ∀ H1, Ex H H1 → ∀ Q : VK, (∀ v H2, Ex H1 H2 → R v H2 → Q v H2) → te σ H1 Q
def EvAR (ta : TA) (σ : L2.St) (H : Hp) (n : Nat) (R : V → Hp → Prop) : Prop := ∀ H1, Ex H H1 → ∀ Q : List V → Hp → Prop, (∀ vs H2, Ex H1 H2 → vs.length = n → (∀ v ∈ vs, R v H2) → Q vs H2) → ta σ H1 Q
/-- a value of which the part of the heap but for o tells data of at most this size -/
def Rz (K : PySem.W.Frag) (o : Option Addr) (s : Nat) : V → Hp → Prop := fun v H => ∃ d, Rp K (hid o H) v d ∧ d.size ≤ s
def live (o : Option Addr) (H : Hp) : Prop := ∀ a, o = some a → H a ≠ none
section
variable {K : PySem.W.Frag} {σ : L2.St} {H H' : Hp} {ta tb te tx : TE} {tr : TA} {t u : TT} {x y z v : V} {R : V → Hp → Prop} {n s s' : Nat} {o : Option Addr}
theorem mono_Rz : Mono (Rz K o s) := fun v H H' e ⟨d, h, hs⟩ => ⟨d, h.ex (hid_ex e), hs⟩
theorem Rz.le (h : Rz K o s v H) (hs : s ≤ s') : Rz K o s' v H := let ⟨d, r, z⟩ := h; ⟨d, r, Nat.le_trans z hs⟩
theorem live.ex (h : live o H) (e : Ex H H') : live o H' := fun a ha => by
  cases z : H a with
  | none => exact absurd z (h a ha)
  | some u =>
    rw [e a u z]
    simp
theorem live.new {p : Addr} {u : HO} (h : live o H) (hp : H p = none) : hid o (upd H p u) p = some u := by
  unfold hid
  rw [if_neg, upd_same]
  intro z
  exact h p z hp
theorem live_of {a : Addr} (h : DiceAt H a) : live (some a) H := fun b hb => by
  obtain ⟨d0, d1, d2, h⟩ := h
  have e := Option.some.inj hb
  subst e
  rw [h]
  simp
theorem live_none : live none H := fun b hb => by cases hb
theorem er_ev (h : Ev te σ H v) (hr : ∀ H', R v H') : EvR te σ H R := fun H1 e Q q => h H1 e Q fun H2 e2 => q v H2 e2 (hr H2)
theorem ear_nil : EvAR tNil σ H 0 R := fun H1 _ _ q => q [] H1 (Ex.refl _) rfl (fun v h => by cases h)
theorem ear_cons (hm : Mono R) (h : EvR te σ H R) (hr : EvAR tr σ H n R) : EvAR (tCons te tr) σ H (n + 1) R := fun H1 e Q q =>
  h H1 e _ fun v H2 e2 hv => hr H2 (e.trans e2) _ fun vs H3 e3 hl hvs => q (v :: vs) H3 (e2.trans e3) (by rw [List.length_cons, hl]) fun w hw => by
    rcases List.mem_cons.mp hw with hw | hw
    · rw [hw]
      exact hm _ _ _ e3 hv
    · exact hvs w hw
def EvAL (ta : TA) (σ : L2.St) (H : Hp) (n : Nat) (R : V → Hp → Prop) : Prop := ∀ H1, Ex H H1 → ∀ Q : List V → Hp → Prop, (∀ vs H2, Ex H1 H2 → vs.length ≤ n → (∀ v ∈ vs, R v H2) → Q vs H2) → ta σ H1 Q
theorem eal_nil : EvAL tNil σ H n R := fun H1 _ _ q => q [] H1 (Ex.refl _) (Nat.zero_le _) (fun v h => by cases h)
theorem eal_cons (hm : Mono R) (h : EvR te σ H R) (hr : EvAL tr σ H n R) : EvAL (tCons te tr) σ H (n + 1) R := fun H1 e Q q =>
  h H1 e _ fun v H2 e2 hv => hr H2 (e.trans e2) _ fun vs H3 e3 hl hvs => q (v :: vs) H3 (e2.trans e3) (by rw [List.length_cons]; omega) fun w hw => by
    rcases List.mem_cons.mp hw with hw | hw
    · rw [hw]
      exact hm _ _ _ e3 hv
    · exact hvs w hw
theorem rpAll_of {G : Hp} : ∀ {vs : List V}, (∀ v ∈ vs, ∃ d, Rp K G v d ∧ d.size ≤ s) → ∃ ds, RpAll K G vs ds ∧ D.sizeL ds ≤ vs.length * s
  | [], _ => ⟨[], .nil, Nat.zero_le _⟩
  | v :: vs, h => by
    obtain ⟨d, h1, h2⟩ := h v List.mem_cons_self
    obtain ⟨ds, h3, h4⟩ := rpAll_of (vs := vs) fun w hw => h w (List.mem_cons_of_mem _ hw)
    refine ⟨d :: ds, .cons h1 h3, ?_⟩
    rw [List.length_cons, Nat.succ_mul]
    simp only [D.sizeL]
    omega
theorem er_tup (hl : live o H) (h : EvAL tr σ H n (Rz K o s)) (hn : n ≤ 1000) (hs : 1 + n * s ≤ s') : EvR (tTup tr) σ H (Rz K o s') := fun H1 e Q q =>
  h H1 e _ fun vs H2 e2 hlen hvs => ⟨sz_of (by omega), fun p hp => by
    have hl2 := hl.ex (e.trans e2)
    refine q (.ref p) _ (e2.trans (Ex.new hp)) ?_
    obtain ⟨ds, h1, h2⟩ := rpAll_of hvs
    refine ⟨.tup ds, .tup (st_of (hl2.new hp)) (h1.ex (hid_ex (Ex.new hp))), ?_⟩
    have h5 : vs.length * s ≤ n * s := Nat.mul_le_mul_right s hlen
    simp only [D.size]
    omega⟩
theorem er_lst (hl : live o H) (h : EvAL tr σ H n R) (hn : n ≤ 1000) (hs : 1 ≤ s') : EvR (tLst tr) σ H (Rz K o s') := fun H1 e Q q =>
  h H1 e _ fun vs H2 e2 hlen hvs => ⟨sz_of (by omega), fun p hp => q (.ref p) _ (e2.trans (Ex.new hp)) ⟨.oth, .lst ((hl.ex (e.trans e2)).new hp), hs⟩⟩
theorem er_dict (hl : live o H) (hs : 1 ≤ s') : EvR tDNewK σ H (Rz K o s') := fun H1 e Q q => fun p hp => q (.ref p) _ (Ex.new hp) ⟨.oth, .dct ((hl.ex e).new hp), hs⟩
theorem rz_non (h : 1 ≤ s) : Rz K o s .non H := ⟨.non, .non, h⟩
theorem rz_bl {b : Bool} (h : 1 ≤ s) : Rz K o s (.bl b) H := ⟨.bl b, .bl b, h⟩
theorem rz_int {i : Int} (h : 1 ≤ s) : Rz K o s (.int i) H := ⟨.int i, .int i, h⟩
theorem rz_str {z : Str} (h : 1 + z.length / 100 ≤ s) : Rz K o s (.str z) H := ⟨.str z, .str z, h⟩
theorem rv_pw {i j : Int} (h : 0 ≤ j ∧ j ≤ 1000000 ∧ i.natAbs < 2 ^ 64) : RV (rI CPow fun i j => .int (i ^ j.toNat)) (.int i) (.int j) H (.int (i ^ j.toNat)) := rv_I h
theorem er_mulS {a : Str} {n : Nat} (ha : Ev ta σ H (.str a)) (hb : Ev tb σ H (.int (n : Int))) (h1 : 1 < n) (h2 : n ≤ 5000) (hl : a.length = 1) (hs : 1 + n / 100 ≤ s) :
    EvR (tOp (fun x y H Q => ∃ (s : Str) (n : Nat), x = V.str s ∧ y = V.int (n : Int) ∧ 1 < n ∧ n ≤ 5000 ∧ s.length = 1 ∧ ∀ z : Str, z.length = n → Q (.str z) H) ta tb) σ H (Rz K o s) := fun H1 e Q q =>
  ha H1 e _ fun H2 e2 => hb H2 (e.trans e2) _ fun H3 e3 => ⟨a, n, rfl, rfl, h1, h2, hl, fun z hz => q (.str z) H3 (e2.trans e3) ⟨.str z, .str z, by simp only [D.size]; omega⟩⟩
/-- a call in a def that changes the heap -/
theorem c_call {sp : Sp} {dvs vs : List V} {E : XK} {ta : TA} {Q : VK} (h : EvA ta σ H vs) (k : ∀ H1, Ex H H1 → sp (vs ++ dvs) H1 Q E) : tCall sp dvs E ta σ H Q := h H (Ex.refl H) _ k
theorem s_retC {D : Ends} {sp : Sp} {dvs vs : List V} {E : XK} {ta : TA} (h : EvA ta σ H vs) (k : ∀ H1, Ex H H1 → sp (vs ++ dvs) H1 D.rt E) : tRet (tCall sp dvs E ta) D σ H := h H (Ex.refl H) _ k
theorem s_asgC {D : Ends} {sp : Sp} {dvs vs : List V} {E : XK} {ta : TA} {i : Nat} (h : EvA ta σ H vs) (k : ∀ H1, Ex H H1 → sp (vs ++ dvs) H1 (fun v H2 => D.nx (σ.set i (some v)) H2) E) : tAsg (tCall sp dvs E ta) (gName i) D σ H := h H (Ex.refl H) _ k
theorem q_asgC {D : Ends} {tz : TS} {sp : Sp} {dvs vs : List V} {E : XK} {ta : TA} {i : Nat} (h : EvA ta σ H vs) (k : ∀ H1, Ex H H1 → sp (vs ++ dvs) H1 (fun v H2 => tz D (σ.set i (some v)) H2) E) : tSeq (tAsg (tCall sp dvs E ta) (gName i)) tz D σ H := h H (Ex.refl H) _ k
/-- some = [..], some = some + [..] -/
theorem q_asgLR {D : Ends} {tz : TS} {i : Nat} (hm : Mono R) (h : EvAR tr σ H n R) (hn : n ≤ 1000) (k : ∀ p xs H1, H p = none → Ex H H1 → H1 p = some (.lst xs) → xs.length = n → (∀ v ∈ xs, R v H1) → tz D (σ.set i (some (.ref p))) H1) :
    tSeq (tAsg (tLst tr) (gName i)) tz D σ H :=
  h H (Ex.refl H) _ fun vs H1 e1 hl hvs => ⟨sz_of (by omega), fun p hp => k p vs _ (fresh_back e1 hp) (e1.trans (Ex.new hp)) upd_same hl fun v hv => hm _ _ _ (Ex.new hp) (hvs v hv)⟩
theorem q_asgCR {D : Ends} {tz : TS} {i : Nat} {q0 : Addr} {ys : List V} (hm : Mono R) (ha : Ev ta σ H (.ref q0)) (h0 : H q0 = some (.lst ys)) (hy : ∀ v ∈ ys, R v H) (h : EvAR tr σ H n R) (hn : n + ys.length ≤ 1000)
    (k : ∀ p xs H1, H p = none → Ex H H1 → H1 p = some (.lst xs) → xs.length = ys.length + n → (∀ v ∈ xs, R v H1) → tz D (σ.set i (some (.ref p))) H1) :
    tSeq (tAsg (tOp rCat ta (tLst tr)) (gName i)) tz D σ H :=
  ha H (Ex.refl H) _ fun H1 e1 => h H1 e1 _ fun vs H2 e2 hl hvs => ⟨sz_of (by omega), fun p hp => by
    have hq : q0 ≠ p := ne_of_none (e2 _ _ (e1 _ _ h0)) hp
    refine ⟨q0, p, ys, vs, rfl, rfl, by rw [upd_ne hq]; exact e2 _ _ (e1 _ _ h0), upd_same, sz_of (by omega), fun p2 hp2 => ?_⟩
    have e3 : Ex H2 (upd H2 p (.lst vs)) := Ex.new hp
    have e4 : Ex (upd H2 p (.lst vs)) (upd (upd H2 p (.lst vs)) p2 (.lst (ys ++ vs))) := Ex.new hp2
    refine k p2 (ys ++ vs) _ (fresh_back ((e1.trans e2).trans e3) hp2) (((e1.trans e2).trans e3).trans e4) upd_same (by rw [List.length_append, hl]) fun v hv => ?_
    rcases List.mem_append.mp hv with hv | hv
    · exact hm _ _ _ (((e1.trans e2).trans e3).trans e4) (hy v hv)
    · exact hm _ _ _ (e3.trans e4) (hvs v hv)⟩
end
end K0

namespace K0
open PySem L2 Evl
/-! ### lists may change, nothing else -/
def ExL (G G' : Hp) : Prop := ∀ b u, G b = some u → G' b = some u ∨ ∃ xs ys, u = .lst xs ∧ G' b = some (.lst ys)
theorem ExL.of {G G' : Hp} (e : Ex G G') : ExL G G' := fun b u h => .inl (e b u h)
theorem ExL.upd {G : Hp} {p : Addr} {xs ys : List V} (h : G p = some (.lst xs)) : ExL G (L2.upd G p (.lst ys)) := fun b u hb => by
  by_cases c : b = p
  · subst c
    rw [h] at hb
    exact .inr ⟨xs, ys, (Option.some.inj hb).symm, upd_same⟩
  · exact .inl (by rw [upd_ne c]; exact hb)
theorem ExL.trans {G G' G'' : Hp} (a : ExL G G') (b : ExL G' G'') : ExL G G'' := fun c u h => by
  rcases a c u h with h1 | ⟨xs, ys, rfl, h1⟩
  · exact b c u h1
  · rcases b c _ h1 with h2 | ⟨_, zs, _, h2⟩
    · exact .inr ⟨xs, ys, rfl, h2⟩
    · exact .inr ⟨xs, zs, rfl, h2⟩
theorem ExL.sqT {K : PySem.W.Frag} {G G' : Hp} {a : Addr} {xs : List V} (e : ExL G G') (h : SqT K G a xs) : SqT K G' a xs := by
  rcases h with (h | ⟨o, h⟩) | h
  · rcases e a _ h with h1 | ⟨_, _, z, _⟩
    · exact .inl (.inl h1)
    · cases z
  · rcases e a _ h with h1 | ⟨_, _, z, _⟩
    · exact .inl (.inr ⟨o, h1⟩)
    · cases z
  · exact .inr h
section
variable {K : PySem.W.Frag} {H H' : Hp}
mutual
theorem Rp.exL {v : V} {d : D} (e : ExL H H') : Rp K H v d → Rp K H' v d
  | .non => .non
  | .bl b => .bl b
  | .int i => .int i
  | .str s => .str s
  | .tup h r => .tup (e.sqT h) (RpAll.exL e r)
  | .lst h => by
    rcases e _ _ h with h1 | ⟨_, ys, _, h1⟩
    · exact .lst h1
    · exact .lst h1
  | .dct h => by
    rcases e _ _ h with h1 | ⟨_, _, z, _⟩
    · exact .dct h1
    · cases z
theorem RpAll.exL {vs : List V} {ds : List D} (e : ExL H H') : RpAll K H vs ds → RpAll K H' vs ds
  | .nil => .nil
  | .cons h r => .cons (Rp.exL e h) (RpAll.exL e r)
end
end
theorem hid_upd {a p : Addr} {H : Hp} {u : HO} (h : p ≠ a) : hid (some a) (upd H p u) = upd (hid (some a) H) p u := by
  funext b
  unfold hid upd
  by_cases c : b = p
  · subst c
    rw [if_neg (by simpa using fun z => h z.symm), if_pos rfl, if_pos rfl]
  · rw [if_neg c, if_neg c]
/-- a comprehension over a range whose elements are drawn -/
theorem lc_draws {te : TE} {vs : List Nat} {σ : L2.St} {j : Nat} {a : Addr} {n : Nat} {H1 : Hp} {R : V → Hp → Prop} {Q : VK} (hR : ∀ v H H', ExL (hid (some a) H) (hid (some a) H') → R v H → R v H') (hd : DiceAt H1 a) (hn : n ≤ 1000)
    (hw : ∀ x, wipe ((wipe σ vs).set j (some x)) vs = wipe σ vs)
    (turn : ∀ (i : Nat) H', i < n → Bt a H1 H' → DiceAt H' a → ∀ Q : VK, (∀ x H'', Bt a H' H'' → DiceAt H'' a → R x H'' → Q x H'') → te ((wipe σ vs).set j (some (.int ((0 : Int) + (i : Int))))) H' Q)
    (k : ∀ D xs H', H1 D = none → Bt a H1 H' → DiceAt H' a → H' D = some (.lst xs) → xs.length = n → (∀ x ∈ xs, R x H') → Q (.ref D) H') :
    ∀ D, H1 D = none → ∃ W : Nat → Nat → Hp → Prop, (∃ m, W 0 m (upd H1 D (.lst []))) ∧ ∀ i m H, W i m H →
      ((Itr 0 n).stop i H ∧ Q (.ref D) H) ∨ ((Itr 0 n).go i H ∧ ∃ Nx : Hp → Prop, (∀ H', Nx H' → ∃ m', m' < m ∧ W (i + 1) m' H') ∧ ∀ x H', (Itr 0 n).yld i H x H' → gName j x (wipe σ vs) H' fun σ2 H2 => wipe σ2 vs = wipe σ vs ∧ tYes σ2 H2 fun b H3 =>
        if b = true then te σ2 H3 fun y H4 => ∃ acc, H4 D = some (.lst acc) ∧ acc.length < sizeLine ∧ Nx (upd H4 D (.lst (acc ++ [y]))) else Nx H3) := fun D hD => by
  have hne : D ≠ a := hd.ne hD
  refine lc_range (lo := 0) (n := n) (fun i H' => i ≤ n ∧ ∃ acc, H' D = some (.lst acc) ∧ acc.length = i ∧ (∀ x ∈ acc, R x H') ∧ Bt a H1 H' ∧ DiceAt H' a) ⟨Nat.zero_le _, [], upd_same, rfl, fun x h => (by cases h), Bt.of (Ex.new hD), hd.ex (Ex.new hD)⟩ (fun i H' hi p => ?_) (fun H' p => ?_)
  · obtain ⟨_, acc, p1, p2, p3, p4, p5⟩ := p
    refine ⟨hw _, turn i H' hi p4 p5 _ fun x H'' hb hd2 hx => ?_⟩
    have h2 : H'' D = some (.lst acc) := hb.at hne p1
    have eL : ExL (hid (some a) H'') (hid (some a) (upd H'' D (.lst (acc ++ [x])))) := by
      rw [hid_upd hne]
      exact ExL.upd (hid_at h2 hne)
    refine ⟨acc, h2, sz_lt (by omega), hi, acc ++ [x], upd_same, by rw [List.length_append, p2]; rfl, fun y hy => ?_, ?_, ?_⟩
    · rcases List.mem_append.mp hy with hy | hy
      · exact hR _ _ _ ((ExL.of hb).trans eL) (p3 y hy)
      · rw [List.mem_singleton.mp hy]
        exact hR _ _ _ eL hx
    · have h3 := p4.trans hb
      intro b u hbu
      have := h3 b u hbu
      rw [hid_upd hne]
      have hbD : b ≠ D := fun z => by
        subst z
        have := hid_le _ _ hbu
        rw [hD] at this
        cases this
      rw [upd_ne hbD]
      exact this
    · obtain ⟨x0, x1, x2, h⟩ := hd2
      exact ⟨x0, x1, x2, by rw [upd_ne hne.symm]; exact h⟩
  · obtain ⟨_, acc, p1, p2, p3, p4, p5⟩ := p
    exact k D acc H' hD p4 p5 p1 p2 p3
/-- tuple(xs) -/
def rTupOf (K : PySem.W.Frag) : List V → Hp → VK → Prop := fun xs H Q => ∃ p ys, xs = [.ref p] ∧ ((SqL K H p ys ∧ ∀ l, H l = none → Q (.ref l) (upd H l (.tup ys))) ∨ (SqT K H p ys ∧ Q (.ref p) H))
theorem n_next {D : Ends} {σ : L2.St} {H : Hp} (h : D.nx σ H) : tNext D σ H := h
theorem n_ret {D : Ends} {σ : L2.St} {H : Hp} {te : TE} (h : te σ H D.rt) : tRet te D σ H := h
theorem n_cb {r : List V → Hp → VK → Prop} {t : TA} {σ : L2.St} {H : Hp} {Q : VK} (h : t σ H fun vs H1 => r vs H1 Q) : tCB r t σ H Q := h
theorem n_cons {te : TE} {t : TA} {σ : L2.St} {H : Hp} {Q : List V → Hp → Prop} (h : te σ H fun v H1 => t σ H1 fun vs H2 => Q (v :: vs) H2) : tCons te t σ H Q := h
theorem n_rng1 {ta : TA} {σ : L2.St} {H : Hp} {R : It → Hp → Prop} (h : ta σ H fun vs H1 => ∃ j : Int, vs = [.int j] ∧ -(2 ^ 62) ≤ j ∧ j < 2 ^ 62 ∧ R (Itr 0 j.toNat) H1) : iRng1 ta σ H R := h
end K0

namespace K0
open PySem PySem.Spec PyProof.Rows L2 Evl
/-! ### own comparisons, own len, own str -/
/-- what may stand on the right of an own == -/
def RightV (K : PySem.W.Frag) (C : Addr) (H : Hp) (y : V) : Prop :=
  y = .non ∨ (∃ b dy gs, y = .ref b ∧ H b = some (.ins C dy gs)) ∨ ∃ b xs, y = .ref b ∧ SqT K H b xs
section
variable {X : Cx} {CX : CXT} {k : Nat} {C g : Addr} {fd : FuncData} {ps : List Str} {sp : Sp} {E : XK}
/-- a def runs somewhere below the body -/
theorem call_below {A : Around} {pins : List (Addr × Obj)} {σ : L2.St} {H : Hp} {s : Shared} {Q : VK} {us : List Value} {vs : List V}
    (ro : Room k A) (fr : A.frames = X.A.frames) (F : FnOk X.prog X.w X.K X.mg X.base CX k g fd ps sp) (hb : Binds X.K fd ps []) (hx : Passes CX X E)
    (I : Inv X pins σ H s) (r : Vals vs us) (h : sp vs H Q E) : wpAny (model X.prog X.w) A (call (.ref g) us) (EP X pins σ Q) X.xe s := by
  have le : us.length = ps.length := r.length.symm.trans (F.len _ _ _ _ h)
  have e0 : Env0 X.prog X.w X.K X.mg X.base A X.stack s H :=
    let e := I.env0
    ⟨fr ▸ e.frames, e.mod, e.bs, e.bsz, e.funs, e.frf, e.hok, e.bare⟩
  have bb : BindsTo s fd ⟨us, []⟩ (ps.zip us) := by
    have z := hb s us I.kIn (by rw [List.append_nil]; exact le)
    rwa [List.append_nil] at z
  refine wpAny_call (codeAny_mono (F.run A X.stack s H ⟨us, []⟩ us vs Q E ro e0 bb r h) fun o t ho => ?_)
  rcases o with er | fl
  · exact hx pins σ H s er t I ho
  · cases fl with
    | ret u =>
      exact I.after ho
    | next => exact ho.elim
    | brk => exact ho.elim
    | cont => exact ho.elim
theorem right_ty {pins : List (Addr × Obj)} {σ : L2.St} {H : Hp} {s : Shared} {y : V} {u : Value} {M : Model} (I : Inv X pins σ H s) (ry : RelV y u) (h : RightV X.K C H y)
    (n1 : PySem.W.notFirst X.K C (.type "NoneType") = true) (n2 : PySem.W.notFirst X.K C (.type "tuple") = true) : ∃ tb, PySem.W.Looks M s.heap (typeOf u) tb ∧ PySem.W.notFirst X.K C tb = true := by
  rcases h with rfl | ⟨b, dy, gs, rfl, hb⟩ | ⟨b, xs, rfl, hb⟩
  · cases (show u = Value.none from ry)
    exact ⟨.type "NoneType", PySem.W.Looks.of_pure rfl, n1⟩
  · cases (show u = Value.ref b from ry)
    obtain ⟨mB, J, _⟩ := ins_get I.hok hb
    obtain ⟨od, J, _⟩ := J.look
    exact ⟨.ref C, J.type, by simp [PySem.W.notFirst]⟩
  · cases (show u = Value.ref b from ry)
    obtain ⟨its, _, ⟨o, ho, hc, _⟩, _⟩ := I.tuple hb
    refine ⟨.type "tuple", ?_, n2⟩
    have z : PySem.W.Looks M s.heap (typeOf (.ref b)) o.cls := (PySem.W.Looks.ld ho).andThen .now
    rwa [hc] at z
def rEqO (K : PySem.W.Frag) (C : Addr) (sp : Sp) (E : XK) : R2 := fun x y H Q => ∃ a dx fs, x = .ref a ∧ H a = some (.ins C dx fs) ∧ RightV K C H y ∧ sp [x, y] H (fun v H' => ∃ b, v = .bl b ∧ Q (.bl b) H') E
def rNeO (K : PySem.W.Frag) (C : Addr) (sp : Sp) (E : XK) : R2 := fun x y H Q => ∃ a dx fs, x = .ref a ∧ H a = some (.ins C dx fs) ∧ RightV K C H y ∧ sp [x, y] H (fun v H' => ∃ b, v = .bl b ∧ Q (.bl (!b)) H') E
theorem op_eqO (F : FnOk X.prog X.w X.K X.mg X.base CX k g fd ps sp) (hr : Room k X.A) (hb : Binds X.K fd ps []) (hx : Passes CX X E) (hs : PySem.W.findIn X.K (.ref C) "__eq__" = some (some (.ref g)))
    (hf : PySem.W.isFn X.K (.ref g) = true) (n1 : PySem.W.notFirst X.K C (.type "NoneType") = true) (n2 : PySem.W.notFirst X.K C (.type "tuple") = true) : OpR X (compareOp .Eq) (rEqO X.K C sp E) := by
  intro pins s σ H x y v u Q I rx ry h
  obtain ⟨a, dx, fs, rfl, ha, hy, hsp⟩ := h
  cases (show v = Value.ref a from rx)
  obtain ⟨tb, lt, nf⟩ := right_ty (M := model X.prog X.w) I ry hy n1 n2
  obtain ⟨mA, J, _⟩ := ins_get I.hok ha
  obtain ⟨od, J, _⟩ := J.look
  obtain ⟨m, hF⟩ := I.fr
  show wpAny (model X.prog X.w) X.A (richCompare .Eq (.ref a) u) _ _ _
  refine PySem.W.cmp_K (op := .Eq) hr.units0 hF I.ok.mod.kin J lt nf hs hf ?_
  refine wpAny_mono (call_below hr rfl F hb hx I (.cons rx (.cons ry .nil)) hsp) (fun r t z => ?_) fun _ _ q => q
  obtain ⟨w, H', I', rw', b, rfl, q⟩ := z
  cases (show r = Value.bool b from rw')
  exact ⟨.bl b, H', I', rfl, q⟩
/-- a special name that the class has from object -/
theorem special_blt {M : Model} {A : Around} {Ex : Value → Shared → Prop} {s : Shared} {K : PySem.W.Frag} {x C : Addr} {ox : Obj} {od : Option Obj} {name : Str} {id : String} {rest : List Value} {Q : Option Value → Shared → Prop}
    (kin : K.In s.heap) (J : PySem.W.InstAt s.heap x ox C od) (fi : PySem.W.findIn K (.ref C) name = some (some (.builtin id)))
    (bi : ∀ z, bindSpecial (.builtin id) z = pure (.builtin id, [z]))
    (h : wpAny M A (call (.builtin id) (.ref x :: rest)) (fun v => Q (some v)) Ex s) : wpAny M A (callSpecialIfBound? (.ref x) name rest) Q Ex s := by
  simp only [callSpecialIfBound?, bindSpecialIfBound?]
  have last : wpAny M A (call (.builtin id) ([.ref x] ++ rest) >>= fun v => pure (some v)) Q Ex s :=
    wpAny_bind (wpAny_mono h (fun _ _ z => wpAny_pure z) (fun _ _ z => z))
  refine wpAny_holding (wpAny_bind (wpAny_bind (wpAny_bind (J.type.here ((PySem.W.looks_findIn kin fi).here ?_)))))
  refine wpAny_bind (wpAny_askSetting (wpAny_ite ?_))
  split
  · refine wpAny_bind ((PySem.W.Looks.of_pure (bi (.ref x))).here (wpAny_pure ?_))
    exact last
  · refine wpAny_tryCatch (wpAny_bind ((PySem.W.Looks.of_pure (bi (.ref x))).here (wpAny_pure ?_)))
    exact last
theorem op_neO (F : FnOk X.prog X.w X.K X.mg X.base CX k g fd ps sp) (hr : Room (k + 1) X.A) (hb : Binds X.K fd ps []) (hx : Passes CX X E) (hs : PySem.W.findIn X.K (.ref C) "__eq__" = some (some (.ref g)))
    (hne : PySem.W.findIn X.K (.ref C) "__ne__" = some (some (.builtin "object.__ne__"))) (hm : PySem.W.mroIn X.K C (.type "object") = some true)
    (hf : PySem.W.isFn X.K (.ref g) = true) (n1 : PySem.W.notFirst X.K C (.type "NoneType") = true) (n2 : PySem.W.notFirst X.K C (.type "tuple") = true) : OpR X (compareOp .NotEq) (rNeO X.K C sp E) := by
  intro pins s σ H x y v u Q I rx ry h
  obtain ⟨a, dx, fs, rfl, ha, hy, hsp⟩ := h
  cases (show v = Value.ref a from rx)
  obtain ⟨tb, lt, nf⟩ := right_ty (M := model X.prog X.w) I ry hy n1 n2
  obtain ⟨mA, J, _⟩ := ins_get I.hok ha
  obtain ⟨od, J, _⟩ := J.look
  have one : wpAny (model X.prog X.w) X.A (tryCompare (.ref a) "__ne__" u) (fun o t => ∃ w, o = some w ∧ EP X pins σ Q w t) X.xe s := by
    unfold tryCompare
    refine wpAny_bind (special_blt I.kIn J hne PySem.F.cmp_object.ne.bind ?_)
    refine wpAny_call (codeAny_call_builtin PySem.F.cmp_object.ne.plain PySem.F.cmpEntry_ne (PySem.W.check_slot PySem.F.cmpKind_ne PySem.F.cmpSplit_ne (J.type.andThen (PySem.W.looks_mroIn I.kIn hm)) (PySem.F.cmpArgs_ne _ _) ?_))
    unfold Builtin.«object.__ne__»
    refine wpAny_bind (m := slotArgs "__ne__" 1 _) (wpAny_pure ?_)
    refine wpAny_bind (m := cRoomFor _ _) (wpAny_cRoomFor hr.in1.units0 ?_)
    refine wpAny_bind (m := callSpecialIfBound? (.ref a) (Str.ofString "__eq__") _) (PySem.W.ifBound_K I.kIn J hs hf (wpAny_mono (call_below hr.in1 rfl F hb hx I (.cons rx (.cons ry .nil)) hsp) (fun r t z => ?_) fun _ _ q => q))
    obtain ⟨w, H', I', rw', b, rfl, q⟩ := z
    cases (show r = Value.bool b from rw')
    refine wpAny_bind (m := truthy (.bool _)) (wpAny_truthy_bool ?_)
    have z : EP X pins σ Q (.bool (!b)) t := ⟨.bl (!b), H', I', rfl, q⟩
    first
      | exact wpAny_pure (wpAny_pure ⟨_, rfl, z⟩)
      | exact wpAny_pure ⟨_, rfl, z⟩
  show wpAny (model X.prog X.w) X.A (richCompare .NotEq (.ref a) u) _ _ _
  unfold richCompare
  simp only [oneThing_ref]
  refine wpAny_holding (wpAny_bind (wpAny_cRoomFor hr.units0 ?_))
  rw [cmpInfo_NotEq]
  dsimp only
  refine wpAny_bind (J.type.here (wpAny_bind (lt.here ?_)))
  have fin : ∀ (rest : Option Value → Sem Value), (∀ v, rest (some v) = pure v) → wpAny (model X.prog X.w) X.A (tryCompare (.ref a) "__ne__" u >>= rest) (EP X pins σ Q) X.xe s := fun rest hrest =>
    wpAny_bind (wpAny_mono one (fun o t z => by
      obtain ⟨w, rfl, q⟩ := z
      rw [hrest]
      exact wpAny_pure q) fun _ _ q => q)
  split
  · rename_i nq
    have le : PySem.W.subIn X.K tb (.ref C) = some false := by
      rcases Bool.or_eq_true_iff.mp nf with z | z
      · rw [beq_iff_eq.mp z] at nq
        simp at nq
      · exact beq_iff_eq.mp z
    refine wpAny_bind ((PySem.W.looks_subIn I.kIn le).here ?_)
    simp only [Bool.false_eq_true, if_false]
    exact fin _ fun _ => rfl
  · refine wpAny_bind (wpAny_pure ?_)
    simp only [Bool.false_eq_true, if_false]
    exact fin _ fun _ => rfl
/-- len(o) by an own def -/
def rLenO (C : Addr) (sp : Sp) (E : XK) : List V → Hp → VK → Prop := fun xs H Q => ∃ a dx fs, xs = [.ref a] ∧ H a = some (.ins C dx fs) ∧ sp [.ref a] H (fun v H' => ∃ n : Nat, v = .int (n : Int) ∧ n < 1000000 ∧ Q v H') E
theorem cr_lenO (F : FnOk X.prog X.w X.K X.mg X.base CX k g fd ps sp) (hr : Room (k + 1) X.A) (hb : Binds X.K fd ps []) (hx : Passes CX X E) (hs : PySem.W.findIn X.K (.ref C) "__len__" = some (some (.ref g)))
    (hf : PySem.W.isFn X.K (.ref g) = true) : CallR X (.builtin "len") (rLenO C sp E) := by
  intro pins s σ H xs us Q I r h
  obtain ⟨a, dx, fs, rfl, ha, hsp⟩ := h
  obtain ⟨u, rfl, ru⟩ := vals1 r
  cases (show u = Value.ref a from ru)
  obtain ⟨mA, J, _⟩ := ins_get I.hok ha
  obtain ⟨od, J, _⟩ := J.look
  obtain ⟨m, hF⟩ := I.fr
  refine PySem.W.len_K hF I.ok.mod.kin J hs hf (wpAny_mono (call_below hr.in1 rfl F hb hx I r hsp) (fun o t z => ?_) fun _ _ q => q)
  obtain ⟨w, H', I', rw', n, rfl, hn, q⟩ := z
  obtain ⟨tk, rfl⟩ := (show ∃ tk, o = Value.int (n : Int) tk from rw')
  exact ⟨⟨by omega, by omega⟩, .int (n : Int), H', I'.tok _, ⟨_, rfl⟩, q⟩
/-- str(o) by an own def -/
def rStrO (C : Addr) (sp : Sp) (E : XK) : List V → Hp → VK → Prop := fun xs H Q => ∃ a dx fs, xs = [.ref a] ∧ H a = some (.ins C dx fs) ∧ sp [.ref a] H (fun v H' => ∃ y : Str, v = .str y ∧ Q v H') E
theorem cr_strO (F : FnOk X.prog X.w X.K X.mg X.base CX k g fd ps sp) (hr : Room (k + 2) X.A) (hb : Binds X.K fd ps []) (hx : Passes CX X E) (hs : PySem.W.findIn X.K (.ref C) "__str__" = some (some (.ref g)))
    (hf : PySem.W.isFn X.K (.ref g) = true) : CallR X (.type "str") (rStrO C sp E) := by
  intro pins s σ H xs us Q I r h
  obtain ⟨a, dx, fs, rfl, ha, hsp⟩ := h
  obtain ⟨u, rfl, ru⟩ := vals1 r
  cases (show u = Value.ref a from ru)
  obtain ⟨mA, J, _⟩ := ins_get I.hok ha
  obtain ⟨od, J, _⟩ := J.look
  refine PySem.W.kso_call hr.in1.in1.units0 I.kIn J hs hf (wpAny_mono (call_below hr.in1.in1 rfl F hb hx I r hsp) (fun o t z => ?_) fun _ _ q => q)
  obtain ⟨w, H', I', rw', y, rfl, q⟩ := z
  obtain ⟨tk, rfl⟩ := (show ∃ tk, o = Value.str y tk from rw')
  exact ⟨.str y, H', I', ⟨_, rfl⟩, q⟩
/-- the call of a local name that holds a class -/
def tMakeL (i : Nat) (C : Addr) (sp : Sp) (E : XK) (t : TA) : TE := fun σ H Q => σ[i]? = some (some (.ref C)) ∧ tMake C sp [] E t σ H Q
theorem pe_makeL {i : Nat} {x : Str} {p pos : Pos} {e : Expr} {es : List Expr} {t : TA} (M : Mk X.K C g) (F : FnOk X.prog X.w X.K X.mg X.base CX k g fd ps sp) (hr : Room (k + 1) X.A)
    (hN : X.N[i]? = some x) (hv : Vis X.env.scope x) (hb : Binds X.K fd ps []) (hx : Passes CX X E) (ha : PA X (e :: es) t)
    (d1 : (x == ("__debug__" : Str)) = false := by decide) (d2 : (x == ("__classdict__" : Str)) = false := by decide)
    (st : starEach (e :: es) X.env = (false, eval e X.env) :: starEach es X.env := by rfl) (pl : (backTo pos (starEach es X.env)).any (·.1) = false := by rfl) :
    PE X (.Call (.Name x p) (e :: es) [] pos) (tMakeL i C sp E t) := by
  constructor
  intro pins s σ H Q I h
  refine wpAny_Call_Name_kw (thn ((pe_var (pos := p) hN hv d1 d2).run pins s σ H (fun v H1 => v = .ref C ∧ H1 = H) I ⟨.ref C, h.1, rfl, rfl⟩) fun u t1 z => ?_)
  obtain ⟨v, H1, I1, r1, rfl, rfl⟩ := z
  cases r1
  refine PySem.W.callWith_K (h₀ := X.base) I.ok.mod.kin M.kp (thn (ha.run pos pins t1 σ _ _ I1 h.2) fun us t2 z => ?_) st pl
  obtain ⟨vs, H2, I2, r, q⟩ := z
  exact ⟨I2.kIn, run_make M F hr hb .nil hx I2 r q⟩
end
end K0

namespace K0
open PySem PySem.Spec PyProof.Rows L2
/-! ### try with several clauses, of which some name the exception -/
/-- a clause: its class, the slot of its name, what its suite reads as -/
structure Clause where
  cls : Value
  at_ : Option Nat
  ts : Addr → Value → Option Addr → TS
def endsC (o : Option Nat) (D : Ends) : Ends := match o with
  | none => D
  | some i => { nx := fun u G => D.nx (u.set i none) G, rt := D.rt, bk := fun u G => D.bk (u.set i none) G, ct := fun u G => D.ct (u.set i none) G }
def slotC (o : Option Nat) (σ : L2.St) (a : Addr) : L2.St := match o with
  | none => σ
  | some i => σ.set i (some (.ref a))
def wClauses (K : PySem.W.Frag) (n : Nat) (Wz : WX) (D : Ends) : List Clause → WX
  | [] => Wz
  | q :: r => fun cls d σ H => ∃ b, PySem.W.exmOne K cls q.cls = some b ∧ (b = true → ∀ a, H a = none → σ.length = n → q.ts a cls d (endsC q.at_ D) (slotC q.at_ σ a) H) ∧ (b = false → wClauses K n Wz D r cls d σ H)
def SuiteOk (X : Cx) (sts : List Stmt) (ts : Addr → Value → Option Addr → TS) : Prop :=
  ∀ (a : Addr) (oe : Obj) (cls : Value) (d : Option Addr) (pn : List (Addr × Obj)), Zc cls d oe → (∃ vs, oe.data = .fields vs) → PSs (X.suite a ((a, oe) :: pn)) sts (ts a cls d)
inductive ClausesOk (X : Cx) : List ExceptHandler → List Clause → Prop
  | nil : ClausesOk X [] []
  | bare {x : Str} {c : Value} {ts : Addr → Value → Option Addr → TS} {s0 : Stmt} {sts : List Stmt} {p1 p2 : Pos} {es : List ExceptHandler} {l : List Clause} (hc : Names X x c) (hs : SuiteOk X (s0 :: sts) ts) (r : ClausesOk X es l) :
      ClausesOk X (.ExceptHandler (some (.Name x p1)) none (s0 :: sts) p2 :: es) (⟨c, none, ts⟩ :: l)
  | named {x n : Str} {c : Value} {i : Nat} {ts : Addr → Value → Option Addr → TS} {s0 : Stmt} {sts : List Stmt} {p1 p2 : Pos} {es : List ExceptHandler} {l : List Clause} (hc : Names X x c) (hN : X.N.Nodup) (hi : X.N[i]? = some n) (hl : X.env.kindOf n = some .local) (hs : SuiteOk X (s0 :: sts) ts) (r : ClausesOk X es l) :
      ClausesOk X (.ExceptHandler (some (.Name x p1)) (some n) (s0 :: sts) p2 :: es) (⟨c, some i, ts⟩ :: l)
section
variable {X : Cx} {body : List Stmt} {e0 : ExceptHandler} {es : List ExceptHandler} {l : List Clause} {pos : Pos} {tb : WX → TS} {Wz : WX}
theorem ps_clauses (st : X.stack = X.env :: X.outer) (fr : X.env.frame = some X.env.locals) (tk : Takes X Wz)
    (hb : ∀ (W : WX) (pn : List (Addr × Obj)) (xe : Value → Shared → Prop), Takes (X.tr pn xe) W → PassesOwn (model X.prog X.w) X.A X.env xe → PSs (X.tr pn xe) body (tb W))
    (hk : ClausesOk X (e0 :: es) l) : PS X (.Try body (e0 :: es) [] [] pos) (fun D σ H => tb (wClauses X.K X.N.length Wz D l) D σ H) := by
  refine ⟨fun pins s σ H D I h => ?_⟩
  have okX := I.ok
  have frs_ : X.A.frames = some (X.env :: X.outer) := by rw [okX.frames, st]
  refine wpAny_Try_except ?_
  have run_ := (hb (wClauses X.K X.N.length Wz D l) (X.pn ++ pins) (fun e t1 => wpAny (model X.prog X.w) X.A (noteFrame e X.env) (fun _ t2 => wpAny (model X.prog X.w) X.A (setFlight e none) (fun _ t3 => wpAny (model X.prog X.w) X.A (handleBy e X.env (e0 :: es)) (SP X pins D) X.xe t3) X.xe t2) X.xe t1)
    (fun u t xx => ?_) PassesOwn.looking).run [] s σ H D (I.toTry _) h
  · refine wpAny_mono run_ (fun f t z => ?_) (fun e t z => z)
    cases f with
    | next => exact let ⟨u, G, J, q⟩ := z; wpAny_execs_nil ⟨u, G, J.ofTry okX, q⟩
    | brk => exact let ⟨u, G, J, q⟩ := z; ⟨u, G, J.ofTry okX, q⟩
    | cont => exact let ⟨u, G, J, q⟩ := z; ⟨u, G, J.ofTry okX, q⟩
    | ret v => exact let ⟨y, u, G, J, r, q⟩ := z; ⟨y, u, G, J.ofTry okX, r, q⟩
  · obtain ⟨a, B, sI, pz, u1, G, cls, d, rfl, Jt, nb, up, sky, na, os, ag, w⟩ := xx
    have J : Inv X pins u1 G sI := Jt.ofTry okX
    rw [show (X.tr (X.pn ++ pins) _).stack = X.env :: X.outer from st] at sky
    show wpAny (model X.prog X.w) X.A (noteFrame (.ref a) X.env) _ _ _
    refine Sky.land Zc.steady frs_ fr sky fun h3 fl3 up3 => ?_
    have J3 : Inv X pins u1 G { t with heap := h3 } := J.landed nb fl3.1 (up.trans up3) os ag
    obtain ⟨o3, w3, at3, z3, f3⟩ := fl3.there
    have off : a ∉ frs (X.env :: X.outer) := fun hm => by
      obtain ⟨_, o', at', hnf⟩ := fl3.2.2.1.mem hm
      rw [at3] at at'
      cases at'
      exact hnf _ f3
    have offL : a ≠ X.env.locals := fun z => off (List.mem_filterMap.mpr ⟨X.env, List.mem_cons_self, by rw [fr, z]⟩)
    have offF : a ∉ X.fs := fun hm => by
      obtain ⟨e, he, q⟩ := List.mem_filterMap.mp hm
      exact off (List.mem_filterMap.mpr ⟨e, List.mem_cons_of_mem _ he, q⟩)
    have S3 := J3.suite at3 f3 na offL offF
    have name_ : ∀ {x : Str} {c : Value} {p1 : Pos} {Q E : Value → Shared → Prop}, Names X x c → Q c { t with heap := h3 } → wpAny (model X.prog X.w) (X.A.mark (some (.ref a))) (eval (.Name x p1) X.env) (fun v s => Q v s) E { t with heap := h3 } := fun {x c p1 Q E} hc q => by
      rcases hc with ⟨g, dbg, m | ⟨m, bb, nn⟩⟩
      · exact ld_glob (X := X.suite a ((a, o3) :: (X.pn ++ pins))) S3 g m q dbg
      · exact ld_blt (X := X.suite a ((a, o3) :: (X.pn ++ pins))) S3 g m bb q nn dbg
    have looks_ : PySem.W.Looks (model X.prog X.w) h3 (typeOf (.ref a)) cls := fun A Q E s k q => wpAny_typeOf_ref (k _ _ at3) (by rw [z3.1]; exact q)
    have go : ∀ {hs : List ExceptHandler} {l : List Clause}, ClausesOk X hs l → wClauses X.K X.N.length Wz D l cls d u1 G → wpAny (model X.prog X.w) X.A (handleBy (.ref a) X.env hs) (SP X pins D) X.xe { t with heap := h3 } := by
      intro hs l ck
      induction ck with
      | nil =>
        intro w
        refine wpAny_handleBy_nil ?_
        obtain ⟨_, _, _, oe, vs, T, oT, ts', he, hz, hd, h1, hr⟩ := id fl3
        unfold PySem.passOn
        refine wpAny_bind (wpAny_field he hd h1 ?_)
        rw [if_neg (show ¬ ((Value.ref T == Value.none) = true) by simp)]
        have out_ : wpAny (model X.prog X.w) X.A (setFlight (.ref a) X.env.frame) (fun _ t4 => wpAny (model X.prog X.w) X.A (throw (.ref a) : Sem Flow) (SP X pins D) X.xe t4) X.xe { t with heap := h3 } := by
          rw [fr]
          exact HandSPX.setFlight_upZ fl3 fun h4 hh4 up4 => wpAny_throw (tk _ _ ⟨a, B, sI, pins, u1, G, cls, d, rfl, J, nb, (up.trans up3).trans up4, .inr (.inr (by rw [st]; exact hh4)), na, os, ag, w⟩)
        first
          | exact wpAny_bind (wpAny_pure (wpAny_bind out_))
          | exact wpAny_bind out_
      | bare hc hsu r ih =>
        intro w
        obtain ⟨b, eb, yes, no⟩ := w
        refine wpAny_handleBy_cons (codeAny_handlers_test ?_) (fun q => by cases q)
        refine name_ hc ((PySem.W.exm_one (M := model X.prog X.w) J3.kIn looks_ eb).here ?_)
        cases b with
        | false =>
          show wpAny _ X.A (handleBy (.ref a) X.env _) _ _ _
          exact ih (no rfl)
        | true =>
          refine codeAny_handlers_suite (HandSPX.lands_againZ fl3 fun h4 fl4 up4 => ?_)
          have J4 : Inv X pins u1 G { t with heap := h4 } := J.landed nb fl4.1 ((up.trans up3).trans up4) os ag
          obtain ⟨o4, w4, at4, z4, f4⟩ := fl4.there
          refine wpAny_mono ((hsu a o4 cls d (X.pn ++ pins) z4 ⟨_, f4⟩).run [] _ _ G _ (J4.suite at4 f4 na offL offF) (yes rfl a na J.len)) (fun f s6 hq => ?_) (fun _ _ z => z.elim)
          cases f with
          | next => exact let ⟨u, G6, S, q⟩ := hq; ⟨u, G6, S.unsuite okX, q⟩
          | brk => exact let ⟨u, G6, S, q⟩ := hq; ⟨u, G6, S.unsuite okX, q⟩
          | cont => exact let ⟨u, G6, S, q⟩ := hq; ⟨u, G6, S.unsuite okX, q⟩
          | ret v => exact let ⟨y, u, G6, S, r, q⟩ := hq; ⟨y, u, G6, S.unsuite okX, r, q⟩
      | @named x n c i ts s0 sts p1 p2 es l hc hN hi hl hsu r ih =>
        intro w
        obtain ⟨b, eb, yes, no⟩ := w
        refine wpAny_handleBy_cons (codeAny_handlers_test ?_) (fun q => by cases q)
        refine name_ hc ((PySem.W.exm_one (M := model X.prog X.w) J3.kIn looks_ eb).here ?_)
        cases b with
        | false =>
          show wpAny _ X.A (handleBy (.ref a) X.env _) _ _ _
          exact ih (no rfl)
        | true =>
          refine codeAny_handlers_suite_as (HandSPX.lands_againZ fl3 fun h4 fl4 up4 => ?_)
          have J4 : Inv X pins u1 G { t with heap := h4 } := J.landed nb fl4.1 ((up.trans up3).trans up4) os ag
          obtain ⟨o4, w4, at4, z4, f4⟩ := fl4.there
          refine store_ok (X := X.suite a ((a, o4) :: (X.pn ++ pins))) (v := .ref a) (J4.suite at4 f4 na offL offF) hN hi (show Loc X.env.scope n from .inl hl) rfl (fun s5 S5 => ?_) (.inr hl)
          refine wpAny_mono ((hsu a o4 cls d (X.pn ++ pins) z4 ⟨_, f4⟩).run [] s5 _ G _ S5 (yes rfl a na J.len)) (fun f s6 hq => ?_) (fun _ _ z => z.elim)
          have gone : ∀ {u : L2.St} {G6 : Hp} {Q : Shared → Prop}, Inv (X.suite a ((a, o4) :: (X.pn ++ pins))) [] u G6 s6 → (∀ s7, Inv X pins (u.set i none) G6 s7 → Q s7) → wpAny (model X.prog X.w) X.A (do bindName X.env n .none; unbindBehindTheSuite X.env n p2) (fun _ s7 => Q s7) X.xe s6 :=
            fun S hq => gone_ok (S.unsuite okX) hN hi hl hq
          cases f with
          | next => exact let ⟨u, G6, S, q⟩ := hq; gone S fun s7 J7 => ⟨_, _, J7, q⟩
          | brk => exact let ⟨u, G6, S, q⟩ := hq; gone S fun s7 J7 => ⟨_, _, J7, q⟩
          | cont => exact let ⟨u, G6, S, q⟩ := hq; gone S fun s7 J7 => ⟨_, _, J7, q⟩
          | ret v => exact let ⟨y, u, G6, S, r, q⟩ := hq; gone S fun s7 J7 => ⟨_, _, _, J7, r, q⟩
    exact go hk w
end
end K0

namespace K0
open PySem L2 Evl
/-! ### data: what can be compared -/
mutual
def D.clean : D → Bool
  | .oth => false
  | .tup ds => D.cleanL ds
  | _ => true
def D.cleanL : List D → Bool
  | [] => true
  | d :: ds => d.clean && D.cleanL ds
end
mutual
def D.py : D → PyData
  | .non => .none
  | .bl b => .bool b
  | .int i => .int i
  | .str s => .str s
  | .tup ds => .tuple (D.pyL ds)
  | .oth => .none
def D.pyL : List D → List PyData
  | [] => []
  | d :: ds => d.py :: D.pyL ds
end
theorem pyL_map : ∀ ds : List D, D.pyL ds = ds.map D.py
  | [] => rfl
  | d :: ds => by
    show d.py :: D.pyL ds = _
    rw [pyL_map ds]
    rfl
theorem cleanL_all : ∀ ds : List D, D.cleanL ds = ds.all D.clean
  | [] => rfl
  | d :: ds => by
    show (d.clean && D.cleanL ds) = _
    rw [cleanL_all ds]
    rfl
section
variable {K : PySem.W.Frag} {H : Hp}
mutual
theorem Rp.dp {v : V} {d : D} (c : d.clean = true) : Rp K H v d → Dp K H v d.py
  | .non => .non
  | .bl b => .bl b
  | .int i => .int i
  | .str s => .str s
  | .tup h r => .tup h (RpAll.dp c r)
  | .lst h => by cases c
  | .dct h => by cases c
theorem RpAll.dp {vs : List V} {ds : List D} (c : D.cleanL ds = true) : RpAll K H vs ds → DpAll K H vs (D.pyL ds)
  | .nil => .nil
  | .cons h r => by
    have c' := Bool.and_eq_true_iff.mp c
    exact .cons (Rp.dp c'.1 h) (RpAll.dp c'.2 r)
end
end
mutual
theorem eqv_self : ∀ d : D, d.clean = true → PyData.eqv d.py d.py = true
  | .non, _ => rfl
  | .bl b, _ => by simp [D.py, PyData.eqv]
  | .int i, _ => by simp [D.py, PyData.eqv]
  | .str s, _ => by simp [D.py, PyData.eqv]
  | .tup ds, c => by
    simp only [D.py, PyData.eqv]
    exact eqvAll_self ds c
  | .oth, c => by cases c
theorem eqvAll_self : ∀ ds : List D, D.cleanL ds = true → PyData.eqvAll (D.pyL ds) (D.pyL ds) = true
  | [], _ => rfl
  | d :: ds, c => by
    have c' := Bool.and_eq_true_iff.mp c
    simp only [D.pyL, PyData.eqvAll]
    rw [eqv_self d c'.1, eqvAll_self ds c'.2]
    rfl
end
/-- clean, of texts that can lie there, not deep -/
def D.fine (n : Nat) (d : D) : Bool := d.clean && d.py.canLay0 && decide (d.py.depth ≤ n)
theorem fine_c {n : Nat} {d : D} (h : d.fine n = true) : d.clean = true := (Bool.and_eq_true_iff.mp (Bool.and_eq_true_iff.mp h).1).1
theorem fine_l {n : Nat} {d : D} (h : d.fine n = true) : d.py.canLay0 = true := (Bool.and_eq_true_iff.mp (Bool.and_eq_true_iff.mp h).1).2
theorem fine_d {n : Nat} {d : D} (h : d.fine n = true) : d.py.depth ≤ n := of_decide_eq_true (Bool.and_eq_true_iff.mp h).2
theorem fine_all {n : Nat} : ∀ ds : List D, (∀ d ∈ ds, d.fine n = true) → D.cleanL ds = true ∧ PyData.canLayAll0 (D.pyL ds) = true ∧ PyData.depthAll (D.pyL ds) ≤ n
  | [], _ => ⟨rfl, rfl, Nat.zero_le _⟩
  | d :: ds, h => by
    have h1 := h d (List.mem_cons_self ..)
    obtain ⟨a, b, c⟩ := fine_all ds fun e he => h e (List.mem_cons_of_mem _ he)
    refine ⟨Bool.and_eq_true_iff.mpr ⟨fine_c h1, a⟩, ?_, ?_⟩
    · simp only [D.pyL, PyData.canLayAll0]
      rw [fine_l h1, b]
      rfl
    · simp only [D.pyL, PyData.depthAll]
      exact Nat.max_le.mpr ⟨fine_d h1, c⟩
theorem fine_tup {n : Nat} {ds : List D} (h : ∀ d ∈ ds, d.fine n = true) : (D.tup ds).fine (n + 1) = true := by
  obtain ⟨a, b, c⟩ := fine_all ds h
  refine Bool.and_eq_true_iff.mpr ⟨Bool.and_eq_true_iff.mpr ⟨a, ?_⟩, decide_eq_true ?_⟩
  · simp only [D.py, PyData.canLay0]
    exact b
  · simp only [D.py, PyData.depth]
    omega
theorem fine_le {n m : Nat} {d : D} (h : d.fine n = true) (l : n ≤ m) : d.fine m = true :=
  Bool.and_eq_true_iff.mpr ⟨Bool.and_eq_true_iff.mpr ⟨fine_c h, fine_l h⟩, decide_eq_true (Nat.le_trans (fine_d h) l)⟩
theorem shaped_of {n : Nat} {d : D} (h : d.fine n = true) (l : n ≤ 64) : SeqAt.shaped d.py = true :=
  Bool.and_eq_true_iff.mpr ⟨fine_l h, decide_eq_true (Nat.le_trans (fine_d h) l)⟩
theorem shapedL_of {n : Nat} {ds : List D} (h : ∀ d ∈ ds, d.fine n = true) (l : n + 1 ≤ 64) : SeqAt.shaped (.list (D.pyL ds)) = true := by
  obtain ⟨a, b, c⟩ := fine_all ds h
  refine Bool.and_eq_true_iff.mpr ⟨?_, decide_eq_true ?_⟩
  · simp only [PyData.canLay0]
    exact b
  · simp only [PyData.depth]
    omega
theorem Rp.tupI {K : PySem.W.Frag} {H : Hp} {v : V} {ds : List D} (h : Rp K H v (.tup ds)) : ∃ a xs, v = .ref a ∧ SqT K H a xs ∧ RpAll K H xs ds := by
  cases h with
  | tup h r => exact ⟨_, _, rfl, h, r⟩
theorem RpAll.setI {K : PySem.W.Frag} {H : Hp} : ∀ {vs : List V} {ds : List D} (i : Nat) {v : V} {d : D}, RpAll K H vs ds → Rp K H v d → RpAll K H (vs.set i v) (ds.set i d)
  | _, _, i, _, _, .nil, _ => by cases i <;> exact .nil
  | _, _, 0, _, _, .cons h r, g => .cons g r
  | _, _, i + 1, _, _, .cons h r, g => .cons h (RpAll.setI i r g)
/-! ### readings -/
section
variable {K : PySem.W.Frag} {σ : L2.St} {H H' : Hp} {ta tb te tv : TE} {x y z v : V} {C a dx : Addr} {fs : List (Str × V)} {f : Str} {D : Ends} {tz : TS}
theorem ev_fld (h : Ev ta σ H (.ref a)) (ha : H a = some (.ins C dx fs)) (c : Cls K C) (n : NoAttr K C f) (l : fs.lookup f = some v) : Ev (tFld K ta f) σ H v := fun H1 e Q q =>
  h H1 e _ fun H2 e2 => ⟨a, C, dx, fs, v, rfl, (e.trans e2) _ _ ha, c, n, l, q H2 e2⟩
theorem q_fld (hv : Ev tv σ H v) (ho : Ev ta σ H (.ref a)) (ha : H a = some (.ins C dx fs)) (c : Cls K C) (n : NoAttr K C f) (hl : fs.length < 1000) (k : ∀ H1, Ex H H1 → tz D σ (upd H1 a (.ins C dx (putF f v fs)))) :
    tSeq (sFld K ta tv f) tz D σ H := hv H (Ex.refl H) _ fun H1 e1 => ho H1 e1 _ fun H2 e2 => ⟨a, C, dx, fs, rfl, (e1.trans e2) _ _ ha, c, n, hl, k H2 (e1.trans e2)⟩
theorem s_fldU {xs : List V} (hv : EvU tv σ H xs) (ho : Ev ta σ H (.ref a)) (ha : H a = some (.ins C dx fs)) (c : Cls K C) (n : NoAttr K C f) (hl : fs.length < 1000)
    (k : ∀ p H1, H p = none → Ex H H1 → H1 p = some (.tup xs) → D.nx σ (upd H1 a (.ins C dx (putF f (.ref p) fs)))) :
    sFld K ta tv f D σ H := hv H (Ex.refl H) _ fun p H1 hp e1 h1 => ho H1 e1 _ fun H2 e2 => ⟨a, C, dx, fs, rfl, (e1.trans e2) _ _ ha, c, n, hl, k p H2 hp (e1.trans e2) (e2 _ _ h1)⟩
theorem q_asgMk {sp : Sp} {E : XK} {i : Nat} {xs : List V} (h : EvU te σ H xs)
    (k : ∀ p H1, H p = none → Ex H H1 → H1 p = some (.tup xs) → ∀ x dx, H1 x = none → H1 dx = none → dx ≠ x → sp [.ref x, .ref p] (upd (upd H1 dx (.own x)) x (.ins C dx [])) (fun v H2 => v = .non ∧ tz D (σ.set i (some (.ref x))) H2) E) :
    tSeq (tAsg (tMake C sp [] E (tCons te tNil)) (gName i)) tz D σ H := h H (Ex.refl H) _ fun p H1 hp e h1 => k p H1 hp e h1
theorem eu_tupOf {p : Addr} {xs : List V} (h : Ev ta σ H (.ref p)) (hx : SqL K H p xs) : EvU (tCB (rTupOf K) (tCons ta tNil)) σ H xs := fun H1 e Q q =>
  h H1 e _ fun H2 e2 => ⟨p, xs, rfl, .inl ⟨ex_l (e.trans e2) hx, fun l hl => q l _ (fresh_back e2 hl) (e2.trans (Ex.new hl)) upd_same⟩⟩
theorem el_listT {p : Addr} {xs : List V} (h : Ev ta σ H (.ref p)) (hx : SqT K H p xs) : EvL (tCB (rListS K) (tCons ta tNil)) σ H xs := fun H1 e Q q =>
  h H1 e _ fun H2 e2 => ⟨p, xs, rfl, .inr (ex_t (e.trans e2) hx), fun l hl => q l _ (fresh_back e2 hl) (e2.trans (Ex.new hl)) upd_same⟩
theorem rc_kitI {P : V → Prop} {n : String} {b : Bool} {dy : Addr} {gs : List (Str × V)} {p : Addr} (o : ObjC K C) (cl : Cls K C) (hp : H p = some (.ins C dy gs)) : RC (rIsi K) [.ref p, .ref C] H (.bl true) := fun H1 e Q q =>
  ⟨_, _, _, _, _, rfl, .own C, .base (.ins (e _ _ hp) cl o.ca o.cg o.ct o.co), by unfold PySem.W.kitOne; rw [if_pos (by simp)], q H1 (Ex.refl _)⟩
end
/-- the promise of a value, by what it is -/
def RetR (K : PySem.W.Frag) (d : D) (H : Hp) (Q : VK) : Prop := ∀ v H', Ex H H' → Rp K H' v d → Q v H'
/-! ### what evaluates to data -/
section
variable {K : PySem.W.Frag} {σ : L2.St} {H H' : Hp} {ta tb te : TE} {tr : TA} {x y z v : V} {d e : D} {ds es : List D}
def EvD (K : PySem.W.Frag) (te : TE) (σ : L2.St) (H : Hp) (d : D) : Prop := ∀ H1, Ex H H1 → ∀ Q : VK, (∀ v H2, Ex H1 H2 → Rp K H2 v d → Q v H2) → te σ H1 Q
def EvDA (K : PySem.W.Frag) (ta : TA) (σ : L2.St) (H : Hp) (ds : List D) : Prop := ∀ H1, Ex H H1 → ∀ Q : List V → Hp → Prop, (∀ vs H2, Ex H1 H2 → RpAll K H2 vs ds → Q vs H2) → ta σ H1 Q
theorem EvD.mono (a : Ex H H') (h : EvD K te σ H d) : EvD K te σ H' d := fun H1 e Q q => h H1 (a.trans e) Q q
theorem ed_ev (h : Ev te σ H v) (r : Rp K H v d) : EvD K te σ H d := fun H1 a Q q => h H1 a Q fun H2 b => q v H2 b (r.ex (a.trans b))
theorem ed_int {i : Int} : EvD K (tC (.int i)) σ H (.int i) := ed_ev ev_c (.int i)
theorem ed_non : EvD K (tC .non) σ H .non := ed_ev ev_c .non
theorem ed_str {s : Str} : EvD K (tC (.str s)) σ H (.str s) := ed_ev ev_c (.str s)
theorem eda_nil : EvDA K tNil σ H [] := fun H1 _ Q q => q [] H1 (Ex.refl _) .nil
theorem eda_cons (h : EvD K te σ H d) (r : EvDA K tr σ H ds) : EvDA K (tCons te tr) σ H (d :: ds) := fun H1 a Q q =>
  h H1 a _ fun v H2 b hv => r H2 (a.trans b) _ fun vs H3 c hs => q (v :: vs) H3 (b.trans c) (.cons (hv.ex c) hs)
theorem ed_tup (h : EvDA K tr σ H ds) (l : ds.length ≤ 100000) : EvD K (tTup tr) σ H (.tup ds) := fun H1 a Q q =>
  h H1 a _ fun vs H2 b hs => ⟨by rw [hs.len]; exact sz_of l, fun p hp => q (.ref p) _ (b.trans (Ex.new hp)) (.tup (st_of upd_same) (hs.ex (Ex.new hp)))⟩
theorem ed_cat (h1 : EvD K ta σ H (.tup ds)) (h2 : EvD K tb σ H (.tup es)) (l : ds.length + es.length ≤ 100000) : EvD K (tOp (rCatA K) ta tb) σ H (.tup (ds ++ es)) := fun H1 a Q q =>
  h1 H1 a _ fun v H2 b hv => h2 H2 (a.trans b) _ fun w H3 c hw => by
    obtain ⟨p, xs, rfl, sp, rp⟩ := (hv.ex c).tupI
    obtain ⟨r, ys, rfl, sr, rr⟩ := hw.tupI
    refine ⟨p, r, xs, ys, rfl, rfl, sp, sr, by rw [rp.len, rr.len]; exact sz_of l, fun h => ?_, fun _ h => ?_, fun _ _ n hn => ?_⟩
    · subst h
      cases rp
      exact q _ _ (b.trans c) (.tup sr rr)
    · subst h
      cases rr
      rw [List.append_nil] at q
      exact q _ _ (b.trans c) (.tup sp rp)
    · exact q _ _ ((b.trans c).trans (Ex.new hn)) (.tup (st_of upd_same) ((rp.app rr).ex (Ex.new hn)))
theorem ed_ix {i : Nat} (h : EvD K ta σ H (.tup ds)) (hb : ∀ H1, Ex H H1 → Ev tb σ H1 (.int (i : Int))) (hi : ds[i]? = some d) : EvD K (tOp (rIxT K) ta tb) σ H d := fun H1 a Q q =>
  h H1 a _ fun v H2 b hv => hb H2 (a.trans b) H2 (Ex.refl _) _ fun H3 c => by
    obtain ⟨p, xs, rfl, sp, rp⟩ := (hv.ex c).tupI
    have hlt : i < ds.length := by
      rcases Nat.lt_or_ge i ds.length with h | h
      · exact h
      · rw [List.getElem?_eq_none h] at hi
        cases hi
    have hxl : i < xs.length := by
      rw [rp.len]
      exact hlt
    have hx : xs[i]? = some xs[i] := List.getElem?_eq_getElem hxl
    obtain ⟨d', hd', hr'⟩ := RpAll.get _ _ _ _ rp hx
    rw [hi] at hd'
    cases hd'
    refine ⟨p, xs, (i : Int), xs[i], rfl, rfl, sp, ?_, q _ _ (b.trans c) hr'⟩
    unfold atI
    rw [ixN_nat (by rw [rp.len]; exact hlt)]
    exact hx
theorem d_call {sp : Sp} {E : XK} {Q : VK} (h : EvDA K tr σ H ds) (k : ∀ vs H1, Ex H H1 → RpAll K H1 vs ds → sp vs H1 Q E) : tCall sp [] E tr σ H Q := h H (Ex.refl H) _ fun vs H1 a r => by
  show sp (vs ++ []) H1 Q E
  rw [List.append_nil]
  exact k vs H1 a r
theorem d_ret {D : Ends} (h : EvD K te σ H d) (k : ∀ v H1, Ex H H1 → Rp K H1 v d → D.rt v H1) : tRet te D σ H := h H (Ex.refl H) _ k
/-- a method without arguments that gives data -/
theorem ed_meth0 {C a dx : Addr} {fs : List (Str × V)} {m : Str} {sp : Sp} {E : XK} (h : Ev ta σ H (.ref a)) (ha : H a = some (.ins C dx fs)) (l : fs.lookup m = none) (k : ∀ H1, Ex H H1 → ∀ Q : VK, RetR K d H1 Q → sp [.ref a] H1 Q E) :
    EvD K (tMeth C m sp [] E ta tNil) σ H d := fun H1 a1 Q q => h H1 a1 _ fun H2 b => ⟨a, dx, fs, rfl, (a1.trans b) _ _ ha, l, k H2 (a1.trans b) Q fun v H3 c hv => q v H3 (b.trans c) hv⟩
theorem ed_call {sp : Sp} {E : XK} (h : EvDA K tr σ H ds) (k : ∀ vs H1, Ex H H1 → RpAll K H1 vs ds → ∀ Q : VK, RetR K d H1 Q → sp vs H1 Q E) : EvD K (tCall sp [] E tr) σ H d := fun H1 a Q q => h H1 a _ fun vs H2 b r => by
  show sp (vs ++ []) H2 Q E
  rw [List.append_nil]
  exact k vs H2 (a.trans b) r Q fun v H3 c hv => q v H3 (b.trans c) hv
theorem rv_eqD (hx : Rp K H x d) (hy : Rp K H y e) {n : Nat} (fd : d.fine n = true) (fe : e.fine n = true) (hn : n ≤ 64) : RV (rEqD K) x y H (.bl (PyData.eqv d.py e.py)) := fun H1 a Q q =>
  ⟨d.py, e.py, (hx.ex a).dp (fine_c fd), (hy.ex a).dp (fine_c fe), shaped_of fd hn, shaped_of fe hn, q H1 (Ex.refl _)⟩
theorem rv_neD (hx : Rp K H x d) (hy : Rp K H y e) {n : Nat} (fd : d.fine n = true) (fe : e.fine n = true) (hn : n ≤ 64) : RV (rNeD K) x y H (.bl (!PyData.eqv d.py e.py)) := fun H1 a Q q =>
  ⟨d.py, e.py, (hx.ex a).dp (fine_c fd), (hy.ex a).dp (fine_c fe), shaped_of fd hn, shaped_of fe hn, q H1 (Ex.refl _)⟩
/-- compared as data -/
theorem ev_neD (h1 : EvD K ta σ H d) (h2 : EvD K tb σ H e) {n : Nat} (fd : d.fine n = true) (fe : e.fine n = true) (hn : n ≤ 64) : Ev (tOp (rNeD K) ta tb) σ H (.bl (!PyData.eqv d.py e.py)) := fun H1 a Q q =>
  h1 H1 a _ fun v H2 b hv => h2 H2 (a.trans b) _ fun w H3 c hw => rv_neD (hv.ex c) hw fd fe hn H3 (Ex.refl _) Q fun H4 g => q H4 ((b.trans c).trans g)
theorem ev_eqD (h1 : EvD K ta σ H d) (h2 : EvD K tb σ H e) {n : Nat} (fd : d.fine n = true) (fe : e.fine n = true) (hn : n ≤ 64) : Ev (tOp (rEqD K) ta tb) σ H (.bl (PyData.eqv d.py e.py)) := fun H1 a Q q =>
  h1 H1 a _ fun v H2 b hv => h2 H2 (a.trans b) _ fun w H3 c hw => rv_eqD (hv.ex c) hw fd fe hn H3 (Ex.refl _) Q fun H4 g => q H4 ((b.trans c).trans g)
theorem Rp.tupR {a : Addr} (h : Rp K H (.ref a) (.tup ds)) : ∃ xs, SqT K H a xs ∧ RpAll K H xs ds := by
  cases h with
  | tup h r => exact ⟨_, h, r⟩
/-! ### f-strings -/
def EvJ (ts : List TE) (acc : Str) (σ : L2.St) (H : Hp) (out : Str) : Prop := ∀ H1, Ex H H1 → ∀ Q : Str → Hp → Prop, (∀ H2, Ex H1 H2 → Q out H2) → tJs ts acc σ H1 Q
theorem ej_nil {acc : Str} : EvJ [] acc σ H acc := fun H1 _ Q q => q H1 (Ex.refl _)
theorem ej_cons {t : TE} {ts : List TE} {acc s out : Str} (h : Ev t σ H (.str s)) (l : (acc ++ s).length ≤ 100000) (r : EvJ ts (acc ++ s) σ H out) : EvJ (t :: ts) acc σ H out := fun H1 a Q q =>
  h H1 a _ fun H2 b => ⟨s, rfl, sz_of l, r H2 (a.trans b) Q fun H3 c => q H3 (b.trans c)⟩
theorem ev_js {ts : List TE} {out : Str} (h : EvJ ts Str.empty σ H out) : Ev (fun σ H Q => tJs ts Str.empty σ H fun out H1 => Q (.str out) H1) σ H (.str out) := fun H1 a Q q => h H1 a _ fun H2 b => q H2 b
theorem ev_fmt {i : Int} (h : Ev te σ H (.int i)) (l : i.natAbs.log2 < 1920) : Ev (tFmt te) σ H (.str (toString i)) := fun H1 a Q q => h H1 a _ fun H2 b => .inr ⟨i, rfl, l, q H2 b⟩
end
/-- the text of a small number -/
def tos (n : Nat) : Str := toString (n : Int)
theorem tos_len {n : Nat} (h : n ≤ 400) : (tos n).length ≤ 8 := by
  have z : ∀ i : Fin 401, (tos i.val).length ≤ 8 := by decide +kernel
  exact z ⟨n, by omega⟩
theorem log_small {n : Nat} (h : n ≤ 400) : (n : Int).natAbs.log2 < 1920 := by
  have z : ∀ i : Fin 401, (i.val : Int).natAbs.log2 < 1920 := by decide +kernel
  exact z ⟨n, by omega⟩
theorem app_len (a b : Str) : (a ++ b).length = a.length + b.length := by
  show (a.cps ++ b.cps).size = _
  rw [Array.size_append]
  rfl
theorem numB_small {n : Nat} (h : n ≤ 1000) : numB (n : Int) = true := by
  unfold numB big
  rw [decide_eq_true (by omega), decide_eq_true (by omega)]
  rfl
theorem within_ok {n : Nat} {lo hi : Int} (h : n ≤ 1000) (h1 : lo ≤ (n : Int)) (h2 : (n : Int) ≤ hi) : (D.int (n : Int)).within lo hi = true := by
  show (numB (n : Int) && (decide (lo ≤ (n : Int)) && decide ((n : Int) ≤ hi))) = true
  rw [numB_small h, decide_eq_true h1, decide_eq_true h2]
  rfl
end K0

namespace K0
open PySem L2 Evl
theorem ix_tupK {X : Cx} {K : PySem.W.Frag} (h : X.K = K) : IxR X (rIxT K) := h ▸ ix_tup
theorem pe_fldK {X : Cx} {K : PySem.W.Frag} {e : Expr} {f : Str} {pos : Pos} {ta : TE} (he : PE X e ta) (hb : attributeBase e f X.env (eval e X.env) = eval e X.env) (h : X.K = K) : PE X (.Attribute e f pos) (tFld K ta f) := h ▸ pe_fld he hb
section
variable {K : PySem.W.Frag} {A : Ad}
theorem d_raw {σ : L2.St} {H : Hp} {tr : TA} {sp : Sp} {E : XK} {Q : VK} (h : tr σ H fun vs H1 => sp vs H1 Q E) : tCall sp [] E tr σ H Q := by
  have e : (fun (vs : List V) H1 => sp (vs ++ []) H1 Q E) = fun vs H1 => sp vs H1 Q E := by
    funext vs H1
    rw [List.append_nil]
  show tr σ H fun vs H1 => sp (vs ++ []) H1 Q E
  rw [e]
  exact h
theorem gd_some {α : Type} {l : List α} {i : Nat} {x y : α} (h : l[i]? = some x) : l.getD i y = x := by
  rw [List.getD_eq_getElem?_getD, h]
  rfl
theorem getD_mem {α : Type} {l : List α} {i : Nat} {x : α} (h : i < l.length) : l.getD i x ∈ l := by
  rw [List.getD_eq_getElem?_getD, List.getElem?_eq_getElem h]
  exact List.getElem_mem h
theorem rp_maps {H : Hp} {α : Type} {v : α → V} {f : α → K0.D} : ∀ (l : List α), (∀ i ∈ l, Rp K H (v i) (f i)) → RpAll K H (l.map v) (l.map f)
  | [], _ => .nil
  | a :: l, h => .cons (h a (List.mem_cons_self ..)) (rp_maps l fun i hi => h i (List.mem_cons_of_mem _ hi))
theorem map_rangeD {α β : Type} (g : α → β) (x : α) : ∀ l : List α, (List.range l.length).map (fun i => g (l.getD i x)) = l.map g
  | [] => rfl
  | a :: l => by
    rw [List.length_cons, List.range_succ_eq_map, List.map_cons, List.map_cons, List.map_map, ← map_rangeD g x l]
    rfl
end
/-! ### all but lists stays -/
def ExT (H H' : Hp) : Prop := ∀ b u, H b = some u → (∀ xs, u ≠ HO.lst xs) → H' b = some u
section
variable {K : PySem.W.Frag} {H H' : Hp}
theorem ExT.of (e : Ex H H') : ExT H H' := fun b u h _ => e b u h
theorem ExT.trans {H'' : Hp} (a : ExT H H') (b : ExT H' H'') : ExT H H'' := fun c u h n => b c u (a c u h n) n
theorem ExT.sqT {a : Addr} {xs : List V} (e : ExT H H') (h : SqT K H a xs) : SqT K H' a xs := by
  rcases h with (h | ⟨o, h⟩) | h
  · exact .inl (.inl (e _ _ h fun _ z => by cases z))
  · exact .inl (.inr ⟨o, e _ _ h fun _ z => by cases z⟩)
  · exact .inr h
mutual
theorem Rp.exT {v : V} {d : D} (c : d.clean = true) (e : ExT H H') : Rp K H v d → Rp K H' v d
  | .non => .non
  | .bl b => .bl b
  | .int i => .int i
  | .str s => .str s
  | .tup h r => .tup (e.sqT h) (RpAll.exT c e r)
  | .lst h => by cases c
  | .dct h => by cases c
theorem RpAll.exT {vs : List V} {ds : List D} (c : D.cleanL ds = true) (e : ExT H H') : RpAll K H vs ds → RpAll K H' vs ds
  | .nil => .nil
  | .cons h r => by
    have c' := Bool.and_eq_true_iff.mp c
    exact .cons (Rp.exT c'.1 e h) (RpAll.exT c'.2 e r)
end
/-- what is hidden is a list -/
def hidL (o : Option Addr) (H : Hp) : Prop := ∀ a, o = some a → ∃ xs, H a = some (.lst xs)
theorem exT_hid {o : Option Addr} (h : hidL o H) : ExT H (hid o H) := fun b u hb n => by
  unfold hid
  by_cases c : o = some b
  · obtain ⟨xs, hx⟩ := h b c
    rw [hb] at hx
    exact absurd (Option.some.inj hx) (n xs)
  · rw [if_neg c]
    exact hb
theorem DiceAt.hidL {a : Addr} (h : DiceAt H a) : hidL (some a) H := fun b e => by
  obtain ⟨x, y, z, h⟩ := h
  cases e
  exact ⟨_, h⟩
theorem Bt.exT {a : Addr} (h : DiceAt H a) (b : Bt a H H') : ExT H H' := ((exT_hid h.hidL).trans (ExT.of b)).trans (ExT.of hid_le)
theorem RpAll.memI : ∀ {vs : List V} {ds : List D}, RpAll K H vs ds → ∀ v ∈ vs, ∃ d ∈ ds, Rp K H v d
  | _, _, .nil, v, h => by cases h
  | _, _, .cons h r, v, hv => by
    rcases List.mem_cons.mp hv with rfl | hv
    · exact ⟨_, List.mem_cons_self .., h⟩
    · obtain ⟨d, hd, hr⟩ := RpAll.memI r v hv
      exact ⟨d, List.mem_cons_of_mem _ hd, hr⟩
end
section
variable {K : PySem.W.Frag} {σ : L2.St} {H H' : Hp} {ta tb te tn : TE} {tr : TA} {ds : List D} {d : D}
theorem l_lst {Q : VK} (h : EvDA K tr σ H ds) (l : ds.length ≤ 100000) (k : ∀ p xs H1, H p = none → Ex H H1 → H1 p = some (.lst xs) → RpAll K H1 xs ds → Q (.ref p) H1) : tLst tr σ H Q := h H (Ex.refl H) _ fun vs H1 e r =>
  ⟨by rw [r.len]; exact sz_of l, fun p hp => k p vs _ (fresh_back e hp) (e.trans (Ex.new hp)) upd_same (r.ex (Ex.new hp))⟩
/-- a new list of data -/
def EvDL (K : PySem.W.Frag) (te : TE) (σ : L2.St) (H : Hp) (ds : List D) : Prop := ∀ H1, Ex H H1 → ∀ Q : VK, (∀ p xs H2, H1 p = none → Ex H1 H2 → H2 p = some (.lst xs) → RpAll K H2 xs ds → Q (.ref p) H2) → te σ H1 Q
/-- [e for j in range(n)], each e data -/
theorem edl_range {n j : Nat} {vs : List Nat} {f : Nat → D} (hn : ∀ H1, Ex H H1 → Ev tn σ H1 (.int (n : Int))) (hz : n ≤ 1000) (hw : ∀ x, wipe ((wipe σ vs).set j (some x)) vs = wipe σ vs)
    (he : ∀ i H1, Ex H H1 → i < n → EvD K te ((wipe σ vs).set j (some (.int (i : Int)))) H1 (f i)) : EvDL K (tLc (iRng1 (tCons tn tNil)) (gName j) tYes te vs) σ H ((List.range n).map f) := fun H0 e0 Q q => by
  unfold tLc
  refine n_rng1 (n_cons (hn H0 e0 H0 (Ex.refl _) _ fun H1 e1 => ⟨(n : Int), rfl, by omega, by omega, fun Dl hD => ?_⟩))
  refine lc_range (lo := 0) (n := (n : Int).toNat) (fun i H' => i ≤ n ∧ ∃ acc, H' Dl = some (.lst acc) ∧ RpAll K H' acc ((List.range i).map f) ∧ Ex H1 H') ⟨Nat.zero_le _, [], upd_same, .nil, Ex.new hD⟩ (fun i H' hi p => ?_) (fun H' p => ?_)
  · obtain ⟨_, acc, p1, p2, p3⟩ := p
    rw [Int.toNat_natCast] at hi
    have ez : (0 : Int) + (i : Int) = (i : Int) := Int.zero_add _
    rw [ez]
    refine ⟨hw _, he i H' ((e0.trans e1).trans p3) hi H' (Ex.refl _) _ fun v H'' e2 hv => ?_⟩
    have h2 := e2 _ _ p1
    have hl : acc.length = i := by rw [p2.len, List.length_map, List.length_range]
    refine ⟨acc, h2, sz_lt (by omega), hi, acc ++ [v], upd_same, ?_, Ex.mut (p3.trans e2) hD⟩
    rw [List.range_succ, List.map_append]
    exact ((p2.ex e2).app (.cons hv .nil)).exL (ExL.upd h2)
  · obtain ⟨_, acc, p1, p2, p3⟩ := p
    rw [Int.toNat_natCast] at p2
    exact q Dl acc H' (fresh_back e1 hD) (e1.trans p3) p1 p2
theorem dpL {a : Addr} {xs : List V} (h : H a = some (.lst xs)) (r : RpAll K H xs ds) (c : D.cleanL ds = true) : Dp K H (.ref a) (.list (D.pyL ds)) := .lst (sq_of h) (r.dp c)
/-- two lists compared as data -/
theorem ev_neLL {es : List D} {n : Nat} (h1 : EvDL K ta σ H ds) (h2 : ∀ H1, Ex H H1 → ∃ b ys, Ev tb σ H1 (.ref b) ∧ H1 b = some (.lst ys) ∧ RpAll K H1 ys es) (fd : ∀ d ∈ ds, d.fine n = true) (fe : ∀ d ∈ es, d.fine n = true) (hn : n + 1 ≤ 64) :
    Ev (tOp (rNeD K) ta tb) σ H (.bl (!PyData.eqvAll (D.pyL ds) (D.pyL es))) := fun H1 a Q q =>
  h1 H1 a _ fun p xs H2 hp b hx rx => by
    obtain ⟨r, ys, ev, hy, ry⟩ := h2 H2 (a.trans b)
    refine ev H2 (Ex.refl _) _ fun H3 c => ?_
    refine ⟨.list (D.pyL ds), .list (D.pyL es), dpL (c _ _ hx) (rx.ex c) (fine_all ds fd).1, dpL (c _ _ hy) (ry.ex c) (fine_all es fe).1, shapedL_of fd hn, shapedL_of fe hn, ?_⟩
    show Q (.bl (!PyData.eqvAll (D.pyL ds) (D.pyL es))) H3
    exact q H3 (b.trans c)
/-- two lists that stand -/
theorem ev_eqLs {a b : Addr} {xs ys : List V} {es : List D} {n : Nat} (h1 : Ev ta σ H (.ref a)) (h2 : Ev tb σ H (.ref b)) (hx : H a = some (.lst xs)) (hy : H b = some (.lst ys)) (rx : RpAll K H xs ds) (ry : RpAll K H ys es) (fd : ∀ d ∈ ds, d.fine n = true) (fe : ∀ d ∈ es, d.fine n = true) (hn : n + 1 ≤ 64) :
    Ev (tOp (rEqD K) ta tb) σ H (.bl (PyData.eqvAll (D.pyL ds) (D.pyL es))) := ev_op h1 h2 fun H1 e Q q => ⟨.list (D.pyL ds), .list (D.pyL es), dpL (e _ _ hx) (rx.ex e) (fine_all ds fd).1, dpL (e _ _ hy) (ry.ex e) (fine_all es fe).1, shapedL_of fd hn, shapedL_of fe hn, q H1 (Ex.refl _)⟩
/-- tuple(xs), xs a list of data -/
theorem ed_tupOf {a : Addr} {xs : List V} (h : Ev ta σ H (.ref a)) (hx : H a = some (.lst xs)) (r : RpAll K H xs ds) : EvD K (tCB (rTupOf K) (tCons ta tNil)) σ H (.tup ds) := fun H1 e Q q =>
  eu_tupOf h (sq_of hx) H1 e Q fun p H2 hp e2 h2 => q (.ref p) H2 e2 (.tup (st_of h2) (r.ex (e.trans e2)))
/-- a property that gives data -/
theorem ed_prop {C a dx : Addr} {fs : List (Str × V)} {sp : Sp} {E : XK} (h : Ev ta σ H (.ref a)) (ha : H a = some (.ins C dx fs)) (k : ∀ H1, Ex H H1 → ∀ Q : VK, RetR K d H1 Q → sp [.ref a] H1 Q E) :
    EvD K (tProp C sp [] E ta) σ H d := fun H1 a1 Q q => h H1 a1 _ fun H2 b => ⟨a, dx, fs, rfl, (a1.trans b) _ _ ha, k H2 (a1.trans b) Q fun v H3 c hv => q v H3 (b.trans c) hv⟩
/-- a method with one argument that gives data -/
theorem ed_meth1 {C a dx : Addr} {fs : List (Str × V)} {m : Str} {sp : Sp} {E : XK} {y : V} (h : Ev ta σ H (.ref a)) (ha : H a = some (.ins C dx fs)) (l : fs.lookup m = none) (hb : ∀ H1, Ex H H1 → Ev tb σ H1 y) (k : ∀ H1, Ex H H1 → ∀ Q : VK, RetR K d H1 Q → sp [.ref a, y] H1 Q E) :
    EvD K (tMeth C m sp [] E ta (tCons tb tNil)) σ H d := fun H1 a1 Q q => h H1 a1 _ fun H2 b => ⟨a, dx, fs, rfl, (a1.trans b) _ _ ha, l, hb H2 (a1.trans b) H2 (Ex.refl _) _ fun H3 c => k H3 ((a1.trans b).trans c) Q fun v H4 g hv => q v H4 ((b.trans c).trans g) hv⟩
theorem rv_addS {a b : Str} (h : a.length + b.length ≤ 100000) : RV (fun x y H Q => ∃ i j, x = .str i ∧ y = .str j ∧ i.length + j.length ≤ sizeLine ∧ Q (.str (i ++ j)) H) (.str a) (.str b) H (.str (a ++ b)) := fun H1 _ Q q => ⟨a, b, rfl, rfl, sz_of h, q H1 (Ex.refl _)⟩
theorem rc_strI {i : Int} (h : i.natAbs.log2 < 1920) : RC (fun xs H Q => ∃ i, xs = [.int i] ∧ i.natAbs.log2 < 1920 ∧ Q (.str (toString i)) H) [.int i] H (.str (toString i)) := fun H1 _ Q q => ⟨i, rfl, h, q H1 (Ex.refl _)⟩
end
theorem range_all {α : Type} (x : α) (l : List α) {n : Nat} (h : l.length = n) : (List.range n).map (fun i => l.getD i x) = l := by
  subst h
  have := map_rangeD (fun y : α => y) x l
  rw [List.map_id''] at this
  · exact this
  · intro y
    rfl
section
variable {K : PySem.W.Frag}
theorem et_neD {σ : L2.St} {H : Hp} {ta tb : TE} {d : K0.D} {n : Nat} (h1 : EvD K ta σ H d) (h2 : EvD K tb σ H d) (fd : d.fine n = true) (hn : n ≤ 64) : EvT (tTest (tOp (rNeD K) ta tb)) σ H false := et_is (et_test (ev_neD h1 h2 fd fd hn)) (by
  rw [eqv_self d (fine_c fd)]
  rfl)
end
section
variable {σ : L2.St} {H H' : Hp} {ta tb te tx : TE} {t u : TT} {tr : TA} {Q : VK} {D : Ends} {tz : TS}
theorem q_par {i j : Nat} (h : tr σ H fun vs H1 => ∃ v w, vs = [v, w] ∧ tz D ((σ.set i (some v)).set j (some w)) H1) : tSeq (tPar i j tr) tz D σ H := h
theorem q_asgX {i : Nat} (h : te σ H fun v H1 => tz D (σ.set i (some v)) H1) : tSeq (tAsg te (gName i)) tz D σ H := h
theorem n_tup (h : tr σ H fun xs H1 => xs.length ≤ sizeLine ∧ ∀ p, H1 p = none → Q (.ref p) (upd H1 p (.tup xs))) : tTup tr σ H Q := h
theorem n_var {i : Nat} {v : V} (h : σ[i]? = some (some v)) (k : Q v H) : tVar i σ H Q := ⟨v, h, k⟩
theorem n_op {r : R2} (h : ta σ H fun x H1 => tb σ H1 fun y H2 => r x y H2 Q) : tOp r ta tb σ H Q := h
theorem n_nil {k : List V → Hp → Prop} (h : k [] H) : tNil σ H k := h
theorem n_if {b : Bool} (h : EvT t σ H b) (h1 : b = true → ∀ H1, Ex H H1 → ta σ H1 Q) (h2 : b = false → ∀ H1, Ex H H1 → tb σ H1 Q) : tIf t ta tb σ H Q := h H (Ex.refl H) _ fun H1 e => by
  cases b with
  | true => exact h1 rfl H1 e
  | false => exact h2 rfl H1 e
theorem c_meth {C p dx : Addr} {fs : List (Str × V)} {m : Str} {sp : Sp} {E : XK} {vs : List V} (h : Ev ta σ H (.ref p)) (hp : H p = some (.ins C dx fs)) (l : fs.lookup m = none) (ha : ∀ H1, Ex H H1 → EvA tr σ H1 vs) (k : ∀ H1, Ex H H1 → sp (.ref p :: vs) H1 Q E) :
    tMeth C m sp [] E ta tr σ H Q := h H (Ex.refl H) _ fun H1 e1 => ⟨p, dx, fs, rfl, e1 _ _ hp, l, ha H1 e1 H1 (Ex.refl _) _ fun H2 e2 => by
  show sp (.ref p :: (vs ++ [])) H2 Q E
  rw [List.append_nil]
  exact k H2 (e1.trans e2)⟩
theorem c_methD {K : PySem.W.Frag} {C p dx : Addr} {fs : List (Str × V)} {m : Str} {sp : Sp} {E : XK} {d : K0.D} (h : Ev ta σ H (.ref p)) (hp : H p = some (.ins C dx fs)) (l : fs.lookup m = none) (ha : ∀ H1, Ex H H1 → EvD K tb σ H1 d) (k : ∀ v H1, Ex H H1 → Rp K H1 v d → sp [.ref p, v] H1 Q E) :
    tMeth C m sp [] E ta (tCons tb tNil) σ H Q := h H (Ex.refl H) _ fun H1 e1 => ⟨p, dx, fs, rfl, e1 _ _ hp, l, ha H1 e1 H1 (Ex.refl _) _ fun v H2 e2 hv => k v H2 (e1.trans e2) hv⟩
end
theorem asc_snoc : ∀ (l : List Int) (y : Int), ascB l = true → (∀ x ∈ l, x < y) → ascB (l ++ [y]) = true
  | [], y, _, _ => rfl
  | [x], y, _, h => by
    show (decide (x < y) && ascB [y]) = true
    rw [decide_eq_true (h x (List.mem_cons_self ..))]
    rfl
  | x :: z :: r, y, h, g => by
    have h' : (decide (x < z) && ascB (z :: r)) = true := h
    have h1 := Bool.and_eq_true_iff.mp h'
    show (decide (x < z) && ascB ((z :: r) ++ [y])) = true
    rw [h1.1, asc_snoc (z :: r) y h1.2 fun w hw => g w (List.mem_cons_of_mem _ hw)]
    rfl
section
variable {K : PySem.W.Frag} {σ : L2.St} {H H' : Hp} {ta tb te tx tn : TE} {t u : TT} {tr : TA} {Q : VK} {D : Ends} {tz : TS} {g : TG}
theorem q_asgG (h : te σ H fun v H1 => g v σ H1 fun σ2 H2 => tz D σ2 H2) : tSeq (tAsg te g) tz D σ H := h
end
section
variable {K : PySem.W.Frag} {σ : L2.St} {H H' : Hp} {ta tb te tx tn : TE} {t u : TT} {tr : TA} {Q : VK} {D : Ends} {tz tu tw : TS}
theorem n_ifS (h : t σ H fun b H1 => if b = true then tu D σ H1 else tw D σ H1) : tIfS t tu tw D σ H := h
theorem n_or {Q : Bool → Hp → Prop} (h : t σ H fun b H1 => if b = true then Q true H1 else u σ H1 Q) : tOr t u σ H Q := h
theorem n_not {Q : Bool → Hp → Prop} (h : t σ H fun b H1 => Q (!b) H1) : tNot t σ H Q := h
theorem n_B {Q : Bool → Hp → Prop} (h : te σ H fun v H1 => ∃ b, v = .bl b ∧ Q b H1) : tB te σ H Q := h
theorem sq_btF {p a : Addr} {xs : List V} {H1 H2 : Hp} (hp : H p = none) (h : SqL K H a xs) (e : Ex H H1) (b : Bt p H1 H2) : SqL K H2 a xs := by
  rcases h with (h | ⟨o, h⟩) | h
  · exact .inl (.inl (b.at (ne_of_none h hp) (e _ _ h)))
  · exact .inl (.inr ⟨o, b.at (ne_of_none h hp) (e _ _ h)⟩)
  · exact .inr h
theorem ev_neVL {a : Addr} {xs : List V} {ds es : List K0.D} {n : Nat} (h1 : Ev ta σ H (.ref a)) (hx : H a = some (.lst xs)) (rx : RpAll K H xs ds) (h2 : EvDA K tr σ H es) (l : es.length ≤ 1000) (fd : ∀ d ∈ ds, d.fine n = true) (fe : ∀ d ∈ es, d.fine n = true) (hn : n + 1 ≤ 64) :
    Ev (tOp (rNeD K) ta (tLst tr)) σ H (.bl (!PyData.eqvAll (K0.D.pyL ds) (K0.D.pyL es))) := fun H1 e Q q =>
  h1 H1 e _ fun H2 e2 => h2 H2 (e.trans e2) _ fun vs H3 e3 r => ⟨by rw [r.len]; exact sz_of (by omega), fun p hp => by
    have e4 := (e.trans e2).trans e3
    refine ⟨.list (K0.D.pyL ds), .list (K0.D.pyL es), dpL ((e4.trans (Ex.new hp)) _ _ hx) (rx.ex (e4.trans (Ex.new hp))) (fine_all ds fd).1, dpL upd_same (r.ex (Ex.new hp)) (fine_all es fe).1, shapedL_of fd hn, shapedL_of fe hn, ?_⟩
    exact q _ ((e2.trans e3).trans (Ex.new hp))⟩
end
section
variable {l : Addr} {H : Hp}
theorem ExT.upd {xs ys : List V} (h : H l = some (.lst xs)) : ExT H (L2.upd H l (.lst ys)) := fun b u hb n => by
  by_cases c : b = l
  · subst c
    rw [h] at hb
    exact absurd (Option.some.inj hb).symm (n xs)
  · rw [upd_ne c]
    exact hb
end
end K0

namespace PySem.SeqAt
open AutoSeq1 (wpAny_loadPart')
open MeetsSeq MeetsSeq2 MeetsSeq3 SeqRoads2
section
variable {prog : Program} {w : World}
/-- != of two tuples whose items are equal, one by one -/
theorem own_tupNe (l b : Addr) (us vs : Array Value) (n m : Nat) (dl db : Option Addr) (sl sb : Array (Option Value)) (hz : us.size = vs.size) : MeetsIn prog w (Builtin.«tuple.__ne__» ⟨[.ref l, .ref b], []⟩) (fun A R s =>
    s.heap.get? l = some { cls := .type "tuple", dict := dl, data := .seq us n, slots := sl } ∧ s.heap.get? b = some { cls := .type "tuple", dict := db, data := .seq vs m, slots := sb } ∧
    (∀ j (h1 : j < us.size) (h2 : j < vs.size), EqIn prog w A.in1 s us[j] vs[j] true) ∧ R (.ok (.ret (.bool false))) s) :=
  .of_wp fun A R s h => by
  obtain ⟨hp, g, d, tk, os⟩ := s
  obtain ⟨hl, hb, he, h⟩ := h
  have sub := AutoSeq1.sub_tuple_tuple
  have lz : (us.toList.zip vs.toList).length = us.size := by simp [hz]
  wp_walk using wpAny_loadPart' hl, wpAny_loadPart' hb, wpAny_forIn_list _ (fun rest c s' => c.1 = none ∧ s' = ⟨hp, g, d, tk, os⟩ ∧ ∃ i, rest = (us.toList.zip vs.toList).drop i) _
  case turn =>
    rintro ⟨y, x⟩ rest c s' ⟨hc, rfl, i, hi⟩
    have lt : i < (us.toList.zip vs.toList).length := by
      rcases Nat.lt_or_ge i (us.toList.zip vs.toList).length with z | z
      · exact z
      · rw [List.drop_of_length_le z] at hi
        cases hi
    have h1 : i < us.size := lz ▸ lt
    have h2 : i < vs.size := hz ▸ h1
    rw [List.drop_eq_getElem_cons lt] at hi
    injection hi with e1 e2
    have ey : y = us[i] := by simpa using congrArg Prod.fst e1
    have ex : x = vs[i] := by simpa using congrArg Prod.snd e1
    subst ey ex
    refine wpAny_bind (he i h1 h2 _ _ ?_)
    wp_walk
    exact ⟨rfl, rfl, i + 1, e2⟩
  case fin =>
    rintro ⟨c1, c2⟩ s' ⟨hc, rfl, _⟩
    have hc' : c1 = none := hc
    subst hc'
    wp_walk
    exact ⟨_, rfl, by simpa [Builtin.Tuple.tupleCompareSizes, bne, hz] using h⟩
  case h => exact ⟨rfl, rfl, 0, rfl⟩
/-- the loop of != over two lists whose items are equal -/
theorem own_lstNeLoop (l b : Addr) (us vs : Array Value) (n m : Nat) (dl db : Option Addr) (sl sb : Array (Option Value)) (hz : us.size = vs.size) : ∀ (k i : Nat), us.size - i = k → MeetsIn prog w (Builtin.«list.__eq__.loop» ⟨[.ref l, .ref b, rawInt i, rawInt 3], []⟩) (fun A R s =>
    s.heap.get? l = some { cls := .type "list", dict := dl, data := .seq us n, slots := sl } ∧ s.heap.get? b = some { cls := .type "list", dict := db, data := .seq vs m, slots := sb } ∧
    (∀ j (h1 : j < us.size) (h2 : j < vs.size), EqIn prog w A.in1 s us[j] vs[j] true) ∧ R (.ok (.ret (.bool false))) s)
  | 0, i, hk => by
    intro A R s h
    obtain ⟨hp, g, d, tk, os⟩ := s
    obtain ⟨hl, hb, he, h⟩ := h
    wp_walk using wpAny_loadPart' hl, wpAny_loadPart' hb
    have o1 : us[((i : Nat) : Int).toNat]? = none := by simp; omega
    have o2 : vs[((i : Nat) : Int).toNat]? = none := by simp; omega
    rw [o1, o2]
    wp_walk using wpAny_loadPart' hl, wpAny_loadPart' hb
    show R (.ok (.ret (.bool (us.size != vs.size)))) _
    rw [hz]
    simpa using h
  | k + 1, i, hk => by
    intro A R s h
    obtain ⟨hp, g, d, tk, os⟩ := s
    obtain ⟨hl, hb, he, h⟩ := h
    wp_walk using wpAny_loadPart' hl, wpAny_loadPart' hb
    have l1 : i < us.size := by omega
    have l2 : i < vs.size := by omega
    have o1 : us[((i : Nat) : Int).toNat]? = some us[i] := by simp [l1]
    have o2 : vs[((i : Nat) : Int).toNat]? = some vs[i] := by simp [l2]
    have next : ((i : Int) + 1) = ((i + 1 : Nat) : Int) := by push_cast; rfl
    rw [o1, o2]
    refine wpAny_bind (he i l1 l2 _ _ ?_)
    wp_walk
    rw [next]
    refine ⟨plainId_quiet plain_eq_loop _, codeAny_builtin entry_eq_loop ?_⟩
    rw [Around.under_plainId plain_eq_loop _]
    exact own_lstNeLoop l b us vs n m dl db sl sb hz k (i + 1) (by omega) A R _ ⟨hl, hb, he, h⟩
theorem own_lstNe (l b : Addr) (us vs : Array Value) (n m : Nat) (dl db : Option Addr) (sl sb : Array (Option Value)) (hz : us.size = vs.size) : MeetsIn prog w (Builtin.«list.__ne__» ⟨[.ref l, .ref b], []⟩) (fun A R s =>
    s.heap.get? l = some { cls := .type "list", dict := dl, data := .seq us n, slots := sl } ∧ s.heap.get? b = some { cls := .type "list", dict := db, data := .seq vs m, slots := sb } ∧
    (∀ j (h1 : j < us.size) (h2 : j < vs.size), EqIn prog w A.in1 s us[j] vs[j] true) ∧ R (.ok (.ret (.bool false))) s) := by
  intro A R s h
  obtain ⟨hp, g, d, tk, os⟩ := s
  obtain ⟨hl, hb, he, h⟩ := h
  have sub := AutoSeq1.sub_list_list
  have nz : ¬ (us.size != vs.size) = true := by simp [hz]
  wp_walk using wpAny_loadPart' hl, wpAny_loadPart' hb
  refine ⟨plainId_quiet plain_eq_loop _, codeAny_builtin entry_eq_loop ?_⟩
  rw [Around.under_plainId plain_eq_loop _]
  exact own_lstNeLoop l b us vs n m dl db sl sb hz _ 0 rfl A R _ ⟨hl, hb, he, h⟩
variable {A : Around} {s : Shared} {l b : Addr} {us vs : Array Value}
theorem own_neT (hl : s.heap.IsTuple l us) (hb : s.heap.IsTuple b vs) (hz : us.size = vs.size) (hu : A.units < cLine) (he : ∀ j (h1 : j < us.size) (h2 : j < vs.size), EqIn prog w A.in1 s us[j] vs[j] true)
    {E Q : Value → Shared → Prop} (h : Q (.bool false) s) : wpAny (model prog w) A (richCompare .NotEq (.ref l) (.ref b)) Q E s := by
  obtain ⟨⟨c1, d1, dt1, s1⟩, o1, k1, n1, e1⟩ := id hl
  obtain ⟨⟨c2, d2, dt2, s2⟩, o2, k2, n2, e2⟩ := id hb
  simp only at k1 e1 k2 e2
  subst k1 e1 k2 e2
  have t1 : s.TypeIs (.ref l) "tuple" := ⟨_, o1, rfl⟩
  have t2 : s.TypeIs (.ref b) "tuple" := ⟨_, o2, rfl⟩
  refine wpAny_richCompare_same_room (op := .NotEq) t1 t2 F.slot_tuple_ne (call_meetsIn F.slot_tuple_ne t1 F.entry_tuple_ne (F.args_tuple_ne_2 _ _) (own_tupNe l b us vs n1 n2 d1 d2 s1 s2 hz) ⟨o1, o2, he, ?_⟩) hu
  exact show Value.bool false ≠ Value.notImplemented ∧ Q (.bool false) s from ⟨(fun x => nomatch x), h⟩
theorem own_neL (hl : s.heap.IsList l us) (hb : s.heap.IsList b vs) (hz : us.size = vs.size) (hu : A.units < cLine) (he : ∀ j (h1 : j < us.size) (h2 : j < vs.size), EqIn prog w A.in1 s us[j] vs[j] true)
    {E Q : Value → Shared → Prop} (h : Q (.bool false) s) : wpAny (model prog w) A (richCompare .NotEq (.ref l) (.ref b)) Q E s := by
  obtain ⟨⟨c1, d1, dt1, s1⟩, o1, k1, n1, e1⟩ := id hl
  obtain ⟨⟨c2, d2, dt2, s2⟩, o2, k2, n2, e2⟩ := id hb
  simp only at k1 e1 k2 e2
  subst k1 e1 k2 e2
  have t1 : s.TypeIs (.ref l) "list" := ⟨_, o1, rfl⟩
  have t2 : s.TypeIs (.ref b) "list" := ⟨_, o2, rfl⟩
  refine wpAny_richCompare_same_room (op := .NotEq) t1 t2 F.slot_list_ne (call_meetsIn F.slot_list_ne t1 F.entry_list_ne (F.args_list_ne_2 _ _) (own_lstNe l b us vs n1 n2 d1 d2 s1 s2 hz) ⟨o1, o2, he, ?_⟩) hu
  exact show Value.bool false ≠ Value.notImplemented ∧ Q (.bool false) s from ⟨(fun x => nomatch x), h⟩
end
end PySem.SeqAt

namespace K0
open PySem PySem.Spec PyProof.Rows L2 Evl
/-! ### what compares equal, dicts among it -/
inductive Sam (K : PySem.W.Frag) (H : Hp) : Nat → V → V → Prop where
  | data {n : Nat} {x y : V} {d e : PyData} : Dp K H x d → Dp K H y e → d.canLay0 = true → e.canLay0 = true → d.depth ≤ n → PyData.eqv d e = true → Sam K H n x y
  | dict {n : Nat} {a b : Addr} {ks ls : List (Key × V)} : H a = some (.dK ks) → H b = some (.dK ls) → ks.length = ls.length → (∀ p ∈ ks, valV ls p.1 = some p.2 ∧ flatB p.2 = true) → Sam K H (n + 1) (.ref a) (.ref b)
  | tup {n : Nat} {a b : Addr} {xs ys : List V} : SqT K H a xs → SqT K H b ys → xs.length = ys.length → (∀ (j : Nat) (x y : V), xs[j]? = some x → ys[j]? = some y → Sam K H n x y) → Sam K H (n + 1) (.ref a) (.ref b)
  | lst {n : Nat} {a b : Addr} {xs ys : List V} : SqL K H a xs → SqL K H b ys → xs.length = ys.length → (∀ (j : Nat) (x y : V), xs[j]? = some x → ys[j]? = some y → Sam K H n x y) → Sam K H (n + 1) (.ref a) (.ref b)
theorem Sam.ex {K : PySem.W.Frag} {H H' : Hp} (e : Ex H H') {n : Nat} {x y : V} (h : Sam K H n x y) : Sam K H' n x y := by
  induction h with
  | data h1 h2 c1 c2 l q => exact .data (dp_ex e h1) (dp_ex e h2) c1 c2 l q
  | dict h1 h2 l q => exact .dict (e _ _ h1) (e _ _ h2) l q
  | tup h1 h2 l _ ih => exact .tup (ex_t e h1) (ex_t e h2) l ih
  | lst h1 h2 l _ ih => exact .lst (ex_l e h1) (ex_l e h2) l ih
where
  dp_ex {K : PySem.W.Frag} {H H' : Hp} (e : Ex H H') {v : V} {d : PyData} : Dp K H v d → Dp K H' v d
    | .non => .non
    | .bl b => .bl b
    | .int i => .int i
    | .str s => .str s
    | .lst h r => .lst (ex_l e h) (dpa_ex e r)
    | .tup h r => .tup (ex_t e h) (dpa_ex e r)
  dpa_ex {K : PySem.W.Frag} {H H' : Hp} (e : Ex H H') {vs : List V} {ds : List PyData} : DpAll K H vs ds → DpAll K H' vs ds
    | .nil => .nil
    | .cons h r => .cons (dp_ex e h) (dpa_ex e r)
theorem kv_mem {κ : Type} : ∀ {ks : List (κ × V)} {va : List (κ × Value)}, KV ks va → ∀ p ∈ va, ∃ k ∈ ks, k.1 = p.1 ∧ RelV k.2 p.2 := fun {ks va} r => by
  unfold KV at r
  induction r with
  | nil =>
    intro p hp
    cases hp
  | @cons a b as bs hh _ ih =>
    intro p hp
    rcases List.mem_cons.mp hp with rfl | hp
    · exact ⟨a, List.mem_cons_self .., hh⟩
    · obtain ⟨k, hk, z⟩ := ih p hp
      exact ⟨k, List.mem_cons_of_mem _ hk, z⟩
theorem all_yes {α : Type} (l : List α) : (l.all fun _ => true) = true := List.all_eq_true.mpr fun _ _ => rfl
theorem vals_at {xs : List V} {us : List Value} (r : Vals xs us) (j : Nat) (h : j < us.toArray.size) : ∃ x, xs[j]? = some x ∧ RelV x us.toArray[j] := by
  have h' : j < us.length := by simpa using h
  have e : us.toArray[j] = us[j] := by simp
  rw [e]
  clear e h
  induction r generalizing j with
  | nil => exact absurd h' (Nat.not_lt_zero j)
  | cons a b ih =>
    cases j with
    | zero => exact ⟨_, rfl, a⟩
    | succ j => exact ih j (Nat.lt_of_succ_lt_succ h')
section
variable {X : Cx} {pins : List (Addr × Obj)} {σ : L2.St} {H : Hp} {s : Shared}
theorem sam_tree (I : Inv X pins σ H s) {n : Nat} {x y : V} (h : Sam X.K H n x y) : ∀ v u, RelV x v → RelV y u → PySem.W.EqTree X.prog X.w s n v u true := by
  induction h with
  | data h1 h2 c1 c2 l q =>
    intro v u rx ry
    obtain ⟨as, r1⟩ := Dp.reads I _ _ v h1 rx
    obtain ⟨bs, r2⟩ := Dp.reads I _ _ u h2 ry
    refine .leaf fun A hu => ?_
    have := SeqAt.eqAt_reads _ _ A s v u as bs r1 r2 c1 c2 (by omega)
    rw [q] at this
    exact this
  | @dict n a b ks ls h1 h2 l q =>
    intro v u rx ry
    cases (show v = Value.ref a from rx)
    cases (show u = Value.ref b from ry)
    by_cases ab : a = b
    · subst ab
      exact .same
    obtain ⟨_, ya, va, ra, da⟩ := (show ObjOk X.prog X.w H s.heap a (.dK ks) from I.hok a _ h1)
    obtain ⟨_, yb, vb, rb, db⟩ := (show ObjOk X.prog X.w H s.heap b (.dK ls) from I.hok b _ h2)
    have lv : va.length = vb.length := by rw [← ra.length, ← rb.length]; exact l
    -- each pair of the one is found in the other
    have hit : ∀ p ∈ va, ∃ w', valueAt vb p.1 = some w' ∧ SeqAt.EqAt X.A s p.2 w' true ∧ ∀ A : Around, SeqAt.EqAt A s p.2 w' true := fun p hp => by
      obtain ⟨k, hk, e1, r1⟩ := kv_mem ra p hp
      obtain ⟨g1, g2⟩ := q k hk
      rw [e1] at g1
      have rr := rb.val p.1
      rw [g1] at rr
      obtain ⟨w', hw, rw'⟩ := rr.some_of
      exact ⟨w', hw, eqAt_same r1 rw' g2, fun A => eqAt_same r1 rw' g2⟩
    have t := PySem.W.EqTree.dicts (prog := X.prog) (w := X.w) (s := s) (knd := mixKind X.prog X.w) (n := n) (e := fun _ => true) ab ya yb da db fun k v y hm hv => by
      obtain ⟨w', hw, _, hq⟩ := hit (k, v) hm
      rw [hv] at hw
      cases hw
      exact .leaf fun A _ => hq A
    have e : (va.length == vb.length && va.all fun p => (valueAt vb p.1).isSome && true) = true := by
      rw [lv, beq_self_eq_true, Bool.true_and]
      refine List.all_eq_true.mpr fun p hp => ?_
      obtain ⟨w', hw, _⟩ := hit p hp
      rw [hw]
      rfl
    rw [e] at t
    exact t
  | @tup n a b xs ys h1 h2 l _ ih =>
    intro v u rx ry
    cases (show v = Value.ref a from rx)
    cases (show u = Value.ref b from ry)
    by_cases ab : a = b
    · subst ab
      exact .same
    obtain ⟨us, r1, p1, _⟩ := I.tuple h1
    obtain ⟨ws, r2, p2, _⟩ := I.tuple h2
    have sz : us.toArray.size = ws.toArray.size := by
      rw [List.size_toArray, List.size_toArray, ← r1.length, ← r2.length]
      exact l
    have t := PySem.W.EqTree.tuples (prog := X.prog) (w := X.w) (s := s) (n := n) (e := fun _ => true) ab p1 p2 fun j g1 g2 => by
      obtain ⟨x, hx, a1⟩ := vals_at r1 j g1
      obtain ⟨y, hy, a2⟩ := vals_at r2 j g2
      exact ih j x y hx hy _ _ a1 a2
    rw [all_yes, sz, beq_self_eq_true] at t
    exact t
  | @lst n a b xs ys h1 h2 l _ ih =>
    intro v u rx ry
    cases (show v = Value.ref a from rx)
    cases (show u = Value.ref b from ry)
    by_cases ab : a = b
    · subst ab
      exact .same
    obtain ⟨us, r1, p1, _⟩ := I.list h1
    obtain ⟨ws, r2, p2, _⟩ := I.list h2
    have sz : us.toArray.size = ws.toArray.size := by
      rw [List.size_toArray, List.size_toArray, ← r1.length, ← r2.length]
      exact l
    have t := PySem.W.EqTree.lists (prog := X.prog) (w := X.w) (s := s) (n := n) (e := fun _ => true) ab p1.isList p2.isList sz fun j g1 g2 => by
      obtain ⟨x, hx, a1⟩ := vals_at r1 j g1
      obtain ⟨y, hy, a2⟩ := vals_at r2 j g2
      exact ih j x y hx hy _ _ a1 a2
    rw [all_yes] at t
    exact t
end
/-- x == y, x != y of what is equal -/
def rEqS (K : PySem.W.Frag) : R2 := fun x y H Q => ∃ n, n ≤ 40 ∧ Sam K H n x y ∧ Q (.bl true) H
def rNeS (K : PySem.W.Frag) : R2 := fun x y H Q => ∃ n, n ≤ 40 ∧ Sam K H n x y ∧ Q (.bl false) H
section
variable {X : Cx}
theorem op_eqS (hu : X.A.units + 64 < cLine) : OpR X (compareOp .Eq) (rEqS X.K) := by
  intro pins s σ H x y v u Q I rx ry h
  obtain ⟨n, hn, h, q⟩ := h
  cases h with
  | data h1 h2 c1 c2 l qq =>
    obtain ⟨as, r1⟩ := Dp.reads I _ _ v h1 rx
    obtain ⟨bs, r2⟩ := Dp.reads I _ _ u h2 ry
    exact SeqAt.compareEq_reads r1 r2 c1 c2 (by omega) (by rw [qq]; exact ⟨.bl true, H, I, rfl, q⟩)
  | @dict n a b ks ls h1 h2 l g =>
    exact op_eq_dictA (X := X) (by omega) pins s σ H _ _ v u Q I rx ry ⟨a, b, ks, ls, rfl, rfl, h1, h2, l, g, q⟩
  | @tup n a b xs ys h1 h2 l g =>
    cases (show v = Value.ref a from rx)
    cases (show u = Value.ref b from ry)
    obtain ⟨us, r1, p1, _⟩ := I.tuple h1
    obtain ⟨ws, r2, p2, _⟩ := I.tuple h2
    have sz : us.toArray.size = ws.toArray.size := by
      rw [List.size_toArray, List.size_toArray, ← r1.length, ← r2.length]
      exact l
    refine PySem.W.eq_tuplesT (n := n) (e := fun _ => true) p1 p2 (fun j g1 g2 => ?_) (by omega) ?_
    · obtain ⟨x, hx, a1⟩ := vals_at r1 j g1
      obtain ⟨y, hy, a2⟩ := vals_at r2 j g2
      exact sam_tree I (g j x y hx hy) _ _ a1 a2
    · rw [all_yes, sz, beq_self_eq_true]
      exact ⟨.bl true, H, I, rfl, q⟩
  | @lst n a b xs ys h1 h2 l g =>
    cases (show v = Value.ref a from rx)
    cases (show u = Value.ref b from ry)
    obtain ⟨us, r1, p1, _⟩ := I.list h1
    obtain ⟨ws, r2, p2, _⟩ := I.list h2
    have sz : us.toArray.size = ws.toArray.size := by
      rw [List.size_toArray, List.size_toArray, ← r1.length, ← r2.length]
      exact l
    refine PySem.W.eq_listsT (n := n) (e := fun _ => true) p1.isList p2.isList sz (fun j g1 g2 => ?_) (by omega) ?_
    · obtain ⟨x, hx, a1⟩ := vals_at r1 j g1
      obtain ⟨y, hy, a2⟩ := vals_at r2 j g2
      exact sam_tree I (g j x y hx hy) _ _ a1 a2
    · rw [all_yes]
      exact ⟨.bl true, H, I, rfl, q⟩
theorem op_neS (hu : X.A.units + 64 < cLine) : OpR X (compareOp .NotEq) (rNeS X.K) := by
  intro pins s σ H x y v u Q I rx ry h
  obtain ⟨n, hn, h, q⟩ := h
  cases h with
  | data h1 h2 c1 c2 l qq =>
    obtain ⟨as, r1⟩ := Dp.reads I _ _ v h1 rx
    obtain ⟨bs, r2⟩ := Dp.reads I _ _ u h2 ry
    exact SeqAt.compareNe_reads r1 r2 c1 c2 (by omega) (by rw [qq]; exact ⟨.bl false, H, I, rfl, q⟩)
  | @dict n a b ks ls h1 h2 l g =>
    exact op_ne_dictA (X := X) (by omega) pins s σ H _ _ v u Q I rx ry ⟨a, b, ks, ls, rfl, rfl, h1, h2, l, g, q⟩
  | @tup n a b xs ys h1 h2 l g =>
    cases (show v = Value.ref a from rx)
    cases (show u = Value.ref b from ry)
    obtain ⟨us, r1, p1, _⟩ := I.tuple h1
    obtain ⟨ws, r2, p2, _⟩ := I.tuple h2
    have sz : us.toArray.size = ws.toArray.size := by
      rw [List.size_toArray, List.size_toArray, ← r1.length, ← r2.length]
      exact l
    refine SeqAt.own_neT p1 p2 sz (by omega) (fun j g1 g2 => ?_) ⟨.bl false, H, I, rfl, q⟩
    obtain ⟨x, hx, a1⟩ := vals_at r1 j g1
    obtain ⟨y, hy, a2⟩ := vals_at r2 j g2
    exact (sam_tree I (g j x y hx hy) _ _ a1 a2).at X.A.in1 (by show X.A.units + 1 + n < cLine; omega)
  | @lst n a b xs ys h1 h2 l g =>
    cases (show v = Value.ref a from rx)
    cases (show u = Value.ref b from ry)
    obtain ⟨us, r1, p1, _⟩ := I.list h1
    obtain ⟨ws, r2, p2, _⟩ := I.list h2
    have sz : us.toArray.size = ws.toArray.size := by
      rw [List.size_toArray, List.size_toArray, ← r1.length, ← r2.length]
      exact l
    refine SeqAt.own_neL p1.isList p2.isList sz (by omega) (fun j g1 g2 => ?_) ⟨.bl false, H, I, rfl, q⟩
    obtain ⟨x, hx, a1⟩ := vals_at r1 j g1
    obtain ⟨y, hy, a2⟩ := vals_at r2 j g2
    exact (sam_tree I (g j x y hx hy) _ _ a1 a2).at X.A.in1 (by show X.A.units + 1 + n < cLine; omega)
end
end K0

namespace K0
open PySem PySem.Spec PyProof.Rows L2 Evl
open AutoSeq1 (wpAny_loadPart')
/-! ### enumerate(t), t a tuple -/
theorem own_enumNew (l : Addr) (us : Array Value) (n : Nat) (dd : Option Addr) (sl : Array (Option Value)) : Meets (Builtin.«enumerate.__new__» ⟨[.type "enumerate", .ref l], []⟩) (fun _ R s =>
    s.heap.get? l = some { cls := .type "tuple", dict := dd, data := .seq us n, slots := sl } ∧ R (.ok (.ret (.ref (s.heap.objs.size + 1))))
      { s with heap := (s.heap.push { cls := .type "tuple_iterator", data := .fields #[.ref l, .int 0 0] }).push { cls := .type "enumerate", data := .fields #[.none, .bool false, .ref s.heap.objs.size, rawInt 0, .none, .none] } }) :=
  .of_wp fun prog w A R s h => by
  obtain ⟨hp, g, d, tk, os⟩ := s
  obtain ⟨hl, h⟩ := h
  have sub := sub_enumerate
  have tup : Heap.IsTuple (Shared.heap ⟨hp, g, d, tk, os⟩) l us := ⟨_, hl, rfl, n, rfl⟩
  have sz : (hp.push { cls := .type "tuple_iterator", data := .fields #[.ref l, .int 0 0] }).objs.size = hp.objs.size + 1 := Heap.size_push ..
  have h' := h
  rw [← show (hp.push { cls := .type "tuple_iterator", data := .fields #[.ref l, .int 0 0] }).objs.size = hp.objs.size + 1 from sz] at h'
  wp_walk using wpAny_loadPart' hl
  refine wpAny_stack_any fun st => wpAny_pure ?_
  split
  · rename_i c _ _ _ _ _
    cases (c == Value.type "enumerate") <;> (wp_walk using wpAny_loadPart' hl, wpAny_pyIter_tuple tup; exact ⟨_, rfl, h'⟩)
  · wp_walk using wpAny_loadPart' hl, wpAny_pyIter_tuple tup
    exact ⟨_, rfl, h'⟩
def IteT (K : PySem.W.Frag) (a : Addr) : It :=
  ⟨fun i H => ∃ (xs : List V) (x : V), SqT K H a xs ∧ xs[i]? = some x, fun i H v H' => ∃ p x, v = .ref p ∧ H p = none ∧ H' = upd H p (.tup [.int (i : Nat), x]) ∧ ∀ xs, SqT K H a xs → xs[i]? = some x,
    fun i H => ∃ xs : List V, SqT K H a xs ∧ xs.length = i⟩
theorem turn_enumT {P : Program} {w : World} {K : PySem.W.Frag} {es : List Expr} {kk : Nat} {tp : Pos} (a e it : Addr) :
    Turn P w K (.Tuple es kk tp) (IteT K a) [e, it] e (fun i h => (∃ old, IsEnum h e it ((i : Nat) : Int) old) ∧ h.IsTupleIter it a i ∧ e ≠ it ∧ e ≠ a ∧ a ≠ it) where
  mem := List.mem_cons_self ..
  obj := fun i h st b hb => by
    obtain ⟨⟨old, en⟩, ⟨o, g1, g2, g3⟩, _⟩ := st
    rcases (show b = e ∨ b = it by simpa using hb) with rfl | rfl
    · exact ⟨_, en, fun v q => nomatch q⟩
    · exact ⟨o, g1, fun v q => by rw [g3] at q; cases q⟩
  keep := fun i h h' st k => by
    obtain ⟨⟨old, en⟩, ti, nn⟩ := st
    exact ⟨⟨old, k e (by simp) _ en⟩, ti.at fun o q => k it (by simp) o q, nn⟩
  item := by
    intro X hP hw hK hc i pins s σ H E I hf st hg
    subst hP hw hK
    obtain ⟨⟨old, en⟩, ti, n1, n2, n3⟩ := st
    obtain ⟨xs, x, hq, hx⟩ := hg
    obtain ⟨its, rv, tp, _⟩ := I.tuple hq
    obtain ⟨u, hu, ru⟩ := rv.get hx
    have le : e < s.heap.objs.size := Heap.lt_size en
    have li : it < s.heap.objs.size := by
      obtain ⟨_, q, _⟩ := ti
      exact Heap.lt_size q
    have lt : i < its.toArray.size := by
      rw [List.size_toArray]
      exact (List.getElem?_eq_some_iff.mp hu).1
    refine wpAny_pyNext_enum_itemD (Draws.tuple (prog := X.prog) (w := X.w) (A := X.A.in1) (I.ok.hd hc) it a n3 its.toArray) en ⟨ti, tp⟩ lt n1 (by simp [n1, n2]) fun y h1 tk hy out st1 pr sz kp => ?_
    have ey : y = u := by
      have z : its.toArray[i]? = some y := hy
      rw [List.getElem?_toArray, hu] at z
      exact (Option.some.inj z).symm
    subst ey
    refine ⟨_, rfl, wpAny_letOwnedTupleGo_enum (s := { s with heap := h1, toks := tk + 1 }) out fun h2 en2 sb => ?_⟩
    have pr2 : h2.get? s.heap.objs.size = some { cls := .type "tuple", data := .seq #[.int i tk, y] } := (sb.2 _ (Nat.ne_of_gt le)).trans pr
    have keep2 : ∀ b ob, b ∉ [e, it] → s.heap.get? b = some ob → h2.get? b = some ob := fun b ob hb q => by
      have b1 : b ≠ e := fun z => hb (by simp [z])
      have b2 : b ≠ it := fun z => hb (by simp [z])
      exact (sb.2 b b1).trans (kp b ob b1 b2 q)
    have ok2 : ObjOk X.prog X.w (upd H s.heap.objs.size (.tup [.int (i : Nat), x])) h2 s.heap.objs.size (.tup [.int (i : Nat), x]) := by
      refine ⟨?_, [.int i tk, y], .cons ⟨_, rfl⟩ (.cons ru .nil), ⟨_, pr2, rfl, _, rfl⟩⟩
      show 2 ≤ sizeLine
      decide
    have I2 : Inv X pins σ (upd H s.heap.objs.size (.tup [.int (i : Nat), x])) { s with heap := h2, toks := tk + 1 } := I.turnedNew (ch := [e, it]) keep2 hf (Nat.le_refl _) ok2
    refine ⟨.ref s.heap.objs.size, _, I2, rfl, ⟨_, x, rfl, I.hok.fresh (Nat.le_refl _), rfl, fun ys hy => ?_⟩, ⟨⟨y, ?_⟩, st1.1.at fun o q => (sb.2 it n1.symm).trans q, n1, n2, n3⟩, fun b hb => ?_⟩
    · rw [I.tuple_inj hy hq]
      exact hx
    · have z : ((i + 1 : Nat) : Int) = (i : Int) + 1 := by omega
      rw [z]
      exact en2
    · have lb : b < s.heap.objs.size := by
        rcases (show b = e ∨ b = it by simpa using hb) with rfl | rfl
        · exact le
        · exact li
      rw [upd_ne (Nat.ne_of_lt lb)]
      exact (hf b hb).1
  done := by
    intro X hP hw hK hc i pins s σ H E I hf st hg
    subst hP hw hK
    obtain ⟨⟨old, en⟩, ti, n1, n2, n3⟩ := st
    obtain ⟨xs, hq, hx⟩ := hg
    obtain ⟨its, rv, tp, _⟩ := I.tuple hq
    obtain ⟨f0, f1, f2, f3, f4, f5⟩ := hf it (by simp)
    have ie : i = its.toArray.size := by
      have := rv.length
      simp
      omega
    rw [ie] at ti
    exact wpAny_pyNext_enum_endD (Draws.tuple (prog := X.prog) (w := X.w) (A := X.A.in1) (I.ok.hd hc) it a n3 its.toArray) en ⟨ti, tp⟩ fun h1 eb => ⟨rfl, I.turned (t' := s.toks) (fun b o hb q => eb b o hb q) f0 f1 f3 f4 f5⟩
  self := fun A i s Q E st h => let ⟨⟨_, en⟩, _⟩ := st; wpAny_pyIter_enum en h
theorem own_callEnum {prog : Program} {w : World} {A : Around} {E : Value → Shared → Prop} {s : Shared} {l : Addr} {us : Array Value} {Q : Value → Shared → Prop} (hl : s.heap.IsTuple l us)
    (h : ∀ h', IsEnum h' (s.heap.objs.size + 1) s.heap.objs.size 0 .none → h'.IsTupleIter s.heap.objs.size l 0 → (∀ b o, s.heap.get? b = some o → h'.get? b = some o) → Q (.ref (s.heap.objs.size + 1)) { s with heap := h' }) :
    wpAny (model prog w) A (call (.type "enumerate") [.ref l]) Q E s := by
  obtain ⟨⟨c, dd, dt, sl⟩, g1, g2, n, g3⟩ := hl
  have e2 : c = .type "tuple" := g2
  have e3 : dt = .seq us n := g3
  subst e2 e3
  refine callType_new F.called_enumerate (by decide) (F.typeCall_enumerate_1 _) (F.newCall_enumerate_1 _) (fun o => F.args_object_init_2 o _) F.entry_enumerate_new (own_enumNew l us n dd sl) ⟨g1, ?_⟩
  have sz : (s.heap.push { cls := .type "tuple_iterator", data := .fields #[.ref l, .int 0 0] }).objs.size = s.heap.objs.size + 1 := Heap.size_push ..
  have en : IsEnum ((s.heap.push { cls := .type "tuple_iterator", data := .fields #[.ref l, .int 0 0] }).push { cls := .type "enumerate", data := .fields #[.none, .bool false, .ref s.heap.objs.size, rawInt 0, .none, .none] }) (s.heap.objs.size + 1) s.heap.objs.size 0 .none := by
    have z := Heap.get?_push_size (s.heap.push { cls := .type "tuple_iterator", data := .fields #[.ref l, .int 0 0] }) (o := { cls := .type "enumerate", data := .fields #[.none, .bool false, .ref s.heap.objs.size, rawInt 0, .none, .none] }) rfl
    rwa [sz] at z
  exact ⟨⟨_, en, rfl⟩, h _ en ⟨_, Heap.get?_push_of_some _ (Heap.get?_push_size _ rfl), rfl, rfl⟩ fun b o x => Heap.get?_push_of_some _ (Heap.get?_push_of_some _ x)⟩
def iEnumT (K : PySem.W.Frag) (ta : TA) : TI := fun σ H R => ta σ H fun vs H1 => ∃ a xs, vs = [.ref a] ∧ SqT K H1 a xs ∧ R (IteT K a) H1
theorem pi_enumT {X : Cx} {e : Expr} {ta : TA} {p pos tp : Pos} {es : List Expr} {kk : Nat} (hg : Gl X "enumerate") (hm : X.mg "enumerate" = none) (ha : PA X [e] ta) (hs : starEach [e] X.env = [(false, eval e X.env)] := by rfl) :
    PI X (.Tuple es kk tp) (.Call (.Name "enumerate" p) [e] [] pos) (iEnumT X.K ta) := by
  refine ⟨fun pins s σ H R I h => ?_⟩
  refine Call_ (ld_blt I hg hm boot_enumerate (PyProof.Rows.callWith_type1 (thn (ha.run pos pins s σ H _ I h) fun us s1 z => ?_) hs rfl))
  obtain ⟨vs, H1, I1, r1, a, xs, rfl, hq, q⟩ := z
  cases r1 with
  | cons r rr =>
    cases rr
    cases r
    obtain ⟨its, rv, tp', _⟩ := I1.tuple hq
    refine own_callEnum tp' fun h1 en ti kp => wpAny_pyIter_enum en ?_
    have I2 : Inv X pins σ H1 { s1 with heap := h1 } := I1.kept (t' := s1.toks) kp
    have la : a < s1.heap.objs.size := by
      obtain ⟨_, z, _⟩ := tp'
      exact Heap.lt_size z
    refine ⟨s1.heap.objs.size + 1, [s1.heap.objs.size + 1, s1.heap.objs.size], _, _, H1, rfl, I2, turn_enumT a (s1.heap.objs.size + 1) s1.heap.objs.size, ⟨⟨.none, en⟩, ti, Nat.succ_ne_self _, Nat.ne_of_gt (Nat.lt_succ_of_lt la), Nat.ne_of_lt la⟩, fun b hb => ?_, q⟩
    have lb : s1.heap.objs.size ≤ b := by
      rcases (show b = s1.heap.objs.size + 1 ∨ b = s1.heap.objs.size by simpa using hb) with rfl | rfl
      · exact Nat.le_add_right _ _
      · exact Nat.le_refl _
    exact I1.fpOk lb (I1.hok.fresh lb)
theorem walk_enumT {K : PySem.W.Frag} {a : Addr} {xs : List V} : Walk (IteT K a) xs.length (fun H => SqT K H a xs) (YPair (fun i => some (.int (i : Nat))) (fun i => xs[i]?)) := by
  refine ⟨fun i H hi g => ?_, fun H g => ⟨xs, g, rfl⟩, fun i H v H' hi g y => ?_⟩
  · exact ⟨xs, xs[i], g, List.getElem?_eq_getElem hi⟩
  · obtain ⟨p, x, e1, e2, e3, e4⟩ := y
    exact ⟨p, _, x, e1, e2, e3, rfl, e4 xs g⟩
end K0

namespace SrtO
open PySem PyProof.Rows Srt
section
variable {prog : Program} {w : World} {A : Around} {E : Value → Shared → Prop} {s : Shared}
/-- a tuple of a text and something -/
def IsTx (h : Heap) (v : Value) (x : PySem.Str) : Prop := ∃ a o t u n, v = .ref a ∧ h.get? a = some o ∧ o.cls = .type "tuple" ∧ o.data = .seq #[.str x t, u] n
theorem IsTx.keeps {h h' : Heap} {v : Value} {x : PySem.Str} (p : IsTx h v x) (k : ∀ b o, h.get? b = some o → o.cls = .type "tuple" → h'.get? b = some o) : IsTx h' v x := by
  obtain ⟨a, o, t, u, n, e, g1, g2, g3⟩ := p
  exact ⟨a, o, t, u, n, e, k _ _ g1 g2, g2, g3⟩
def lessB (x y : PySem.Str) : Bool := decide (x.cps.toList < y.cps.toList)
theorem swo_tx {α : Type} (k : α → PySem.Str) : Swo fun v u => lessB (k v) (k u) := by
  refine ⟨fun x y h => ?_, fun x y z h1 h2 => ?_⟩
  · exact decide_eq_false fun q => List.lt_asymm (of_decide_eq_true h) q
  · refine decide_eq_false fun q => ?_
    have a : (k x).cps.toList ≤ (k y).cps.toList := of_decide_eq_false h1
    have b : (k y).cps.toList ≤ (k z).cps.toList := of_decide_eq_false h2
    exact List.le_trans a b q
theorem tx_cmp {vs : List Value} {k : Value → PySem.Str} (hp : ∀ v ∈ vs, IsTx s.heap v (k v)) (hi : ∀ v ∈ vs, ∀ u ∈ vs, k v = k u → v = u) : Cmp prog w A s (tuples' true) (fun p => p.1 ∈ vs) (lt2 fun v u => lessB (k v) (k u)) := by
  intro p q m1 m2
  have i1 := hi _ m1 _ m2
  show wpAny (model prog w) A (keyLt' (tuples' true) p.1 q.1) (fun r s' => s' = s ∧ r = lessB (k p.1) (k q.1)) (fun _ _ => False) s
  obtain ⟨a, o, t, u, n, e, g1, g2, g3⟩ := hp _ m1
  obtain ⟨a', o', t', u', n', e', g1', g2', g3'⟩ := hp _ m2
  have sameV : k p.1 = k q.1 → a = a' := fun z => by
    have := i1 z
    rw [e, e'] at this
    exact Value.ref.inj this
  generalize k p.1 = x at g3 sameV ⊢
  generalize k q.1 = y at g3' sameV ⊢
  rw [e, e']
  refine PySem.W.kat_lt g1 g3 g1' g3' ?_
  show PySem.W.KatLex prog w A true (decide (2 < 2)) _ [(.str x t, .str y t'), (u, u')] 0 s
  refine PySem.W.kat_cons (SeqAt.EqAt.str_str x t y t' prog w _ _ ?_)
  refine PySem.W.kat_go (fun c => ?_) (fun c => ?_)
  · have xy : x = y := by simpa using c
    have aa := sameV xy
    subst aa
    rw [g1] at g1'
    cases g1'
    rw [g3] at g3'
    injection g3' with z1 z2
    have uu : u = u' := by
      have := congrArg (fun l => l[1]?) z1
      simpa using this
    subst uu
    refine PySem.W.kat_yes (PySem.W.kat_cons (SeqAt.EqAt.same u prog w _ _ ?_))
    refine PySem.W.kat_go (fun _ => ?_) (fun z => by cases z)
    refine PySem.W.kat_yes (PySem.W.kat_nil ⟨rfl, ?_⟩)
    rw [xy]
    exact (decide_eq_false (List.lt_irrefl _)).symm
  · exact PySem.W.kat_no (PyProof.Rows.oneLt_str ⟨rfl, rfl⟩)
theorem tx_firsts {h : Heap} {k : Value → PySem.Str} : ∀ {vs : List Value}, (∀ v ∈ vs, IsTx h v (k v)) → ∃ fs : List Value, PySem.W.KatTups h vs fs ∧ fs.length = vs.length ∧ ∀ f ∈ fs, ∃ x t, f = Value.str x t
  | [], _ => ⟨[], .nil, rfl, fun f hf => by cases hf⟩
  | v :: vs, hp => by
    obtain ⟨fs, r1, r2, r3⟩ := tx_firsts (vs := vs) fun u hu => hp u (List.mem_cons_of_mem _ hu)
    obtain ⟨a, o, t, u, n, e, g1, g2, g3⟩ := hp v (List.mem_cons_self ..)
    rw [e] at g3 ⊢
    refine ⟨.str (k (.ref a)) t :: fs, .cons g1 g2 g3 rfl r1, by rw [List.length_cons, List.length_cons, r2], fun f hf => ?_⟩
    rcases List.mem_cons.mp hf with rfl | hf
    · exact ⟨_, _, rfl⟩
    · exact r3 f hf
theorem tx_sortable {a : Addr} {vs : List Value} {k : Value → PySem.Str} (h0 : 0 < vs.length) (hp : ∀ v ∈ vs, IsTx s.heap v (k v)) (hi : ∀ v ∈ vs, ∀ u ∈ vs, k v = k u → v = u) (ha : ∀ o, s.heap.get? a = some o → o.cls ≠ .type "tuple") :
    SortableO prog w A s a vs fun v u => lessB (k v) (k u) := by
  intro h' kp
  have hp' : ∀ v ∈ vs, IsTx h' v (k v) := fun v hv => (hp v hv).keeps fun b o e c => kp b o (fun z => ha o (z ▸ e) c) e
  obtain ⟨fs, r1, r2, r3⟩ := tx_firsts hp'
  refine ⟨tuples' true, fun Q E hq => ?_, tx_cmp hp' hi⟩
  refine PySem.W.kat_kind (T := .type "str") r1 (by omega) (fun f hf => ?_) (by rfl) ?_
  · obtain ⟨x, t, rfl⟩ := r3 f hf
    exact PySem.W.Looks.now
  · rw [show (Value.type "str" != Value.type "tuple") = true by first | decide +kernel | rfl]
    exact hq
end
end SrtO
namespace K0
open PySem PySem.Spec PyProof.Rows L2 Evl
/-- sorted(xs) of tuples whose first members are unlike texts -/
def rSortedTx (K : PySem.W.Frag) : List V → Hp → VK → Prop := fun vs H Q => ∃ (a : Addr) (xs : List V) (k : V → Str), vs = [V.ref a] ∧ SqL K H a xs ∧ (∀ x ∈ xs, ∃ t y, x = V.ref t ∧ SqT K H t [.str (k x), y]) ∧
  (∀ x ∈ xs, ∀ y ∈ xs, k x = k y → x = y) ∧ ∀ ys p, ys.Perm xs → ys.Pairwise (fun x y => SrtO.lessB (k y) (k x) = false) → H p = none → Q (.ref p) (upd H p (.lst ys))
section
variable {X : Cx}
theorem cr_sortedTx : CallR X (.builtin "sorted") (rSortedTx X.K) := by
  intro pins s σ H vs us Q I r h
  obtain ⟨a, xs, k, rfl, hs, hx, hi, q⟩ := h
  obtain ⟨its, rv, hl, hz⟩ := I.list hs
  obtain ⟨u, rfl, ru⟩ := vals1 r
  obtain rfl : u = Value.ref a := ru
  obtain ⟨e1, e2⟩ := refs_back rv fun x m => by
    obtain ⟨t, _, e, _⟩ := hx x m
    exact ⟨t, e⟩
  have tx : ∀ v ∈ its, SrtO.IsTx s.heap v (k (backV v)) := fun v hv => by
    obtain ⟨t, rfl⟩ := e2 v hv
    have hm : V.ref t ∈ xs := by
      rw [e1]
      exact List.mem_map.mpr ⟨_, hv, rfl⟩
    obtain ⟨t', y, e, ht⟩ := hx _ hm
    cases e
    obtain ⟨its2, r2, ⟨o, ho, hc, n, hd⟩, _⟩ := I.tuple ht
    obtain ⟨u1, u2, rfl, ri, rj⟩ := vals2 r2
    obtain ⟨t1, rfl⟩ := ri
    exact ⟨t, o, t1, u2, n, rfl, ho, hc, hd⟩
  have inj : ∀ v ∈ its, ∀ u ∈ its, k (backV v) = k (backV u) → v = u := fun v hv u hu z => by
    obtain ⟨t, rfl⟩ := e2 v hv
    obtain ⟨t', rfl⟩ := e2 u hu
    have m1 : V.ref t ∈ xs := by
      rw [e1]
      exact List.mem_map.mpr ⟨_, hv, rfl⟩
    have m2 : V.ref t' ∈ xs := by
      rw [e1]
      exact List.mem_map.mpr ⟨_, hu, rfl⟩
    have := hi _ m1 _ m2 z
    cases this
    rfl
  refine SrtO.sorted_ord (SrtO.swo_tx fun v => k (backV v)) hl.isList (by rw [← rv.length]; exact hz) (fun h2 h1 b ha kk => ?_) fun out o1 o2 => ?_
  · refine SrtO.tx_sortable (s := { s with heap := h1 }) (by omega) (fun v hv => (tx v hv).keeps fun b o e _ => (kk b o e).2) inj fun o e c => ?_
    have z : some o = some (PyProof.Rows.seqObj "list" its.toArray 0) := e.symm.trans ha
    cases z
    exact absurd (Value.type.inj c) (by decide)
  · have hout : ∀ u ∈ out, ∃ a, u = Value.ref a := fun u hu => e2 u (o2.perm.mem_iff.mp hu)
    obtain ⟨n, hn⟩ := PyProof.Rows.sortedAll_at s.heap its out.toArray
    have pm : (out.map backV).Perm xs := by
      rw [e1]
      exact o2.perm.map _
    refine ⟨.ref _, upd H (s.heap.objs.size + 1) (.lst (out.map backV)), I.laid (t' := s.toks) (fun b o e => PyProof.Rows.sortedAll_old e) (Nat.le_succ _) ⟨?_, out, n, vals_back hout, hn⟩, rfl, q _ _ pm (List.pairwise_map.mpr o1) (I.hok.fresh (Nat.le_succ _))⟩
    rw [pm.length_eq]
    exact hz
end
end K0

namespace K0
open PySem L2 Evl
/-! ### pairs: a dict from texts to ints and texts -/
def D.isAt : D → Bool
  | .int _ => true | .str _ => true | _ => false
/-- an int or a text as a value -/
def atV : D → V
  | .int i => .int i | .str s => .str s | _ => .non
theorem atV_inj {d e : D} (h1 : d.isAt = true) (h2 : e.isAt = true) (h : atV d = atV e) : d = e := by
  cases d <;> cases e <;> first | (cases h1; done) | (cases h2; done) | (simp only [atV, V.int.injEq, V.str.injEq, reduceCtorEq] at h; first | done | rw [h])
theorem atV_flat {d : D} (h : d.isAt = true) : flatB (atV d) = true := by cases d <;> first | rfl | cases h
theorem atV_rp {K : PySem.W.Frag} {H : Hp} {d : D} (h : d.isAt = true) : Rp K H (atV d) d := by cases d <;> first | exact .int _ | exact .str _ | cases h
theorem rp_atV {K : PySem.W.Frag} {H : Hp} {d : D} {v : V} (h : d.isAt = true) (r : Rp K H v d) : v = atV d := by cases r <;> first | rfl | cases h
abbrev Ps := List (Str × D)
def kv1 (p : Str × D) : Key × V := (Sum.inr p.1, atV p.2)
def kv (ps : Ps) : List (Key × V) := ps.map kv1
def lookP (ps : Ps) (k : Str) : Option D := (ps.find? fun p => decide (p.1 = k)).map (·.2)
def dropP (ps : Ps) (k : Str) : Ps := ps.filter fun p => decide (p.1 ≠ k)
def hasP (ps : Ps) (k : Str) : Bool := ps.any fun p => decide (p.1 = k)
def putP (ps : Ps) (k : Str) (d : D) : Ps := if hasP ps k = true then ps.map (fun p => if p.1 = k then (p.1, d) else p) else ps ++ [(k, d)]
theorem inr_iff {a b : Str} : ((Sum.inr a : Key) = Sum.inr b) ↔ a = b := ⟨fun h => by injection h, fun h => by rw [h]⟩
theorem val_kv : ∀ (ps : Ps) (k : Str), valV (kv ps) (.inr k) = (lookP ps k).map atV
  | [], k => rfl
  | p :: r, k => by
    have ih := val_kv r k
    by_cases c : p.1 = k
    · rw [show kv (p :: r) = kv1 p :: kv r from rfl, valV_pos (inr_iff.mpr c)]
      simp [lookP, List.find?_cons, c, kv1]
    · rw [show kv (p :: r) = kv1 p :: kv r from rfl, valV_neg (fun z => c (inr_iff.mp z)), ih]
      simp [lookP, List.find?_cons, c]
theorem look_has (ps : Ps) (k : Str) : (lookP ps k).isSome = hasP ps k := by
  induction ps with
  | nil => rfl
  | cons p r ih =>
    by_cases c : p.1 = k
    · simp [lookP, hasP, List.find?_cons, c]
    · simp only [lookP, hasP, List.find?_cons, List.any_cons] at ih ⊢
      rw [decide_eq_false c]
      simpa using ih
theorem drop_kv (ps : Ps) (k : Str) : dropK (kv ps) (.inr k) = kv (dropP ps k) := by
  unfold dropK dropP kv
  rw [List.filter_map]
  congr 1
  refine congrArg (fun f => List.filter f ps) (funext fun p => ?_)
  show decide ((Sum.inr p.1 : Key) ≠ Sum.inr k) = decide (p.1 ≠ k)
  exact decide_eq_decide.mpr (not_congr inr_iff)
theorem put_kv (ps : Ps) (k : Str) (d : D) : putK (kv ps) (.inr k) (atV d) = kv (putP ps k d) := by
  unfold putK putP
  have e : ((kv ps).any fun q => decide (q.1 = (Sum.inr k : Key))) = hasP ps k := by
    unfold kv hasP
    rw [List.any_map]
    refine congrArg (fun f => List.any ps f) (funext fun p => ?_)
    exact decide_eq_decide.mpr inr_iff
  rw [e]
  by_cases c : hasP ps k = true
  · rw [if_pos c, if_pos c]
    unfold kv
    rw [List.map_map, List.map_map]
    refine congrArg (fun f => List.map f ps) (funext fun p => ?_)
    by_cases z : p.1 = k
    · show (if (Sum.inr p.1 : Key) = Sum.inr k then _ else _) = kv1 (if p.1 = k then _ else _)
      rw [if_pos (inr_iff.mpr z), if_pos z]
      rfl
    · show (if (Sum.inr p.1 : Key) = Sum.inr k then _ else _) = kv1 (if p.1 = k then _ else _)
      rw [if_neg (fun q => z (inr_iff.mp q)), if_neg z]
  · rw [if_neg c, if_neg c]
    unfold kv
    rw [List.map_append]
    rfl
def keysP (ps : Ps) : List Str := ps.map (·.1)
def NoTwo (ps : Ps) : Prop := (keysP ps).Nodup
theorem look_mem {ps : Ps} {k : Str} {d : D} (h : lookP ps k = some d) : (k, d) ∈ ps := by
  unfold lookP at h
  cases z : ps.find? (fun p => decide (p.1 = k)) with
  | none => rw [z] at h; cases h
  | some p =>
    rw [z] at h
    have h1 := List.mem_of_find?_eq_some z
    have h2 : p.1 = k := of_decide_eq_true (List.find?_some (p := fun p : Str × D => decide (p.1 = k)) z)
    cases h
    rw [← h2]
    exact h1
theorem mem_look : ∀ {ps : Ps} {k : Str} {d : D}, NoTwo ps → (k, d) ∈ ps → lookP ps k = some d
  | p :: r, k, d, n, h => by
    unfold NoTwo keysP at n
    rw [List.map_cons, List.nodup_cons] at n
    rcases List.mem_cons.mp h with rfl | h
    · simp [lookP, List.find?_cons]
    · have c : p.1 ≠ k := fun z => n.1 (by rw [z]; exact List.mem_map.mpr ⟨(k, d), h, rfl⟩)
      have ih := mem_look (ps := r) n.2 h
      unfold lookP at ih ⊢
      rw [List.find?_cons, decide_eq_false c]
      exact ih
theorem NoTwo.perm {ps qs : Ps} (h : qs.Perm ps) (n : NoTwo ps) : NoTwo qs := (List.Perm.map (fun p : Str × D => p.1) h).nodup_iff.mpr n
theorem look_perm {ps qs : Ps} (h : qs.Perm ps) (n : NoTwo ps) (k : Str) : lookP qs k = lookP ps k := by
  cases z : lookP ps k with
  | some d => exact mem_look (n.perm h) (h.mem_iff.mpr (look_mem z))
  | none =>
    cases y : lookP qs k with
    | none => rfl
    | some d =>
      rw [mem_look n (h.mem_iff.mp (look_mem y))] at z
      cases z
theorem drop_perm {ps qs : Ps} (h : qs.Perm ps) (k : Str) : (dropP qs k).Perm (dropP ps k) := h.filter _
theorem put_perm {ps qs : Ps} (h : qs.Perm ps) (n : NoTwo ps) (k : Str) (d : D) : (putP qs k d).Perm (putP ps k d) := by
  have e : hasP qs k = hasP ps k := by rw [← look_has, ← look_has, look_perm h n]
  unfold putP
  rw [e]
  by_cases c : hasP ps k = true
  · rw [if_pos c, if_pos c]
    exact h.map _
  · rw [if_neg c, if_neg c]
    exact h.append_right _
theorem has_mem {ps : Ps} {k : Str} : hasP ps k = true ↔ k ∈ keysP ps := by
  unfold hasP keysP
  rw [List.any_eq_true, List.mem_map]
  constructor
  · rintro ⟨p, hp, e⟩
    exact ⟨p, hp, of_decide_eq_true e⟩
  · rintro ⟨p, hp, e⟩
    exact ⟨p, hp, decide_eq_true e⟩
theorem put_keys (ps : Ps) (k : Str) (d : D) : keysP (putP ps k d) = if hasP ps k = true then keysP ps else keysP ps ++ [k] := by
  unfold putP
  split
  · unfold keysP
    rw [List.map_map]
    refine congrArg (fun f => List.map f ps) (funext fun p => ?_)
    show (if p.1 = k then (p.1, d) else p).1 = p.1
    split <;> rfl
  · unfold keysP
    rw [List.map_append]
    rfl
theorem NoTwo.put {ps : Ps} (n : NoTwo ps) (k : Str) (d : D) : NoTwo (putP ps k d) := by
  unfold NoTwo
  rw [put_keys]
  split
  · exact n
  · rename_i c
    rw [List.nodup_append]
    refine ⟨n, by simp, fun a ha b hb => ?_⟩
    rw [List.mem_singleton.mp hb]
    intro z
    exact c (has_mem.mpr (z ▸ ha))
theorem NoTwo.drop {ps : Ps} (n : NoTwo ps) (k : Str) : NoTwo (dropP ps k) := by
  unfold NoTwo keysP dropP
  exact List.Nodup.sublist (List.Sublist.map _ List.filter_sublist) n
theorem drop_no {ps : Ps} {k : Str} (h : hasP ps k = false) : dropP ps k = ps := by
  unfold dropP
  refine List.filter_eq_self.mpr fun p hp => ?_
  refine decide_eq_true fun z => ?_
  have : hasP ps k = true := List.any_eq_true.mpr ⟨p, hp, decide_eq_true z⟩
  rw [h] at this
  cases this
/-- put in its place is put behind the others -/
theorem put_end : ∀ {ps : Ps}, NoTwo ps → ∀ (k : Str) (d : D), (dropP ps k ++ [(k, d)]).Perm (putP ps k d)
  | ps, n, k, d => by
    by_cases c : hasP ps k = true
    · unfold putP
      rw [if_pos c]
      have key : ∀ qs : Ps, NoTwo qs → k ∈ keysP qs → (dropP qs k ++ [(k, d)]).Perm (qs.map fun p => if p.1 = k then (p.1, d) else p) := by
        intro qs
        induction qs with
        | nil =>
          intro _ z
          cases z
        | cons p r ih =>
          intro nn z
          unfold NoTwo keysP at nn
          rw [List.map_cons, List.nodup_cons] at nn
          by_cases q : p.1 = k
          · have hr : hasP r k = false := by
              cases y : hasP r k with
              | false => rfl
              | true => exact absurd (has_mem.mp y) (q ▸ nn.1)
            have e1 : dropP (p :: r) k = r := by
              have : dropP (p :: r) k = dropP r k := by
                unfold dropP
                rw [List.filter_cons, if_neg (by simp [q])]
              rw [this, drop_no hr]
            have e2 : (r.map fun p => if p.1 = k then (p.1, d) else p) = r := by
              have : ∀ x ∈ r, (if x.1 = k then (x.1, d) else x) = x := fun x hx => by
                rw [if_neg]
                intro w
                have : hasP r k = true := List.any_eq_true.mpr ⟨x, hx, decide_eq_true w⟩
                rw [hr] at this
                cases this
              rw [List.map_congr_left this, List.map_id'']
              intro x
              rfl
            rw [e1, List.map_cons, if_pos q, e2, q]
            exact List.perm_append_singleton _ _
          · have z' : k ∈ keysP r := by
              rcases List.mem_cons.mp z with w | w
              · exact absurd w.symm q
              · exact w
            have e1 : dropP (p :: r) k = p :: dropP r k := by
              unfold dropP
              rw [List.filter_cons, if_pos (by simp [q])]
            rw [e1, List.map_cons, if_neg q]
            exact (ih nn.2 z').cons p
      exact key ps n (has_mem.mp c)
    · unfold putP
      rw [if_neg c, drop_no (by cases y : hasP ps k <;> first | rfl | exact absurd y c)]
end K0

namespace K0
open PySem L2 Evl
/-! ### pairs in the heap -/
def AllAt (ps : Ps) : Prop := ∀ p ∈ ps, p.2.isAt = true
/-- at a a dict with these pairs, in whatever order -/
def PairsAt (H : Hp) (a : Addr) (ps : Ps) : Prop := ∃ qs : Ps, qs.Perm ps ∧ NoTwo ps ∧ AllAt ps ∧ H a = some (.dK (kv qs))
theorem AllAt.perm {ps qs : Ps} (h : qs.Perm ps) (n : AllAt ps) : AllAt qs := fun p hp => n p (h.mem_iff.mp hp)
theorem AllAt.put {ps : Ps} (n : AllAt ps) {k : Str} {d : D} (h : d.isAt = true) : AllAt (putP ps k d) := fun p hp => by
  unfold putP at hp
  split at hp
  · obtain ⟨q, hq, rfl⟩ := List.mem_map.mp hp
    split
    · exact h
    · exact n q hq
  · rcases List.mem_append.mp hp with hp | hp
    · exact n p hp
    · rw [List.mem_singleton.mp hp]
      exact h
theorem AllAt.drop {ps : Ps} (n : AllAt ps) (k : Str) : AllAt (dropP ps k) := fun p hp => n p (List.mem_filter.mp hp).1
theorem PairsAt.ex {H H' : Hp} {a : Addr} {ps : Ps} (e : Ex H H') (h : PairsAt H a ps) : PairsAt H' a ps := let ⟨qs, p, n, z, g⟩ := h; ⟨qs, p, n, z, e _ _ g⟩
theorem PairsAt.exT {H H' : Hp} {a : Addr} {ps : Ps} (e : ExT H H') (h : PairsAt H a ps) : PairsAt H' a ps := let ⟨qs, p, n, z, g⟩ := h; ⟨qs, p, n, z, e _ _ g (fun _ z => by cases z)⟩
theorem PairsAt.perm {H : Hp} {a : Addr} {ps qs : Ps} (h : PairsAt H a ps) (p : ps.Perm qs) : PairsAt H a qs := let ⟨rs, p', n, z, g⟩ := h; ⟨rs, p'.trans p, n.perm p.symm, z.perm p.symm, g⟩
theorem PairsAt.no {H : Hp} {a : Addr} {ps : Ps} (h : PairsAt H a ps) : NoTwo ps := let ⟨_, _, n, _⟩ := h; n
theorem PairsAt.at_ {H : Hp} {a : Addr} {ps : Ps} (h : PairsAt H a ps) : AllAt ps := let ⟨_, _, _, z, _⟩ := h; z
theorem pairs_at {H : Hp} {a : Addr} {ps : Ps} (n : NoTwo ps) (z : AllAt ps) (g : H a = some (.dK (kv ps))) : PairsAt H a ps := ⟨ps, .refl _, n, z, g⟩
theorem PairsAt.ne {H : Hp} {a p : Addr} {ps : Ps} (h : PairsAt H a ps) (hp : H p = none) : a ≠ p := let ⟨_, _, _, _, g⟩ := h; ne_of_none g hp
theorem kv_len (ps : Ps) : (kv ps).length = ps.length := List.length_map ..
/-- what a key holds, None for none -/
def gotV (ps : Ps) (k : Str) (z : V) : V := ((lookP ps k).map atV).getD z
section
variable {K : PySem.W.Frag} {σ : L2.St} {H H' : Hp} {td ty tx te ta : TE} {z : V} {a : Addr} {ps : Ps} {k : Str} {D : Ends} {tz : TS} {Q : VK}
theorem dget_of (h : PairsAt H a ps) (k : Str) : DGet H a (.str k) ((lookP ps k).map atV) := by
  obtain ⟨qs, p, n, _, g⟩ := h
  rw [← look_perm p n, ← val_kv]
  exact .inl ⟨_, _, .inl g, rfl, rfl⟩
theorem isd_of (h : PairsAt H a ps) : IsD H a := let ⟨_, _, _, _, g⟩ := h; .inl ⟨_, .inl g⟩
theorem ev_pget1 (h : Ev td σ H (.ref a)) (hk : Ev ty σ H (.str k)) (hp : PairsAt H a ps) : Ev (tDGet1 td ty) σ H (gotV ps k .non) := fun H1 e Q q =>
  h H1 e _ fun H2 e2 => ⟨a, rfl, isd_of (hp.ex (e.trans e2)), hk H2 (e.trans e2) _ fun H3 e3 => ⟨_, dget_of (hp.ex ((e.trans e2).trans e3)) k, q H3 (e2.trans e3)⟩⟩
theorem ev_pget2 (h : Ev td σ H (.ref a)) (hk : Ev ty σ H (.str k)) (hz : Ev tx σ H z) (hp : PairsAt H a ps) : Ev (tDGet2 td ty tx) σ H (gotV ps k z) := fun H1 e Q q =>
  h H1 e _ fun H2 e2 => ⟨a, rfl, isd_of (hp.ex (e.trans e2)), hk H2 (e.trans e2) _ fun H3 e3 => hz H3 ((e.trans e2).trans e3) _ fun H4 e4 =>
    ⟨_, dget_of (hp.ex (((e.trans e2).trans e3).trans e4)) k, q H4 ((e2.trans e3).trans e4)⟩⟩
theorem ev_pitem {d : K0.D} (h : Ev td σ H (.ref a)) (hk : Ev ty σ H (.str k)) (hp : PairsAt H a ps) (hl : lookP ps k = some d) : Ev (tDGet td ty) σ H (atV d) := fun H1 e Q q =>
  h H1 e _ fun H2 e2 => hk H2 (e.trans e2) _ fun H3 e3 => ⟨a, atV d, rfl, by
    have := dget_of (hp.ex ((e.trans e2).trans e3)) k
    rw [hl] at this
    exact this, q H3 (e2.trans e3)⟩
theorem ev_pnotin (hk : Ev ty σ H (.str k)) (h : Ev td σ H (.ref a)) (hp : PairsAt H a ps) : Ev (tDNotIn ty td) σ H (.bl (!hasP ps k)) := fun H1 e Q q =>
  hk H1 e _ fun H2 e2 => h H2 (e.trans e2) _ fun H3 e3 => ⟨a, _, rfl, dget_of (hp.ex ((e.trans e2).trans e3)) k, by
    rw [Option.isSome_map, look_has]
    exact q H3 (e2.trans e3)⟩
theorem ev_pin (hk : Ev ty σ H (.str k)) (h : Ev td σ H (.ref a)) (hp : PairsAt H a ps) : Ev (tDIn ty td) σ H (.bl (hasP ps k)) := fun H1 e Q q =>
  hk H1 e _ fun H2 e2 => h H2 (e.trans e2) _ fun H3 e3 => ⟨a, _, rfl, dget_of (hp.ex ((e.trans e2).trans e3)) k, by
    rw [Option.isSome_map, look_has]
    exact q H3 (e2.trans e3)⟩
def rLenP : List V → Hp → VK → Prop := fun xs H Q => ∃ a kvs, xs = [V.ref a] ∧ H a = some (.dK kvs) ∧ Q (.int kvs.length) H
theorem rc_lenP (hp : PairsAt H a ps) : RC rLenP [.ref a] H (.int (ps.length : Nat)) := fun H1 e Q q => by
  obtain ⟨qs, p, n, _, g⟩ := hp
  refine ⟨a, _, rfl, e _ _ g, ?_⟩
  rw [kv_len, p.length_eq]
  exact q H1 (Ex.refl _)
/-- isinstance(d, dict) -/
theorem rc_isDict (hp : PairsAt H a ps) : RC (rIsi K) [.ref a, .ty "dict"] H (.bl true) := fun H1 e Q q => by
  obtain ⟨qs, p, n, _, g⟩ := hp
  exact ⟨_, _, _, _, _, rfl, .ty _, .base (.dK (e _ _ g)), kit_ty (by decide +kernel), q H1 (Ex.refl _)⟩
/-! what evaluates to pairs -/
def EvP (te : TE) (σ : L2.St) (H : Hp) (ps : Ps) : Prop := ∀ H1, Ex H H1 → ∀ Q : VK, (∀ p H2, Ex H1 H2 → PairsAt H2 p ps → Q (.ref p) H2) → te σ H1 Q
theorem ep_ev (h : Ev te σ H (.ref a)) (hp : PairsAt H a ps) : EvP te σ H ps := fun H1 e Q q => h H1 e Q fun H2 e2 => q a H2 e2 (hp.ex (e.trans e2))
def RetP (ps : Ps) (H : Hp) (Q : VK) : Prop := ∀ p H', Ex H H' → PairsAt H' p ps → Q (.ref p) H'
theorem p_ret (h : EvP te σ H ps) (k : ∀ p H1, Ex H H1 → PairsAt H1 p ps → D.rt (.ref p) H1) : tRet te D σ H := h H (Ex.refl H) _ k
theorem q_asgP {i : Nat} (h : EvP te σ H ps) (k : ∀ p H1, Ex H H1 → PairsAt H1 p ps → tz D (σ.set i (some (.ref p))) H1) : tSeq (tAsg te (gName i)) tz D σ H := h H (Ex.refl H) _ k
theorem s_asgP {i : Nat} (h : EvP te σ H ps) (k : ∀ p H1, Ex H H1 → PairsAt H1 p ps → D.nx (σ.set i (some (.ref p))) H1) : tAsg te (gName i) D σ H := h H (Ex.refl H) _ k
/-- d = dict(pairs) -/
def rCopyP : List V → Hp → VK → Prop := fun xs H Q => ∃ (a : Addr) (kvs : List (Key × V)), xs = [.ref a] ∧ Rd H a (.dK kvs) ∧ ∀ p, H p = none → Q (.ref p) (upd H p (.dK kvs))
theorem q_copyP {i : Nat} (h : Ev td σ H (.ref a)) (hp : PairsAt H a ps) (k : ∀ p qs H1, H p = none → Ex H H1 → H1 p = some (.dK (kv qs)) → qs.Perm ps → tz D (σ.set i (some (.ref p))) H1) :
    tSeq (tAsg (tCB rCopyP (tCons td tNil)) (gName i)) tz D σ H := h H (Ex.refl H) _ fun H1 e => by
  obtain ⟨qs, p, n, _, g⟩ := hp
  exact ⟨a, _, rfl, .inl (e _ _ g), fun q hq => k q qs _ (fresh_back e hq) (e.trans (Ex.new hq)) upd_same p⟩
/-- d[k] = v on an own dict -/
theorem s_putP {tv : TE} {d : Addr} {qs : Ps} {w : K0.D} (hd : H d = some (.dK (kv qs))) (hv : Ev tv σ H (atV w)) (ho : Ev td σ H (.ref d)) (hk : Ev ty σ H (.str k)) (hl : qs.length < 100000)
    (c : ∀ H1, Ex H H1 → D.nx σ (upd H1 d (.dK (kv (putP qs k w))))) : sDPut td ty tv D σ H :=
  hv H (Ex.refl H) _ fun H1 e1 => ho H1 e1 _ fun H2 e2 => hk H2 (e1.trans e2) _ fun H3 e3 => by
    have e := (e1.trans e2).trans e3
    refine ⟨d, _, rfl, .inl ⟨_, .inr k, e _ _ hd, rfl, by rw [kv_len]; exact sz_lt hl, rfl⟩, ?_⟩
    rw [put_kv]
    exact c H3 e
/-- d.pop(k, None) on an own dict -/
theorem s_popP {d : Addr} {qs : Ps} (hd : H d = some (.dK (kv qs))) (ho : Ev td σ H (.ref d)) (hk : Ev ty σ H (.str k)) (hx : Ev tx σ H z)
    (c : ∀ H1, Ex H H1 → D.nx σ (upd H1 d (.dK (kv (dropP qs k))))) : tDrop (tDPop2 td ty tx) D σ H :=
  ho H (Ex.refl H) _ fun H1 e1 => ⟨d, rfl, .inl ⟨_, .inl (e1 _ _ hd)⟩, hk H1 e1 _ fun H2 e2 => hx H2 (e1.trans e2) _ fun H3 e3 => by
    have e := (e1.trans e2).trans e3
    refine ⟨_, .inr k, e _ _ hd, rfl, fun v hv => ?_, fun hv => ?_⟩
    · show D.nx σ (upd H3 d (.dK (dropK (kv qs) (.inr k))))
      rw [drop_kv]
      exact c H3 e
    · have hn : hasP qs k = false := by
        rw [val_kv] at hv
        rw [← look_has]
        cases z : lookP qs k <;> rw [z] at hv <;> first | rfl | cases hv
      have := c H3 e
      rw [drop_no hn] at this
      have same : upd H3 d (.dK (kv qs)) = H3 := by
        funext b
        by_cases w : b = d
        · subst w
          rw [upd_same, e _ _ hd]
        · rw [upd_ne w]
      rw [same] at this
      exact this⟩
end
/-! ### dicts that are equal -/
theorem val_of_perm {ps qs rs : Ps} (hq : qs.Perm ps) (hr : rs.Perm ps) (n : NoTwo ps) (z : AllAt ps) : (kv qs).length = (kv rs).length ∧ ∀ p ∈ kv qs, valV (kv rs) p.1 = some p.2 ∧ flatB p.2 = true := by
  refine ⟨by rw [kv_len, kv_len, hq.length_eq, hr.length_eq], fun p hp => ?_⟩
  obtain ⟨q, hm, rfl⟩ := List.mem_map.mp hp
  have hm' : q ∈ ps := hq.mem_iff.mp hm
  refine ⟨?_, atV_flat (z q hm')⟩
  show valV (kv rs) (.inr q.1) = some (atV q.2)
  rw [val_kv, mem_look (n.perm hr) (hr.mem_iff.mpr hm')]
  rfl
theorem sam_pairs {K : PySem.W.Frag} {H : Hp} {n : Nat} {a b : Addr} {ps : Ps} (h1 : PairsAt H a ps) (h2 : PairsAt H b ps) : Sam K H (n + 1) (.ref a) (.ref b) := by
  obtain ⟨qs, p1, n1, z1, g1⟩ := h1
  obtain ⟨rs, p2, _, _, g2⟩ := h2
  obtain ⟨l, f⟩ := val_of_perm p1 p2 n1 z1
  exact .dict g1 g2 l f
theorem sam_data {K : PySem.W.Frag} {H : Hp} {n m : Nat} {x y : V} {d : D} (h1 : Rp K H x d) (h2 : Rp K H y d) (f : d.fine m = true) (l : m ≤ n) : Sam K H n x y :=
  .data (h1.dp (fine_c f)) (h2.dp (fine_c f)) (fine_l f) (fine_l f) (Nat.le_trans (fine_d f) l) (eqv_self d (fine_c f))
/-- two tuples, of equal pairs and the same data -/
theorem sam_pa {K : PySem.W.Frag} {H : Hp} {n m : Nat} {t u p q : Addr} {x y : V} {ps : Ps} {d : D} (ht : SqT K H t [.ref p, x]) (hu : SqT K H u [.ref q, y]) (hp : PairsAt H p ps) (hq : PairsAt H q ps) (hx : Rp K H x d) (hy : Rp K H y d)
    (f : d.fine m = true) (l : m ≤ n + 1) : Sam K H (n + 2) (.ref t) (.ref u) := by
  refine .tup ht hu rfl fun j v w hv hw => ?_
  match j with
  | 0 =>
    cases hv
    cases hw
    exact sam_pairs hp hq
  | 1 =>
    cases hv
    cases hw
    exact sam_data hx hy f l
  | j + 2 => cases hv
end K0

namespace K0
open PySem PySem.Spec PyProof.Rows L2 Evl
/-! ### a call of a local name that holds one of several defs -/
def tCallS (i : Nat) (SS : List (Addr × Sp)) (t : TA) : TE := fun σ H Q => ∃ p ∈ SS, σ[i]? = some (some (.ref p.1)) ∧ t σ H fun vs H1 => p.2 vs H1 Q fun _ _ _ => False
section
variable {X : Cx} {k i : Nat} {x : Str} {p pos : Pos} {e : Expr} {es : List Expr} {t : TA}
theorem pe_callS {SS : List (Addr × Sp)} (A : ∀ q ∈ SS, Held X.prog X.w X.K X.mg X.base k q.1 q.2) (hr : Room k X.A) (hN : X.N[i]? = some x) (hv : Vis X.env.scope x) (ha : PA X (e :: es) t)
    (d1 : (x == ("__debug__" : Str)) = false := by decide) (d2 : (x == ("__classdict__" : Str)) = false := by decide)
    (st : starEach (e :: es) X.env = (false, eval e X.env) :: starEach es X.env := by rfl) (pl : (backTo pos (starEach es X.env)).any (·.1) = false := by rfl) : PE X (.Call (.Name x p) (e :: es) [] pos) (tCallS i SS t) := by
  refine ⟨fun pins s σ H Q I h => ?_⟩
  obtain ⟨q, hq, hs, ht⟩ := h
  obtain ⟨fd, ps, F, hk, hb⟩ := (A q hq).ex
  refine (pe_callL (i := i) (f := q.1) (sp := q.2) (dvs := []) (E := fun _ _ _ => False) F hr hN hv hk hb .nil (fun _ _ _ _ _ _ _ z => z.elim) ha d1 d2 st pl).run pins s σ H Q I ⟨hs, ?_⟩
  have e0 : (fun (vs : List V) (H1 : Hp) => q.2 (vs ++ []) H1 Q (fun _ _ _ => False)) = fun vs H1 => q.2 vs H1 Q (fun _ _ _ => False) := by
    funext vs H1
    rw [List.append_nil]
  show t σ H (fun vs H1 => q.2 (vs ++ []) H1 Q (fun _ _ _ => False))
  rw [e0]
  exact ht
end
/-! ### what is a deed -/
def D.worth (d : D) : Bool := d.isNon || d.value
def D.wordO : D → Option Str
  | .tup (.str w :: _) => some w | _ => none
def wV : Option Str → V
  | some w => .str w | none => .non
def nth (ds : List D) (i : Nat) : D := ds.getD i .oth
def fPut (ds : List D) : Bool := decide (ds.length = 3) && ((nth ds 1).key && (nth ds 2).value)
def fKey (ds : List D) : Bool := decide (ds.length = 2) && (nth ds 1).key
def fAdd (ds : List D) : Bool := decide (ds.length = 3) && ((nth ds 1).key && (nth ds 2).short)
def fSwap (ds : List D) : Bool := decide (ds.length = 4) && ((nth ds 1).key && ((nth ds 2).worth && (nth ds 3).worth))
def fList (ds : List D) : Bool := decide (ds.length = 3) && ((nth ds 1).key && (nth ds 2).key)
def D.lotSize : D → Bool
  | .tup es => decide (1 ≤ es.length) && decide (es.length ≤ 6) | _ => false
def fCirc (ds : List D) : Bool := decide (ds.length = 2) && (nth ds 1).circle
def lotWords : List Str := ["put", "drop", "get", "add", "swap"]
def isLot : Option Str → Bool
  | some w => lotWords.contains w | none => false
def loneF (w : Str) (ds : List D) : Bool := if w = "put" then fPut ds else if w = "drop" then fKey ds else if w = "get" then fKey ds else if w = "add" then fAdd ds else if w = "swap" then fSwap ds else false
def D.lone : D → Bool
  | .tup (.str w :: r) => loneF w (.str w :: r) | _ => false
def fAll (ds : List D) : Bool := decide (ds.length = 2) && ((nth ds 1).lotSize && (nth ds 1).kids.all fun d => isLot d.wordO && d.lone)
def deedF (w : Str) (ds : List D) : Bool := if w = "list" then fList ds else if w = "all" then fAll ds else if w = "circle" then fCirc ds else loneF w ds
def D.deed : D → Bool
  | .tup (.str w :: r) => deedF w (.str w :: r) | _ => false
section
variable {P : Program} {w : World} {K : PySem.W.Frag} {mg : Str → Option Value} {base : Heap} {A : Ad} {D : Fd}
/-- a judge of tuples -/
def spF (f : List K0.D → Bool) (K : PySem.W.Frag) : Sp := fun vs H Q _ => ∃ x ds, vs = [x] ∧ Rp K H x (.tup ds) ∧ K0.D.sizeL ds ≤ 29000 ∧ RetV (.bl (f ds)) H Q
theorem spF_len {f : List K0.D → Bool} {vs : List V} {H : Hp} {Q : VK} {E : XK} (h : spF f K vs H Q E) : vs.length = 1 := by
  obtain ⟨x, ds, rfl, _⟩ := h
  rfl
theorem svF {f : List K0.D → Bool} {H : Hp} {x : V} {ds : List K0.D} (h : Rp K H x (.tup ds)) (hs : K0.D.sizeL ds ≤ 29000) : SpV (spF f K) [x] H (.bl (f ds)) := fun H1 e Q q E => ⟨x, ds, rfl, h.ex e, hs, q⟩
theorem size_nth {ds : List K0.D} {i : Nat} : (nth ds i).size ≤ K0.D.sizeL ds + 1 := by
  unfold nth
  rw [List.getD_eq_getElem?_getD]
  cases h : ds[i]? with
  | none => exact Nat.le_add_left _ _
  | some d =>
    have := size_mem (List.mem_of_getElem? h)
    show d.size ≤ _
    omega
/-- the i-th of a tuple that is long enough -/
theorem rp_nth {H : Hp} {xs : List V} {ds : List K0.D} {i : Nat} (r : RpAll K H xs ds) (h : i < ds.length) : ∃ x, xs[i]? = some x ∧ Rp K H x (nth ds i) := by
  have hx : i < xs.length := by rw [r.len]; exact h
  obtain ⟨d, h1, h2⟩ := RpAll.get _ _ _ _ r (List.getElem?_eq_getElem hx)
  refine ⟨_, List.getElem?_eq_getElem hx, ?_⟩
  unfold nth
  rw [gd_some h1]
  exact h2
theorem ev_nth {σ : L2.St} {H : Hp} {ta : TE} {a : Addr} {xs : List V} {i : Nat} {x : V} (h : Ev ta σ H (.ref a)) (hs : SqT K H a xs) (hx : xs[i]? = some x) : Ev (tOp (rIxT K) ta (tC (.int (i : Int)))) σ H x :=
  ev_op h ev_c (rv_ixT hs (by
    unfold atI
    rw [ixN_nat (get_lt' hx)]
    exact hx))
where get_lt' {xs : List V} {i : Nat} {x : V} (h : xs[i]? = some x) : i < xs.length := (List.getElem?_eq_some_iff.mp h).1
theorem rv_eqI {H : Hp} {i j : Int} : RV rEq (.int i) (.int j) H (.bl (decide (i = j))) := fun H1 _ Q q => ⟨rfl, by
  have := q H1 (Ex.refl _)
  rw [show decide (V.int i = V.int j) = decide (i = j) from decide_eq_decide.mpr ⟨fun h => V.int.inj h, fun h => by rw [h]⟩]
  exact this⟩
theorem ev_lenIs {σ : L2.St} {H : Hp} {ta : TE} {a : Addr} {xs : List V} {ds : List K0.D} {n : Nat} (h : Ev ta σ H (.ref a)) (hs : SqT K H a xs) (r : RpAll K H xs ds) :
    Ev (tOp rEq (tCB (fun xs H Q => ∃ x n, xs = [x] ∧ LenV K x H n ∧ Q (.int n) H) (tCons ta tNil)) (tC (.int (n : Int)))) σ H (.bl (decide (ds.length = n))) :=
  ev_is (ev_op (ev_cb (ea_cons h ea_nil) (rc_lenT hs)) ev_c rv_eqI) (by rw [r.len]; exact congrArg V.bl (decide_eq_decide.mpr (by omega)))
def sp_is_worth (K : PySem.W.Frag) : Sp := spS K0.D.worth K
theorem len_is_worth {vs : List V} {H : Hp} {Q : VK} {E : XK} (h : sp_is_worth K vs H Q E) : vs.length = 1 := spS_len h
theorem ok_is_worth (T : Txt K mg A D) : FnOk P w K mg base CX0 5 A.is_worth D.is_worth ["value"] (sp_is_worth K) := by
  have G_is_value : FnOk P w K mg base CX0 4 A.is_value D.is_value ["value"] (sp_is_value K) := ok_is_value T
  refine T.F_is_worth.ok sc_is_worth (fun vs H Q E h => len_is_worth h) (fun cdv A0 outer s H vs Q E hr h => ?_)
  refine ⟨_, (pss_one (ps_ret (pe_or (pe_cmpR op_isN (pv 0) pe_non (nomark _)) (pe_one (pe_call G_is_value (hr.mono (by decide)) rfl T.g_is_value T.F_is_value.kp T.b_is_value .nil pass0 (pa_cons (pv 0) pa_nil)))))), ?_⟩
  obtain ⟨x, d, rfl, hx, hs, k⟩ := h
  exact s_ret (ev_orV (a := d.isNon) (b := d.value) (ev_is (ev_op (ev_var rfl) ev_c rv_isN) (congrArg V.bl hx.isN)) fun _ => ev_call (ea_cons (ev_var rfl) ea_nil) (svS hx hs)) fun H2 e2 => k H2 e2
def sp_word_of (K : PySem.W.Frag) : Sp := fun vs H Q _ => ∃ x d, vs = [x] ∧ Rp K H x d ∧ d.size ≤ 30000 ∧ RetV (wV d.wordO) H Q
theorem len_word_of {vs : List V} {H : Hp} {Q : VK} {E : XK} (h : sp_word_of K vs H Q E) : vs.length = 1 := by
  obtain ⟨x, d, rfl, _⟩ := h
  rfl
theorem sv_word {H : Hp} {x : V} {d : K0.D} (h : Rp K H x d) (hs : d.size ≤ 30000) : SpV (sp_word_of K) [x] H (wV d.wordO) := fun H1 e Q q E => ⟨x, d, rfl, h.ex e, hs, q⟩
theorem ok_word_of (T : Txt K mg A D) : FnOk P w K mg base CX0 1 A.word_of D.word_of ["value"] (sp_word_of K) := by
  refine T.F_word_of.ok sc_word_of (fun vs H Q E h => len_word_of h) (fun cdv A0 outer s H vs Q E hr h => ?_)
  refine ⟨_, (pss_cons (ps_if (PW.pt (pw_and (pt_val (pe_callB call_isi (by rfl) T.b_isinstance (by decide +kernel) (pa_cons (pv 0) (pa_cons (pe_bltn (v := .ty "tuple") (u := .type "tuple") (by rfl) T.b_tuple (by decide +kernel) rfl) pa_nil)))) (pw_and (pt_cmpR op_gt (pe_callB call_len (by rfl) T.b_len (by decide +kernel) (pa_cons (pv 0) pa_nil)) pe_int (nomark _)) (pw_and1 (pt_val (pe_callB call_isi (by rfl) T.b_isinstance (by decide +kernel) (pa_cons (pe_ix ix_tup (pv 0) pe_int (fun _ _ => rfl)) (pa_cons (pe_bltn (v := .ty "str") (u := .type "str") (by rfl) T.b_str (by decide +kernel) rfl) pa_nil)))))))) (pss_one (ps_ret (pe_ix ix_tup (pv 0) pe_int (fun _ _ => rfl)))) pss_nil)
  (pss_one (ps_ret pe_non))), ?_⟩
  obtain ⟨x, d, rfl, hx, hs, k⟩ := h
  by_cases ht : d.isTup = true
  · obtain ⟨a, xs, ds, rfl, rfl, hq, hr1⟩ := hx.isT ht
    have hl := hr1.len
    refine q_when (b := decide (0 < ds.length) && (nth ds 0).isStr) (et_is (et_and (a := true) (b := decide (0 < ds.length) && (nth ds 0).isStr) (et_B (ev_is (ev_cb (ea_cons (ev_var rfl) (ea_cons ev_c ea_nil)) (rc_tup hx)) rfl)) fun _ =>
      et_and (a := decide (0 < ds.length)) (et_is (et_test (ev_op (ev_cb (ea_cons (ev_var rfl) ea_nil) (rc_lenT hq)) ev_c rv_I0)) (by rw [hl]; exact decide_eq_decide.mpr (by omega))) fun h0 => ?_) (Bool.true_and _)) (fun hb H1 e1 => ?_) (fun hb H1 e1 => ?_)
    · obtain ⟨y, hy, ry⟩ := rp_nth hr1 (i := 0) (of_decide_eq_true h0)
      exact et_B (ev_cb (ea_cons (ev_nth (ev_var rfl) hq hy) (ea_cons ev_c ea_nil)) (rc_str ry))
    · have hb' := Bool.and_eq_true_iff.mp hb
      obtain ⟨y, hy, ry⟩ := rp_nth hr1 (i := 0) (of_decide_eq_true hb'.1)
      obtain ⟨s, e2, rfl⟩ := ry.isS hb'.2
      refine s_ret (ev_nth (ev_var rfl) (ex_t e1 hq) hy) fun H2 e3 => ?_
      have := k H2 (e1.trans e3)
      have hw : (K0.D.tup ds).wordO = some s := by
        cases ds with
        | nil => cases hb'.1
        | cons d r =>
          have : d = .str s := e2
          rw [this]
          rfl
      rw [hw] at this
      exact this
    · refine s_ret ev_c fun H2 e2 => ?_
      have := k H2 (e1.trans e2)
      have hw : (K0.D.tup ds).wordO = none := by
        cases ds with
        | nil => rfl
        | cons d r =>
          cases d with
          | str s => cases hb
          | _ => rfl
      rw [hw] at this
      exact this
  · have hf : d.wordO = none := by cases d <;> first | rfl | exact absurd rfl ht
    have ht' : d.isTup = false := by cases q : d.isTup <;> first | rfl | exact absurd q ht
    rw [hf] at k
    refine q_when (b := false) (et_is (et_and (a := false) (b := true) (et_is (et_B (ev_cb (ea_cons (ev_var rfl) (ea_cons ev_c ea_nil)) (rc_tup hx))) ht') fun z => by cases z) rfl) (fun z => by cases z) fun _ H1 e1 => ?_
    exact s_ret ev_c fun H2 e2 => k H2 (e1.trans e2)
def sp_is_put (K : PySem.W.Frag) : Sp := spF fPut K
theorem len_is_put {vs : List V} {H : Hp} {Q : VK} {E : XK} (h : sp_is_put K vs H Q E) : vs.length = 1 := spF_len h
theorem ok_is_put (T : Txt K mg A D) : FnOk P w K mg base CX0 5 A.is_put D.is_put ["value"] (sp_is_put K) := by
  have G_is_key : FnOk P w K mg base CX0 2 A.is_key D.is_key ["value"] (sp_is_key K) := ok_is_key T
  have G_is_value : FnOk P w K mg base CX0 4 A.is_value D.is_value ["value"] (sp_is_value K) := ok_is_value T
  refine T.F_is_put.ok sc_is_put (fun vs H Q E h => len_is_put h) (fun cdv A0 outer s H vs Q E hr h => ?_)
  refine ⟨_, (pss_one (ps_ret (pe_and (pe_cmpR op_eq (pe_callB call_len (by rfl) T.b_len (by decide +kernel) (pa_cons (pv 0) pa_nil)) pe_int (nomark _)) (pe_and (pe_call G_is_key (hr.mono (by decide)) rfl T.g_is_key T.F_is_key.kp T.b_is_key .nil pass0 (pa_cons (pe_ix ix_tup (pv 0) pe_int (fun _ _ => rfl)) pa_nil)) (pe_one (pe_call G_is_value (hr.mono (by decide)) rfl T.g_is_value T.F_is_value.kp T.b_is_value .nil pass0 (pa_cons (pe_ix ix_tup (pv 0) pe_int (fun _ _ => rfl)) pa_nil))))))), ?_⟩
  obtain ⟨x, ds, rfl, hx, hs, k⟩ := h
  obtain ⟨a, xs, rfl, hq, hr1⟩ := hx.tupI
  refine s_ret (ev_andV (ev_lenIs (n := 3) (ev_var rfl) hq hr1) fun h0 => ?_) fun H2 e2 => k H2 e2
  have hl := of_decide_eq_true h0
  obtain ⟨y1, hy1, r1⟩ := rp_nth hr1 (i := 1) (by omega)
  obtain ⟨y2, hy2, r2⟩ := rp_nth hr1 (i := 2) (by omega)
  have z1 := size_nth (ds := ds) (i := 1)
  have z2 := size_nth (ds := ds) (i := 2)
  exact ev_andV (ev_call (ea_cons (ev_nth (ev_var rfl) hq hy1) ea_nil) (svS r1 (by omega))) fun _ => ev_call (ea_cons (ev_nth (ev_var rfl) hq hy2) ea_nil) (svS r2 (by omega))
def sp_is_of_key (K : PySem.W.Frag) : Sp := spF fKey K
theorem len_is_of_key {vs : List V} {H : Hp} {Q : VK} {E : XK} (h : sp_is_of_key K vs H Q E) : vs.length = 1 := spF_len h
theorem ok_is_of_key (T : Txt K mg A D) : FnOk P w K mg base CX0 3 A.is_of_key D.is_of_key ["value"] (sp_is_of_key K) := by
  have G_is_key : FnOk P w K mg base CX0 2 A.is_key D.is_key ["value"] (sp_is_key K) := ok_is_key T
  refine T.F_is_of_key.ok sc_is_of_key (fun vs H Q E h => len_is_of_key h) (fun cdv A0 outer s H vs Q E hr h => ?_)
  refine ⟨_, (pss_one (ps_ret (pe_and (pe_cmpR op_eq (pe_callB call_len (by rfl) T.b_len (by decide +kernel) (pa_cons (pv 0) pa_nil)) pe_int (nomark _)) (pe_one (pe_call G_is_key (hr.mono (by decide)) rfl T.g_is_key T.F_is_key.kp T.b_is_key .nil pass0 (pa_cons (pe_ix ix_tup (pv 0) pe_int (fun _ _ => rfl)) pa_nil)))))), ?_⟩
  obtain ⟨x, ds, rfl, hx, hs, k⟩ := h
  obtain ⟨a, xs, rfl, hq, hr1⟩ := hx.tupI
  refine s_ret (ev_andV (ev_lenIs (n := 2) (ev_var rfl) hq hr1) fun h0 => ?_) fun H2 e2 => k H2 e2
  have hl := of_decide_eq_true h0
  obtain ⟨y1, hy1, r1⟩ := rp_nth hr1 (i := 1) (by omega)
  have z1 := size_nth (ds := ds) (i := 1)
  exact ev_call (ea_cons (ev_nth (ev_var rfl) hq hy1) ea_nil) (svS r1 (by omega))
def sp_is_add (K : PySem.W.Frag) : Sp := spF fAdd K
theorem len_is_add {vs : List V} {H : Hp} {Q : VK} {E : XK} (h : sp_is_add K vs H Q E) : vs.length = 1 := spF_len h
theorem ok_is_add (T : Txt K mg A D) : FnOk P w K mg base CX0 4 A.is_add D.is_add ["value"] (sp_is_add K) := by
  have G_is_key : FnOk P w K mg base CX0 2 A.is_key D.is_key ["value"] (sp_is_key K) := ok_is_key T
  have G_is_short_number : FnOk P w K mg base CX0 3 A.is_short_number D.is_short_number ["value"] (sp_is_short_number K) := ok_is_short_number T
  refine T.F_is_add.ok sc_is_add (fun vs H Q E h => len_is_add h) (fun cdv A0 outer s H vs Q E hr h => ?_)
  refine ⟨_, (pss_one (ps_ret (pe_and (pe_cmpR op_eq (pe_callB call_len (by rfl) T.b_len (by decide +kernel) (pa_cons (pv 0) pa_nil)) pe_int (nomark _)) (pe_and (pe_call G_is_key (hr.mono (by decide)) rfl T.g_is_key T.F_is_key.kp T.b_is_key .nil pass0 (pa_cons (pe_ix ix_tup (pv 0) pe_int (fun _ _ => rfl)) pa_nil)) (pe_one (pe_call G_is_short_number (hr.mono (by decide)) rfl T.g_is_short_number T.F_is_short_number.kp T.b_is_short_number .nil pass0 (pa_cons (pe_ix ix_tup (pv 0) pe_int (fun _ _ => rfl)) pa_nil))))))), ?_⟩
  obtain ⟨x, ds, rfl, hx, hs, k⟩ := h
  obtain ⟨a, xs, rfl, hq, hr1⟩ := hx.tupI
  refine s_ret (ev_andV (ev_lenIs (n := 3) (ev_var rfl) hq hr1) fun h0 => ?_) fun H2 e2 => k H2 e2
  have hl := of_decide_eq_true h0
  obtain ⟨y1, hy1, r1⟩ := rp_nth hr1 (i := 1) (by omega)
  obtain ⟨y2, hy2, r2⟩ := rp_nth hr1 (i := 2) (by omega)
  have z1 := size_nth (ds := ds) (i := 1)
  exact ev_andV (ev_call (ea_cons (ev_nth (ev_var rfl) hq hy1) ea_nil) (svS r1 (by omega))) fun _ => ev_call (ea_cons (ev_nth (ev_var rfl) hq hy2) ea_nil) (sv1 r2)
def sp_is_swap (K : PySem.W.Frag) : Sp := spF fSwap K
theorem len_is_swap {vs : List V} {H : Hp} {Q : VK} {E : XK} (h : sp_is_swap K vs H Q E) : vs.length = 1 := spF_len h
theorem ok_is_swap (T : Txt K mg A D) : FnOk P w K mg base CX0 6 A.is_swap D.is_swap ["value"] (sp_is_swap K) := by
  have G_is_key : FnOk P w K mg base CX0 2 A.is_key D.is_key ["value"] (sp_is_key K) := ok_is_key T
  have G_is_worth : FnOk P w K mg base CX0 5 A.is_worth D.is_worth ["value"] (sp_is_worth K) := ok_is_worth T
  refine T.F_is_swap.ok sc_is_swap (fun vs H Q E h => len_is_swap h) (fun cdv A0 outer s H vs Q E hr h => ?_)
  refine ⟨_, (pss_one (ps_ret (pe_and (pe_cmpR op_eq (pe_callB call_len (by rfl) T.b_len (by decide +kernel) (pa_cons (pv 0) pa_nil)) pe_int (nomark _)) (pe_and (pe_call G_is_key (hr.mono (by decide)) rfl T.g_is_key T.F_is_key.kp T.b_is_key .nil pass0 (pa_cons (pe_ix ix_tup (pv 0) pe_int (fun _ _ => rfl)) pa_nil)) (pe_and (pe_call G_is_worth (hr.mono (by decide)) rfl T.g_is_worth T.F_is_worth.kp T.b_is_worth .nil pass0 (pa_cons (pe_ix ix_tup (pv 0) pe_int (fun _ _ => rfl)) pa_nil)) (pe_one (pe_call G_is_worth (hr.mono (by decide)) rfl T.g_is_worth T.F_is_worth.kp T.b_is_worth .nil pass0 (pa_cons (pe_ix ix_tup (pv 0) pe_int (fun _ _ => rfl)) pa_nil)))))))), ?_⟩
  obtain ⟨x, ds, rfl, hx, hs, k⟩ := h
  obtain ⟨a, xs, rfl, hq, hr1⟩ := hx.tupI
  refine s_ret (ev_andV (ev_lenIs (n := 4) (ev_var rfl) hq hr1) fun h0 => ?_) fun H2 e2 => k H2 e2
  have hl := of_decide_eq_true h0
  obtain ⟨y1, hy1, r1⟩ := rp_nth hr1 (i := 1) (by omega)
  obtain ⟨y2, hy2, r2⟩ := rp_nth hr1 (i := 2) (by omega)
  obtain ⟨y3, hy3, r3⟩ := rp_nth hr1 (i := 3) (by omega)
  have z1 := size_nth (ds := ds) (i := 1)
  have z2 := size_nth (ds := ds) (i := 2)
  have z3 := size_nth (ds := ds) (i := 3)
  exact ev_andV (ev_call (ea_cons (ev_nth (ev_var rfl) hq hy1) ea_nil) (svS r1 (by omega))) fun _ => ev_andV (ev_call (ea_cons (ev_nth (ev_var rfl) hq hy2) ea_nil) (svS r2 (by omega))) fun _ => ev_call (ea_cons (ev_nth (ev_var rfl) hq hy3) ea_nil) (svS r3 (by omega))
def sp_is_list (K : PySem.W.Frag) : Sp := spF fList K
theorem len_is_list {vs : List V} {H : Hp} {Q : VK} {E : XK} (h : sp_is_list K vs H Q E) : vs.length = 1 := spF_len h
theorem ok_is_list (T : Txt K mg A D) : FnOk P w K mg base CX0 3 A.is_list D.is_list ["value"] (sp_is_list K) := by
  have G_is_key : FnOk P w K mg base CX0 2 A.is_key D.is_key ["value"] (sp_is_key K) := ok_is_key T
  refine T.F_is_list.ok sc_is_list (fun vs H Q E h => len_is_list h) (fun cdv A0 outer s H vs Q E hr h => ?_)
  refine ⟨_, (pss_one (ps_ret (pe_and (pe_cmpR op_eq (pe_callB call_len (by rfl) T.b_len (by decide +kernel) (pa_cons (pv 0) pa_nil)) pe_int (nomark _)) (pe_and (pe_call G_is_key (hr.mono (by decide)) rfl T.g_is_key T.F_is_key.kp T.b_is_key .nil pass0 (pa_cons (pe_ix ix_tup (pv 0) pe_int (fun _ _ => rfl)) pa_nil)) (pe_one (pe_call G_is_key (hr.mono (by decide)) rfl T.g_is_key T.F_is_key.kp T.b_is_key .nil pass0 (pa_cons (pe_ix ix_tup (pv 0) pe_int (fun _ _ => rfl)) pa_nil))))))), ?_⟩
  obtain ⟨x, ds, rfl, hx, hs, k⟩ := h
  obtain ⟨a, xs, rfl, hq, hr1⟩ := hx.tupI
  refine s_ret (ev_andV (ev_lenIs (n := 3) (ev_var rfl) hq hr1) fun h0 => ?_) fun H2 e2 => k H2 e2
  have hl := of_decide_eq_true h0
  obtain ⟨y1, hy1, r1⟩ := rp_nth hr1 (i := 1) (by omega)
  obtain ⟨y2, hy2, r2⟩ := rp_nth hr1 (i := 2) (by omega)
  have z1 := size_nth (ds := ds) (i := 1)
  have z2 := size_nth (ds := ds) (i := 2)
  exact ev_andV (ev_call (ea_cons (ev_nth (ev_var rfl) hq hy1) ea_nil) (svS r1 (by omega))) fun _ => ev_call (ea_cons (ev_nth (ev_var rfl) hq hy2) ea_nil) (svS r2 (by omega))
def sp_has_lot_size (K : PySem.W.Frag) : Sp := sp1 K0.D.lotSize K
theorem len_has_lot_size {vs : List V} {H : Hp} {Q : VK} {E : XK} (h : sp_has_lot_size K vs H Q E) : vs.length = 1 := sp1_len h
theorem ok_has_lot_size (T : Txt K mg A D) : FnOk P w K mg base CX0 1 A.has_lot_size D.has_lot_size ["value"] (sp_has_lot_size K) := by
  obtain ⟨t_MAX_LOT, c_MAX_LOT⟩ := T.c_MAX_LOT
  refine T.F_has_lot_size.ok sc_has_lot_size (fun vs H Q E h => len_has_lot_size h) (fun cdv A0 outer s H vs Q E hr h => ?_)
  refine ⟨_, (pss_one (ps_ret (pe_and (pe_callB call_isi (by rfl) T.b_isinstance (by decide +kernel) (pa_cons (pv 0) (pa_cons (pe_bltn (v := .ty "tuple") (u := .type "tuple") (by rfl) T.b_tuple (by decide +kernel) rfl) pa_nil))) (pe_one (pe_chain op_le op_le pe_int (pe_callB call_len (by rfl) T.b_len (by decide +kernel) (pa_cons (pv 0) pa_nil)) (pe_glob (v := .int (6)) rfl c_MAX_LOT ⟨_, rfl⟩)))))), ?_⟩
  obtain ⟨x, d, rfl, hx, k⟩ := h
  refine s_ret (ev_is (ev_andV (a := d.isTup) (b := d.lotSize) (ev_cb (ea_cons (ev_var rfl) (ea_cons ev_c ea_nil)) (rc_tup hx)) fun hb => ?_) ?_) fun H2 e2 => k H2 e2
  · obtain ⟨a, xs, ds, rfl, rfl, hq, hr1⟩ := hx.isT hb
    refine ev_is (ev_chain_le (i := 1) (j := (xs.length : Nat)) (k := 6) ev_c (ev_cb (ea_cons (ev_var rfl) ea_nil) (rc_lenT hq)) ev_c) ?_
    rw [hr1.len]
    show V.bl _ = V.bl (decide (1 ≤ ds.length) && decide (ds.length ≤ 6))
    congr 2
    · exact decide_eq_decide.mpr (by omega)
    · exact decide_eq_decide.mpr (by omega)
  · cases d <;> first | rfl | (show V.bl (true && _) = V.bl _; rw [Bool.true_and])
def sp_is_of_circle (K : PySem.W.Frag) : Sp := spF fCirc K
theorem len_is_of_circle {vs : List V} {H : Hp} {Q : VK} {E : XK} (h : sp_is_of_circle K vs H Q E) : vs.length = 1 := spF_len h
theorem ok_is_of_circle (T : Txt K mg A D) : FnOk P w K mg base CX0 5 A.is_of_circle D.is_of_circle ["value"] (sp_is_of_circle K) := by
  have G_is_circle : FnOk P w K mg base CX0 4 A.is_circle D.is_circle ["value"] (sp_is_circle K) := ok_is_circle T
  refine T.F_is_of_circle.ok sc_is_of_circle (fun vs H Q E h => len_is_of_circle h) (fun cdv A0 outer s H vs Q E hr h => ?_)
  refine ⟨_, (pss_one (ps_ret (pe_and (pe_cmpR op_eq (pe_callB call_len (by rfl) T.b_len (by decide +kernel) (pa_cons (pv 0) pa_nil)) pe_int (nomark _)) (pe_one (pe_call G_is_circle (hr.mono (by decide)) rfl T.g_is_circle T.F_is_circle.kp T.b_is_circle .nil pass0 (pa_cons (pe_ix ix_tup (pv 0) pe_int (fun _ _ => rfl)) pa_nil)))))), ?_⟩
  obtain ⟨x, ds, rfl, hx, hs, k⟩ := h
  obtain ⟨a, xs, rfl, hq, hr1⟩ := hx.tupI
  refine s_ret (ev_andV (ev_lenIs (n := 2) (ev_var rfl) hq hr1) fun h0 => ?_) fun H2 e2 => k H2 e2
  have hl := of_decide_eq_true h0
  obtain ⟨y1, hy1, r1⟩ := rp_nth hr1 (i := 1) (by omega)
  have z1 := size_nth (ds := ds) (i := 1)
  exact ev_call (ea_cons (ev_nth (ev_var rfl) hq hy1) ea_nil) (svS r1 (by omega))
end
end K0

namespace K0
open PySem L2 Evl
section
variable {K : PySem.W.Frag} {w : World} {σ : L2.St} {H : Hp} {t : TA} {vs : List V} {z : V}
def rNik (K : PySem.W.Frag) (d : Addr) : R2 := fun x y H Q => ∃ (z : Str) (r : Option Value), x = V.str z ∧ y = V.ref d ∧ PySem.W.nsIn K d z = some r ∧ Q (.bl (!r.isSome)) H
theorem rv_nik {d : Addr} {s : Str} {r : Option Value} (h : PySem.W.nsIn K d s = some r) : RV (rNik K d) (.str s) (.ref d) H (.bl (!r.isSome)) := fun H1 _ Q q => ⟨s, r, rfl, rfl, h, q H1 (Ex.refl _)⟩
theorem rv_kd {d f : Addr} {s : Str} {es : Array DictEntry} {n : Nat} (D : KDict K w d es n) (h : PySem.W.nsIn K d s = some (some (.ref f))) : RV (rIxD K w) (.ref d) (.str s) H (.ref f) := fun H1 _ Q q => ⟨d, s, .ref f, rfl, rfl, ⟨es, n, _, D.at_, D.lit, h, rfl⟩, q H1 (Ex.refl _)⟩
theorem ev_callS {SS : List (Addr × Sp)} {i : Nat} {p : Addr × Sp} (hp : p ∈ SS) (hs : σ[i]? = some (some (.ref p.1))) (h : EvA t σ H vs) (hsp : SpV p.2 vs H z) : Ev (tCallS i SS t) σ H z := fun H1 e Q q =>
  ⟨p, hp, hs, h H1 e _ fun H2 e2 => hsp H2 (e.trans e2) Q (fun H3 e3 => q H3 (e2.trans e3)) _⟩
/-- the same with what may change -/
theorem c_callS {SS : List (Addr × Sp)} {i : Nat} {p : Addr × Sp} {Q : VK} (hp : p ∈ SS) (hs : σ[i]? = some (some (.ref p.1))) (h : EvA t σ H vs) (k : ∀ H1, Ex H H1 → p.2 vs H1 Q fun _ _ _ => False) : tCallS i SS t σ H Q := ⟨p, hp, hs, h H (Ex.refl H) _ k⟩
end
section
variable {P : Program} {w : World} {K : PySem.W.Frag} {mg : Str → Option Value} {base : Heap} {A : Ad} {D : Fd}
def loSS (K : PySem.W.Frag) (A : Ad) : List (Addr × Sp) := [(A.is_put, sp_is_put K), (A.is_of_key, sp_is_of_key K), (A.is_add, sp_is_add K), (A.is_swap, sp_is_swap K)]
/-- a deed for lots -/
def sp_is_deed0 (K : PySem.W.Frag) : Sp := fun vs H Q _ => ∃ x d, vs = [x] ∧ Rp K H x d ∧ d.size ≤ 29000 ∧ isLot d.wordO = true ∧ RetV (.bl d.lone) H Q
theorem len_is_deed0 {vs : List V} {H : Hp} {Q : VK} {E : XK} (h : sp_is_deed0 K vs H Q E) : vs.length = 1 := by
  obtain ⟨x, d, rfl, _⟩ := h
  rfl
theorem word_tup {d : K0.D} {s : Str} (h : d.wordO = some s) : ∃ r, d = .tup (.str s :: r) := by
  cases d with
  | tup ds =>
    cases ds with
    | nil => cases h
    | cons a r =>
      cases a with
      | str s' => exact ⟨r, by cases h; rfl⟩
      | _ => cases h
  | _ => cases h
theorem loneF_put (ds : List K0.D) : loneF "put" ds = fPut ds := by
  unfold loneF
  rw [if_pos rfl]
theorem loneF_drop (ds : List K0.D) : loneF "drop" ds = fKey ds := by
  unfold loneF
  rw [if_neg (by decide +kernel), if_pos rfl]
theorem loneF_get (ds : List K0.D) : loneF "get" ds = fKey ds := by
  unfold loneF
  rw [if_neg (by decide +kernel), if_neg (by decide +kernel), if_pos rfl]
theorem loneF_add (ds : List K0.D) : loneF "add" ds = fAdd ds := by
  unfold loneF
  rw [if_neg (by decide +kernel), if_neg (by decide +kernel), if_neg (by decide +kernel), if_pos rfl]
theorem loneF_swap (ds : List K0.D) : loneF "swap" ds = fSwap ds := by
  unfold loneF
  rw [if_neg (by decide +kernel), if_neg (by decide +kernel), if_neg (by decide +kernel), if_neg (by decide +kernel), if_pos rfl]
theorem sv_is {sp : Sp} {vs : List V} {H : Hp} {a b : Bool} (h : SpV sp vs H (.bl a)) (e : b = a) : SpV sp vs H (.bl b) := e ▸ h
theorem lot_cases {s : Str} (h : isLot (some s) = true) : s = "put" ∨ s = "drop" ∨ s = "get" ∨ s = "add" ∨ s = "swap" := by
  have : s ∈ lotWords := List.elem_iff.mp h
  simpa [lotWords] using this
theorem ok_is_deed0 (T : Txt K mg A D) (U : Tab K w mg A) : FnOk P w K mg base CX0 16 A.is_deed D.is_deed ["value"] (sp_is_deed0 K) := by
  have G_word_of : FnOk P w K mg base CX0 1 A.word_of D.word_of ["value"] (sp_word_of K) := ok_word_of T
  obtain ⟨a_DEED_FORMS, g_DEED_FORMS, _, _, kd_DEED_FORMS, nx_DEED_FORMS⟩ := U.d_DEED_FORMS
  have held : ∀ q ∈ loSS K A, Held P w K mg base 15 q.1 q.2 := by
    intro q hq
    simp only [loSS, List.mem_cons, List.not_mem_nil, or_false] at hq
    rcases hq with rfl | rfl | rfl | rfl
    · exact ⟨_, _, (ok_is_put T).mono (by decide), T.F_is_put.kp, T.b_is_put⟩
    · exact ⟨_, _, (ok_is_of_key T).mono (by decide), T.F_is_of_key.kp, T.b_is_of_key⟩
    · exact ⟨_, _, (ok_is_add T).mono (by decide), T.F_is_add.kp, T.b_is_add⟩
    · exact ⟨_, _, (ok_is_swap T).mono (by decide), T.F_is_swap.kp, T.b_is_swap⟩
  refine T.F_is_deed.ok sc_is_deed (fun vs H Q E h => len_is_deed0 h) (fun cdv A0 outer s H vs Q E hr h => ?_)
  refine ⟨_, (pss_cons (ps_set (i := 1) sc_is_deed.nd rfl (Or.inl rfl) (pe_call G_word_of (hr.mono (by decide)) rfl T.g_word_of T.F_word_of.kp T.b_word_of .nil pass0 (pa_cons (pv 0) pa_nil)))
  (pss_cons (ps_if (pt_cmpR (op_notIn_kd kd_DEED_FORMS) (pv 1) (pe_glob (v := .ref a_DEED_FORMS) rfl g_DEED_FORMS rfl) (by rfl)) (pss_one (ps_ret pe_bl)) pss_nil)
  (pss_cons (ps_set (i := 2) sc_is_deed.nd rfl (Or.inl rfl) (pe_ix ix_kdict (pe_glob (v := .ref a_DEED_FORMS) rfl g_DEED_FORMS rfl) (pv 1) (fun _ _ => rfl)))
  (pss_one (ps_ret (pe_callS (i := 2) held hr rfl (Or.inl rfl) (pa_cons (pv 0) pa_nil))))))), ?_⟩
  obtain ⟨x, d, rfl, hx, hs, hw, k⟩ := h
  cases hwo : d.wordO with
  | none => rw [hwo] at hw; cases hw
  | some s =>
  rw [hwo] at hw
  obtain ⟨r, rfl⟩ := word_tup hwo
  have hs2 : K0.D.sizeL (K0.D.str s :: r) ≤ 29000 := by
    simp only [K0.D.size] at hs
    omega
  refine q_asg (v := .str s) (ev_call (ea_cons (ev_var rfl) ea_nil) (sv_word hx (by omega))) fun H1 e1 => ?_
  have got : ∃ f sp, (f, sp) ∈ loSS K A ∧ PySem.W.nsIn K a_DEED_FORMS s = some (some (.ref f)) ∧ SpV sp [x] H (.bl (K0.D.tup (.str s :: r)).lone) := by
    rcases lot_cases hw with rfl | rfl | rfl | rfl | rfl
    · exact ⟨A.is_put, sp_is_put K, by simp [loSS], nx_DEED_FORMS "put", sv_is (svF (f := fPut) hx hs2) (loneF_put _)⟩
    · exact ⟨A.is_of_key, sp_is_of_key K, by simp [loSS], nx_DEED_FORMS "drop", sv_is (svF (f := fKey) hx hs2) (loneF_drop _)⟩
    · exact ⟨A.is_of_key, sp_is_of_key K, by simp [loSS], nx_DEED_FORMS "get", sv_is (svF (f := fKey) hx hs2) (loneF_get _)⟩
    · exact ⟨A.is_add, sp_is_add K, by simp [loSS], nx_DEED_FORMS "add", sv_is (svF (f := fAdd) hx hs2) (loneF_add _)⟩
    · exact ⟨A.is_swap, sp_is_swap K, by simp [loSS], nx_DEED_FORMS "swap", sv_is (svF (f := fSwap) hx hs2) (loneF_swap _)⟩
  obtain ⟨f, sp, hm, hn, hv⟩ := got
  refine q_when (b := false) (et_test (ev_op (ev_var rfl) ev_c (rv_nik hn))) (fun z => by cases z) fun _ H2 e2 => ?_
  refine q_asg (ev_op ev_c (ev_var rfl) (rv_kd kd_DEED_FORMS hn)) fun H3 e3 => ?_
  exact s_ret (ev_callS (p := (f, sp)) hm rfl (ea_cons (ev_var rfl) ea_nil) fun H4 e4 Q q E => hv H4 (((e1.trans e2).trans e3).trans e4) Q q E) fun H4 e4 => k H4 (((e1.trans e2).trans e3).trans e4)
end
end K0

namespace K0
open PySem L2 Evl
section
variable {P : Program} {w : World} {K : PySem.W.Frag} {mg : Str → Option Value} {base : Heap} {A : Ad} {D : Fd}
def sp_is_all (K : PySem.W.Frag) : Sp := spF fAll K
theorem len_is_all {vs : List V} {H : Hp} {Q : VK} {E : XK} (h : sp_is_all K vs H Q E) : vs.length = 1 := spF_len h
def lotV : List V := [.str "put", .str "drop", .str "get", .str "add", .str "swap"]
theorem inV_strs (x : Str) : ∀ ws : List Str, inV (.str x) (ws.map V.str) = ws.contains x
  | [] => rfl
  | w :: r => by
    have ih := inV_strs x r
    unfold inV at ih ⊢
    rw [List.map_cons, List.any_cons, ih, List.contains_cons]
    congr 1
    show (w == x) = (x == w)
    exact Bool.eq_iff_iff.mpr ⟨fun h => by rw [beq_iff_eq] at h ⊢; exact h.symm, fun h => by rw [beq_iff_eq] at h ⊢; exact h.symm⟩
theorem inV_none : ∀ ws : List Str, inV .non (ws.map V.str) = false
  | [] => rfl
  | w :: r => by
    have ih := inV_none r
    unfold inV at ih ⊢
    rw [List.map_cons, List.any_cons, ih]
    rfl
theorem inV_lot (o : Option Str) : inV (wV o) lotV = isLot o := by
  cases o with
  | none => exact inV_none lotWords
  | some s => exact inV_strs s lotWords
theorem op_in_seqK {X : Cx} {K : PySem.W.Frag} (h : X.K = K) : OpR X (compareOp .In) (rIn K false) := h ▸ op_in_seq
theorem ok_is_all (T : Txt K mg A D) (U : Tab K w mg A) : FnOk P w K mg base CX0 20 A.is_all D.is_all ["value"] (sp_is_all K) := by
  have G_has_lot_size : FnOk P w K mg base CX0 1 A.has_lot_size D.has_lot_size ["value"] (sp_has_lot_size K) := ok_has_lot_size T
  have G_word_of : FnOk P w K mg base CX0 1 A.word_of D.word_of ["value"] (sp_word_of K) := ok_word_of T
  have G_is_deed := ok_is_deed0 (P := P) (base := base) T U
  obtain ⟨a_LOT_WORDS, g_LOT_WORDS, d_LOT_WORDS⟩ := T.t_LOT_WORDS
  refine T.F_is_all.ok sc_is_all (fun vs H Q E h => len_is_all h) (fun cdv A0 outer s H vs Q E hr h => ?_)
  refine ⟨_, (pss_cons (ps_if (PW.pt (pw_or (pt_cmpR op_ne (pe_callB call_len (by rfl) T.b_len (by decide +kernel) (pa_cons (pv 0) pa_nil)) pe_int (nomark _)) (pw_or1 (pt_not (pt_val (pe_call G_has_lot_size (hr.mono (by decide)) rfl T.g_has_lot_size T.F_has_lot_size.kp T.b_has_lot_size .nil pass0 (pa_cons (pe_ix ix_tup (pv 0) pe_int (fun _ _ => rfl)) pa_nil))))))) (pss_one (ps_ret pe_bl)) pss_nil)
  (pss_one (ps_ret (pe_callB (cr_all rfl) (by rfl) T.b_all (by decide +kernel) (pa_cons (pe_lc (own := [("part", 1)]) (g := gName 1) (tt := tYes) rfl sc_is_all.nd (pi_tup (pe_ix ix_tup (pv 0) pe_int (fun _ _ => rfl))) (blkOk_by (own := [("part", 1)]) (N := N_is_all) (sc := defScope s_is_all) (by decide +kernel)) (fun _ _ _ _ _ => by exact pg_name (i := 1) sc_is_all.nd rfl (Or.inl rfl)) (fun _ _ _ _ _ => by exact pts_nil) (fun _ _ _ _ _ => by exact (pe_and (pe_cmpR (op_in_seqK (K := K) (by rfl)) (pe_call G_word_of (hr.mono (by decide)) rfl T.g_word_of T.F_word_of.kp T.b_word_of .nil pass0 (pa_cons (pv 1) pa_nil)) (pe_glob (v := .ref a_LOT_WORDS) rfl g_LOT_WORDS rfl) (by rfl)) (pe_one (pe_call G_is_deed (hr.mono (by decide)) rfl T.g_is_deed T.F_is_deed.kp T.b_is_deed .nil pass0 (pa_cons (pv 1) pa_nil)))))) pa_nil))))), ?_⟩
  obtain ⟨x, ds, rfl, hx, hs, k⟩ := h
  obtain ⟨a, xs, rfl, hq, hr1⟩ := hx.tupI
  refine q_when (b := !(decide (ds.length = 2) && (nth ds 1).lotSize)) (et_is (et_or (a := !decide (ds.length = 2)) (b := !(nth ds 1).lotSize) (et_is (et_test (ev_op (ev_cb (ea_cons (ev_var rfl) ea_nil) (rc_lenT hq)) ev_c (rv_ne rfl))) ?_) fun h0 => ?_) ?_) (fun hb H1 e1 => ?_) (fun hb H1 e1 => ?_)
  · rw [hr1.len]
    congr 1
    exact decide_eq_decide.mpr ⟨fun h => by have := V.int.inj h; omega, fun h => by rw [h]; rfl⟩
  · have hl : ds.length = 2 := by
      cases q : decide (ds.length = 2) with
      | true => exact of_decide_eq_true q
      | false => rw [q] at h0; cases h0
    obtain ⟨y1, hy1, r1⟩ := rp_nth hr1 (i := 1) (by omega)
    exact et_not (et_B (ev_call (ea_cons (ev_nth (ev_var rfl) hq hy1) ea_nil) (sv1 r1)))
  · cases decide (ds.length = 2) <;> cases (nth ds 1).lotSize <;> rfl
  · refine s_ret ev_c fun H2 e2 => ?_
    have := k H2 (e1.trans e2)
    have hf : fAll ds = false := by
      unfold fAll
      rw [← Bool.and_assoc]
      cases q : (decide (ds.length = 2) && (nth ds 1).lotSize) with
      | false => rfl
      | true => rw [q] at hb; cases hb
    rw [hf] at this
    exact this
  · have hb' : (decide (ds.length = 2) && (nth ds 1).lotSize) = true := by
      cases q : (decide (ds.length = 2) && (nth ds 1).lotSize) with
      | true => rfl
      | false => rw [q] at hb; cases hb
    have hb2 := Bool.and_eq_true_iff.mp hb'
    have hl := of_decide_eq_true hb2.1
    obtain ⟨y1, hy1, r1⟩ := rp_nth hr1 (i := 1) (by omega)
    have z1 := size_nth (ds := ds) (i := 1)
    obtain ⟨b, ys, es, e0, rfl, hqb, hrb⟩ := r1.isT (by
      cases q : nth ds 1 <;> first | rfl | (have := hb2.2; rw [q] at this; cases this))
    have hlen := hrb.len
    have zl := sizeL_len es
    have zz : K0.D.sizeL es ≤ 29000 := by
      rw [e0] at z1
      simp only [K0.D.size] at z1
      omega
    refine s_ret (ev_is (ev_all (bs := (List.range ys.length).map fun i => (isLot (es.getD i .non).wordO && (es.getD i .non).lone)) ?_) ?_) fun H2 e2 => k H2 (e1.trans e2)
    · rw [List.map_map, ← given_map (f := fun _ => true) (fun _ => rfl)]
      refine el_lcT (fun _ => true) _ (ev_nth (ev_var rfl) (ex_t e1 hq) hy1) (ex_t e1 hqb) (by omega) (fun _ => rfl) (fun i y H3 e3 hy => et_yes) (fun i y H3 e3 hy _ => ?_)
      obtain ⟨d, hd, hrp⟩ := RpAll.get _ _ _ _ (hrb.ex (e1.trans e3)) hy
      have hsz := size_mem (List.mem_of_getElem? hd)
      refine ev_is (ev_andV (a := isLot d.wordO) (b := d.lone) (ev_is (ev_op (ev_call (ea_cons (ev_var rfl) ea_nil) (sv_word hrp (by omega))) ev_c (rv_isT (xs := lotV) (d_LOT_WORDS _) ?_ (by decide +kernel))) (congrArg V.bl (inV_lot _))) fun hw => ev_call (ea_cons (ev_var rfl) ea_nil) fun H4 e4 Q4 q4 E4 => ⟨_, d, rfl, hrp.ex e4, by omega, hw, q4⟩) ?_
      · cases d.wordO <;> rfl
      · show V.bl (isLot d.wordO && d.lone) = V.bl (isLot (es.getD i .non).wordO && (es.getD i .non).lone)
        rw [gd_some hd]
    · rw [List.all_map, hlen]
      show V.bl ((List.range es.length).all fun i => isLot (es.getD i .non).wordO && (es.getD i .non).lone) = V.bl (fAll ds)
      unfold fAll
      rw [e0, all_getD es fun d => isLot d.wordO && d.lone, hb2.1]
      have : (K0.D.tup es).lotSize = true := by rw [← e0]; exact hb2.2
      rw [this]
      rfl
end
end K0

namespace K0
open PySem L2 Evl
section
variable {P : Program} {w : World} {K : PySem.W.Frag} {mg : Str → Option Value} {base : Heap} {A : Ad} {D : Fd}
def hiSS (K : PySem.W.Frag) (A : Ad) : List (Addr × Sp) := loSS K A ++ [(A.is_list, sp_is_list K), (A.is_all, sp_is_all K), (A.is_of_circle, sp_is_of_circle K)]
def deedWords : List Str := ["put", "drop", "get", "add", "swap", "list", "all", "circle"]
theorem deedF_list (ds : List K0.D) : deedF "list" ds = fList ds := by
  unfold deedF
  rw [if_pos rfl]
theorem deedF_all (ds : List K0.D) : deedF "all" ds = fAll ds := by
  unfold deedF
  rw [if_neg (by decide +kernel), if_pos rfl]
theorem deedF_circle (ds : List K0.D) : deedF "circle" ds = fCirc ds := by
  unfold deedF
  rw [if_neg (by decide +kernel), if_neg (by decide +kernel), if_pos rfl]
theorem deedF_lot {s : Str} (ds : List K0.D) (h : isLot (some s) = true) : deedF s ds = loneF s ds := by
  unfold deedF
  rcases lot_cases h with rfl | rfl | rfl | rfl | rfl <;> rw [if_neg (by decide +kernel), if_neg (by decide +kernel), if_neg (by decide +kernel)]
theorem deedF_not {s : Str} (ds : List K0.D) (h : ¬ s ∈ deedWords) : deedF s ds = false := by
  have hn : ∀ t ∈ deedWords, ¬ (s = t) := fun t ht z => h (z ▸ ht)
  unfold deedF loneF
  rw [if_neg (hn _ (by simp [deedWords])), if_neg (hn _ (by simp [deedWords])), if_neg (hn _ (by simp [deedWords])), if_neg (hn _ (by simp [deedWords])), if_neg (hn _ (by simp [deedWords])), if_neg (hn _ (by simp [deedWords])), if_neg (hn _ (by simp [deedWords])), if_neg (hn _ (by simp [deedWords]))]
theorem lookup_not {s : Str} : ∀ {ts : List (Str × Addr)}, (∀ t ∈ ts, ¬ t.1 = s) → ts.lookup s = none
  | [], _ => rfl
  | t :: r, h => by
    rw [List.lookup_cons]
    have h1 := h t (List.mem_cons_self ..)
    rw [show (s == t.1) = false from beq_eq_false_iff_ne.mpr fun z => h1 z.symm]
    exact lookup_not fun u hu => h u (List.mem_cons_of_mem _ hu)
def sp_is_deed (K : PySem.W.Frag) : Sp := fun vs H Q _ => ∃ x d, vs = [x] ∧ Rp K H x d ∧ d.size ≤ 29000 ∧ d.wordO.isSome = true ∧ RetV (.bl d.deed) H Q
theorem len_is_deed {vs : List V} {H : Hp} {Q : VK} {E : XK} (h : sp_is_deed K vs H Q E) : vs.length = 1 := by
  obtain ⟨x, d, rfl, _⟩ := h
  rfl
theorem sv_deed {H : Hp} {x : V} {d : K0.D} (h : Rp K H x d) (hs : d.size ≤ 29000) (hw : d.wordO.isSome = true) : SpV (sp_is_deed K) [x] H (.bl d.deed) := fun H1 e Q q E => ⟨x, d, rfl, h.ex e, hs, hw, q⟩
theorem ok_is_deed (T : Txt K mg A D) (U : Tab K w mg A) : FnOk P w K mg base CX0 24 A.is_deed D.is_deed ["value"] (sp_is_deed K) := by
  have G_word_of : FnOk P w K mg base CX0 1 A.word_of D.word_of ["value"] (sp_word_of K) := ok_word_of T
  obtain ⟨a_DEED_FORMS, g_DEED_FORMS, _, _, kd_DEED_FORMS, nx_DEED_FORMS⟩ := U.d_DEED_FORMS
  have held : ∀ q ∈ hiSS K A, Held P w K mg base 23 q.1 q.2 := by
    intro q hq
    simp only [hiSS, loSS, List.cons_append, List.nil_append, List.mem_cons, List.not_mem_nil, or_false] at hq
    rcases hq with rfl | rfl | rfl | rfl | rfl | rfl | rfl
    · exact ⟨_, _, (ok_is_put T).mono (by decide), T.F_is_put.kp, T.b_is_put⟩
    · exact ⟨_, _, (ok_is_of_key T).mono (by decide), T.F_is_of_key.kp, T.b_is_of_key⟩
    · exact ⟨_, _, (ok_is_add T).mono (by decide), T.F_is_add.kp, T.b_is_add⟩
    · exact ⟨_, _, (ok_is_swap T).mono (by decide), T.F_is_swap.kp, T.b_is_swap⟩
    · exact ⟨_, _, (ok_is_list T).mono (by decide), T.F_is_list.kp, T.b_is_list⟩
    · exact ⟨_, _, (ok_is_all T U).mono (by decide), T.F_is_all.kp, T.b_is_all⟩
    · exact ⟨_, _, (ok_is_of_circle T).mono (by decide), T.F_is_of_circle.kp, T.b_is_of_circle⟩
  refine T.F_is_deed.ok sc_is_deed (fun vs H Q E h => len_is_deed h) (fun cdv A0 outer s H vs Q E hr h => ?_)
  refine ⟨_, (pss_cons (ps_set (i := 1) sc_is_deed.nd rfl (Or.inl rfl) (pe_call G_word_of (hr.mono (by decide)) rfl T.g_word_of T.F_word_of.kp T.b_word_of .nil pass0 (pa_cons (pv 0) pa_nil)))
  (pss_cons (ps_if (pt_cmpR (op_notIn_kd kd_DEED_FORMS) (pv 1) (pe_glob (v := .ref a_DEED_FORMS) rfl g_DEED_FORMS rfl) (by rfl)) (pss_one (ps_ret pe_bl)) pss_nil)
  (pss_cons (ps_set (i := 2) sc_is_deed.nd rfl (Or.inl rfl) (pe_ix ix_kdict (pe_glob (v := .ref a_DEED_FORMS) rfl g_DEED_FORMS rfl) (pv 1) (fun _ _ => rfl)))
  (pss_one (ps_ret (pe_callS (i := 2) held hr rfl (Or.inl rfl) (pa_cons (pv 0) pa_nil))))))), ?_⟩
  obtain ⟨x, d, rfl, hx, hs, hw, k⟩ := h
  cases hwo : d.wordO with
  | none => rw [hwo] at hw; cases hw
  | some s =>
  obtain ⟨r, rfl⟩ := word_tup hwo
  have hs2 : K0.D.sizeL (K0.D.str s :: r) ≤ 29000 := by
    simp only [K0.D.size] at hs
    omega
  refine q_asg (v := .str s) (ev_call (ea_cons (ev_var rfl) ea_nil) (sv_word hx (by omega))) fun H1 e1 => ?_
  by_cases hin : s ∈ deedWords
  · have got : ∃ f sp, (f, sp) ∈ hiSS K A ∧ PySem.W.nsIn K a_DEED_FORMS s = some (some (.ref f)) ∧ SpV sp [x] H (.bl (K0.D.tup (.str s :: r)).deed) := by
      have hc : s = "put" ∨ s = "drop" ∨ s = "get" ∨ s = "add" ∨ s = "swap" ∨ s = "list" ∨ s = "all" ∨ s = "circle" := by simpa [deedWords] using hin
      rcases hc with rfl | rfl | rfl | rfl | rfl | rfl | rfl | rfl
      · exact ⟨A.is_put, sp_is_put K, by simp [hiSS, loSS], nx_DEED_FORMS "put", sv_is (svF (f := fPut) hx hs2) ((deedF_lot _ (by decide +kernel)).trans (loneF_put _))⟩
      · exact ⟨A.is_of_key, sp_is_of_key K, by simp [hiSS, loSS], nx_DEED_FORMS "drop", sv_is (svF (f := fKey) hx hs2) ((deedF_lot _ (by decide +kernel)).trans (loneF_drop _))⟩
      · exact ⟨A.is_of_key, sp_is_of_key K, by simp [hiSS, loSS], nx_DEED_FORMS "get", sv_is (svF (f := fKey) hx hs2) ((deedF_lot _ (by decide +kernel)).trans (loneF_get _))⟩
      · exact ⟨A.is_add, sp_is_add K, by simp [hiSS, loSS], nx_DEED_FORMS "add", sv_is (svF (f := fAdd) hx hs2) ((deedF_lot _ (by decide +kernel)).trans (loneF_add _))⟩
      · exact ⟨A.is_swap, sp_is_swap K, by simp [hiSS, loSS], nx_DEED_FORMS "swap", sv_is (svF (f := fSwap) hx hs2) ((deedF_lot _ (by decide +kernel)).trans (loneF_swap _))⟩
      · exact ⟨A.is_list, sp_is_list K, by simp [hiSS, loSS], nx_DEED_FORMS "list", sv_is (svF (f := fList) hx hs2) (deedF_list _)⟩
      · exact ⟨A.is_all, sp_is_all K, by simp [hiSS, loSS], nx_DEED_FORMS "all", sv_is (svF (f := fAll) hx hs2) (deedF_all _)⟩
      · exact ⟨A.is_of_circle, sp_is_of_circle K, by simp [hiSS, loSS], nx_DEED_FORMS "circle", sv_is (svF (f := fCirc) hx hs2) (deedF_circle _)⟩
    obtain ⟨f, sp, hm, hn, hv⟩ := got
    refine q_when (b := false) (et_test (ev_op (ev_var rfl) ev_c (rv_nik hn))) (fun z => by cases z) fun _ H2 e2 => ?_
    refine q_asg (ev_op ev_c (ev_var rfl) (rv_kd kd_DEED_FORMS hn)) fun H3 e3 => ?_
    exact s_ret (ev_callS (p := (f, sp)) hm rfl (ea_cons (ev_var rfl) ea_nil) fun H4 e4 Q q E => hv H4 (((e1.trans e2).trans e3).trans e4) Q q E) fun H4 e4 => k H4 (((e1.trans e2).trans e3).trans e4)
  · have hn : PySem.W.nsIn K a_DEED_FORMS s = some none := by
      rw [nx_DEED_FORMS, lookup_not]
      · rfl
      · intro t ht z
        refine hin ?_
        rw [← z]
        simp only [List.mem_cons, List.not_mem_nil, or_false] at ht
        rcases ht with rfl | rfl | rfl | rfl | rfl | rfl | rfl | rfl <;> simp [deedWords]
    refine q_when (b := true) (et_test (ev_op (ev_var rfl) ev_c (rv_nik hn))) (fun _ H2 e2 => ?_) (fun z => by cases z)
    refine s_ret ev_c fun H3 e3 => ?_
    have := k H3 ((e1.trans e2).trans e3)
    rw [show (K0.D.tup (.str s :: r)).deed = false from deedF_not _ hin] at this
    exact this
/-! ### pairs -/
def PVal (ps : Ps) : Prop := ps.length ≤ 24 ∧ ∀ p ∈ ps, (K0.D.str p.1).key = true ∧ p.2.value = true ∧ p.2.size ≤ 100 ∧ (K0.D.str p.1).size ≤ 100
def sp_lacks_room (K : PySem.W.Frag) : Sp := fun vs H Q _ => ∃ a k ps, vs = [.ref a, .str k] ∧ PairsAt H a ps ∧ RetV (.bl (!hasP ps k && decide (24 ≤ ps.length))) H Q
theorem len_lacks_room {vs : List V} {H : Hp} {Q : VK} {E : XK} (h : sp_lacks_room K vs H Q E) : vs.length = 2 := by
  obtain ⟨a, k, ps, rfl, _⟩ := h
  rfl
/-- pairs with a key exchanged, or without it -/
def exchP (ps : Ps) (k : Str) : K0.D → Ps
  | .non => dropP ps k
  | d => putP ps k d
def sp_exchanged (K : PySem.W.Frag) : Sp := fun vs H Q _ => ∃ a k ps v d, vs = [.ref a, .str k, v] ∧ PairsAt H a ps ∧ ps.length ≤ 1000 ∧ Rp K H v d ∧ (d.isNon = true ∨ d.isAt = true) ∧ RetP (exchP ps k d) H Q
theorem len_exchanged {vs : List V} {H : Hp} {Q : VK} {E : XK} (h : sp_exchanged K vs H Q E) : vs.length = 3 := by
  obtain ⟨a, k, ps, v, d, rfl, _⟩ := h
  rfl
end
end K0

namespace K0
open PySem PySem.Spec PyProof.Rows L2 Evl
/-! ### None, or a text, not in a dict of the top (apart from Q1, which wants more) -/
theorem lacks_none {P : Program} {w : World} {hp : Heap} {a : Addr} {g : Str → Option Value} (m : hp.MapOf (strKind P w) a g) : ∃ f, hp.MapOf (noneKind P w) a f ∧ f none = none := by
  obtain ⟨ob, ar, ep, h1, h2, h3, h4, _⟩ := m
  refine ⟨fun key => findBy (noneKind P w).is ar key, ⟨ob, ar, ep, h1, h2, h3, fun e he => ?_, fun _ => rfl⟩, ?_⟩
  · obtain ⟨k, g1, g2⟩ := h4 e he
    exact ⟨some (.inr k), g1, g2⟩
  · have no : (ar.find? fun e => nkIs none e.key) = none := Array.find?_eq_none.mpr fun e he hq => by
      obtain ⟨k, g1, _⟩ := h4 e he
      obtain ⟨t, et⟩ := Value.isStrOf_shape (x := k) (v := e.key) g1
      have e0 := nk_none hq
      rw [et] at e0
      cases e0
    show (ar.find? fun e => nkIs none e.key).map (·.val) = none
    rw [no]
    rfl
/-- a text or None not in a dict of the top -/
def rNikN (K : PySem.W.Frag) (d : Addr) : R2 := fun x y H Q => y = V.ref d ∧ ((∃ (z : Str) (r : Option Value), x = V.str z ∧ PySem.W.nsIn K d z = some r ∧ Q (.bl (!r.isSome)) H) ∨ (x = .non ∧ Q (.bl true) H))
theorem op_notIn_kdN {X : Cx} {d : Addr} {es : Array DictEntry} {n : Nat} (D : KDict X.K X.w d es n) : OpR X (compareOp .NotIn) (rNikN X.K d) := by
  intro pins s σ H x y v u Q I rx ry h
  obtain ⟨rfl, ⟨z, r, rfl, hn, q⟩ | ⟨rfl, q⟩⟩ := h
  · exact op_notIn_kd D pins s σ H _ _ v u Q I rx ry ⟨z, r, rfl, rfl, hn, q⟩
  · cases rx
    cases ry
    obtain ⟨f, hm, hf⟩ := lacks_none (PySem.W.mapOf_K (prog := X.prog) I.kIn D.at_ D.lit)
    refine wpAny_notIn_of (show (noneKind X.prog X.w).is none .none = true from rfl) D.low hm ?_
    rw [hf]
    exact ⟨.bl true, H, I.tok _, rfl, q⟩
section
variable {K : PySem.W.Frag}
theorem rv_nikS {d : Addr} {H : Hp} {s : Str} {r : Option Value} (h : PySem.W.nsIn K d s = some r) : RV (rNikN K d) (.str s) (.ref d) H (.bl (!r.isSome)) := fun H1 _ Q q => ⟨rfl, .inl ⟨s, r, rfl, h, q H1 (Ex.refl _)⟩⟩
theorem rv_nikN {d : Addr} {H : Hp} : RV (rNikN K d) .non (.ref d) H (.bl true) := fun H1 _ Q q => ⟨rfl, .inr ⟨rfl, q H1 (Ex.refl _)⟩⟩
end
/-! ### slices of data -/
section
variable {K : PySem.W.Frag} {σ : L2.St} {H : Hp} {te : TE} {ds : List D}
theorem RpAll.drop {vs : List V} {ds : List D} : ∀ (n : Nat), RpAll K H vs ds → RpAll K H (vs.drop n) (ds.drop n)
  | 0, h => h
  | _ + 1, .nil => .nil
  | n + 1, .cons _ r => RpAll.drop n r
theorem RpAll.takeR {vs : List V} {ds : List D} : ∀ (n : Nat), RpAll K H vs ds → RpAll K H (vs.take n) (ds.take n)
  | 0, _ => .nil
  | _ + 1, .nil => .nil
  | n + 1, .cons h r => .cons h (RpAll.takeR n r)
theorem cut_from (n : Nat) (xs : List V) : cutV xs (some (n : Int)) none = xs.drop n := by
  unfold cutV
  have h1 : HT.sIx xs.length 0 (some (n : Int)) = min n xs.length := HT.sIx_nat _ _ n
  have h2 : HT.sIx xs.length xs.length none = xs.length := rfl
  rw [h1, h2]
  rcases Nat.le_total n xs.length with h | h
  · rw [Nat.min_eq_left h, ← List.length_drop, List.take_length]
  · rw [Nat.min_eq_right h, Nat.sub_self, List.take_zero, List.drop_eq_nil_of_le h]
/-- t[n:] -/
theorem ed_drop {n : Nat} (h : EvD K te σ H (.tup ds)) : EvD K (tSl (rSlA K) te (tPart (tC (.int (n : Int)))) tNoPart) σ H (.tup (ds.drop n)) := fun H1 e Q q => by
  refine h H1 e _ fun v H2 e2 hv => ?_
  obtain ⟨a, xs, rfl, ha, hr⟩ := hv.tupI
  have := ew_sl (K := K) (σ := σ) (te := tC (.ref a)) (H := H2) (tl := tPart (tC (.int (n : Int)))) (th := tNoPart) (lo := some (n : Int)) (hi := none) ev_c (eo_some ev_c) eo_none ha
  rw [cut_from] at this
  exact this H2 (Ex.refl _) _ fun p H3 e3 hp => q _ H3 (e2.trans e3) (.tup hp ((hr.drop n).ex e3))
end
end K0

namespace K0
open PySem PySem.Spec PyProof.Rows L2 Evl
/-! ### repr of any data (where no repr is under way) -/
def D.rep : D → Str
  | .non => "None"
  | .bl b => if b then "True" else "False"
  | .int i => toString i
  | .str s => reprText s
  | .tup ds => (D.tup ds).py.shown
  | .oth => ""
def D.repOk : D → Bool
  | .int i => decide (i.natAbs.log2 < 1920)
  | .str s => decide ((reprText s).length ≤ 20000)
  | .tup ds => (D.tup ds).clean && ((D.tup ds).py.showable && (!(D.tup ds).py.hasDict && (decide ((D.tup ds).py.depth ≤ 60) && decide ((D.tup ds).py.shown.length ≤ 20000))))
  | .oth => false
  | _ => true
def rReprD (K : PySem.W.Frag) : List V → Hp → VK → Prop := fun vs H Q => ∃ x d, vs = [x] ∧ Rp K H x d ∧ d.repOk = true ∧ Q (.str d.rep) H
theorem cr_reprD {X : Cx} (hg : X.A.guards = some []) (hu : X.A.units + 64 < cLine) : CallR X (.builtin "repr") (rReprD X.K) := by
  intro pins s σ H xs us Q I r h
  obtain ⟨x, d, rfl, hx, ok, q⟩ := h
  cases hx with
  | non =>
    obtain ⟨u, rfl, rx⟩ := vals1 r
    cases rx
    exact PySem.P.repr_of_none ⟨.str "None", H, I.tok _, ⟨_, rfl⟩, q⟩
  | bl b =>
    obtain ⟨u, rfl, rx⟩ := vals1 r
    cases rx
    exact PySem.P.repr_of_bool ⟨.str _, H, I.tok _, ⟨_, rfl⟩, q⟩
  | int i =>
    obtain ⟨u, rfl, t, rfl⟩ := vals1 r
    exact PySem.P.repr_of_int (of_decide_eq_true ok) ⟨.str _, H, I.tok _, ⟨_, rfl⟩, q⟩
  | str z =>
    obtain ⟨u, rfl, t, rfl⟩ := vals1 r
    have hl : (reprText z).length ≤ 20000 := of_decide_eq_true ok
    exact PySem.P.repr_of_str ⟨.str _, H, I.tok _, ⟨_, rfl⟩, q⟩ (by rw [sizeLine_eq]; omega)
  | @tup a ys ds ha hr =>
    have ok' : ((D.tup ds).clean && ((D.tup ds).py.showable && (!(D.tup ds).py.hasDict && (decide ((D.tup ds).py.depth ≤ 60) && decide ((D.tup ds).py.shown.length ≤ 20000))))) = true := ok
    simp only [Bool.and_eq_true, Bool.not_eq_true', decide_eq_true_eq] at ok'
    obtain ⟨h1, h2, h3, h4, h5⟩ := ok'
    exact cr_repr hg hu pins s σ H _ us Q I r ⟨a, _, rfl, (Rp.tup ha hr).dp h1, h2, h3, h4, by rw [sizeLine_eq]; omega, q⟩
  | lst h => cases ok
  | dct h => cases ok
end K0

namespace K0
open PySem PySem.Spec PyProof.Rows L2 Evl
/-! ### own exceptions with a field; repr of None and of numbers -/
/-- what is raised: an exception of the class at C whose one field is f = v -/
def RaF (C : Addr) (f : Str) (v : V) (H : Hp) (E : XK) : Prop := ∀ dd H', Ex H H' → H' dd = some (.xd [(f, v)]) → E (.ref C) (some dd) H'
theorem RaF.ex {C : Addr} {f : Str} {v : V} {H H' : Hp} {E : XK} (e : Ex H H') (h : RaF C f v H E) : RaF C f v H' E := fun dd H2 e2 => h dd H2 (e.trans e2)
/-- the promise of an __init__ that keeps one field -/
def spXI (C : Addr) (f : Str) : Sp := fun vs H Q _ => ∃ a x, vs = [.ref a, x] ∧ H a = some (exo a C none) ∧ ∀ dx, H dx = none → dx ≠ a → Q .non (upd (upd H dx (exd dx [(f, x)])) a (exo a C (some dx)))
section
variable {C : Addr} {f : Str} {ta : TE} {σ : L2.St} {H : Hp} {Q : XK} {v : V}
theorem n_mkO (h : Ev ta σ H v) (k : ∀ H1, Ex H H1 → ∀ dd H2, Ex H1 H2 → H2 dd = some (.xd [(f, v)]) → Q (.ref C) (some dd) H2) : tMkO C (spXI C f) [] (tCons ta tNil) σ H Q :=
  h H (Ex.refl H) _ fun H1 e1 => ⟨by simp, fun a ha => ⟨a, v, rfl, upd_same, fun dx hx ne => ⟨rfl, dx, [(f, v)], upd_same, by rw [upd_ne ne]; exact upd_same, (by rw [upd_ne ne] at hx; exact hx), k H1 e1 dx _ (fun b o hb => by
    have nb : b ≠ a := ne_of_none hb ha
    have hx' : H1 dx = none := by rw [upd_ne ne] at hx; exact hx
    have nd : b ≠ dx := ne_of_none hb hx'
    rw [upd_ne nd, del_ne nb, upd_ne nb, upd_ne nd, upd_ne nb]
    exact hb) upd_same⟩⟩⟩
theorem s_raiseO {D : Ends} {W : WX} (h : Ev ta σ H v) (k : ∀ dd H2, Ex H H2 → H2 dd = some (.xd [(f, v)]) → W (.ref C) (some dd) σ H2) : (fun (_ : Ends) (σ : L2.St) (H : Hp) => tMkO C (spXI C f) [] (tCons ta tNil) σ H fun cls d H' => W cls d σ H') D σ H :=
  n_mkO h fun H1 e1 dd H2 e2 h2 => k dd H2 (e1.trans e2) h2
end
section
variable {X : Cx}
def rReprI : List V → Hp → VK → Prop := fun xs H Q => (xs = [.non] ∧ Q (.str "None") H) ∨ ∃ i, xs = [.int i] ∧ i.natAbs.log2 < 1920 ∧ Q (.str (toString i)) H
theorem cr_reprI : CallR X (.builtin "repr") rReprI := by
  intro pins s σ H xs us Q I r h
  rcases h with ⟨rfl, q⟩ | ⟨i, rfl, hz, q⟩
  · obtain ⟨u, rfl, rx⟩ := vals1 r
    cases rx
    exact PySem.P.repr_of_none ⟨.str "None", H, I.tok _, ⟨_, rfl⟩, q⟩
  · obtain ⟨u, rfl, t, rfl⟩ := vals1 r
    exact PySem.P.repr_of_int hz ⟨.str _, H, I.tok _, ⟨_, rfl⟩, q⟩
end
end K0

namespace K0
open PySem L2 Evl
section
variable {K : PySem.W.Frag} {H H' : Hp} {l : Addr}
mutual
/-- clean data stays where tuples stay -/
theorem Rp.byT {v : V} {d : D} (c : d.clean = true) (h : ∀ a xs, SqT K H a xs → SqT K H' a xs) : Rp K H v d → Rp K H' v d
  | .non => .non
  | .bl b => .bl b
  | .int i => .int i
  | .str s => .str s
  | .tup g r => .tup (h _ _ g) (RpAll.byT c h r)
  | .lst g => by cases c
  | .dct g => by cases c
theorem RpAll.byT {vs : List V} {ds : List D} (c : D.cleanL ds = true) (h : ∀ a xs, SqT K H a xs → SqT K H' a xs) : RpAll K H vs ds → RpAll K H' vs ds
  | .nil => .nil
  | .cons g r => by
    have c' := Bool.and_eq_true_iff.mp c
    exact .cons (Rp.byT c'.1 h g) (RpAll.byT c'.2 h r)
end
theorem sqT_lst {b : Addr} {xs ys zs : List V} (hl : H l = some (.lst xs)) (h : SqT K H b zs) : SqT K (L2.upd H l (.lst ys)) b zs := by
  have ne : ∀ {b : Addr} {o : HO}, H b = some o → (∀ zs, o ≠ .lst zs) → b ≠ l := fun g n z => by
    rw [z, hl] at g
    exact n _ (Option.some.inj g).symm
  rcases h with (h | ⟨o, h⟩) | h
  · exact .inl (.inl (by rw [upd_ne (ne h fun zs z => by cases z)]; exact h))
  · exact .inl (.inr ⟨o, by rw [upd_ne (ne h fun zs z => by cases z)]; exact h⟩)
  · exact .inr h
end
end K0

namespace K0
open PySem PySem.Spec PyProof.Rows L2 Evl
/-! ### promises of defs where no repr is under way; the law's end for such -/
structure FnG (P : Program) (w : World) (K : PySem.W.Frag) (mg : Str → Option Value) (base : Heap) (CXr : CXT) (k : Nat) (f : Addr) (fd : FuncData) (ps : List Str) (sp : Sp) : Prop where
  len : ∀ vs H Q E, sp vs H Q E → vs.length = ps.length
  run : ∀ (A : Around) (out : List Env) (t0 : Shared) (H : Hp) (ar : Args) (ws : List Value) (vs : List V) (Q : VK) (E : XK), A.guards = some [] → Room k A → Env0 P w K mg base A out t0 H → BindsTo t0 fd ar (ps.zip ws) → Vals vs ws → sp vs H Q E → codeAny (model P w) A (.call (.ref f) ar) (CR CXr out P w H t0 Q E) t0
section
variable {P : Program} {w : World} {K : PySem.W.Frag} {mg : Str → Option Value} {base : Heap} {CXr : CXT} {k : Nat} {f : Addr} {fd : FuncData} {ps : List Str} {sp : Sp}
theorem FnG.of (F : FnOk P w K mg base CXr k f fd ps sp) : FnG P w K mg base CXr k f fd ps sp := ⟨F.len, fun A out t0 H ar ws vs Q E _ => F.run A out t0 H ar ws vs Q E⟩
/-- by its body; the code object may be known -/
theorem okG {x qual : Str} {st : Stmt} {N : List Str} (F : Fun K x qual st f fd) (S : FnScope N ps (defScope st)) (len : ∀ vs H Q E, sp vs H Q E → vs.length = ps.length)
    (body : ∀ (cdv : Value) (A : Around) (out : List Env) (t0 : Shared) (H : Hp) (vs : List V) (Q : VK) (E : XK), fd.code = cdv → A.guards = some [] → Room k (A.deeper (envOfC qual (defScope st) t0.heap.objs.size f cdv)) → sp vs H Q E →
      ∃ t, PSs (cxOf CXr P w K mg base N qual (defScope st) f cdv A out t0 H E) (defBody st) t ∧ t { nx := fun _ H' => Q .non H', rt := Q } (start N vs) H) : FnG P w K mg base CXr (k + 1) f fd ps sp := by
  obtain ⟨oc, od, kV, doc, pm, an, cdv, ct, osl, rfl, lk, hcd⟩ := F.ex
  refine ⟨len, fun A out t0 H ar ws vs Q E gd rm env bnd rel prm => ?_⟩
  have kin : K.In t0.heap := env.mod.kin.keeps fun b u ee => (env.bs b u ee).1
  have pk : ∀ y ∈ ps.zip ws, (defScope st).names.lookup y.1 = some .local ∨ ((defScope st).names.lookup y.1 = some .cell ∧ ((cellsFrom (t0.heap.objs.size + 1) (defScope st).names []).lookup y.1).isSome = true) := fun ⟨n, v⟩ hy =>
    (S.par n (List.of_mem_zip hy).1).imp (fun q => q) fun q => ⟨q, PySem.W.cellsFrom_some _ _ _ (.inl q)⟩
  refine codeAny_call_function rm.depth (kin _ _ lk) rfl S.co S.gen rfl (PySem.W.codeRec_of kin hcd) (bnd _ _ _ _ ?_)
  refine wpAny_newFunctionEnv_cells S.kind pk fun ev he t1 xx => ?_
  subst he
  refine ⟨(env.mod.nolimit.keeps fun b u ee => (env.bs b u ee).1).keeps xx.toInCall.keep, codeAny_func ?_⟩
  obtain ⟨t, tt, tq⟩ := body cdv A out t0 H vs Q E rfl gd (rm.deeper _) prm
  refine wpAny_mono (tt.run [] t1 (start N vs) H _ (inv_start S rm.hd env (len _ _ _ _ prm) rel xx) tq) (fun fl t2 z => ?_) fun _ _ z => z
  cases fl with
  | ret u => exact let ⟨v, _, H', J, rv, q⟩ := z; ⟨v, H', J.os, J.bare, J.base, J.hok, rv, q⟩
  | next => exact let ⟨_, H', J, q⟩ := z; ⟨.non, H', J.os, J.bare, J.base, J.hok, rfl, q⟩
  | brk => exact let ⟨_, _, _, q⟩ := z; q.elim
  | cont => exact let ⟨_, _, _, q⟩ := z; q.elim
end
section
variable {X : Cx} {CXr : CXT} {k : Nat} {f : Addr} {fd : FuncData} {ps : List Str} {sp : Sp} {E : XK} {x : Str} {p pos : Pos} {e : Expr} {es : List Expr} {t : TA}
/-- f(e, ..) of such a def -/
theorem pe_callG (F : FnG X.prog X.w X.K X.mg X.base CXr k f fd ps sp) (gd : X.A.guards = some []) (rm : Room k X.A) (gl : Gl X x) (at_ : X.mg x = some (.ref f)) (kp : PySem.W.keepIn X.K (.ref f) = true) (bnd : Binds X.K fd ps []) (px : Passes CXr X E) (ha : PA X (e :: es) t)
    (nd : (x == ("__debug__" : Str)) = false := by decide) (h1 : starEach (e :: es) X.env = (false, eval e X.env) :: starEach es X.env := by rfl) (h2 : (backTo pos (starEach es X.env)).any (·.1) = false := by rfl) :
    PE X (.Call (.Name x p) (e :: es) [] pos) (tCall sp [] E t) := ⟨fun pins s σ H Q I h => by
  refine wpAny_Call_Name_kw (ld_glob I gl at_ ?_ nd)
  refine PySem.W.callWith_K (h₀ := X.base) I.ok.mod.kin kp (thn (ha.run pos pins s σ H _ I h) fun us s1 z => ?_) h1 h2
  obtain ⟨vs, H1, I1, rel, q⟩ := z
  rw [List.append_nil] at q
  have ln : us.length = ps.length := by rw [← rel.length]; exact F.len _ _ _ _ q
  refine ⟨I1.kIn, wpAny_call (codeAny_mono (F.run X.A X.stack s1 H1 ⟨us, []⟩ us vs Q E gd rm I1.env0 (by have := bnd s1 us I1.kIn (by rw [List.append_nil]; exact ln); rw [List.append_nil] at this; exact this) rel q) fun r s2 zz => ?_)⟩
  cases r with
  | error u => exact px pins σ H1 s1 u s2 I1 zz
  | ok fl =>
    cases fl with
    | ret u => exact I1.after zz
    | _ => exact False.elim zz⟩
end
/-! ### the law's call -/
/-- what is told of the heap where the law is called: the tables, and the script (where it is not an object of the written part) -/
def lawH (K : PySem.W.Frag) (T : List Addr) (a : Addr) (so : Obj) (ns : List Int) : Hp := fun b => if b ∈ T then some (.tbl #[]) else if b = a ∧ K.lookup a = none then some (.frz so (.lst (ns.map V.int))) else none
section
variable {K : PySem.W.Frag} {T : List Addr} {a b : Addr} {so : Obj} {ns : List Int} {u : HO}
theorem lawH_tab (h : b ∈ T) : lawH K T a so ns b = some (.tbl #[]) := if_pos h
theorem lawH_cases (h : lawH K T a so ns b = some u) : (b ∈ T ∧ u = .tbl #[]) ∨ (b ∉ T ∧ b = a ∧ K.lookup a = none ∧ u = .frz so (.lst (ns.map V.int))) := by
  unfold lawH at h
  split at h
  · rename_i m
    exact .inl ⟨m, (Option.some.inj h).symm⟩
  · rename_i m
    split at h
    · rename_i m2
      exact .inr ⟨m, m2.1, m2.2, (Option.some.inj h).symm⟩
    · cases h
end
theorem law_callG {P : Program} {w : World} {K : PySem.W.Frag} {mg mb : Str → Option Value} {CXr : CXT} {k : Nat} {fa a : Addr} {cs : List (Addr × Addr)} {fd : FuncData} {x : Str} {sp : Sp} {t0 : Shared} {vs : List Value} {ns : List Int}
    (kin : K.In t0.heap) (gns : t0.heap.Ns mainGlobals mg) (bns : t0.heap.Ns builtinsNs mb) (bb : ∀ x : Str, x ≠ "__name__" → mb x = bootBuiltins x) (lim : t0.heap.NoLimit) (gen0 : t0.gens = #[])
    (tabs : ∀ p ∈ cs, t0.heap.get? p.2 = some { cls := .none, data := .fields #[] }) (tabN : ∀ p ∈ cs, K.lookup p.2 = none) (heads : ∀ p ∈ cs, PySem.W.CodeHd t0.heap p.1 p.2)
    (main : ∃ (m : Addr) (o : Obj), mg "__builtins__" = some (.ref m) ∧ m ≠ builtinsNs ∧ t0.heap.get? m = some o ∧ o.cls = .type "module" ∧ o.dict = some builtinsNs ∧ o.data = .plain)
    (scr : t0.heap.get? a = some { cls := .type "list", data := .seq vs.toArray }) (scrI : IntsAre vs ns) (few : ns.length ≤ sizeLine) (rm : Room k callerA)
    (F : ∀ base : Heap, K.In base → base.Ns mainGlobals mg → (∀ p ∈ cs, LamX.TabB base mg p.1 p.2) → FnG P w K mg base CXr k fa fd [x] sp) (bnd : ∀ (s : Shared) (u : Value), BindsTo s fd ⟨[u], []⟩ [(x, u)])
    (prm : ∀ H : Hp, (∀ p ∈ cs, H p.2 = some (.tbl #[])) → SqL K H a (ns.map V.int) → sp [.ref a] H (fun v _ => v = .bl true) fun _ _ _ => False)
    (noX : ∀ H e s', CXr [] H t0 (fun _ _ _ => False) e s' → False) :
    codeAny (model P w) callerA (.call (.ref fa) ⟨[.ref a], []⟩) (fun rr t1 => rr = .ok (.ret (.bool true)) ∧ OldK t0.heap t1.heap ∧ t1.os = t0.os ∧ AllBare t1.gens) t0 := by
  have tab_ : ∀ {b : Addr}, b ∈ cs.map (·.2) → t0.heap.get? b = some { cls := .none, data := .fields #[] } := fun hb => by
    obtain ⟨p, hp, rfl⟩ := List.mem_map.mp hb
    exact tabs p hp
  have in_ : ∀ p ∈ cs, p.2 ∈ cs.map (·.2) := fun p hp => List.mem_map.mpr ⟨p, hp, rfl⟩
  have aOut : a ∉ cs.map (·.2) := fun z => by
    have y := (tab_ z).symm.trans scr
    have y2 : Data.fields #[] = Data.seq vs.toArray _ := congrArg Obj.data (Option.some.inj y)
    cases y2
  obtain ⟨so, eso⟩ : ∃ so : Obj, so = { cls := .type "list", data := .seq vs.toArray } := ⟨_, rfl⟩
  rw [← eso] at scr
  generalize eH : lawH K (cs.map (·.2)) a so ns = H
  have rel := vals_ints scrI
  have lnV := scrI.length
  -- what is told stands in the heap, and is no part of what is written
  have what : ∀ {b : Addr} {u : HO}, H b = some u → K.lookup b = none ∧ ∃ o : Obj, t0.heap.get? b = some o ∧ ((∃ q n, o.data = .seq q n) ∨ o.data = .fields #[]) := fun {b u} h => by
    rw [← eH] at h
    rcases lawH_cases h with ⟨m, _⟩ | ⟨_, rfl, kn, _⟩
    · obtain ⟨p, hp, rfl⟩ := List.mem_map.mp m
      exact ⟨tabN p hp, _, tabs p hp, .inr rfl⟩
    · exact ⟨kn, so, scr, .inl ⟨_, _, by rw [eso]⟩⟩
  have free : ∀ {b : Addr} {o : Obj}, t0.heap.get? b = some o → (∀ q n, o.data ≠ .seq q n) → o.data ≠ .fields #[] → H b = none := fun {b o} e n1 n2 => by
    cases q : H b with
    | none => rfl
    | some u =>
      obtain ⟨_, o', e', d⟩ := what q
      cases e.symm.trans e'
      rcases d with ⟨q', n', d⟩ | d
      · exact absurd d (n1 _ _)
      · exact absurd d n2
  have low : ∀ {b : Addr} {o : Obj}, t0.heap.get? b = some o → H b = none → (hidT t0.heap H).get? b = some o := fun e n => hidT_get e n
  have lowN : ∀ {b : Addr} {m : Str → Option Value}, t0.heap.Ns b m → (hidT t0.heap H).Ns b m := fun ⟨o, es, ep, e, d, r⟩ =>
    ⟨o, es, ep, low e (free e (fun q n z => by rw [d] at z; cases z) fun z => by rw [d] at z; cases z), d, r⟩
  have lowK : K.In (hidT t0.heap H) := fun b o e => low (kin b o e) (by
    cases q : H b with
    | none => rfl
    | some u => exact absurd e (by rw [(what q).1]; simp))
  have modl : L2.Mod K mg (hidT t0.heap H) := ⟨lowK, lowN gns, ⟨mb, lowN bns, bb⟩, let ⟨mc, l1, l2⟩ := lim; ⟨mc, lowN l1, l2⟩⟩
  have hTabs : ∀ p ∈ cs, H p.2 = some (.tbl #[]) := fun p hp => by rw [← eH]; exact lawH_tab (in_ p hp)
  have okH : HOk P w H t0.heap := fun b u h => by
    rw [← eH] at h
    rcases lawH_cases h with ⟨m, rfl⟩ | ⟨_, rfl, _, rfl⟩
    · exact tab_ m
    · exact ⟨scr, by rw [List.length_map]; exact few, vs, _, rel, by rw [scr, eso]⟩
  have seqA : SqL K H a (ns.map V.int) := by
    cases kl : K.lookup a with
    | none => exact .inl (.inr ⟨so, by rw [← eH]; unfold lawH; rw [if_neg aOut, if_pos ⟨rfl, kl⟩]⟩)
    | some o =>
      have y := scr.symm.trans (kin a o kl)
      cases y
      exact .inr ⟨_, vs.toArray, _, kl, by rw [eso], by rw [eso], by rw [eso], by rw [List.size_toArray, lnV]; exact few, by simpa using rel⟩
  have lowT : ∀ p ∈ cs, LamX.TabB (hidT t0.heap H) mg p.1 p.2 := fun p hp => by
    refine ⟨?_, ?_, fun z => ?_⟩
    · obtain ⟨o, us, file, tf, flags, tg, inF, text, tt, c1, c2, c3, c4, c5, c6, c7, c8, c9, cn⟩ := heads p hp
      exact ⟨o, us, file, tf, flags, tg, inF, text, tt, low c1 (free c1 (fun q n y => by rw [c3] at y; cases y) fun y => by rw [c3] at y; cases y; simp at c4), c2, c3, c4, c5, c6, c7, c8, c9, cn⟩
    · obtain ⟨m, o, m1, m2, m3, m4, m5, m6⟩ := main
      refine ⟨m, o, m1, m2, fun y => ?_, fun y => ?_, low m3 (free m3 (fun q n y => by rw [m6] at y; cases y) fun y => by rw [m6] at y; cases y), m4, m5, m6⟩
      · obtain ⟨o', es, ep, e', d', _⟩ := gns
        rw [y, e'] at m3
        cases m3
        rw [d'] at m6
        cases m6
      · rw [y, tabs p hp] at m3
        cases m3
        cases m6
    · obtain ⟨o', es, ep, e', d', _⟩ := gns
      rw [z, tabs p hp] at e'
      cases e'
      cases d'
  have env : Env0 P w K mg (hidT t0.heap H) callerA [] t0 H := ⟨rfl, modl, fun b o e => of_hidT e, Nat.le_of_eq (hidT_size _ _), trivial, fun b hb => (List.not_mem_nil hb).elim, okH, .of_eq gen0⟩
  refine codeAny_mono ((F _ lowK (lowN gns) lowT).run callerA [] t0 H ⟨[.ref a], []⟩ [.ref a] [.ref a] _ _ rfl rm env (bnd t0 (.ref a)) (.cons rfl .nil) (prm H hTabs seqA)) fun rr t1 z => ?_
  cases rr with
  | error u => exact (noX H u t1 z).elim
  | ok fl =>
    cases fl with
    | ret u =>
      obtain ⟨v, G, os1, bare, un, ok1, rv, qv⟩ := z
      obtain rfl : v = .bl true := qv
      obtain rfl : u = Value.bool true := rv
      have kept : ∀ b o, b ∉ cs.map (·.2) → t0.heap.get? b = some o → t1.heap.get? b = some o := fun b o nb e => by
        cases q : H b with
        | none => exact un.keep b o e q (fun y => List.not_mem_nil y) (fun y => List.not_mem_nil y)
        | some u =>
          have q2 := q
          rw [← eH] at q2
          rcases lawH_cases q2 with ⟨m, _⟩ | ⟨_, rfl, _, rfl⟩
          · exact absurd m nb
          · obtain ⟨e1, _⟩ := ok1 b _ (un.frzs b so _ q)
            cases e.symm.trans scr
            exact e1
      refine ⟨rfl, ⟨fun b o e => ?_, fun b o e => ?_⟩, os1, bare⟩
      all_goals
        by_cases m : b ∈ cs.map (·.2)
      · obtain ⟨p, hp, rfl⟩ := List.mem_map.mp m
        obtain ⟨more, zz⟩ := un.tbls p.2 #[] (hTabs p hp)
        cases (tabs p hp).symm.trans e
        exact .inr (.inl ⟨((heads p hp).tab (tabs p hp)).isCodeTable, rfl, #[], more, rfl, by rw [Array.empty_append]; have := ok1 p.2 _ zz; rw [Array.empty_append] at this; exact this⟩)
      · exact .inl (kept b o m e)
      · obtain ⟨p, hp, rfl⟩ := List.mem_map.mp m
        obtain ⟨more, zz⟩ := un.tbls p.2 #[] (hTabs p hp)
        exact ⟨_, ok1 p.2 _ zz⟩
      · exact ⟨o, kept b o m e⟩
    | _ => exact False.elim z
/-- what a law's def keeps, where no repr is under way -/
def LawG (l : PySem.W.OpenLaw) (w : World) (K : PySem.W.Frag) (CXr : CXT) (k n : Nat) (x : Str) (mg : Str → Option Value) (fa : Addr) (h : Heap) : Prop :=
  ∃ (fd : FuncData) (cs : List (Addr × Addr)) (sp : Sp), (∀ p ∈ cs, h.get? p.2 = some { cls := .none, data := .fields #[] }) ∧ (∀ p ∈ cs, K.lookup p.2 = none) ∧ (∀ p ∈ cs, PySem.W.CodeHd h p.1 p.2) ∧ (∀ (s : Shared) (u : Value), BindsTo s fd ⟨[u], []⟩ [(x, u)]) ∧
    (∀ (H : Hp) (a : Addr) (ns : List Int), ns.length ≤ n → (∀ p ∈ cs, H p.2 = some (.tbl #[])) → SqL K H a (ns.map V.int) → sp [.ref a] H (fun v _ => v = .bl true) fun _ _ _ => False) ∧
    ∀ base : Heap, K.In base → base.Ns mainGlobals mg → (∀ p ∈ cs, LamX.TabB base mg p.1 p.2) → FnG l.prog w K mg base CXr k fa fd [x] sp
theorem walk_ofG {l : PySem.W.OpenLaw} {n k : Nat} {q : Program} {loose : List Str} {XP : (Str → Option Value) → Heap → Prop} {YP : World → Heap → Prop} {d : DefRec} {K : Params → PySem.W.Frag} {CXr : World → CXT} {x : Str}
    (most : l.most = some n) (few : n ≤ sizeLine) (nodef : d.params.defaults = []) (rm : Room k callerA) (kin : ∀ (w : World) (h : Heap), YP w h → (K w.params).In h)
    (F : ∀ (w : World) (mg : Str → Option Value) (fa : Addr) (h : Heap), YP w h → (K w.params).In h → h.Ns mainGlobals mg → mg d.name = some (.ref fa) → LawG l w (K w.params) (CXr w) k n x mg fa h)
    (noX : ∀ (w : World) (H : Hp) (s : Shared) (e : Value) (s' : Shared), CXr w [] H s (fun _ _ _ => False) e s' → False) :
    PySem.W.WalkO q loose XP YP l.row.toRowW d [] (fun f vs => PySem.call f vs) :=
  Att.attach_call most nodef fun w t0 t1 mg mb fa o pm cd doc a vs ns G Y ho hd hcd fnd hobj scrI hlen gen0 => by
    obtain ⟨fd, cs, sp, c1, c2, c3, bnd, prm, hF⟩ := F w mg fa _ Y (kin w _ Y) G.T.g fnd
    exact law_callG (kin w _ Y) G.T.g G.T.b G.T.builtins G.T.nolimit gen0 c1 c2 c3 G.T.bmain hobj scrI (Nat.le_trans hlen few) rm hF bnd (fun H hH hS => prm H a ns hlen hH hS) fun H e s' => noX w H t1 e s'
end K0

namespace K0
open PySem L2 Evl LamX
/-! ### laws of errors: lambdas in the law's own defs, what they meet (for any law) -/
def wordsD (a b : Str) : K0.D := .tup [.str a, .str b]
/-- which exceptions are told as which data -/
abbrev EKT := K0.D → Value → Option Addr → Hp → Prop
def TMG (K : PySem.W.Frag) (EK : EKT) (TF : Hp → VK → Prop) : (XK → Hp → VK → Prop) → Hp → VK → Prop := fun tl H Q => tl (fun cls dd H' => ∃ r, EK r cls dd H' ∧ RetR K r H' Q) H (fun _ H' => TF H' Q)
structure Ca where
  c0 : Addr
  p0 : Addr
  c1 : Addr
  p1 : Addr
def Ca.tabs (ca : Ca) : List (Addr × Str) := [(ca.p0, ("_law_right" : Str) ++ ".<locals>." ++ "<lambda>"), (ca.p1, ("law" : Str) ++ ".<locals>." ++ "<lambda>")]
structure LamH (base : Heap) (mg : Str → Option Value) (D : Fd) (ca : Ca) : Prop where
  c_law_right : D.law_right.code = .ref ca.c0
  t_law_right : LamX.TabB base mg ca.c0 ca.p0
  c_law : D.law.code = .ref ca.c1
  t_law : LamX.TabB base mg ca.c1 ca.p1
  ne0_1 : ca.p0 ≠ ca.p1
section
variable {base : Heap} {mg : Str → Option Value} {D : Fd} {ca : Ca}
theorem LamH.m_law_right (_ : LamH base mg D ca) : (ca.p0, ("_law_right" : Str) ++ ".<locals>." ++ "<lambda>") ∈ ca.tabs := List.mem_cons_self
theorem LamH.u_law_right (h : LamH base mg D ca) : ∀ p ∈ ca.tabs, p.1 = ca.p0 → p.2 = ("_law_right" : Str) ++ ".<locals>." ++ "<lambda>" := fun p hp e => by
  unfold Ca.tabs at hp
  simp only [List.mem_cons, List.not_mem_nil, or_false] at hp
  rcases hp with rfl | rfl
  · rfl
  · exact absurd e.symm h.ne0_1
theorem LamH.m_law (_ : LamH base mg D ca) : (ca.p1, ("law" : Str) ++ ".<locals>." ++ "<lambda>") ∈ ca.tabs := (List.mem_cons_of_mem _ List.mem_cons_self)
theorem LamH.u_law (h : LamH base mg D ca) : ∀ p ∈ ca.tabs, p.1 = ca.p1 → p.2 = ("law" : Str) ++ ".<locals>." ++ "<lambda>" := fun p hp e => by
  unfold Ca.tabs at hp
  simp only [List.mem_cons, List.not_mem_nil, or_false] at hp
  rcases hp with rfl | rfl
  · exact absurd e h.ne0_1
  · rfl
end
section
variable {P : Program} {w : World} {K : PySem.W.Frag} {mg : Str → Option Value} {base : Heap} {A : Ad} {D : Fd} {ca : Ca}
/-- a def whose code object is known -/
theorem okL {x qual : Str} {st : Stmt} {f c : Addr} {fd : FuncData} {N ps : List Str} {k : Nat} {sp : Sp} (F : Fun K x qual st f fd) (hc : fd.code = .ref c) (S : FnScope N ps (defScope st)) (len : ∀ vs H Q E, sp vs H Q E → vs.length = ps.length)
    (hbody : ∀ (A : Around) (outer : List Env) (s : Shared) (H : Hp) (vs : List V) (Q : VK) (E : XK), Room k (A.deeper (PyProof.Rows.envOfC qual (defScope st) s.heap.objs.size f (.ref c))) → sp vs H Q E →
      ∃ t, PSs (cxOf CX0 P w K mg base N qual (defScope st) f (.ref c) A outer s H E).nox (defBody st) t ∧ t { nx := fun _ H' => Q .non H', rt := Q } (start N vs) H) : FnOk P w K mg base CX0 (k + 1) f fd ps sp := by
  obtain ⟨oc, od, kV, doc, pm, an, cdv, ct, osl, rfl, lk, hcd⟩ := F.ex
  obtain rfl : cdv = .ref c := hc
  refine fn_of lk hcd S len fun A outer s H vs Q E hr hsp => ?_
  obtain ⟨t, h, q⟩ := hbody A outer s H vs Q E hr hsp
  exact ⟨t, h.nox, q⟩
/-- the def that meets: g(lambda: body) -/
theorem pe_lmG {X : Cx} {x a : Str} {st : Stmt} {g : Addr} {fd : FuncData} {N : List Str} {TM : (XK → Hp → VK → Prop) → Hp → VK → Prop} {TT : List (Addr × Str)} {c P : Addr} {k : Nat} {params : Arguments} {body : Expr} {scope : Scope} {t : XK → TE} {p lpos pos : Pos}
    (hgx : X.mg x = some (.ref g)) (F : Fun X.K x x st g fd) (hb : Binds X.K fd [a] []) (S : FnScope N [a] (defScope st)) (h0 : N[0]? = some a) (hva : Vis (defScope st) a) (M : ∀ {q : Str} {cdg : Value}, GivesTo X N x (defScope st) g cdg (defBody st) a q TM)
    (TB : TabB X.base X.mg c P) (hcode : X.env.code = .ref c) (hmT : (P, X.env.qual ++ "<lambda>") ∈ TT) (hu : ∀ p ∈ TT, p.1 = P → p.2 = X.env.qual ++ "<lambda>")
    (hr : Room (k + 2) X.A) (L : lamSB X.env.scope scope = true) (hg : Gl X x) (hdef : defaultsOf params X.env = ([], []))
    (hbind : ∀ (q : Str) (cl : List (Str × Addr)) (pm cv ctv : Value), bindArgs (PySem.W.kla_fn "<lambda>" q params body scope cl pm cv ctv) ⟨[], []⟩ = pure [])
    (hbody : ∀ (A : Around) (outer : List Env) (s : Shared) (H : Hp) (E : XK) (f c' : Addr), Room k (A.deeper (lamEnv X scope s.heap.objs.size f c')) → PE (lamCx X A outer s H E scope f c') body (t E))
    (hdb : (x == ("__debug__" : Str)) = false := by decide) (hd : (a == ("__debug__" : Str)) = false := by decide) (hcd : (a == ("__classdict__" : Str)) = false := by decide) :
    PE X (.Call (.Name x p) [.Lambda params body scope lpos] [] pos) (tLam TT TM t) := by
  obtain ⟨oc, od, kV, doc, pm, an, cdv, ct, osl, e, lk, hcod⟩ := F.ex
  rw [e] at hb lk
  exact pe_lamcall hg hgx F.kp lk hcod hb S h0 hva M TB hcode hmT hu hr (lamS_by L) hdef hbind hbody hdb hd hcd
end
/-! ### what stays: all but the tables and the dice list (if there is one) -/
def BtO (o : Option Addr) (H H' : Hp) : Prop := ExtN (hid o H) (hid o H')
def DiceO (o : Option Addr) (H : Hp) : Prop := ∀ a, o = some a → DiceAt H a
section
variable {K : PySem.W.Frag} {H H' H'' : Hp} {a l : Addr} {o : Option Addr}
theorem sqT_extN {b : Addr} {xs : List V} (e : ExtN H H') (h : SqT K H b xs) : SqT K H' b xs := by
  rcases h with (h | ⟨o, h⟩) | h
  · exact .inl (.inl (e _ _ h fun ps z => by cases z))
  · exact .inl (.inr ⟨o, e _ _ h fun ps z => by cases z⟩)
  · exact .inr h
theorem sqL_extN {b : Addr} {xs : List V} (e : ExtN H H') (h : SqL K H b xs) : SqL K H' b xs := by
  rcases h with (h | ⟨o, h⟩) | h
  · exact .inl (.inl (e _ _ h fun ps z => by cases z))
  · exact .inl (.inr ⟨o, e _ _ h fun ps z => by cases z⟩)
  · exact .inr h
mutual
theorem Rp.extN {v : V} {d : K0.D} (e : ExtN H H') : Rp K H v d → Rp K H' v d
  | .non => .non
  | .bl b => .bl b
  | .int i => .int i
  | .str s => .str s
  | .tup h r => .tup (sqT_extN e h) (RpAll.extN e r)
  | .lst h => .lst (e _ _ h fun ps z => by cases z)
  | .dct h => .dct (e _ _ h fun ps z => by cases z)
theorem RpAll.extN {vs : List V} {ds : List K0.D} (e : ExtN H H') : RpAll K H vs ds → RpAll K H' vs ds
  | .nil => .nil
  | .cons h r => .cons (Rp.extN e h) (RpAll.extN e r)
end
theorem ext_of : ExtN (hid o H) H := ExtN.of hid_le
theorem hid_extN (e : ExtN H H') : ExtN (hid o H) (hid o H') := fun b u h n => by
  unfold hid at h ⊢
  split at h
  · cases h
  · rename_i m
    rw [if_neg m]
    exact e b u h n
theorem BtO.refl : BtO o H H := ExtN.refl _
theorem BtO.trans (h : BtO o H H') (h' : BtO o H' H'') : BtO o H H'' := ExtN.trans h h'
theorem BtO.ofN (e : ExtN H H') : BtO o H H' := hid_extN e
theorem BtO.ofE (e : Ex H H') : BtO o H H' := BtO.ofN (ExtN.of e)
theorem BtO.ofB (e : Bt a H H') : BtO (some a) H H' := ExtN.of e
theorem BtO.at_ {b : Addr} {u : HO} (e : BtO o H H') (n : ∀ a, o = some a → b ≠ a) (nt : ∀ ps, u ≠ .tbl ps) (h : H b = some u) : H' b = some u := by
  have hb : hid o H b = some u := by
    unfold hid
    rw [if_neg fun z => n b z rfl]
    exact h
  exact hid_le _ _ (e _ _ hb nt)
theorem BtO.ne (hd : DiceO o H) {b : Addr} {u : HO} (h : H b = some u) (n : ∀ zs, u ≠ .lst zs) : ∀ a, o = some a → b ≠ a := fun a ha z => by
  obtain ⟨x, y, w, hz⟩ := hd a ha
  rw [z, hz] at h
  exact n _ (Option.some.inj h).symm
theorem BtO.sqT (hd : DiceO o H) (e : BtO o H H') {b : Addr} {xs : List V} (h : SqT K H b xs) : SqT K H' b xs := by
  rcases h with (h | ⟨q, h⟩) | h
  · exact .inl (.inl (e.at_ (BtO.ne hd h fun zs z => by cases z) (fun ps z => by cases z) h))
  · exact .inl (.inr ⟨q, e.at_ (BtO.ne hd h fun zs z => by cases z) (fun ps z => by cases z) h⟩)
  · exact .inr h
theorem DiceO.extN (e : ExtN H H') (h : DiceO o H) : DiceO o H' := fun a ha => by
  obtain ⟨x, y, z, h⟩ := h a ha
  exact ⟨x, y, z, e _ _ h fun ps z => by cases z⟩
theorem DiceO.ex (e : Ex H H') (h : DiceO o H) : DiceO o H' := DiceO.extN (ExtN.of e) h
theorem DiceO.of (h : DiceAt H a) : DiceO (some a) H := fun b hb => by cases hb; exact h
theorem DiceO.get (h : DiceO (some a) H) : DiceAt H a := h a rfl
theorem DiceO.none : DiceO none H := fun b hb => by cases hb
/-- nothing, or a table -/
def FreeN (H : Hp) (l : Addr) : Prop := ∀ o, H l = some o → ∃ ps, o = .tbl ps
theorem BtO.mutF {u : HO} (e : BtO o H H') (h : FreeN H l) : BtO o H (L2.upd H' l u) := fun b v g n => by
  have nl : b ≠ l := fun z => by
    have h2 := hid_le _ _ g
    rw [z] at h2
    obtain ⟨ps, hp⟩ := h v h2
    exact n ps hp
  have g2 := e b v g n
  unfold hid at g2 ⊢
  split at g2
  · cases g2
  · rename_i m
    rw [if_neg m, upd_ne nl]
    exact g2
theorem tabs_lst {T : List (Addr × Str)} {xs ys : List V} (hl : H l = some (.lst xs)) (h : Tabs T H) : Tabs T (L2.upd H l (.lst ys)) := fun p hp => by
  obtain ⟨ps, a1, a2, a3⟩ := h p hp
  have ne : ∀ {b : Addr} {o : HO}, H b = some o → (∀ zs, o ≠ .lst zs) → b ≠ l := fun g n z => by
    rw [z, hl] at g
    exact n _ (Option.some.inj g).symm
  refine ⟨ps, by rw [upd_ne (ne a1 fun zs z => by cases z)]; exact a1, a2, fun pos cv hc => ?_⟩
  obtain ⟨c, e1, e2⟩ := a3 pos cv hc
  exact ⟨c, e1, by rw [upd_ne (ne e2 fun zs z => by unfold CodeO at z; cases z)]; exact e2⟩
theorem tabs_bt {T : List (Addr × Str)} (hd : DiceAt H a) (b : Bt a H H') (h : Tabs T H) : Tabs T H' := fun p hp => by
  obtain ⟨ps, a1, a2, a3⟩ := h p hp
  obtain ⟨x, y, z, hz⟩ := hd
  have ne : ∀ {b : Addr} {o : HO}, H b = some o → (∀ zs, o ≠ .lst zs) → b ≠ a := fun g n z => by
    rw [z, hz] at g
    exact n _ (Option.some.inj g).symm
  refine ⟨ps, b.at (ne a1 fun zs z => by cases z) a1, a2, fun pos cv hc => ?_⟩
  obtain ⟨c, e1, e2⟩ := a3 pos cv hc
  exact ⟨c, e1, b.at (ne e2 fun zs z => by unfold CodeO at z; cases z) e2⟩
theorem sq_btO {p b : Addr} {xs : List V} {H1 : Hp} (hp : H p = none) (h : SqL K H b xs) (e : Ex H H1) (g : BtO (some p) H1 H') : SqL K H' b xs := by
  rcases h with (h | ⟨o, h⟩) | h
  · exact .inl (.inl (g.at_ (fun a ha => by cases ha; exact ne_of_none h hp) (fun ps z => by cases z) (e _ _ h)))
  · exact .inl (.inr ⟨o, g.at_ (fun a ha => by cases ha; exact ne_of_none h hp) (fun ps z => by cases z) (e _ _ h)⟩)
  · exact .inr h
end
/-! ### facts beside the dice list -/
structure MonoN (N : Hp → V → Prop) : Prop where
  m : ∀ {H H' : Hp} {v : V}, ExtN H H' → N H v → N H' v
/-- what is true of v where the dice list is hidden -/
def Off (o : Option Addr) (N : Hp → V → Prop) : Hp → V → Prop := fun H v => N (hid o H) v
structure MonoQ (M : Hp → V → Prop) : Prop where
  m : ∀ {H H' : Hp} {v : V}, Ex H H' → M H v → M H' v
theorem MonoN.q {N : Hp → V → Prop} (h : MonoN N) : MonoQ N := ⟨fun e m => h.m (ExtN.of e) m⟩
theorem MonoN.off {N : Hp → V → Prop} {o : Option Addr} (h : MonoN N) : MonoQ (Off o N) := ⟨fun e m => h.m (ExtN.of (hid_ex e)) m⟩
theorem Off.get {N : Hp → V → Prop} {v : V} {o : Option Addr} {H H' : Hp} (mo : MonoN N) (e : BtO o H H') (h : Off o N H v) : N H' v := mo.m ext_of (mo.m e h)
theorem Off.bt {N : Hp → V → Prop} {v : V} {o : Option Addr} {H H' : Hp} (mo : MonoN N) (e : BtO o H H') (h : Off o N H v) : Off o N H' v := mo.m e h
def EvQ (M : Hp → V → Prop) (te : TE) (σ : L2.St) (H : Hp) : Prop := ∀ H1, Ex H H1 → ∀ Q : VK, (∀ v H2, Ex H1 H2 → M H2 v → Q v H2) → te σ H1 Q
def EvQL (M : Hp → V → Prop) (te : TE) (σ : L2.St) (H : Hp) (n : Nat) : Prop := ∀ H1, Ex H H1 → ∀ Q : VK, (∀ p xs H2, H1 p = none → Ex H1 H2 → H2 p = some (.lst xs) → (∀ v ∈ xs, M H2 v) → xs.length = n → Q (.ref p) H2) → te σ H1 Q
def EvQA (M : Hp → V → Prop) (ta : TA) (σ : L2.St) (H : Hp) (n : Nat) : Prop := ∀ H1, Ex H H1 → ∀ Q : List V → Hp → Prop, (∀ vs H2, Ex H1 H2 → (∀ v ∈ vs, M H2 v) → vs.length = n → Q vs H2) → ta σ H1 Q
section
variable {K : PySem.W.Frag} {σ : L2.St} {H H' : Hp} {ta tb te : TE} {tr : TA} {x y z v : V} {d e : K0.D} {ds es : List K0.D} {M N : Hp → V → Prop} {a p : Addr} {n m : Nat} {o : Option Addr}
theorem qa_nil : EvQA M tNil σ H 0 := fun H1 e Q q => q [] H1 (Ex.refl _) (fun v hv => by cases hv) rfl
theorem qa_cons (mo : MonoQ M) (h : EvQ M te σ H) (r : EvQA M tr σ H n) : EvQA M (tCons te tr) σ H (n + 1) := fun H1 e Q q =>
  h H1 e _ fun v H2 e2 m => r H2 (e.trans e2) _ fun vs H3 e3 ms l => q (v :: vs) H3 (e2.trans e3) (fun u hu => by
    rcases List.mem_cons.mp hu with rfl | hu
    · exact mo.m e3 m
    · exact ms u hu) (by rw [List.length_cons, l])
theorem ql_lst (mo : MonoQ M) (h : EvQA M tr σ H n) (hn : n ≤ 1000) : EvQL M (tLst tr) σ H n := fun H1 e Q q =>
  h H1 e _ fun vs H2 e2 ms l => ⟨sz_of (by omega), fun p hp => q p vs _ (fresh_back e2 hp) (e2.trans (Ex.new hp)) upd_same (fun v hv => mo.m (Ex.new hp) (ms v hv)) l⟩
theorem ql_cat {xs : List V} (mo : MonoQ M) (hv : Ev ta σ H (.ref p)) (hp : H p = some (.lst xs)) (hx : ∀ v ∈ xs, M H v) (h : EvQL M te σ H n) (hn : xs.length + n ≤ 1000) : EvQL M (tOp rCat ta te) σ H (xs.length + n) := fun H1 e Q q =>
  hv H1 e _ fun H2 e2 => h H2 (e.trans e2) _ fun r zs H3 hr e3 h3 ms l => ⟨p, r, xs, zs, rfl, rfl, ((e.trans e2).trans e3) _ _ hp, h3, sz_of (by omega), fun t ht =>
    q t _ _ (fresh_back (e2.trans e3) ht) ((e2.trans e3).trans (Ex.new ht)) upd_same (fun v hv => by
      rcases List.mem_append.mp hv with hv | hv
      · exact mo.m (((e.trans e2).trans e3).trans (Ex.new ht)) (hx v hv)
      · exact mo.m (Ex.new ht) (ms v hv)) (by rw [List.length_append, l])⟩
/-- _law_pick(dice, [..]): one of them -/
theorem c_pick {E : XK} {Q : VK} (mo : MonoN N) (hv : σ[0]? = some (some (.ref a))) (hd : DiceAt H a) (h : EvQL (Off (some a) N) te σ H n) (n0 : 0 < n) (hn : n ≤ 1000)
    (k : ∀ x H2, Bt a H H2 → DiceAt H2 a → Off (some a) N H2 x → Q x H2) : tCall (sp_law_pick K) [] E (tCons (tVar 0) (tCons te tNil)) σ H Q := by
  refine d_raw (n_cons (n_var hv (n_cons ?_)))
  refine h H (Ex.refl _) _ fun p xs H2 hp e2 h2 ms l => n_nil ⟨a, p, xs, rfl, hd.ex e2, hd.ne hp, sq_of h2, (fun z => by rw [z] at l; simp at l; omega), by omega, fun x H3 hx b3 d3 => ?_⟩
  exact k x H3 ((Bt.of e2).trans b3) d3 (mo.m (ExtN.of b3) (ms x hx))
theorem q_pick {E : XK} {D : Ends} {tz : TS} {i : Nat} (mo : MonoN N) (hv : σ[0]? = some (some (.ref a))) (hd : DiceAt H a) (h : EvQL (Off (some a) N) te σ H n) (n0 : 0 < n) (hn : n ≤ 1000)
    (k : ∀ x H2, Bt a H H2 → DiceAt H2 a → Off (some a) N H2 x → tz D (σ.set i (some x)) H2) : tSeq (tAsg (tCall (sp_law_pick K) [] E (tCons (tVar 0) (tCons te tNil))) (gName i)) tz D σ H := c_pick mo hv hd h n0 hn k
/-! ### data there -/
def Al (o : Option Addr) (H : Hp) : Prop := ∀ a, o = some a → ∃ u, H a = some u
theorem Al.ex (e : Ex H H') (h : Al o H) : Al o H' := fun a ha => let ⟨u, hu⟩ := h a ha; ⟨u, e _ _ hu⟩
theorem Al.ne (h : Al o H) (hp : H p = none) : ∀ a, o = some a → p ≠ a := fun a ha z => by
  obtain ⟨u, hu⟩ := h a ha
  rw [← z, hp] at hu
  cases hu
theorem Al.of (h : DiceAt H a) : Al (some a) H := fun b hb => by
  cases hb
  obtain ⟨x, y, z, hz⟩ := h
  exact ⟨_, hz⟩
theorem Al.none : Al none H := fun b hb => by cases hb
theorem hidO_at {b : Addr} {u : HO} (h : H b = some u) (n : ∀ a, o = some a → b ≠ a) : hid o H b = some u := by
  unfold hid
  rw [if_neg fun z => n b z rfl]
  exact h
abbrev RpO (K : PySem.W.Frag) (o : Option Addr) (d : K0.D) : Hp → V → Prop := Off o fun H v => Rp K H v d
def EvH (K : PySem.W.Frag) (o : Option Addr) (te : TE) (σ : L2.St) (H : Hp) (d : K0.D) : Prop := EvQ (RpO K o d) te σ H
def EvHA (K : PySem.W.Frag) (o : Option Addr) (ta : TA) (σ : L2.St) (H : Hp) (ds : List K0.D) : Prop := ∀ H1, Ex H H1 → ∀ Q : List V → Hp → Prop, (∀ vs H2, Ex H1 H2 → RpAll K (hid o H2) vs ds → Q vs H2) → ta σ H1 Q
theorem rpN {d : K0.D} : MonoN fun H v => Rp K H v d := ⟨fun e h => h.extN e⟩
theorem h_ev (h : Ev te σ H v) (r : ∀ H, Rp K H v d) : EvH K o te σ H d := fun H1 e Q q => h H1 e Q fun H2 e2 => q v H2 e2 (r _)
theorem h_int {i : Int} : EvH K o (tC (.int i)) σ H (.int i) := h_ev ev_c fun _ => .int i
theorem h_neg {i : Int} : EvH K o (tUn (rU fun i => .int (-i)) (tC (.int i))) σ H (.int (-i)) := h_ev (ev_un ev_c ru_neg) fun _ => .int _
theorem h_str {s : Str} : EvH K o (tC (.str s)) σ H (.str s) := h_ev ev_c fun _ => .str s
theorem h_non : EvH K o (tC .non) σ H .non := h_ev ev_c fun _ => .non
theorem h_bl {b : Bool} : EvH K o (tC (.bl b)) σ H (.bl b) := h_ev ev_c fun _ => .bl b
theorem h_var {i : Nat} (h : σ[i]? = some (some v)) (r : RpO K o d H v) : EvH K o (tVar i) σ H d := fun H1 e Q q => ev_var h H1 e Q fun H2 e2 => q v H2 e2 (Rp.ex (hid_ex (e.trans e2)) r)
theorem ha_nil : EvHA K o tNil σ H [] := fun H1 e Q q => q [] H1 (Ex.refl _) .nil
theorem ha_cons (h : EvH K o te σ H d) (r : EvHA K o tr σ H ds) : EvHA K o (tCons te tr) σ H (d :: ds) := fun H1 e Q q =>
  h H1 e _ fun v H2 e2 hv => r H2 (e.trans e2) _ fun vs H3 e3 hs => q (v :: vs) H3 (e2.trans e3) (.cons (Rp.ex (hid_ex e3) hv) hs)
theorem h_tup (al : Al o H) (h : EvHA K o tr σ H ds) (l : ds.length ≤ 1000) : EvH K o (tTup tr) σ H (.tup ds) := fun H1 e Q q =>
  h H1 e _ fun vs H2 e2 hs => ⟨by rw [hs.len]; exact sz_of (by omega), fun p hp => q (.ref p) _ (e2.trans (Ex.new hp)) (.tup (st_of (hidO_at upd_same ((al.ex (e.trans e2)).ne hp))) (RpAll.ex (hid_ex (Ex.new hp)) hs))⟩
theorem h_lst (al : Al o H) (h : EvHA K o tr σ H ds) (l : ds.length ≤ 1000) : EvH K o (tLst tr) σ H .oth := fun H1 e Q q =>
  h H1 e _ fun vs H2 e2 hs => ⟨by rw [hs.len]; exact sz_of (by omega), fun p hp => q (.ref p) _ (e2.trans (Ex.new hp)) (.lst (hidO_at upd_same ((al.ex (e.trans e2)).ne hp)))⟩
theorem h_dict0 (al : Al o H) : EvH K o tDNewK σ H .oth := fun H1 e Q q p hp => q (.ref p) _ (Ex.new hp) (.dct (hidO_at upd_same ((al.ex e).ne hp)))
theorem h_q {N : Hp → V → Prop} (h : EvH K o te σ H d) (k : ∀ H v, Rp K H v d → N H v) : EvQ (Off o N) te σ H := fun H1 e Q q => h H1 e Q fun v H2 e2 r => q v H2 e2 (k _ _ r)
end
/-! ### told: a list that grows by what lambdas meet -/
structure TIG (K : PySem.W.Frag) (T : List (Addr × Str)) (H0 : Hp) (o : Option Addr) (l : Addr) (ds : List K0.D) (H : Hp) : Prop where
  bt : BtO o H0 H
  dice : DiceO o H
  tabs : Tabs T H
  fr : FreeN H0 l
  na : ∀ a, o = some a → l ≠ a
  lst : ∃ vs, H l = some (.lst vs) ∧ RpAll K H vs ds
section
variable {K : PySem.W.Frag} {σ : L2.St} {H H0 H1 H' : Hp} {ta te : TE} {tr : TA} {sp : Sp} {Q : VK} {T : List (Addr × Str)} {D : Ends} {tz : TS} {i : Nat} {a l : Addr} {ds : List K0.D} {r fine : K0.D} {EK : EKT} {TF : Hp → VK → Prop} {o : Option Addr} {t : XK → TE}
theorem TIG.ex (e : Ex H H') (h : TIG K T H0 o l ds H) : TIG K T H0 o l ds H' := by
  obtain ⟨vs, h1, h2⟩ := h.lst
  exact ⟨h.bt.trans (BtO.ofE e), h.dice.ex e, h.tabs.ext e, h.fr, h.na, vs, e _ _ h1, h2.ex e⟩
/-- what a lambda's body is to do -/
def LamDo (T : List (Addr × Str)) (EK : EKT) (fine r : K0.D) (o : Option Addr) (H0 : Hp) (t : XK → TE) (σ : L2.St) : Prop :=
  ∀ H1 (E : XK), BtO o H0 H1 → DiceO o H1 → Tabs T H1 → (∀ cls dd H2, BtO o H1 H2 → DiceO o H2 → Tabs T H2 → EK r cls dd H2 → E cls dd H2) → ∀ Q : VK, (∀ v H2, BtO o H1 H2 → DiceO o H2 → Tabs T H2 → r = fine → Q v H2) → t E σ H1 Q
theorem n_lamG (hF : ∀ H Q, RetR K fine H Q → TF H Q) (hd : DiceO o H) (ht : Tabs T H) (h : LamDo T EK fine r o H t σ) (k : ∀ v H2, BtO o H H2 → DiceO o H2 → Tabs T H2 → Rp K H2 v r → Q v H2) : tLam T (TMG K EK TF) t σ H Q :=
  ⟨ht, fun H1 e1 T1 => h H1 _ (BtO.ofN e1) (hd.extN e1) T1 (fun cls dd H2 b2 d2 t2 ek => ⟨r, ek, fun v H3 e3 rv => k v H3 (((BtO.ofN e1).trans b2).trans (BtO.ofE e3)) (d2.ex e3) (t2.ext e3) rv⟩) _
    fun v H2 b2 d2 t2 er => hF _ _ fun v H3 e3 rv => k v H3 (((BtO.ofN e1).trans b2).trans (BtO.ofE e3)) (d2.ex e3) (t2.ext e3) (by rw [er]; exact rv)⟩
theorem LamDo.bt (b : BtO o H0 H) (h : LamDo T EK fine r o H0 t σ) : LamDo T EK fine r o H t σ := fun H1 E b1 => h H1 E (b.trans b1)
theorem q_told0 (hF : ∀ H Q, RetR K fine H Q → TF H Q) (hd : DiceO o H) (ht : Tabs T H) (h : LamDo T EK fine r o H t σ) (k : ∀ l H1, TIG K T H o l [r] H1 → tz D (σ.set i (some (.ref l))) H1) : tSeq (tAsg (tLst (tCons (tLam T (TMG K EK TF) t) tNil)) (gName i)) tz D σ H :=
  n_lamG hF hd ht h fun v H1 b1 d1 t1 rv => ⟨sz_of (by simp), fun p hp => k p _ ⟨b1.trans (BtO.ofE (Ex.new hp)), d1.ex (Ex.new hp), t1.ext (Ex.new hp), (fun u hu => by
    by_cases nt : ∃ ps, u = .tbl ps
    · exact nt
    · have hne : ∀ a, o = some a → p ≠ a := fun a ha z => by
        obtain ⟨x, y, w, hz⟩ := d1 a ha
        rw [← z, hp] at hz
        cases hz
      have := b1.at_ hne (fun ps z => nt ⟨ps, z⟩) hu
      rw [hp] at this
      cases this), (fun a ha z => by
      obtain ⟨x, y, w, hz⟩ := d1 a ha
      rw [← z, hp] at hz
      cases hz), [v], upd_same, .cons (rv.ex (Ex.new hp)) .nil⟩⟩
theorem q_toldA (hF : ∀ H Q, RetR K fine H Q → TF H Q) (hv : σ[i]? = some (some (.ref l))) (hl : ds.length ≤ 1000) (hc : K0.D.cleanL ds = true) (hr : r.clean = true) (I : TIG K T H0 o l ds H) (h : LamDo T EK fine r o H0 t σ)
    (k : ∀ H1, TIG K T H0 o l (ds ++ [r]) H1 → tz D σ H1) : tSeq (tDrop (tBM K "list" rAppend (tVar i) (tCons (tLam T (TMG K EK TF) t) tNil))) tz D σ H := by
  obtain ⟨vs, hvs, rvs⟩ := I.lst
  have lv : vs.length = ds.length := rvs.len
  refine ⟨.ref l, hv, Or.inl ⟨rfl, vs, sq_of hvs⟩, n_lamG (K := K) hF I.dice I.tabs (h.bt I.bt) fun v H1 b1 d1 t1 rv => ?_⟩
  have h1 : H1 l = some (.lst vs) := b1.at_ I.na (fun ps z => by cases z) hvs
  refine ⟨l, vs, v, rfl, rfl, h1, sz_lt (by omega), k _ ⟨(I.bt.trans b1).mutF I.fr, ?_, tabs_lst h1 t1, I.fr, I.na, _, upd_same, ?_⟩⟩
  · intro a ha
    obtain ⟨x, y, z, hz⟩ := d1 a ha
    exact ⟨x, y, z, by rw [upd_ne (I.na a ha).symm]; exact hz⟩
  · exact (rvs.byT hc fun _ _ g => sqT_lst h1 (BtO.sqT I.dice b1 g)).app (.cons (rv.byT hr fun _ _ g => sqT_lst h1 g) .nil)
end
end K0

namespace K0
namespace G
open PySem PySem.Spec PyProof.Rows L2 Evl
/-! ### lists of data (the generic part, for laws of errors) -/
section
variable {K : PySem.W.Frag} {σ : L2.St} {H H1 : Hp} {te tl : TE} {t : TT} {vs : List Nat} {j : Nat} {Q : VK}
theorem lc_dataF {α : Type} {J : It} {Gd : Hp → Prop} {ys : List α} {f : α → V} {Pk : α → Bool} {G : α → D} (w : Walk J ys.length Gd (YAt (ys.map f))) (hG : ∀ H', Ex H1 H' → Gd H') (hz : ys.length ≤ 40000)
    (hw : ∀ x, wipe ((wipe σ vs).set j (some x)) vs = wipe σ vs)
    (ht : ∀ y H', y ∈ ys → Ex H1 H' → EvT t ((wipe σ vs).set j (some (f y))) H' (Pk y)) (he : ∀ y H', y ∈ ys → Pk y = true → Ex H1 H' → EvD K te ((wipe σ vs).set j (some (f y))) H' (G y))
    (q : ∀ p xs H2, H1 p = none → Ex H1 H2 → H2 p = some (.lst xs) → RpAll K H2 xs ((ys.filter Pk).map G) → Q (.ref p) H2) :
    ∀ Dl, H1 Dl = none → ∃ W : Nat → Nat → Hp → Prop, (∃ m, W 0 m (upd H1 Dl (.lst []))) ∧ ∀ i m H, W i m H → (J.stop i H ∧ Q (.ref Dl) H) ∨ (J.go i H ∧ ∃ Nx : Hp → Prop, (∀ H', Nx H' → ∃ m', m' < m ∧ W (i + 1) m' H') ∧
      ∀ x H', J.yld i H x H' → gName j x (wipe σ vs) H' fun σ2 H2 => wipe σ2 vs = wipe σ vs ∧ t σ2 H2 fun b H3 => if b = true then te σ2 H3 fun y H4 => ∃ acc, H4 Dl = some (.lst acc) ∧ acc.length < sizeLine ∧ Nx (upd H4 Dl (.lst (acc ++ [y]))) else Nx H3) := fun Dl hD => by
  refine lc_it w (fun i H' => i ≤ ys.length ∧ ∃ acc, H' Dl = some (.lst acc) ∧ RpAll K H' acc (((ys.take i).filter Pk).map G) ∧ Ex H1 H') ⟨Nat.zero_le _, [], upd_same, .nil, Ex.new hD⟩ (fun i H' _ p => hG H' p.2.choose_spec.2.2) (fun i x H' H'' hi p y => ?_) (fun H' p => ?_)
  · obtain ⟨_, acc, p1, p2, p3⟩ := p
    obtain ⟨rfl, hx⟩ := y
    rw [List.getElem?_map, List.getElem?_eq_getElem hi] at hx
    have hx' : f ys[i] = x := Option.some.inj hx
    subst hx'
    have hm : ys[i] ∈ ys := List.getElem_mem hi
    have et : ys.take (i + 1) = ys.take i ++ [ys[i]] := by rw [List.take_succ, List.getElem?_eq_getElem hi]; rfl
    refine ⟨hw _, ht ys[i] H'' hm p3 H'' (Ex.refl _) _ fun H3 e3 => ?_⟩
    have hal : acc.length ≤ i := by
      rw [p2.len, List.length_map]
      refine Nat.le_trans (List.length_filter_le _ _) ?_
      rw [List.length_take]
      omega
    cases hk : Pk ys[i] with
    | true =>
      rw [if_pos rfl]
      refine he ys[i] H3 hm hk (p3.trans e3) H3 (Ex.refl _) _ fun v H4 e4 hv => ?_
      have h4 := e4 _ _ (e3 _ _ p1)
      refine ⟨acc, h4, sz_lt (by omega), hi, acc ++ [v], upd_same, ?_, Ex.mut ((p3.trans e3).trans e4) hD⟩
      rw [et, List.filter_append, List.map_append, show [ys[i]].filter Pk = [ys[i]] from by rw [List.filter_cons, if_pos hk]; rfl]
      exact ((p2.ex (e3.trans e4)).app (.cons hv .nil)).exL (ExL.upd h4)
    | false =>
      rw [if_neg (by decide)]
      refine ⟨hi, acc, e3 _ _ p1, ?_, p3.trans e3⟩
      rw [et, List.filter_append, show [ys[i]].filter Pk = [] from by rw [List.filter_cons, if_neg (by rw [hk]; decide)]; rfl, List.append_nil]
      exact p2.ex e3
  · obtain ⟨_, acc, p1, p2, p3⟩ := p
    rw [List.take_length] at p2
    exact q Dl acc H' hD p3 p1 p2
/-- .. as what evaluates to a new list of data, over a list that stands -/
theorem edl_listF {α : Type} {a : Addr} {ys : List α} {f : α → V} {Pk : α → Bool} {G : α → D} (h : Ev tl σ H (.ref a)) (hx : SqL K H a (ys.map f)) (hz : ys.length ≤ 40000) (hw : ∀ x, wipe ((wipe σ vs).set j (some x)) vs = wipe σ vs)
    (ht : ∀ y H', y ∈ ys → Ex H H' → EvT t ((wipe σ vs).set j (some (f y))) H' (Pk y)) (he : ∀ y H', y ∈ ys → Pk y = true → Ex H H' → EvD K te ((wipe σ vs).set j (some (f y))) H' (G y)) :
    EvDL K (tLc (iList K tl) (gName j) t te vs) σ H ((ys.filter Pk).map G) := fun H0 e Q q => h H0 e _ fun H1 e1 => by
  have wk := walk_list (K := K) (a := a) (xs := ys.map f)
  rw [List.length_map] at wk
  exact ⟨a, rfl, ⟨_, ex_l (e.trans e1) hx⟩, lc_dataF wk (fun H' e' => ex_l ((e.trans e1).trans e') hx) hz hw (fun y H' hy e' => ht y H' hy ((e.trans e1).trans e')) (fun y H' hy hk e' => he y H' hy hk ((e.trans e1).trans e')) fun p xs H2 hp e2 h2 r => q p xs H2 (fresh_back e1 hp) (e1.trans e2) h2 r⟩
end
section
variable {K : PySem.W.Frag} {σ : L2.St} {H H' : Hp} {te ta tb : TE} {a : Addr} {ds es : List D} {M : Hp → V → Prop} {n : Nat}
theorem edl_cat (h1 : EvDL K ta σ H ds) (h2 : EvDL K tb σ H es) (l : ds.length + es.length ≤ 100000) : EvDL K (tOp rCat ta tb) σ H (ds ++ es) := fun H1 e Q q =>
  h1 H1 e _ fun p xs H2 hp e2 h3 r3 => h2 H2 (e.trans e2) _ fun p' ys H3 hp' e3 h4 r4 => ⟨p, p', xs, ys, rfl, rfl, e3 _ _ h3, h4, by rw [r3.len, r4.len]; exact sz_of l, fun q' hq => q q' _ _ (fresh_back (e2.trans e3) hq) ((e2.trans e3).trans (Ex.new hq)) upd_same (((r3.ex e3).app r4).ex (Ex.new hq))⟩
theorem edl_lst {tr : TA} (h : EvDA K tr σ H ds) (l : ds.length ≤ 1000) : EvDL K (tLst tr) σ H ds := fun H1 e Q q =>
  h H1 e _ fun vs H2 e2 r2 => ⟨by rw [r2.len]; exact sz_of (by omega), fun p hp => q p vs _ (fresh_back e2 hp) (e2.trans (Ex.new hp)) upd_same (r2.ex (Ex.new hp))⟩
theorem ev_eqDL {a : Addr} {xs : List V} {n : Nat} (h1 : Ev ta σ H (.ref a)) (hx : H a = some (.lst xs)) (rx : RpAll K H xs ds) (h2 : EvDL K tb σ H es) (fd : ∀ d ∈ ds, d.fine n = true) (fe : ∀ d ∈ es, d.fine n = true) (hn : n + 1 ≤ 64) :
    Ev (tOp (rEqD K) ta tb) σ H (.bl (PyData.eqvAll (K0.D.pyL ds) (K0.D.pyL es))) := fun H1 e Q q => h1 H1 e _ fun H2 e2 => h2 H2 (e.trans e2) _ fun p ys H3 hp e3 h3 ry =>
  ⟨.list (K0.D.pyL ds), .list (K0.D.pyL es), dpL (((e.trans e2).trans e3) _ _ hx) (rx.ex ((e.trans e2).trans e3)) (fine_all ds fd).1, dpL h3 ry (fine_all es fe).1, shapedL_of fd hn, shapedL_of fe hn, q H3 (e2.trans e3)⟩
/-- two new lists of data compared -/
theorem ev_neLN {n : Nat} (h1 : EvDL K ta σ H ds) (h2 : EvDL K tb σ H es) (fd : ∀ d ∈ ds, d.fine n = true) (fe : ∀ d ∈ es, d.fine n = true) (hn : n + 1 ≤ 64) :
    Ev (tOp (rNeD K) ta tb) σ H (.bl (!PyData.eqvAll (K0.D.pyL ds) (K0.D.pyL es))) := fun H1 e Q q => h1 H1 e _ fun p0 xs H2 hp0 e2 hx rx => h2 H2 (e.trans e2) _ fun p ys H3 hp e3 h3 ry =>
  ⟨.list (K0.D.pyL ds), .list (K0.D.pyL es), dpL (e3 _ _ hx) (rx.ex e3) (fine_all ds fd).1, dpL h3 ry (fine_all es fe).1, shapedL_of fd hn, shapedL_of fe hn, q H3 (e2.trans e3)⟩
theorem q_asgQ {M : Hp → V → Prop} {D : Ends} {tz : TS} {i : Nat} (h : EvQL M te σ H n) (k : ∀ p xs H1, H p = none → Ex H H1 → H1 p = some (.lst xs) → (∀ v ∈ xs, M H1 v) → xs.length = n → tz D (σ.set i (some (.ref p))) H1) : tSeq (tAsg te (gName i)) tz D σ H :=
  h H (Ex.refl _) _ fun p xs H1 hp e1 h1 ms l => k p xs H1 hp e1 h1 ms l
theorem q_asgDL {D : Ends} {tz : TS} {i : Nat} (h : EvDL K te σ H ds) (k : ∀ p xs H1, H p = none → Ex H H1 → H1 p = some (.lst xs) → RpAll K H1 xs ds → tz D (σ.set i (some (.ref p))) H1) : tSeq (tAsg te (gName i)) tz D σ H :=
  h H (Ex.refl _) _ fun p xs H1 hp e1 h1 r => k p xs H1 hp e1 h1 r
/-- texts -/
theorem strs_of {xs : List V} {ws : List Str} (h : RpAll K H xs (ws.map D.str)) : xs = ws.map V.str := by
  induction ws generalizing xs with
  | nil => cases h; rfl
  | cons z ws ih =>
    cases h with
    | cons a b =>
      cases a
      rw [List.map_cons, ih b]
/-- a list of one, some times over -/
theorem edl_rep {d : D} {k : Nat} (h : EvD K te σ H d) (hk : k ≤ 1000) : EvDL K (tOp rRep (tLst (tCons te tNil)) (tC (.int (k : Int)))) σ H (List.replicate k d) := fun G e Q q =>
  edl_lst (eda_cons h eda_nil) (by simp) G e _ fun p xs G1 hp e1 h1 r => by
    cases r with
    | cons r0 r1 =>
      cases r1
      rename_i v
      refine ⟨p, (k : Int), [v], rfl, rfl, h1, by omega, by omega, sz_of (by simp; omega), fun t ht => q t _ _ (fresh_back e1 ht) (e1.trans (Ex.new ht)) upd_same ?_⟩
      have key : ∀ m, RpAll K G1 (List.replicate m v) (List.replicate m d) := fun m => by
        induction m with
        | zero => exact .nil
        | succ m ih => exact .cons r0 ih
      have hz : (List.replicate (k : Int).toNat [v]).flatten = List.replicate k v := by
        rw [Int.toNat_natCast]
        clear q r0 key ht h1 hp e1
        induction k with
        | zero => rfl
        | succ m ih => rw [List.replicate_succ, List.flatten_cons, ih (by omega), List.replicate_succ]; rfl
      rw [hz]
      exact (key k).ex (Ex.new ht)
theorem eqvAll_same {ds : List D} (h : D.cleanL ds = true) : PyData.eqvAll (D.pyL ds) (D.pyL ds) = true := eqvAll_self ds h
end
end G
end K0

namespace K0
open PySem PySem.Spec PyProof.Rows L2 Evl
/-! ### letters as data: asks, bars, begun ones and calls -/
abbrev MaxM : Int := 999999999999999999999999999999999999999999999999999999999999
def D.cnt (d : D) : Bool := d.within 0 1000000000
def fAsk (ds : List D) : Bool := decide (ds.length = 2) && ((nth ds 0).cnt && (nth ds 1).cnt)
def fBar (ds : List D) : Bool := decide (ds.length = 2) && ((nth ds 0).cnt && (nth ds 1).within ((nth ds 0).toInt + 1) 1000000000)
def fCall (ds : List D) : Bool := (decide (ds.length = 5) && ((nth ds 1).within 0 4 && (nth ds 2).within 0 8)) && ((nth ds 3).within 1 MaxM && (nth ds 4).deed)
theorem not_t {b : Bool} (h : (!b) = true) : b = false := by cases b <;> first | rfl | cases h
theorem not_f {b : Bool} (h : (!b) = false) : b = true := by cases b <;> first | rfl | cases h
theorem within_int {d : D} {lo hi : Int} (h : d.within lo hi = true) : ∃ i, d = .int i ∧ d.toInt = i := by
  cases d <;> first | exact ⟨_, rfl, rfl⟩ | cases h
section
variable {P : Program} {w : World} {K : PySem.W.Frag} {mg : Str → Option Value} {base : Heap} {A : Ad} {D : Fd}
theorem et_lenNe {σ : L2.St} {H : Hp} {a : Addr} {xs : List V} {ds : List K0.D} {te : TE} {n : Nat} (h : Ev te σ H (.ref a)) (hq : SqT K H a xs) (hr : RpAll K H xs ds) :
    EvT (tTest (tOp rNe (tCB (fun xs H Q => ∃ x n, xs = [x] ∧ LenV K x H n ∧ Q (.int n) H) (tCons te tNil)) (tC (.int (n : Int))))) σ H (!decide (ds.length = n)) :=
  et_is (et_test (ev_op (ev_cb (ea_cons h ea_nil) (rc_lenT hq)) ev_c (rv_ne rfl))) (by
    rw [hr.len]
    congr 1
    exact decide_eq_decide.mpr ⟨fun h => by have := V.int.inj h; omega, fun h => by rw [h]⟩)
abbrev sp_is_count (K : PySem.W.Frag) : Sp := sp1 K0.D.cnt K
theorem len_is_count {vs : List V} {H : Hp} {Q : VK} {E : XK} (h : sp_is_count K vs H Q E) : vs.length = 1 := sp1_len h
theorem ok_is_count (T : Txt K mg A D) : FnOk P w K mg base CX0 3 A.is_count D.is_count ["value"] (sp_is_count K) := by
  have G_is_within : FnOk P w K mg base CX0 2 A.is_within D.is_within ["value", "least", "most"] (sp_is_within K) := ok_is_within T
  obtain ⟨t_MAX_COUNT, c_MAX_COUNT⟩ := T.c_MAX_COUNT
  refine T.F_is_count.ok sc_is_count (fun vs H Q E h => len_is_count h) (fun cdv A0 outer s H vs Q E hr h => ?_)
  refine ⟨_, (pss_one (ps_ret (pe_call G_is_within (hr.mono (by decide)) rfl T.g_is_within T.F_is_within.kp T.b_is_within .nil pass0 (pa_cons (pv 0) (pa_cons pe_int (pa_cons (pe_glob (v := .int (1000000000)) rfl c_MAX_COUNT ⟨_, rfl⟩) pa_nil)))))), ?_⟩
  obtain ⟨x, d, rfl, hx, k⟩ := h
  exact s_ret (ev_call (ea_cons (ev_var rfl) (ea_cons ev_c (ea_cons ev_c ea_nil))) (sv_within hx)) fun H2 e2 => k H2 e2
abbrev sp_is_call_number (K : PySem.W.Frag) : Sp := sp1 (K0.D.within 1 MaxM) K
theorem len_is_call_number {vs : List V} {H : Hp} {Q : VK} {E : XK} (h : sp_is_call_number K vs H Q E) : vs.length = 1 := sp1_len h
theorem ok_is_call_number (T : Txt K mg A D) : FnOk P w K mg base CX0 3 A.is_call_number D.is_call_number ["value"] (sp_is_call_number K) := by
  have G_is_within : FnOk P w K mg base CX0 2 A.is_within D.is_within ["value", "least", "most"] (sp_is_within K) := ok_is_within T
  obtain ⟨t_MAX_NUMBER, c_MAX_NUMBER⟩ := T.c_MAX_NUMBER
  refine T.F_is_call_number.ok sc_is_call_number (fun vs H Q E h => len_is_call_number h) (fun cdv A0 outer s H vs Q E hr h => ?_)
  refine ⟨_, (pss_one (ps_ret (pe_call G_is_within (hr.mono (by decide)) rfl T.g_is_within T.F_is_within.kp T.b_is_within .nil pass0 (pa_cons (pv 0) (pa_cons pe_int (pa_cons (pe_glob (v := .int (999999999999999999999999999999999999999999999999999999999999)) rfl c_MAX_NUMBER ⟨_, rfl⟩) pa_nil)))))), ?_⟩
  obtain ⟨x, d, rfl, hx, k⟩ := h
  exact s_ret (ev_call (ea_cons (ev_var rfl) (ea_cons ev_c (ea_cons ev_c ea_nil))) (sv_within hx)) fun H2 e2 => k H2 e2
abbrev sp_is_ask (K : PySem.W.Frag) : Sp := spF fAsk K
theorem len_is_ask {vs : List V} {H : Hp} {Q : VK} {E : XK} (h : sp_is_ask K vs H Q E) : vs.length = 1 := spF_len h
theorem ok_is_ask (T : Txt K mg A D) : FnOk P w K mg base CX0 4 A.is_ask D.is_ask ["rest"] (sp_is_ask K) := by
  have G_is_count : FnOk P w K mg base CX0 3 A.is_count D.is_count ["value"] (sp_is_count K) := ok_is_count T
  refine T.F_is_ask.ok sc_is_ask (fun vs H Q E h => len_is_ask h) (fun cdv A0 outer s H vs Q E hr h => ?_)
  refine ⟨_, (pss_one (ps_ret (pe_and (pe_cmpR op_eq (pe_callB call_len (by rfl) T.b_len (by decide +kernel) (pa_cons (pv 0) pa_nil)) pe_int (nomark _)) (pe_and (pe_call G_is_count (hr.mono (by decide)) rfl T.g_is_count T.F_is_count.kp T.b_is_count .nil pass0 (pa_cons (pe_ix ix_tup (pv 0) pe_int (fun _ _ => rfl)) pa_nil)) (pe_one (pe_call G_is_count (hr.mono (by decide)) rfl T.g_is_count T.F_is_count.kp T.b_is_count .nil pass0 (pa_cons (pe_ix ix_tup (pv 0) pe_int (fun _ _ => rfl)) pa_nil))))))), ?_⟩
  obtain ⟨x, ds, rfl, hx, hs, k⟩ := h
  obtain ⟨a, xs, rfl, hq, hr1⟩ := hx.tupI
  refine s_ret (ev_andV (ev_lenIs (n := 2) (ev_var rfl) hq hr1) fun h0 => ?_) fun H2 e2 => k H2 e2
  have hl := of_decide_eq_true h0
  obtain ⟨y0, hy0, r0⟩ := rp_nth hr1 (i := 0) (by omega)
  obtain ⟨y1, hy1, r1⟩ := rp_nth hr1 (i := 1) (by omega)
  exact ev_andV (ev_call (ea_cons (ev_nth (ev_var rfl) hq hy0) ea_nil) (sv1 r0)) fun _ => ev_call (ea_cons (ev_nth (ev_var rfl) hq hy1) ea_nil) (sv1 r1)
abbrev sp_is_bar (K : PySem.W.Frag) : Sp := spF fBar K
theorem len_is_bar {vs : List V} {H : Hp} {Q : VK} {E : XK} (h : sp_is_bar K vs H Q E) : vs.length = 1 := spF_len h
theorem ok_is_bar (T : Txt K mg A D) : FnOk P w K mg base CX0 4 A.is_bar D.is_bar ["rest"] (sp_is_bar K) := by
  have G_is_within : FnOk P w K mg base CX0 2 A.is_within D.is_within ["value", "least", "most"] (sp_is_within K) := ok_is_within T
  have G_is_count : FnOk P w K mg base CX0 3 A.is_count D.is_count ["value"] (sp_is_count K) := ok_is_count T
  obtain ⟨t_MAX_COUNT, c_MAX_COUNT⟩ := T.c_MAX_COUNT
  refine T.F_is_bar.ok sc_is_bar (fun vs H Q E h => len_is_bar h) (fun cdv A0 outer s H vs Q E hr h => ?_)
  refine ⟨_, (pss_one (ps_ret (pe_and (pe_cmpR op_eq (pe_callB call_len (by rfl) T.b_len (by decide +kernel) (pa_cons (pv 0) pa_nil)) pe_int (nomark _)) (pe_and (pe_call G_is_count (hr.mono (by decide)) rfl T.g_is_count T.F_is_count.kp T.b_is_count .nil pass0 (pa_cons (pe_ix ix_tup (pv 0) pe_int (fun _ _ => rfl)) pa_nil)) (pe_one (pe_call G_is_within (hr.mono (by decide)) rfl T.g_is_within T.F_is_within.kp T.b_is_within .nil pass0 (pa_cons (pe_ix ix_tup (pv 0) pe_int (fun _ _ => rfl)) (pa_cons (pe_op op_add (pe_ix ix_tup (pv 0) pe_int (fun _ _ => rfl)) pe_int) (pa_cons (pe_glob (v := .int (1000000000)) rfl c_MAX_COUNT ⟨_, rfl⟩) pa_nil))))))))), ?_⟩
  obtain ⟨x, ds, rfl, hx, hs, k⟩ := h
  obtain ⟨a, xs, rfl, hq, hr1⟩ := hx.tupI
  refine s_ret (ev_andV (ev_lenIs (n := 2) (ev_var rfl) hq hr1) fun h0 => ?_) fun H2 e2 => k H2 e2
  have hl := of_decide_eq_true h0
  obtain ⟨y0, hy0, r0⟩ := rp_nth hr1 (i := 0) (by omega)
  obtain ⟨y1, hy1, r1⟩ := rp_nth hr1 (i := 1) (by omega)
  refine ev_andV (a := (nth ds 0).cnt) (ev_call (ea_cons (ev_nth (ev_var rfl) hq hy0) ea_nil) (sv1 r0)) fun hc => ?_
  obtain ⟨i, e1, e2⟩ := within_int hc
  rw [e2]
  rw [e1] at r0
  cases r0
  exact ev_call (ea_cons (ev_nth (ev_var rfl) hq hy1) (ea_cons (ev_op (ev_nth (ev_var rfl) hq hy0) ev_c rv_I0) (ea_cons ev_c ea_nil))) (sv_within r1)
def sp_is_begun (K : PySem.W.Frag) : Sp := fun vs H Q _ => ∃ x, vs = [x] ∧ Rp K H x (.tup []) ∧ RetV (.bl true) H Q
theorem len_is_begun {vs : List V} {H : Hp} {Q : VK} {E : XK} (h : sp_is_begun K vs H Q E) : vs.length = 1 := by
  obtain ⟨x, rfl, _⟩ := h
  rfl
theorem ok_is_begun (T : Txt K mg A D) : FnOk P w K mg base CX0 1 A.is_begun D.is_begun ["rest"] (sp_is_begun K) := by
  refine T.F_is_begun.ok sc_is_begun (fun vs H Q E h => len_is_begun h) (fun cdv A0 outer s H vs Q E hr h => ?_)
  refine ⟨_, (pss_one (ps_ret (pe_cmpR (op_eqD hr.units) (pv 0) (pe_tup pa_nil) (nomark _)))), ?_⟩
  obtain ⟨x, rfl, hx, k⟩ := h
  exact s_ret (ev_is (ev_eqD (d := .tup []) (e := .tup []) (n := 1) (ed_ev (ev_var rfl) hx) (ed_tup eda_nil (by simp)) (by decide +kernel) (by decide +kernel) (by decide)) (congrArg V.bl (by decide +kernel))) fun H2 e2 => k H2 e2
def sp_is_call (K : PySem.W.Frag) : Sp := fun vs H Q _ => ∃ x ds, vs = [x] ∧ Rp K H x (.tup ds) ∧ K0.D.sizeL ds ≤ 28000 ∧ (nth ds 4).wordO.isSome = true ∧ RetV (.bl (fCall ds)) H Q
theorem len_is_call {vs : List V} {H : Hp} {Q : VK} {E : XK} (h : sp_is_call K vs H Q E) : vs.length = 1 := by
  obtain ⟨x, ds, rfl, _⟩ := h
  rfl
theorem ok_is_call (T : Txt K mg A D) (U : Tab K w mg A) : FnOk P w K mg base CX0 25 A.is_call D.is_call ["letter"] (sp_is_call K) := by
  have G_is_house : FnOk P w K mg base CX0 3 A.is_house D.is_house ["value"] (sp_is_house K) := ok_is_house T
  have G_is_client : FnOk P w K mg base CX0 3 A.is_client D.is_client ["value"] (sp_is_client K) := ok_is_client T
  have G_is_deed : FnOk P w K mg base CX0 24 A.is_deed D.is_deed ["value"] (sp_is_deed K) := ok_is_deed T U
  have G_is_call_number : FnOk P w K mg base CX0 3 A.is_call_number D.is_call_number ["value"] (sp_is_call_number K) := ok_is_call_number T
  refine T.F_is_call.ok sc_is_call (fun vs H Q E h => len_is_call h) (fun cdv A0 outer s H vs Q E hr h => ?_)
  refine ⟨_, (pss_cons (ps_if (PW.pt (pw_or (pt_cmpR op_ne (pe_callB call_len (by rfl) T.b_len (by decide +kernel) (pa_cons (pv 0) pa_nil)) pe_int (nomark _)) (pw_or (pt_not (pt_val (pe_call G_is_client (hr.mono (by decide)) rfl T.g_is_client T.F_is_client.kp T.b_is_client .nil pass0 (pa_cons (pe_ix ix_tup (pv 0) pe_int (fun _ _ => rfl)) pa_nil)))) (pw_or1 (pt_not (pt_val (pe_call G_is_house (hr.mono (by decide)) rfl T.g_is_house T.F_is_house.kp T.b_is_house .nil pass0 (pa_cons (pe_ix ix_tup (pv 0) pe_int (fun _ _ => rfl)) pa_nil)))))))) (pss_one (ps_ret pe_bl)) pss_nil)
  (pss_one (ps_ret (pe_and (pe_call G_is_call_number (hr.mono (by decide)) rfl T.g_is_call_number T.F_is_call_number.kp T.b_is_call_number .nil pass0 (pa_cons (pe_ix ix_tup (pv 0) pe_int (fun _ _ => rfl)) pa_nil)) (pe_one (pe_call G_is_deed (hr.mono (by decide)) rfl T.g_is_deed T.F_is_deed.kp T.b_is_deed .nil pass0 (pa_cons (pe_ix ix_tup (pv 0) pe_int (fun _ _ => rfl)) pa_nil))))))), ?_⟩
  obtain ⟨x, ds, rfl, hx, hs, hw, k⟩ := h
  obtain ⟨a, xs, rfl, hq, hr1⟩ := hx.tupI
  have fin : ∀ (b : Bool), (decide (ds.length = 5) && ((nth ds 1).within 0 4 && (nth ds 2).within 0 8)) = b → fCall ds = (b && ((nth ds 3).within 1 MaxM && (nth ds 4).deed)) := fun b e => by
    unfold fCall
    rw [e]
  refine q_when (b := !(decide (ds.length = 5) && ((nth ds 1).within 0 4 && (nth ds 2).within 0 8))) (et_is (et_or (a := !decide (ds.length = 5)) (b := !((nth ds 1).within 0 4 && (nth ds 2).within 0 8)) (et_lenNe (ev_var rfl) hq hr1) fun h0 => ?_) ?_) (fun hb H1 e1 => ?_) fun hb H1 e1 => ?_
  · have hl : ds.length = 5 := of_decide_eq_true (not_f h0)
    obtain ⟨y1, hy1, r1⟩ := rp_nth hr1 (i := 1) (by omega)
    obtain ⟨y2, hy2, r2⟩ := rp_nth hr1 (i := 2) (by omega)
    refine et_is (et_or (a := !(nth ds 1).within 0 4) (b := !(nth ds 2).within 0 8) (et_not (et_B (ev_call (ea_cons (ev_nth (ev_var rfl) hq hy1) ea_nil) (sv1 r1)))) fun _ => et_not (et_B (ev_call (ea_cons (ev_nth (ev_var rfl) hq hy2) ea_nil) (sv1 r2)))) ?_
    cases (nth ds 1).within 0 4 <;> cases (nth ds 2).within 0 8 <;> rfl
  · cases decide (ds.length = 5) <;> cases ((nth ds 1).within 0 4 && (nth ds 2).within 0 8) <;> rfl
  · refine s_ret ev_c fun H2 e2 => ?_
    have := k H2 (e1.trans e2)
    rw [fin false (not_t hb)] at this
    exact this
  · have ht : (decide (ds.length = 5) && ((nth ds 1).within 0 4 && (nth ds 2).within 0 8)) = true := not_f hb
    have hl : ds.length = 5 := of_decide_eq_true (Bool.and_eq_true_iff.mp ht).1
    obtain ⟨y3, hy3, r3⟩ := rp_nth hr1 (i := 3) (by omega)
    obtain ⟨y4, hy4, r4⟩ := rp_nth hr1 (i := 4) (by omega)
    have z4 := size_nth (ds := ds) (i := 4)
    rw [fin true ht, Bool.true_and] at k
    exact s_ret (ev_andV (a := (nth ds 3).within 1 MaxM) (ev_call (ea_cons (ev_nth (ev_var rfl) (ex_t e1 hq) hy3) ea_nil) (sv1 (r3.ex e1))) fun _ => ev_call (ea_cons (ev_nth (ev_var rfl) (ex_t e1 hq) hy4) ea_nil) (sv_deed (r4.ex e1) (by omega) hw)) fun H2 e2 => k H2 (e1.trans e2)
end
end K0

namespace K0
open PySem PySem.Spec PyProof.Rows L2 Evl
/-! ### letters -/
def hForm (w : Str) (r : List D) : Bool := if w = "ask" then fAsk r else if w = "bar" then fBar r else true
def hLet (w : Str) (ds : List D) : Bool := decide (4 ≤ ds.length) && ((nth ds 1).cnt && ((nth ds 2).within 0 8 && ((nth ds 3).within 0 8 && hForm w (ds.drop 4))))
/-- letters between houses, and what is none, as far as they are looked at here -/
def D.hOk : D → Bool
  | .tup (.str w :: r) => decide (w = "ask") || decide (w = "bar") || (decide (w = "begun") && decide (r.length ≤ 3))
  | _ => true
def D.houseL : D → Bool
  | .tup (.str w :: r) => hLet w (.str w :: r)
  | _ => false
def D.lOk : D → Bool
  | .tup (.str w :: r) => decide (w = "ask") || decide (w = "bar") || (decide (w = "begun") && decide (r.length ≤ 3)) || (decide (w = "deed") && (nth r 3).wordO.isSome)
  | _ => true
def D.letter : D → Bool
  | .tup (.str w :: r) => if w = "deed" then fCall (.str w :: r) else hLet w (.str w :: r)
  | _ => false
section
variable {P : Program} {w : World} {K : PySem.W.Frag} {mg : Str → Option Value} {base : Heap} {A : Ad} {D : Fd}
theorem ev_callSD {σ : L2.St} {H : Hp} {te : TE} {SS : List (Addr × Sp)} {i : Nat} {p : Addr × Sp} {d : K0.D} {z : V} (hp : p ∈ SS) (hs : σ[i]? = some (some (.ref p.1))) (h : EvD K te σ H d) (hsp : ∀ v H1, Ex H H1 → Rp K H1 v d → SpV p.2 [v] H1 z) : Ev (tCallS i SS (tCons te tNil)) σ H z := fun H1 e Q q =>
  ⟨p, hp, hs, h H1 e _ fun v H2 e2 r => hsp v H2 (e.trans e2) r H2 (Ex.refl _) Q (fun H3 e3 => q H3 (e2.trans e3)) _⟩
def hSS (K : PySem.W.Frag) (A : Ad) : List (Addr × Sp) := [(A.is_ask, sp_is_ask K), (A.is_bar, sp_is_bar K), (A.is_begun, sp_is_begun K)]
def sp_is_house_letter (K : PySem.W.Frag) : Sp := fun vs H Q _ => ∃ x d, vs = [x] ∧ Rp K H x d ∧ d.size ≤ 28000 ∧ d.hOk = true ∧ RetV (.bl d.houseL) H Q
theorem len_is_house_letter {vs : List V} {H : Hp} {Q : VK} {E : XK} (h : sp_is_house_letter K vs H Q E) : vs.length = 1 := by
  obtain ⟨x, d, rfl, _⟩ := h
  rfl
theorem sv_houseL {H : Hp} {x : V} {d : K0.D} (h : Rp K H x d) (hs : d.size ≤ 28000) (ho : d.hOk = true) : SpV (sp_is_house_letter K) [x] H (.bl d.houseL) := fun H1 e Q q E => ⟨x, d, rfl, h.ex e, hs, ho, q⟩
theorem sizeL_drop : ∀ (n : Nat) (ds : List K0.D), K0.D.sizeL (ds.drop n) ≤ K0.D.sizeL ds
  | 0, ds => Nat.le_refl _
  | n + 1, [] => Nat.le_refl _
  | n + 1, d :: ds => by
    have := sizeL_drop n ds
    rw [List.drop_succ_cons]
    simp only [K0.D.sizeL]
    omega
theorem houseL_none {d : K0.D} (h : d.wordO = none) : d.houseL = false := by
  cases d with
  | tup ds =>
    cases ds with
    | nil => rfl
    | cons e r => cases e <;> first | rfl | cases h
  | _ => rfl
theorem letter_none {d : K0.D} (h : d.wordO = none) : d.letter = false := by
  cases d with
  | tup ds =>
    cases ds with
    | nil => rfl
    | cons e r => cases e <;> first | rfl | cases h
  | _ => rfl
theorem ok_is_house_letter (T : Txt K mg A D) (U : Tab K w mg A) : FnOk P w K mg base CX0 29 A.is_house_letter D.is_house_letter ["value"] (sp_is_house_letter K) := by
  have G_is_house : FnOk P w K mg base CX0 3 A.is_house D.is_house ["value"] (sp_is_house K) := ok_is_house T
  have G_word_of : FnOk P w K mg base CX0 1 A.word_of D.word_of ["value"] (sp_word_of K) := ok_word_of T
  have G_is_count : FnOk P w K mg base CX0 3 A.is_count D.is_count ["value"] (sp_is_count K) := ok_is_count T
  obtain ⟨a_HOUSE_FORMS, g_HOUSE_FORMS, _, _, kd_HOUSE_FORMS, nx_HOUSE_FORMS⟩ := U.d_HOUSE_FORMS
  have held : ∀ q ∈ hSS K A, Held P w K mg base 28 q.1 q.2 := by
    intro q hq
    simp only [hSS, List.mem_cons, List.not_mem_nil, or_false] at hq
    rcases hq with rfl | rfl | rfl
    · exact ⟨_, _, (ok_is_ask T).mono (by decide), T.F_is_ask.kp, T.b_is_ask⟩
    · exact ⟨_, _, (ok_is_bar T).mono (by decide), T.F_is_bar.kp, T.b_is_bar⟩
    · exact ⟨_, _, (ok_is_begun T).mono (by decide), T.F_is_begun.kp, T.b_is_begun⟩
  refine T.F_is_house_letter.ok sc_is_house_letter (fun vs H Q E h => len_is_house_letter h) (fun cdv A0 outer s H vs Q E hr h => ?_)
  refine ⟨_, (pss_cons (ps_set (i := 1) sc_is_house_letter.nd rfl (Or.inl rfl) (pe_call G_word_of (hr.mono (by decide)) rfl T.g_word_of T.F_word_of.kp T.b_word_of .nil pass0 (pa_cons (pv 0) pa_nil)))
  (pss_cons (ps_if (PW.pt (pw_or (pt_cmpR (op_notIn_kdN kd_HOUSE_FORMS) (pv 1) (pe_glob (v := .ref a_HOUSE_FORMS) rfl g_HOUSE_FORMS rfl) (by rfl)) (pw_or1 (pt_cmpR op_lt (pe_callB call_len (by rfl) T.b_len (by decide +kernel) (pa_cons (pv 0) pa_nil)) pe_int (nomark _))))) (pss_one (ps_ret pe_bl)) pss_nil)
  (pss_cons (ps_set (i := 2) sc_is_house_letter.nd rfl (Or.inl rfl) (pe_ix ix_kdict (pe_glob (v := .ref a_HOUSE_FORMS) rfl g_HOUSE_FORMS rfl) (pv 1) (fun _ _ => rfl)))
  (pss_one (ps_ret (pe_and (pe_call G_is_count (hr.mono (by decide)) rfl T.g_is_count T.F_is_count.kp T.b_is_count .nil pass0 (pa_cons (pe_ix ix_tup (pv 0) pe_int (fun _ _ => rfl)) pa_nil)) (pe_and (pe_call G_is_house (hr.mono (by decide)) rfl T.g_is_house T.F_is_house.kp T.b_is_house .nil pass0 (pa_cons (pe_ix ix_tup (pv 0) pe_int (fun _ _ => rfl)) pa_nil)) (pe_and (pe_call G_is_house (hr.mono (by decide)) rfl T.g_is_house T.F_is_house.kp T.b_is_house .nil pass0 (pa_cons (pe_ix ix_tup (pv 0) pe_int (fun _ _ => rfl)) pa_nil)) (pe_one (pe_callS (i := 2) held hr rfl (Or.inl rfl) (pa_cons (pe_slice sl_tupA (pv 0) (po_some pe_int) po_none) pa_nil))))))))))), ?_⟩
  obtain ⟨x, d, rfl, hx, hs, ho, k⟩ := h
  cases hwo : d.wordO with
  | none =>
    refine q_asg (v := .non) (ev_is (ev_call (ea_cons (ev_var rfl) ea_nil) (sv_word hx (by omega))) (by rw [hwo]; rfl)) fun H1 e1 => ?_
    refine q_when (b := true) (et_is (et_or (a := true) (b := false) (et_test (ev_op (ev_var rfl) ev_c rv_nikN)) fun z => by cases z) rfl) (fun _ H2 e2 => ?_) (fun z => by cases z)
    refine s_ret ev_c fun H3 e3 => ?_
    have := k H3 ((e1.trans e2).trans e3)
    rw [houseL_none hwo] at this
    exact this
  | some s =>
    obtain ⟨r, rfl⟩ := word_tup hwo
    have hs2 : K0.D.sizeL (K0.D.str s :: r) ≤ 28000 := by
      simp only [K0.D.size] at hs
      omega
    obtain ⟨a, xs, rfl, hq, hr1⟩ := hx.tupI
    refine q_asg (v := .str s) (ev_call (ea_cons (ev_var rfl) ea_nil) (sv_word hx (by omega))) fun H1 e1 => ?_
    have hq1 := ex_t e1 hq
    have hc : s = "ask" ∨ s = "bar" ∨ (s = "begun" ∧ r.length ≤ 3) := by
      have ho' : (decide (s = "ask") || decide (s = "bar") || (decide (s = "begun") && decide (r.length ≤ 3))) = true := ho
      simp only [Bool.or_eq_true, Bool.and_eq_true, decide_eq_true_eq] at ho'
      rcases ho' with (h | h) | h
      · exact .inl h
      · exact .inr (.inl h)
      · exact .inr (.inr h)
    have szd := sizeL_drop 4 (K0.D.str s :: r)
    have got : ∃ f sp, (f, sp) ∈ hSS K A ∧ PySem.W.nsIn K a_HOUSE_FORMS s = some (some (.ref f)) ∧ ∀ v H1, Rp K H1 v (.tup ((K0.D.str s :: r).drop 4)) → SpV sp [v] H1 (.bl (hForm s ((K0.D.str s :: r).drop 4))) := by
      rcases hc with rfl | rfl | ⟨rfl, hl⟩
      · exact ⟨A.is_ask, sp_is_ask K, by simp [hSS], nx_HOUSE_FORMS "ask", fun v H1 rv => sv_is (svF (f := fAsk) rv (by omega)) (by unfold hForm; rw [if_pos rfl])⟩
      · exact ⟨A.is_bar, sp_is_bar K, by simp [hSS], nx_HOUSE_FORMS "bar", fun v H1 rv => sv_is (svF (f := fBar) rv (by omega)) (by unfold hForm; rw [if_neg (by decide +kernel), if_pos rfl])⟩
      · refine ⟨A.is_begun, sp_is_begun K, by simp [hSS], nx_HOUSE_FORMS "begun", fun v H1 rv => ?_⟩
        rw [show hForm "begun" ((K0.D.str "begun" :: r).drop 4) = true from by unfold hForm; rw [if_neg (by decide +kernel), if_neg (by decide +kernel)]]
        rw [List.drop_eq_nil_of_le (by simp; omega)] at rv
        exact fun H2 e Q q E => ⟨v, rfl, rv.ex e, q⟩
    obtain ⟨f, sp, hm, hn, hv⟩ := got
    generalize hds : (K0.D.str s :: r) = ds at *
    have hL : (K0.D.tup ds).houseL = hLet s ds := by rw [← hds]; rfl
    rw [hL] at k
    refine q_when (b := decide (ds.length < 4)) (et_is (et_or (a := false) (b := decide (ds.length < 4)) (et_test (ev_op (ev_var rfl) ev_c (rv_nikS hn))) fun _ => et_is (et_test (ev_op (ev_cb (ea_cons (ev_var rfl) ea_nil) (rc_lenT hq1)) ev_c rv_I0)) (by rw [hr1.len]; exact decide_eq_decide.mpr (by omega))) (Bool.false_or _)) (fun hb H2 e2 => ?_) fun hb H2 e2 => ?_
    · refine s_ret ev_c fun H3 e3 => ?_
      have := k H3 ((e1.trans e2).trans e3)
      have l4 := of_decide_eq_true hb
      unfold hLet at this
      rw [decide_eq_false (by omega)] at this
      exact this
    · have l4 : 4 ≤ ds.length := by have := of_decide_eq_false hb; omega
      refine q_asg (ev_op ev_c (ev_var rfl) (rv_kd kd_HOUSE_FORMS hn)) fun H3 e3 => ?_
      have e03 := (e1.trans e2).trans e3
      have hr3 := hr1.ex e03
      have hq3 := ex_t e03 hq
      obtain ⟨y1, hy1, r1⟩ := rp_nth hr3 (i := 1) (by omega)
      obtain ⟨y2, hy2, r2⟩ := rp_nth hr3 (i := 2) (by omega)
      obtain ⟨y3, hy3, r3⟩ := rp_nth hr3 (i := 3) (by omega)
      unfold hLet at k
      rw [decide_eq_true l4, Bool.true_and] at k
      refine s_ret (ev_andV (a := (nth ds 1).cnt) (ev_call (ea_cons (ev_nth (ev_var rfl) hq3 hy1) ea_nil) (sv1 r1)) fun _ => ev_andV (a := (nth ds 2).within 0 8) (ev_call (ea_cons (ev_nth (ev_var rfl) hq3 hy2) ea_nil) (sv1 r2)) fun _ =>
        ev_andV (a := (nth ds 3).within 0 8) (ev_call (ea_cons (ev_nth (ev_var rfl) hq3 hy3) ea_nil) (sv1 r3)) fun _ => ?_) fun H4 e4 => k H4 (e03.trans e4)
      exact ev_callSD (K := K) (d := .tup (ds.drop 4)) (p := (f, sp)) hm rfl (ed_drop (n := 4) (ed_ev (ev_var rfl) (.tup hq3 hr3))) fun v H4 e4 rv => hv v H4 rv
def cSS (K : PySem.W.Frag) (A : Ad) : List (Addr × Sp) := [(A.is_call, sp_is_call K)]
def sp_is_letter (K : PySem.W.Frag) : Sp := fun vs H Q _ => ∃ x d, vs = [x] ∧ Rp K H x d ∧ d.size ≤ 28000 ∧ d.lOk = true ∧ RetV (.bl d.letter) H Q
theorem len_is_letter {vs : List V} {H : Hp} {Q : VK} {E : XK} (h : sp_is_letter K vs H Q E) : vs.length = 1 := by
  obtain ⟨x, d, rfl, _⟩ := h
  rfl
theorem sv_letter {H : Hp} {x : V} {d : K0.D} (h : Rp K H x d) (hs : d.size ≤ 28000) (ho : d.lOk = true) : SpV (sp_is_letter K) [x] H (.bl d.letter) := fun H1 e Q q E => ⟨x, d, rfl, h.ex e, hs, ho, q⟩
theorem ok_is_letter (T : Txt K mg A D) (U : Tab K w mg A) : FnOk P w K mg base CX0 31 A.is_letter D.is_letter ["value"] (sp_is_letter K) := by
  have G_word_of : FnOk P w K mg base CX0 1 A.word_of D.word_of ["value"] (sp_word_of K) := ok_word_of T
  have G_is_house_letter := ok_is_house_letter (P := P) (w := w) (base := base) T U
  obtain ⟨a_CLIENT_FORMS, g_CLIENT_FORMS, _, _, kd_CLIENT_FORMS, nx_CLIENT_FORMS⟩ := U.d_CLIENT_FORMS
  have held : ∀ q ∈ cSS K A, Held P w K mg base 30 q.1 q.2 := by
    intro q hq
    simp only [cSS, List.mem_cons, List.not_mem_nil, or_false] at hq
    subst hq
    exact ⟨_, _, (ok_is_call T U).mono (by decide), T.F_is_call.kp, T.b_is_call⟩
  refine T.F_is_letter.ok sc_is_letter (fun vs H Q E h => len_is_letter h) (fun cdv A0 outer s H vs Q E hr h => ?_)
  refine ⟨_, (pss_cons (ps_set (i := 1) sc_is_letter.nd rfl (Or.inl rfl) (pe_call G_word_of (hr.mono (by decide)) rfl T.g_word_of T.F_word_of.kp T.b_word_of .nil pass0 (pa_cons (pv 0) pa_nil)))
  (pss_cons (ps_if (pt_cmpR (op_notIn_kdN kd_CLIENT_FORMS) (pv 1) (pe_glob (v := .ref a_CLIENT_FORMS) rfl g_CLIENT_FORMS rfl) (by rfl)) (pss_one (ps_ret (pe_call G_is_house_letter (hr.mono (by decide)) rfl T.g_is_house_letter T.F_is_house_letter.kp T.b_is_house_letter .nil pass0 (pa_cons (pv 0) pa_nil)))) pss_nil)
  (pss_cons (ps_set (i := 2) sc_is_letter.nd rfl (Or.inl rfl) (pe_ix ix_kdict (pe_glob (v := .ref a_CLIENT_FORMS) rfl g_CLIENT_FORMS rfl) (pv 1) (fun _ _ => rfl)))
  (pss_one (ps_ret (pe_callS (i := 2) held hr rfl (Or.inl rfl) (pa_cons (pv 0) pa_nil))))))), ?_⟩
  obtain ⟨x, d, rfl, hx, hs, ho, k⟩ := h
  cases hwo : d.wordO with
  | none =>
    have hh : d.hOk = true := by
      cases d with
      | tup ds =>
        cases ds with
        | nil => rfl
        | cons e r => cases e <;> first | rfl | cases hwo
      | _ => rfl
    refine q_asg (v := .non) (ev_is (ev_call (ea_cons (ev_var rfl) ea_nil) (sv_word hx (by omega))) (by rw [hwo]; rfl)) fun H1 e1 => ?_
    refine q_when (b := true) (et_test (ev_op (ev_var rfl) ev_c rv_nikN)) (fun _ H2 e2 => ?_) (fun z => by cases z)
    refine s_ret (ev_call (ea_cons (ev_var rfl) ea_nil) (sv_houseL (hx.ex (e1.trans e2)) hs hh)) fun H3 e3 => ?_
    have := k H3 ((e1.trans e2).trans e3)
    rw [letter_none hwo] at this
    rw [houseL_none hwo]
    exact this
  | some s =>
    obtain ⟨r, rfl⟩ := word_tup hwo
    have hs2 : K0.D.sizeL (K0.D.str s :: r) ≤ 28000 := by
      simp only [K0.D.size] at hs
      omega
    refine q_asg (v := .str s) (ev_call (ea_cons (ev_var rfl) ea_nil) (sv_word hx (by omega))) fun H1 e1 => ?_
    have ho' : (decide (s = "ask") || decide (s = "bar") || (decide (s = "begun") && decide (r.length ≤ 3)) || (decide (s = "deed") && (nth r 3).wordO.isSome)) = true := ho
    by_cases hd : s = "deed"
    · subst hd
      have hw4 : (nth (K0.D.str "deed" :: r) 4).wordO.isSome = true := by
        have n1 : decide (("deed" : Str) = "ask") = false := by decide +kernel
        have n2 : decide (("deed" : Str) = "bar") = false := by decide +kernel
        have n3 : decide (("deed" : Str) = "begun") = false := by decide +kernel
        rw [n1, n2, n3, decide_eq_true rfl] at ho'
        exact ho'
      have hn : PySem.W.nsIn K a_CLIENT_FORMS "deed" = some (some (.ref A.is_call)) := nx_CLIENT_FORMS "deed"
      refine q_when (b := false) (et_test (ev_op (ev_var rfl) ev_c (rv_nikS hn))) (fun z => by cases z) fun _ H2 e2 => ?_
      refine q_asg (ev_op ev_c (ev_var rfl) (rv_kd kd_CLIENT_FORMS hn)) fun H3 e3 => ?_
      have e03 := (e1.trans e2).trans e3
      refine s_ret (ev_callS (p := (A.is_call, sp_is_call K)) (z := .bl (fCall (K0.D.str "deed" :: r))) (by simp [cSS]) rfl (ea_cons (ev_var rfl) ea_nil) fun H4 e4 Q q E => ⟨x, _, rfl, hx.ex (e03.trans e4), hs2, hw4, q⟩) fun H4 e4 => ?_
      exact k H4 (e03.trans e4)
    · have hh : (K0.D.tup (.str s :: r)).hOk = true := by
        rw [decide_eq_false hd] at ho'
        simpa [K0.D.hOk] using ho'
      have hn : PySem.W.nsIn K a_CLIENT_FORMS s = some none := by
        rw [nx_CLIENT_FORMS, lookup_not]
        · rfl
        · intro t ht z
          simp only [List.mem_cons, List.not_mem_nil, or_false] at ht
          have hc : s = "ask" ∨ s = "bar" ∨ s = "begun" := by
            rw [decide_eq_false hd] at ho'
            simp only [Bool.false_and, Bool.or_false, Bool.or_eq_true, Bool.and_eq_true, decide_eq_true_eq] at ho'
            rcases ho' with (h | h) | h
            · exact .inl h
            · exact .inr (.inl h)
            · exact .inr (.inr h.1)
          rw [← z] at hc hd
          rcases ht with rfl | rfl | rfl
          · exact hd rfl
          · rcases hc with h | h | h
            · exact (show ¬ (("answer" : Str) = "ask") by decide +kernel) h
            · exact (show ¬ (("answer" : Str) = "bar") by decide +kernel) h
            · exact (show ¬ (("answer" : Str) = "begun") by decide +kernel) h
          · rcases hc with h | h | h
            · exact (show ¬ (("try" : Str) = "ask") by decide +kernel) h
            · exact (show ¬ (("try" : Str) = "bar") by decide +kernel) h
            · exact (show ¬ (("try" : Str) = "begun") by decide +kernel) h
      refine q_when (b := true) (et_test (ev_op (ev_var rfl) ev_c (rv_nikS hn))) (fun _ H2 e2 => ?_) (fun z => by cases z)
      refine s_ret (ev_call (ea_cons (ev_var rfl) ea_nil) (sv_houseL (hx.ex (e1.trans e2)) hs hh)) fun H3 e3 => ?_
      have := k H3 ((e1.trans e2).trans e3)
      have hl : (K0.D.tup (.str s :: r)).letter = hLet s (.str s :: r) := by
        show (if s = "deed" then _ else _) = _
        rw [if_neg hd]
      rw [hl] at this
      exact this
end
end K0

namespace K0
open PySem PySem.Spec PyProof.Rows L2 Evl
/-! ### the checks of numbers and letters, where they raise, and where they do not -/
def NumQ (A : Ad) (x : V) (d : D) (lo hi : Int) (H : Hp) (Q : VK) (E : XK) : Prop := (d.within lo hi = true → RetV .non H Q) ∧ (d.within lo hi = false → RaF A.EInvalidNumber "given" x H E)
def Rai (C : Addr) (H : Hp) (E : XK) : Prop := ∀ H', Ex H H' → E (.ref C) none H'
theorem Rai.ex {C : Addr} {H H' : Hp} {E : XK} (e : Ex H H') (h : Rai C H E) : Rai C H' E := fun H2 e2 => h H2 (e.trans e2)
theorem NumQ.ex {A : Ad} {x : V} {d : D} {lo hi : Int} {H H' : Hp} {Q : VK} {E : XK} (e : Ex H H') (h : NumQ A x d lo hi H Q E) : NumQ A x d lo hi H' Q E := ⟨fun z H2 e2 => h.1 z H2 (e.trans e2), fun z => (h.2 z).ex e⟩
def D.letters : D → Bool
  | .tup ds => ds.all D.letter | _ => false
def D.lsOk : D → Bool
  | .tup ds => ds.all D.lOk | _ => true
section
variable {P : Program} {w : World} {K : PySem.W.Frag} {mg : Str → Option Value} {base : Heap} {A : Ad} {D : Fd}
theorem ok_InvalidNumber_init (T : Txt K mg A D) : FnOk P w K mg base CX0 1 A.InvalidNumber_init D.InvalidNumber_init ["self", "given"] (spXI A.EInvalidNumber "given") := by
  refine T.F_InvalidNumber_init.ok sc_InvalidNumber_init (fun vs H Q E h => by obtain ⟨a, x, rfl, _⟩ := h; rfl) (fun cdv A0 outer s H vs Q E hr h => ?_)
  refine ⟨_, (pss_one (ps_ostT (pv 0) (pv 1))), ?_⟩
  obtain ⟨a, x, rfl, ha, k⟩ := h
  exact n_var rfl (n_var rfl ⟨a, A.EInvalidNumber, rfl, T.e_InvalidNumber.o, T.n_InvalidNumbergiven, ha, k⟩)
theorem ok_TooMany_init (T : Txt K mg A D) : FnOk P w K mg base CX0 1 A.TooMany_init D.TooMany_init ["self", "limit"] (spXI A.ETooMany "limit") := by
  refine T.F_TooMany_init.ok sc_TooMany_init (fun vs H Q E h => by obtain ⟨a, x, rfl, _⟩ := h; rfl) (fun cdv A0 outer s H vs Q E hr h => ?_)
  refine ⟨_, (pss_one (ps_ostT (pv 0) (pv 1))), ?_⟩
  obtain ⟨a, x, rfl, ha, k⟩ := h
  exact n_var rfl (n_var rfl ⟨a, A.ETooMany, rfl, T.e_TooMany.o, T.n_TooManylimit, ha, k⟩)
def sp_check_numberX (K : PySem.W.Frag) (A : Ad) : Sp := fun vs H Q E => ∃ x d lo hi, vs = [x, .int lo, .int hi] ∧ Rp K H x d ∧ NumQ A x d lo hi H Q E
theorem ok_check_numberX (T : Txt K mg A D) : FnOk P w K mg base (L2.CX P w) 6 A.check_number D.check_number ["given", "least", "most"] (sp_check_numberX K A) := by
  have G_is_within : FnOk P w K mg base CX0 2 A.is_within D.is_within ["value", "least", "most"] (sp_is_within K) := ok_is_within T
  have G_InvalidNumber_init := ok_InvalidNumber_init (P := P) (w := w) (base := base) T
  refine T.F_check_number.ok sc_check_number (fun vs H Q E h => by obtain ⟨x, d, lo, hi, rfl, _⟩ := h; rfl) (fun cdv A0 outer s H vs Q E hr h => ?_)
  refine ⟨_, (pss_one (ps_if (pt_not (pt_val (pe_call G_is_within (hr.mono (by decide)) rfl T.g_is_within T.F_is_within.kp T.b_is_within .nil pass0 (pa_cons (pv 0) (pa_cons (pv 1) (pa_cons (pv 2) pa_nil)))))) (pss_one (ps_raise rfl (takes_of rfl rfl rfl rfl) (pmk_oexT T.e_InvalidNumber.o T.e_InvalidNumber.i T.e_InvalidNumber.t G_InvalidNumber_init (hr.mono (by decide)) T.b_InvalidNumber_init .nil pass0 (by exact rfl) T.e_InvalidNumber.g (pa_cons (pv 0) pa_nil)))) pss_nil)), ?_⟩
  obtain ⟨x, d, lo, hi, rfl, hx, k⟩ := h
  refine s_when (et_not (et_B (ev_call (ea_cons (ev_var rfl) (ea_cons (ev_var rfl) (ea_cons (ev_var rfl) ea_nil))) (sv_within hx)))) (fun hb H1 e1 => ?_) fun hb H1 e1 => k.1 (by cases q : d.within lo hi with | true => rfl | false => rw [q] at hb; cases hb) H1 e1
  have hf : d.within lo hi = false := by cases q : d.within lo hi with | true => rw [q] at hb; cases hb | false => rfl
  exact s_raiseO (D := ⟨fun _ _ => True, fun _ _ => True, fun _ _ => True, fun _ _ => True⟩) (W := fun cls d _ H => E cls d H) (ev_var rfl) fun dd H4 e4 h4 => k.2 hf dd H4 (e1.trans e4) h4
def sp_check_houseX (K : PySem.W.Frag) (A : Ad) : Sp := fun vs H Q E => ∃ x d, vs = [x] ∧ Rp K H x d ∧ NumQ A x d 0 8 H Q E
theorem ok_check_houseX (T : Txt K mg A D) : FnOk P w K mg base (L2.CX P w) 7 A.check_house D.check_house ["given"] (sp_check_houseX K A) := by
  have G_check_number := ok_check_numberX (P := P) (w := w) (base := base) T
  obtain ⟨t_MAX_HOUSES, c_MAX_HOUSES⟩ := T.c_MAX_HOUSES
  refine T.F_check_house.okX sc_check_house (fun vs H Q E h => by obtain ⟨x, d, rfl, _⟩ := h; rfl) (fun cdv A0 outer s H vs Q E hr h => ?_)
  refine ⟨_, (pss_one (ps_expr (pe_call G_check_number (hr.mono (by decide)) rfl T.g_check_number T.F_check_number.kp T.b_check_number .nil (passes_call (takes_of rfl rfl rfl rfl) (fun _ _ _ _ z => z)) (pa_cons (pv 0) (pa_cons pe_int (pa_cons (pe_op op_sub (pe_glob (v := .int (9)) rfl c_MAX_HOUSES ⟨_, rfl⟩) pe_int) pa_nil)))))), ?_⟩
  obtain ⟨x, d, rfl, hx, k⟩ := h
  exact c_call (ea_cons (ev_var rfl) (ea_cons ev_c (ea_cons (ev_op ev_c ev_c rv_I0) ea_nil))) fun H1 e1 => ⟨x, d, 0, 8, rfl, hx.ex e1, k.ex e1⟩
def sp_check_clientX (K : PySem.W.Frag) (A : Ad) : Sp := fun vs H Q E => ∃ x d, vs = [x] ∧ Rp K H x d ∧ NumQ A x d 0 4 H Q E
theorem ok_check_clientX (T : Txt K mg A D) : FnOk P w K mg base (L2.CX P w) 7 A.check_client D.check_client ["given"] (sp_check_clientX K A) := by
  have G_check_number := ok_check_numberX (P := P) (w := w) (base := base) T
  obtain ⟨t_MAX_CLIENTS, c_MAX_CLIENTS⟩ := T.c_MAX_CLIENTS
  refine T.F_check_client.okX sc_check_client (fun vs H Q E h => by obtain ⟨x, d, rfl, _⟩ := h; rfl) (fun cdv A0 outer s H vs Q E hr h => ?_)
  refine ⟨_, (pss_one (ps_expr (pe_call G_check_number (hr.mono (by decide)) rfl T.g_check_number T.F_check_number.kp T.b_check_number .nil (passes_call (takes_of rfl rfl rfl rfl) (fun _ _ _ _ z => z)) (pa_cons (pv 0) (pa_cons pe_int (pa_cons (pe_op op_sub (pe_glob (v := .int (5)) rfl c_MAX_CLIENTS ⟨_, rfl⟩) pe_int) pa_nil)))))), ?_⟩
  obtain ⟨x, d, rfl, hx, k⟩ := h
  exact c_call (ea_cons (ev_var rfl) (ea_cons ev_c (ea_cons (ev_op ev_c ev_c rv_I0) ea_nil))) fun H1 e1 => ⟨x, d, 0, 4, rfl, hx.ex e1, k.ex e1⟩
def sp_check_letterX (K : PySem.W.Frag) (A : Ad) : Sp := fun vs H Q E => ∃ x d, vs = [x] ∧ Rp K H x d ∧ d.size ≤ 28000 ∧ d.lOk = true ∧ (d.letter = true → RetV .non H Q) ∧ (d.letter = false → Rai A.EInvalidLetter H E)
theorem ok_check_letterX (T : Txt K mg A D) (U : Tab K w mg A) : FnOk P w K mg base (L2.CX P w) 33 A.check_letter D.check_letter ["value"] (sp_check_letterX K A) := by
  have G_is_letter := ok_is_letter (P := P) (w := w) (base := base) T U
  refine T.F_check_letter.okX sc_check_letter (fun vs H Q E h => by obtain ⟨x, d, rfl, _⟩ := h; rfl) (fun cdv A0 outer s H vs Q E hr h => ?_)
  refine ⟨_, (pss_one (ps_if (pt_not (pt_val (pe_call G_is_letter (hr.mono (by decide)) rfl T.g_is_letter T.F_is_letter.kp T.b_is_letter .nil pass0 (pa_cons (pv 0) pa_nil)))) (pss_one (ps_raise rfl (takes_of rfl rfl rfl rfl) (pmk_own PySem.F.excBase_ValueError T.e_InvalidLetter.q T.e_InvalidLetter.g T.e_InvalidLetter.k (raises_own T.e_InvalidLetter.b T.e_InvalidLetter.t) (by exact rfl)))) pss_nil)), ?_⟩
  obtain ⟨x, d, rfl, hx, hs, ho, k1, k2⟩ := h
  exact s_when (et_not (et_B (ev_call (ea_cons (ev_var rfl) ea_nil) (sv_letter hx hs ho)))) (fun hb H1 e1 => k2 (not_t hb) H1 e1) fun hb H1 e1 => k1 (not_f hb) H1 e1
def sp_letterR (K : PySem.W.Frag) (A : Ad) : Sp := fun vs H Q E => ∃ x d, vs = [x] ∧ Rp K H x d ∧ d.size ≤ 28000 ∧ d.lOk = true ∧ d.letter = false ∧ Rai A.EInvalidLetter H E
theorem ok_senderR (T : Txt K mg A D) (U : Tab K w mg A) : FnOk P w K mg base (L2.CX P w) 34 A.sender D.sender ["letter"] (sp_letterR K A) := by
  have G_check_letter := ok_check_letterX (P := P) (w := w) (base := base) T U
  refine T.F_sender.okX sc_sender (fun vs H Q E h => by obtain ⟨x, d, rfl, _⟩ := h; rfl) (fun cdv A0 outer s H vs Q E hr h => ?_)
  refine ⟨_, pss_cons (ps_expr (pe_call G_check_letter (hr.mono (by decide)) rfl T.g_check_letter T.F_check_letter.kp T.b_check_letter .nil (passes_call (takes_of rfl rfl rfl rfl) (fun _ _ _ _ z => z)) (pa_cons (pv 0) pa_nil))) (pss_cons ps_never (pss_one ps_never)), ?_⟩
  obtain ⟨x, d, rfl, hx, hs, ho, hf, k⟩ := h
  exact c_call (ea_cons (ev_var rfl) ea_nil) fun H1 e1 => ⟨x, d, rfl, hx.ex e1, hs, ho, (fun z => by rw [hf] at z; cases z), fun _ => k.ex e1⟩
theorem ok_receiverR (T : Txt K mg A D) (U : Tab K w mg A) : FnOk P w K mg base (L2.CX P w) 34 A.receiver D.receiver ["letter"] (sp_letterR K A) := by
  have G_check_letter := ok_check_letterX (P := P) (w := w) (base := base) T U
  refine T.F_receiver.okX sc_receiver (fun vs H Q E h => by obtain ⟨x, d, rfl, _⟩ := h; rfl) (fun cdv A0 outer s H vs Q E hr h => ?_)
  refine ⟨_, pss_cons (ps_expr (pe_call G_check_letter (hr.mono (by decide)) rfl T.g_check_letter T.F_check_letter.kp T.b_check_letter .nil (passes_call (takes_of rfl rfl rfl rfl) (fun _ _ _ _ z => z)) (pa_cons (pv 0) pa_nil))) (pss_one ps_never), ?_⟩
  obtain ⟨x, d, rfl, hx, hs, ho, hf, k⟩ := h
  exact c_call (ea_cons (ev_var rfl) ea_nil) fun H1 e1 => ⟨x, d, rfl, hx.ex e1, hs, ho, (fun z => by rw [hf] at z; cases z), fun _ => k.ex e1⟩
def sp_check_lettersX (K : PySem.W.Frag) (A : Ad) : Sp := fun vs H Q E => ∃ x d, vs = [x] ∧ Rp K H x d ∧ d.size ≤ 20000 ∧ d.lsOk = true ∧ (d.letters = true → RetV .non H Q) ∧ (d.letters = false → Rai A.EInvalidLetter H E)
theorem ok_check_lettersX (T : Txt K mg A D) (U : Tab K w mg A) : FnOk P w K mg base (L2.CX P w) 33 A.check_letters D.check_letters ["value"] (sp_check_lettersX K A) := by
  have G_is_letter := ok_is_letter (P := P) (w := w) (base := base) T U
  refine T.F_check_letters.okX sc_check_letters (fun vs H Q E h => by obtain ⟨x, d, rfl, _⟩ := h; rfl) (fun cdv A0 outer s H vs Q E hr h => ?_)
  refine ⟨_, (pss_one (ps_if (PW.pt (pw_or (pt_not (pt_val (pe_callB call_isi (by rfl) T.b_isinstance (by decide +kernel) (pa_cons (pv 0) (pa_cons (pe_bltn (v := .ty "tuple") (u := .type "tuple") (by rfl) T.b_tuple (by decide +kernel) rfl) pa_nil))))) (pw_or1 (pt_not (pt_val (pe_callB (cr_all rfl) (by rfl) T.b_all (by decide +kernel) (pa_cons (pe_lc (own := [("letter", 1)]) (g := gName 1) (tt := tYes) rfl sc_check_letters.nd (pi_tup (pv 0)) (blkOk_by (own := [("letter", 1)]) (N := N_check_letters) (sc := defScope s_check_letters) (by decide +kernel)) (fun _ _ _ _ _ => by exact pg_name (i := 1) sc_check_letters.nd rfl (Or.inl rfl)) (fun _ _ _ _ _ => by exact pts_nil) (fun _ _ _ _ _ => by exact (pe_call G_is_letter (hr.mono (by decide)) rfl T.g_is_letter T.F_is_letter.kp T.b_is_letter .nil pass0 (pa_cons (pv 1) pa_nil)))) pa_nil))))))) (pss_one (ps_raise rfl (takes_of rfl rfl rfl rfl) (pmk_own PySem.F.excBase_ValueError T.e_InvalidLetter.q T.e_InvalidLetter.g T.e_InvalidLetter.k (raises_own T.e_InvalidLetter.b T.e_InvalidLetter.t) (by exact rfl)))) pss_nil)), ?_⟩
  obtain ⟨x, d, rfl, hx, hs, ho, k1, k2⟩ := h
  by_cases ht : d.isTup = true
  · obtain ⟨a, xs, ds, rfl, rfl, hq, hr1⟩ := hx.isT ht
    have hl := hr1.len
    have lz := sizeL_len ds
    have hs' : 1 + K0.D.sizeL ds ≤ 20000 := by simp only [K0.D.size] at hs; exact hs
    have hall : ds.all K0.D.lOk = true := ho
    refine s_when (b := !ds.all K0.D.letter) (et_is (et_or (a := false) (b := !ds.all K0.D.letter) (et_is (et_not (et_B (ev_cb (ea_cons (ev_var rfl) (ea_cons ev_c ea_nil)) (rc_tup hx)))) rfl) fun _ => et_not (et_B (ev_is (ev_all (bs := (List.range xs.length).map fun i => (nth ds i).letter) ?_) ?_))) (Bool.false_or _)) (fun hb H1 e1 => k2 (not_t hb) H1 e1) fun hb H1 e1 => k1 (not_f hb) H1 e1
    · rw [List.map_map, ← given_map (f := fun _ => true) (fun _ => rfl)]
      refine el_lcT (fun _ => true) _ (ev_var rfl) hq (by omega) (fun _ => rfl) (fun i y H3 e3 hy => et_yes) (fun i y H3 e3 hy _ => ?_)
      obtain ⟨d, hd, hrp⟩ := RpAll.get _ _ _ _ (hr1.ex e3) hy
      have hm := List.mem_of_getElem? hd
      have sz := size_mem hm
      refine ev_is (ev_call (ea_cons (ev_var rfl) ea_nil) (sv_letter hrp (by omega) (List.all_eq_true.mp hall d hm))) ?_
      show V.bl d.letter = V.bl (nth ds i).letter
      unfold nth
      rw [List.getD_eq_getElem?_getD, hd]
      rfl
    · rw [List.all_map, hl]
      congr 1
      have : ((List.range ds.length).all (id ∘ fun i => (nth ds i).letter)) = ds.all K0.D.letter := by
        have := map_rangeD K0.D.letter (.oth : K0.D) ds
        rw [← List.all_map]
        show ((List.range ds.length).map fun i => K0.D.letter (ds.getD i .oth)).all id = _
        rw [this, List.all_map]
        rfl
      exact this
  · have hf : d.letters = false := by cases d <;> first | rfl | exact absurd rfl ht
    have ht' : d.isTup = false := by cases q : d.isTup <;> first | rfl | exact absurd q ht
    refine s_when (b := true) (et_is (et_or (a := true) (b := false) (et_is (et_not (et_B (ev_cb (ea_cons (ev_var rfl) (ea_cons ev_c ea_nil)) (rc_tup hx)))) (by rw [ht']; rfl)) fun z => by cases z) rfl) (fun _ H1 e1 => k2 hf H1 e1) fun z => by cases z
end
end K0

namespace K0
open PySem PySem.Spec PyProof.Rows L2 Evl
/-! ### bags: the class, and what is made of it -/
theorem fn_down {P : Program} {w : World} {K : PySem.W.Frag} {mg : Str → Option Value} {base : Heap} {k : Nat} {f : Addr} {fd : FuncData} {ps : List Str} {sp sq : Sp} (F : FnOk P w K mg base (L2.CX P w) k f fd ps sp) (i : ∀ vs H Q E, sq vs H Q E → sp vs H Q (fun _ _ _ => False)) : FnOk P w K mg base CX0 k f fd ps sq :=
  ⟨fun vs H Q E h => F.len _ _ _ _ (i _ _ _ _ h), fun A0 o s H ar us vs Q E hr e hb hv hs => codeAny_mono (F.run A0 o s H ar us vs Q _ hr e hb hv (i _ _ _ _ hs)) fun r s' z => by
    cases r with
    | error e =>
      obtain ⟨_, _, _, _, _, _, _, _, _, _, _, _, h⟩ := z
      exact h.elim
    | ok fl => cases fl <;> exact z⟩
/-- all but one instance stays -/
def ExP (p : Addr) (H H' : Hp) : Prop := ∀ c o, H c = some o → c ≠ p → H' c = some o
def BagAt (K : PySem.W.Frag) (C : Addr) (H : Hp) (p : Addr) (ds : List D) : Prop := ∃ dx v, H p = some (.ins C dx [("_letters", v)]) ∧ Rp K H v (.tup ds)
theorem BagAt.ex {K : PySem.W.Frag} {C : Addr} {H H' : Hp} {p : Addr} {ds : List D} (e : Ex H H') (h : BagAt K C H p ds) : BagAt K C H' p ds := let ⟨dx, v, h1, h2⟩ := h; ⟨dx, v, e _ _ h1, h2.ex e⟩
def RetAny (H : Hp) (Q : VK) : Prop := ∀ v H', Ex H H' → Q v H'
/-- no value of the built-in kinds is an instance of the class, nor of one below it -/
structure NoKit (K : PySem.W.Frag) (C : Addr) : Prop where
  kn : PySem.W.kitOne K (.type "NoneType") (.ref C) = some false
  kb : PySem.W.kitOne K (.type "bool") (.ref C) = some false
  ki : PySem.W.kitOne K (.type "int") (.ref C) = some false
  ks : PySem.W.kitOne K (.type "str") (.ref C) = some false
  kt : PySem.W.kitOne K (.type "tuple") (.ref C) = some false
  kl : PySem.W.kitOne K (.type "list") (.ref C) = some false
  kd : PySem.W.kitOne K (.type "dict") (.ref C) = some false
  fn : PySem.W.notFirst K C (.type "NoneType") = true
  fb : PySem.W.notFirst K C (.type "bool") = true
  fi : PySem.W.notFirst K C (.type "int") = true
  fs : PySem.W.notFirst K C (.type "str") = true
  ft : PySem.W.notFirst K C (.type "tuple") = true
  fl : PySem.W.notFirst K C (.type "list") = true
  fd : PySem.W.notFirst K C (.type "dict") = true
section
variable {K : PySem.W.Frag} {C : Addr} {H : Hp} {x : V} {d : D}
theorem rc_noKit (N : NoKit K C) (h : Rp K H x d) : RC (rIsi K) [x, .ref C] H (.bl false) := fun H1 e Q q => by
  have h1 := h.ex e
  cases h1 with
  | non => exact ⟨_, _, _, _, _, rfl, .own C, .base .non, N.kn, q H1 (Ex.refl _)⟩
  | bl b => exact ⟨_, _, _, _, _, rfl, .own C, .base (.bl _), N.kb, q H1 (Ex.refl _)⟩
  | int i => exact ⟨_, _, _, _, _, rfl, .own C, .base (.int _), N.ki, q H1 (Ex.refl _)⟩
  | str s => exact ⟨_, _, _, _, _, rfl, .own C, .base (.str _), N.ks, q H1 (Ex.refl _)⟩
  | tup h2 _ => exact ⟨_, _, _, _, _, rfl, .own C, ty_tup h2, N.kt, q H1 (Ex.refl _)⟩
  | lst h2 => exact ⟨_, _, _, _, _, rfl, .own C, .base (.lst h2), N.kl, q H1 (Ex.refl _)⟩
  | dct h2 => exact ⟨_, _, _, _, _, rfl, .own C, .base (.dK h2), N.kd, q H1 (Ex.refl _)⟩
end
section
variable {X : Cx} {CX : CXT} {k : Nat} {C g : Addr} {fd : FuncData} {ps : List Str} {sp : Sp} {E : XK}
theorem right_tyD {pins : List (Addr × Obj)} {σ : L2.St} {H : Hp} {s : Shared} {y : V} {u : Value} {d : D} (I : Inv X pins σ H s) (ry : RelV y u) (h : Rp X.K H y d) (N : NoKit X.K C) :
    ∃ tb, PySem.W.Looks (model X.prog X.w) s.heap (typeOf u) tb ∧ PySem.W.notFirst X.K C tb = true := by
  cases h with
  | non =>
    cases (show u = Value.none from ry)
    exact ⟨.type "NoneType", PySem.W.Looks.of_pure rfl, N.fn⟩
  | bl b =>
    cases (show u = Value.bool b from ry)
    exact ⟨.type "bool", PySem.W.Looks.of_pure rfl, N.fb⟩
  | int i =>
    obtain ⟨t, rfl⟩ := (show ∃ t, u = Value.int i t from ry)
    exact ⟨.type "int", PySem.W.Looks.of_pure rfl, N.fi⟩
  | str z =>
    obtain ⟨t, rfl⟩ := (show ∃ t, u = Value.str z t from ry)
    exact ⟨.type "str", PySem.W.Looks.of_pure rfl, N.fs⟩
  | @tup b xs ds hb hr =>
    cases (show u = Value.ref b from ry)
    obtain ⟨its, _, ⟨o, ho, hc, _⟩, _⟩ := I.tuple hb
    refine ⟨.type "tuple", ?_, N.ft⟩
    have z : PySem.W.Looks (model X.prog X.w) s.heap (typeOf (.ref b)) o.cls := (PySem.W.Looks.ld ho).andThen .now
    rwa [hc] at z
  | @lst b xs hb =>
    cases (show u = Value.ref b from ry)
    obtain ⟨its, _, pl, _⟩ := I.list (sq_of hb)
    obtain ⟨o, ho, hc, _⟩ := pl.isList
    refine ⟨.type "list", ?_, N.fl⟩
    have z : PySem.W.Looks (model X.prog X.w) s.heap (typeOf (.ref b)) o.cls := (PySem.W.Looks.ld ho).andThen .now
    rwa [hc] at z
  | @dct b kvs hb =>
    cases (show u = Value.ref b from ry)
    obtain ⟨z, lo, vs, rel, dd⟩ := dk_rd I.hok (.inl hb)
    obtain ⟨ep, o, es, ho, hc, _⟩ := dd.dictAt
    refine ⟨.type "dict", ?_, N.fd⟩
    have z : PySem.W.Looks (model X.prog X.w) s.heap (typeOf (.ref b)) o.cls := (PySem.W.Looks.ld ho).andThen .now
    rwa [hc.1] at z
def rEqA (K : PySem.W.Frag) (C : Addr) (sp : Sp) (E : XK) : R2 := fun x y H Q => ∃ a dx fs d, x = .ref a ∧ H a = some (.ins C dx fs) ∧ Rp K H y d ∧ sp [x, y] H (fun v H' => ∃ b, v = .bl b ∧ Q (.bl b) H') E
theorem op_eqA (F : FnOk X.prog X.w X.K X.mg X.base CX k g fd ps sp) (hr : Room k X.A) (hb : Binds X.K fd ps []) (hx : Passes CX X E) (hs : PySem.W.findIn X.K (.ref C) "__eq__" = some (some (.ref g)))
    (hf : PySem.W.isFn X.K (.ref g) = true) (N : NoKit X.K C) : OpR X (compareOp .Eq) (rEqA X.K C sp E) := by
  intro pins s σ H x y v u Q I rx ry h
  obtain ⟨a, dx, fs, d, rfl, ha, hy, hsp⟩ := h
  cases (show v = Value.ref a from rx)
  obtain ⟨tb, lt, nf⟩ := right_tyD I ry hy N
  obtain ⟨mA, J, _⟩ := ins_get I.hok ha
  obtain ⟨od, J, _⟩ := J.look
  obtain ⟨m, hF⟩ := I.fr
  show wpAny (model X.prog X.w) X.A (richCompare .Eq (.ref a) u) _ _ _
  refine PySem.W.cmp_K (op := .Eq) hr.units0 hF I.ok.mod.kin J lt nf hs hf ?_
  refine wpAny_mono (call_below hr rfl F hb hx I (.cons rx (.cons ry .nil)) hsp) (fun r t z => ?_) fun _ _ q => q
  obtain ⟨w, H', I', rw', b, rfl, q⟩ := z
  cases (show r = Value.bool b from rw')
  exact ⟨.bl b, H', I', rfl, q⟩
end
/-! ### slices of data, any -/
def cutD (ds : List D) (lo hi : Option Int) : List D := (ds.drop (HT.sIx ds.length 0 lo)).take (HT.sIx ds.length ds.length hi - HT.sIx ds.length 0 lo)
section
variable {K : PySem.W.Frag} {σ : L2.St} {H : Hp} {te ta tv : TE} {ds : List D} {tl th : TO} {lo hi : Option Int}
theorem ed_sl (h : EvD K te σ H (.tup ds)) (h1 : ∀ H1, Ex H H1 → EvO tl σ H1 lo) (h2 : ∀ H1, Ex H H1 → EvO th σ H1 hi) : EvD K (tSl (rSlA K) te tl th) σ H (.tup (cutD ds lo hi)) := fun H1 e Q q => by
  refine h H1 e _ fun v H2 e2 hv => ?_
  obtain ⟨a, xs, rfl, ha, hr⟩ := hv.tupI
  have := ew_sl (K := K) (σ := σ) (te := tC (.ref a)) (H := H2) (tl := tl) (th := th) ev_c (h1 H2 (e.trans e2)) (h2 H2 (e.trans e2)) ha
  refine this H2 (Ex.refl _) _ fun p H3 e3 hp => q _ H3 (e2.trans e3) (.tup hp ?_)
  have := (hr.drop (HT.sIx ds.length 0 lo)).takeR (HT.sIx ds.length ds.length hi - HT.sIx ds.length 0 lo)
  unfold cutV
  rw [hr.len]
  exact this.ex e3
theorem s_fldV {v : V} {C a dx : Addr} {fs : List (Str × V)} {f : Str} {Dn : Ends} (hv : Ev tv σ H v) (ho : Ev ta σ H (.ref a)) (ha : H a = some (.ins C dx fs)) (c : Cls K C) (n : NoAttr K C f) (hl : fs.length < 1000)
    (k : ∀ H1, Ex H H1 → Dn.nx σ (L2.upd H1 a (.ins C dx (putF f v fs)))) : sFld K ta tv f Dn σ H := hv H (Ex.refl H) _ fun H1 e1 => ho H1 e1 _ fun H2 e2 => ⟨a, C, dx, fs, rfl, (e1.trans e2) _ _ ha, c, n, hl, k H2 (e1.trans e2)⟩
end
theorem rv_gtQ {H : Hp} {i j : Int} : RV (rI0 fun i j => .bl (decide (i > j))) (.int i) (.int j) H (.bl (decide (i > j))) := rv_I0
section
variable {P : Program} {w : World} {K : PySem.W.Frag} {mg : Str → Option Value} {base : Heap} {A : Ad} {D : Fd}
theorem noKit_Bag (T : Txt K mg A D) : NoKit K A.Bag := ⟨T.kNoneType_Bag, T.kbool_Bag, T.kint_Bag, T.kstr_Bag, T.ktuple_Bag, T.klist_Bag, T.kdict_Bag, T.fNoneType_Bag, T.fbool_Bag, T.fint_Bag, T.fstr_Bag, T.ftuple_Bag, T.flist_Bag, T.fdict_Bag⟩
theorem q_callX {σ : L2.St} {H : Hp} {tr : TA} {tz : TS} {Dn : Ends} {sp : Sp} {E : XK} {vs : List V} (h : EvA tr σ H vs) (k : ∀ H1, Ex H H1 → sp (vs ++ []) H1 (fun _ H2 => tz Dn σ H2) E) : tSeq (tDrop (tCall sp [] E tr)) tz Dn σ H := h H (Ex.refl _) _ k
def sp_Bag_initX (K : PySem.W.Frag) (A : Ad) : Sp := fun vs H Q E => ∃ p dx x d, vs = [.ref p, x] ∧ H p = some (.ins A.Bag dx []) ∧ Rp K H x d ∧ d.size ≤ 20000 ∧ d.lsOk = true ∧ (d.letters = false → Rai A.EInvalidLetter H E) ∧
  (∀ ds, d = .tup ds → d.letters = true → (400 < ds.length → RaF A.ETooMany "limit" (.int 400) H E) ∧ (ds.length ≤ 400 → ∀ H', ExP p H H' → H' p = some (.ins A.Bag dx [("_letters", x)]) → Q .non H'))
theorem ok_Bag_initX (T : Txt K mg A D) (U : Tab K w mg A) : FnOk P w K mg base (L2.CX P w) 35 A.Bag_init D.Bag_init ["self", "letters"] (sp_Bag_initX K A) := by
  have G_check_letters := ok_check_lettersX (P := P) (w := w) (base := base) T U
  have G_TooMany_init := ok_TooMany_init (P := P) (w := w) (base := base) T
  obtain ⟨t_MAX_LETTERS, c_MAX_LETTERS⟩ := T.c_MAX_LETTERS
  refine T.F_Bag_init.ok sc_Bag_init (fun vs H Q E h => by obtain ⟨p, dx, x, d, rfl, _⟩ := h; rfl) (fun cdv A0 outer s H vs Q E hr h => ?_)
  refine ⟨_, (pss_cons (ps_expr (pe_call G_check_letters (hr.mono (by decide)) rfl T.g_check_letters T.F_check_letters.kp T.b_check_letters .nil (passes_call (takes_of rfl rfl rfl rfl) (fun _ _ _ _ z => z)) (pa_cons (pv 1) pa_nil)))
  (pss_cons (ps_if (pt_cmpR op_gt (pe_callB call_len (by rfl) T.b_len (by decide +kernel) (pa_cons (pv 1) pa_nil)) (pe_glob (v := .int (400)) rfl c_MAX_LETTERS ⟨_, rfl⟩) (nomark _)) (pss_one (ps_raise rfl (takes_of rfl rfl rfl rfl) (pmk_oexT T.e_TooMany.o T.e_TooMany.i T.e_TooMany.t G_TooMany_init (hr.mono (by decide)) T.b_TooMany_init .nil pass0 (by exact rfl) T.e_TooMany.g (pa_cons (pe_glob (v := .int (400)) rfl c_MAX_LETTERS ⟨_, rfl⟩) pa_nil)))) pss_nil)
  (pss_one (ps_fld (pv 0) (pv 1) rfl)))), ?_⟩
  obtain ⟨p, dx, x, d, rfl, hp, hx, hs, ho, k1, k2⟩ := h
  refine q_callX (ea_cons (ev_var rfl) ea_nil) fun H1 e1 => ⟨x, d, rfl, hx.ex e1, hs, ho, fun hl H2 e2 => ?_, fun hf => (k1 hf).ex e1⟩
  have e02 := e1.trans e2
  obtain ⟨a, xs, ds, rfl, rfl, hq, hr1⟩ := hx.isT (by cases d <;> first | rfl | cases hl)
  obtain ⟨k3, k4⟩ := k2 ds rfl hl
  refine q_when (b := decide (400 < ds.length)) (et_is (et_test (ev_op (ev_cb (ea_cons (ev_var rfl) ea_nil) (rc_lenT (ex_t e02 hq))) ev_c rv_gtQ)) (by rw [hr1.len]; exact decide_eq_decide.mpr (by omega))) (fun hb H3 e3 => ?_) fun hb H3 e3 => ?_
  · exact s_raiseO (D := ⟨fun _ _ => True, fun _ _ => True, fun _ _ => True, fun _ _ => True⟩) (W := fun cls d _ H => E cls d H) ev_c fun dd H4 e4 h4 => k3 (of_decide_eq_true hb) dd H4 ((e02.trans e3).trans e4) h4
  · have e03 := e02.trans e3
    refine s_fldV (ev_var rfl) (ev_var rfl) (e03 _ _ hp) T.cl_Bag T.no_Bag_letters (by decide) fun H4 e4 => ?_
    refine k4 (by have := of_decide_eq_false hb; omega) _ (fun c o hc n => ?_) upd_same
    rw [upd_ne n]
    exact (e03.trans e4) _ _ hc
/-- Bag(e) -/
theorem n_bag {σ : L2.St} {H : Hp} {te : TE} {d : K0.D} {E : XK} {Q : VK} (h : EvD K te σ H d) (sz : d.size ≤ 20000) (lo : d.lsOk = true) (k1 : d.letters = false → Rai A.EInvalidLetter H E)
    (k2 : ∀ ds, d = .tup ds → d.letters = true → (400 < ds.length → RaF A.ETooMany "limit" (.int 400) H E) ∧ (ds.length ≤ 400 → ∀ p H', H p = none → Ex H H' → BagAt K A.Bag H' p ds → Q (.ref p) H')) : tMake A.Bag (sp_Bag_initX K A) [] E (tCons te tNil) σ H Q := by
  refine n_cons (h H (Ex.refl _) _ fun v H1 e1 hv => n_nil fun p dx hp hdx hne => ?_)
  have e2 : Ex H1 (upd (upd H1 dx (.own p)) p (.ins A.Bag dx [])) := fun c o hc => by
    rw [upd_ne (ne_of_none hc hp), upd_ne (ne_of_none hc hdx)]
    exact hc
  have e02 := e1.trans e2
  refine ⟨p, dx, v, d, rfl, upd_same, hv.ex e2, sz, lo, fun hf => (k1 hf).ex e02, fun ds ed hl => ⟨fun h4 => ((k2 ds ed hl).1 h4).ex e02, fun h4 H3 e3 h3 => ⟨rfl, ?_⟩⟩⟩
  have e13 : Ex H1 H3 := fun c o hc => e3 _ _ (e2 _ _ hc) (ne_of_none hc hp)
  refine (k2 ds ed hl).2 h4 p H3 (fresh_back e1 hp) (e1.trans e13) ⟨dx, v, h3, ?_⟩
  rw [← ed]
  exact hv.ex e13
end
end K0

namespace K0
open PySem PySem.Spec PyProof.Rows L2 Evl
section
variable {P : Program} {w : World} {K : PySem.W.Frag} {mg : Str → Option Value} {base : Heap} {A : Ad} {D : Fd}
theorem BagAt.tup {C p : Addr} {H : Hp} {ds : List K0.D} (h : BagAt K C H p ds) : ∃ dx a xs, H p = some (.ins C dx [("_letters", .ref a)]) ∧ SqT K H a xs ∧ RpAll K H xs ds := by
  obtain ⟨dx, v, h1, h2⟩ := h
  obtain ⟨a, xs, rfl, ha, hr⟩ := h2.tupI
  exact ⟨dx, a, xs, h1, ha, hr⟩
theorem look_letters (v : V) : ([("_letters", v)] : List (Str × V)).lookup ("_letters" : Str) = some v := by rw [List.lookup_cons, (show (("_letters" : Str) == "_letters") = true by decide +kernel)]
theorem look_noL {v : V} {f : Str} (h : (f == ("_letters" : Str)) = false) : ([("_letters", v)] : List (Str × V)).lookup f = none := by
  rw [List.lookup_cons, h]
  rfl
theorem ev_letters {σ : L2.St} {H : Hp} {ta : TE} {p dx : Addr} {v : V} (T : Txt K mg A D) (h : Ev ta σ H (.ref p)) (hp : H p = some (.ins A.Bag dx [("_letters", v)])) : Ev (tFld K ta "_letters") σ H v := ev_fld h hp T.cl_Bag T.no_Bag_letters (look_letters v)
def sp_Bag_letters (K : PySem.W.Frag) (A : Ad) : Sp := fun vs H Q _ => ∃ p ds, vs = [.ref p] ∧ BagAt K A.Bag H p ds ∧ RetR K (.tup ds) H Q
theorem len_Bag_letters {vs : List V} {H : Hp} {Q : VK} {E : XK} (h : sp_Bag_letters K A vs H Q E) : vs.length = 1 := by
  obtain ⟨p, ds, rfl, _⟩ := h
  rfl
theorem ok_Bag_letters (T : Txt K mg A D) : FnOk P w K mg base CX0 1 A.Bag_letters D.Bag_letters ["self"] (sp_Bag_letters K A) := by
  refine T.F_Bag_letters.ok sc_Bag_letters (fun vs H Q E h => len_Bag_letters h) (fun cdv A0 outer s H vs Q E hr h => ?_)
  refine ⟨_, (pss_one (ps_ret (pe_fld (pv 0) (by rfl)))), ?_⟩
  obtain ⟨p, ds, rfl, ⟨dx, v, hp, hv⟩, k⟩ := h
  exact s_ret (ev_letters T (ev_var rfl) hp) fun H1 e1 => k v H1 e1 (hv.ex e1)
def sp_Bag_init0 (K : PySem.W.Frag) (A : Ad) : Sp := fun vs H Q _ => sp_Bag_initX K A vs H Q fun _ _ _ => False
theorem ok_Bag_init0 (T : Txt K mg A D) (U : Tab K w mg A) : FnOk P w K mg base CX0 35 A.Bag_init D.Bag_init ["self", "letters"] (sp_Bag_init0 K A) := fn_down (ok_Bag_initX T U) fun _ _ _ _ h => h
/-- the new bag of nothing -/
theorem sp_bag0 {H : Hp} {p dx : Addr} {Q : VK} (T : Txt K mg A D) (hp : H p = some (.ins A.Bag dx [])) (k : ∀ H', ExP p H H' → H' p = some (.ins A.Bag dx [("_letters", .ref A.VBag_init)]) → Q .non H') (E : XK) : sp_Bag_initX K A [.ref p, .ref A.VBag_init] H Q E :=
  ⟨p, dx, .ref A.VBag_init, .tup [], rfl, hp, .tup (T.v_Bag_init _) .nil, by decide, rfl, (fun z => by cases z), fun ds e hl => by
    cases e
    exact ⟨fun z => by simp at z, fun _ => k⟩⟩
def sp_made (K : PySem.W.Frag) : Sp := fun vs H Q _ => ∃ x ds, vs = [x] ∧ Rp K H x (.tup ds) ∧ RetAny H Q
theorem ok_made (T : Txt K mg A D) (U : Tab K w mg A) : FnOk P w K mg base CX0 38 A.made D.made ["letters"] (sp_made K) := by
  have G_Bag_init := ok_Bag_init0 (P := P) (w := w) (base := base) T U
  obtain ⟨ds_Bag_init, dv_Bag_init, db_Bag_init⟩ := T.d_Bag_init
  obtain ⟨t_MAX_LETTERS, c_MAX_LETTERS⟩ := T.c_MAX_LETTERS
  refine T.F_made.ok sc_made (fun vs H Q E h => by obtain ⟨x, ds, rfl, _⟩ := h; rfl) (fun cdv A0 outer s H vs Q E hr h => ?_)
  refine ⟨_, (pss_cons (ps_set (i := 1) sc_made.nd rfl (Or.inl rfl) (pe_make0 T.mk_Bag G_Bag_init (hr.mono (by decide)) (by rfl) T.g_Bag db_Bag_init dv_Bag_init pass0))
  (pss_cons (ps_fld (pv 1) (pe_slice sl_tupA (pv 0) (po_some (pe_un un_neg (pe_glob (v := .int (400)) rfl c_MAX_LETTERS ⟨_, rfl⟩))) po_none) rfl)
  (pss_one (ps_ret (pv 1))))), ?_⟩
  obtain ⟨x, ds, rfl, hx, k⟩ := h
  refine q_asgG (n_nil fun p dx hp hdx hne => ?_)
  have e2 : Ex H (upd (upd H dx (.own p)) p (.ins A.Bag dx [])) := fun c o hc => by
    rw [upd_ne (ne_of_none hc hp), upd_ne (ne_of_none hc hdx)]
    exact hc
  refine sp_bag0 T upd_same (fun H3 e3 h3 => ⟨rfl, ?_⟩) _
  have e13 : Ex H H3 := fun c o hc => e3 _ _ (e2 _ _ hc) (ne_of_none hc hp)
  refine (ed_sl (K := K) (ds := ds) (lo := some (-400)) (hi := none) (ed_ev (ev_var rfl) (hx.ex e13)) (fun H4 _ => eo_some (ev_un ev_c ru_neg)) (fun H4 _ => eo_none)) H3 (Ex.refl _) _ fun v H4 e4 hv => ?_
  refine ev_var rfl H4 (Ex.refl _) _ fun H5 e5 => ⟨p, A.Bag, dx, _, rfl, (e4.trans e5) _ _ h3, T.cl_Bag, T.no_Bag_letters, by show 1 < 1000; decide, ?_⟩
  exact s_ret (ev_var rfl) fun H6 e6 => k _ H6 ((Ex.mut (e13.trans (e4.trans e5)) hp).trans e6)
def sp_Bag_sentX (K : PySem.W.Frag) (A : Ad) : Sp := fun vs H Q E => ∃ p ds x d, vs = [.ref p, x] ∧ BagAt K A.Bag H p ds ∧ ds.length ≤ 1000 ∧ Rp K H x d ∧ d.size ≤ 20000 ∧ d.lsOk = true ∧ (d.letters = false → Rai A.EInvalidLetter H E) ∧ (d.letters = true → RetAny H Q)
theorem ok_Bag_sentX (T : Txt K mg A D) (U : Tab K w mg A) : FnOk P w K mg base (L2.CX P w) 40 A.Bag_sent D.Bag_sent ["self", "letters"] (sp_Bag_sentX K A) := by
  have G_check_letters := ok_check_lettersX (P := P) (w := w) (base := base) T U
  have G_made := ok_made (P := P) (w := w) (base := base) T U
  refine T.F_Bag_sent.okX sc_Bag_sent (fun vs H Q E h => by obtain ⟨p, ds, x, d, rfl, _⟩ := h; rfl) (fun cdv A0 outer s H vs Q E hr h => ?_)
  refine ⟨_, (pss_cons (ps_expr (pe_call G_check_letters (hr.mono (by decide)) rfl T.g_check_letters T.F_check_letters.kp T.b_check_letters .nil (passes_call (takes_of rfl rfl rfl rfl) (fun _ _ _ _ z => z)) (pa_cons (pv 1) pa_nil)))
  (pss_one (ps_ret (pe_call G_made (hr.mono (by decide)) rfl T.g_made_letters T.F_made.kp T.b_made .nil pass0 (pa_cons (pe_op op_catA (pe_fld (pv 0) (by rfl)) (pv 1)) pa_nil))))), ?_⟩
  obtain ⟨p, ds, x, d, rfl, hb, hl, hx, hs, ho, k1, k2⟩ := h
  refine q_callX (ea_cons (ev_var rfl) ea_nil) fun H1 e1 => ⟨x, d, rfl, hx.ex e1, hs, ho, fun hg H2 e2 => ?_, fun hf => (k1 hf).ex e1⟩
  have e02 := e1.trans e2
  obtain ⟨dx, v, hp, hv⟩ := hb.ex e02
  obtain ⟨es, rfl⟩ : ∃ es, d = .tup es := by cases d <;> first | exact ⟨_, rfl⟩ | cases hg
  have lz := sizeL_len es
  have hs' : 1 + K0.D.sizeL es ≤ 20000 := by simp only [K0.D.size] at hs; exact hs
  exact n_ret (d_raw (n_cons ((ed_cat (K := K) (ds := ds) (es := es) (ed_ev (ev_letters T (ev_var rfl) hp) hv) (ed_ev (ev_var rfl) (hx.ex e02)) (by omega)) H2 (Ex.refl _) _ fun u H3 e3 hu => n_nil ⟨u, _, rfl, hu, fun u2 H4 e4 => k2 hg u2 H4 ((e02.trans e3).trans e4)⟩)))
/-- an index: taken, lost -/
def sp_indexX (K : PySem.W.Frag) (A : Ad) : Sp := fun vs H Q E => ∃ p ds x d, vs = [.ref p, x] ∧ BagAt K A.Bag H p ds ∧ ds.length ≤ 1000 ∧ Rp K H x d ∧ (d.within 0 ((ds.length : Int) - 1) = true → RetAny H Q) ∧ (d.within 0 ((ds.length : Int) - 1) = false → RaF A.EInvalidNumber "given" x H E)
theorem ok_Bag_lostX (T : Txt K mg A D) (U : Tab K w mg A) : FnOk P w K mg base (L2.CX P w) 40 A.Bag_lost D.Bag_lost ["self", "index"] (sp_indexX K A) := by
  have G_check_number := ok_check_numberX (P := P) (w := w) (base := base) T
  have G_made := ok_made (P := P) (w := w) (base := base) T U
  refine T.F_Bag_lost.okX sc_Bag_lost (fun vs H Q E h => by obtain ⟨p, ds, x, d, rfl, _⟩ := h; rfl) (fun cdv A0 outer s H vs Q E hr h => ?_)
  refine ⟨_, (pss_cons (ps_expr (pe_call G_check_number (hr.mono (by decide)) rfl T.g_check_number T.F_check_number.kp T.b_check_number .nil (passes_call (takes_of rfl rfl rfl rfl) (fun _ _ _ _ z => z)) (pa_cons (pv 1) (pa_cons pe_int (pa_cons (pe_op op_sub (pe_callB call_len (by rfl) T.b_len (by decide +kernel) (pa_cons (pe_fld (pv 0) (by rfl)) pa_nil)) pe_int) pa_nil)))))
  (pss_one (ps_ret (pe_call G_made (hr.mono (by decide)) rfl T.g_made_letters T.F_made.kp T.b_made .nil pass0 (pa_cons (pe_op op_catA (pe_slice sl_tupA (pe_fld (pv 0) (by rfl)) po_none (po_some (pv 1))) (pe_slice sl_tupA (pe_fld (pv 0) (by rfl)) (po_some (pe_op op_add (pv 1) pe_int)) po_none)) pa_nil))))), ?_⟩
  obtain ⟨p, ds, x, d, rfl, hb, hl, hx, k1, k2⟩ := h
  obtain ⟨dx, a, xs, hp, ha, hr1⟩ := hb.tup
  refine q_callX (ea_cons (ev_var rfl) (ea_cons ev_c (ea_cons (ev_is (ev_op (ev_cb (ea_cons (ev_letters T (ev_var rfl) hp) ea_nil) (rc_lenT ha)) ev_c rv_I0) (by rw [hr1.len])) ea_nil))) fun H1 e1 => ⟨x, d, 0, (ds.length : Int) - 1, rfl, hx.ex e1, fun hg H2 e2 => ?_, fun hf => (k2 hf).ex e1⟩
  have e02 := e1.trans e2
  obtain ⟨i, rfl, _⟩ := within_int hg
  cases hx
  have hv2 : Rp K H2 (.ref a) (.tup ds) := .tup (ex_t e02 ha) (hr1.ex e02)
  have hp2 := e02 _ _ hp
  have l1 : (cutD ds none (some i)).length ≤ 1000 := by unfold cutD; rw [List.length_take, List.length_drop]; omega
  have l2 : (cutD ds (some (i + 1)) none).length ≤ 1000 := by unfold cutD; rw [List.length_take, List.length_drop]; omega
  exact n_ret (d_raw (n_cons ((ed_cat (K := K) (ds := cutD ds none (some i)) (es := cutD ds (some (i + 1)) none) (ed_sl (ed_ev (ev_letters T (ev_var rfl) hp2) hv2) (fun _ _ => eo_none) (fun _ _ => eo_some (ev_var rfl)))
    (ed_sl (ed_ev (ev_letters T (ev_var rfl) hp2) hv2) (fun _ _ => eo_some (ev_op (ev_var rfl) ev_c rv_I0)) (fun _ _ => eo_none)) (by omega)) H2 (Ex.refl _) _ fun u H3 e3 hu => n_nil ⟨u, _, rfl, hu, fun u2 H4 e4 => k1 hg u2 H4 ((e02.trans e3).trans e4)⟩)))
theorem ok_Bag_takenX (T : Txt K mg A D) (U : Tab K w mg A) : FnOk P w K mg base (L2.CX P w) 44 A.Bag_taken D.Bag_taken ["self", "index"] (sp_indexX K A) := by
  have G_Bag_lost := ok_Bag_lostX (P := P) (w := w) (base := base) T U
  refine T.F_Bag_taken.okX sc_Bag_taken (fun vs H Q E h => by obtain ⟨p, ds, x, d, rfl, _⟩ := h; rfl) (fun cdv A0 outer s H vs Q E hr h => ?_)
  refine ⟨_, (pss_cons (ps_set (i := 2) sc_Bag_taken.nd rfl (Or.inl rfl) (pe_meth (pv 0) T.cl_Bag T.m_Bag_lost G_Bag_lost (hr.mono (by decide)) T.b_Bag_lost .nil (passes_call (takes_of rfl rfl rfl rfl) (fun _ _ _ _ z => z)) (pa_cons (pv 1) pa_nil)))
  (pss_one (ps_ret (pe_tup (pa_cons (pe_ix ix_tup (pe_fld (pv 0) (by rfl)) (pv 1) (fun _ _ => rfl)) (pa_cons (pv 2) pa_nil)))))), ?_⟩
  obtain ⟨p, ds, x, d, rfl, hb, hl, hx, k1, k2⟩ := h
  obtain ⟨dx, a, xs, hp, ha, hr1⟩ := hb.tup
  refine q_asgG (c_meth (ev_var rfl) hp (look_noL (by decide +kernel)) (fun H1 e1 => ea_cons (ev_var rfl) ea_nil) fun H1 e1 => ⟨p, ds, x, d, rfl, hb.ex e1, hl, hx.ex e1, fun hg u H2 e2 => ?_, fun hf => (k2 hf).ex e1⟩)
  have e02 := e1.trans e2
  obtain ⟨i, rfl, _⟩ := within_int hg
  have hg' : (numB i && (decide (0 ≤ i) && decide (i ≤ (ds.length : Int) - 1))) = true := hg
  simp only [Bool.and_eq_true, decide_eq_true_eq] at hg'
  obtain ⟨j, rfl⟩ : ∃ j : Nat, i = (j : Int) := ⟨i.toNat, by omega⟩
  cases hx
  have hv2 : Rp K H2 (.ref a) (.tup ds) := .tup (ex_t e02 ha) (hr1.ex e02)
  have hj : ds[j]? = some (ds[j]'(by omega)) := List.getElem?_eq_getElem (by omega)
  refine n_ret (n_tup (n_cons ((ed_ix (K := K) (i := j) (ed_ev (ev_letters T (ev_var rfl) (e02 _ _ hp)) hv2) (fun _ _ => ev_var rfl) hj) H2 (Ex.refl _) _ fun v H3 e3 hv => n_cons (n_var rfl (n_nil ⟨sz_of (by simp), fun t ht => k1 hg _ _ ((e02.trans e3).trans (Ex.new ht))⟩)))))
def sp_indexR (K : PySem.W.Frag) (A : Ad) : Sp := fun vs H Q E => ∃ p ds x d, vs = [.ref p, x] ∧ BagAt K A.Bag H p ds ∧ Rp K H x d ∧ d.within 0 ((ds.length : Int) - 1) = false ∧ RaF A.EInvalidNumber "given" x H E
theorem ok_Bag_doubledR (T : Txt K mg A D) : FnOk P w K mg base (L2.CX P w) 40 A.Bag_doubled D.Bag_doubled ["self", "index"] (sp_indexR K A) := by
  have G_check_number := ok_check_numberX (P := P) (w := w) (base := base) T
  refine T.F_Bag_doubled.okX sc_Bag_doubled (fun vs H Q E h => by obtain ⟨p, ds, x, d, rfl, _⟩ := h; rfl) (fun cdv A0 outer s H vs Q E hr h => ?_)
  refine ⟨_, (pss_cons (ps_expr (pe_call G_check_number (hr.mono (by decide)) rfl T.g_check_number T.F_check_number.kp T.b_check_number .nil (passes_call (takes_of rfl rfl rfl rfl) (fun _ _ _ _ z => z)) (pa_cons (pv 1) (pa_cons pe_int (pa_cons (pe_op op_sub (pe_callB call_len (by rfl) T.b_len (by decide +kernel) (pa_cons (pe_fld (pv 0) (by rfl)) pa_nil)) pe_int) pa_nil)))))
  (pss_one (ps_never))), ?_⟩
  obtain ⟨p, ds, x, d, rfl, hb, hx, hf, k⟩ := h
  obtain ⟨dx, a, xs, hp, ha, hr1⟩ := hb.tup
  exact q_callX (ea_cons (ev_var rfl) (ea_cons ev_c (ea_cons (ev_is (ev_op (ev_cb (ea_cons (ev_letters T (ev_var rfl) hp) ea_nil) (rc_lenT ha)) ev_c rv_I0) (by rw [hr1.len])) ea_nil))) fun H1 e1 => ⟨x, d, 0, (ds.length : Int) - 1, rfl, hx.ex e1, (fun hg => by rw [hf] at hg; cases hg), fun _ => k.ex e1⟩
def sp_whoR (K : PySem.W.Frag) (A : Ad) (hi : Int) : Sp := fun vs H Q E => ∃ s x d, vs = [s, x] ∧ Rp K H x d ∧ d.within 0 hi = false ∧ RaF A.EInvalidNumber "given" x H E
theorem ok_Bag_to_houseR (T : Txt K mg A D) : FnOk P w K mg base (L2.CX P w) 40 A.Bag_to_house D.Bag_to_house ["self", "house"] (sp_whoR K A 8) := by
  have G_check_house := ok_check_houseX (P := P) (w := w) (base := base) T
  refine T.F_Bag_to_house.okX sc_Bag_to_house (fun vs H Q E h => by obtain ⟨s, x, d, rfl, _⟩ := h; rfl) (fun cdv A0 outer s H vs Q E hr h => ?_)
  refine ⟨_, (pss_cons (ps_expr (pe_call G_check_house (hr.mono (by decide)) rfl T.g_check_house T.F_check_house.kp T.b_check_house .nil (passes_call (takes_of rfl rfl rfl rfl) (fun _ _ _ _ z => z)) (pa_cons (pv 1) pa_nil)))
  (pss_one (ps_never))), ?_⟩
  obtain ⟨s, x, d, rfl, hx, hf, k⟩ := h
  exact q_callX (ea_cons (ev_var rfl) ea_nil) fun H1 e1 => ⟨x, d, rfl, hx.ex e1, (fun hg => by rw [hf] at hg; cases hg), fun _ => k.ex e1⟩
theorem ok_Bag_to_clientR (T : Txt K mg A D) : FnOk P w K mg base (L2.CX P w) 40 A.Bag_to_client D.Bag_to_client ["self", "client"] (sp_whoR K A 4) := by
  have G_check_client := ok_check_clientX (P := P) (w := w) (base := base) T
  refine T.F_Bag_to_client.okX sc_Bag_to_client (fun vs H Q E h => by obtain ⟨s, x, d, rfl, _⟩ := h; rfl) (fun cdv A0 outer s H vs Q E hr h => ?_)
  refine ⟨_, (pss_cons (ps_expr (pe_call G_check_client (hr.mono (by decide)) rfl T.g_check_client T.F_check_client.kp T.b_check_client .nil (passes_call (takes_of rfl rfl rfl rfl) (fun _ _ _ _ z => z)) (pa_cons (pv 1) pa_nil)))
  (pss_one (ps_never))), ?_⟩
  obtain ⟨s, x, d, rfl, hx, hf, k⟩ := h
  exact q_callX (ea_cons (ev_var rfl) ea_nil) fun H1 e1 => ⟨x, d, rfl, hx.ex e1, (fun hg => by rw [hf] at hg; cases hg), fun _ => k.ex e1⟩
def sp_Bag_has_sameR (K : PySem.W.Frag) (A : Ad) : Sp := fun vs H Q E => ∃ s x d, vs = [s, x] ∧ Rp K H x d ∧ Rai A.EInvalidOperation H E
theorem ok_Bag_has_sameR (T : Txt K mg A D) : FnOk P w K mg base (L2.CX P w) 5 A.Bag_has_same D.Bag_has_same ["self", "other"] (sp_Bag_has_sameR K A) := by
  refine T.F_Bag_has_same.okX sc_Bag_has_same (fun vs H Q E h => by obtain ⟨s, x, d, rfl, _⟩ := h; rfl) (fun cdv A0 outer s H vs Q E hr h => ?_)
  refine ⟨_, (pss_cons (ps_if (pt_not (pt_val (pe_callB call_isi (by rfl) T.b_isinstance (by decide +kernel) (pa_cons (pv 1) (pa_cons (pe_glob (v := .ref A.Bag) rfl T.g_Bag rfl) pa_nil))))) (pss_one (ps_raise rfl (takes_of rfl rfl rfl rfl) (pmk_own PySem.F.excBase_ValueError T.e_InvalidOperation.q T.e_InvalidOperation.g T.e_InvalidOperation.k (raises_own T.e_InvalidOperation.b T.e_InvalidOperation.t) (by exact rfl)))) pss_nil)
  (pss_one (ps_never))), ?_⟩
  obtain ⟨s, x, d, rfl, hx, k⟩ := h
  exact q_when (b := true) (et_is (et_not (et_B (ev_cb (ea_cons (ev_var rfl) (ea_cons ev_c ea_nil)) (rc_noKit (noKit_Bag T) hx)))) rfl) (fun _ H1 e1 => k H1 e1) fun z => by cases z
def sp_Bag_eqN (K : PySem.W.Frag) : Sp := fun vs H Q E => ∃ s x d, vs = [s, x] ∧ Rp K H x d ∧ RetV (.bl false) H Q
theorem ok_Bag_eqN (T : Txt K mg A D) : FnOk P w K mg base CX0 5 A.Bag_eq D.Bag_eq ["self", "other"] (sp_Bag_eqN K) := by
  refine T.F_Bag_eq.ok sc_Bag_eq (fun vs H Q E h => by obtain ⟨s, x, d, rfl, _⟩ := h; rfl) (fun cdv A0 outer s H vs Q E hr h => ?_)
  refine ⟨_, (pss_one (ps_ret (pe_and (pe_callB call_isi (by rfl) T.b_isinstance (by decide +kernel) (pa_cons (pv 1) (pa_cons (pe_glob (v := .ref A.Bag) rfl T.g_Bag rfl) pa_nil))) (pe_one (pe_cmpR (op_eqD hr.units) (pe_fld (pv 0) (by rfl)) (pe_fld (pv 1) (by rfl)) (nomark _)))))), ?_⟩
  obtain ⟨s, x, d, rfl, hx, k⟩ := h
  exact s_ret (ev_is (ev_andV (a := false) (b := true) (ev_cb (ea_cons (ev_var rfl) (ea_cons ev_c ea_nil)) (rc_noKit (noKit_Bag T) hx)) fun z => by cases z) rfl) fun H1 e1 => k H1 e1
end
end K0

namespace K0
open PySem L2 Evl LamX
/-! ### _law_met of k30 -/
def numW (d : D) : Str := "number " ++ d.rep
def manyW (d : D) : Str := "many " ++ d.rep
def EK30 (K : PySem.W.Frag) (A : Ad) : EKT := fun r cls dd H => (cls = .ref A.EInvalidLetter ∧ r = wordsD "refused" "letter") ∨ (cls = .ref A.EInvalidOperation ∧ r = wordsD "refused" "operation") ∨
  (cls = .ref A.EInvalidNumber ∧ ∃ b v d, dd = some b ∧ H b = some (.xd [("given", v)]) ∧ Rp K H v d ∧ d.repOk = true ∧ d.rep.length ≤ 20000 ∧ r = wordsD "refused" (numW d)) ∨
  (cls = .ref A.ETooMany ∧ ∃ b v d, dd = some b ∧ H b = some (.xd [("limit", v)]) ∧ Rp K H v d ∧ d.repOk = true ∧ d.rep.length ≤ 20000 ∧ r = wordsD "refused" (manyW d))
abbrev fineF : K0.D := wordsD "refused" "fine"
def TFF : Hp → VK → Prop := fun H Q => tTup (tCons (tC (.str "refused")) (tCons (tC (.str "fine")) tNil)) ([] : L2.St) H Q
theorem tff {K : PySem.W.Frag} (H : Hp) (Q : VK) (k : RetR K fineF H Q) : TFF H Q := (ed_tup (K := K) (ds := [.str "refused", .str "fine"]) (eda_cons (ed_ev ev_c (.str _)) (eda_cons (ed_ev ev_c (.str _)) eda_nil)) (by simp)) H (Ex.refl _) Q k
abbrev tWordR (z : Str) : TS := tRet (tTup (tCons (tC (.str "refused")) (tCons (tC (.str z)) tNil)))
def rAddSt : R2 := fun x y H Q => ∃ i j, x = .str i ∧ y = .str j ∧ i.length + j.length ≤ sizeLine ∧ Q (.str (i ++ j)) H
abbrev tRepR (K : PySem.W.Frag) (z : Str) (C : Addr) (f : Str) (a : Addr) (cls : Value) (d : Option Addr) : TS := tRet (tTup (tCons (tC (.str "refused")) (tCons (tOp rAddSt (tC (.str z)) (tCB (rReprD K) (tCons (tXf a cls d C f (tVar 1)) tNil))) tNil)))
section
variable {K : PySem.W.Frag} {σ : L2.St} {H : Hp}
theorem s_word {z : Str} {D : Ends} (k : RetR K (wordsD "refused" z) H D.rt) : tWordR z D σ H := (ed_tup (K := K) (ds := [.str "refused", .str z]) (eda_cons ed_str (eda_cons ed_str eda_nil)) (by simp)) H (Ex.refl _) _ k
theorem s_rep {z f : Str} {C a b : Addr} {v : V} {d : K0.D} {D : Ends} (h1 : σ[1]? = some (some (.ref a))) (hb : H b = some (.xd [(f, v)])) (hv : Rp K H v d) (ok : d.repOk = true) (l : d.rep.length ≤ 20000) (lz : z.length ≤ 100) (hf : (f == f) = true)
    (k : RetR K (wordsD "refused" (z ++ d.rep)) H D.rt) : tRepR K z C f a (.ref C) (some b) D σ H := by
  have hx : Ev (tCB (rReprD K) (tCons (tXf a (.ref C) (some b) C f (tVar 1)) tNil)) σ H (.str d.rep) := fun H1 e1 Q1 q1 =>
    n_cons (n_var h1 ⟨rfl, rfl, b, [(f, v)], v, rfl, e1 _ _ hb, by rw [List.lookup_cons, hf], n_nil ⟨v, d, rfl, hv.ex e1, ok, q1 H1 (Ex.refl _)⟩⟩)
  exact (ed_tup (K := K) (ds := [.str "refused", .str (z ++ d.rep)]) (eda_cons ed_str (eda_cons (ed_ev (v := .str (z ++ d.rep)) (ev_op ev_c hx (rv_addS (by omega))) (.str _)) eda_nil)) (by simp)) H (Ex.refl _) _ k
end
section
variable {A : Ad} {D : Fd} {X : Cx}
theorem met_gives (T : Txt X.K X.mg A D) (gd : X.A.guards = some []) {kk : Nat} (hr : Room kk X.A) {q : Str} {cdg : Value} : GivesTo X N_law_met "_law_met" (defScope s_law_met) A.law_met cdg (defBody s_law_met) "call" q (TMG X.K (EK30 X.K A) TFF) := by
  intro f c' s H Q tl act hc h
  have hu := hr.un
  refine ⟨_, pss_cons (ps_clauses (X := (cxOf C8.CX0 X.prog X.w X.K X.mg X.base N_law_met "_law_met" (defScope s_law_met) A.law_met cdg X.A X.stack s H C8.E0).nox) (Wz := fun _ _ _ _ => False)
      (l := [⟨.ref A.EInvalidLetter, none, fun _ _ _ => tWordR "letter"⟩, ⟨.ref A.EInvalidOperation, none, fun _ _ _ => tWordR "operation"⟩, ⟨.ref A.EInvalidNumber, some 1, fun a cls d => tRepR X.K "number " A.EInvalidNumber "given" a cls d⟩, ⟨.ref A.ETooMany, some 1, fun a cls d => tRepR X.K "many " A.ETooMany "limit" a cls d⟩])
      (tb := fun W D σ H => ∃ Ech : XK, (∀ cls d σ' H', Ech cls d H' → W cls d σ' H') ∧ σ[0]? = some (some (.ref f)) ∧ H c' = some (CodeO c' q) ∧ tl Ech H (fun _ H' => D.nx σ H'))
      rfl rfl LamX.takes0 (fun W pn xe tk _ => ?_)
      (.bare ⟨rfl, rfl, .inl T.e_InvalidLetter.g⟩ (fun _ _ _ _ _ _ _ => pss_one (ps_ret (pe_tup (pa_cons pe_str (pa_cons pe_str pa_nil)))))
        (.bare ⟨rfl, rfl, .inl T.e_InvalidOperation.g⟩ (fun _ _ _ _ _ _ _ => pss_one (ps_ret (pe_tup (pa_cons pe_str (pa_cons pe_str pa_nil)))))
          (.named ⟨rfl, rfl, .inl T.e_InvalidNumber.g⟩ sc_law_met.nd rfl rfl (fun a oe cls d pn hz hf => pss_one (ps_ret (pe_tup (pa_cons pe_str (pa_cons (pe_op op_add_str pe_str (pe_callB (cr_reprD gd (by show X.A.units + 3 + 64 < cLine; omega)) (by rfl) T.b_repr (by decide +kernel) (pa_cons (pe_xf T.e_InvalidNumber.x T.n_InvalidNumbergiven hz hf (pv 1)) pa_nil))) pa_nil)))))
            (.named ⟨rfl, rfl, .inl T.e_TooMany.g⟩ sc_law_met.nd rfl rfl (fun a oe cls d pn hz hf => pss_one (ps_ret (pe_tup (pa_cons pe_str (pa_cons (pe_op op_add_str pe_str (pe_callB (cr_reprD gd (by show X.A.units + 3 + 64 < cLine; omega)) (by rfl) T.b_repr (by decide +kernel) (pa_cons (pe_xf T.e_TooMany.x T.n_TooManylimit hz hf (pv 1)) pa_nil))) pa_nil))))) .nil)))))
      (pss_one (ps_ret (pe_tup (pa_cons pe_str (pa_cons pe_str pa_nil))))), ?_⟩
  · refine pss_one ⟨fun pins s' σ H' D I h' => ?_⟩
    obtain ⟨Ech, hW, h1, h2, h3⟩ := h'
    exact (ps_expr (act W pn xe Ech _ _ tk hW)).run pins s' σ H' D I ⟨h1, h2, h3⟩
  · refine ⟨fun cls dd H' => ∃ r, EK30 X.K A r cls dd H' ∧ RetR X.K r H' Q, fun cls d σ' H' z => ?_, rfl, hc, ?_⟩
    · obtain ⟨r, ek, k⟩ := z
      have at1 : ∀ {a : Addr} {τ : L2.St}, τ.length = N_law_met.length → (τ.set 1 (some (V.ref a)))[1]? = some (some (V.ref a)) := fun hl => by
        rw [List.getElem?_set_self (by rw [hl]; exact (by decide : 1 < N_law_met.length))]
      rcases ek with ⟨rfl, rfl⟩ | ⟨rfl, rfl⟩ | ⟨rfl, b, v, dv, rfl, hb, hv, ok, l, rfl⟩ | ⟨rfl, b, v, dv, rfl, hb, hv, ok, l, rfl⟩
      · exact ⟨true, T.m_InvalidLetter_InvalidLetter, fun _ a _ _ => s_word (σ := σ') k, fun z => by cases z⟩
      · exact ⟨false, T.m_InvalidOperation_InvalidLetter, (fun z => by cases z), fun _ => ⟨true, T.m_InvalidOperation_InvalidOperation, fun _ a _ _ => s_word (σ := σ') k, fun z => by cases z⟩⟩
      · exact ⟨false, T.m_InvalidNumber_InvalidLetter, (fun z => by cases z), fun _ => ⟨false, T.m_InvalidNumber_InvalidOperation, (fun z => by cases z), fun _ => ⟨true, T.m_InvalidNumber_InvalidNumber, fun _ a na hl => s_rep (at1 hl) hb hv ok l (by decide) (by decide +kernel) k, fun z => by cases z⟩⟩⟩
      · exact ⟨false, T.m_TooMany_InvalidLetter, (fun z => by cases z), fun _ => ⟨false, T.m_TooMany_InvalidOperation, (fun z => by cases z), fun _ => ⟨false, T.m_TooMany_InvalidNumber, (fun z => by cases z), fun _ => ⟨true, T.m_TooMany_TooMany, fun _ a na hl => s_rep (at1 hl) hb hv ok l (by decide) (by decide +kernel) k, fun z => by cases z⟩⟩⟩⟩
    · exact h
end
end K0

namespace K0
open PySem PySem.Spec PyProof.Rows L2 Evl LamX
/-! ### k30: what is drawn, and its facts -/
def goodDs : List D := [.str "ask", .int 0, .int 1, .int 2, .int 4, .int 0]
def goodD : D := .tup goodDs
def begunD : D := .tup [.str "begun", .int 1, .int 2, .int 1]
def deedD3 : D := .tup [.str "deed", .int 3, .int 1, .int 1, .tup [.str "get", .str "a"]]
def bagDs : List D := [goodD, begunD, deedD3]
def numOk (hi : Int) (d : D) : Bool := !d.within 0 hi && (d.repOk && (decide (d.rep.length ≤ 100) && (wordsD "refused" (numW d)).fine 2))
theorem numOk_ok {hi : Int} {d : D} (h : numOk hi d = true) : d.within 0 hi = false ∧ d.repOk = true ∧ d.rep.length ≤ 100 ∧ (wordsD "refused" (numW d)).fine 2 = true := by
  unfold numOk at h
  simp only [Bool.and_eq_true, Bool.not_eq_true', decide_eq_true_eq] at h
  exact ⟨h.1, h.2.1, h.2.2.1, h.2.2.2⟩
def letBad (d : D) : Bool := decide (d.size ≤ 100) && (d.lOk && !d.letter)
theorem letBad_ok {d : D} (h : letBad d = true) : d.size ≤ 100 ∧ d.lOk = true ∧ d.letter = false := by
  unfold letBad at h
  simp only [Bool.and_eq_true, Bool.not_eq_true', decide_eq_true_eq] at h
  exact ⟨h.1, h.2.1, h.2.2⟩
def lsBad (d : D) : Bool := decide (d.size ≤ 10000) && (d.lsOk && !d.letters)
theorem lsBad_ok {d : D} (h : lsBad d = true) : d.size ≤ 10000 ∧ d.lsOk = true ∧ d.letters = false := by
  unfold lsBad at h
  simp only [Bool.and_eq_true, Bool.not_eq_true', decide_eq_true_eq] at h
  exact ⟨h.1, h.2.1, h.2.2⟩
def OddQ (f : D → Bool) (K : PySem.W.Frag) (H : Hp) (v : V) : Prop := ∃ d, Rp K H v d ∧ f d = true
theorem mOddQ {f : D → Bool} {K : PySem.W.Frag} : MonoN (OddQ f K) := ⟨fun e ⟨d, r, s⟩ => ⟨d, r.extN e, s⟩⟩
def anyD (_ : D) : Bool := true
theorem goodD_letter : goodD.letter = true := by decide +kernel
theorem goodD_lOk : goodD.lOk = true := by decide +kernel
theorem rep_sizeL (d : D) : ∀ n, D.sizeL (List.replicate n d) = n * d.size
  | 0 => by rw [Nat.zero_mul]; rfl
  | n + 1 => by
    rw [List.replicate_succ, Nat.succ_mul]
    show d.size + D.sizeL (List.replicate n d) = _
    rw [rep_sizeL d n]
    omega
theorem lsBad_cat {n : Nat} {d : D} (hn : n ≤ 500) (h : letBad d = true) : lsBad (.tup (List.replicate n goodD ++ [d])) = true := by
  obtain ⟨h1, h2, h3⟩ := letBad_ok h
  unfold lsBad
  have hs : (D.tup (List.replicate n goodD ++ [d])).size ≤ 10000 := by
    simp only [D.size]
    rw [sizeL_app, rep_sizeL]
    have : goodD.size = 7 := by decide
    rw [this]
    simp only [D.sizeL]
    omega
  have ho : (D.tup (List.replicate n goodD ++ [d])).lsOk = true := by
    show (List.replicate n goodD ++ [d]).all D.lOk = true
    rw [List.all_append, List.all_replicate]
    simp [h2, goodD_lOk]
  have hl : (D.tup (List.replicate n goodD ++ [d])).letters = false := by
    show (List.replicate n goodD ++ [d]).all D.letter = false
    rw [List.all_append]
    simp [h3]
  rw [decide_eq_true hs, ho, hl]
  rfl
section
variable {K : PySem.W.Frag} {σ : L2.St} {H H' : Hp} {ta tb te : TE} {tr : TA} {x y z v : V} {d e : K0.D} {ds es : List K0.D} {N : Hp → V → Prop} {a p : Addr} {o : Option Addr}
theorem rp_off (c : d.clean = true) (hd : DiceAt H a) (h : Rp K H v d) : RpO K (some a) d H v := h.exT c (exT_hid hd.hidL)
theorem h_of (c : d.clean = true) (hd : DiceAt H a) (h : EvD K te σ H d) : EvH K (some a) te σ H d := fun H1 e Q q => h H1 e Q fun v H2 e2 r => q v H2 e2 (rp_off c (hd.ex (e.trans e2)) r)
theorem hid_back {b : Addr} {xs : List V} (h : SqT K (hid o H) b xs) : SqT K H b xs := ex_t hid_le h
/-- list(t) of a tuple -/
theorem h_listOf (al : Al o H) (h : EvD K te σ H (.tup ds)) : EvH K o (tCB (rListS K) (tCons te tNil)) σ H .oth := fun H1 e Q q => n_cons (h H1 e _ fun v H2 e2 hv => by
  obtain ⟨p, xs, rfl, hp, _⟩ := hv.tupI
  exact n_nil ⟨p, xs, rfl, .inr hp, fun l hl => q (.ref l) _ (e2.trans (Ex.new hl)) (.lst (hidO_at upd_same ((al.ex (e.trans e2)).ne hl)))⟩)
/-- [x], x any value -/
theorem h_lstV (al : Al o H) (h : Ev te σ H v) : EvH K o (tLst (tCons te tNil)) σ H .oth := fun H1 e Q q => n_cons (h H1 e _ fun H2 e2 => n_nil ⟨sz_of (by simp), fun p hp => q (.ref p) _ (e2.trans (Ex.new hp)) (.lst (hidO_at upd_same ((al.ex (e.trans e2)).ne hp)))⟩)
theorem h_cat (al : Al o H) (h1 : EvH K o ta σ H (.tup ds)) (h2 : EvH K o tb σ H (.tup es)) (l : ds.length + es.length ≤ 100000) : EvH K o (tOp (rCatA K) ta tb) σ H (.tup (ds ++ es)) := fun H1 e Q q =>
  h1 H1 e _ fun v H2 b hv => h2 H2 (e.trans b) _ fun w H3 c hw => by
    obtain ⟨p, xs, rfl, sp, rp⟩ := (hv.ex (hid_ex c)).tupI
    obtain ⟨r, ys, rfl, sr, rr⟩ := hw.tupI
    refine ⟨p, r, xs, ys, rfl, rfl, hid_back sp, hid_back sr, by rw [rp.len, rr.len]; exact sz_of l, fun h => ?_, fun _ h => ?_, fun _ _ n hn => ?_⟩
    · subst h
      cases rp
      exact q _ _ (b.trans c) (.tup sr rr)
    · subst h
      cases rr
      rw [List.append_nil] at q
      exact q _ _ (b.trans c) (.tup sp rp)
    · exact q _ _ ((b.trans c).trans (Ex.new hn)) (.tup (st_of (hidO_at upd_same ((al.ex (e.trans (b.trans c))).ne hn))) ((rp.app rr).ex (hid_ex (Ex.new hn))))
theorem rpAll_rep {G : Hp} (r : Rp K G v d) : ∀ n, RpAll K G (List.replicate n v) (List.replicate n d)
  | 0 => .nil
  | n + 1 => .cons r (rpAll_rep r n)
theorem flat_rep (v : V) : ∀ n, (List.replicate n [v]).flatten = List.replicate n v
  | 0 => rfl
  | n + 1 => by rw [List.replicate_succ, List.flatten_cons, flat_rep v n, List.replicate_succ]; rfl
/-- (x,) * n -/
theorem h_rep {n : Nat} (al : Al o H) (h : EvH K o te σ H (.tup [d])) (n2 : 2 ≤ n) (nh : n ≤ 1000) : EvH K o (tOp (rRepT K) te (tC (.int (n : Int)))) σ H (.tup (List.replicate n d)) := fun H1 e Q q =>
  h H1 e _ fun v H2 e2 hv => by
    obtain ⟨p, xs, rfl, hp, rp⟩ := hv.tupI
    cases rp with
    | cons r0 r1 =>
      cases r1
      rename_i u
      refine ev_c (v := .int (n : Int)) (σ := σ) H2 (Ex.refl _) _ fun H3 e3 => ⟨p, (n : Int), [u], rfl, rfl, hid_back (ex_t (hid_ex e3) hp), by simp, by omega, by omega, by simp, fun t ht => q (.ref t) _ ((e2.trans e3).trans (Ex.new ht)) ?_⟩
      rw [Int.toNat_natCast, flat_rep]
      exact .tup (st_of (hidO_at upd_same ((al.ex ((e.trans e2).trans e3)).ne ht))) (rpAll_rep ((r0.ex (hid_ex e3)).ex (hid_ex (Ex.new ht))) n)
theorem oq {f : K0.D → Bool} (h : EvH K o te σ H d) (p : f d = true) : EvQ (Off o (OddQ f K)) te σ H := h_q h fun _ _ r => ⟨d, r, p⟩
/-- _law_pick(dice, some), the list standing -/
theorem c_pickV {E : XK} {Q : VK} {j : Nat} {xs : List V} (mo : MonoN N) (hv : σ[0]? = some (some (.ref a))) (hj : σ[j]? = some (some (.ref p))) (hd : DiceAt H a) (hl : H p = some (.lst xs)) (np : p ≠ a) (ms : ∀ v ∈ xs, Off (some a) N H v) (n0 : xs ≠ []) (hn : xs.length ≤ 1000)
    (k : ∀ x H2, Bt a H H2 → DiceAt H2 a → Off (some a) N H2 x → Q x H2) : tCall (sp_law_pick K) [] E (tCons (tVar 0) (tCons (tVar j) tNil)) σ H Q :=
  d_raw (n_cons (n_var hv (n_cons (n_var hj (n_nil ⟨a, p, xs, rfl, hd, np, sq_of hl, n0, by omega, fun x H3 hx b3 d3 => k x H3 b3 d3 (mo.m (ExtN.of b3) (ms x hx))⟩)))))
end
/-- a bag beside the dice list -/
def BagN (K : PySem.W.Frag) (C : Addr) (ds : List D) : Hp → V → Prop := fun H v => ∃ p, v = .ref p ∧ BagAt K C H p ds
theorem mBag {K : PySem.W.Frag} {C : Addr} {ds : List D} : MonoN (BagN K C ds) := ⟨fun e ⟨p, r, dx, v, h1, h2⟩ => ⟨p, r, dx, v, e _ _ h1 (fun ps z => by cases z), h2.extN e⟩⟩
end K0

namespace K0
open PySem L2 Evl LamX
section
variable {P : Program} {w : World} {K : PySem.W.Frag} {mg : Str → Option Value} {base : Heap} {A : Ad} {D : Fd} {ca : Ca}
def due30 (d0 d1 d2 : K0.D) : List Str := List.replicate 4 ("letter" : Str) ++ List.replicate 3 (numW d0) ++ [numW d1, numW d2, "operation"]
def sp_law_right (K : PySem.W.Frag) (A : Ad) (ca : Ca) : Sp := fun vs H Q _ => ∃ a p, vs = [.ref a, .ref p] ∧ DiceAt H a ∧ Off (some a) (BagN K A.Bag bagDs) H (.ref p) ∧ Tabs ca.tabs H ∧ ∀ H', BtO (some a) H H' → DiceAt H' a → Tabs ca.tabs H' → Q (.bl true) H'
theorem ed_num {σ : L2.St} {H : Hp} {te : TE} {v : V} {d : K0.D} (h : Ev te σ H v) (r : Rp K H v d) (ok : d.repOk = true) (l : d.rep.length ≤ 100) : EvD K (tOp rAddSt (tC (.str "number ")) (tCB (rReprD K) (tCons te tNil))) σ H (.str (numW d)) :=
  ed_ev (ev_op ev_c (y := .str d.rep) (ev_cb (ea_cons h ea_nil) fun H1 e Q q => ⟨v, d, rfl, r.ex e, ok, q H1 (Ex.refl _)⟩) (rv_addS (by show 7 + _ ≤ _; omega))) (.str _)
theorem ok_law_right (T : Txt K mg A D) (U : Tab K w mg A) (HL : LamH base mg D ca) : FnG P w K mg base CX0 52 A.law_right D.law_right ["dice", "bag"] (sp_law_right K A ca) := by
  have G_law_pick : FnOk P w K mg base CX0 2 A.law_pick D.law_pick ["dice", "items"] (sp_law_pick K) := ok_law_pick T
  have G_sender := ok_senderR (P := P) (w := w) (base := base) T U
  have G_receiver := ok_receiverR (P := P) (w := w) (base := base) T U
  have G_is_letter := ok_is_letter (P := P) (w := w) (base := base) T U
  have G_Bag_init := ok_Bag_initX (P := P) (w := w) (base := base) T U
  have G_Bag_letters := ok_Bag_letters (P := P) (w := w) (base := base) T
  have G_Bag_sent := ok_Bag_sentX (P := P) (w := w) (base := base) T U
  have G_Bag_taken := ok_Bag_takenX (P := P) (w := w) (base := base) T U
  have G_Bag_lost := ok_Bag_lostX (P := P) (w := w) (base := base) T U
  have G_Bag_doubled := ok_Bag_doubledR (P := P) (w := w) (base := base) T
  have G_Bag_to_house := ok_Bag_to_houseR (P := P) (w := w) (base := base) T
  have G_Bag_to_client := ok_Bag_to_clientR (P := P) (w := w) (base := base) T
  have G_Bag_has_same := ok_Bag_has_sameR (P := P) (w := w) (base := base) T
  have G_Bag_eq := ok_Bag_eqN (P := P) (w := w) (base := base) T
  obtain ⟨_, hp_Bag_letters⟩ := T.p_Bag_letters
  refine okG T.F_law_right sc_law_right (fun vs H Q E h => by obtain ⟨a, p, rfl, _⟩ := h; rfl) (fun cdv A0 outer s H vs Q E hcdv gd hr h => ?_)
  obtain rfl : cdv = .ref ca.c0 := hcdv.symm.trans HL.c_law_right
  refine ⟨_, PSs.nox (pss_cons (ps_set (i := 2) sc_law_right.nd rfl (Or.inl rfl) (pe_ix ix_tup (pe_prop (pv 1) T.cl_Bag hp_Bag_letters G_Bag_letters (hr.mono (by decide)) T.b_Bag_letters .nil pass0 (by rfl)) pe_int (fun _ _ => rfl)))
  (pss_cons (ps_set (i := 3) sc_law_right.nd rfl (Or.inl rfl) (pe_lst (pa_cons pe_non (pa_cons (pe_tup pa_nil) (pa_cons pe_int (pa_cons pe_str (pa_cons (pe_tup (pa_cons pe_str pa_nil)) (pa_cons (pe_slice sl_tupA (pv 2) po_none (po_some (pe_un un_neg pe_int))) (pa_cons (pe_callTy call_list_of (by rfl) T.b_list (by decide +kernel) (pa_cons (pv 2) pa_nil)) (pa_cons (pe_tup (pa_cons (pv 2) pa_nil)) (pa_cons (pe_tup (pa_cons pe_str (pa_cons pe_int (pa_cons pe_int (pa_cons pe_int (pa_cons pe_int (pa_cons pe_bl pa_nil))))))) (pa_cons (pe_tup (pa_cons pe_str (pa_cons pe_int (pa_cons pe_int (pa_cons pe_int (pa_cons pe_int (pa_cons pe_int pa_nil))))))) (pa_cons (pe_tup (pa_cons pe_str (pa_cons pe_int (pa_cons pe_int (pa_cons pe_int (pa_cons pe_int (pa_cons pe_int pa_nil))))))) (pa_cons pe_dnewK pa_nil))))))))))))))
  (pss_cons (ps_set (i := 4) sc_law_right.nd rfl (Or.inr rfl) (pe_call G_law_pick (hr.mono (by decide)) rfl T.g_law_pick T.F_law_pick.kp T.b_law_pick .nil pass0 (pa_cons (pv 0) (pa_cons (pv 3) pa_nil))))
  (pss_cons (ps_set (i := 5) sc_law_right.nd rfl (Or.inr rfl) (pe_call G_law_pick (hr.mono (by decide)) rfl T.g_law_pick T.F_law_pick.kp T.b_law_pick .nil pass0 (pa_cons (pv 0) (pa_cons (pe_lst (pa_cons pe_non (pa_cons (pe_lst (pa_cons (pv 2) pa_nil)) (pa_cons (pe_tup (pa_cons (pv 2) (pa_cons (pv 4) pa_nil))) (pa_cons (pe_tup (pa_cons (pv 4) pa_nil)) (pa_cons (pv 2) (pa_cons pe_dnewK (pa_cons pe_int (pa_cons pe_str (pa_cons (pe_op op_catA (pe_op op_repT (pe_tup (pa_cons (pv 2) pa_nil)) pe_int) (pe_tup (pa_cons (pv 4) pa_nil))) pa_nil)))))))))) pa_nil))))
  (pss_cons (ps_set (i := 6) sc_law_right.nd rfl (Or.inr rfl) (pe_call G_law_pick (hr.mono (by decide)) rfl T.g_law_pick T.F_law_pick.kp T.b_law_pick .nil pass0 (pa_cons (pv 0) (pa_cons (pe_lst (pa_cons pe_non (pa_cons (pe_un un_neg pe_int) (pa_cons pe_int (pa_cons pe_bl (pa_cons pe_str (pa_cons (pe_tup (pa_cons pe_int pa_nil)) (pa_cons (pe_op op_sub (pe_op op_pow pe_int pe_int) pe_int) pa_nil)))))))) pa_nil))))
  (pss_cons (ps_asg (pe_tup (pa_cons (pe_call G_law_pick (hr.mono (by decide)) rfl T.g_law_pick T.F_law_pick.kp T.b_law_pick .nil pass0 (pa_cons (pv 0) (pa_cons (pe_lst (pa_cons pe_non (pa_cons (pe_un un_neg pe_int) (pa_cons pe_int (pa_cons pe_bl (pa_cons pe_str (pa_cons (pe_op op_sub (pe_op op_pow pe_int pe_int) pe_int) pa_nil))))))) pa_nil))) (pa_cons (pe_call G_law_pick (hr.mono (by decide)) rfl T.g_law_pick T.F_law_pick.kp T.b_law_pick .nil pass0 (pa_cons (pv 0) (pa_cons (pe_lst (pa_cons pe_non (pa_cons (pe_un un_neg pe_int) (pa_cons pe_int (pa_cons pe_bl (pa_cons (pe_tup (pa_cons pe_int pa_nil)) pa_nil)))))) pa_nil))) pa_nil))) (pg_tup rfl (pgs_cons (pg_name (i := 7) sc_law_right.nd rfl (Or.inr rfl)) (pgs_cons (pg_name (i := 8) sc_law_right.nd rfl (Or.inr rfl)) pgs_nil))))
  (pss_cons (ps_set (i := 9) sc_law_right.nd rfl (Or.inr rfl) (pe_call G_law_pick (hr.mono (by decide)) rfl T.g_law_pick T.F_law_pick.kp T.b_law_pick .nil pass0 (pa_cons (pv 0) (pa_cons (pe_lst (pa_cons pe_non (pa_cons (pe_prop (pv 1) T.cl_Bag hp_Bag_letters G_Bag_letters (hr.mono (by decide)) T.b_Bag_letters .nil pass0 (by rfl)) (pa_cons (pe_lst (pa_cons (pv 1) pa_nil)) (pa_cons pe_int (pa_cons (pv 2) (pa_cons pe_str pa_nil))))))) pa_nil))))
  (pss_cons (ps_set (i := 10) sc_law_right.nd rfl (Or.inl rfl) (pe_lst (pa_cons (pe_lmG (TT := ca.tabs) (k := 46) T.g_law_met T.F_law_met T.b_law_met sc_law_met rfl (Or.inl rfl) (met_gives T gd hr) HL.t_law_right rfl HL.m_law_right HL.u_law_right (hr.mono (by decide)) (show LamX.lamSB (defScope s_law_right) _ = true by decide +kernel) rfl rfl (fun _ _ _ _ _ => rfl) (fun A1 o1 s1 H1 E1 f1 c1 hr => (pe_call G_sender (hr.mono (by decide)) rfl T.g_sender T.F_sender.kp T.b_sender .nil (passes_call (takes_of rfl rfl rfl rfl) (fun _ _ _ _ z => z)) (pa_cons (pv 4) pa_nil)))) pa_nil)))
  (pss_cons (ps_expr (pe_bm PySem.F.plainAttrs_list PySem.F.slot_list_append PySem.F.type_list_append mt_append (pv 10) (pa_cons (pe_lmG (TT := ca.tabs) (k := 46) T.g_law_met T.F_law_met T.b_law_met sc_law_met rfl (Or.inl rfl) (met_gives T gd hr) HL.t_law_right rfl HL.m_law_right HL.u_law_right (hr.mono (by decide)) (show LamX.lamSB (defScope s_law_right) _ = true by decide +kernel) rfl rfl (fun _ _ _ _ _ => rfl) (fun A1 o1 s1 H1 E1 f1 c1 hr => (pe_call G_receiver (hr.mono (by decide)) rfl T.g_receiver T.F_receiver.kp T.b_receiver .nil (passes_call (takes_of rfl rfl rfl rfl) (fun _ _ _ _ z => z)) (pa_cons (pv 4) pa_nil)))) pa_nil)))
  (pss_cons (ps_expr (pe_bm PySem.F.plainAttrs_list PySem.F.slot_list_append PySem.F.type_list_append mt_append (pv 10) (pa_cons (pe_lmG (TT := ca.tabs) (k := 46) T.g_law_met T.F_law_met T.b_law_met sc_law_met rfl (Or.inl rfl) (met_gives T gd hr) HL.t_law_right rfl HL.m_law_right HL.u_law_right (hr.mono (by decide)) (show LamX.lamSB (defScope s_law_right) _ = true by decide +kernel) rfl rfl (fun _ _ _ _ _ => rfl) (fun A1 o1 s1 H1 E1 f1 c1 hr => (pe_make T.mk_Bag G_Bag_init (hr.mono (by decide)) (by rfl) T.g_Bag T.b_Bag_init .nil (passes_call (takes_of rfl rfl rfl rfl) (fun _ _ _ _ z => z)) (pa_cons (pv 5) pa_nil)))) pa_nil)))
  (pss_cons (ps_expr (pe_bm PySem.F.plainAttrs_list PySem.F.slot_list_append PySem.F.type_list_append mt_append (pv 10) (pa_cons (pe_lmG (TT := ca.tabs) (k := 46) T.g_law_met T.F_law_met T.b_law_met sc_law_met rfl (Or.inl rfl) (met_gives T gd hr) HL.t_law_right rfl HL.m_law_right HL.u_law_right (hr.mono (by decide)) (show LamX.lamSB (defScope s_law_right) _ = true by decide +kernel) rfl rfl (fun _ _ _ _ _ => rfl) (fun A1 o1 s1 H1 E1 f1 c1 hr => (pe_meth (pv 1) T.cl_Bag T.m_Bag_sent G_Bag_sent (hr.mono (by decide)) T.b_Bag_sent .nil (passes_call (takes_of rfl rfl rfl rfl) (fun _ _ _ _ z => z)) (pa_cons (pv 5) pa_nil)))) pa_nil)))
  (pss_cons (ps_expr (pe_bm PySem.F.plainAttrs_list PySem.F.slot_list_append PySem.F.type_list_append mt_append (pv 10) (pa_cons (pe_lmG (TT := ca.tabs) (k := 46) T.g_law_met T.F_law_met T.b_law_met sc_law_met rfl (Or.inl rfl) (met_gives T gd hr) HL.t_law_right rfl HL.m_law_right HL.u_law_right (hr.mono (by decide)) (show LamX.lamSB (defScope s_law_right) _ = true by decide +kernel) rfl rfl (fun _ _ _ _ _ => rfl) (fun A1 o1 s1 H1 E1 f1 c1 hr => (pe_meth (pv 1) T.cl_Bag T.m_Bag_taken G_Bag_taken (hr.mono (by decide)) T.b_Bag_taken .nil (passes_call (takes_of rfl rfl rfl rfl) (fun _ _ _ _ z => z)) (pa_cons (pv 6) pa_nil)))) pa_nil)))
  (pss_cons (ps_expr (pe_bm PySem.F.plainAttrs_list PySem.F.slot_list_append PySem.F.type_list_append mt_append (pv 10) (pa_cons (pe_lmG (TT := ca.tabs) (k := 46) T.g_law_met T.F_law_met T.b_law_met sc_law_met rfl (Or.inl rfl) (met_gives T gd hr) HL.t_law_right rfl HL.m_law_right HL.u_law_right (hr.mono (by decide)) (show LamX.lamSB (defScope s_law_right) _ = true by decide +kernel) rfl rfl (fun _ _ _ _ _ => rfl) (fun A1 o1 s1 H1 E1 f1 c1 hr => (pe_meth (pv 1) T.cl_Bag T.m_Bag_lost G_Bag_lost (hr.mono (by decide)) T.b_Bag_lost .nil (passes_call (takes_of rfl rfl rfl rfl) (fun _ _ _ _ z => z)) (pa_cons (pv 6) pa_nil)))) pa_nil)))
  (pss_cons (ps_expr (pe_bm PySem.F.plainAttrs_list PySem.F.slot_list_append PySem.F.type_list_append mt_append (pv 10) (pa_cons (pe_lmG (TT := ca.tabs) (k := 46) T.g_law_met T.F_law_met T.b_law_met sc_law_met rfl (Or.inl rfl) (met_gives T gd hr) HL.t_law_right rfl HL.m_law_right HL.u_law_right (hr.mono (by decide)) (show LamX.lamSB (defScope s_law_right) _ = true by decide +kernel) rfl rfl (fun _ _ _ _ _ => rfl) (fun A1 o1 s1 H1 E1 f1 c1 hr => (pe_meth (pv 1) T.cl_Bag T.m_Bag_doubled G_Bag_doubled (hr.mono (by decide)) T.b_Bag_doubled .nil (passes_call (takes_of rfl rfl rfl rfl) (fun _ _ _ _ z => z)) (pa_cons (pv 6) pa_nil)))) pa_nil)))
  (pss_cons (ps_expr (pe_bm PySem.F.plainAttrs_list PySem.F.slot_list_append PySem.F.type_list_append mt_append (pv 10) (pa_cons (pe_lmG (TT := ca.tabs) (k := 46) T.g_law_met T.F_law_met T.b_law_met sc_law_met rfl (Or.inl rfl) (met_gives T gd hr) HL.t_law_right rfl HL.m_law_right HL.u_law_right (hr.mono (by decide)) (show LamX.lamSB (defScope s_law_right) _ = true by decide +kernel) rfl rfl (fun _ _ _ _ _ => rfl) (fun A1 o1 s1 H1 E1 f1 c1 hr => (pe_meth (pv 1) T.cl_Bag T.m_Bag_to_house G_Bag_to_house (hr.mono (by decide)) T.b_Bag_to_house .nil (passes_call (takes_of rfl rfl rfl rfl) (fun _ _ _ _ z => z)) (pa_cons (pv 7) pa_nil)))) pa_nil)))
  (pss_cons (ps_expr (pe_bm PySem.F.plainAttrs_list PySem.F.slot_list_append PySem.F.type_list_append mt_append (pv 10) (pa_cons (pe_lmG (TT := ca.tabs) (k := 46) T.g_law_met T.F_law_met T.b_law_met sc_law_met rfl (Or.inl rfl) (met_gives T gd hr) HL.t_law_right rfl HL.m_law_right HL.u_law_right (hr.mono (by decide)) (show LamX.lamSB (defScope s_law_right) _ = true by decide +kernel) rfl rfl (fun _ _ _ _ _ => rfl) (fun A1 o1 s1 H1 E1 f1 c1 hr => (pe_meth (pv 1) T.cl_Bag T.m_Bag_to_client G_Bag_to_client (hr.mono (by decide)) T.b_Bag_to_client .nil (passes_call (takes_of rfl rfl rfl rfl) (fun _ _ _ _ z => z)) (pa_cons (pv 8) pa_nil)))) pa_nil)))
  (pss_cons (ps_expr (pe_bm PySem.F.plainAttrs_list PySem.F.slot_list_append PySem.F.type_list_append mt_append (pv 10) (pa_cons (pe_lmG (TT := ca.tabs) (k := 46) T.g_law_met T.F_law_met T.b_law_met sc_law_met rfl (Or.inl rfl) (met_gives T gd hr) HL.t_law_right rfl HL.m_law_right HL.u_law_right (hr.mono (by decide)) (show LamX.lamSB (defScope s_law_right) _ = true by decide +kernel) rfl rfl (fun _ _ _ _ _ => rfl) (fun A1 o1 s1 H1 E1 f1 c1 hr => (pe_meth (pv 1) T.cl_Bag T.m_Bag_has_same G_Bag_has_same (hr.mono (by decide)) T.b_Bag_has_same .nil (passes_call (takes_of rfl rfl rfl rfl) (fun _ _ _ _ z => z)) (pa_cons (pv 9) pa_nil)))) pa_nil)))
  (pss_cons (ps_set (i := 11) sc_law_right.nd rfl (Or.inl rfl) (pe_op op_cat (pe_op op_cat (pe_op op_rep (pe_lst (pa_cons pe_str pa_nil)) pe_int) (pe_op op_rep (pe_lst (pa_cons (pe_op op_add_str pe_str (pe_callB (cr_reprD gd hr.units) (by rfl) T.b_repr (by decide +kernel) (pa_cons (pv 6) pa_nil))) pa_nil)) pe_int)) (pe_lst (pa_cons (pe_op op_add_str pe_str (pe_callB (cr_reprD gd hr.units) (by rfl) T.b_repr (by decide +kernel) (pa_cons (pv 7) pa_nil))) (pa_cons (pe_op op_add_str pe_str (pe_callB (cr_reprD gd hr.units) (by rfl) T.b_repr (by decide +kernel) (pa_cons (pv 8) pa_nil))) (pa_cons pe_str pa_nil))))))
  (pss_one (ps_ret (pe_and (pe_cmpR (op_eqD hr.units) (pv 10) (pe_lc (own := [("word", 12)]) (g := gName 12) (tt := tYes) rfl sc_law_right.nd (pi_list (pv 11)) (blkOk_by (own := [("word", 12)]) (N := N_law_right) (sc := defScope s_law_right) (by decide +kernel)) (fun _ _ _ _ _ => by exact pg_name (i := 12) sc_law_right.nd rfl (Or.inl rfl)) (fun _ _ _ _ _ => by exact pts_nil) (fun _ _ _ _ _ => by exact (pe_tup (pa_cons pe_str (pa_cons (pv 12) pa_nil))))) (nomark _)) (pe_and (pe_cmpR op_is_bl (pe_call G_is_letter (hr.mono (by decide)) rfl T.g_is_letter T.F_is_letter.kp T.b_is_letter .nil pass0 (pa_cons (pv 4) pa_nil)) pe_bl (nomark _)) (pe_one (pe_cmpR op_is_bl (pe_cmpR (op_eqA G_Bag_eq (hr.mono (by decide)) T.b_Bag_eq pass0 T.m_Bag_eq.at_ T.m_Bag_eq.fn (noKit_Bag T)) (pv 1) (pv 9) (nomark _)) pe_bl (nomark _))))))))))))))))))))))))), ?_⟩
  obtain ⟨a, p, rfl, hd, hbag, ht, k⟩ := h
  have gB : ∀ {G : Hp}, BtO (some a) H G → BagAt K A.Bag G p bagDs := fun e => by
    obtain ⟨p', r, h1⟩ := Off.get mBag e hbag
    cases r
    exact h1
  have hb0 := gB BtO.refl
  have mL := (mOddQ (f := letBad) (K := K)).off (o := some a)
  have mS := (mOddQ (f := lsBad) (K := K)).off (o := some a)
  have mN := (mOddQ (f := numOk 2) (K := K)).off (o := some a)
  have mH := (mOddQ (f := numOk 8) (K := K)).off (o := some a)
  have mC := (mOddQ (f := numOk 4) (K := K)).off (o := some a)
  have mA := (mOddQ (f := anyD) (K := K)).off (o := some a)
  have lets : ∀ {G : Hp} {σ : L2.St}, BtO (some a) H G → σ[1]? = some (some (.ref p)) → EvD K (tProp A.Bag (sp_Bag_letters K A) [] (fun _ _ _ => False) (tVar 1)) σ G (.tup bagDs) := fun {G σ} e h1 => by
    have hb := gB e
    obtain ⟨dx, v, hp, hv⟩ := id hb
    exact ed_prop (K := K) (ev_var h1) hp fun H1 e1 Q q => ⟨p, bagDs, rfl, hb.ex e1, q⟩
  refine q_asgX ((ed_ix (K := K) (d := goodD) (i := 0) (lets BtO.refl rfl) (fun _ _ => ev_c) rfl) H (Ex.refl _) _ fun vg H1 e1 rg => ?_)
  have d1 := hd.ex e1
  have al1 := Al.of d1
  have hg1 : RpO K (some a) goodD H1 vg := rp_off rfl d1 rg
  have hg : ∀ {te : TE} {σ : L2.St} {G : Hp} {d : K0.D}, d.clean = true → DiceAt G a → EvD K te σ G d → EvH K (some a) te σ G d := fun c dd h => h_of c dd h
  refine G.q_asgQ (M := Off (some a) (OddQ letBad K)) (ql_lst mL (qa_cons mL (oq h_non (by decide +kernel)) (qa_cons mL (oq (h_tup al1 ha_nil (by simp)) (by decide +kernel)) (qa_cons mL (oq h_int (by decide +kernel)) (qa_cons mL (oq h_str (by decide +kernel)) (qa_cons mL (oq (h_tup al1 (ha_cons h_str ha_nil) (by simp)) (by decide +kernel))
    (qa_cons mL (oq (hg (d := .tup (cutD goodDs none (some (-1)))) (by decide +kernel) d1 (ed_sl (ed_ev (ev_var rfl) rg) (fun _ _ => eo_none) (fun _ _ => eo_some (ev_un ev_c ru_neg)))) (by decide +kernel))
    (qa_cons mL (oq (h_listOf al1 (ds := goodDs) (ed_ev (ev_var rfl) rg)) (by decide +kernel)) (qa_cons mL (oq (h_tup al1 (ha_cons (h_var rfl hg1) ha_nil) (by simp)) (by decide +kernel))
    (qa_cons mL (oq (h_tup al1 (ha_cons h_str (ha_cons h_int (ha_cons h_int (ha_cons h_int (ha_cons h_int (ha_cons h_bl ha_nil)))))) (by simp)) (by decide +kernel))
    (qa_cons mL (oq (h_tup al1 (ha_cons h_str (ha_cons h_int (ha_cons h_int (ha_cons h_int (ha_cons h_int (ha_cons h_int ha_nil)))))) (by simp)) (by decide +kernel))
    (qa_cons mL (oq (h_tup al1 (ha_cons h_str (ha_cons h_int (ha_cons h_int (ha_cons h_int (ha_cons h_int (ha_cons h_int ha_nil)))))) (by simp)) (by decide +kernel))
    (qa_cons mL (oq (h_dict0 al1) (by decide +kernel)) qa_nil)))))))))))) (by decide)) fun ps xs H2 hps e2 h2 m2 l2 => ?_
  have d2 := d1.ex e2
  refine q_asgX (c_pickV (mOddQ (f := letBad) (K := K)) rfl rfl d2 h2 (d1.ne hps) m2 (fun z => by rw [z] at l2; simp at l2) (by omega) fun xl H3 b3 d3 ml => ?_)
  have al3 := Al.of d3
  have b03 : BtO (some a) H H3 := (BtO.ofE (e1.trans e2)).trans (BtO.ofB b3)
  have hg3 : RpO K (some a) goodD H3 vg := rpN.m (ExtN.of b3) (rp_off rfl d2 (rg.ex e2))
  obtain ⟨ld, rl, hlb⟩ := ml
  have hl3 : RpO K (some a) ld H3 xl := rl
  have lg : (letBad goodD) = false := by decide +kernel
  refine q_pick (N := OddQ lsBad K) mOddQ rfl d3 (ql_lst mS (qa_cons mS (oq h_non (by decide +kernel)) (qa_cons mS (oq (h_lst al3 (ha_cons (h_var rfl hg3) ha_nil) (by simp)) (by decide +kernel))
    (qa_cons mS (oq (h_tup al3 (ha_cons (h_var rfl hg3) (ha_cons (h_var rfl hl3) ha_nil)) (by simp)) (lsBad_cat (n := 1) (by decide) hlb))
    (qa_cons mS (oq (h_tup al3 (ha_cons (h_var rfl hl3) ha_nil) (by simp)) (lsBad_cat (n := 0) (by decide) hlb))
    (qa_cons mS (oq (h_var rfl hg3) (by decide +kernel)) (qa_cons mS (oq (h_dict0 al3) (by decide +kernel)) (qa_cons mS (oq h_int (by decide +kernel)) (qa_cons mS (oq h_str (by decide +kernel))
    (qa_cons mS (oq (h_cat al3 (h_rep (n := 400) al3 (h_tup al3 (ha_cons (h_var rfl hg3) ha_nil) (by simp)) (by decide) (by decide)) (h_tup al3 (ha_cons (h_var rfl hl3) ha_nil) (by simp)) (by rw [List.length_replicate]; show 400 + 1 ≤ 100000; decide)) (lsBad_cat (n := 400) (by decide) hlb)) qa_nil))))))))) (by decide)) (by omega) (by omega) fun xs4 H4 b4 d4 ms => ?_
  have al4 := Al.of d4
  refine q_pick (N := OddQ (numOk 2) K) mOddQ rfl d4 (ql_lst mN (qa_cons mN (oq h_non (by decide +kernel)) (qa_cons mN (oq h_neg (by decide +kernel)) (qa_cons mN (oq h_int (by decide +kernel)) (qa_cons mN (oq h_bl (by decide +kernel)) (qa_cons mN (oq h_str (by decide +kernel))
    (qa_cons mN (oq (h_tup al4 (ha_cons h_int ha_nil) (by simp)) (by decide +kernel)) (qa_cons mN (oq (h_ev (ev_op (ev_op ev_c ev_c (rv_pow (n := 60) (by decide) (by decide))) ev_c rv_I0) fun _ => .int _) (by decide +kernel)) qa_nil))))))) (by decide)) (by omega) (by omega) fun xi H5 b5 d5 mi => ?_
  have al5 := Al.of d5
  refine q_asgG (n_tup (n_cons (c_pick (N := OddQ (numOk 8) K) mOddQ rfl d5 (ql_lst mH (qa_cons mH (oq h_non (by decide +kernel)) (qa_cons mH (oq h_neg (by decide +kernel)) (qa_cons mH (oq h_int (by decide +kernel)) (qa_cons mH (oq h_bl (by decide +kernel)) (qa_cons mH (oq h_str (by decide +kernel))
    (qa_cons mH (oq (h_ev (ev_op (ev_op ev_c ev_c (rv_pow (n := 60) (by decide) (by decide))) ev_c rv_I0) fun _ => .int _) (by decide +kernel)) qa_nil)))))) (by decide)) (by omega) (by omega) fun xh H6 b6 d6 mh =>
    n_cons (c_pick (N := OddQ (numOk 4) K) mOddQ rfl d6 (ql_lst mC (qa_cons mC (oq h_non (by decide +kernel)) (qa_cons mC (oq h_neg (by decide +kernel)) (qa_cons mC (oq h_int (by decide +kernel)) (qa_cons mC (oq h_bl (by decide +kernel))
    (qa_cons mC (oq (h_tup (Al.of d6) (ha_cons h_int ha_nil) (by simp)) (by decide +kernel)) qa_nil))))) (by decide)) (by omega) (by omega) fun xc H7 b7 d7 mc => n_nil ⟨sz_of (by simp), fun pt hpt => ?_⟩))))
  have e8 : Ex H7 (upd H7 pt (.tup [xh, xc])) := Ex.new hpt
  refine ⟨pt, _, rfl, st_of upd_same, rfl, _, _, rfl, _, _, rfl, rfl, ?_⟩
  have d8 := d7.ex e8
  have t8 : Tabs ca.tabs (upd H7 pt (.tup [xh, xc])) := (tabs_bt d6 b7 (tabs_bt d5 b6 (tabs_bt d4 b5 (tabs_bt d3 b4 (tabs_bt d2 b3 (ht.ext (e1.trans e2))))))).ext e8
  have b38 : BtO (some a) H3 (upd H7 pt (.tup [xh, xc])) := ((((BtO.ofB b4).trans (BtO.ofB b5)).trans (BtO.ofB b6)).trans (BtO.ofB b7)).trans (BtO.ofE e8)
  have b48 : BtO (some a) H4 (upd H7 pt (.tup [xh, xc])) := (((BtO.ofB b5).trans (BtO.ofB b6)).trans (BtO.ofB b7)).trans (BtO.ofE e8)
  have b58 : BtO (some a) H5 (upd H7 pt (.tup [xh, xc])) := ((BtO.ofB b6).trans (BtO.ofB b7)).trans (BtO.ofE e8)
  have b68 : BtO (some a) H6 (upd H7 pt (.tup [xh, xc])) := (BtO.ofB b7).trans (BtO.ofE e8)
  have b78 : BtO (some a) H7 (upd H7 pt (.tup [xh, xc])) := BtO.ofE e8
  have b08 := b03.trans b38
  have hg8 : RpO K (some a) goodD (upd H7 pt (.tup [xh, xc])) vg := rpN.m b38 hg3
  have ml8 : Off (some a) (OddQ letBad K) (upd H7 pt (.tup [xh, xc])) xl := Off.bt mOddQ b38 ⟨ld, rl, hlb⟩
  have ms8 := Off.bt mOddQ b48 ms
  have mi8 := Off.bt mOddQ b58 mi
  have mh8 := Off.bt mOddQ b68 mh
  have mc8 := Off.bt mOddQ b78 mc
  generalize (upd H7 pt (.tup [xh, xc])) = H8 at d8 t8 b08 hg8 ml8 ms8 mi8 mh8 mc8
  clear b38 b48 b58 b68 b78 e8
  have al8 := Al.of d8
  refine q_pick (N := OddQ anyD K) mOddQ rfl d8 (ql_lst mA (qa_cons mA (oq h_non rfl) (qa_cons mA (oq (hg (d := .tup bagDs) rfl d8 (lets b08 rfl)) rfl) (qa_cons mA (oq (h_lstV al8 (ev_var rfl)) rfl) (qa_cons mA (oq h_int rfl) (qa_cons mA (oq (h_var rfl hg8) rfl) (qa_cons mA (oq h_str rfl) qa_nil)))))) (by decide)) (by omega) (by omega) fun xo H9 b9 d9 mo => ?_
  have t9 := tabs_bt d8 b9 t8
  have b09 : BtO (some a) H H9 := b08.trans (BtO.ofB b9)
  have ml9 := Off.bt mOddQ (BtO.ofB b9) ml8
  have ms9 := Off.bt mOddQ (BtO.ofB b9) ms8
  have mi9 := Off.bt mOddQ (BtO.ofB b9) mi8
  have mh9 := Off.bt mOddQ (BtO.ofB b9) mh8
  have mc9 := Off.bt mOddQ (BtO.ofB b9) mc8
  have gL : ∀ {G : Hp}, BtO (some a) H9 G → OddQ letBad K G xl := fun e => Off.get mOddQ e ml9
  have gS : ∀ {G : Hp}, BtO (some a) H9 G → OddQ lsBad K G xs4 := fun e => Off.get mOddQ e ms9
  have gO : ∀ {G : Hp}, BtO (some a) H9 G → OddQ anyD K G xo := fun e => Off.get mOddQ e mo
  obtain ⟨di, ri, oi⟩ := mi9
  obtain ⟨dh, rh, oh⟩ := mh9
  obtain ⟨dc, rc, oc⟩ := mc9
  have gI : ∀ {G : Hp}, BtO (some a) H9 G → Rp K G xi di := fun e => Off.get (N := fun H v => Rp K H v di) rpN e ri
  have gH : ∀ {G : Hp}, BtO (some a) H9 G → Rp K G xh dh := fun e => Off.get (N := fun H v => Rp K H v dh) rpN e rh
  have gC : ∀ {G : Hp}, BtO (some a) H9 G → Rp K G xc dc := fun e => Off.get (N := fun H v => Rp K H v dc) rpN e rc
  have gB9 : ∀ {G : Hp}, BtO (some a) H9 G → BagAt K A.Bag G p bagDs := fun e => gB (b09.trans e)
  obtain ⟨i1, i2, i3, i4⟩ := numOk_ok oi
  obtain ⟨h1', h2', h3', h4'⟩ := numOk_ok oh
  obtain ⟨c1', c2', c3', c4'⟩ := numOk_ok oc
  have bl : (bagDs.length : Int) - 1 = 2 := rfl
  have hLet : ∀ {G : Hp} {E : XK}, DiceO (some a) G → Tabs ca.tabs G → (∀ cls dd H2, BtO (some a) G H2 → DiceO (some a) H2 → Tabs ca.tabs H2 → EK30 K A (wordsD "refused" "letter") cls dd H2 → E cls dd H2) → Rai A.EInvalidLetter G E :=
    fun dG tG hE G2 e => hE _ _ G2 (BtO.ofE e) (dG.ex e) (tG.ext e) (.inl ⟨rfl, rfl⟩)
  have hNum : ∀ {G : Hp} {E : XK} {v : V} {d : K0.D}, Rp K G v d → d.repOk = true → d.rep.length ≤ 100 → DiceO (some a) G → Tabs ca.tabs G → (∀ cls dd H2, BtO (some a) G H2 → DiceO (some a) H2 → Tabs ca.tabs H2 → EK30 K A (wordsD "refused" (numW d)) cls dd H2 → E cls dd H2) → RaF A.EInvalidNumber "given" v G E :=
    fun r ok l dG tG hE dd G2 e h2 => hE _ _ G2 (BtO.ofE e) (dG.ex e) (tG.ext e) (.inr (.inr (.inl ⟨rfl, dd, _, _, rfl, h2, r.ex e, ok, by omega, rfl⟩)))
  refine q_told0 (K := K) (fine := fineF) (r := wordsD "refused" "letter") tff (DiceO.of d9) t9 (fun G E b dG tG hE Q _ => ?_) fun l H10 I10 => ?_
  · obtain ⟨d, r, s⟩ := gL b
    obtain ⟨s1, s2, s3⟩ := letBad_ok s
    exact c_call (ea_cons (ev_var rfl) ea_nil) fun G1 e1 => ⟨xl, d, rfl, r.ex e1, by omega, s2, s3, (hLet dG tG hE).ex e1⟩
  refine q_toldA (K := K) (fine := fineF) (r := wordsD "refused" "letter") tff rfl (by decide) rfl rfl I10 (fun G E b dG tG hE Q _ => ?_) fun H11 I11 => ?_
  · obtain ⟨d, r, s⟩ := gL b
    obtain ⟨s1, s2, s3⟩ := letBad_ok s
    exact c_call (ea_cons (ev_var rfl) ea_nil) fun G1 e1 => ⟨xl, d, rfl, r.ex e1, by omega, s2, s3, (hLet dG tG hE).ex e1⟩
  refine q_toldA (K := K) (fine := fineF) (r := wordsD "refused" "letter") tff rfl (by decide) rfl rfl I11 (fun G E b dG tG hE Q _ => ?_) fun H12 I12 => ?_
  · obtain ⟨d, r, s⟩ := gS b
    obtain ⟨s1, s2, s3⟩ := lsBad_ok s
    exact n_bag (ed_ev (ev_var rfl) r) (by omega) s2 (fun _ => hLet dG tG hE) fun ds ed hl => by rw [s3] at hl; cases hl
  refine q_toldA (K := K) (fine := fineF) (r := wordsD "refused" "letter") tff rfl (by decide) rfl rfl I12 (fun G E b dG tG hE Q _ => ?_) fun H13 I13 => ?_
  · obtain ⟨d, r, s⟩ := gS b
    obtain ⟨s1, s2, s3⟩ := lsBad_ok s
    have hb := gB9 b
    obtain ⟨dx, v, hp, _⟩ := id hb
    exact c_meth (ev_var rfl) hp (look_noL (by decide +kernel)) (fun G1 e1 => ea_cons (ev_var rfl) ea_nil) fun G1 e1 => ⟨p, bagDs, xs4, d, rfl, hb.ex e1, by decide, r.ex e1, by omega, s2, fun _ => (hLet dG tG hE).ex e1, fun hl => by rw [s3] at hl; cases hl⟩
  refine q_toldA (K := K) (fine := fineF) (r := wordsD "refused" (numW di)) tff rfl (by decide) rfl rfl I13 (fun G E b dG tG hE Q _ => ?_) fun H14 I14 => ?_
  · have hb := gB9 b
    obtain ⟨dx, v, hp, _⟩ := id hb
    exact c_meth (ev_var rfl) hp (look_noL (by decide +kernel)) (fun G1 e1 => ea_cons (ev_var rfl) ea_nil) fun G1 e1 => ⟨p, bagDs, xi, di, rfl, hb.ex e1, by decide, (gI b).ex e1, (fun z => by rw [bl, i1] at z; cases z), fun _ => (hNum (gI b) i2 i3 dG tG hE).ex e1⟩
  refine q_toldA (K := K) (fine := fineF) (r := wordsD "refused" (numW di)) tff rfl (by simp) rfl rfl I14 (fun G E b dG tG hE Q _ => ?_) fun H15 I15 => ?_
  · have hb := gB9 b
    obtain ⟨dx, v, hp, _⟩ := id hb
    exact c_meth (ev_var rfl) hp (look_noL (by decide +kernel)) (fun G1 e1 => ea_cons (ev_var rfl) ea_nil) fun G1 e1 => ⟨p, bagDs, xi, di, rfl, hb.ex e1, by decide, (gI b).ex e1, (fun z => by rw [bl, i1] at z; cases z), fun _ => (hNum (gI b) i2 i3 dG tG hE).ex e1⟩
  refine q_toldA (K := K) (fine := fineF) (r := wordsD "refused" (numW di)) tff rfl (by simp) rfl rfl I15 (fun G E b dG tG hE Q _ => ?_) fun H16 I16 => ?_
  · have hb := gB9 b
    obtain ⟨dx, v, hp, _⟩ := id hb
    exact c_meth (ev_var rfl) hp (look_noL (by decide +kernel)) (fun G1 e1 => ea_cons (ev_var rfl) ea_nil) fun G1 e1 => ⟨p, bagDs, xi, di, rfl, hb.ex e1, (gI b).ex e1, by rw [bl]; exact i1, (hNum (gI b) i2 i3 dG tG hE).ex e1⟩
  refine q_toldA (K := K) (fine := fineF) (r := wordsD "refused" (numW dh)) tff rfl (by simp) rfl rfl I16 (fun G E b dG tG hE Q _ => ?_) fun H17 I17 => ?_
  · have hb := gB9 b
    obtain ⟨dx, v, hp, _⟩ := id hb
    exact c_meth (ev_var rfl) hp (look_noL (by decide +kernel)) (fun G1 e1 => ea_cons (ev_var rfl) ea_nil) fun G1 e1 => ⟨_, xh, dh, rfl, (gH b).ex e1, h1', (hNum (gH b) h2' h3' dG tG hE).ex e1⟩
  refine q_toldA (K := K) (fine := fineF) (r := wordsD "refused" (numW dc)) tff rfl (by simp) rfl rfl I17 (fun G E b dG tG hE Q _ => ?_) fun H18 I18 => ?_
  · have hb := gB9 b
    obtain ⟨dx, v, hp, _⟩ := id hb
    exact c_meth (ev_var rfl) hp (look_noL (by decide +kernel)) (fun G1 e1 => ea_cons (ev_var rfl) ea_nil) fun G1 e1 => ⟨_, xc, dc, rfl, (gC b).ex e1, c1', (hNum (gC b) c2' c3' dG tG hE).ex e1⟩
  refine q_toldA (K := K) (fine := fineF) (r := wordsD "refused" "operation") tff rfl (by simp) rfl rfl I18 (fun G E b dG tG hE Q _ => ?_) fun H19 I19 => ?_
  · have hb := gB9 b
    obtain ⟨dx, v, hp, _⟩ := id hb
    obtain ⟨d, r, _⟩ := gO b
    exact c_meth (ev_var rfl) hp (look_noL (by decide +kernel)) (fun G1 e1 => ea_cons (ev_var rfl) ea_nil) fun G1 e1 => ⟨_, xo, d, rfl, r.ex e1, fun G2 e2 => hE _ _ G2 (BtO.ofE (e1.trans e2)) (dG.ex (e1.trans e2)) (tG.ext (e1.trans e2)) (.inr (.inl ⟨rfl, rfl⟩))⟩
  refine G.q_asgDL (K := K) (ds := (due30 di dh dc).map K0.D.str) (G.edl_cat (G.edl_cat (G.edl_rep (k := 4) (ed_ev ev_c (.str _)) (by decide)) (G.edl_rep (k := 3) (ed_num (ev_var rfl) (gI I19.bt) i2 i3) (by decide)) (by simp))
    (G.edl_lst (eda_cons (ed_num (ev_var rfl) (gH I19.bt) h2' h3') (eda_cons (ed_num (ev_var rfl) (gC I19.bt) c2' c3') (eda_cons ed_str eda_nil))) (by simp)) (by simp)) fun pd xd H20 hpd e20 h20 r20 => ?_
  have hxd := G.strs_of (ws := due30 di dh dc) r20
  subst hxd
  have I20 := I19.ex e20
  obtain ⟨vs, hl, rl⟩ := I20.lst
  have fin : ∀ d ∈ ((due30 di dh dc).map (wordsD "refused")), K0.D.fine 2 d = true := fun d hd => by
    obtain ⟨z, hz, rfl⟩ := List.mem_map.mp hd
    unfold due30 at hz
    simp only [List.mem_append, List.mem_replicate, List.mem_cons, List.not_mem_nil, or_false] at hz
    rcases hz with (⟨_, rfl⟩ | ⟨_, rfl⟩) | rfl | rfl | rfl
    · decide +kernel
    · exact i4
    · exact h4'
    · exact c4'
    · decide +kernel
  refine s_ret (ev_andV (a := true) (b := true) (ev_is (G.ev_eqDL (n := 2) (es := (due30 di dh dc).map (wordsD "refused")) (ev_var rfl) hl rl (G.edl_listF (ys := due30 di dh dc) (f := V.str) (Pk := fun _ => true) (G := wordsD "refused") (ev_var rfl) (sq_of h20) (by show 10 ≤ 40000; decide) (fun _ => rfl) (fun y H' _ _ => et_yes) (fun y H' _ _ _ => ed_tup (eda_cons (ed_ev ev_c (.str _)) (eda_cons (ed_ev (ev_var rfl) (.str y)) eda_nil)) (by simp))) (fun d hd => fin d hd) fin (by decide)) (congrArg V.bl (eqvAll_self _ rfl))) fun _ =>
    ev_andV (a := true) (b := true) ?_ fun _ => ?_) fun H21 e21 => ?_
  · obtain ⟨d, r, s⟩ := gL I20.bt
    obtain ⟨s1, s2, s3⟩ := letBad_ok s
    exact ev_op (ev_call (ea_cons (ev_var rfl) ea_nil) (sv_letter r (by omega) s2)) ev_c fun G1 e1 Q q => ⟨d.letter, false, rfl, rfl, by
      have := q G1 (Ex.refl _)
      rw [s3]
      exact this⟩
  · obtain ⟨d, r, _⟩ := gO I20.bt
    have hb := gB9 I20.bt
    obtain ⟨dx, v, hp, _⟩ := id hb
    refine ev_op (x := .bl false) (fun G1 e1 Q q => n_op (n_var rfl (n_var rfl ⟨p, dx, _, d, rfl, e1 _ _ hp, r.ex e1, _, xo, d, rfl, r.ex e1, fun G2 e2 => ⟨false, rfl, q G2 e2⟩⟩))) ev_c fun G1 e1 Q q => ⟨false, false, rfl, rfl, q G1 (Ex.refl _)⟩
  · have I21 := I20.ex e21
    exact k H21 (b09.trans I21.bt) I21.dice.get I21.tabs
end
end K0

namespace K0
open PySem L2 Evl LamX
theorem op_repTK {X : Cx} {K : PySem.W.Frag} (h : X.K = K) : OpR X (binaryOp .Mult) (rRepT K) := h ▸ op_repT
theorem op_catAK {X : Cx} {K : PySem.W.Frag} (h : X.K = K) : OpR X (binaryOp .Add) (rCatA K) := h ▸ op_catA
section
variable {K : PySem.W.Frag} {σ : L2.St} {H H' : Hp} {ta tt te : TE} {t : TA} {Q : VK} {d : K0.D}
theorem d_of_h (h : EvH K none te σ H d) : EvD K te σ H d := fun H1 e Q q => h H1 e Q fun v H2 e2 r => q v H2 e2 (by
  have r' : Rp K (hid none H2) v d := r
  rw [hid_none] at r'
  exact r')
theorem h_of_d (h : EvD K te σ H d) : EvH K none te σ H d := fun H1 e Q q => h H1 e Q fun v H2 e2 r => q v H2 e2 (by
  show Rp K (hid none H2) v d
  rw [hid_none]
  exact r)
theorem n_methU {C : Addr} {m : Str} {sp : Sp} {E : XK} (h : ta σ H fun x H1 => ∃ a dx fs, x = .ref a ∧ H1 a = some (.ins C dx fs) ∧ fs.lookup m = none ∧ t σ H1 fun vs H2 => sp (x :: (vs ++ [])) H2 Q E) : tMeth C m sp [] E ta t σ H Q := h
theorem filter_yes {α : Type} : ∀ l : List α, (l.filter fun _ => true) = l
  | [] => rfl
  | a :: l => by rw [List.filter_cons, if_pos rfl, filter_yes l]
theorem edl_tupS {j : Nat} {vs : List Nat} {ws : List Str} {F : Str → K0.D} (h : EvD K tt σ H (.tup (ws.map K0.D.str))) (hz : ws.length ≤ 1000) (hw : ∀ x, wipe ((wipe σ vs).set j (some x)) vs = wipe σ vs) (he : ∀ y H', Ex H H' → EvD K te ((wipe σ vs).set j (some (.str y))) H' (F y)) :
    EvDL K (tLc (iTup K tt) (gName j) tYes te vs) σ H (ws.map F) := fun H0 e Q q => h H0 e _ fun v H1 e1 hv => by
  obtain ⟨a, xs, rfl, ha, hr⟩ := hv.tupI
  have hxs := G.strs_of hr
  subst hxs
  have wk := walk_tup (K := K) (a := a) (xs := ws.map V.str)
  rw [List.length_map] at wk
  refine ⟨a, rfl, ⟨_, ha⟩, G.lc_dataF (ys := ws) (f := V.str) (Pk := fun _ => true) (G := F) wk (fun H' e' => ex_t e' ha) (by omega) hw (fun y H' _ _ => et_yes) (fun y H' _ _ e' => he y H' ((e.trans e1).trans e')) fun p xs H2 hp e2 h2 r => ?_⟩
  rw [filter_yes] at r
  exact q p xs H2 (fresh_back e1 hp) (e1.trans e2) h2 r
theorem hid_new {p : Addr} (hp : H p = none) (e : Ex H H') : Ex H (hid (some p) H') := fun b u hb => hid_at (e _ _ hb) (ne_of_none hb hp)
theorem BagAt.off {C p d : Addr} {ds : List K0.D} (h : BagAt K C H p ds) (hd : H d = none) (e : Ex H H') : Off (some d) (BagN K C ds) H' (.ref p) := ⟨p, rfl, h.ex (hid_new hd e)⟩
end
section
variable {P : Program} {w : World} {K : PySem.W.Frag} {mg : Str → Option Value} {base : Heap} {A : Ad} {D : Fd} {ca : Ca}
theorem mk0 {σ : L2.St} {H : Hp} {tr : TA} {Q : VK} {E : XK} (h : tMake A.Bag (sp_Bag_initX K A) [] (fun _ _ _ => False) tr σ H Q) : tMake A.Bag (sp_Bag_init0 K A) [] E tr σ H Q := by
  unfold tMake at *
  exact h
theorem goodD_ev {σ : L2.St} {H : Hp} : EvD K (tTup (tCons (tC (.str "ask")) (tCons (tC (.int 0)) (tCons (tC (.int 1)) (tCons (tC (.int 2)) (tCons (tC (.int 4)) (tCons (tC (.int 0)) tNil))))))) σ H goodD := ed_tup (eda_cons ed_str (eda_cons ed_int (eda_cons ed_int (eda_cons ed_int (eda_cons ed_int (eda_cons ed_int eda_nil)))))) (by decide)
def manyD (n : Nat) : K0.D := .tup (List.replicate n goodD)
theorem manyD_size {n : Nat} (h : n ≤ 500) : (manyD n).size ≤ 20000 := by
  unfold manyD
  simp only [K0.D.size]
  rw [rep_sizeL, show goodD.size = 7 from by decide]
  omega
theorem manyD_ok (n : Nat) : (manyD n).lsOk = true := by
  show (List.replicate n goodD).all K0.D.lOk = true
  rw [List.all_replicate]
  simp [goodD_lOk]
theorem manyD_let (n : Nat) : (manyD n).letters = true := by
  show (List.replicate n goodD).all K0.D.letter = true
  rw [List.all_replicate]
  simp [goodD_letter]
theorem many_ev {σ : L2.St} {H : Hp} {v : V} {i n : Nat} (h : σ[i]? = some (some v)) (r : Rp K H v goodD) (n2 : 2 ≤ n) (nh : n ≤ 1000) : EvD K (tOp (rRepT K) (tTup (tCons (tVar i) tNil)) (tC (.int (n : Int)))) σ H (manyD n) :=
  d_of_h (h_rep Al.none (h_of_d (ed_tup (ds := [goodD]) (eda_cons (ed_ev (ev_var h) r) eda_nil) (by simp))) n2 nh)
def bagW : List Str := ["many 400", "fine", "fine", "number 0", "letter", "fine"]
def sp_law (K : PySem.W.Frag) (ca : Ca) : Sp := fun vs H Q _ => ∃ (a : Addr) (ns : List Int), vs = [.ref a] ∧ SqL K H a (ns.map V.int) ∧ ns.length ≤ 63 ∧ Tabs ca.tabs H ∧ ∀ H', Q (.bl true) H'
theorem ok_law (T : Txt K mg A D) (U : Tab K w mg A) (HL : LamH base mg D ca) : FnG P w K mg base CX0 56 A.law D.law ["script"] (sp_law K ca) := by
  have G_law_dice : FnOk P w K mg base CX0 1 A.law_dice D.law_dice ["script", "spot"] (sp_law_dice K) := ok_law_dice T
  have G_law_right := ok_law_right (P := P) (w := w) (base := base) T U HL
  have G_Bag_init := ok_Bag_initX (P := P) (w := w) (base := base) T U
  have G_Bag_init0 := ok_Bag_init0 (P := P) (w := w) (base := base) T U
  have G_Bag_sent := ok_Bag_sentX (P := P) (w := w) (base := base) T U
  have G_Bag_taken := ok_Bag_takenX (P := P) (w := w) (base := base) T U
  obtain ⟨ds_Bag_init, dv_Bag_init, db_Bag_init⟩ := T.d_Bag_init
  refine okG T.F_law sc_law (fun vs H Q E h => by obtain ⟨a, ns, rfl, _⟩ := h; rfl) (fun cdv A0 outer s H vs Q E hcdv gd hr h => ?_)
  obtain rfl : cdv = .ref ca.c1 := hcdv.symm.trans HL.c_law
  refine ⟨_, PSs.nox (pss_cons (ps_set (i := 1) sc_law.nd rfl (Or.inr rfl) (pe_tup (pa_cons pe_str (pa_cons pe_int (pa_cons pe_int (pa_cons pe_int (pa_cons pe_int (pa_cons pe_int pa_nil))))))))
  (pss_cons (ps_set (i := 2) sc_law.nd rfl (Or.inr rfl) (pe_make T.mk_Bag G_Bag_init0 (hr.mono (by decide)) (by rfl) T.g_Bag T.b_Bag_init .nil pass0 (pa_cons (pe_tup (pa_cons (pv 1) (pa_cons (pe_tup (pa_cons pe_str (pa_cons pe_int (pa_cons pe_int (pa_cons pe_int pa_nil))))) (pa_cons (pe_tup (pa_cons pe_str (pa_cons pe_int (pa_cons pe_int (pa_cons pe_int (pa_cons (pe_tup (pa_cons pe_str (pa_cons pe_str pa_nil))) pa_nil)))))) pa_nil)))) pa_nil)))
  (pss_cons (ps_for PassesOwn.never rfl (pi_range1 rfl T.b_range (pa_cons (pe_callB (call_max2 rfl) (by rfl) T.b_max (by decide +kernel) (pa_cons pe_int (pa_cons (pe_callB (call_min2 rfl) (by rfl) T.b_min (by decide +kernel) (pa_cons pe_int (pa_cons (pe_callB call_len (by rfl) T.b_len (by decide +kernel) (pa_cons (pv 0) pa_nil)) pa_nil))) pa_nil))) pa_nil)) (pg_name (i := 3) sc_law.nd rfl (Or.inl rfl)) (pss_cons (ps_set (i := 4) sc_law.nd rfl (Or.inl rfl) (pe_call G_law_dice (hr.mono (by decide)) rfl T.g_law_dice T.F_law_dice.kp T.b_law_dice .nil pass0 (pa_cons (pv 0) (pa_cons (pv 3) pa_nil))))
  (pss_one (ps_if (PW.pt (pw_or (pt_not (pt_val (pe_callG G_law_right gd (hr.mono (by decide)) rfl T.g_law_right T.F_law_right.kp T.b_law_right pass0 (pa_cons (pv 4) (pa_cons (pv 2) pa_nil))))) (pw_or1 (pt_not (pt_val (pe_callG G_law_right gd (hr.mono (by decide)) rfl T.g_law_right T.F_law_right.kp T.b_law_right pass0 (pa_cons (pv 4) (pa_cons (pv 2) pa_nil)))))))) (pss_one (ps_ret pe_bl)) pss_nil))))
  (pss_cons (ps_set (i := 5) sc_law.nd rfl (Or.inl rfl) (pe_lst (pa_cons (pe_lmG (TT := ca.tabs) (k := 46) T.g_law_met T.F_law_met T.b_law_met sc_law_met rfl (Or.inl rfl) (met_gives T gd hr) HL.t_law rfl HL.m_law HL.u_law (hr.mono (by decide)) (show LamX.lamSB (defScope s_law) _ = true by decide +kernel) rfl rfl (fun _ _ _ _ _ => rfl) (fun A1 o1 s1 H1 E1 f1 c1 hr => (pe_make T.mk_Bag G_Bag_init (hr.mono (by decide)) (by rfl) T.g_Bag T.b_Bag_init .nil (passes_call (takes_of rfl rfl rfl rfl) (fun _ _ _ _ z => z)) (pa_cons (pe_op (op_repTK (K := K) (by rfl)) (pe_tup (pa_cons (pv 1) pa_nil)) pe_int) pa_nil)))) pa_nil)))
  (pss_cons (ps_expr (pe_bm PySem.F.plainAttrs_list PySem.F.slot_list_append PySem.F.type_list_append mt_append (pv 5) (pa_cons (pe_lmG (TT := ca.tabs) (k := 46) T.g_law_met T.F_law_met T.b_law_met sc_law_met rfl (Or.inl rfl) (met_gives T gd hr) HL.t_law rfl HL.m_law HL.u_law (hr.mono (by decide)) (show LamX.lamSB (defScope s_law) _ = true by decide +kernel) rfl rfl (fun _ _ _ _ _ => rfl) (fun A1 o1 s1 H1 E1 f1 c1 hr => (pe_make T.mk_Bag G_Bag_init (hr.mono (by decide)) (by rfl) T.g_Bag T.b_Bag_init .nil (passes_call (takes_of rfl rfl rfl rfl) (fun _ _ _ _ z => z)) (pa_cons (pe_op (op_repTK (K := K) (by rfl)) (pe_tup (pa_cons (pv 1) pa_nil)) pe_int) pa_nil)))) pa_nil)))
  (pss_cons (ps_expr (pe_bm PySem.F.plainAttrs_list PySem.F.slot_list_append PySem.F.type_list_append mt_append (pv 5) (pa_cons (pe_lmG (TT := ca.tabs) (k := 46) T.g_law_met T.F_law_met T.b_law_met sc_law_met rfl (Or.inl rfl) (met_gives T gd hr) HL.t_law rfl HL.m_law HL.u_law (hr.mono (by decide)) (show LamX.lamSB (defScope s_law) _ = true by decide +kernel) rfl rfl (fun _ _ _ _ _ => rfl) (fun A1 o1 s1 H1 E1 f1 c1 hr => (pe_meth (pe_make T.mk_Bag G_Bag_init (hr.mono (by decide)) (by rfl) T.g_Bag T.b_Bag_init .nil (passes_call (takes_of rfl rfl rfl rfl) (fun _ _ _ _ z => z)) (pa_cons (pe_op (op_repTK (K := K) (by rfl)) (pe_tup (pa_cons (pv 1) pa_nil)) pe_int) pa_nil)) T.cl_Bag T.m_Bag_sent G_Bag_sent (hr.mono (by decide)) T.b_Bag_sent .nil (passes_call (takes_of rfl rfl rfl rfl) (fun _ _ _ _ z => z)) (pa_cons (pe_op (op_repTK (K := K) (by rfl)) (pe_tup (pa_cons (pv 1) pa_nil)) pe_int) pa_nil)))) pa_nil)))
  (pss_cons (ps_expr (pe_bm PySem.F.plainAttrs_list PySem.F.slot_list_append PySem.F.type_list_append mt_append (pv 5) (pa_cons (pe_lmG (TT := ca.tabs) (k := 46) T.g_law_met T.F_law_met T.b_law_met sc_law_met rfl (Or.inl rfl) (met_gives T gd hr) HL.t_law rfl HL.m_law HL.u_law (hr.mono (by decide)) (show LamX.lamSB (defScope s_law) _ = true by decide +kernel) rfl rfl (fun _ _ _ _ _ => rfl) (fun A1 o1 s1 H1 E1 f1 c1 hr => (pe_meth (pe_make0 T.mk_Bag G_Bag_init (hr.mono (by decide)) (by rfl) T.g_Bag db_Bag_init dv_Bag_init (passes_call (takes_of rfl rfl rfl rfl) (fun _ _ _ _ z => z))) T.cl_Bag T.m_Bag_taken G_Bag_taken (hr.mono (by decide)) T.b_Bag_taken .nil (passes_call (takes_of rfl rfl rfl rfl) (fun _ _ _ _ z => z)) (pa_cons pe_int pa_nil)))) pa_nil)))
  (pss_cons (ps_expr (pe_bm PySem.F.plainAttrs_list PySem.F.slot_list_append PySem.F.type_list_append mt_append (pv 5) (pa_cons (pe_lmG (TT := ca.tabs) (k := 46) T.g_law_met T.F_law_met T.b_law_met sc_law_met rfl (Or.inl rfl) (met_gives T gd hr) HL.t_law rfl HL.m_law HL.u_law (hr.mono (by decide)) (show LamX.lamSB (defScope s_law) _ = true by decide +kernel) rfl rfl (fun _ _ _ _ _ => rfl) (fun A1 o1 s1 H1 E1 f1 c1 hr => (pe_make T.mk_Bag G_Bag_init (hr.mono (by decide)) (by rfl) T.g_Bag T.b_Bag_init .nil (passes_call (takes_of rfl rfl rfl rfl) (fun _ _ _ _ z => z)) (pa_cons (pe_op (op_catAK (K := K) (by rfl)) (pe_op (op_repTK (K := K) (by rfl)) (pe_tup (pa_cons (pv 1) pa_nil)) pe_int) (pe_tup (pa_cons pe_non pa_nil))) pa_nil)))) pa_nil)))
  (pss_cons (ps_expr (pe_bm PySem.F.plainAttrs_list PySem.F.slot_list_append PySem.F.type_list_append mt_append (pv 5) (pa_cons (pe_lmG (TT := ca.tabs) (k := 46) T.g_law_met T.F_law_met T.b_law_met sc_law_met rfl (Or.inl rfl) (met_gives T gd hr) HL.t_law rfl HL.m_law HL.u_law (hr.mono (by decide)) (show LamX.lamSB (defScope s_law) _ = true by decide +kernel) rfl rfl (fun _ _ _ _ _ => rfl) (fun A1 o1 s1 H1 E1 f1 c1 hr => (pe_meth (pv 2) T.cl_Bag T.m_Bag_taken G_Bag_taken (hr.mono (by decide)) T.b_Bag_taken .nil (passes_call (takes_of rfl rfl rfl rfl) (fun _ _ _ _ z => z)) (pa_cons pe_int pa_nil)))) pa_nil)))
  (pss_one (ps_ret (pe_cmpR (op_eqD hr.units) (pv 5) (pe_lc (own := [("word", 6)]) (g := gName 6) (tt := tYes) rfl sc_law.nd (pi_tup (pe_tup (pa_cons pe_str (pa_cons pe_str (pa_cons pe_str (pa_cons pe_str (pa_cons pe_str (pa_cons pe_str pa_nil)))))))) (blkOk_by (own := [("word", 6)]) (N := N_law) (sc := defScope s_law) (by decide +kernel)) (fun _ _ _ _ _ => by exact pg_name (i := 6) sc_law.nd rfl (Or.inl rfl)) (fun _ _ _ _ _ => by exact pts_nil) (fun _ _ _ _ _ => by exact (pe_tup (pa_cons pe_str (pa_cons (pv 6) pa_nil))))) (nomark _))))))))))))), ?_⟩
  obtain ⟨a, ns, rfl, hS, hlen, ht, k⟩ := h
  have hz : (ns.map V.int).length = ns.length := List.length_map ..
  refine q_asgX (goodD_ev (K := K) H (Ex.refl _) _ fun vg H1 e1 rg => ?_)
  refine q_asgX (mk0 (n_bag (E := fun _ _ _ => False) (d := .tup bagDs) (ed_tup (ds := bagDs) (eda_cons (ed_ev (ev_var rfl) rg) (eda_cons (ed_tup (eda_cons ed_str (eda_cons ed_int (eda_cons ed_int (eda_cons ed_int eda_nil)))) (by simp)) (eda_cons (ed_tup (eda_cons ed_str (eda_cons ed_int (eda_cons ed_int (eda_cons ed_int (eda_cons (ed_tup (eda_cons ed_str (eda_cons ed_str eda_nil)) (by simp)) eda_nil))))) (by simp)) eda_nil))) (by decide)) (by decide +kernel) (by decide +kernel) (fun z => by rw [show (K0.D.tup bagDs).letters = true from by decide +kernel] at z; cases z) fun ds ed _ => ?_))
  obtain rfl : bagDs = ds := K0.D.tup.inj ed
  refine ⟨fun z => absurd z (by decide), fun _ p H2 hp e2 hb => ?_⟩
  have e02 := e1.trans e2
  refine q_forR1 (n := if (if ((ns.map V.int).length : Int) < 4 then ((ns.map V.int).length : Int) else 4) > 1 then (if ((ns.map V.int).length : Int) < 4 then ((ns.map V.int).length : Int) else 4) else 1) (ea_cons (ev_cb (ea_cons ev_c (ea_cons (ev_cb (ea_cons ev_c (ea_cons (ev_cb (ea_cons (ev_var rfl) ea_nil) (rc_lenL (ex_l e02 hS))) ea_nil)) rc_min2) ea_nil)) rc_max2) ea_nil)
    (by split <;> split <;> omega) (fun i σ' H' => ∃ v3 v4, σ' = [some (.ref a), some vg, some (.ref p), v3, v4, none, none] ∧ SqL K H' a (ns.map V.int) ∧ Rp K H' vg goodD ∧ BagAt K A.Bag H' p bagDs ∧ Tabs ca.tabs H') (fun H3 e3 => ⟨none, none, rfl, ex_l (e02.trans e3) hS, rg.ex (e2.trans e3), hb.ex e3, ht.ext (e02.trans e3)⟩) (fun i σ' H' hi g => ?_) (fun σ' H' g => ?_)
  · obtain ⟨v3, v4, rfl, hS', rg', hb', t1⟩ := g
    refine q_asgC (ea_cons (ev_var rfl) (ea_cons (ev_var rfl) ea_nil)) fun H3 e3 => ⟨a, ns, i, rfl, ex_l e3 hS', fun d H4 hd e4 dd => ?_⟩
    have t4 : Tabs ca.tabs H4 := t1.ext (e3.trans e4)
    have ob := (hb'.ex e3).off hd e4
    have og : Off (some d) (fun H v => Rp K H v goodD) H4 vg := (rg'.ex e3).ex (hid_new hd e4)
    refine n_ifS (n_or (n_not (n_B (c_call (ea_cons (ev_var rfl) (ea_cons (ev_var rfl) ea_nil)) fun H5 e5 => ⟨d, p, rfl, dd.ex e5, Off.bt mBag (BtO.ofE e5) ob, t4.ext e5, fun H6 b6 d6 t6 => ⟨true, rfl, ?_⟩⟩))))
    rw [if_neg (by decide)]
    have b46 : BtO (some d) H4 H6 := (BtO.ofE e5).trans b6
    refine n_not (n_B (c_call (ea_cons (ev_var rfl) (ea_cons (ev_var rfl) ea_nil)) fun H7 e7 => ⟨d, p, rfl, d6.ex e7, Off.bt mBag (b46.trans (BtO.ofE e7)) ob, t6.ext e7, fun H8 b8 d8 t8 => ⟨true, rfl, ?_⟩⟩))
    rw [if_neg (by decide)]
    have b48 : BtO (some d) H4 H8 := (b46.trans (BtO.ofE e7)).trans b8
    obtain ⟨p', r', hb8⟩ := Off.get mBag b48 ob
    cases r'
    exact n_next ⟨_, _, rfl, sq_btO hd (ex_l e3 hS') e4 b48, Off.get rpN b48 og, hb8, t8⟩
  · obtain ⟨v3, v4, rfl, hS', rg', hb', t1⟩ := g
    have gG : ∀ {G : Hp}, BtO none H' G → Rp K G vg goodD := fun {G} e => by
      have og : Off none (fun H v => Rp K H v goodD) H' vg := by show Rp K (hid none H') vg goodD; rw [hid_none]; exact rg'
      exact Off.get rpN e og
    have gB : ∀ {G : Hp}, BtO none H' G → BagAt K A.Bag G p bagDs := fun {G} e => by
      have ob : Off none (BagN K A.Bag bagDs) H' (.ref p) := ⟨p, rfl, by rw [hid_none]; exact hb'⟩
      obtain ⟨p', r', h⟩ := Off.get mBag e ob
      cases r'
      exact h
    have w400 : wordsD "refused" "many 400" = wordsD "refused" (manyW (.int 400)) := congrArg (fun z => wordsD "refused" z) (show ("many 400" : Str) = manyW (.int 400) from by decide +kernel)
    have w0 : wordsD "refused" "number 0" = wordsD "refused" (numW (.int 0)) := congrArg (fun z => wordsD "refused" z) (show ("number 0" : Str) = numW (.int 0) from by decide +kernel)
    refine q_told0 (K := K) (fine := fineF) (r := wordsD "refused" "many 400") tff DiceO.none t1 (fun G E b dG tG hE Q _ => ?_) fun l H3 I3 => ?_
    · refine n_bag (many_ev rfl (gG b) (n := 401) (by decide) (by decide)) (manyD_size (by decide)) (manyD_ok _) (fun z => by rw [manyD_let] at z; cases z) fun ds ed _ => ?_
      obtain rfl : List.replicate 401 goodD = ds := K0.D.tup.inj ed
      exact ⟨fun _ dd G2 e h2 => hE _ _ G2 (BtO.ofE e) DiceO.none (tG.ext e) (.inr (.inr (.inr ⟨rfl, dd, _, .int 400, rfl, h2, .int _, by decide +kernel, by decide +kernel, w400⟩))), fun z => by rw [List.length_replicate] at z; exact absurd z (by decide)⟩
    refine q_toldA (K := K) (fine := fineF) (r := fineF) tff rfl (by decide) rfl rfl I3 (fun G E b dG tG hE Q hQ => ?_) fun H4 I4 => ?_
    · refine n_bag (many_ev rfl (gG b) (n := 400) (by decide) (by decide)) (manyD_size (by decide)) (manyD_ok _) (fun z => by rw [manyD_let] at z; cases z) fun ds ed _ => ?_
      obtain rfl : List.replicate 400 goodD = ds := K0.D.tup.inj ed
      exact ⟨fun z => by rw [List.length_replicate] at z; exact absurd z (by decide), fun _ p2 G2 _ e _ => hQ _ G2 (BtO.ofE e) DiceO.none (tG.ext e) rfl⟩
    refine q_toldA (K := K) (fine := fineF) (r := fineF) tff rfl (by decide) rfl rfl I4 (fun G E b dG tG hE Q hQ => ?_) fun H5 I5 => ?_
    · refine n_methU (n_bag (many_ev rfl (gG b) (n := 400) (by decide) (by decide)) (manyD_size (by decide)) (manyD_ok _) (fun z => by rw [manyD_let] at z; cases z) fun ds ed _ => ?_)
      obtain rfl : List.replicate 400 goodD = ds := K0.D.tup.inj ed
      refine ⟨fun z => by rw [List.length_replicate] at z; exact absurd z (by decide), fun _ p2 G2 _ e hb2 => ?_⟩
      obtain ⟨dx, v, hp2, _⟩ := id hb2
      refine ⟨p2, dx, _, rfl, hp2, look_noL (by decide +kernel), n_cons ((many_ev rfl ((gG b).ex e) (n := 401) (by decide) (by decide)) G2 (Ex.refl _) _ fun u G3 e3 ru => n_nil ?_)⟩
      exact ⟨p2, _, u, _, rfl, hb2.ex e3, by rw [List.length_replicate]; decide, ru, manyD_size (by decide), manyD_ok _, (fun z => by rw [manyD_let] at z; cases z), fun _ v2 G4 e4 => hQ _ G4 (BtO.ofE ((e.trans e3).trans e4)) DiceO.none (tG.ext ((e.trans e3).trans e4)) rfl⟩
    refine q_toldA (K := K) (fine := fineF) (r := wordsD "refused" "number 0") tff rfl (by decide) rfl rfl I5 (fun G E b dG tG hE Q _ => ?_) fun H6 I6 => ?_
    · refine n_methU (n_nil fun p2 dx hp2 hdx hne => ?_)
      have e2 : Ex G (upd (upd G dx (.own p2)) p2 (.ins A.Bag dx [])) := fun c o hc => by
        rw [upd_ne (ne_of_none hc hp2), upd_ne (ne_of_none hc hdx)]
        exact hc
      refine sp_bag0 T upd_same (fun G3 e3 h3 => ⟨rfl, ?_⟩) _
      have e13 : Ex G G3 := fun c o hc => e3 _ _ (e2 _ _ hc) (ne_of_none hc hp2)
      refine ⟨p2, dx, _, rfl, h3, look_noL (by decide +kernel), n_cons (ev_c G3 (Ex.refl _) _ fun G4 e4 => n_nil ?_)⟩
      exact ⟨p2, [], .int 0, .int 0, rfl, ⟨dx, _, e4 _ _ h3, .tup (T.v_Bag_init _) .nil⟩, by decide, .int 0, (fun z => by cases z), fun _ dd G5 e5 h5 => hE _ _ G5 (BtO.ofE ((e13.trans e4).trans e5)) DiceO.none (tG.ext ((e13.trans e4).trans e5)) (.inr (.inr (.inl ⟨rfl, dd, _, .int 0, rfl, h5, .int _, by decide +kernel, by decide +kernel, w0⟩)))⟩
    refine q_toldA (K := K) (fine := fineF) (r := wordsD "refused" "letter") tff rfl (by decide) rfl rfl I6 (fun G E b dG tG hE Q _ => ?_) fun H7 I7 => ?_
    · obtain ⟨s1, s2, s3⟩ := lsBad_ok (lsBad_cat (n := 401) (d := .non) (by decide) (by decide +kernel))
      exact n_bag (d := .tup (List.replicate 401 goodD ++ [.non])) (ed_cat (ds := List.replicate 401 goodD) (es := [.non]) (many_ev rfl (gG b) (n := 401) (by decide) (by decide)) (ed_tup (eda_cons ed_non eda_nil) (by simp)) (by rw [List.length_replicate]; show 401 + 1 ≤ 100000; decide)) (by omega) s2
        (fun _ G2 e => hE _ _ G2 (BtO.ofE e) DiceO.none (tG.ext e) (.inl ⟨rfl, rfl⟩)) fun ds ed hl => by rw [s3] at hl; cases hl
    refine q_toldA (K := K) (fine := fineF) (r := fineF) tff rfl (by decide) rfl rfl I7 (fun G E b dG tG hE Q hQ => ?_) fun H8 I8 => ?_
    · have hb9 := gB b
      obtain ⟨dx, v, hp9, _⟩ := id hb9
      exact c_meth (ev_var rfl) hp9 (look_noL (by decide +kernel)) (fun G1 e1 => ea_cons ev_c ea_nil) fun G1 e1 => ⟨p, bagDs, .int 2, .int 2, rfl, hb9.ex e1, by decide, .int 2, fun _ v2 G2 e2 => hQ _ G2 (BtO.ofE (e1.trans e2)) DiceO.none (tG.ext (e1.trans e2)) rfl, fun z => by rw [show (K0.D.int 2).within 0 ((bagDs.length : Int) - 1) = true from by decide +kernel] at z; cases z⟩
    obtain ⟨vs, hl, rl⟩ := I8.lst
    refine s_ret (ev_is (G.ev_eqDL (n := 2) (es := bagW.map (wordsD "refused")) (ev_var rfl) hl rl (edl_tupS (ws := bagW) (F := wordsD "refused") (ed_tup (eda_cons ed_str (eda_cons ed_str (eda_cons ed_str (eda_cons ed_str (eda_cons ed_str (eda_cons ed_str eda_nil)))))) (by decide)) (by decide) (fun _ => rfl) fun y H' _ => ed_tup (eda_cons ed_str (eda_cons (ed_ev (ev_var rfl) (.str y)) eda_nil)) (by simp)) ?_ ?_ (by decide)) (congrArg V.bl (eqvAll_self _ rfl))) fun H9 e9 => k H9
    · exact fun d hd => (List.all_eq_true (p := fun d => K0.D.fine 2 d)).mp (by decide +kernel) d hd
    · exact fun d hd => (List.all_eq_true (p := fun d => K0.D.fine 2 d)).mp (by decide +kernel) d hd
end
end K0

namespace K0
open PySem PySem.Spec PyProof.Rows L2 Evl
/-! ### tables of defs, as they lie at the top -/
abbrev Tr := Str × Int × Tok × Addr
def entD (r : Tr) : DictEntry := ⟨r.2.1, .str r.1 r.2.2.1, .ref r.2.2.2⟩
def okH (p : Params) : List Tr → Prop
  | [] => True
  | r :: rs => r.2.1 = PyData.keyHash p r.1 ∧ okH p rs
theorem lit_mk {p : Params} : ∀ rows : List Tr, okH p rows → PySem.W.KeysLit p (rows.map entD)
  | [], _ => by rw [List.map_nil, PySem.W.KeysLit.eq_1]; trivial
  | r :: rs, h => by
    rw [List.map_cons, PySem.W.KeysLit.eq_2]
    exact ⟨⟨r.1, r.2.2.1, rfl, h.1⟩, lit_mk rs h.2⟩
theorem find_mk (z : Str) : ∀ rows : List Tr, (rows.map entD).find? (fun x => x.key.isStr z) = (rows.find? fun r => r.1 == z).map entD
  | [] => rfl
  | r :: rs => by
    rw [List.map_cons, List.find?_cons, List.find?_cons]
    show (match (r.1 == z) with | true => _ | false => _) = _
    cases r.1 == z with
    | true => rfl
    | false => exact find_mk z rs
theorem look_mk (z : Str) : ∀ rows : List Tr, (rows.find? fun r => r.1 == z).map (fun r => r.2.2.2) = (rows.map fun r => (r.1, r.2.2.2)).lookup z
  | [] => rfl
  | r :: rs => by
    rw [List.map_cons, List.find?_cons, List.lookup_cons]
    have e : (r.1 == z) = (z == r.1) := BEq.comm
    rw [e]
    cases z == r.1 with
    | true => rfl
    | false => exact look_mk z rs
theorem any_mk : ∀ rows : List Tr, (rows.map entD).any (fun x => x.refKey) = false
  | [] => rfl
  | r :: rs => by
    rw [List.map_cons, List.any_cons, any_mk rs]
    rfl
theorem tab_mk {K : PySem.W.Frag} {w : World} {d : Addr} {n : Nat} {rows : List Tr} (at_ : List.lookup d K = some { cls := Value.type "dict", data := Data.dict (List.toArray (rows.map entD)) n }) (hl : okH w.params rows) (low : (d == sysModules) = false) :
    TabF K w d (rows.map fun r => (r.1, r.2.2.2)) := by
  refine ⟨_, n, ⟨at_, by rw [List.toList_toArray]; exact lit_mk rows hl, low⟩, fun z => ?_⟩
  unfold PySem.W.nsIn
  rw [at_]
  show (match (List.toArray (rows.map entD)).toList.find? (fun x => x.key.isStr z) with | some e => _ | none => _) = _
  rw [List.toList_toArray, find_mk, ← look_mk]
  cases rows.find? fun r => r.1 == z with
  | some r => rfl
  | none =>
    show (if ((rows.map entD).any fun x => x.refKey) = true then none else some none) = _
    rw [any_mk]
    rfl
end K0

namespace K0
open PySem L2 Evl
theorem all_mk {l : PySem.W.OpenLaw} {w : World} {K : PySem.W.Frag} {h : Heap} {mg : Str → Option Value} {fa CBag f0 f1 f2 f3 f4 f5 f6 f7 f8 f9 f10 f11 f12 f13 f14 f15 f16 f17 f18 f19 f20 f21 f22 f23 f24 f25 f26 f27 f28 f29 f30 f31 f32 f33 f34 f35 f36 f37 f38 f39 f40 f41 f42 f43 f44 f45 f46 f47 f48 f49 f50 f51 f52 f53 f54 f55 f56 f57 f58 f59 f60 f61 f62 f63 f64 EInvalidDeed EInvalidState EInvalidLetter EInvalidOperation EInvalidNumber ETooMany et44 : Addr} (X : K.In h) (G : h.Ns mainGlobals mg) (hfa : mg "law" = some (.ref fa))
    {od0 an0 od1 an1 od2 an2 od3 an3 od4 an4 od5 an5 od6 an6 od7 an7 od8 an8 od9 an9 od10 an10 od11 an11 dr11 od12 an12 od13 an13 od14 an14 od15 an15 od16 an16 od17 an17 od18 an18 od19 an19 od20 an20 od21 an21 od22 an22 od23 an23 od24 an24 od25 an25 od26 an26 od27 an27 od28 an28 od29 an29 od30 an30 od31 an31 od32 an32 od33 an33 od34 an34 od35 an35 od36 an36 od37 an37 od38 an38 od39 an39 od40 an40 od41 an41 od42 an42 od43 an43 od44 an44 dr44 eo44 od45 an45 od46 an46 od47 an47 od48 an48 od49 an49 od50 an50 od51 an51 od52 an52 od53 an53 od54 an54 od55 an55 od56 an56 od57 an57 od58 an58 od59 an59 od60 an60 od61 an61 od62 an62 od63 an63 od64 an64 xd0 xd1 xd2 xd3 : Option Addr}
    {sl0 sl1 sl2 sl3 sl4 sl5 sl6 sl7 sl8 sl9 sl10 sl11 dl11 sl12 sl13 sl14 sl15 sl16 sl17 sl18 sl19 sl20 sl21 sl22 sl23 sl24 sl25 sl26 sl27 sl28 sl29 sl30 sl31 sl32 sl33 sl34 sl35 sl36 sl37 sl38 sl39 sl40 sl41 sl42 sl43 sl44 dl44 es44 sl45 sl46 sl47 sl48 sl49 sl50 sl51 sl52 sl53 sl54 sl55 sl56 sl57 sl58 sl59 sl60 sl61 sl62 sl63 sl64 xs0 xs1 xs2 xs3 : Array (Option Value)}
    {oc0 kV0 dc0 pm0 cd0 ct0 oc1 kV1 dc1 pm1 cd1 ct1 oc2 kV2 dc2 pm2 cd2 ct2 oc3 kV3 dc3 pm3 cd3 ct3 oc4 kV4 dc4 pm4 cd4 ct4 oc5 kV5 dc5 pm5 cd5 ct5 oc6 kV6 dc6 pm6 cd6 ct6 oc7 kV7 dc7 pm7 cd7 ct7 oc8 kV8 dc8 pm8 cd8 ct8 oc9 kV9 dc9 pm9 cd9 ct9 oc10 kV10 dc10 pm10 cd10 ct10 oc11 kV11 dc11 pm11 cd11 ct11 dq11 oc12 kV12 dc12 pm12 cd12 ct12 oc13 kV13 dc13 pm13 cd13 ct13 oc14 kV14 dc14 pm14 cd14 ct14 oc15 kV15 dc15 pm15 cd15 ct15 oc16 kV16 dc16 pm16 cd16 ct16 oc17 kV17 dc17 pm17 cd17 ct17 oc18 kV18 dc18 pm18 cd18 ct18 oc19 kV19 dc19 pm19 cd19 ct19 oc20 kV20 dc20 pm20 cd20 ct20 oc21 kV21 dc21 pm21 cd21 ct21 oc22 kV22 dc22 pm22 cd22 ct22 oc23 kV23 dc23 pm23 cd23 ct23 oc24 kV24 dc24 pm24 cd24 ct24 oc25 kV25 dc25 pm25 cd25 ct25 oc26 kV26 dc26 pm26 cd26 ct26 oc27 kV27 dc27 pm27 cd27 ct27 oc28 kV28 dc28 pm28 cd28 ct28 oc29 kV29 dc29 pm29 cd29 ct29 oc30 kV30 dc30 pm30 cd30 ct30 oc31 kV31 dc31 pm31 cd31 ct31 oc32 kV32 dc32 pm32 cd32 ct32 oc33 kV33 dc33 pm33 cd33 ct33 oc34 kV34 dc34 pm34 cd34 ct34 oc35 kV35 dc35 pm35 cd35 ct35 oc36 kV36 dc36 pm36 cd36 ct36 oc37 kV37 dc37 pm37 cd37 ct37 oc38 kV38 dc38 pm38 cd38 ct38 oc39 kV39 dc39 pm39 cd39 ct39 oc40 kV40 dc40 pm40 cd40 ct40 oc41 kV41 dc41 pm41 cd41 ct41 oc42 kV42 dc42 pm42 cd42 ct42 oc43 kV43 dc43 pm43 cd43 ct43 oc44 kV44 dc44 pm44 cd44 ct44 dq44 oc45 kV45 dc45 pm45 cd45 ct45 oc46 kV46 dc46 pm46 cd46 ct46 oc47 kV47 dc47 pm47 cd47 ct47 oc48 kV48 dc48 pm48 cd48 ct48 oc49 kV49 dc49 pm49 cd49 ct49 oc50 kV50 dc50 pm50 cd50 ct50 oc51 kV51 dc51 pm51 cd51 ct51 oc52 kV52 dc52 pm52 cd52 ct52 oc53 kV53 dc53 pm53 cd53 ct53 oc54 kV54 dc54 pm54 cd54 ct54 oc55 kV55 dc55 pm55 cd55 ct55 oc56 kV56 dc56 pm56 cd56 ct56 oc57 kV57 dc57 pm57 cd57 ct57 oc58 kV58 dc58 pm58 cd58 ct58 oc59 kV59 dc59 pm59 cd59 ct59 oc60 kV60 dc60 pm60 cd60 ct60 oc61 kV61 dc61 pm61 ct61 oc62 kV62 dc62 pm62 ct62 oc63 kV63 dc63 pm63 cd63 ct63 oc64 kV64 dc64 pm64 cd64 ct64 : Value}
    {dt11 dt44 p45 cc61 pp61 cc62 pp62 xa0 xa1 xa2 xa3 wa0 wa1 wa2 : Addr}
    {dn11 dn44 en44 xn0 xn1 xn2 xn3 wn0 wn1 wn2 : Nat}
    {dk11_0 tk0 tk1 tk2 tk3 tk4 tk5 tk6 tk7 tk8 tk9 tk10 tk11 tk12 tk13 tk14 tk15 tk16 tk17 tk18 xk0_0 xk0_1 xk0_2 xk0_3 xk0_4 xk1_0 xk1_1 xk1_2 xk1_3 xk2_0 xk2_1 xk2_2 xk2_3 xk3_0 xk3_1 xk3_2 xk3_3 xk3_4 xk3_5 xk3_6 wk0_0 wk0_1 wk0_2 wk0_3 wk0_4 wk0_5 wk0_6 wk0_7 wk1_0 wk1_1 wk1_2 wk1_3 wk1_4 wk1_5 wk1_6 wk2_0 wk2_1 wk2_2 : Tok}
    {rr45 : List Value}
    {wh0_0 wh0_1 wh0_2 wh0_3 wh0_4 wh0_5 wh0_6 wh0_7 wh1_0 wh1_1 wh1_2 wh1_3 wh1_4 wh1_5 wh1_6 wh2_0 wh2_1 wh2_2 : Int}
    (aCBag : PySem.W.nsIn K mainGlobals "Bag" = some (some (.ref CBag)))
    (a0 : PySem.W.nsIn K mainGlobals "is_number" = some (some (.ref f0)))
    (l0 : K.lookup f0 = some ⟨oc0, od0, .func (PySem.W.fnOf "is_number" "is_number" (defArgs s_is_number) (defBody s_is_number) (defScope s_is_number) .none kV0 dc0 pm0 an0 cd0 ct0), sl0⟩)
    (c0 : PySem.W.codeIn K cd0 "is_number" = true)
    (k0 : PySem.W.keepIn K (.ref f0) = true)
    (a1 : PySem.W.nsIn K mainGlobals "is_within" = some (some (.ref f1)))
    (l1 : K.lookup f1 = some ⟨oc1, od1, .func (PySem.W.fnOf "is_within" "is_within" (defArgs s_is_within) (defBody s_is_within) (defScope s_is_within) .none kV1 dc1 pm1 an1 cd1 ct1), sl1⟩)
    (c1 : PySem.W.codeIn K cd1 "is_within" = true)
    (k1 : PySem.W.keepIn K (.ref f1) = true)
    (a2 : PySem.W.nsIn K mainGlobals "is_house" = some (some (.ref f2)))
    (l2 : K.lookup f2 = some ⟨oc2, od2, .func (PySem.W.fnOf "is_house" "is_house" (defArgs s_is_house) (defBody s_is_house) (defScope s_is_house) .none kV2 dc2 pm2 an2 cd2 ct2), sl2⟩)
    (c2 : PySem.W.codeIn K cd2 "is_house" = true)
    (k2 : PySem.W.keepIn K (.ref f2) = true)
    (a3 : PySem.W.nsIn K mainGlobals "is_client" = some (some (.ref f3)))
    (l3 : K.lookup f3 = some ⟨oc3, od3, .func (PySem.W.fnOf "is_client" "is_client" (defArgs s_is_client) (defBody s_is_client) (defScope s_is_client) .none kV3 dc3 pm3 an3 cd3 ct3), sl3⟩)
    (c3 : PySem.W.codeIn K cd3 "is_client" = true)
    (k3 : PySem.W.keepIn K (.ref f3) = true)
    (a4 : PySem.W.nsIn K mainGlobals "is_circle" = some (some (.ref f4)))
    (l4 : K.lookup f4 = some ⟨oc4, od4, .func (PySem.W.fnOf "is_circle" "is_circle" (defArgs s_is_circle) (defBody s_is_circle) (defScope s_is_circle) .none kV4 dc4 pm4 an4 cd4 ct4), sl4⟩)
    (c4 : PySem.W.codeIn K cd4 "is_circle" = true)
    (k4 : PySem.W.keepIn K (.ref f4) = true)
    (a5 : PySem.W.nsIn K mainGlobals "are_indices" = some (some (.ref f5)))
    (l5 : K.lookup f5 = some ⟨oc5, od5, .func (PySem.W.fnOf "are_indices" "are_indices" (defArgs s_are_indices) (defBody s_are_indices) (defScope s_are_indices) .none kV5 dc5 pm5 an5 cd5 ct5), sl5⟩)
    (c5 : PySem.W.codeIn K cd5 "are_indices" = true)
    (k5 : PySem.W.keepIn K (.ref f5) = true)
    (a6 : PySem.W.nsIn K mainGlobals "are_ascending" = some (some (.ref f6)))
    (l6 : K.lookup f6 = some ⟨oc6, od6, .func (PySem.W.fnOf "are_ascending" "are_ascending" (defArgs s_are_ascending) (defBody s_are_ascending) (defScope s_are_ascending) .none kV6 dc6 pm6 an6 cd6 ct6), sl6⟩)
    (c6 : PySem.W.codeIn K cd6 "are_ascending" = true)
    (k6 : PySem.W.keepIn K (.ref f6) = true)
    (a7 : PySem.W.nsIn K mainGlobals "is_made_of" = some (some (.ref f7)))
    (l7 : K.lookup f7 = some ⟨oc7, od7, .func (PySem.W.fnOf "is_made_of" "is_made_of" (defArgs s_is_made_of) (defBody s_is_made_of) (defScope s_is_made_of) .none kV7 dc7 pm7 an7 cd7 ct7), sl7⟩)
    (c7 : PySem.W.codeIn K cd7 "is_made_of" = true)
    (k7 : PySem.W.keepIn K (.ref f7) = true)
    (a8 : PySem.W.nsIn K mainGlobals "is_key" = some (some (.ref f8)))
    (l8 : K.lookup f8 = some ⟨oc8, od8, .func (PySem.W.fnOf "is_key" "is_key" (defArgs s_is_key) (defBody s_is_key) (defScope s_is_key) .none kV8 dc8 pm8 an8 cd8 ct8), sl8⟩)
    (c8 : PySem.W.codeIn K cd8 "is_key" = true)
    (k8 : PySem.W.keepIn K (.ref f8) = true)
    (a9 : PySem.W.nsIn K mainGlobals "is_short_number" = some (some (.ref f9)))
    (l9 : K.lookup f9 = some ⟨oc9, od9, .func (PySem.W.fnOf "is_short_number" "is_short_number" (defArgs s_is_short_number) (defBody s_is_short_number) (defScope s_is_short_number) .none kV9 dc9 pm9 an9 cd9 ct9), sl9⟩)
    (c9 : PySem.W.codeIn K cd9 "is_short_number" = true)
    (k9 : PySem.W.keepIn K (.ref f9) = true)
    (a10 : PySem.W.nsIn K mainGlobals "is_value" = some (some (.ref f10)))
    (l10 : K.lookup f10 = some ⟨oc10, od10, .func (PySem.W.fnOf "is_value" "is_value" (defArgs s_is_value) (defBody s_is_value) (defScope s_is_value) .none kV10 dc10 pm10 an10 cd10 ct10), sl10⟩)
    (c10 : PySem.W.codeIn K cd10 "is_value" = true)
    (k10 : PySem.W.keepIn K (.ref f10) = true)
    (a11 : PySem.W.nsIn K mainGlobals "check_number" = some (some (.ref f11)))
    (l11 : K.lookup f11 = some ⟨oc11, od11, .func (PySem.W.fnOf "check_number" "check_number" (defArgs s_check_number) (defBody s_check_number) (defScope s_check_number) (.ref dt11) kV11 dc11 pm11 an11 cd11 ct11), sl11⟩)
    (c11 : PySem.W.codeIn K cd11 "check_number" = true)
    (k11 : PySem.W.keepIn K (.ref f11) = true)
    (d11 : K.lookup dt11 = some ⟨dq11, dr11, .seq (List.toArray [.int (999999999999999999999999999999999999999999999999999999999999) dk11_0]) dn11, dl11⟩)
    (a12 : PySem.W.nsIn K mainGlobals "check_house" = some (some (.ref f12)))
    (l12 : K.lookup f12 = some ⟨oc12, od12, .func (PySem.W.fnOf "check_house" "check_house" (defArgs s_check_house) (defBody s_check_house) (defScope s_check_house) .none kV12 dc12 pm12 an12 cd12 ct12), sl12⟩)
    (c12 : PySem.W.codeIn K cd12 "check_house" = true)
    (k12 : PySem.W.keepIn K (.ref f12) = true)
    (a13 : PySem.W.nsIn K mainGlobals "check_client" = some (some (.ref f13)))
    (l13 : K.lookup f13 = some ⟨oc13, od13, .func (PySem.W.fnOf "check_client" "check_client" (defArgs s_check_client) (defBody s_check_client) (defScope s_check_client) .none kV13 dc13 pm13 an13 cd13 ct13), sl13⟩)
    (c13 : PySem.W.codeIn K cd13 "check_client" = true)
    (k13 : PySem.W.keepIn K (.ref f13) = true)
    (a14 : PySem.W.nsIn K mainGlobals "_is_worth" = some (some (.ref f14)))
    (l14 : K.lookup f14 = some ⟨oc14, od14, .func (PySem.W.fnOf "_is_worth" "_is_worth" (defArgs s_is_worth) (defBody s_is_worth) (defScope s_is_worth) .none kV14 dc14 pm14 an14 cd14 ct14), sl14⟩)
    (c14 : PySem.W.codeIn K cd14 "_is_worth" = true)
    (k14 : PySem.W.keepIn K (.ref f14) = true)
    (a15 : PySem.W.nsIn K mainGlobals "word_of" = some (some (.ref f15)))
    (l15 : K.lookup f15 = some ⟨oc15, od15, .func (PySem.W.fnOf "word_of" "word_of" (defArgs s_word_of) (defBody s_word_of) (defScope s_word_of) .none kV15 dc15 pm15 an15 cd15 ct15), sl15⟩)
    (c15 : PySem.W.codeIn K cd15 "word_of" = true)
    (k15 : PySem.W.keepIn K (.ref f15) = true)
    (a16 : PySem.W.nsIn K mainGlobals "_is_put" = some (some (.ref f16)))
    (l16 : K.lookup f16 = some ⟨oc16, od16, .func (PySem.W.fnOf "_is_put" "_is_put" (defArgs s_is_put) (defBody s_is_put) (defScope s_is_put) .none kV16 dc16 pm16 an16 cd16 ct16), sl16⟩)
    (c16 : PySem.W.codeIn K cd16 "_is_put" = true)
    (k16 : PySem.W.keepIn K (.ref f16) = true)
    (a17 : PySem.W.nsIn K mainGlobals "_is_of_key" = some (some (.ref f17)))
    (l17 : K.lookup f17 = some ⟨oc17, od17, .func (PySem.W.fnOf "_is_of_key" "_is_of_key" (defArgs s_is_of_key) (defBody s_is_of_key) (defScope s_is_of_key) .none kV17 dc17 pm17 an17 cd17 ct17), sl17⟩)
    (c17 : PySem.W.codeIn K cd17 "_is_of_key" = true)
    (k17 : PySem.W.keepIn K (.ref f17) = true)
    (a18 : PySem.W.nsIn K mainGlobals "_is_add" = some (some (.ref f18)))
    (l18 : K.lookup f18 = some ⟨oc18, od18, .func (PySem.W.fnOf "_is_add" "_is_add" (defArgs s_is_add) (defBody s_is_add) (defScope s_is_add) .none kV18 dc18 pm18 an18 cd18 ct18), sl18⟩)
    (c18 : PySem.W.codeIn K cd18 "_is_add" = true)
    (k18 : PySem.W.keepIn K (.ref f18) = true)
    (a19 : PySem.W.nsIn K mainGlobals "_is_swap" = some (some (.ref f19)))
    (l19 : K.lookup f19 = some ⟨oc19, od19, .func (PySem.W.fnOf "_is_swap" "_is_swap" (defArgs s_is_swap) (defBody s_is_swap) (defScope s_is_swap) .none kV19 dc19 pm19 an19 cd19 ct19), sl19⟩)
    (c19 : PySem.W.codeIn K cd19 "_is_swap" = true)
    (k19 : PySem.W.keepIn K (.ref f19) = true)
    (a20 : PySem.W.nsIn K mainGlobals "_is_list" = some (some (.ref f20)))
    (l20 : K.lookup f20 = some ⟨oc20, od20, .func (PySem.W.fnOf "_is_list" "_is_list" (defArgs s_is_list) (defBody s_is_list) (defScope s_is_list) .none kV20 dc20 pm20 an20 cd20 ct20), sl20⟩)
    (c20 : PySem.W.codeIn K cd20 "_is_list" = true)
    (k20 : PySem.W.keepIn K (.ref f20) = true)
    (a21 : PySem.W.nsIn K mainGlobals "_is_all" = some (some (.ref f21)))
    (l21 : K.lookup f21 = some ⟨oc21, od21, .func (PySem.W.fnOf "_is_all" "_is_all" (defArgs s_is_all) (defBody s_is_all) (defScope s_is_all) .none kV21 dc21 pm21 an21 cd21 ct21), sl21⟩)
    (c21 : PySem.W.codeIn K cd21 "_is_all" = true)
    (k21 : PySem.W.keepIn K (.ref f21) = true)
    (a22 : PySem.W.nsIn K mainGlobals "_has_lot_size" = some (some (.ref f22)))
    (l22 : K.lookup f22 = some ⟨oc22, od22, .func (PySem.W.fnOf "_has_lot_size" "_has_lot_size" (defArgs s_has_lot_size) (defBody s_has_lot_size) (defScope s_has_lot_size) .none kV22 dc22 pm22 an22 cd22 ct22), sl22⟩)
    (c22 : PySem.W.codeIn K cd22 "_has_lot_size" = true)
    (k22 : PySem.W.keepIn K (.ref f22) = true)
    (a23 : PySem.W.nsIn K mainGlobals "_is_of_circle" = some (some (.ref f23)))
    (l23 : K.lookup f23 = some ⟨oc23, od23, .func (PySem.W.fnOf "_is_of_circle" "_is_of_circle" (defArgs s_is_of_circle) (defBody s_is_of_circle) (defScope s_is_of_circle) .none kV23 dc23 pm23 an23 cd23 ct23), sl23⟩)
    (c23 : PySem.W.codeIn K cd23 "_is_of_circle" = true)
    (k23 : PySem.W.keepIn K (.ref f23) = true)
    (a24 : PySem.W.nsIn K mainGlobals "is_deed" = some (some (.ref f24)))
    (l24 : K.lookup f24 = some ⟨oc24, od24, .func (PySem.W.fnOf "is_deed" "is_deed" (defArgs s_is_deed) (defBody s_is_deed) (defScope s_is_deed) .none kV24 dc24 pm24 an24 cd24 ct24), sl24⟩)
    (c24 : PySem.W.codeIn K cd24 "is_deed" = true)
    (k24 : PySem.W.keepIn K (.ref f24) = true)
    (a25 : PySem.W.nsIn K mainGlobals "_made" = some (some (.ref f25)))
    (l25 : K.lookup f25 = some ⟨oc25, od25, .func (PySem.W.fnOf "_made" "_made" (defArgs s_made) (defBody s_made) (defScope s_made) .none kV25 dc25 pm25 an25 cd25 ct25), sl25⟩)
    (c25 : PySem.W.codeIn K cd25 "_made" = true)
    (k25 : PySem.W.keepIn K (.ref f25) = true)
    (a26 : PySem.W.nsIn K mainGlobals "_is_count" = some (some (.ref f26)))
    (l26 : K.lookup f26 = some ⟨oc26, od26, .func (PySem.W.fnOf "_is_count" "_is_count" (defArgs s_is_count) (defBody s_is_count) (defScope s_is_count) .none kV26 dc26 pm26 an26 cd26 ct26), sl26⟩)
    (c26 : PySem.W.codeIn K cd26 "_is_count" = true)
    (k26 : PySem.W.keepIn K (.ref f26) = true)
    (a27 : PySem.W.nsIn K mainGlobals "_is_call_number" = some (some (.ref f27)))
    (l27 : K.lookup f27 = some ⟨oc27, od27, .func (PySem.W.fnOf "_is_call_number" "_is_call_number" (defArgs s_is_call_number) (defBody s_is_call_number) (defScope s_is_call_number) .none kV27 dc27 pm27 an27 cd27 ct27), sl27⟩)
    (c27 : PySem.W.codeIn K cd27 "_is_call_number" = true)
    (k27 : PySem.W.keepIn K (.ref f27) = true)
    (a28 : PySem.W.nsIn K mainGlobals "_is_ask" = some (some (.ref f28)))
    (l28 : K.lookup f28 = some ⟨oc28, od28, .func (PySem.W.fnOf "_is_ask" "_is_ask" (defArgs s_is_ask) (defBody s_is_ask) (defScope s_is_ask) .none kV28 dc28 pm28 an28 cd28 ct28), sl28⟩)
    (c28 : PySem.W.codeIn K cd28 "_is_ask" = true)
    (k28 : PySem.W.keepIn K (.ref f28) = true)
    (a29 : PySem.W.nsIn K mainGlobals "_is_grant" = some (some (.ref f29)))
    (l29 : K.lookup f29 = some ⟨oc29, od29, .func (PySem.W.fnOf "_is_grant" "_is_grant" (defArgs s_is_grant) (defBody s_is_grant) (defScope s_is_grant) .none kV29 dc29 pm29 an29 cd29 ct29), sl29⟩)
    (c29 : PySem.W.codeIn K cd29 "_is_grant" = true)
    (k29 : PySem.W.keepIn K (.ref f29) = true)
    (a30 : PySem.W.nsIn K mainGlobals "_is_bar" = some (some (.ref f30)))
    (l30 : K.lookup f30 = some ⟨oc30, od30, .func (PySem.W.fnOf "_is_bar" "_is_bar" (defArgs s_is_bar) (defBody s_is_bar) (defScope s_is_bar) .none kV30 dc30 pm30 an30 cd30 ct30), sl30⟩)
    (c30 : PySem.W.codeIn K cd30 "_is_bar" = true)
    (k30 : PySem.W.keepIn K (.ref f30) = true)
    (a31 : PySem.W.nsIn K mainGlobals "_is_lay" = some (some (.ref f31)))
    (l31 : K.lookup f31 = some ⟨oc31, od31, .func (PySem.W.fnOf "_is_lay" "_is_lay" (defArgs s_is_lay) (defBody s_is_lay) (defScope s_is_lay) .none kV31 dc31 pm31 an31 cd31 ct31), sl31⟩)
    (c31 : PySem.W.codeIn K cd31 "_is_lay" = true)
    (k31 : PySem.W.keepIn K (.ref f31) = true)
    (a32 : PySem.W.nsIn K mainGlobals "_is_laid" = some (some (.ref f32)))
    (l32 : K.lookup f32 = some ⟨oc32, od32, .func (PySem.W.fnOf "_is_laid" "_is_laid" (defArgs s_is_laid) (defBody s_is_laid) (defScope s_is_laid) .none kV32 dc32 pm32 an32 cd32 ct32), sl32⟩)
    (c32 : PySem.W.codeIn K cd32 "_is_laid" = true)
    (k32 : PySem.W.keepIn K (.ref f32) = true)
    (a33 : PySem.W.nsIn K mainGlobals "_is_carry" = some (some (.ref f33)))
    (l33 : K.lookup f33 = some ⟨oc33, od33, .func (PySem.W.fnOf "_is_carry" "_is_carry" (defArgs s_is_carry) (defBody s_is_carry) (defScope s_is_carry) .none kV33 dc33 pm33 an33 cd33 ct33), sl33⟩)
    (c33 : PySem.W.codeIn K cd33 "_is_carry" = true)
    (k33 : PySem.W.keepIn K (.ref f33) = true)
    (a34 : PySem.W.nsIn K mainGlobals "_is_begun" = some (some (.ref f34)))
    (l34 : K.lookup f34 = some ⟨oc34, od34, .func (PySem.W.fnOf "_is_begun" "_is_begun" (defArgs s_is_begun) (defBody s_is_begun) (defScope s_is_begun) .none kV34 dc34 pm34 an34 cd34 ct34), sl34⟩)
    (c34 : PySem.W.codeIn K cd34 "_is_begun" = true)
    (k34 : PySem.W.keepIn K (.ref f34) = true)
    (a35 : PySem.W.nsIn K mainGlobals "_is_call" = some (some (.ref f35)))
    (l35 : K.lookup f35 = some ⟨oc35, od35, .func (PySem.W.fnOf "_is_call" "_is_call" (defArgs s_is_call) (defBody s_is_call) (defScope s_is_call) .none kV35 dc35 pm35 an35 cd35 ct35), sl35⟩)
    (c35 : PySem.W.codeIn K cd35 "_is_call" = true)
    (k35 : PySem.W.keepIn K (.ref f35) = true)
    (a36 : PySem.W.nsIn K mainGlobals "_is_reply" = some (some (.ref f36)))
    (l36 : K.lookup f36 = some ⟨oc36, od36, .func (PySem.W.fnOf "_is_reply" "_is_reply" (defArgs s_is_reply) (defBody s_is_reply) (defScope s_is_reply) .none kV36 dc36 pm36 an36 cd36 ct36), sl36⟩)
    (c36 : PySem.W.codeIn K cd36 "_is_reply" = true)
    (k36 : PySem.W.keepIn K (.ref f36) = true)
    (a37 : PySem.W.nsIn K mainGlobals "_is_try" = some (some (.ref f37)))
    (l37 : K.lookup f37 = some ⟨oc37, od37, .func (PySem.W.fnOf "_is_try" "_is_try" (defArgs s_is_try) (defBody s_is_try) (defScope s_is_try) .none kV37 dc37 pm37 an37 cd37 ct37), sl37⟩)
    (c37 : PySem.W.codeIn K cd37 "_is_try" = true)
    (k37 : PySem.W.keepIn K (.ref f37) = true)
    (a38 : PySem.W.nsIn K mainGlobals "is_letter" = some (some (.ref f38)))
    (l38 : K.lookup f38 = some ⟨oc38, od38, .func (PySem.W.fnOf "is_letter" "is_letter" (defArgs s_is_letter) (defBody s_is_letter) (defScope s_is_letter) .none kV38 dc38 pm38 an38 cd38 ct38), sl38⟩)
    (c38 : PySem.W.codeIn K cd38 "is_letter" = true)
    (k38 : PySem.W.keepIn K (.ref f38) = true)
    (a39 : PySem.W.nsIn K mainGlobals "is_house_letter" = some (some (.ref f39)))
    (l39 : K.lookup f39 = some ⟨oc39, od39, .func (PySem.W.fnOf "is_house_letter" "is_house_letter" (defArgs s_is_house_letter) (defBody s_is_house_letter) (defScope s_is_house_letter) .none kV39 dc39 pm39 an39 cd39 ct39), sl39⟩)
    (c39 : PySem.W.codeIn K cd39 "is_house_letter" = true)
    (k39 : PySem.W.keepIn K (.ref f39) = true)
    (a40 : PySem.W.nsIn K mainGlobals "check_letter" = some (some (.ref f40)))
    (l40 : K.lookup f40 = some ⟨oc40, od40, .func (PySem.W.fnOf "check_letter" "check_letter" (defArgs s_check_letter) (defBody s_check_letter) (defScope s_check_letter) .none kV40 dc40 pm40 an40 cd40 ct40), sl40⟩)
    (c40 : PySem.W.codeIn K cd40 "check_letter" = true)
    (k40 : PySem.W.keepIn K (.ref f40) = true)
    (a41 : PySem.W.nsIn K mainGlobals "check_letters" = some (some (.ref f41)))
    (l41 : K.lookup f41 = some ⟨oc41, od41, .func (PySem.W.fnOf "check_letters" "check_letters" (defArgs s_check_letters) (defBody s_check_letters) (defScope s_check_letters) .none kV41 dc41 pm41 an41 cd41 ct41), sl41⟩)
    (c41 : PySem.W.codeIn K cd41 "check_letters" = true)
    (k41 : PySem.W.keepIn K (.ref f41) = true)
    (a42 : PySem.W.nsIn K mainGlobals "sender" = some (some (.ref f42)))
    (l42 : K.lookup f42 = some ⟨oc42, od42, .func (PySem.W.fnOf "sender" "sender" (defArgs s_sender) (defBody s_sender) (defScope s_sender) .none kV42 dc42 pm42 an42 cd42 ct42), sl42⟩)
    (c42 : PySem.W.codeIn K cd42 "sender" = true)
    (k42 : PySem.W.keepIn K (.ref f42) = true)
    (a43 : PySem.W.nsIn K mainGlobals "receiver" = some (some (.ref f43)))
    (l43 : K.lookup f43 = some ⟨oc43, od43, .func (PySem.W.fnOf "receiver" "receiver" (defArgs s_receiver) (defBody s_receiver) (defScope s_receiver) .none kV43 dc43 pm43 an43 cd43 ct43), sl43⟩)
    (c43 : PySem.W.codeIn K cd43 "receiver" = true)
    (k43 : PySem.W.keepIn K (.ref f43) = true)
    (a44 : PySem.W.findIn K (.ref CBag) "__init__" = some (some (.ref f44)))
    (i44 : PySem.W.isFn K (.ref f44) = true)
    (l44 : K.lookup f44 = some ⟨oc44, od44, .func (PySem.W.fnOf "__init__" "Bag.__init__" (defArgs s_Bag_init) (defBody s_Bag_init) (defScope s_Bag_init) (.ref dt44) kV44 dc44 pm44 an44 cd44 ct44), sl44⟩)
    (c44 : PySem.W.codeIn K cd44 "Bag.__init__" = true)
    (k44 : PySem.W.keepIn K (.ref f44) = true)
    (d44 : K.lookup dt44 = some ⟨dq44, dr44, .seq (List.toArray [.ref et44]) dn44, dl44⟩)
    (eh44 : K.lookup et44 = some ⟨.type "tuple", eo44, .seq (List.toArray []) en44, es44⟩)
    (a45 : PySem.W.findIn K (.ref CBag) "letters" = some (some (.ref p45)))
    (g45 : PySem.W.specialIn K (.ref p45) "__get__" = some (some (.builtin "property.__get__")))
    (t45 : PySem.W.takesIn K (.ref p45) = some true)
    (r45 : PySem.W.recIn K p45 "property" = some (.ref f45 :: rr45))
    (l45 : K.lookup f45 = some ⟨oc45, od45, .func (PySem.W.fnOf "letters" "Bag.letters" (defArgs s_Bag_letters) (defBody s_Bag_letters) (defScope s_Bag_letters) .none kV45 dc45 pm45 an45 cd45 ct45), sl45⟩)
    (c45 : PySem.W.codeIn K cd45 "Bag.letters" = true)
    (k45 : PySem.W.keepIn K (.ref f45) = true)
    (a46 : PySem.W.findIn K (.ref CBag) "sent" = some (some (.ref f46)))
    (i46 : PySem.W.isFn K (.ref f46) = true)
    (l46 : K.lookup f46 = some ⟨oc46, od46, .func (PySem.W.fnOf "sent" "Bag.sent" (defArgs s_Bag_sent) (defBody s_Bag_sent) (defScope s_Bag_sent) .none kV46 dc46 pm46 an46 cd46 ct46), sl46⟩)
    (c46 : PySem.W.codeIn K cd46 "Bag.sent" = true)
    (k46 : PySem.W.keepIn K (.ref f46) = true)
    (a47 : PySem.W.findIn K (.ref CBag) "taken" = some (some (.ref f47)))
    (i47 : PySem.W.isFn K (.ref f47) = true)
    (l47 : K.lookup f47 = some ⟨oc47, od47, .func (PySem.W.fnOf "taken" "Bag.taken" (defArgs s_Bag_taken) (defBody s_Bag_taken) (defScope s_Bag_taken) .none kV47 dc47 pm47 an47 cd47 ct47), sl47⟩)
    (c47 : PySem.W.codeIn K cd47 "Bag.taken" = true)
    (k47 : PySem.W.keepIn K (.ref f47) = true)
    (a48 : PySem.W.findIn K (.ref CBag) "lost" = some (some (.ref f48)))
    (i48 : PySem.W.isFn K (.ref f48) = true)
    (l48 : K.lookup f48 = some ⟨oc48, od48, .func (PySem.W.fnOf "lost" "Bag.lost" (defArgs s_Bag_lost) (defBody s_Bag_lost) (defScope s_Bag_lost) .none kV48 dc48 pm48 an48 cd48 ct48), sl48⟩)
    (c48 : PySem.W.codeIn K cd48 "Bag.lost" = true)
    (k48 : PySem.W.keepIn K (.ref f48) = true)
    (a49 : PySem.W.findIn K (.ref CBag) "doubled" = some (some (.ref f49)))
    (i49 : PySem.W.isFn K (.ref f49) = true)
    (l49 : K.lookup f49 = some ⟨oc49, od49, .func (PySem.W.fnOf "doubled" "Bag.doubled" (defArgs s_Bag_doubled) (defBody s_Bag_doubled) (defScope s_Bag_doubled) .none kV49 dc49 pm49 an49 cd49 ct49), sl49⟩)
    (c49 : PySem.W.codeIn K cd49 "Bag.doubled" = true)
    (k49 : PySem.W.keepIn K (.ref f49) = true)
    (a50 : PySem.W.findIn K (.ref CBag) "to_house" = some (some (.ref f50)))
    (i50 : PySem.W.isFn K (.ref f50) = true)
    (l50 : K.lookup f50 = some ⟨oc50, od50, .func (PySem.W.fnOf "to_house" "Bag.to_house" (defArgs s_Bag_to_house) (defBody s_Bag_to_house) (defScope s_Bag_to_house) .none kV50 dc50 pm50 an50 cd50 ct50), sl50⟩)
    (c50 : PySem.W.codeIn K cd50 "Bag.to_house" = true)
    (k50 : PySem.W.keepIn K (.ref f50) = true)
    (a51 : PySem.W.findIn K (.ref CBag) "to_client" = some (some (.ref f51)))
    (i51 : PySem.W.isFn K (.ref f51) = true)
    (l51 : K.lookup f51 = some ⟨oc51, od51, .func (PySem.W.fnOf "to_client" "Bag.to_client" (defArgs s_Bag_to_client) (defBody s_Bag_to_client) (defScope s_Bag_to_client) .none kV51 dc51 pm51 an51 cd51 ct51), sl51⟩)
    (c51 : PySem.W.codeIn K cd51 "Bag.to_client" = true)
    (k51 : PySem.W.keepIn K (.ref f51) = true)
    (a52 : PySem.W.findIn K (.ref CBag) "has_same" = some (some (.ref f52)))
    (i52 : PySem.W.isFn K (.ref f52) = true)
    (l52 : K.lookup f52 = some ⟨oc52, od52, .func (PySem.W.fnOf "has_same" "Bag.has_same" (defArgs s_Bag_has_same) (defBody s_Bag_has_same) (defScope s_Bag_has_same) .none kV52 dc52 pm52 an52 cd52 ct52), sl52⟩)
    (c52 : PySem.W.codeIn K cd52 "Bag.has_same" = true)
    (k52 : PySem.W.keepIn K (.ref f52) = true)
    (a53 : PySem.W.findIn K (.ref CBag) "__len__" = some (some (.ref f53)))
    (i53 : PySem.W.isFn K (.ref f53) = true)
    (l53 : K.lookup f53 = some ⟨oc53, od53, .func (PySem.W.fnOf "__len__" "Bag.__len__" (defArgs s_Bag_len) (defBody s_Bag_len) (defScope s_Bag_len) .none kV53 dc53 pm53 an53 cd53 ct53), sl53⟩)
    (c53 : PySem.W.codeIn K cd53 "Bag.__len__" = true)
    (k53 : PySem.W.keepIn K (.ref f53) = true)
    (a54 : PySem.W.findIn K (.ref CBag) "__iter__" = some (some (.ref f54)))
    (i54 : PySem.W.isFn K (.ref f54) = true)
    (l54 : K.lookup f54 = some ⟨oc54, od54, .func (PySem.W.fnOf "__iter__" "Bag.__iter__" (defArgs s_Bag_iter) (defBody s_Bag_iter) (defScope s_Bag_iter) .none kV54 dc54 pm54 an54 cd54 ct54), sl54⟩)
    (c54 : PySem.W.codeIn K cd54 "Bag.__iter__" = true)
    (k54 : PySem.W.keepIn K (.ref f54) = true)
    (a55 : PySem.W.findIn K (.ref CBag) "__eq__" = some (some (.ref f55)))
    (i55 : PySem.W.isFn K (.ref f55) = true)
    (l55 : K.lookup f55 = some ⟨oc55, od55, .func (PySem.W.fnOf "__eq__" "Bag.__eq__" (defArgs s_Bag_eq) (defBody s_Bag_eq) (defScope s_Bag_eq) .none kV55 dc55 pm55 an55 cd55 ct55), sl55⟩)
    (c55 : PySem.W.codeIn K cd55 "Bag.__eq__" = true)
    (k55 : PySem.W.keepIn K (.ref f55) = true)
    (a56 : PySem.W.findIn K (.ref CBag) "__str__" = some (some (.ref f56)))
    (i56 : PySem.W.isFn K (.ref f56) = true)
    (l56 : K.lookup f56 = some ⟨oc56, od56, .func (PySem.W.fnOf "__str__" "Bag.__str__" (defArgs s_Bag_str) (defBody s_Bag_str) (defScope s_Bag_str) .none kV56 dc56 pm56 an56 cd56 ct56), sl56⟩)
    (c56 : PySem.W.codeIn K cd56 "Bag.__str__" = true)
    (k56 : PySem.W.keepIn K (.ref f56) = true)
    (a57 : PySem.W.nsIn K mainGlobals "_law_dice" = some (some (.ref f57)))
    (l57 : K.lookup f57 = some ⟨oc57, od57, .func (PySem.W.fnOf "_law_dice" "_law_dice" (defArgs s_law_dice) (defBody s_law_dice) (defScope s_law_dice) .none kV57 dc57 pm57 an57 cd57 ct57), sl57⟩)
    (c57 : PySem.W.codeIn K cd57 "_law_dice" = true)
    (k57 : PySem.W.keepIn K (.ref f57) = true)
    (a58 : PySem.W.nsIn K mainGlobals "_law_roll" = some (some (.ref f58)))
    (l58 : K.lookup f58 = some ⟨oc58, od58, .func (PySem.W.fnOf "_law_roll" "_law_roll" (defArgs s_law_roll) (defBody s_law_roll) (defScope s_law_roll) .none kV58 dc58 pm58 an58 cd58 ct58), sl58⟩)
    (c58 : PySem.W.codeIn K cd58 "_law_roll" = true)
    (k58 : PySem.W.keepIn K (.ref f58) = true)
    (a59 : PySem.W.nsIn K mainGlobals "_law_pick" = some (some (.ref f59)))
    (l59 : K.lookup f59 = some ⟨oc59, od59, .func (PySem.W.fnOf "_law_pick" "_law_pick" (defArgs s_law_pick) (defBody s_law_pick) (defScope s_law_pick) .none kV59 dc59 pm59 an59 cd59 ct59), sl59⟩)
    (c59 : PySem.W.codeIn K cd59 "_law_pick" = true)
    (k59 : PySem.W.keepIn K (.ref f59) = true)
    (a60 : PySem.W.nsIn K mainGlobals "_law_met" = some (some (.ref f60)))
    (l60 : K.lookup f60 = some ⟨oc60, od60, .func (PySem.W.fnOf "_law_met" "_law_met" (defArgs s_law_met) (defBody s_law_met) (defScope s_law_met) .none kV60 dc60 pm60 an60 cd60 ct60), sl60⟩)
    (c60 : PySem.W.codeIn K cd60 "_law_met" = true)
    (k60 : PySem.W.keepIn K (.ref f60) = true)
    (a61 : PySem.W.nsIn K mainGlobals "_law_right" = some (some (.ref f61)))
    (l61 : K.lookup f61 = some ⟨oc61, od61, .func (PySem.W.fnOf "_law_right" "_law_right" (defArgs s_law_right) (defBody s_law_right) (defScope s_law_right) .none kV61 dc61 pm61 an61 (.ref cc61) ct61), sl61⟩)
    (c61 : PySem.W.codeIn K (.ref cc61) "_law_right" = true)
    (k61 : PySem.W.keepIn K (.ref f61) = true)
    (lq61 : PySem.W.codeHdIn K cc61 pp61 = true)
    (ln61 : K.lookup pp61 = none)
    (lt61 : h.get? pp61 = some { cls := .none, data := .fields #[] })
    (a62 : PySem.W.nsIn K mainGlobals "law" = some (some (.ref f62)))
    (l62 : K.lookup f62 = some ⟨oc62, od62, .func (PySem.W.fnOf "law" "law" (defArgs s_law) (defBody s_law) (defScope s_law) .none kV62 dc62 pm62 an62 (.ref cc62) ct62), sl62⟩)
    (c62 : PySem.W.codeIn K (.ref cc62) "law" = true)
    (k62 : PySem.W.keepIn K (.ref f62) = true)
    (lq62 : PySem.W.codeHdIn K cc62 pp62 = true)
    (ln62 : K.lookup pp62 = none)
    (lt62 : h.get? pp62 = some { cls := .none, data := .fields #[] })
    (aEInvalidNumber : PySem.W.nsIn K mainGlobals "InvalidNumber" = some (some (.ref EInvalidNumber)))
    (zEInvalidNumberini : PySem.W.findIn K (.ref EInvalidNumber) "__init__" = some (some (.ref f63)))
    (l63 : K.lookup f63 = some ⟨oc63, od63, .func (PySem.W.fnOf "__init__" "InvalidNumber.__init__" (defArgs s_InvalidNumber_init) (defBody s_InvalidNumber_init) (defScope s_InvalidNumber_init) .none kV63 dc63 pm63 an63 cd63 ct63), sl63⟩)
    (c63 : PySem.W.codeIn K cd63 "InvalidNumber.__init__" = true)
    (k63 : PySem.W.keepIn K (.ref f63) = true)
    (aETooMany : PySem.W.nsIn K mainGlobals "TooMany" = some (some (.ref ETooMany)))
    (zETooManyini : PySem.W.findIn K (.ref ETooMany) "__init__" = some (some (.ref f64)))
    (l64 : K.lookup f64 = some ⟨oc64, od64, .func (PySem.W.fnOf "__init__" "TooMany.__init__" (defArgs s_TooMany_init) (defBody s_TooMany_init) (defScope s_TooMany_init) .none kV64 dc64 pm64 an64 cd64 ct64), sl64⟩)
    (c64 : PySem.W.codeIn K cd64 "TooMany.__init__" = true)
    (k64 : PySem.W.keepIn K (.ref f64) = true)
    (zBagpg : PySem.W.plainGet K CBag Str.empty = true)
    (zBaghd : PySem.W.hasDictIn K CBag = true)
    (zBagpo : PySem.W.plainOver K CBag = true)
    (zBagsa : PySem.W.findIn K (.ref CBag) "__setattr__" = some (some (.builtin "object.__setattr__")))
    (zBagmk : PySem.W.makesIn K CBag = true)
    (zBagkc : PySem.W.keepIn K (.ref CBag) = true)
    (zBagca : PySem.W.findIn K (.ref CBag) "__class__" = some (some (.builtin "object.__class__")))
    (zBagcg : PySem.W.specialIn K (.builtin "object.__class__") "__get__" = some (some (.builtin "getset_descriptor.__get__")))
    (zBagct : PySem.W.takesIn K (.builtin "object.__class__") = some true)
    (zBagco : PySem.W.mroIn K CBag (.type "object") = some true)
    (zBagrd : PySem.W.readsIn K CBag (.type "type") = true)
    (zBagga : PySem.W.specialIn K (.ref CBag) "__getattribute__" = some (some (.builtin "type.__getattribute__")))
    (zBagkNoneType : PySem.W.kitOne K (.type "NoneType") (.ref CBag) = some false)
    (zBagfNoneType : PySem.W.notFirst K CBag (.type "NoneType") = true)
    (zBagktuple : PySem.W.kitOne K (.type "tuple") (.ref CBag) = some false)
    (zBagftuple : PySem.W.notFirst K CBag (.type "tuple") = true)
    (zBagkint : PySem.W.kitOne K (.type "int") (.ref CBag) = some false)
    (zBagfint : PySem.W.notFirst K CBag (.type "int") = true)
    (zBagkstr : PySem.W.kitOne K (.type "str") (.ref CBag) = some false)
    (zBagfstr : PySem.W.notFirst K CBag (.type "str") = true)
    (zBagklist : PySem.W.kitOne K (.type "list") (.ref CBag) = some false)
    (zBagflist : PySem.W.notFirst K CBag (.type "list") = true)
    (zBagkbool : PySem.W.kitOne K (.type "bool") (.ref CBag) = some false)
    (zBagfbool : PySem.W.notFirst K CBag (.type "bool") = true)
    (zBagkdict : PySem.W.kitOne K (.type "dict") (.ref CBag) = some false)
    (zBagfdict : PySem.W.notFirst K CBag (.type "dict") = true)
    (zBagne : PySem.W.findIn K (.ref CBag) "__ne__" = some (some (.builtin "object.__ne__")))
    (zBagno_letters : PySem.W.findIn K (.ref CBag) "_letters" = some none)
    (aEInvalidDeed : PySem.W.nsIn K mainGlobals "InvalidDeed" = some (some (.ref EInvalidDeed)))
    (qEInvalidDeed : PySem.W.excIn K EInvalidDeed bmVE "ValueError.__new__" = true)
    (zEInvalidDeedkc : PySem.W.keepIn K (.ref EInvalidDeed) = true)
    (zEInvalidDeedsb : PySem.W.subIn K (.ref EInvalidDeed) (.type "BaseException") = some true)
    (zEInvalidDeedty : PySem.W.typeIn K (.ref EInvalidDeed) = some (.type "type"))
    (aEInvalidState : PySem.W.nsIn K mainGlobals "InvalidState" = some (some (.ref EInvalidState)))
    (qEInvalidState : PySem.W.excIn K EInvalidState bmVE "ValueError.__new__" = true)
    (zEInvalidStatekc : PySem.W.keepIn K (.ref EInvalidState) = true)
    (zEInvalidStatesb : PySem.W.subIn K (.ref EInvalidState) (.type "BaseException") = some true)
    (zEInvalidStatety : PySem.W.typeIn K (.ref EInvalidState) = some (.type "type"))
    (aEInvalidLetter : PySem.W.nsIn K mainGlobals "InvalidLetter" = some (some (.ref EInvalidLetter)))
    (qEInvalidLetter : PySem.W.excIn K EInvalidLetter bmVE "ValueError.__new__" = true)
    (zEInvalidLetterkc : PySem.W.keepIn K (.ref EInvalidLetter) = true)
    (zEInvalidLettersb : PySem.W.subIn K (.ref EInvalidLetter) (.type "BaseException") = some true)
    (zEInvalidLetterty : PySem.W.typeIn K (.ref EInvalidLetter) = some (.type "type"))
    (aEInvalidOperation : PySem.W.nsIn K mainGlobals "InvalidOperation" = some (some (.ref EInvalidOperation)))
    (qEInvalidOperation : PySem.W.excIn K EInvalidOperation bmVE "ValueError.__new__" = true)
    (zEInvalidOperationkc : PySem.W.keepIn K (.ref EInvalidOperation) = true)
    (zEInvalidOperationsb : PySem.W.subIn K (.ref EInvalidOperation) (.type "BaseException") = some true)
    (zEInvalidOperationty : PySem.W.typeIn K (.ref EInvalidOperation) = some (.type "type"))
    (zEInvalidNumberoi : oexInT "IndexError.__new__" tailIndex K EInvalidNumber = true)
    (zEInvalidNumberxf : xfB K EInvalidNumber = true)
    (zEInvalidNumberkc : PySem.W.keepIn K (.ref EInvalidNumber) = true)
    (zEInvalidNumbersb : PySem.W.subIn K (.ref EInvalidNumber) (.type "BaseException") = some true)
    (zEInvalidNumberty : PySem.W.typeIn K (.ref EInvalidNumber) = some (.type "type"))
    (zEInvalidNumbersa : PySem.W.findIn K (.ref EInvalidNumber) "__setattr__" = some (some (.builtin "object.__setattr__")))
    (zEInvalidNumberfn : PySem.W.typeIn K (.ref f63) = some (.type "function"))
    (zEInvalidNumbernogiven : PySem.W.findIn K (.ref EInvalidNumber) "given" = some none)
    (zETooManyoi : oexInT "OverflowError.__new__" tailOver K ETooMany = true)
    (zETooManyxf : xfB K ETooMany = true)
    (zETooManykc : PySem.W.keepIn K (.ref ETooMany) = true)
    (zETooManysb : PySem.W.subIn K (.ref ETooMany) (.type "BaseException") = some true)
    (zETooManyty : PySem.W.typeIn K (.ref ETooMany) = some (.type "type"))
    (zETooManysa : PySem.W.findIn K (.ref ETooMany) "__setattr__" = some (some (.builtin "object.__setattr__")))
    (zETooManyfn : PySem.W.typeIn K (.ref f64) = some (.type "function"))
    (zETooManynolimit : PySem.W.findIn K (.ref ETooMany) "limit" = some none)
    (zEInvalidDeedInvalidLetter : PySem.W.exmOne K (.ref EInvalidDeed) (.ref EInvalidLetter) = some false)
    (zEInvalidDeedInvalidNumber : PySem.W.exmOne K (.ref EInvalidDeed) (.ref EInvalidNumber) = some false)
    (zEInvalidDeedInvalidOperation : PySem.W.exmOne K (.ref EInvalidDeed) (.ref EInvalidOperation) = some false)
    (zEInvalidDeedTooMany : PySem.W.exmOne K (.ref EInvalidDeed) (.ref ETooMany) = some false)
    (zEInvalidStateInvalidLetter : PySem.W.exmOne K (.ref EInvalidState) (.ref EInvalidLetter) = some false)
    (zEInvalidStateInvalidNumber : PySem.W.exmOne K (.ref EInvalidState) (.ref EInvalidNumber) = some false)
    (zEInvalidStateInvalidOperation : PySem.W.exmOne K (.ref EInvalidState) (.ref EInvalidOperation) = some false)
    (zEInvalidStateTooMany : PySem.W.exmOne K (.ref EInvalidState) (.ref ETooMany) = some false)
    (zEInvalidLetterInvalidLetter : PySem.W.exmOne K (.ref EInvalidLetter) (.ref EInvalidLetter) = some true)
    (zEInvalidLetterInvalidNumber : PySem.W.exmOne K (.ref EInvalidLetter) (.ref EInvalidNumber) = some false)
    (zEInvalidLetterInvalidOperation : PySem.W.exmOne K (.ref EInvalidLetter) (.ref EInvalidOperation) = some false)
    (zEInvalidLetterTooMany : PySem.W.exmOne K (.ref EInvalidLetter) (.ref ETooMany) = some false)
    (zEInvalidOperationInvalidLetter : PySem.W.exmOne K (.ref EInvalidOperation) (.ref EInvalidLetter) = some false)
    (zEInvalidOperationInvalidNumber : PySem.W.exmOne K (.ref EInvalidOperation) (.ref EInvalidNumber) = some false)
    (zEInvalidOperationInvalidOperation : PySem.W.exmOne K (.ref EInvalidOperation) (.ref EInvalidOperation) = some true)
    (zEInvalidOperationTooMany : PySem.W.exmOne K (.ref EInvalidOperation) (.ref ETooMany) = some false)
    (zEInvalidNumberInvalidLetter : PySem.W.exmOne K (.ref EInvalidNumber) (.ref EInvalidLetter) = some false)
    (zEInvalidNumberInvalidNumber : PySem.W.exmOne K (.ref EInvalidNumber) (.ref EInvalidNumber) = some true)
    (zEInvalidNumberInvalidOperation : PySem.W.exmOne K (.ref EInvalidNumber) (.ref EInvalidOperation) = some false)
    (zEInvalidNumberTooMany : PySem.W.exmOne K (.ref EInvalidNumber) (.ref ETooMany) = some false)
    (zETooManyInvalidLetter : PySem.W.exmOne K (.ref ETooMany) (.ref EInvalidLetter) = some false)
    (zETooManyInvalidNumber : PySem.W.exmOne K (.ref ETooMany) (.ref EInvalidNumber) = some false)
    (zETooManyInvalidOperation : PySem.W.exmOne K (.ref ETooMany) (.ref EInvalidOperation) = some false)
    (zETooManyTooMany : PySem.W.exmOne K (.ref ETooMany) (.ref ETooMany) = some true)
    (x0 : PySem.W.nsIn K mainGlobals "MAX_HOUSES" = some (some (.int (9) tk0)))
    (x1 : PySem.W.nsIn K mainGlobals "MAX_CIRCLE" = some (some (.int (7) tk1)))
    (x2 : PySem.W.nsIn K mainGlobals "MAX_CLIENTS" = some (some (.int (5) tk2)))
    (x3 : PySem.W.nsIn K mainGlobals "MAX_KEYS" = some (some (.int (24) tk3)))
    (x4 : PySem.W.nsIn K mainGlobals "MAX_SIGNS" = some (some (.int (12) tk4)))
    (x5 : PySem.W.nsIn K mainGlobals "MAX_LOT" = some (some (.int (6) tk5)))
    (x6 : PySem.W.nsIn K mainGlobals "MAX_KEY_SIGNS" = some (some (.int (8) tk6)))
    (x7 : PySem.W.nsIn K mainGlobals "MAX_NUMBER" = some (some (.int (999999999999999999999999999999999999999999999999999999999999) tk7)))
    (x8 : PySem.W.nsIn K mainGlobals "MAX_SHORT_NUMBER" = some (some (.int (999999999999) tk8)))
    (x9 : PySem.W.nsIn K mainGlobals "LETTERS" = some (some (.str "abcdefghijklmnopqrstuvwxyz" tk9)))
    (x10 : PySem.W.nsIn K mainGlobals "SIGNS" = some (some (.str "abcdefghijklmnopqrstuvwxyz0123456789 " tk10)))
    (x11 : PySem.W.nsIn K mainGlobals "MAX_SUM" = some (some (.int (999999999999) tk11)))
    (x12 : PySem.W.nsIn K mainGlobals "STOP_WORD" = some (some (.str "circle" tk12)))
    (x13 : PySem.W.nsIn K mainGlobals "GREATEST_KEY" = some (some (.str "zzzzzzzz" tk13)))
    (x14 : PySem.W.nsIn K mainGlobals "MAX_LENGTH" = some (some (.int (1000000000) tk14)))
    (x15 : PySem.W.nsIn K mainGlobals "MAX_LETTERS" = some (some (.int (400) tk15)))
    (x16 : PySem.W.nsIn K mainGlobals "MAX_CARRIED" = some (some (.int (64) tk16)))
    (x17 : PySem.W.nsIn K mainGlobals "MAX_COUNT" = some (some (.int (1000000000) tk17)))
    (x18 : PySem.W.nsIn K mainGlobals "GRANT_MEMBERS" = some (some (.int (5) tk18)))
    (y0 : PySem.W.nsIn K mainGlobals "abs" = some none)
    (y1 : PySem.W.nsIn K mainGlobals "all" = some none)
    (y2 : PySem.W.nsIn K mainGlobals "bool" = some none)
    (y3 : PySem.W.nsIn K mainGlobals "dict" = some none)
    (y4 : PySem.W.nsIn K mainGlobals "enumerate" = some none)
    (y5 : PySem.W.nsIn K mainGlobals "int" = some none)
    (y6 : PySem.W.nsIn K mainGlobals "isinstance" = some none)
    (y7 : PySem.W.nsIn K mainGlobals "len" = some none)
    (y8 : PySem.W.nsIn K mainGlobals "list" = some none)
    (y9 : PySem.W.nsIn K mainGlobals "max" = some none)
    (y10 : PySem.W.nsIn K mainGlobals "min" = some none)
    (y11 : PySem.W.nsIn K mainGlobals "range" = some none)
    (y12 : PySem.W.nsIn K mainGlobals "repr" = some none)
    (y13 : PySem.W.nsIn K mainGlobals "sorted" = some none)
    (y14 : PySem.W.nsIn K mainGlobals "str" = some none)
    (y15 : PySem.W.nsIn K mainGlobals "tuple" = some none)
    (y16 : PySem.W.nsIn K mainGlobals "zip" = some none)
    (xx0 : PySem.W.nsIn K mainGlobals "LOT_WORDS" = some (some (.ref xa0)))
    (xl0 : K.lookup xa0 = some ⟨.type "tuple", xd0, .seq (List.toArray [.str "put" xk0_0, .str "drop" xk0_1, .str "get" xk0_2, .str "add" xk0_3, .str "swap" xk0_4]) xn0, xs0⟩)
    (xx1 : PySem.W.nsIn K mainGlobals "LOT_ANSWERS" = some (some (.ref xa1)))
    (xl1 : K.lookup xa1 = some ⟨.type "tuple", xd1, .seq (List.toArray [.str "was" xk1_0, .str "is" xk1_1, .str "sum" xk1_2, .str "swapped" xk1_3]) xn1, xs1⟩)
    (xx2 : PySem.W.nsIn K mainGlobals "BREAKS" = some (some (.ref xa2)))
    (xl2 : K.lookup xa2 = some ⟨.type "tuple", xd2, .seq (List.toArray [.str "kind" xk2_0, .str "bound" xk2_1, .str "full" xk2_2, .str "other" xk2_3]) xn2, xs2⟩)
    (xx3 : PySem.W.nsIn K mainGlobals "HOUSE_WORDS" = some (some (.ref xa3)))
    (xl3 : K.lookup xa3 = some ⟨.type "tuple", xd3, .seq (List.toArray [.str "ask" xk3_0, .str "grant" xk3_1, .str "bar" xk3_2, .str "lay" xk3_3, .str "laid" xk3_4, .str "carry" xk3_5, .str "begun" xk3_6]) xn3, xs3⟩)
    (wx0 : PySem.W.nsIn K mainGlobals "DEED_FORMS" = some (some (.ref wa0)))
    (wl0 : K.lookup wa0 = some ⟨.type "dict", none, .dict (List.toArray [⟨wh0_0, .str "put" wk0_0, .ref f16⟩, ⟨wh0_1, .str "drop" wk0_1, .ref f17⟩, ⟨wh0_2, .str "get" wk0_2, .ref f17⟩, ⟨wh0_3, .str "add" wk0_3, .ref f18⟩, ⟨wh0_4, .str "swap" wk0_4, .ref f19⟩, ⟨wh0_5, .str "list" wk0_5, .ref f20⟩, ⟨wh0_6, .str "all" wk0_6, .ref f21⟩, ⟨wh0_7, .str "circle" wk0_7, .ref f23⟩]) wn0, #[]⟩)
    (wH0_0 : wh0_0 = PyData.keyHash w.params "put")
    (wH0_1 : wh0_1 = PyData.keyHash w.params "drop")
    (wH0_2 : wh0_2 = PyData.keyHash w.params "get")
    (wH0_3 : wh0_3 = PyData.keyHash w.params "add")
    (wH0_4 : wh0_4 = PyData.keyHash w.params "swap")
    (wH0_5 : wh0_5 = PyData.keyHash w.params "list")
    (wH0_6 : wh0_6 = PyData.keyHash w.params "all")
    (wH0_7 : wh0_7 = PyData.keyHash w.params "circle")
    (wz0 : (wa0 == sysModules) = false)
    (wx1 : PySem.W.nsIn K mainGlobals "HOUSE_FORMS" = some (some (.ref wa1)))
    (wl1 : K.lookup wa1 = some ⟨.type "dict", none, .dict (List.toArray [⟨wh1_0, .str "ask" wk1_0, .ref f28⟩, ⟨wh1_1, .str "grant" wk1_1, .ref f29⟩, ⟨wh1_2, .str "bar" wk1_2, .ref f30⟩, ⟨wh1_3, .str "lay" wk1_3, .ref f31⟩, ⟨wh1_4, .str "laid" wk1_4, .ref f32⟩, ⟨wh1_5, .str "carry" wk1_5, .ref f33⟩, ⟨wh1_6, .str "begun" wk1_6, .ref f34⟩]) wn1, #[]⟩)
    (wH1_0 : wh1_0 = PyData.keyHash w.params "ask")
    (wH1_1 : wh1_1 = PyData.keyHash w.params "grant")
    (wH1_2 : wh1_2 = PyData.keyHash w.params "bar")
    (wH1_3 : wh1_3 = PyData.keyHash w.params "lay")
    (wH1_4 : wh1_4 = PyData.keyHash w.params "laid")
    (wH1_5 : wh1_5 = PyData.keyHash w.params "carry")
    (wH1_6 : wh1_6 = PyData.keyHash w.params "begun")
    (wz1 : (wa1 == sysModules) = false)
    (wx2 : PySem.W.nsIn K mainGlobals "CLIENT_FORMS" = some (some (.ref wa2)))
    (wl2 : K.lookup wa2 = some ⟨.type "dict", none, .dict (List.toArray [⟨wh2_0, .str "deed" wk2_0, .ref f35⟩, ⟨wh2_1, .str "answer" wk2_1, .ref f36⟩, ⟨wh2_2, .str "try" wk2_2, .ref f37⟩]) wn2, #[]⟩)
    (wH2_0 : wh2_0 = PyData.keyHash w.params "deed")
    (wH2_1 : wh2_1 = PyData.keyHash w.params "answer")
    (wH2_2 : wh2_2 = PyData.keyHash w.params "try")
    (wz2 : (wa2 == sysModules) = false)
    (lne0_1 : pp61 ≠ pp62)
    (al0 : PySem.W.nsIn K mainGlobals "made_letters" = some (some (.ref f25)))
    : LawG l w K CX0 56 63 "script" mg fa h := by
  have e := hfa.symm.trans (PySem.W.mg_of X G a62)
  cases e
  have F0 := fun_mk (st := s_is_number) l0 c0 k0
  have b0 := F0.binds (ps := ["value"]) fun _ _ _ _ _ _ us hl => match us, hl with | [_], _ => rfl
  have F1 := fun_mk (st := s_is_within) l1 c1 k1
  have b1 := F1.binds (ps := ["value", "least", "most"]) fun _ _ _ _ _ _ us hl => match us, hl with | [_, _, _], _ => rfl
  have F2 := fun_mk (st := s_is_house) l2 c2 k2
  have b2 := F2.binds (ps := ["value"]) fun _ _ _ _ _ _ us hl => match us, hl with | [_], _ => rfl
  have F3 := fun_mk (st := s_is_client) l3 c3 k3
  have b3 := F3.binds (ps := ["value"]) fun _ _ _ _ _ _ us hl => match us, hl with | [_], _ => rfl
  have F4 := fun_mk (st := s_is_circle) l4 c4 k4
  have b4 := F4.binds (ps := ["value"]) fun _ _ _ _ _ _ us hl => match us, hl with | [_], _ => rfl
  have F5 := fun_mk (st := s_are_indices) l5 c5 k5
  have b5 := F5.binds (ps := ["value", "many"]) fun _ _ _ _ _ _ us hl => match us, hl with | [_, _], _ => rfl
  have F6 := fun_mk (st := s_are_ascending) l6 c6 k6
  have b6 := F6.binds (ps := ["row"]) fun _ _ _ _ _ _ us hl => match us, hl with | [_], _ => rfl
  have F7 := fun_mk (st := s_is_made_of) l7 c7 k7
  have b7 := F7.binds (ps := ["value", "signs", "most"]) fun _ _ _ _ _ _ us hl => match us, hl with | [_, _, _], _ => rfl
  have F8 := fun_mk (st := s_is_key) l8 c8 k8
  have b8 := F8.binds (ps := ["value"]) fun _ _ _ _ _ _ us hl => match us, hl with | [_], _ => rfl
  have F9 := fun_mk (st := s_is_short_number) l9 c9 k9
  have b9 := F9.binds (ps := ["value"]) fun _ _ _ _ _ _ us hl => match us, hl with | [_], _ => rfl
  have F10 := fun_mk (st := s_is_value) l10 c10 k10
  have b10 := F10.binds (ps := ["value"]) fun _ _ _ _ _ _ us hl => match us, hl with | [_], _ => rfl
  have F11 : FunD K "check_number" "check_number" (defArgs s_check_number) (defBody s_check_number) (defScope s_check_number) [.int (999999999999999999999999999999999999999999999999999999999999)] [] f11 _ := ⟨⟨oc11, od11, .ref dt11, kV11, dc11, pm11, an11, cd11, ct11, sl11, rfl, l11, c11, .inr ⟨by simp, dt11, _, [.int (999999999999999999999999999999999999999999999999999999999999) dk11_0], dn11, rfl, d11, rfl, (.cons ⟨_, rfl⟩ .nil)⟩, .inl rfl⟩, k11⟩
  obtain ⟨ds11, hv11, b11⟩ := F11.binds1 (ps := ["given", "least", "most"]) 3 1 (by simp) rfl fun _ _ _ _ _ _ _ us its hu hi => match us, hu, its, hi with | [_, _, _], _, [_], _ => ⟨_, rfl, rfl⟩
  cases hv11
  have dd11 := F11.binds1 (ps := ["given", "least", "most"]) 2 0 (by simp) rfl fun _ _ _ _ _ _ _ us its hu hi => match us, hu, its, hi with | [_, _], _, [_], _ => ⟨_, rfl, rfl⟩
  have F12 := fun_mk (st := s_check_house) l12 c12 k12
  have b12 := F12.binds (ps := ["given"]) fun _ _ _ _ _ _ us hl => match us, hl with | [_], _ => rfl
  have F13 := fun_mk (st := s_check_client) l13 c13 k13
  have b13 := F13.binds (ps := ["given"]) fun _ _ _ _ _ _ us hl => match us, hl with | [_], _ => rfl
  have F14 := fun_mk (st := s_is_worth) l14 c14 k14
  have b14 := F14.binds (ps := ["value"]) fun _ _ _ _ _ _ us hl => match us, hl with | [_], _ => rfl
  have F15 := fun_mk (st := s_word_of) l15 c15 k15
  have b15 := F15.binds (ps := ["value"]) fun _ _ _ _ _ _ us hl => match us, hl with | [_], _ => rfl
  have F16 := fun_mk (st := s_is_put) l16 c16 k16
  have b16 := F16.binds (ps := ["value"]) fun _ _ _ _ _ _ us hl => match us, hl with | [_], _ => rfl
  have F17 := fun_mk (st := s_is_of_key) l17 c17 k17
  have b17 := F17.binds (ps := ["value"]) fun _ _ _ _ _ _ us hl => match us, hl with | [_], _ => rfl
  have F18 := fun_mk (st := s_is_add) l18 c18 k18
  have b18 := F18.binds (ps := ["value"]) fun _ _ _ _ _ _ us hl => match us, hl with | [_], _ => rfl
  have F19 := fun_mk (st := s_is_swap) l19 c19 k19
  have b19 := F19.binds (ps := ["value"]) fun _ _ _ _ _ _ us hl => match us, hl with | [_], _ => rfl
  have F20 := fun_mk (st := s_is_list) l20 c20 k20
  have b20 := F20.binds (ps := ["value"]) fun _ _ _ _ _ _ us hl => match us, hl with | [_], _ => rfl
  have F21 := fun_mk (st := s_is_all) l21 c21 k21
  have b21 := F21.binds (ps := ["value"]) fun _ _ _ _ _ _ us hl => match us, hl with | [_], _ => rfl
  have F22 := fun_mk (st := s_has_lot_size) l22 c22 k22
  have b22 := F22.binds (ps := ["value"]) fun _ _ _ _ _ _ us hl => match us, hl with | [_], _ => rfl
  have F23 := fun_mk (st := s_is_of_circle) l23 c23 k23
  have b23 := F23.binds (ps := ["value"]) fun _ _ _ _ _ _ us hl => match us, hl with | [_], _ => rfl
  have F24 := fun_mk (st := s_is_deed) l24 c24 k24
  have b24 := F24.binds (ps := ["value"]) fun _ _ _ _ _ _ us hl => match us, hl with | [_], _ => rfl
  have F25 := fun_mk (st := s_made) l25 c25 k25
  have b25 := F25.binds (ps := ["letters"]) fun _ _ _ _ _ _ us hl => match us, hl with | [_], _ => rfl
  have F26 := fun_mk (st := s_is_count) l26 c26 k26
  have b26 := F26.binds (ps := ["value"]) fun _ _ _ _ _ _ us hl => match us, hl with | [_], _ => rfl
  have F27 := fun_mk (st := s_is_call_number) l27 c27 k27
  have b27 := F27.binds (ps := ["value"]) fun _ _ _ _ _ _ us hl => match us, hl with | [_], _ => rfl
  have F28 := fun_mk (st := s_is_ask) l28 c28 k28
  have b28 := F28.binds (ps := ["rest"]) fun _ _ _ _ _ _ us hl => match us, hl with | [_], _ => rfl
  have F29 := fun_mk (st := s_is_grant) l29 c29 k29
  have b29 := F29.binds (ps := ["rest"]) fun _ _ _ _ _ _ us hl => match us, hl with | [_], _ => rfl
  have F30 := fun_mk (st := s_is_bar) l30 c30 k30
  have b30 := F30.binds (ps := ["rest"]) fun _ _ _ _ _ _ us hl => match us, hl with | [_], _ => rfl
  have F31 := fun_mk (st := s_is_lay) l31 c31 k31
  have b31 := F31.binds (ps := ["rest"]) fun _ _ _ _ _ _ us hl => match us, hl with | [_], _ => rfl
  have F32 := fun_mk (st := s_is_laid) l32 c32 k32
  have b32 := F32.binds (ps := ["rest"]) fun _ _ _ _ _ _ us hl => match us, hl with | [_], _ => rfl
  have F33 := fun_mk (st := s_is_carry) l33 c33 k33
  have b33 := F33.binds (ps := ["rest"]) fun _ _ _ _ _ _ us hl => match us, hl with | [_], _ => rfl
  have F34 := fun_mk (st := s_is_begun) l34 c34 k34
  have b34 := F34.binds (ps := ["rest"]) fun _ _ _ _ _ _ us hl => match us, hl with | [_], _ => rfl
  have F35 := fun_mk (st := s_is_call) l35 c35 k35
  have b35 := F35.binds (ps := ["letter"]) fun _ _ _ _ _ _ us hl => match us, hl with | [_], _ => rfl
  have F36 := fun_mk (st := s_is_reply) l36 c36 k36
  have b36 := F36.binds (ps := ["letter"]) fun _ _ _ _ _ _ us hl => match us, hl with | [_], _ => rfl
  have F37 := fun_mk (st := s_is_try) l37 c37 k37
  have b37 := F37.binds (ps := ["letter"]) fun _ _ _ _ _ _ us hl => match us, hl with | [_], _ => rfl
  have F38 := fun_mk (st := s_is_letter) l38 c38 k38
  have b38 := F38.binds (ps := ["value"]) fun _ _ _ _ _ _ us hl => match us, hl with | [_], _ => rfl
  have F39 := fun_mk (st := s_is_house_letter) l39 c39 k39
  have b39 := F39.binds (ps := ["value"]) fun _ _ _ _ _ _ us hl => match us, hl with | [_], _ => rfl
  have F40 := fun_mk (st := s_check_letter) l40 c40 k40
  have b40 := F40.binds (ps := ["value"]) fun _ _ _ _ _ _ us hl => match us, hl with | [_], _ => rfl
  have F41 := fun_mk (st := s_check_letters) l41 c41 k41
  have b41 := F41.binds (ps := ["value"]) fun _ _ _ _ _ _ us hl => match us, hl with | [_], _ => rfl
  have F42 := fun_mk (st := s_sender) l42 c42 k42
  have b42 := F42.binds (ps := ["letter"]) fun _ _ _ _ _ _ us hl => match us, hl with | [_], _ => rfl
  have F43 := fun_mk (st := s_receiver) l43 c43 k43
  have b43 := F43.binds (ps := ["letter"]) fun _ _ _ _ _ _ us hl => match us, hl with | [_], _ => rfl
  have F44 : FunD K "__init__" "Bag.__init__" (defArgs s_Bag_init) (defBody s_Bag_init) (defScope s_Bag_init) [.ref et44] [] f44 _ := ⟨⟨oc44, od44, .ref dt44, kV44, dc44, pm44, an44, cd44, ct44, sl44, rfl, l44, c44, .inr ⟨by simp, dt44, _, [.ref et44], dn44, rfl, d44, rfl, (.cons rfl .nil)⟩, .inl rfl⟩, k44⟩
  obtain ⟨ds44, hv44, b44⟩ := F44.binds1 (ps := ["self", "letters"]) 2 1 (by simp) rfl fun _ _ _ _ _ _ _ us its hu hi => match us, hu, its, hi with | [_, _], _, [_], _ => ⟨_, rfl, rfl⟩
  cases hv44
  have dd44 := F44.binds1 (ps := ["self", "letters"]) 1 0 (by simp) rfl fun _ _ _ _ _ _ _ us its hu hi => match us, hu, its, hi with | [_], _, [_], _ => ⟨_, rfl, rfl⟩
  have F45 := fun_mk (st := s_Bag_letters) l45 c45 k45
  have b45 := F45.binds (ps := ["self"]) fun _ _ _ _ _ _ us hl => match us, hl with | [_], _ => rfl
  have F46 := fun_mk (st := s_Bag_sent) l46 c46 k46
  have b46 := F46.binds (ps := ["self", "letters"]) fun _ _ _ _ _ _ us hl => match us, hl with | [_, _], _ => rfl
  have F47 := fun_mk (st := s_Bag_taken) l47 c47 k47
  have b47 := F47.binds (ps := ["self", "index"]) fun _ _ _ _ _ _ us hl => match us, hl with | [_, _], _ => rfl
  have F48 := fun_mk (st := s_Bag_lost) l48 c48 k48
  have b48 := F48.binds (ps := ["self", "index"]) fun _ _ _ _ _ _ us hl => match us, hl with | [_, _], _ => rfl
  have F49 := fun_mk (st := s_Bag_doubled) l49 c49 k49
  have b49 := F49.binds (ps := ["self", "index"]) fun _ _ _ _ _ _ us hl => match us, hl with | [_, _], _ => rfl
  have F50 := fun_mk (st := s_Bag_to_house) l50 c50 k50
  have b50 := F50.binds (ps := ["self", "house"]) fun _ _ _ _ _ _ us hl => match us, hl with | [_, _], _ => rfl
  have F51 := fun_mk (st := s_Bag_to_client) l51 c51 k51
  have b51 := F51.binds (ps := ["self", "client"]) fun _ _ _ _ _ _ us hl => match us, hl with | [_, _], _ => rfl
  have F52 := fun_mk (st := s_Bag_has_same) l52 c52 k52
  have b52 := F52.binds (ps := ["self", "other"]) fun _ _ _ _ _ _ us hl => match us, hl with | [_, _], _ => rfl
  have F53 := fun_mk (st := s_Bag_len) l53 c53 k53
  have b53 := F53.binds (ps := ["self"]) fun _ _ _ _ _ _ us hl => match us, hl with | [_], _ => rfl
  have F54 := fun_mk (st := s_Bag_iter) l54 c54 k54
  have b54 := F54.binds (ps := ["self"]) fun _ _ _ _ _ _ us hl => match us, hl with | [_], _ => rfl
  have F55 := fun_mk (st := s_Bag_eq) l55 c55 k55
  have b55 := F55.binds (ps := ["self", "other"]) fun _ _ _ _ _ _ us hl => match us, hl with | [_, _], _ => rfl
  have F56 := fun_mk (st := s_Bag_str) l56 c56 k56
  have b56 := F56.binds (ps := ["self"]) fun _ _ _ _ _ _ us hl => match us, hl with | [_], _ => rfl
  have F57 := fun_mk (st := s_law_dice) l57 c57 k57
  have b57 := F57.binds (ps := ["script", "spot"]) fun _ _ _ _ _ _ us hl => match us, hl with | [_, _], _ => rfl
  have F58 := fun_mk (st := s_law_roll) l58 c58 k58
  have b58 := F58.binds (ps := ["dice", "most"]) fun _ _ _ _ _ _ us hl => match us, hl with | [_, _], _ => rfl
  have F59 := fun_mk (st := s_law_pick) l59 c59 k59
  have b59 := F59.binds (ps := ["dice", "items"]) fun _ _ _ _ _ _ us hl => match us, hl with | [_, _], _ => rfl
  have F60 := fun_mk (st := s_law_met) l60 c60 k60
  have b60 := F60.binds (ps := ["call"]) fun _ _ _ _ _ _ us hl => match us, hl with | [_], _ => rfl
  have F61 := fun_mk (st := s_law_right) l61 c61 k61
  have b61 := F61.binds (ps := ["dice", "bag"]) fun _ _ _ _ _ _ us hl => match us, hl with | [_, _], _ => rfl
  have F62 := fun_mk (st := s_law) l62 c62 k62
  have b62 := F62.binds (ps := ["script"]) fun _ _ _ _ _ _ us hl => match us, hl with | [_], _ => rfl
  have F63 := fun_mk (st := s_InvalidNumber_init) l63 c63 k63
  have b63 := F63.binds (ps := ["self", "given"]) fun _ _ _ _ _ _ us hl => match us, hl with | [_, _], _ => rfl
  have F64 := fun_mk (st := s_TooMany_init) l64 c64 k64
  have b64 := F64.binds (ps := ["self", "limit"]) fun _ _ _ _ _ _ us hl => match us, hl with | [_, _], _ => rfl
  have T : Txt K mg ⟨CBag, f0, f1, f2, f3, f4, f5, f6, f7, f8, f9, f10, f11, f12, f13, f14, f15, f16, f17, f18, f19, f20, f21, f22, f23, f24, f25, f26, f27, f28, f29, f30, f31, f32, f33, f34, f35, f36, f37, f38, f39, f40, f41, f42, f43, f44, f45, f46, f47, f48, f49, f50, f51, f52, f53, f54, f55, f56, f57, f58, f59, f60, f61, fa, f63, f64, EInvalidDeed, EInvalidState, EInvalidLetter, EInvalidOperation, EInvalidNumber, ETooMany, et44⟩ ⟨_, _, _, _, _, _, _, _, _, _, _, _, _, _, _, _, _, _, _, _, _, _, _, _, _, _, _, _, _, _, _, _, _, _, _, _, _, _, _, _, _, _, _, _, _, _, _, _, _, _, _, _, _, _, _, _, _, _, _, _, _, _, _, _, _⟩ :=
    ⟨PySem.W.mg_of X G a0,
     F0,
     b0,
     PySem.W.mg_of X G a1,
     F1,
     b1,
     PySem.W.mg_of X G a2,
     F2,
     b2,
     PySem.W.mg_of X G a3,
     F3,
     b3,
     PySem.W.mg_of X G a4,
     F4,
     b4,
     PySem.W.mg_of X G a5,
     F5,
     b5,
     PySem.W.mg_of X G a6,
     F6,
     b6,
     PySem.W.mg_of X G a7,
     F7,
     b7,
     PySem.W.mg_of X G a8,
     F8,
     b8,
     PySem.W.mg_of X G a9,
     F9,
     b9,
     PySem.W.mg_of X G a10,
     F10,
     b10,
     PySem.W.mg_of X G a11,
     F11,
     dd11,
     b11,
     PySem.W.mg_of X G a12,
     F12,
     b12,
     PySem.W.mg_of X G a13,
     F13,
     b13,
     PySem.W.mg_of X G a14,
     F14,
     b14,
     PySem.W.mg_of X G a15,
     F15,
     b15,
     PySem.W.mg_of X G a16,
     F16,
     b16,
     PySem.W.mg_of X G a17,
     F17,
     b17,
     PySem.W.mg_of X G a18,
     F18,
     b18,
     PySem.W.mg_of X G a19,
     F19,
     b19,
     PySem.W.mg_of X G a20,
     F20,
     b20,
     PySem.W.mg_of X G a21,
     F21,
     b21,
     PySem.W.mg_of X G a22,
     F22,
     b22,
     PySem.W.mg_of X G a23,
     F23,
     b23,
     PySem.W.mg_of X G a24,
     F24,
     b24,
     PySem.W.mg_of X G a25,
     F25,
     b25,
     PySem.W.mg_of X G a26,
     F26,
     b26,
     PySem.W.mg_of X G a27,
     F27,
     b27,
     PySem.W.mg_of X G a28,
     F28,
     b28,
     PySem.W.mg_of X G a29,
     F29,
     b29,
     PySem.W.mg_of X G a30,
     F30,
     b30,
     PySem.W.mg_of X G a31,
     F31,
     b31,
     PySem.W.mg_of X G a32,
     F32,
     b32,
     PySem.W.mg_of X G a33,
     F33,
     b33,
     PySem.W.mg_of X G a34,
     F34,
     b34,
     PySem.W.mg_of X G a35,
     F35,
     b35,
     PySem.W.mg_of X G a36,
     F36,
     b36,
     PySem.W.mg_of X G a37,
     F37,
     b37,
     PySem.W.mg_of X G a38,
     F38,
     b38,
     PySem.W.mg_of X G a39,
     F39,
     b39,
     PySem.W.mg_of X G a40,
     F40,
     b40,
     PySem.W.mg_of X G a41,
     F41,
     b41,
     PySem.W.mg_of X G a42,
     F42,
     b42,
     PySem.W.mg_of X G a43,
     F43,
     b43,
     F44,
     dd44,
     b44,
     F45,
     b45,
     F46,
     b46,
     F47,
     b47,
     F48,
     b48,
     F49,
     b49,
     F50,
     b50,
     F51,
     b51,
     F52,
     b52,
     F53,
     b53,
     F54,
     b54,
     F55,
     b55,
     F56,
     b56,
     PySem.W.mg_of X G a57,
     F57,
     b57,
     PySem.W.mg_of X G a58,
     F58,
     b58,
     PySem.W.mg_of X G a59,
     F59,
     b59,
     PySem.W.mg_of X G a60,
     F60,
     b60,
     PySem.W.mg_of X G a61,
     F61,
     b61,
     PySem.W.mg_of X G a62,
     F62,
     b62,
     F63,
     b63,
     F64,
     b64,
     PySem.W.mg_of X G al0,
     fun _ => .inr ⟨_, _, _, eh44, rfl, rfl, by rw [sizeLine_eq]; exact (by decide : 0 ≤ 16777216), .nil⟩,
     PySem.W.mg_of X G aCBag,
     ⟨zBagpg, zBaghd, zBagpo, zBagsa⟩,
     ⟨zBagmk, a44, i44, zBagkc⟩,
     ⟨zBagca, zBagcg, zBagct, zBagco⟩,
     ⟨zBagrd, zBagga⟩,
     zBagkNoneType,
     zBagfNoneType,
     zBagktuple,
     zBagftuple,
     zBagkint,
     zBagfint,
     zBagkstr,
     zBagfstr,
     zBagklist,
     zBagflist,
     zBagkbool,
     zBagfbool,
     zBagkdict,
     zBagfdict,
     zBagne,
     zBagno_letters,
     ⟨a44, i44, k44⟩,
     ⟨_, a45, g45, t45, _, r45⟩,
     ⟨a46, i46, k46⟩,
     ⟨a47, i47, k47⟩,
     ⟨a48, i48, k48⟩,
     ⟨a49, i49, k49⟩,
     ⟨a50, i50, k50⟩,
     ⟨a51, i51, k51⟩,
     ⟨a52, i52, k52⟩,
     ⟨a53, i53, k53⟩,
     ⟨a54, i54, k54⟩,
     ⟨a55, i55, k55⟩,
     ⟨a56, i56, k56⟩,
     ⟨_, PySem.W.mg_of X G x0⟩,
     ⟨_, PySem.W.mg_of X G x1⟩,
     ⟨_, PySem.W.mg_of X G x2⟩,
     ⟨_, PySem.W.mg_of X G x3⟩,
     ⟨_, PySem.W.mg_of X G x4⟩,
     ⟨_, PySem.W.mg_of X G x5⟩,
     ⟨_, PySem.W.mg_of X G x6⟩,
     ⟨_, PySem.W.mg_of X G x7⟩,
     ⟨_, PySem.W.mg_of X G x8⟩,
     ⟨_, PySem.W.mg_of X G x9⟩,
     ⟨_, PySem.W.mg_of X G x10⟩,
     ⟨_, PySem.W.mg_of X G x11⟩,
     ⟨_, PySem.W.mg_of X G x12⟩,
     ⟨_, PySem.W.mg_of X G x13⟩,
     ⟨_, PySem.W.mg_of X G x14⟩,
     ⟨_, PySem.W.mg_of X G x15⟩,
     ⟨_, PySem.W.mg_of X G x16⟩,
     ⟨_, PySem.W.mg_of X G x17⟩,
     ⟨_, PySem.W.mg_of X G x18⟩,
     ⟨xa0, PySem.W.mg_of X G xx0, fun _ => .inr ⟨_, _, _, xl0, rfl, rfl, by rw [sizeLine_eq]; exact (by decide : 5 ≤ 16777216), (.cons ⟨_, rfl⟩ (.cons ⟨_, rfl⟩ (.cons ⟨_, rfl⟩ (.cons ⟨_, rfl⟩ (.cons ⟨_, rfl⟩ .nil)))))⟩⟩,
     ⟨xa1, PySem.W.mg_of X G xx1, fun _ => .inr ⟨_, _, _, xl1, rfl, rfl, by rw [sizeLine_eq]; exact (by decide : 4 ≤ 16777216), (.cons ⟨_, rfl⟩ (.cons ⟨_, rfl⟩ (.cons ⟨_, rfl⟩ (.cons ⟨_, rfl⟩ .nil))))⟩⟩,
     ⟨xa2, PySem.W.mg_of X G xx2, fun _ => .inr ⟨_, _, _, xl2, rfl, rfl, by rw [sizeLine_eq]; exact (by decide : 4 ≤ 16777216), (.cons ⟨_, rfl⟩ (.cons ⟨_, rfl⟩ (.cons ⟨_, rfl⟩ (.cons ⟨_, rfl⟩ .nil))))⟩⟩,
     ⟨xa3, PySem.W.mg_of X G xx3, fun _ => .inr ⟨_, _, _, xl3, rfl, rfl, by rw [sizeLine_eq]; exact (by decide : 7 ≤ 16777216), (.cons ⟨_, rfl⟩ (.cons ⟨_, rfl⟩ (.cons ⟨_, rfl⟩ (.cons ⟨_, rfl⟩ (.cons ⟨_, rfl⟩ (.cons ⟨_, rfl⟩ (.cons ⟨_, rfl⟩ .nil)))))))⟩⟩,
     PySem.W.mg_none_of X G y0,
     PySem.W.mg_none_of X G y1,
     PySem.W.mg_none_of X G y2,
     PySem.W.mg_none_of X G y3,
     PySem.W.mg_none_of X G y4,
     PySem.W.mg_none_of X G y5,
     PySem.W.mg_none_of X G y6,
     PySem.W.mg_none_of X G y7,
     PySem.W.mg_none_of X G y8,
     PySem.W.mg_none_of X G y9,
     PySem.W.mg_none_of X G y10,
     PySem.W.mg_none_of X G y11,
     PySem.W.mg_none_of X G y12,
     PySem.W.mg_none_of X G y13,
     PySem.W.mg_none_of X G y14,
     PySem.W.mg_none_of X G y15,
     PySem.W.mg_none_of X G y16,
     ⟨PySem.W.mg_of X G aEInvalidDeed, qEInvalidDeed, zEInvalidDeedkc, zEInvalidDeedsb, zEInvalidDeedty⟩,
     ⟨PySem.W.mg_of X G aEInvalidState, qEInvalidState, zEInvalidStatekc, zEInvalidStatesb, zEInvalidStatety⟩,
     ⟨PySem.W.mg_of X G aEInvalidLetter, qEInvalidLetter, zEInvalidLetterkc, zEInvalidLettersb, zEInvalidLetterty⟩,
     ⟨PySem.W.mg_of X G aEInvalidOperation, qEInvalidOperation, zEInvalidOperationkc, zEInvalidOperationsb, zEInvalidOperationty⟩,
     ⟨PySem.W.mg_of X G aEInvalidNumber, oexCT exT_index zEInvalidNumberoi zEInvalidNumbersa zEInvalidNumbersb zEInvalidNumberty zEInvalidNumberkc, xfB_ok zEInvalidNumberxf, zEInvalidNumberini, zEInvalidNumberfn⟩,
     zEInvalidNumbernogiven,
     ⟨PySem.W.mg_of X G aETooMany, oexCT exT_over zETooManyoi zETooManysa zETooManysb zETooManyty zETooManykc, xfB_ok zETooManyxf, zETooManyini, zETooManyfn⟩,
     zETooManynolimit,
     zEInvalidDeedInvalidLetter,
     zEInvalidDeedInvalidNumber,
     zEInvalidDeedInvalidOperation,
     zEInvalidDeedTooMany,
     zEInvalidStateInvalidLetter,
     zEInvalidStateInvalidNumber,
     zEInvalidStateInvalidOperation,
     zEInvalidStateTooMany,
     zEInvalidLetterInvalidLetter,
     zEInvalidLetterInvalidNumber,
     zEInvalidLetterInvalidOperation,
     zEInvalidLetterTooMany,
     zEInvalidOperationInvalidLetter,
     zEInvalidOperationInvalidNumber,
     zEInvalidOperationInvalidOperation,
     zEInvalidOperationTooMany,
     zEInvalidNumberInvalidLetter,
     zEInvalidNumberInvalidNumber,
     zEInvalidNumberInvalidOperation,
     zEInvalidNumberTooMany,
     zETooManyInvalidLetter,
     zETooManyInvalidNumber,
     zETooManyInvalidOperation,
     zETooManyTooMany⟩
  have U : Tab K w mg ⟨CBag, f0, f1, f2, f3, f4, f5, f6, f7, f8, f9, f10, f11, f12, f13, f14, f15, f16, f17, f18, f19, f20, f21, f22, f23, f24, f25, f26, f27, f28, f29, f30, f31, f32, f33, f34, f35, f36, f37, f38, f39, f40, f41, f42, f43, f44, f45, f46, f47, f48, f49, f50, f51, f52, f53, f54, f55, f56, f57, f58, f59, f60, f61, fa, f63, f64, EInvalidDeed, EInvalidState, EInvalidLetter, EInvalidOperation, EInvalidNumber, ETooMany, et44⟩ :=
    ⟨⟨wa0, PySem.W.mg_of X G wx0, tab_mk (rows := [("put", wh0_0, wk0_0, f16), ("drop", wh0_1, wk0_1, f17), ("get", wh0_2, wk0_2, f17), ("add", wh0_3, wk0_3, f18), ("swap", wh0_4, wk0_4, f19), ("list", wh0_5, wk0_5, f20), ("all", wh0_6, wk0_6, f21), ("circle", wh0_7, wk0_7, f23)]) wl0 ⟨wH0_0, wH0_1, wH0_2, wH0_3, wH0_4, wH0_5, wH0_6, wH0_7, trivial⟩ wz0⟩,
     ⟨wa1, PySem.W.mg_of X G wx1, tab_mk (rows := [("ask", wh1_0, wk1_0, f28), ("grant", wh1_1, wk1_1, f29), ("bar", wh1_2, wk1_2, f30), ("lay", wh1_3, wk1_3, f31), ("laid", wh1_4, wk1_4, f32), ("carry", wh1_5, wk1_5, f33), ("begun", wh1_6, wk1_6, f34)]) wl1 ⟨wH1_0, wH1_1, wH1_2, wH1_3, wH1_4, wH1_5, wH1_6, trivial⟩ wz1⟩,
     ⟨wa2, PySem.W.mg_of X G wx2, tab_mk (rows := [("deed", wh2_0, wk2_0, f35), ("answer", wh2_1, wk2_1, f36), ("try", wh2_2, wk2_2, f37)]) wl2 ⟨wH2_0, wH2_1, wH2_2, trivial⟩ wz2⟩⟩
  have tA : ∀ p ∈ [(cc61, pp61), (cc62, pp62)], h.get? p.2 = some { cls := .none, data := .fields #[] } := fun p hp => by
    rcases List.mem_cons.mp hp with rfl | hp
    · exact lt61
    rw [List.mem_singleton.mp hp]
    exact lt62
  have tN : ∀ p ∈ [(cc61, pp61), (cc62, pp62)], K.lookup p.2 = none := fun p hp => by
    rcases List.mem_cons.mp hp with rfl | hp
    · exact ln61
    rw [List.mem_singleton.mp hp]
    exact ln62
  have tC : ∀ p ∈ [(cc61, pp61), (cc62, pp62)], PySem.W.CodeHd h p.1 p.2 := fun p hp => by
    rcases List.mem_cons.mp hp with rfl | hp
    · exact PySem.W.codeHd_of_K X lq61
    rw [List.mem_singleton.mp hp]
    exact PySem.W.codeHd_of_K X lq62
  refine ⟨PySem.W.fnOf "law" "law" (defArgs s_law) (defBody s_law) (defScope s_law) .none kV62 dc62 pm62 an62 (.ref cc62) ct62, [(cc61, pp61), (cc62, pp62)], sp_law K ⟨cc61, pp61, cc62, pp62⟩, tA, tN, tC, fun s v => .of_eq rfl, fun H a ns hl hT hS => ⟨a, ns, rfl, hS, hl, fun p hp => ?_, fun _ => rfl⟩, fun base _ _ TB => ok_law T U ⟨rfl, TB _ List.mem_cons_self, rfl, TB _ (List.mem_cons_of_mem _ List.mem_cons_self), lne0_1⟩⟩
  rcases List.mem_cons.mp hp with rfl | hp
  · exact LamX.TabS.nil (hT (cc61, pp61) List.mem_cons_self)
  rw [List.mem_singleton.mp hp]
  exact LamX.TabS.nil (hT (cc62, pp62) (List.mem_cons_of_mem _ List.mem_cons_self))
theorem walk {l : PySem.W.OpenLaw} {q : Program} {loose : List Str} {XP : (Str → Option Value) → Heap → Prop} {YP : World → Heap → Prop} {d : DefRec} {K : Params → PySem.W.Frag} (hn : l.most = some 63) (hdf : d.params.defaults = [])
    (hY : ∀ (w : World) (h : Heap), YP w h → (K w.params).In h)
    (F : ∀ (w : World) (mg : Str → Option Value) (fa : Addr) (h : Heap), YP w h → (K w.params).In h → h.Ns mainGlobals mg → mg d.name = some (.ref fa) →
      LawG l w (K w.params) CX0 56 63 "script" mg fa h) :
    PySem.W.WalkO q loose XP YP l.row.toRowW d [] (fun f vs => PySem.call f vs) :=
  walk_ofG (n := 63) (k := 56) (x := "script") (CXr := fun _ => CX0) hn (by rw [sizeLine_eq]; decide) hdf ⟨rfl, by decide, by decide⟩ hY F fun _ _ _ _ _ z => z
section
open PySem.W PySem.Calls
def KX (P : Params) : PySem.W.Frag :=
(nat_lit 2, ⟨.none, none, (.dict (List.toArray [⟨PyData.keyHash P (PySem.Str.ofString "type.__subclasses__.IndexError.0"), (.str (PySem.Str.ofString "type.__subclasses__.IndexError.0") 303), (.int (99) 0)⟩, ⟨PyData.keyHash P (PySem.Str.ofString "type.__subclasses__.IndexError.n"), (.str (PySem.Str.ofString "type.__subclasses__.IndexError.n") 304), (.int (1) 0)⟩, ⟨PyData.keyHash P (PySem.Str.ofString "type.__subclasses__.OverflowError.0"), (.str (PySem.Str.ofString "type.__subclasses__.OverflowError.0") 332), (.int (119) 0)⟩, ⟨PyData.keyHash P (PySem.Str.ofString "type.__subclasses__.OverflowError.n"), (.str (PySem.Str.ofString "type.__subclasses__.OverflowError.n") 333), (.int (1) 0)⟩]) 4), (List.toArray [])⟩) ::
(nat_lit 3, ⟨(.type "dict"), none, (.dict (List.toArray [⟨PyData.keyHash P (PySem.Str.ofString "__name__"), (.str (PySem.Str.ofString "__name__") 165), (.str (PySem.Str.ofString "law_halvesmeet_k30_errors_of_letters_and_bag") 1445)⟩, ⟨PyData.keyHash P (PySem.Str.ofString "__doc__"), (.str (PySem.Str.ofString "__doc__") 166), .none⟩, ⟨PyData.keyHash P (PySem.Str.ofString "__package__"), (.str (PySem.Str.ofString "__package__") 167), .none⟩, ⟨PyData.keyHash P (PySem.Str.ofString "__loader__"), (.str (PySem.Str.ofString "__loader__") 168), (.builtin "__main__.__loader__#opaque")⟩, ⟨PyData.keyHash P (PySem.Str.ofString "__spec__"), (.str (PySem.Str.ofString "__spec__") 169), .none⟩, ⟨PyData.keyHash P (PySem.Str.ofString "__annotations__"), (.str (PySem.Str.ofString "__annotations__") 170), (.ref 6)⟩, ⟨PyData.keyHash P (PySem.Str.ofString "__builtins__"), (.str (PySem.Str.ofString "__builtins__") 171), (.ref 4)⟩, ⟨PyData.keyHash P (PySem.Str.ofString "__file__"), (.str (PySem.Str.ofString "__file__") 173), (.str (PySem.Str.ofString "/claim/cut.py") 172)⟩, ⟨PyData.keyHash P (PySem.Str.ofString "__cached__"), (.str (PySem.Str.ofString "__cached__") 174), .none⟩, ⟨PyData.keyHash P (PySem.Str.ofString "_wall"), (.str (PySem.Str.ofString "_wall") 193), (.ref 21)⟩, ⟨PyData.keyHash P (PySem.Str.ofString "HouseError"), (.str (PySem.Str.ofString "HouseError") 213), (.ref 31)⟩, ⟨PyData.keyHash P (PySem.Str.ofString "InvalidDeed"), (.str (PySem.Str.ofString "InvalidDeed") 229), (.ref 44)⟩, ⟨PyData.keyHash P (PySem.Str.ofString "InvalidState"), (.str (PySem.Str.ofString "InvalidState") 245), (.ref 56)⟩, ⟨PyData.keyHash P (PySem.Str.ofString "InvalidLetter"), (.str (PySem.Str.ofString "InvalidLetter") 261), (.ref 68)⟩, ⟨PyData.keyHash P (PySem.Str.ofString "InvalidOperation"), (.str (PySem.Str.ofString "InvalidOperation") 277), (.ref 80)⟩, ⟨PyData.keyHash P (PySem.Str.ofString "InvalidNumber"), (.str (PySem.Str.ofString "InvalidNumber") 306), (.ref 99)⟩, ⟨PyData.keyHash P (PySem.Str.ofString "TooMany"), (.str (PySem.Str.ofString "TooMany") 335), (.ref 119)⟩, ⟨PyData.keyHash P (PySem.Str.ofString "MAX_HOUSES"), (.str (PySem.Str.ofString "MAX_HOUSES") 339), (.int (9) 338)⟩, ⟨PyData.keyHash P (PySem.Str.ofString "MAX_CIRCLE"), (.str (PySem.Str.ofString "MAX_CIRCLE") 341), (.int (7) 340)⟩, ⟨PyData.keyHash P (PySem.Str.ofString "MAX_CLIENTS"), (.str (PySem.Str.ofString "MAX_CLIENTS") 343), (.int (5) 342)⟩, ⟨PyData.keyHash P (PySem.Str.ofString "MAX_KEYS"), (.str (PySem.Str.ofString "MAX_KEYS") 345), (.int (24) 344)⟩, ⟨PyData.keyHash P (PySem.Str.ofString "MAX_SIGNS"), (.str (PySem.Str.ofString "MAX_SIGNS") 347), (.int (12) 346)⟩, ⟨PyData.keyHash P (PySem.Str.ofString "MAX_LOT"), (.str (PySem.Str.ofString "MAX_LOT") 349), (.int (6) 348)⟩, ⟨PyData.keyHash P (PySem.Str.ofString "MAX_KEY_SIGNS"), (.str (PySem.Str.ofString "MAX_KEY_SIGNS") 351), (.int (8) 350)⟩, ⟨PyData.keyHash P (PySem.Str.ofString "MAX_NUMBER"), (.str (PySem.Str.ofString "MAX_NUMBER") 357), (.int (999999999999999999999999999999999999999999999999999999999999) 356)⟩, ⟨PyData.keyHash P (PySem.Str.ofString "MAX_SHORT_NUMBER"), (.str (PySem.Str.ofString "MAX_SHORT_NUMBER") 363), (.int (999999999999) 362)⟩, ⟨PyData.keyHash P (PySem.Str.ofString "LETTERS"), (.str (PySem.Str.ofString "LETTERS") 365), (.str (PySem.Str.ofString "abcdefghijklmnopqrstuvwxyz") 364)⟩, ⟨PyData.keyHash P (PySem.Str.ofString "SIGNS"), (.str (PySem.Str.ofString "SIGNS") 367), (.str (PySem.Str.ofString "abcdefghijklmnopqrstuvwxyz0123456789 ") 366)⟩, ⟨PyData.keyHash P (PySem.Str.ofString "is_number"), (.str (PySem.Str.ofString "is_number") 374), (.ref 129)⟩, ⟨PyData.keyHash P (PySem.Str.ofString "is_within"), (.str (PySem.Str.ofString "is_within") 383), (.ref 136)⟩, ⟨PyData.keyHash P (PySem.Str.ofString "is_house"), (.str (PySem.Str.ofString "is_house") 390), (.ref 143)⟩, ⟨PyData.keyHash P (PySem.Str.ofString "is_client"), (.str (PySem.Str.ofString "is_client") 397), (.ref 150)⟩, ⟨PyData.keyHash P (PySem.Str.ofString "is_circle"), (.str (PySem.Str.ofString "is_circle") 404), (.ref 157)⟩, ⟨PyData.keyHash P (PySem.Str.ofString "are_indices"), (.str (PySem.Str.ofString "are_indices") 410), (.ref 162)⟩, ⟨PyData.keyHash P (PySem.Str.ofString "are_ascending"), (.str (PySem.Str.ofString "are_ascending") 416), (.ref 167)⟩, ⟨PyData.keyHash P (PySem.Str.ofString "is_made_of"), (.str (PySem.Str.ofString "is_made_of") 425), (.ref 174)⟩, ⟨PyData.keyHash P (PySem.Str.ofString "is_key"), (.str (PySem.Str.ofString "is_key") 432), (.ref 181)⟩, ⟨PyData.keyHash P (PySem.Str.ofString "is_short_number"), (.str (PySem.Str.ofString "is_short_number") 439), (.ref 188)⟩, ⟨PyData.keyHash P (PySem.Str.ofString "is_value"), (.str (PySem.Str.ofString "is_value") 446), (.ref 195)⟩, ⟨PyData.keyHash P (PySem.Str.ofString "check_number"), (.str (PySem.Str.ofString "check_number") 457), (.ref 203)⟩, ⟨PyData.keyHash P (PySem.Str.ofString "check_house"), (.str (PySem.Str.ofString "check_house") 464), (.ref 210)⟩, ⟨PyData.keyHash P (PySem.Str.ofString "check_client"), (.str (PySem.Str.ofString "check_client") 471), (.ref 217)⟩, ⟨PyData.keyHash P (PySem.Str.ofString "MAX_SUM"), (.str (PySem.Str.ofString "MAX_SUM") 479), (.int (999999999999) 478)⟩, ⟨PyData.keyHash P (PySem.Str.ofString "LOT_WORDS"), (.str (PySem.Str.ofString "LOT_WORDS") 485), (.ref 218)⟩, ⟨PyData.keyHash P (PySem.Str.ofString "STOP_WORD"), (.str (PySem.Str.ofString "STOP_WORD") 487), (.str (PySem.Str.ofString "circle") 486)⟩, ⟨PyData.keyHash P (PySem.Str.ofString "LOT_ANSWERS"), (.str (PySem.Str.ofString "LOT_ANSWERS") 492), (.ref 219)⟩, ⟨PyData.keyHash P (PySem.Str.ofString "BREAKS"), (.str (PySem.Str.ofString "BREAKS") 497), (.ref 220)⟩, ⟨PyData.keyHash P (PySem.Str.ofString "GREATEST_KEY"), (.str (PySem.Str.ofString "GREATEST_KEY") 499), (.str (PySem.Str.ofString "zzzzzzzz") 498)⟩, ⟨PyData.keyHash P (PySem.Str.ofString "are_pairs"), (.str (PySem.Str.ofString "are_pairs") 505), (.ref 225)⟩, ⟨PyData.keyHash P (PySem.Str.ofString "_is_worth"), (.str (PySem.Str.ofString "_is_worth") 512), (.ref 232)⟩, ⟨PyData.keyHash P (PySem.Str.ofString "word_of"), (.str (PySem.Str.ofString "word_of") 519), (.ref 239)⟩, ⟨PyData.keyHash P (PySem.Str.ofString "_is_put"), (.str (PySem.Str.ofString "_is_put") 526), (.ref 246)⟩, ⟨PyData.keyHash P (PySem.Str.ofString "_is_of_key"), (.str (PySem.Str.ofString "_is_of_key") 533), (.ref 253)⟩, ⟨PyData.keyHash P (PySem.Str.ofString "_is_add"), (.str (PySem.Str.ofString "_is_add") 540), (.ref 260)⟩, ⟨PyData.keyHash P (PySem.Str.ofString "_is_swap"), (.str (PySem.Str.ofString "_is_swap") 547), (.ref 267)⟩, ⟨PyData.keyHash P (PySem.Str.ofString "_is_list"), (.str (PySem.Str.ofString "_is_list") 554), (.ref 274)⟩, ⟨PyData.keyHash P (PySem.Str.ofString "_is_all"), (.str (PySem.Str.ofString "_is_all") 560), (.ref 279)⟩, ⟨PyData.keyHash P (PySem.Str.ofString "_has_lot_size"), (.str (PySem.Str.ofString "_has_lot_size") 567), (.ref 286)⟩, ⟨PyData.keyHash P (PySem.Str.ofString "_is_of_circle"), (.str (PySem.Str.ofString "_is_of_circle") 574), (.ref 293)⟩, ⟨PyData.keyHash P (PySem.Str.ofString "DEED_FORMS"), (.str (PySem.Str.ofString "DEED_FORMS") 591), (.ref 294)⟩, ⟨PyData.keyHash P (PySem.Str.ofString "is_deed"), (.str (PySem.Str.ofString "is_deed") 600), (.ref 301)⟩, ⟨PyData.keyHash P (PySem.Str.ofString "is_entry"), (.str (PySem.Str.ofString "is_entry") 607), (.ref 308)⟩, ⟨PyData.keyHash P (PySem.Str.ofString "is_stop"), (.str (PySem.Str.ofString "is_stop") 614), (.ref 315)⟩, ⟨PyData.keyHash P (PySem.Str.ofString "check_entry"), (.str (PySem.Str.ofString "check_entry") 621), (.ref 322)⟩, ⟨PyData.keyHash P (PySem.Str.ofString "are_entries"), (.str (PySem.Str.ofString "are_entries") 627), (.ref 327)⟩, ⟨PyData.keyHash P (PySem.Str.ofString "check_entries"), (.str (PySem.Str.ofString "check_entries") 634), (.ref 334)⟩, ⟨PyData.keyHash P (PySem.Str.ofString "_is_word_alone"), (.str (PySem.Str.ofString "_is_word_alone") 641), (.ref 341)⟩, ⟨PyData.keyHash P (PySem.Str.ofString "_has_worth"), (.str (PySem.Str.ofString "_has_worth") 648), (.ref 348)⟩, ⟨PyData.keyHash P (PySem.Str.ofString "_has_sum"), (.str (PySem.Str.ofString "_has_sum") 655), (.ref 355)⟩, ⟨PyData.keyHash P (PySem.Str.ofString "_has_place_in_lot"), (.str (PySem.Str.ofString "_has_place_in_lot") 662), (.ref 362)⟩, ⟨PyData.keyHash P (PySem.Str.ofString "_has_answers"), (.str (PySem.Str.ofString "_has_answers") 668), (.ref 367)⟩, ⟨PyData.keyHash P (PySem.Str.ofString "_has_rows"), (.str (PySem.Str.ofString "_has_rows") 674), (.ref 372)⟩, ⟨PyData.keyHash P (PySem.Str.ofString "_is_row"), (.str (PySem.Str.ofString "_is_row") 681), (.ref 379)⟩, ⟨PyData.keyHash P (PySem.Str.ofString "ANSWER_FORMS"), (.str (PySem.Str.ofString "ANSWER_FORMS") 706), (.ref 380)⟩, ⟨PyData.keyHash P (PySem.Str.ofString "is_answer"), (.str (PySem.Str.ofString "is_answer") 715), (.ref 387)⟩, ⟨PyData.keyHash P (PySem.Str.ofString "_lacks_room"), (.str (PySem.Str.ofString "_lacks_room") 723), (.ref 394)⟩, ⟨PyData.keyHash P (PySem.Str.ofString "_exchanged"), (.str (PySem.Str.ofString "_exchanged") 733), (.ref 401)⟩, ⟨PyData.keyHash P (PySem.Str.ofString "_do_put"), (.str (PySem.Str.ofString "_do_put") 744), (.ref 408)⟩, ⟨PyData.keyHash P (PySem.Str.ofString "_do_drop"), (.str (PySem.Str.ofString "_do_drop") 752), (.ref 415)⟩, ⟨PyData.keyHash P (PySem.Str.ofString "_do_get"), (.str (PySem.Str.ofString "_do_get") 760), (.ref 422)⟩, ⟨PyData.keyHash P (PySem.Str.ofString "_do_add"), (.str (PySem.Str.ofString "_do_add") 773), (.ref 429)⟩, ⟨PyData.keyHash P (PySem.Str.ofString "_do_swap"), (.str (PySem.Str.ofString "_do_swap") 785), (.ref 436)⟩, ⟨PyData.keyHash P (PySem.Str.ofString "_do_list"), (.str (PySem.Str.ofString "_do_list") 791), (.ref 441)⟩, ⟨PyData.keyHash P (PySem.Str.ofString "_do_all"), (.str (PySem.Str.ofString "_do_all") 804), (.ref 448)⟩, ⟨PyData.keyHash P (PySem.Str.ofString "_do_circle"), (.str (PySem.Str.ofString "_do_circle") 812), (.ref 455)⟩, ⟨PyData.keyHash P (PySem.Str.ofString "DEED_STEPS"), (.str (PySem.Str.ofString "DEED_STEPS") 829), (.ref 456)⟩, ⟨PyData.keyHash P (PySem.Str.ofString "do_deed"), (.str (PySem.Str.ofString "do_deed") 838), (.ref 463)⟩, ⟨PyData.keyHash P (PySem.Str.ofString "by_keys"), (.str (PySem.Str.ofString "by_keys") 844), (.ref 468)⟩, ⟨PyData.keyHash P (PySem.Str.ofString "MAX_LENGTH"), (.str (PySem.Str.ofString "MAX_LENGTH") 850), (.int (1000000000) 849)⟩, ⟨PyData.keyHash P (PySem.Str.ofString "State"), (.str (PySem.Str.ofString "State") 1000), (.ref 581)⟩, ⟨PyData.keyHash P (PySem.Str.ofString "_made"), (.str (PySem.Str.ofString "_made") 1011), (.ref 915)⟩, ⟨PyData.keyHash P (PySem.Str.ofString "made_states"), (.str (PySem.Str.ofString "made_states") 1012), (.ref 592)⟩, ⟨PyData.keyHash P (PySem.Str.ofString "run_entries"), (.str (PySem.Str.ofString "run_entries") 1029), (.ref 599)⟩, ⟨PyData.keyHash P (PySem.Str.ofString "_are_right"), (.str (PySem.Str.ofString "_are_right") 1035), (.ref 604)⟩, ⟨PyData.keyHash P (PySem.Str.ofString "_are_sessions"), (.str (PySem.Str.ofString "_are_sessions") 1041), (.ref 609)⟩, ⟨PyData.keyHash P (PySem.Str.ofString "_is_session"), (.str (PySem.Str.ofString "_is_session") 1052), (.ref 616)⟩, ⟨PyData.keyHash P (PySem.Str.ofString "is_parts"), (.str (PySem.Str.ofString "is_parts") 1059), (.ref 623)⟩, ⟨PyData.keyHash P (PySem.Str.ofString "_state_told"), (.str (PySem.Str.ofString "_state_told") 1065), (.ref 628)⟩, ⟨PyData.keyHash P (PySem.Str.ofString "_is_part"), (.str (PySem.Str.ofString "_is_part") 1074), (.ref 635)⟩, ⟨PyData.keyHash P (PySem.Str.ofString "MAX_LETTERS"), (.str (PySem.Str.ofString "MAX_LETTERS") 1078), (.int (400) 1077)⟩, ⟨PyData.keyHash P (PySem.Str.ofString "MAX_CARRIED"), (.str (PySem.Str.ofString "MAX_CARRIED") 1080), (.int (64) 1079)⟩, ⟨PyData.keyHash P (PySem.Str.ofString "MAX_COUNT"), (.str (PySem.Str.ofString "MAX_COUNT") 1084), (.int (1000000000) 1083)⟩, ⟨PyData.keyHash P (PySem.Str.ofString "HOUSE_WORDS"), (.str (PySem.Str.ofString "HOUSE_WORDS") 1092), (.ref 636)⟩, ⟨PyData.keyHash P (PySem.Str.ofString "GRANT_MEMBERS"), (.str (PySem.Str.ofString "GRANT_MEMBERS") 1094), (.int (5) 1093)⟩, ⟨PyData.keyHash P (PySem.Str.ofString "_is_count"), (.str (PySem.Str.ofString "_is_count") 1101), (.ref 643)⟩, ⟨PyData.keyHash P (PySem.Str.ofString "_is_count_or_none"), (.str (PySem.Str.ofString "_is_count_or_none") 1108), (.ref 650)⟩, ⟨PyData.keyHash P (PySem.Str.ofString "_is_call_number"), (.str (PySem.Str.ofString "_is_call_number") 1115), (.ref 657)⟩, ⟨PyData.keyHash P (PySem.Str.ofString "_is_open_base"), (.str (PySem.Str.ofString "_is_open_base") 1122), (.ref 664)⟩, ⟨PyData.keyHash P (PySem.Str.ofString "_is_told_row"), (.str (PySem.Str.ofString "_is_told_row") 1131), (.ref 671)⟩, ⟨PyData.keyHash P (PySem.Str.ofString "is_granted"), (.str (PySem.Str.ofString "is_granted") 1143), (.ref 678)⟩, ⟨PyData.keyHash P (PySem.Str.ofString "_is_ask"), (.str (PySem.Str.ofString "_is_ask") 1150), (.ref 685)⟩, ⟨PyData.keyHash P (PySem.Str.ofString "_is_grant"), (.str (PySem.Str.ofString "_is_grant") 1157), (.ref 692)⟩, ⟨PyData.keyHash P (PySem.Str.ofString "_is_bar"), (.str (PySem.Str.ofString "_is_bar") 1164), (.ref 699)⟩, ⟨PyData.keyHash P (PySem.Str.ofString "_is_lay"), (.str (PySem.Str.ofString "_is_lay") 1170), (.ref 704)⟩, ⟨PyData.keyHash P (PySem.Str.ofString "_is_laid"), (.str (PySem.Str.ofString "_is_laid") 1176), (.ref 709)⟩, ⟨PyData.keyHash P (PySem.Str.ofString "_is_carry"), (.str (PySem.Str.ofString "_is_carry") 1183), (.ref 716)⟩, ⟨PyData.keyHash P (PySem.Str.ofString "_is_begun"), (.str (PySem.Str.ofString "_is_begun") 1190), (.ref 723)⟩, ⟨PyData.keyHash P (PySem.Str.ofString "HOUSE_FORMS"), (.str (PySem.Str.ofString "HOUSE_FORMS") 1205), (.ref 724)⟩, ⟨PyData.keyHash P (PySem.Str.ofString "_is_call"), (.str (PySem.Str.ofString "_is_call") 1212), (.ref 731)⟩, ⟨PyData.keyHash P (PySem.Str.ofString "_is_from_house_to_client"), (.str (PySem.Str.ofString "_is_from_house_to_client") 1219), (.ref 738)⟩, ⟨PyData.keyHash P (PySem.Str.ofString "_is_reply"), (.str (PySem.Str.ofString "_is_reply") 1226), (.ref 745)⟩, ⟨PyData.keyHash P (PySem.Str.ofString "_is_try"), (.str (PySem.Str.ofString "_is_try") 1237), (.ref 752)⟩, ⟨PyData.keyHash P (PySem.Str.ofString "CLIENT_FORMS"), (.str (PySem.Str.ofString "CLIENT_FORMS") 1244), (.ref 753)⟩, ⟨PyData.keyHash P (PySem.Str.ofString "is_letter"), (.str (PySem.Str.ofString "is_letter") 1253), (.ref 760)⟩, ⟨PyData.keyHash P (PySem.Str.ofString "is_house_letter"), (.str (PySem.Str.ofString "is_house_letter") 1262), (.ref 767)⟩, ⟨PyData.keyHash P (PySem.Str.ofString "check_letter"), (.str (PySem.Str.ofString "check_letter") 1269), (.ref 774)⟩, ⟨PyData.keyHash P (PySem.Str.ofString "check_letters"), (.str (PySem.Str.ofString "check_letters") 1275), (.ref 779)⟩, ⟨PyData.keyHash P (PySem.Str.ofString "sender"), (.str (PySem.Str.ofString "sender") 1282), (.ref 786)⟩, ⟨PyData.keyHash P (PySem.Str.ofString "receiver"), (.str (PySem.Str.ofString "receiver") 1289), (.ref 793)⟩, ⟨PyData.keyHash P (PySem.Str.ofString "_address_of"), (.str (PySem.Str.ofString "_address_of") 1296), (.ref 800)⟩, ⟨PyData.keyHash P (PySem.Str.ofString "Bag"), (.str (PySem.Str.ofString "Bag") 1420), (.ref 904)⟩, ⟨PyData.keyHash P (PySem.Str.ofString "made_letters"), (.str (PySem.Str.ofString "made_letters") 1429), (.ref 915)⟩, ⟨PyData.keyHash P (PySem.Str.ofString "_indices_to"), (.str (PySem.Str.ofString "_indices_to") 1435), (.ref 920)⟩, ⟨PyData.keyHash P (PySem.Str.ofString "_times_of"), (.str (PySem.Str.ofString "_times_of") 1444), (.ref 927)⟩, ⟨PyData.keyHash P (PySem.Str.ofString "_law_dice"), (.str (PySem.Str.ofString "_law_dice") 1456), (.ref 934)⟩, ⟨PyData.keyHash P (PySem.Str.ofString "_law_roll"), (.str (PySem.Str.ofString "_law_roll") 1467), (.ref 941)⟩, ⟨PyData.keyHash P (PySem.Str.ofString "_law_pick"), (.str (PySem.Str.ofString "_law_pick") 1475), (.ref 948)⟩, ⟨PyData.keyHash P (PySem.Str.ofString "_law_met"), (.str (PySem.Str.ofString "_law_met") 1483), (.ref 955)⟩, ⟨PyData.keyHash P (PySem.Str.ofString "_law_right"), (.str (PySem.Str.ofString "_law_right") 1489), (.ref 960)⟩, ⟨PyData.keyHash P (PySem.Str.ofString "law"), (.str (PySem.Str.ofString "law") 1495), (.ref 965)⟩]) 140), (List.toArray [])⟩) ::
(nat_lit 15, ⟨(.type "tuple"), none, (.seq (List.toArray []) 0), (List.toArray [])⟩) ::
(nat_lit 17, ⟨(.type "tuple"), none, (.seq (List.toArray [(.str (PySem.Str.ofString "k") 190)]) 0), (List.toArray [])⟩) ::
(nat_lit 18, ⟨(.type "tuple"), none, (.seq (List.toArray []) 0), (List.toArray [])⟩) ::
(nat_lit 22, ⟨(.type "tuple"), none, (.seq (List.toArray [(.type "ValueError")]) 0), (List.toArray [])⟩) ::
(nat_lit 29, ⟨(.type "tuple"), none, (.seq (List.toArray []) 0), (List.toArray [])⟩) ::
(nat_lit 30, ⟨(.type "dict"), none, (.dict (List.toArray [⟨PyData.keyHash P (PySem.Str.ofString "__module__"), (.str (PySem.Str.ofString "__module__") 203), (.str (PySem.Str.ofString "halvesmeet.errors") 194)⟩, ⟨PyData.keyHash P (PySem.Str.ofString "__firstlineno__"), (.str (PySem.Str.ofString "__firstlineno__") 207), (.int (5) 206)⟩, ⟨PyData.keyHash P (PySem.Str.ofString "__static_attributes__"), (.str (PySem.Str.ofString "__static_attributes__") 208), (.ref 29)⟩, ⟨PyData.keyHash P (PySem.Str.ofString "__weakref__"), (.str (PySem.Str.ofString "__weakref__") 210), (.ref 32)⟩, ⟨PyData.keyHash P (PySem.Str.ofString "__doc__"), (.str (PySem.Str.ofString "__doc__") 211), .none⟩]) 3), (List.toArray [])⟩) ::
(nat_lit 31, ⟨(.type "type"), none, (.cls ⟨(PySem.Str.ofString "HouseError"), [(.type "ValueError")], [(.ref 31), (.type "ValueError"), (.type "Exception"), (.type "BaseException"), (.type "object")], 30, (PySem.Str.ofString "HouseError"), true, [], [(.ref 44), (.ref 56), (.ref 68), (.ref 80)], false, none, false⟩), (List.toArray [(some (.ref 22)), none, (some (.str (PySem.Str.ofString "HouseError") 196)), (some (.str (PySem.Str.ofString "HouseError") 204)), (some (.builtin "ValueError.__new__")), (some (.bool true))])⟩) ::
(nat_lit 32, ⟨(.type "getset_descriptor"), none, (.fields (List.toArray [(.str (PySem.Str.ofString "__weakref__") 209), (.ref 31), (.builtin "ExceptionGroup.__weakref__"), .none])), (List.toArray [])⟩) ::
(nat_lit 35, ⟨(.type "tuple"), none, (.seq (List.toArray [(.ref 31)]) 0), (List.toArray [])⟩) ::
(nat_lit 42, ⟨(.type "tuple"), none, (.seq (List.toArray []) 0), (List.toArray [])⟩) ::
(nat_lit 43, ⟨(.type "dict"), none, (.dict (List.toArray [⟨PyData.keyHash P (PySem.Str.ofString "__module__"), (.str (PySem.Str.ofString "__module__") 221), (.str (PySem.Str.ofString "halvesmeet.errors") 194)⟩, ⟨PyData.keyHash P (PySem.Str.ofString "__firstlineno__"), (.str (PySem.Str.ofString "__firstlineno__") 225), (.int (7) 224)⟩, ⟨PyData.keyHash P (PySem.Str.ofString "__static_attributes__"), (.str (PySem.Str.ofString "__static_attributes__") 226), (.ref 42)⟩, ⟨PyData.keyHash P (PySem.Str.ofString "__doc__"), (.str (PySem.Str.ofString "__doc__") 227), .none⟩]) 2), (List.toArray [])⟩) ::
(nat_lit 44, ⟨(.type "type"), none, (.cls ⟨(PySem.Str.ofString "InvalidDeed"), [(.ref 31)], [(.ref 44), (.ref 31), (.type "ValueError"), (.type "Exception"), (.type "BaseException"), (.type "object")], 43, (PySem.Str.ofString "InvalidDeed"), true, [], [], false, none, false⟩), (List.toArray [(some (.ref 35)), none, (some (.str (PySem.Str.ofString "InvalidDeed") 214)), (some (.str (PySem.Str.ofString "InvalidDeed") 222)), (some (.builtin "ValueError.__new__")), (some (.bool true))])⟩) ::
(nat_lit 47, ⟨(.type "tuple"), none, (.seq (List.toArray [(.ref 31)]) 0), (List.toArray [])⟩) ::
(nat_lit 54, ⟨(.type "tuple"), none, (.seq (List.toArray []) 0), (List.toArray [])⟩) ::
(nat_lit 55, ⟨(.type "dict"), none, (.dict (List.toArray [⟨PyData.keyHash P (PySem.Str.ofString "__module__"), (.str (PySem.Str.ofString "__module__") 237), (.str (PySem.Str.ofString "halvesmeet.errors") 194)⟩, ⟨PyData.keyHash P (PySem.Str.ofString "__firstlineno__"), (.str (PySem.Str.ofString "__firstlineno__") 241), (.int (9) 240)⟩, ⟨PyData.keyHash P (PySem.Str.ofString "__static_attributes__"), (.str (PySem.Str.ofString "__static_attributes__") 242), (.ref 54)⟩, ⟨PyData.keyHash P (PySem.Str.ofString "__doc__"), (.str (PySem.Str.ofString "__doc__") 243), .none⟩]) 2), (List.toArray [])⟩) ::
(nat_lit 56, ⟨(.type "type"), none, (.cls ⟨(PySem.Str.ofString "InvalidState"), [(.ref 31)], [(.ref 56), (.ref 31), (.type "ValueError"), (.type "Exception"), (.type "BaseException"), (.type "object")], 55, (PySem.Str.ofString "InvalidState"), true, [], [], false, none, false⟩), (List.toArray [(some (.ref 47)), none, (some (.str (PySem.Str.ofString "InvalidState") 230)), (some (.str (PySem.Str.ofString "InvalidState") 238)), (some (.builtin "ValueError.__new__")), (some (.bool true))])⟩) ::
(nat_lit 59, ⟨(.type "tuple"), none, (.seq (List.toArray [(.ref 31)]) 0), (List.toArray [])⟩) ::
(nat_lit 66, ⟨(.type "tuple"), none, (.seq (List.toArray []) 0), (List.toArray [])⟩) ::
(nat_lit 67, ⟨(.type "dict"), none, (.dict (List.toArray [⟨PyData.keyHash P (PySem.Str.ofString "__module__"), (.str (PySem.Str.ofString "__module__") 253), (.str (PySem.Str.ofString "halvesmeet.errors") 194)⟩, ⟨PyData.keyHash P (PySem.Str.ofString "__firstlineno__"), (.str (PySem.Str.ofString "__firstlineno__") 257), (.int (11) 256)⟩, ⟨PyData.keyHash P (PySem.Str.ofString "__static_attributes__"), (.str (PySem.Str.ofString "__static_attributes__") 258), (.ref 66)⟩, ⟨PyData.keyHash P (PySem.Str.ofString "__doc__"), (.str (PySem.Str.ofString "__doc__") 259), .none⟩]) 2), (List.toArray [])⟩) ::
(nat_lit 68, ⟨(.type "type"), none, (.cls ⟨(PySem.Str.ofString "InvalidLetter"), [(.ref 31)], [(.ref 68), (.ref 31), (.type "ValueError"), (.type "Exception"), (.type "BaseException"), (.type "object")], 67, (PySem.Str.ofString "InvalidLetter"), true, [], [], false, none, false⟩), (List.toArray [(some (.ref 59)), none, (some (.str (PySem.Str.ofString "InvalidLetter") 246)), (some (.str (PySem.Str.ofString "InvalidLetter") 254)), (some (.builtin "ValueError.__new__")), (some (.bool true))])⟩) ::
(nat_lit 71, ⟨(.type "tuple"), none, (.seq (List.toArray [(.ref 31)]) 0), (List.toArray [])⟩) ::
(nat_lit 78, ⟨(.type "tuple"), none, (.seq (List.toArray []) 0), (List.toArray [])⟩) ::
(nat_lit 79, ⟨(.type "dict"), none, (.dict (List.toArray [⟨PyData.keyHash P (PySem.Str.ofString "__module__"), (.str (PySem.Str.ofString "__module__") 269), (.str (PySem.Str.ofString "halvesmeet.errors") 194)⟩, ⟨PyData.keyHash P (PySem.Str.ofString "__firstlineno__"), (.str (PySem.Str.ofString "__firstlineno__") 273), (.int (13) 272)⟩, ⟨PyData.keyHash P (PySem.Str.ofString "__static_attributes__"), (.str (PySem.Str.ofString "__static_attributes__") 274), (.ref 78)⟩, ⟨PyData.keyHash P (PySem.Str.ofString "__doc__"), (.str (PySem.Str.ofString "__doc__") 275), .none⟩]) 2), (List.toArray [])⟩) ::
(nat_lit 80, ⟨(.type "type"), none, (.cls ⟨(PySem.Str.ofString "InvalidOperation"), [(.ref 31)], [(.ref 80), (.ref 31), (.type "ValueError"), (.type "Exception"), (.type "BaseException"), (.type "object")], 79, (PySem.Str.ofString "InvalidOperation"), true, [], [], false, none, false⟩), (List.toArray [(some (.ref 71)), none, (some (.str (PySem.Str.ofString "InvalidOperation") 262)), (some (.str (PySem.Str.ofString "InvalidOperation") 270)), (some (.builtin "ValueError.__new__")), (some (.bool true))])⟩) ::
(nat_lit 83, ⟨(.type "tuple"), none, (.seq (List.toArray [(.type "IndexError")]) 0), (List.toArray [])⟩) ::
(nat_lit 90, ⟨(.type "tuple"), none, (.seq (List.toArray []) 0), (List.toArray [])⟩) ::
(nat_lit 92, ⟨(.type "tuple"), none, (.seq (List.toArray [(.str (PySem.Str.ofString "self") 293), (.str (PySem.Str.ofString "given") 294)]) 0), (List.toArray [])⟩) ::
(nat_lit 93, ⟨(.type "tuple"), none, (.seq (List.toArray []) 0), (List.toArray [])⟩) ::
(nat_lit 95, ⟨(.type "code"), none, (.fields (List.toArray [(.str (PySem.Str.ofString "__init__") 290), (.str (PySem.Str.ofString "InvalidNumber.__init__") 291), (.str (PySem.Str.ofString "/claim/cut.py") 292), (.int (17) 0), (.int (2) 0), (.int (0) 0), (.int (0) 0), (.int (3) 0), (.ref 90), (.bool true), (.int (181) 0), (.ref 91), .none, (.ref 92), (.ref 93), (.ref 94), (.int (295) 0), (.int (17) 0), (.str (PySem.Str.ofString "/claim/cut.py") 296)])), (List.toArray [])⟩) ::
(nat_lit 96, ⟨(.type "function"), none, (.func (PySem.W.fnOf (PySem.Str.ofString "__init__") (PySem.Str.ofString "InvalidNumber.__init__") (defArgs s_InvalidNumber_init) (defBody s_InvalidNumber_init) (defScope s_InvalidNumber_init) .none .none .none (.str (PySem.Str.ofString "halvesmeet.errors") 194) none (.ref 95) .none)), (List.toArray [])⟩) ::
(nat_lit 97, ⟨(.type "tuple"), none, (.seq (List.toArray [(.str (PySem.Str.ofString "given") 298)]) 0), (List.toArray [])⟩) ::
(nat_lit 98, ⟨(.type "dict"), none, (.dict (List.toArray [⟨PyData.keyHash P (PySem.Str.ofString "__module__"), (.str (PySem.Str.ofString "__module__") 285), (.str (PySem.Str.ofString "halvesmeet.errors") 194)⟩, ⟨PyData.keyHash P (PySem.Str.ofString "__firstlineno__"), (.str (PySem.Str.ofString "__firstlineno__") 289), (.int (15) 288)⟩, ⟨PyData.keyHash P (PySem.Str.ofString "__init__"), (.str (PySem.Str.ofString "__init__") 297), (.ref 96)⟩, ⟨PyData.keyHash P (PySem.Str.ofString "__static_attributes__"), (.str (PySem.Str.ofString "__static_attributes__") 299), (.ref 97)⟩, ⟨PyData.keyHash P (PySem.Str.ofString "__weakref__"), (.str (PySem.Str.ofString "__weakref__") 301), (.ref 100)⟩, ⟨PyData.keyHash P (PySem.Str.ofString "__doc__"), (.str (PySem.Str.ofString "__doc__") 302), .none⟩]) 3), (List.toArray [])⟩) ::
(nat_lit 99, ⟨(.type "type"), none, (.cls ⟨(PySem.Str.ofString "InvalidNumber"), [(.type "IndexError")], [(.ref 99), (.type "IndexError"), (.type "LookupError"), (.type "Exception"), (.type "BaseException"), (.type "object")], 98, (PySem.Str.ofString "InvalidNumber"), true, [], [], false, none, false⟩), (List.toArray [(some (.ref 83)), none, (some (.str (PySem.Str.ofString "InvalidNumber") 278)), (some (.str (PySem.Str.ofString "InvalidNumber") 286)), (some (.builtin "IndexError.__new__")), (some (.bool true))])⟩) ::
(nat_lit 100, ⟨(.type "getset_descriptor"), none, (.fields (List.toArray [(.str (PySem.Str.ofString "__weakref__") 300), (.ref 99), (.builtin "ExceptionGroup.__weakref__"), .none])), (List.toArray [])⟩) ::
(nat_lit 103, ⟨(.type "tuple"), none, (.seq (List.toArray [(.type "OverflowError")]) 0), (List.toArray [])⟩) ::
(nat_lit 110, ⟨(.type "tuple"), none, (.seq (List.toArray []) 0), (List.toArray [])⟩) ::
(nat_lit 112, ⟨(.type "tuple"), none, (.seq (List.toArray [(.str (PySem.Str.ofString "self") 322), (.str (PySem.Str.ofString "limit") 323)]) 0), (List.toArray [])⟩) ::
(nat_lit 113, ⟨(.type "tuple"), none, (.seq (List.toArray []) 0), (List.toArray [])⟩) ::
(nat_lit 115, ⟨(.type "code"), none, (.fields (List.toArray [(.str (PySem.Str.ofString "__init__") 319), (.str (PySem.Str.ofString "TooMany.__init__") 320), (.str (PySem.Str.ofString "/claim/cut.py") 321), (.int (21) 0), (.int (2) 0), (.int (0) 0), (.int (0) 0), (.int (3) 0), (.ref 110), (.bool true), (.int (181) 0), (.ref 111), .none, (.ref 112), (.ref 113), (.ref 114), (.int (324) 0), (.int (21) 0), (.str (PySem.Str.ofString "/claim/cut.py") 325)])), (List.toArray [])⟩) ::
(nat_lit 116, ⟨(.type "function"), none, (.func (PySem.W.fnOf (PySem.Str.ofString "__init__") (PySem.Str.ofString "TooMany.__init__") (defArgs s_TooMany_init) (defBody s_TooMany_init) (defScope s_TooMany_init) .none .none .none (.str (PySem.Str.ofString "halvesmeet.errors") 194) none (.ref 115) .none)), (List.toArray [])⟩) ::
(nat_lit 117, ⟨(.type "tuple"), none, (.seq (List.toArray [(.str (PySem.Str.ofString "limit") 327)]) 0), (List.toArray [])⟩) ::
(nat_lit 118, ⟨(.type "dict"), none, (.dict (List.toArray [⟨PyData.keyHash P (PySem.Str.ofString "__module__"), (.str (PySem.Str.ofString "__module__") 314), (.str (PySem.Str.ofString "halvesmeet.errors") 194)⟩, ⟨PyData.keyHash P (PySem.Str.ofString "__firstlineno__"), (.str (PySem.Str.ofString "__firstlineno__") 318), (.int (19) 317)⟩, ⟨PyData.keyHash P (PySem.Str.ofString "__init__"), (.str (PySem.Str.ofString "__init__") 326), (.ref 116)⟩, ⟨PyData.keyHash P (PySem.Str.ofString "__static_attributes__"), (.str (PySem.Str.ofString "__static_attributes__") 328), (.ref 117)⟩, ⟨PyData.keyHash P (PySem.Str.ofString "__weakref__"), (.str (PySem.Str.ofString "__weakref__") 330), (.ref 120)⟩, ⟨PyData.keyHash P (PySem.Str.ofString "__doc__"), (.str (PySem.Str.ofString "__doc__") 331), .none⟩]) 3), (List.toArray [])⟩) ::
(nat_lit 119, ⟨(.type "type"), none, (.cls ⟨(PySem.Str.ofString "TooMany"), [(.type "OverflowError")], [(.ref 119), (.type "OverflowError"), (.type "ArithmeticError"), (.type "Exception"), (.type "BaseException"), (.type "object")], 118, (PySem.Str.ofString "TooMany"), true, [], [], false, none, false⟩), (List.toArray [(some (.ref 103)), none, (some (.str (PySem.Str.ofString "TooMany") 307)), (some (.str (PySem.Str.ofString "TooMany") 315)), (some (.builtin "OverflowError.__new__")), (some (.bool true))])⟩) ::
(nat_lit 120, ⟨(.type "getset_descriptor"), none, (.fields (List.toArray [(.str (PySem.Str.ofString "__weakref__") 329), (.ref 119), (.builtin "ExceptionGroup.__weakref__"), .none])), (List.toArray [])⟩) ::
(nat_lit 123, ⟨(.type "tuple"), none, (.seq (List.toArray []) 0), (List.toArray [])⟩) ::
(nat_lit 125, ⟨(.type "tuple"), none, (.seq (List.toArray [(.str (PySem.Str.ofString "value") 371)]) 0), (List.toArray [])⟩) ::
(nat_lit 126, ⟨(.type "tuple"), none, (.seq (List.toArray []) 0), (List.toArray [])⟩) ::
(nat_lit 128, ⟨(.type "code"), none, (.fields (List.toArray [(.str (PySem.Str.ofString "is_number") 368), (.str (PySem.Str.ofString "is_number") 369), (.str (PySem.Str.ofString "/claim/cut.py") 370), (.int (35) 0), (.int (1) 0), (.int (0) 0), (.int (0) 0), (.int (3) 0), (.ref 123), (.bool true), (.int (181) 0), (.ref 124), .none, (.ref 125), (.ref 126), (.ref 127), (.int (372) 0), (.int (35) 0), (.str (PySem.Str.ofString "/claim/cut.py") 373)])), (List.toArray [])⟩) ::
(nat_lit 129, ⟨(.type "function"), none, (.func (PySem.W.fnOf (PySem.Str.ofString "is_number") (PySem.Str.ofString "is_number") (defArgs s_is_number) (defBody s_is_number) (defScope s_is_number) .none .none .none (.str (PySem.Str.ofString "halvesmeet.base.values") 336) none (.ref 128) .none)), (List.toArray [])⟩) ::
(nat_lit 130, ⟨(.type "tuple"), none, (.seq (List.toArray []) 0), (List.toArray [])⟩) ::
(nat_lit 132, ⟨(.type "tuple"), none, (.seq (List.toArray [(.str (PySem.Str.ofString "value") 378), (.str (PySem.Str.ofString "least") 379), (.str (PySem.Str.ofString "most") 380)]) 0), (List.toArray [])⟩) ::
(nat_lit 133, ⟨(.type "tuple"), none, (.seq (List.toArray []) 0), (List.toArray [])⟩) ::
(nat_lit 135, ⟨(.type "code"), none, (.fields (List.toArray [(.str (PySem.Str.ofString "is_within") 375), (.str (PySem.Str.ofString "is_within") 376), (.str (PySem.Str.ofString "/claim/cut.py") 377), (.int (39) 0), (.int (3) 0), (.int (0) 0), (.int (0) 0), (.int (3) 0), (.ref 130), (.bool true), (.int (181) 0), (.ref 131), .none, (.ref 132), (.ref 133), (.ref 134), (.int (381) 0), (.int (39) 0), (.str (PySem.Str.ofString "/claim/cut.py") 382)])), (List.toArray [])⟩) ::
(nat_lit 136, ⟨(.type "function"), none, (.func (PySem.W.fnOf (PySem.Str.ofString "is_within") (PySem.Str.ofString "is_within") (defArgs s_is_within) (defBody s_is_within) (defScope s_is_within) .none .none .none (.str (PySem.Str.ofString "halvesmeet.base.values") 336) none (.ref 135) .none)), (List.toArray [])⟩) ::
(nat_lit 137, ⟨(.type "tuple"), none, (.seq (List.toArray []) 0), (List.toArray [])⟩) ::
(nat_lit 139, ⟨(.type "tuple"), none, (.seq (List.toArray [(.str (PySem.Str.ofString "value") 387)]) 0), (List.toArray [])⟩) ::
(nat_lit 140, ⟨(.type "tuple"), none, (.seq (List.toArray []) 0), (List.toArray [])⟩) ::
(nat_lit 142, ⟨(.type "code"), none, (.fields (List.toArray [(.str (PySem.Str.ofString "is_house") 384), (.str (PySem.Str.ofString "is_house") 385), (.str (PySem.Str.ofString "/claim/cut.py") 386), (.int (41) 0), (.int (1) 0), (.int (0) 0), (.int (0) 0), (.int (3) 0), (.ref 137), (.bool true), (.int (181) 0), (.ref 138), .none, (.ref 139), (.ref 140), (.ref 141), (.int (388) 0), (.int (41) 0), (.str (PySem.Str.ofString "/claim/cut.py") 389)])), (List.toArray [])⟩) ::
(nat_lit 143, ⟨(.type "function"), none, (.func (PySem.W.fnOf (PySem.Str.ofString "is_house") (PySem.Str.ofString "is_house") (defArgs s_is_house) (defBody s_is_house) (defScope s_is_house) .none .none .none (.str (PySem.Str.ofString "halvesmeet.base.values") 336) none (.ref 142) .none)), (List.toArray [])⟩) ::
(nat_lit 144, ⟨(.type "tuple"), none, (.seq (List.toArray []) 0), (List.toArray [])⟩) ::
(nat_lit 146, ⟨(.type "tuple"), none, (.seq (List.toArray [(.str (PySem.Str.ofString "value") 394)]) 0), (List.toArray [])⟩) ::
(nat_lit 147, ⟨(.type "tuple"), none, (.seq (List.toArray []) 0), (List.toArray [])⟩) ::
(nat_lit 149, ⟨(.type "code"), none, (.fields (List.toArray [(.str (PySem.Str.ofString "is_client") 391), (.str (PySem.Str.ofString "is_client") 392), (.str (PySem.Str.ofString "/claim/cut.py") 393), (.int (43) 0), (.int (1) 0), (.int (0) 0), (.int (0) 0), (.int (3) 0), (.ref 144), (.bool true), (.int (181) 0), (.ref 145), .none, (.ref 146), (.ref 147), (.ref 148), (.int (395) 0), (.int (43) 0), (.str (PySem.Str.ofString "/claim/cut.py") 396)])), (List.toArray [])⟩) ::
(nat_lit 150, ⟨(.type "function"), none, (.func (PySem.W.fnOf (PySem.Str.ofString "is_client") (PySem.Str.ofString "is_client") (defArgs s_is_client) (defBody s_is_client) (defScope s_is_client) .none .none .none (.str (PySem.Str.ofString "halvesmeet.base.values") 336) none (.ref 149) .none)), (List.toArray [])⟩) ::
(nat_lit 151, ⟨(.type "tuple"), none, (.seq (List.toArray []) 0), (List.toArray [])⟩) ::
(nat_lit 153, ⟨(.type "tuple"), none, (.seq (List.toArray [(.str (PySem.Str.ofString "value") 401)]) 0), (List.toArray [])⟩) ::
(nat_lit 154, ⟨(.type "tuple"), none, (.seq (List.toArray []) 0), (List.toArray [])⟩) ::
(nat_lit 156, ⟨(.type "code"), none, (.fields (List.toArray [(.str (PySem.Str.ofString "is_circle") 398), (.str (PySem.Str.ofString "is_circle") 399), (.str (PySem.Str.ofString "/claim/cut.py") 400), (.int (45) 0), (.int (1) 0), (.int (0) 0), (.int (0) 0), (.int (3) 0), (.ref 151), (.bool true), (.int (181) 0), (.ref 152), .none, (.ref 153), (.ref 154), (.ref 155), (.int (402) 0), (.int (45) 0), (.str (PySem.Str.ofString "/claim/cut.py") 403)])), (List.toArray [])⟩) ::
(nat_lit 157, ⟨(.type "function"), none, (.func (PySem.W.fnOf (PySem.Str.ofString "is_circle") (PySem.Str.ofString "is_circle") (defArgs s_is_circle) (defBody s_is_circle) (defScope s_is_circle) .none .none .none (.str (PySem.Str.ofString "halvesmeet.base.values") 336) none (.ref 156) .none)), (List.toArray [])⟩) ::
(nat_lit 158, ⟨(.type "tuple"), none, (.seq (List.toArray []) 0), (List.toArray [])⟩) ::
(nat_lit 161, ⟨(.type "code"), none, (.fields (List.toArray [(.str (PySem.Str.ofString "are_indices") 405), (.str (PySem.Str.ofString "are_indices") 406), (.str (PySem.Str.ofString "/claim/cut.py") 407), (.int (47) 0), (.int (2) 0), (.int (0) 0), (.int (0) 0), (.int (3) 0), (.ref 158), (.bool true), (.int (181) 0), (.ref 159), .none, .none, .none, (.ref 160), (.int (408) 0), (.int (47) 0), (.str (PySem.Str.ofString "/claim/cut.py") 409)])), (List.toArray [])⟩) ::
(nat_lit 162, ⟨(.type "function"), none, (.func (PySem.W.fnOf (PySem.Str.ofString "are_indices") (PySem.Str.ofString "are_indices") (defArgs s_are_indices) (defBody s_are_indices) (defScope s_are_indices) .none .none .none (.str (PySem.Str.ofString "halvesmeet.base.values") 336) none (.ref 161) .none)), (List.toArray [])⟩) ::
(nat_lit 163, ⟨(.type "tuple"), none, (.seq (List.toArray []) 0), (List.toArray [])⟩) ::
(nat_lit 166, ⟨(.type "code"), none, (.fields (List.toArray [(.str (PySem.Str.ofString "are_ascending") 411), (.str (PySem.Str.ofString "are_ascending") 412), (.str (PySem.Str.ofString "/claim/cut.py") 413), (.int (53) 0), (.int (1) 0), (.int (0) 0), (.int (0) 0), (.int (3) 0), (.ref 163), (.bool true), (.int (181) 0), (.ref 164), .none, .none, .none, (.ref 165), (.int (414) 0), (.int (53) 0), (.str (PySem.Str.ofString "/claim/cut.py") 415)])), (List.toArray [])⟩) ::
(nat_lit 167, ⟨(.type "function"), none, (.func (PySem.W.fnOf (PySem.Str.ofString "are_ascending") (PySem.Str.ofString "are_ascending") (defArgs s_are_ascending) (defBody s_are_ascending) (defScope s_are_ascending) .none .none .none (.str (PySem.Str.ofString "halvesmeet.base.values") 336) none (.ref 166) .none)), (List.toArray [])⟩) ::
(nat_lit 168, ⟨(.type "tuple"), none, (.seq (List.toArray []) 0), (List.toArray [])⟩) ::
(nat_lit 170, ⟨(.type "tuple"), none, (.seq (List.toArray [(.str (PySem.Str.ofString "value") 420), (.str (PySem.Str.ofString "signs") 421), (.str (PySem.Str.ofString "most") 422)]) 0), (List.toArray [])⟩) ::
(nat_lit 171, ⟨(.type "tuple"), none, (.seq (List.toArray []) 0), (List.toArray [])⟩) ::
(nat_lit 173, ⟨(.type "code"), none, (.fields (List.toArray [(.str (PySem.Str.ofString "is_made_of") 417), (.str (PySem.Str.ofString "is_made_of") 418), (.str (PySem.Str.ofString "/claim/cut.py") 419), (.int (55) 0), (.int (3) 0), (.int (0) 0), (.int (0) 0), (.int (3) 0), (.ref 168), (.bool true), (.int (181) 0), (.ref 169), .none, (.ref 170), (.ref 171), (.ref 172), (.int (423) 0), (.int (55) 0), (.str (PySem.Str.ofString "/claim/cut.py") 424)])), (List.toArray [])⟩) ::
(nat_lit 174, ⟨(.type "function"), none, (.func (PySem.W.fnOf (PySem.Str.ofString "is_made_of") (PySem.Str.ofString "is_made_of") (defArgs s_is_made_of) (defBody s_is_made_of) (defScope s_is_made_of) .none .none .none (.str (PySem.Str.ofString "halvesmeet.base.values") 336) none (.ref 173) .none)), (List.toArray [])⟩) ::
(nat_lit 175, ⟨(.type "tuple"), none, (.seq (List.toArray []) 0), (List.toArray [])⟩) ::
(nat_lit 177, ⟨(.type "tuple"), none, (.seq (List.toArray [(.str (PySem.Str.ofString "value") 429)]) 0), (List.toArray [])⟩) ::
(nat_lit 178, ⟨(.type "tuple"), none, (.seq (List.toArray []) 0), (List.toArray [])⟩) ::
(nat_lit 180, ⟨(.type "code"), none, (.fields (List.toArray [(.str (PySem.Str.ofString "is_key") 426), (.str (PySem.Str.ofString "is_key") 427), (.str (PySem.Str.ofString "/claim/cut.py") 428), (.int (57) 0), (.int (1) 0), (.int (0) 0), (.int (0) 0), (.int (3) 0), (.ref 175), (.bool true), (.int (181) 0), (.ref 176), .none, (.ref 177), (.ref 178), (.ref 179), (.int (430) 0), (.int (57) 0), (.str (PySem.Str.ofString "/claim/cut.py") 431)])), (List.toArray [])⟩) ::
(nat_lit 181, ⟨(.type "function"), none, (.func (PySem.W.fnOf (PySem.Str.ofString "is_key") (PySem.Str.ofString "is_key") (defArgs s_is_key) (defBody s_is_key) (defScope s_is_key) .none .none .none (.str (PySem.Str.ofString "halvesmeet.base.values") 336) none (.ref 180) .none)), (List.toArray [])⟩) ::
(nat_lit 182, ⟨(.type "tuple"), none, (.seq (List.toArray []) 0), (List.toArray [])⟩) ::
(nat_lit 184, ⟨(.type "tuple"), none, (.seq (List.toArray [(.str (PySem.Str.ofString "value") 436)]) 0), (List.toArray [])⟩) ::
(nat_lit 185, ⟨(.type "tuple"), none, (.seq (List.toArray []) 0), (List.toArray [])⟩) ::
(nat_lit 187, ⟨(.type "code"), none, (.fields (List.toArray [(.str (PySem.Str.ofString "is_short_number") 433), (.str (PySem.Str.ofString "is_short_number") 434), (.str (PySem.Str.ofString "/claim/cut.py") 435), (.int (59) 0), (.int (1) 0), (.int (0) 0), (.int (0) 0), (.int (3) 0), (.ref 182), (.bool true), (.int (181) 0), (.ref 183), .none, (.ref 184), (.ref 185), (.ref 186), (.int (437) 0), (.int (59) 0), (.str (PySem.Str.ofString "/claim/cut.py") 438)])), (List.toArray [])⟩) ::
(nat_lit 188, ⟨(.type "function"), none, (.func (PySem.W.fnOf (PySem.Str.ofString "is_short_number") (PySem.Str.ofString "is_short_number") (defArgs s_is_short_number) (defBody s_is_short_number) (defScope s_is_short_number) .none .none .none (.str (PySem.Str.ofString "halvesmeet.base.values") 336) none (.ref 187) .none)), (List.toArray [])⟩) ::
(nat_lit 189, ⟨(.type "tuple"), none, (.seq (List.toArray []) 0), (List.toArray [])⟩) ::
(nat_lit 191, ⟨(.type "tuple"), none, (.seq (List.toArray [(.str (PySem.Str.ofString "value") 443)]) 0), (List.toArray [])⟩) ::
(nat_lit 192, ⟨(.type "tuple"), none, (.seq (List.toArray []) 0), (List.toArray [])⟩) ::
(nat_lit 194, ⟨(.type "code"), none, (.fields (List.toArray [(.str (PySem.Str.ofString "is_value") 440), (.str (PySem.Str.ofString "is_value") 441), (.str (PySem.Str.ofString "/claim/cut.py") 442), (.int (61) 0), (.int (1) 0), (.int (0) 0), (.int (0) 0), (.int (3) 0), (.ref 189), (.bool true), (.int (181) 0), (.ref 190), .none, (.ref 191), (.ref 192), (.ref 193), (.int (444) 0), (.int (61) 0), (.str (PySem.Str.ofString "/claim/cut.py") 445)])), (List.toArray [])⟩) ::
(nat_lit 195, ⟨(.type "function"), none, (.func (PySem.W.fnOf (PySem.Str.ofString "is_value") (PySem.Str.ofString "is_value") (defArgs s_is_value) (defBody s_is_value) (defScope s_is_value) .none .none .none (.str (PySem.Str.ofString "halvesmeet.base.values") 336) none (.ref 194) .none)), (List.toArray [])⟩) ::
(nat_lit 196, ⟨(.type "tuple"), none, (.seq (List.toArray [(.int (999999999999999999999999999999999999999999999999999999999999) 356)]) 0), (List.toArray [])⟩) ::
(nat_lit 197, ⟨(.type "tuple"), none, (.seq (List.toArray []) 0), (List.toArray [])⟩) ::
(nat_lit 199, ⟨(.type "tuple"), none, (.seq (List.toArray [(.str (PySem.Str.ofString "given") 452), (.str (PySem.Str.ofString "least") 453), (.str (PySem.Str.ofString "most") 454)]) 0), (List.toArray [])⟩) ::
(nat_lit 200, ⟨(.type "tuple"), none, (.seq (List.toArray []) 0), (List.toArray [])⟩) ::
(nat_lit 202, ⟨(.type "code"), none, (.fields (List.toArray [(.str (PySem.Str.ofString "check_number") 449), (.str (PySem.Str.ofString "check_number") 450), (.str (PySem.Str.ofString "/claim/cut.py") 451), (.int (64) 0), (.int (3) 0), (.int (0) 0), (.int (0) 0), (.int (3) 0), (.ref 197), (.bool true), (.int (181) 0), (.ref 198), .none, (.ref 199), (.ref 200), (.ref 201), (.int (455) 0), (.int (64) 0), (.str (PySem.Str.ofString "/claim/cut.py") 456)])), (List.toArray [])⟩) ::
(nat_lit 203, ⟨(.type "function"), none, (.func (PySem.W.fnOf (PySem.Str.ofString "check_number") (PySem.Str.ofString "check_number") (defArgs s_check_number) (defBody s_check_number) (defScope s_check_number) (.ref 196) .none .none (.str (PySem.Str.ofString "halvesmeet.base.checks") 447) none (.ref 202) .none)), (List.toArray [])⟩) ::
(nat_lit 204, ⟨(.type "tuple"), none, (.seq (List.toArray []) 0), (List.toArray [])⟩) ::
(nat_lit 206, ⟨(.type "tuple"), none, (.seq (List.toArray [(.str (PySem.Str.ofString "given") 461)]) 0), (List.toArray [])⟩) ::
(nat_lit 207, ⟨(.type "tuple"), none, (.seq (List.toArray []) 0), (List.toArray [])⟩) ::
(nat_lit 209, ⟨(.type "code"), none, (.fields (List.toArray [(.str (PySem.Str.ofString "check_house") 458), (.str (PySem.Str.ofString "check_house") 459), (.str (PySem.Str.ofString "/claim/cut.py") 460), (.int (67) 0), (.int (1) 0), (.int (0) 0), (.int (0) 0), (.int (3) 0), (.ref 204), (.bool true), (.int (181) 0), (.ref 205), .none, (.ref 206), (.ref 207), (.ref 208), (.int (462) 0), (.int (67) 0), (.str (PySem.Str.ofString "/claim/cut.py") 463)])), (List.toArray [])⟩) ::
(nat_lit 210, ⟨(.type "function"), none, (.func (PySem.W.fnOf (PySem.Str.ofString "check_house") (PySem.Str.ofString "check_house") (defArgs s_check_house) (defBody s_check_house) (defScope s_check_house) .none .none .none (.str (PySem.Str.ofString "halvesmeet.base.checks") 447) none (.ref 209) .none)), (List.toArray [])⟩) ::
(nat_lit 211, ⟨(.type "tuple"), none, (.seq (List.toArray []) 0), (List.toArray [])⟩) ::
(nat_lit 213, ⟨(.type "tuple"), none, (.seq (List.toArray [(.str (PySem.Str.ofString "given") 468)]) 0), (List.toArray [])⟩) ::
(nat_lit 214, ⟨(.type "tuple"), none, (.seq (List.toArray []) 0), (List.toArray [])⟩) ::
(nat_lit 216, ⟨(.type "code"), none, (.fields (List.toArray [(.str (PySem.Str.ofString "check_client") 465), (.str (PySem.Str.ofString "check_client") 466), (.str (PySem.Str.ofString "/claim/cut.py") 467), (.int (69) 0), (.int (1) 0), (.int (0) 0), (.int (0) 0), (.int (3) 0), (.ref 211), (.bool true), (.int (181) 0), (.ref 212), .none, (.ref 213), (.ref 214), (.ref 215), (.int (469) 0), (.int (69) 0), (.str (PySem.Str.ofString "/claim/cut.py") 470)])), (List.toArray [])⟩) ::
(nat_lit 217, ⟨(.type "function"), none, (.func (PySem.W.fnOf (PySem.Str.ofString "check_client") (PySem.Str.ofString "check_client") (defArgs s_check_client) (defBody s_check_client) (defScope s_check_client) .none .none .none (.str (PySem.Str.ofString "halvesmeet.base.checks") 447) none (.ref 216) .none)), (List.toArray [])⟩) ::
(nat_lit 218, ⟨(.type "tuple"), none, (.seq (List.toArray [(.str (PySem.Str.ofString "put") 480), (.str (PySem.Str.ofString "drop") 481), (.str (PySem.Str.ofString "get") 482), (.str (PySem.Str.ofString "add") 483), (.str (PySem.Str.ofString "swap") 484)]) 0), (List.toArray [])⟩) ::
(nat_lit 219, ⟨(.type "tuple"), none, (.seq (List.toArray [(.str (PySem.Str.ofString "was") 488), (.str (PySem.Str.ofString "is") 489), (.str (PySem.Str.ofString "sum") 490), (.str (PySem.Str.ofString "swapped") 491)]) 0), (List.toArray [])⟩) ::
(nat_lit 220, ⟨(.type "tuple"), none, (.seq (List.toArray [(.str (PySem.Str.ofString "kind") 493), (.str (PySem.Str.ofString "bound") 494), (.str (PySem.Str.ofString "full") 495), (.str (PySem.Str.ofString "other") 496)]) 0), (List.toArray [])⟩) ::
(nat_lit 221, ⟨(.type "tuple"), none, (.seq (List.toArray []) 0), (List.toArray [])⟩) ::
(nat_lit 226, ⟨(.type "tuple"), none, (.seq (List.toArray []) 0), (List.toArray [])⟩) ::
(nat_lit 228, ⟨(.type "tuple"), none, (.seq (List.toArray [(.str (PySem.Str.ofString "value") 509)]) 0), (List.toArray [])⟩) ::
(nat_lit 229, ⟨(.type "tuple"), none, (.seq (List.toArray []) 0), (List.toArray [])⟩) ::
(nat_lit 231, ⟨(.type "code"), none, (.fields (List.toArray [(.str (PySem.Str.ofString "_is_worth") 506), (.str (PySem.Str.ofString "_is_worth") 507), (.str (PySem.Str.ofString "/claim/cut.py") 508), (.int (82) 0), (.int (1) 0), (.int (0) 0), (.int (0) 0), (.int (3) 0), (.ref 226), (.bool true), (.int (181) 0), (.ref 227), .none, (.ref 228), (.ref 229), (.ref 230), (.int (510) 0), (.int (82) 0), (.str (PySem.Str.ofString "/claim/cut.py") 511)])), (List.toArray [])⟩) ::
(nat_lit 232, ⟨(.type "function"), none, (.func (PySem.W.fnOf (PySem.Str.ofString "_is_worth") (PySem.Str.ofString "_is_worth") (defArgs s_is_worth) (defBody s_is_worth) (defScope s_is_worth) .none .none .none (.str (PySem.Str.ofString "halvesmeet.store.deeds") 472) none (.ref 231) .none)), (List.toArray [])⟩) ::
(nat_lit 233, ⟨(.type "tuple"), none, (.seq (List.toArray []) 0), (List.toArray [])⟩) ::
(nat_lit 235, ⟨(.type "tuple"), none, (.seq (List.toArray [(.str (PySem.Str.ofString "value") 516)]) 0), (List.toArray [])⟩) ::
(nat_lit 236, ⟨(.type "tuple"), none, (.seq (List.toArray []) 0), (List.toArray [])⟩) ::
(nat_lit 238, ⟨(.type "code"), none, (.fields (List.toArray [(.str (PySem.Str.ofString "word_of") 513), (.str (PySem.Str.ofString "word_of") 514), (.str (PySem.Str.ofString "/claim/cut.py") 515), (.int (84) 0), (.int (1) 0), (.int (0) 0), (.int (0) 0), (.int (3) 0), (.ref 233), (.bool true), (.int (181) 0), (.ref 234), .none, (.ref 235), (.ref 236), (.ref 237), (.int (517) 0), (.int (84) 0), (.str (PySem.Str.ofString "/claim/cut.py") 518)])), (List.toArray [])⟩) ::
(nat_lit 239, ⟨(.type "function"), none, (.func (PySem.W.fnOf (PySem.Str.ofString "word_of") (PySem.Str.ofString "word_of") (defArgs s_word_of) (defBody s_word_of) (defScope s_word_of) .none .none .none (.str (PySem.Str.ofString "halvesmeet.store.deeds") 472) none (.ref 238) .none)), (List.toArray [])⟩) ::
(nat_lit 240, ⟨(.type "tuple"), none, (.seq (List.toArray []) 0), (List.toArray [])⟩) ::
(nat_lit 242, ⟨(.type "tuple"), none, (.seq (List.toArray [(.str (PySem.Str.ofString "value") 523)]) 0), (List.toArray [])⟩) ::
(nat_lit 243, ⟨(.type "tuple"), none, (.seq (List.toArray []) 0), (List.toArray [])⟩) ::
(nat_lit 245, ⟨(.type "code"), none, (.fields (List.toArray [(.str (PySem.Str.ofString "_is_put") 520), (.str (PySem.Str.ofString "_is_put") 521), (.str (PySem.Str.ofString "/claim/cut.py") 522), (.int (88) 0), (.int (1) 0), (.int (0) 0), (.int (0) 0), (.int (3) 0), (.ref 240), (.bool true), (.int (181) 0), (.ref 241), .none, (.ref 242), (.ref 243), (.ref 244), (.int (524) 0), (.int (88) 0), (.str (PySem.Str.ofString "/claim/cut.py") 525)])), (List.toArray [])⟩) ::
(nat_lit 246, ⟨(.type "function"), none, (.func (PySem.W.fnOf (PySem.Str.ofString "_is_put") (PySem.Str.ofString "_is_put") (defArgs s_is_put) (defBody s_is_put) (defScope s_is_put) .none .none .none (.str (PySem.Str.ofString "halvesmeet.store.deeds") 472) none (.ref 245) .none)), (List.toArray [])⟩) ::
(nat_lit 247, ⟨(.type "tuple"), none, (.seq (List.toArray []) 0), (List.toArray [])⟩) ::
(nat_lit 249, ⟨(.type "tuple"), none, (.seq (List.toArray [(.str (PySem.Str.ofString "value") 530)]) 0), (List.toArray [])⟩) ::
(nat_lit 250, ⟨(.type "tuple"), none, (.seq (List.toArray []) 0), (List.toArray [])⟩) ::
(nat_lit 252, ⟨(.type "code"), none, (.fields (List.toArray [(.str (PySem.Str.ofString "_is_of_key") 527), (.str (PySem.Str.ofString "_is_of_key") 528), (.str (PySem.Str.ofString "/claim/cut.py") 529), (.int (90) 0), (.int (1) 0), (.int (0) 0), (.int (0) 0), (.int (3) 0), (.ref 247), (.bool true), (.int (181) 0), (.ref 248), .none, (.ref 249), (.ref 250), (.ref 251), (.int (531) 0), (.int (90) 0), (.str (PySem.Str.ofString "/claim/cut.py") 532)])), (List.toArray [])⟩) ::
(nat_lit 253, ⟨(.type "function"), none, (.func (PySem.W.fnOf (PySem.Str.ofString "_is_of_key") (PySem.Str.ofString "_is_of_key") (defArgs s_is_of_key) (defBody s_is_of_key) (defScope s_is_of_key) .none .none .none (.str (PySem.Str.ofString "halvesmeet.store.deeds") 472) none (.ref 252) .none)), (List.toArray [])⟩) ::
(nat_lit 254, ⟨(.type "tuple"), none, (.seq (List.toArray []) 0), (List.toArray [])⟩) ::
(nat_lit 256, ⟨(.type "tuple"), none, (.seq (List.toArray [(.str (PySem.Str.ofString "value") 537)]) 0), (List.toArray [])⟩) ::
(nat_lit 257, ⟨(.type "tuple"), none, (.seq (List.toArray []) 0), (List.toArray [])⟩) ::
(nat_lit 259, ⟨(.type "code"), none, (.fields (List.toArray [(.str (PySem.Str.ofString "_is_add") 534), (.str (PySem.Str.ofString "_is_add") 535), (.str (PySem.Str.ofString "/claim/cut.py") 536), (.int (92) 0), (.int (1) 0), (.int (0) 0), (.int (0) 0), (.int (3) 0), (.ref 254), (.bool true), (.int (181) 0), (.ref 255), .none, (.ref 256), (.ref 257), (.ref 258), (.int (538) 0), (.int (92) 0), (.str (PySem.Str.ofString "/claim/cut.py") 539)])), (List.toArray [])⟩) ::
(nat_lit 260, ⟨(.type "function"), none, (.func (PySem.W.fnOf (PySem.Str.ofString "_is_add") (PySem.Str.ofString "_is_add") (defArgs s_is_add) (defBody s_is_add) (defScope s_is_add) .none .none .none (.str (PySem.Str.ofString "halvesmeet.store.deeds") 472) none (.ref 259) .none)), (List.toArray [])⟩) ::
(nat_lit 261, ⟨(.type "tuple"), none, (.seq (List.toArray []) 0), (List.toArray [])⟩) ::
(nat_lit 263, ⟨(.type "tuple"), none, (.seq (List.toArray [(.str (PySem.Str.ofString "value") 544)]) 0), (List.toArray [])⟩) ::
(nat_lit 264, ⟨(.type "tuple"), none, (.seq (List.toArray []) 0), (List.toArray [])⟩) ::
(nat_lit 266, ⟨(.type "code"), none, (.fields (List.toArray [(.str (PySem.Str.ofString "_is_swap") 541), (.str (PySem.Str.ofString "_is_swap") 542), (.str (PySem.Str.ofString "/claim/cut.py") 543), (.int (94) 0), (.int (1) 0), (.int (0) 0), (.int (0) 0), (.int (3) 0), (.ref 261), (.bool true), (.int (181) 0), (.ref 262), .none, (.ref 263), (.ref 264), (.ref 265), (.int (545) 0), (.int (94) 0), (.str (PySem.Str.ofString "/claim/cut.py") 546)])), (List.toArray [])⟩) ::
(nat_lit 267, ⟨(.type "function"), none, (.func (PySem.W.fnOf (PySem.Str.ofString "_is_swap") (PySem.Str.ofString "_is_swap") (defArgs s_is_swap) (defBody s_is_swap) (defScope s_is_swap) .none .none .none (.str (PySem.Str.ofString "halvesmeet.store.deeds") 472) none (.ref 266) .none)), (List.toArray [])⟩) ::
(nat_lit 268, ⟨(.type "tuple"), none, (.seq (List.toArray []) 0), (List.toArray [])⟩) ::
(nat_lit 270, ⟨(.type "tuple"), none, (.seq (List.toArray [(.str (PySem.Str.ofString "value") 551)]) 0), (List.toArray [])⟩) ::
(nat_lit 271, ⟨(.type "tuple"), none, (.seq (List.toArray []) 0), (List.toArray [])⟩) ::
(nat_lit 273, ⟨(.type "code"), none, (.fields (List.toArray [(.str (PySem.Str.ofString "_is_list") 548), (.str (PySem.Str.ofString "_is_list") 549), (.str (PySem.Str.ofString "/claim/cut.py") 550), (.int (96) 0), (.int (1) 0), (.int (0) 0), (.int (0) 0), (.int (3) 0), (.ref 268), (.bool true), (.int (181) 0), (.ref 269), .none, (.ref 270), (.ref 271), (.ref 272), (.int (552) 0), (.int (96) 0), (.str (PySem.Str.ofString "/claim/cut.py") 553)])), (List.toArray [])⟩) ::
(nat_lit 274, ⟨(.type "function"), none, (.func (PySem.W.fnOf (PySem.Str.ofString "_is_list") (PySem.Str.ofString "_is_list") (defArgs s_is_list) (defBody s_is_list) (defScope s_is_list) .none .none .none (.str (PySem.Str.ofString "halvesmeet.store.deeds") 472) none (.ref 273) .none)), (List.toArray [])⟩) ::
(nat_lit 275, ⟨(.type "tuple"), none, (.seq (List.toArray []) 0), (List.toArray [])⟩) ::
(nat_lit 278, ⟨(.type "code"), none, (.fields (List.toArray [(.str (PySem.Str.ofString "_is_all") 555), (.str (PySem.Str.ofString "_is_all") 556), (.str (PySem.Str.ofString "/claim/cut.py") 557), (.int (98) 0), (.int (1) 0), (.int (0) 0), (.int (0) 0), (.int (3) 0), (.ref 275), (.bool true), (.int (181) 0), (.ref 276), .none, .none, .none, (.ref 277), (.int (558) 0), (.int (98) 0), (.str (PySem.Str.ofString "/claim/cut.py") 559)])), (List.toArray [])⟩) ::
(nat_lit 279, ⟨(.type "function"), none, (.func (PySem.W.fnOf (PySem.Str.ofString "_is_all") (PySem.Str.ofString "_is_all") (defArgs s_is_all) (defBody s_is_all) (defScope s_is_all) .none .none .none (.str (PySem.Str.ofString "halvesmeet.store.deeds") 472) none (.ref 278) .none)), (List.toArray [])⟩) ::
(nat_lit 280, ⟨(.type "tuple"), none, (.seq (List.toArray []) 0), (List.toArray [])⟩) ::
(nat_lit 282, ⟨(.type "tuple"), none, (.seq (List.toArray [(.str (PySem.Str.ofString "value") 564)]) 0), (List.toArray [])⟩) ::
(nat_lit 283, ⟨(.type "tuple"), none, (.seq (List.toArray []) 0), (List.toArray [])⟩) ::
(nat_lit 285, ⟨(.type "code"), none, (.fields (List.toArray [(.str (PySem.Str.ofString "_has_lot_size") 561), (.str (PySem.Str.ofString "_has_lot_size") 562), (.str (PySem.Str.ofString "/claim/cut.py") 563), (.int (102) 0), (.int (1) 0), (.int (0) 0), (.int (0) 0), (.int (3) 0), (.ref 280), (.bool true), (.int (181) 0), (.ref 281), .none, (.ref 282), (.ref 283), (.ref 284), (.int (565) 0), (.int (102) 0), (.str (PySem.Str.ofString "/claim/cut.py") 566)])), (List.toArray [])⟩) ::
(nat_lit 286, ⟨(.type "function"), none, (.func (PySem.W.fnOf (PySem.Str.ofString "_has_lot_size") (PySem.Str.ofString "_has_lot_size") (defArgs s_has_lot_size) (defBody s_has_lot_size) (defScope s_has_lot_size) .none .none .none (.str (PySem.Str.ofString "halvesmeet.store.deeds") 472) none (.ref 285) .none)), (List.toArray [])⟩) ::
(nat_lit 287, ⟨(.type "tuple"), none, (.seq (List.toArray []) 0), (List.toArray [])⟩) ::
(nat_lit 289, ⟨(.type "tuple"), none, (.seq (List.toArray [(.str (PySem.Str.ofString "value") 571)]) 0), (List.toArray [])⟩) ::
(nat_lit 290, ⟨(.type "tuple"), none, (.seq (List.toArray []) 0), (List.toArray [])⟩) ::
(nat_lit 292, ⟨(.type "code"), none, (.fields (List.toArray [(.str (PySem.Str.ofString "_is_of_circle") 568), (.str (PySem.Str.ofString "_is_of_circle") 569), (.str (PySem.Str.ofString "/claim/cut.py") 570), (.int (104) 0), (.int (1) 0), (.int (0) 0), (.int (0) 0), (.int (3) 0), (.ref 287), (.bool true), (.int (181) 0), (.ref 288), .none, (.ref 289), (.ref 290), (.ref 291), (.int (572) 0), (.int (104) 0), (.str (PySem.Str.ofString "/claim/cut.py") 573)])), (List.toArray [])⟩) ::
(nat_lit 293, ⟨(.type "function"), none, (.func (PySem.W.fnOf (PySem.Str.ofString "_is_of_circle") (PySem.Str.ofString "_is_of_circle") (defArgs s_is_of_circle) (defBody s_is_of_circle) (defScope s_is_of_circle) .none .none .none (.str (PySem.Str.ofString "halvesmeet.store.deeds") 472) none (.ref 292) .none)), (List.toArray [])⟩) ::
(nat_lit 294, ⟨(.type "dict"), none, (.dict (List.toArray [⟨PyData.keyHash P (PySem.Str.ofString "put"), (.str (PySem.Str.ofString "put") 575), (.ref 246)⟩, ⟨PyData.keyHash P (PySem.Str.ofString "drop"), (.str (PySem.Str.ofString "drop") 576), (.ref 253)⟩, ⟨PyData.keyHash P (PySem.Str.ofString "get"), (.str (PySem.Str.ofString "get") 577), (.ref 253)⟩, ⟨PyData.keyHash P (PySem.Str.ofString "add"), (.str (PySem.Str.ofString "add") 578), (.ref 260)⟩, ⟨PyData.keyHash P (PySem.Str.ofString "swap"), (.str (PySem.Str.ofString "swap") 579), (.ref 267)⟩, ⟨PyData.keyHash P (PySem.Str.ofString "list"), (.str (PySem.Str.ofString "list") 580), (.ref 274)⟩, ⟨PyData.keyHash P (PySem.Str.ofString "all"), (.str (PySem.Str.ofString "all") 581), (.ref 279)⟩, ⟨PyData.keyHash P (PySem.Str.ofString "circle"), (.str (PySem.Str.ofString "circle") 582), (.ref 293)⟩]) 8), (List.toArray [])⟩) ::
(nat_lit 295, ⟨(.type "tuple"), none, (.seq (List.toArray []) 0), (List.toArray [])⟩) ::
(nat_lit 297, ⟨(.type "tuple"), none, (.seq (List.toArray [(.str (PySem.Str.ofString "value") 595), (.str (PySem.Str.ofString "word") 596), (.str (PySem.Str.ofString "form") 597)]) 0), (List.toArray [])⟩) ::
(nat_lit 298, ⟨(.type "tuple"), none, (.seq (List.toArray []) 0), (List.toArray [])⟩) ::
(nat_lit 300, ⟨(.type "code"), none, (.fields (List.toArray [(.str (PySem.Str.ofString "is_deed") 592), (.str (PySem.Str.ofString "is_deed") 593), (.str (PySem.Str.ofString "/claim/cut.py") 594), (.int (107) 0), (.int (1) 0), (.int (0) 0), (.int (0) 0), (.int (3) 0), (.ref 295), (.bool true), (.int (181) 0), (.ref 296), .none, (.ref 297), (.ref 298), (.ref 299), (.int (598) 0), (.int (107) 0), (.str (PySem.Str.ofString "/claim/cut.py") 599)])), (List.toArray [])⟩) ::
(nat_lit 301, ⟨(.type "function"), none, (.func (PySem.W.fnOf (PySem.Str.ofString "is_deed") (PySem.Str.ofString "is_deed") (defArgs s_is_deed) (defBody s_is_deed) (defScope s_is_deed) .none .none .none (.str (PySem.Str.ofString "halvesmeet.store.deeds") 472) none (.ref 300) .none)), (List.toArray [])⟩) ::
(nat_lit 302, ⟨(.type "tuple"), none, (.seq (List.toArray []) 0), (List.toArray [])⟩) ::
(nat_lit 304, ⟨(.type "tuple"), none, (.seq (List.toArray [(.str (PySem.Str.ofString "value") 604)]) 0), (List.toArray [])⟩) ::
(nat_lit 305, ⟨(.type "tuple"), none, (.seq (List.toArray []) 0), (List.toArray [])⟩) ::
(nat_lit 309, ⟨(.type "tuple"), none, (.seq (List.toArray []) 0), (List.toArray [])⟩) ::
(nat_lit 311, ⟨(.type "tuple"), none, (.seq (List.toArray [(.str (PySem.Str.ofString "entry") 611)]) 0), (List.toArray [])⟩) ::
(nat_lit 312, ⟨(.type "tuple"), none, (.seq (List.toArray []) 0), (List.toArray [])⟩) ::
(nat_lit 316, ⟨(.type "tuple"), none, (.seq (List.toArray []) 0), (List.toArray [])⟩) ::
(nat_lit 318, ⟨(.type "tuple"), none, (.seq (List.toArray [(.str (PySem.Str.ofString "entry") 618)]) 0), (List.toArray [])⟩) ::
(nat_lit 319, ⟨(.type "tuple"), none, (.seq (List.toArray []) 0), (List.toArray [])⟩) ::
(nat_lit 323, ⟨(.type "tuple"), none, (.seq (List.toArray []) 0), (List.toArray [])⟩) ::
(nat_lit 328, ⟨(.type "tuple"), none, (.seq (List.toArray []) 0), (List.toArray [])⟩) ::
(nat_lit 330, ⟨(.type "tuple"), none, (.seq (List.toArray [(.str (PySem.Str.ofString "entries") 631)]) 0), (List.toArray [])⟩) ::
(nat_lit 331, ⟨(.type "tuple"), none, (.seq (List.toArray []) 0), (List.toArray [])⟩) ::
(nat_lit 335, ⟨(.type "tuple"), none, (.seq (List.toArray []) 0), (List.toArray [])⟩) ::
(nat_lit 337, ⟨(.type "tuple"), none, (.seq (List.toArray [(.str (PySem.Str.ofString "value") 638)]) 0), (List.toArray [])⟩) ::
(nat_lit 338, ⟨(.type "tuple"), none, (.seq (List.toArray []) 0), (List.toArray [])⟩) ::
(nat_lit 342, ⟨(.type "tuple"), none, (.seq (List.toArray []) 0), (List.toArray [])⟩) ::
(nat_lit 344, ⟨(.type "tuple"), none, (.seq (List.toArray [(.str (PySem.Str.ofString "value") 645)]) 0), (List.toArray [])⟩) ::
(nat_lit 345, ⟨(.type "tuple"), none, (.seq (List.toArray []) 0), (List.toArray [])⟩) ::
(nat_lit 349, ⟨(.type "tuple"), none, (.seq (List.toArray []) 0), (List.toArray [])⟩) ::
(nat_lit 351, ⟨(.type "tuple"), none, (.seq (List.toArray [(.str (PySem.Str.ofString "value") 652)]) 0), (List.toArray [])⟩) ::
(nat_lit 352, ⟨(.type "tuple"), none, (.seq (List.toArray []) 0), (List.toArray [])⟩) ::
(nat_lit 356, ⟨(.type "tuple"), none, (.seq (List.toArray []) 0), (List.toArray [])⟩) ::
(nat_lit 358, ⟨(.type "tuple"), none, (.seq (List.toArray [(.str (PySem.Str.ofString "value") 659)]) 0), (List.toArray [])⟩) ::
(nat_lit 359, ⟨(.type "tuple"), none, (.seq (List.toArray []) 0), (List.toArray [])⟩) ::
(nat_lit 363, ⟨(.type "tuple"), none, (.seq (List.toArray []) 0), (List.toArray [])⟩) ::
(nat_lit 368, ⟨(.type "tuple"), none, (.seq (List.toArray []) 0), (List.toArray [])⟩) ::
(nat_lit 373, ⟨(.type "tuple"), none, (.seq (List.toArray []) 0), (List.toArray [])⟩) ::
(nat_lit 375, ⟨(.type "tuple"), none, (.seq (List.toArray [(.str (PySem.Str.ofString "value") 678)]) 0), (List.toArray [])⟩) ::
(nat_lit 376, ⟨(.type "tuple"), none, (.seq (List.toArray []) 0), (List.toArray [])⟩) ::
(nat_lit 380, ⟨(.type "dict"), none, (.dict (List.toArray [⟨PyData.keyHash P (PySem.Str.ofString "was"), (.str (PySem.Str.ofString "was") 682), (.ref 348)⟩, ⟨PyData.keyHash P (PySem.Str.ofString "is"), (.str (PySem.Str.ofString "is") 683), (.ref 348)⟩, ⟨PyData.keyHash P (PySem.Str.ofString "other"), (.str (PySem.Str.ofString "other") 684), (.ref 348)⟩, ⟨PyData.keyHash P (PySem.Str.ofString "sum"), (.str (PySem.Str.ofString "sum") 685), (.ref 355)⟩, ⟨PyData.keyHash P (PySem.Str.ofString "swapped"), (.str (PySem.Str.ofString "swapped") 686), (.ref 341)⟩, ⟨PyData.keyHash P (PySem.Str.ofString "rows"), (.str (PySem.Str.ofString "rows") 687), (.ref 372)⟩, ⟨PyData.keyHash P (PySem.Str.ofString "done"), (.str (PySem.Str.ofString "done") 688), (.ref 367)⟩, ⟨PyData.keyHash P (PySem.Str.ofString "none"), (.str (PySem.Str.ofString "none") 689), (.ref 362)⟩, ⟨PyData.keyHash P (PySem.Str.ofString "next"), (.str (PySem.Str.ofString "next") 690), (.ref 293)⟩, ⟨PyData.keyHash P (PySem.Str.ofString "kind"), (.str (PySem.Str.ofString "kind") 691), (.ref 341)⟩, ⟨PyData.keyHash P (PySem.Str.ofString "bound"), (.str (PySem.Str.ofString "bound") 692), (.ref 341)⟩, ⟨PyData.keyHash P (PySem.Str.ofString "full"), (.str (PySem.Str.ofString "full") 693), (.ref 341)⟩]) 12), (List.toArray [])⟩) ::
(nat_lit 381, ⟨(.type "tuple"), none, (.seq (List.toArray []) 0), (List.toArray [])⟩) ::
(nat_lit 383, ⟨(.type "tuple"), none, (.seq (List.toArray [(.str (PySem.Str.ofString "value") 710), (.str (PySem.Str.ofString "word") 711), (.str (PySem.Str.ofString "form") 712)]) 0), (List.toArray [])⟩) ::
(nat_lit 384, ⟨(.type "tuple"), none, (.seq (List.toArray []) 0), (List.toArray [])⟩) ::
(nat_lit 388, ⟨(.type "tuple"), none, (.seq (List.toArray []) 0), (List.toArray [])⟩) ::
(nat_lit 390, ⟨(.type "tuple"), none, (.seq (List.toArray [(.str (PySem.Str.ofString "pairs") 719), (.str (PySem.Str.ofString "key") 720)]) 0), (List.toArray [])⟩) ::
(nat_lit 391, ⟨(.type "tuple"), none, (.seq (List.toArray []) 0), (List.toArray [])⟩) ::
(nat_lit 395, ⟨(.type "tuple"), none, (.seq (List.toArray []) 0), (List.toArray [])⟩) ::
(nat_lit 397, ⟨(.type "tuple"), none, (.seq (List.toArray [(.str (PySem.Str.ofString "pairs") 727), (.str (PySem.Str.ofString "key") 728), (.str (PySem.Str.ofString "worth") 729), (.str (PySem.Str.ofString "later") 730)]) 0), (List.toArray [])⟩) ::
(nat_lit 398, ⟨(.type "tuple"), none, (.seq (List.toArray []) 0), (List.toArray [])⟩) ::
(nat_lit 402, ⟨(.type "tuple"), none, (.seq (List.toArray []) 0), (List.toArray [])⟩) ::
(nat_lit 404, ⟨(.type "tuple"), none, (.seq (List.toArray [(.str (PySem.Str.ofString "pairs") 737), (.str (PySem.Str.ofString "deed") 738), (.str (PySem.Str.ofString "_") 739), (.str (PySem.Str.ofString "key") 740), (.str (PySem.Str.ofString "worth") 741)]) 0), (List.toArray [])⟩) ::
(nat_lit 405, ⟨(.type "tuple"), none, (.seq (List.toArray []) 0), (List.toArray [])⟩) ::
(nat_lit 409, ⟨(.type "tuple"), none, (.seq (List.toArray []) 0), (List.toArray [])⟩) ::
(nat_lit 411, ⟨(.type "tuple"), none, (.seq (List.toArray [(.str (PySem.Str.ofString "pairs") 748), (.str (PySem.Str.ofString "deed") 749)]) 0), (List.toArray [])⟩) ::
(nat_lit 412, ⟨(.type "tuple"), none, (.seq (List.toArray []) 0), (List.toArray [])⟩) ::
(nat_lit 416, ⟨(.type "tuple"), none, (.seq (List.toArray []) 0), (List.toArray [])⟩) ::
(nat_lit 418, ⟨(.type "tuple"), none, (.seq (List.toArray [(.str (PySem.Str.ofString "pairs") 756), (.str (PySem.Str.ofString "deed") 757)]) 0), (List.toArray [])⟩) ::
(nat_lit 419, ⟨(.type "tuple"), none, (.seq (List.toArray []) 0), (List.toArray [])⟩) ::
(nat_lit 423, ⟨(.type "tuple"), none, (.seq (List.toArray []) 0), (List.toArray [])⟩) ::
(nat_lit 425, ⟨(.type "tuple"), none, (.seq (List.toArray [(.str (PySem.Str.ofString "pairs") 764), (.str (PySem.Str.ofString "deed") 765), (.str (PySem.Str.ofString "_") 766), (.str (PySem.Str.ofString "key") 767), (.str (PySem.Str.ofString "number") 768), (.str (PySem.Str.ofString "old") 769), (.str (PySem.Str.ofString "total") 770)]) 0), (List.toArray [])⟩) ::
(nat_lit 426, ⟨(.type "tuple"), none, (.seq (List.toArray []) 0), (List.toArray [])⟩) ::
(nat_lit 430, ⟨(.type "tuple"), none, (.seq (List.toArray []) 0), (List.toArray [])⟩) ::
(nat_lit 432, ⟨(.type "tuple"), none, (.seq (List.toArray [(.str (PySem.Str.ofString "pairs") 777), (.str (PySem.Str.ofString "deed") 778), (.str (PySem.Str.ofString "_") 779), (.str (PySem.Str.ofString "key") 780), (.str (PySem.Str.ofString "old") 781), (.str (PySem.Str.ofString "new") 782)]) 0), (List.toArray [])⟩) ::
(nat_lit 433, ⟨(.type "tuple"), none, (.seq (List.toArray []) 0), (List.toArray [])⟩) ::
(nat_lit 437, ⟨(.type "tuple"), none, (.seq (List.toArray []) 0), (List.toArray [])⟩) ::
(nat_lit 442, ⟨(.type "tuple"), none, (.seq (List.toArray []) 0), (List.toArray [])⟩) ::
(nat_lit 444, ⟨(.type "tuple"), none, (.seq (List.toArray [(.str (PySem.Str.ofString "pairs") 795), (.str (PySem.Str.ofString "deed") 796), (.str (PySem.Str.ofString "later") 797), (.str (PySem.Str.ofString "answers") 798), (.str (PySem.Str.ofString "index") 799), (.str (PySem.Str.ofString "part") 800), (.str (PySem.Str.ofString "answer") 801)]) 0), (List.toArray [])⟩) ::
(nat_lit 445, ⟨(.type "tuple"), none, (.seq (List.toArray []) 0), (List.toArray [])⟩) ::
(nat_lit 449, ⟨(.type "tuple"), none, (.seq (List.toArray []) 0), (List.toArray [])⟩) ::
(nat_lit 451, ⟨(.type "tuple"), none, (.seq (List.toArray [(.str (PySem.Str.ofString "pairs") 808), (.str (PySem.Str.ofString "deed") 809)]) 0), (List.toArray [])⟩) ::
(nat_lit 452, ⟨(.type "tuple"), none, (.seq (List.toArray []) 0), (List.toArray [])⟩) ::
(nat_lit 456, ⟨(.type "dict"), none, (.dict (List.toArray [⟨PyData.keyHash P (PySem.Str.ofString "put"), (.str (PySem.Str.ofString "put") 813), (.ref 408)⟩, ⟨PyData.keyHash P (PySem.Str.ofString "drop"), (.str (PySem.Str.ofString "drop") 814), (.ref 415)⟩, ⟨PyData.keyHash P (PySem.Str.ofString "get"), (.str (PySem.Str.ofString "get") 815), (.ref 422)⟩, ⟨PyData.keyHash P (PySem.Str.ofString "add"), (.str (PySem.Str.ofString "add") 816), (.ref 429)⟩, ⟨PyData.keyHash P (PySem.Str.ofString "swap"), (.str (PySem.Str.ofString "swap") 817), (.ref 436)⟩, ⟨PyData.keyHash P (PySem.Str.ofString "list"), (.str (PySem.Str.ofString "list") 818), (.ref 441)⟩, ⟨PyData.keyHash P (PySem.Str.ofString "all"), (.str (PySem.Str.ofString "all") 819), (.ref 448)⟩, ⟨PyData.keyHash P (PySem.Str.ofString "circle"), (.str (PySem.Str.ofString "circle") 820), (.ref 455)⟩]) 8), (List.toArray [])⟩) ::
(nat_lit 457, ⟨(.type "tuple"), none, (.seq (List.toArray []) 0), (List.toArray [])⟩) ::
(nat_lit 459, ⟨(.type "tuple"), none, (.seq (List.toArray [(.str (PySem.Str.ofString "pairs") 833), (.str (PySem.Str.ofString "deed") 834), (.str (PySem.Str.ofString "step") 835)]) 0), (List.toArray [])⟩) ::
(nat_lit 460, ⟨(.type "tuple"), none, (.seq (List.toArray []) 0), (List.toArray [])⟩) ::
(nat_lit 464, ⟨(.type "tuple"), none, (.seq (List.toArray []) 0), (List.toArray [])⟩) ::
(nat_lit 476, ⟨(.type "tuple"), none, (.seq (List.toArray []) 0), (List.toArray [])⟩) ::
(nat_lit 478, ⟨(.type "tuple"), none, (.seq (List.toArray [(.str (PySem.Str.ofString "self") 866), (.str (PySem.Str.ofString "length") 867), (.str (PySem.Str.ofString "pairs") 868), (.str (PySem.Str.ofString "sessions") 869), (.str (PySem.Str.ofString "next_circle") 870)]) 0), (List.toArray [])⟩) ::
(nat_lit 479, ⟨(.type "tuple"), none, (.seq (List.toArray []) 0), (List.toArray [])⟩) ::
(nat_lit 483, ⟨(.type "tuple"), none, (.seq (List.toArray []) 0), (List.toArray [])⟩) ::
(nat_lit 485, ⟨(.type "tuple"), none, (.seq (List.toArray [(.str (PySem.Str.ofString "cls") 877)]) 0), (List.toArray [])⟩) ::
(nat_lit 486, ⟨(.type "tuple"), none, (.seq (List.toArray []) 0), (List.toArray [])⟩) ::
(nat_lit 490, ⟨(.type "dict"), none, (.dict (List.toArray [⟨PyData.keyHash P (PySem.Str.ofString "__module__"), (.str (PySem.Str.ofString "__module__") 881), (.str (PySem.Str.ofString "halvesmeet.store.states") 845)⟩, ⟨PyData.keyHash P (PySem.Str.ofString "__name__"), (.str (PySem.Str.ofString "__name__") 884), (.str (PySem.Str.ofString "first") 883)⟩, ⟨PyData.keyHash P (PySem.Str.ofString "__qualname__"), (.str (PySem.Str.ofString "__qualname__") 887), (.str (PySem.Str.ofString "State.first") 886)⟩, ⟨PyData.keyHash P (PySem.Str.ofString "__doc__"), (.str (PySem.Str.ofString "__doc__") 889), .none⟩, ⟨PyData.keyHash P (PySem.Str.ofString "__annotations__"), (.str (PySem.Str.ofString "__annotations__") 891), (.ref 492)⟩]) 5), (List.toArray [])⟩) ::
(nat_lit 491, ⟨(.type "classmethod"), (some 490), (.fields (List.toArray [(.ref 489), (.bool false)])), (List.toArray [])⟩) ::
(nat_lit 492, ⟨(.type "dict"), none, (.dict (List.toArray []) 0), (List.toArray [])⟩) ::
(nat_lit 493, ⟨(.type "tuple"), none, (.seq (List.toArray []) 0), (List.toArray [])⟩) ::
(nat_lit 495, ⟨(.type "tuple"), none, (.seq (List.toArray [(.str (PySem.Str.ofString "self") 896)]) 0), (List.toArray [])⟩) ::
(nat_lit 496, ⟨(.type "tuple"), none, (.seq (List.toArray []) 0), (List.toArray [])⟩) ::
(nat_lit 500, ⟨(.type "property"), none, (.fields (List.toArray [(.ref 499), .none, .none, .none, (.str (PySem.Str.ofString "length") 900), (.bool false)])), (List.toArray [])⟩) ::
(nat_lit 501, ⟨(.type "tuple"), none, (.seq (List.toArray []) 0), (List.toArray [])⟩) ::
(nat_lit 503, ⟨(.type "tuple"), none, (.seq (List.toArray [(.str (PySem.Str.ofString "self") 904)]) 0), (List.toArray [])⟩) ::
(nat_lit 504, ⟨(.type "tuple"), none, (.seq (List.toArray []) 0), (List.toArray [])⟩) ::
(nat_lit 508, ⟨(.type "property"), none, (.fields (List.toArray [(.ref 507), .none, .none, .none, (.str (PySem.Str.ofString "pairs") 908), (.bool false)])), (List.toArray [])⟩) ::
(nat_lit 509, ⟨(.type "tuple"), none, (.seq (List.toArray []) 0), (List.toArray [])⟩) ::
(nat_lit 511, ⟨(.type "tuple"), none, (.seq (List.toArray [(.str (PySem.Str.ofString "self") 912)]) 0), (List.toArray [])⟩) ::
(nat_lit 512, ⟨(.type "tuple"), none, (.seq (List.toArray []) 0), (List.toArray [])⟩) ::
(nat_lit 516, ⟨(.type "property"), none, (.fields (List.toArray [(.ref 515), .none, .none, .none, (.str (PySem.Str.ofString "sessions") 916), (.bool false)])), (List.toArray [])⟩) ::
(nat_lit 517, ⟨(.type "tuple"), none, (.seq (List.toArray []) 0), (List.toArray [])⟩) ::
(nat_lit 519, ⟨(.type "tuple"), none, (.seq (List.toArray [(.str (PySem.Str.ofString "self") 920)]) 0), (List.toArray [])⟩) ::
(nat_lit 520, ⟨(.type "tuple"), none, (.seq (List.toArray []) 0), (List.toArray [])⟩) ::
(nat_lit 524, ⟨(.type "property"), none, (.fields (List.toArray [(.ref 523), .none, .none, .none, (.str (PySem.Str.ofString "next") 924), (.bool false)])), (List.toArray [])⟩) ::
(nat_lit 525, ⟨(.type "tuple"), none, (.seq (List.toArray []) 0), (List.toArray [])⟩) ::
(nat_lit 527, ⟨(.type "tuple"), none, (.seq (List.toArray [(.str (PySem.Str.ofString "self") 928), (.str (PySem.Str.ofString "entry") 929), (.str (PySem.Str.ofString "later") 930)]) 0), (List.toArray [])⟩) ::
(nat_lit 528, ⟨(.type "tuple"), none, (.seq (List.toArray []) 0), (List.toArray [])⟩) ::
(nat_lit 532, ⟨(.type "tuple"), none, (.seq (List.toArray []) 0), (List.toArray [])⟩) ::
(nat_lit 534, ⟨(.type "tuple"), none, (.seq (List.toArray [(.str (PySem.Str.ofString "self") 937), (.str (PySem.Str.ofString "entries") 938)]) 0), (List.toArray [])⟩) ::
(nat_lit 535, ⟨(.type "tuple"), none, (.seq (List.toArray []) 0), (List.toArray [])⟩) ::
(nat_lit 539, ⟨(.type "tuple"), none, (.seq (List.toArray []) 0), (List.toArray [])⟩) ::
(nat_lit 541, ⟨(.type "tuple"), none, (.seq (List.toArray [(.str (PySem.Str.ofString "self") 945), (.str (PySem.Str.ofString "client") 946), (.str (PySem.Str.ofString "number") 947)]) 0), (List.toArray [])⟩) ::
(nat_lit 542, ⟨(.type "tuple"), none, (.seq (List.toArray []) 0), (List.toArray [])⟩) ::
(nat_lit 546, ⟨(.type "tuple"), none, (.seq (List.toArray []) 0), (List.toArray [])⟩) ::
(nat_lit 548, ⟨(.type "tuple"), none, (.seq (List.toArray [(.str (PySem.Str.ofString "self") 954), (.str (PySem.Str.ofString "client") 955), (.str (PySem.Str.ofString "number") 956)]) 0), (List.toArray [])⟩) ::
(nat_lit 549, ⟨(.type "tuple"), none, (.seq (List.toArray []) 0), (List.toArray [])⟩) ::
(nat_lit 553, ⟨(.type "tuple"), none, (.seq (List.toArray []) 0), (List.toArray [])⟩) ::
(nat_lit 555, ⟨(.type "tuple"), none, (.seq (List.toArray [(.str (PySem.Str.ofString "self") 963)]) 0), (List.toArray [])⟩) ::
(nat_lit 556, ⟨(.type "tuple"), none, (.seq (List.toArray []) 0), (List.toArray [])⟩) ::
(nat_lit 560, ⟨(.type "tuple"), none, (.seq (List.toArray []) 0), (List.toArray [])⟩) ::
(nat_lit 565, ⟨(.type "tuple"), none, (.seq (List.toArray []) 0), (List.toArray [])⟩) ::
(nat_lit 567, ⟨(.type "tuple"), none, (.seq (List.toArray [(.str (PySem.Str.ofString "self") 976), (.str (PySem.Str.ofString "other") 977)]) 0), (List.toArray [])⟩) ::
(nat_lit 568, ⟨(.type "tuple"), none, (.seq (List.toArray []) 0), (List.toArray [])⟩) ::
(nat_lit 572, ⟨(.type "tuple"), none, (.seq (List.toArray []) 0), (List.toArray [])⟩) ::
(nat_lit 574, ⟨(.type "tuple"), none, (.seq (List.toArray [(.str (PySem.Str.ofString "self") 984)]) 0), (List.toArray [])⟩) ::
(nat_lit 575, ⟨(.type "tuple"), none, (.seq (List.toArray []) 0), (List.toArray [])⟩) ::
(nat_lit 579, ⟨(.type "tuple"), none, (.seq (List.toArray [(.str (PySem.Str.ofString "_length") 988), (.str (PySem.Str.ofString "_next") 989), (.str (PySem.Str.ofString "_pairs") 990), (.str (PySem.Str.ofString "_sessions") 991)]) 0), (List.toArray [])⟩) ::
(nat_lit 580, ⟨(.type "dict"), none, (.dict (List.toArray [⟨PyData.keyHash P (PySem.Str.ofString "__module__"), (.str (PySem.Str.ofString "__module__") 858), (.str (PySem.Str.ofString "halvesmeet.store.states") 845)⟩, ⟨PyData.keyHash P (PySem.Str.ofString "__firstlineno__"), (.str (PySem.Str.ofString "__firstlineno__") 862), (.int (214) 861)⟩, ⟨PyData.keyHash P (PySem.Str.ofString "__init__"), (.str (PySem.Str.ofString "__init__") 873), (.ref 482)⟩, ⟨PyData.keyHash P (PySem.Str.ofString "first"), (.str (PySem.Str.ofString "first") 892), (.ref 491)⟩, ⟨PyData.keyHash P (PySem.Str.ofString "length"), (.str (PySem.Str.ofString "length") 900), (.ref 500)⟩, ⟨PyData.keyHash P (PySem.Str.ofString "pairs"), (.str (PySem.Str.ofString "pairs") 908), (.ref 508)⟩, ⟨PyData.keyHash P (PySem.Str.ofString "sessions"), (.str (PySem.Str.ofString "sessions") 916), (.ref 516)⟩, ⟨PyData.keyHash P (PySem.Str.ofString "next"), (.str (PySem.Str.ofString "next") 924), (.ref 524)⟩, ⟨PyData.keyHash P (PySem.Str.ofString "done"), (.str (PySem.Str.ofString "done") 933), (.ref 531)⟩, ⟨PyData.keyHash P (PySem.Str.ofString "run"), (.str (PySem.Str.ofString "run") 941), (.ref 538)⟩, ⟨PyData.keyHash P (PySem.Str.ofString "kept"), (.str (PySem.Str.ofString "kept") 950), (.ref 545)⟩, ⟨PyData.keyHash P (PySem.Str.ofString "is_late"), (.str (PySem.Str.ofString "is_late") 959), (.ref 552)⟩, ⟨PyData.keyHash P (PySem.Str.ofString "reopened"), (.str (PySem.Str.ofString "reopened") 966), (.ref 559)⟩, ⟨PyData.keyHash P (PySem.Str.ofString "parts"), (.str (PySem.Str.ofString "parts") 972), (.ref 564)⟩, ⟨PyData.keyHash P (PySem.Str.ofString "__eq__"), (.str (PySem.Str.ofString "__eq__") 980), (.ref 571)⟩, ⟨PyData.keyHash P (PySem.Str.ofString "__str__"), (.str (PySem.Str.ofString "__str__") 987), (.ref 578)⟩, ⟨PyData.keyHash P (PySem.Str.ofString "__static_attributes__"), (.str (PySem.Str.ofString "__static_attributes__") 992), (.ref 579)⟩, ⟨PyData.keyHash P (PySem.Str.ofString "__dict__"), (.str (PySem.Str.ofString "__dict__") 994), (.ref 582)⟩, ⟨PyData.keyHash P (PySem.Str.ofString "__weakref__"), (.str (PySem.Str.ofString "__weakref__") 996), (.ref 583)⟩, ⟨PyData.keyHash P (PySem.Str.ofString "__doc__"), (.str (PySem.Str.ofString "__doc__") 997), .none⟩, ⟨PyData.keyHash P (PySem.Str.ofString "__hash__"), (.str (PySem.Str.ofString "__hash__") 998), .none⟩]) 5), (List.toArray [])⟩) ::
(nat_lit 581, ⟨(.type "type"), none, (.cls ⟨(PySem.Str.ofString "State"), [(.type "object")], [(.ref 581), (.type "object")], 580, (PySem.Str.ofString "State"), true, [], [], false, none, false⟩), (List.toArray [none, none, (some (.str (PySem.Str.ofString "State") 851)), (some (.str (PySem.Str.ofString "State") 859)), (some (.builtin "object.__new__")), (some (.bool true))])⟩) ::
(nat_lit 582, ⟨(.type "getset_descriptor"), none, (.fields (List.toArray [(.str (PySem.Str.ofString "__dict__") 993), (.ref 581), (.builtin "function.__dict__"), (.builtin "function.__dict__#set")])), (List.toArray [])⟩) ::
(nat_lit 583, ⟨(.type "getset_descriptor"), none, (.fields (List.toArray [(.str (PySem.Str.ofString "__weakref__") 995), (.ref 581), (.builtin "ExceptionGroup.__weakref__"), .none])), (List.toArray [])⟩) ::
(nat_lit 586, ⟨(.type "tuple"), none, (.seq (List.toArray []) 0), (List.toArray [])⟩) ::
(nat_lit 588, ⟨(.type "tuple"), none, (.seq (List.toArray [(.str (PySem.Str.ofString "length") 1004), (.str (PySem.Str.ofString "pairs") 1005), (.str (PySem.Str.ofString "sessions") 1006), (.str (PySem.Str.ofString "stop") 1007), (.str (PySem.Str.ofString "state") 1008)]) 0), (List.toArray [])⟩) ::
(nat_lit 589, ⟨(.type "tuple"), none, (.seq (List.toArray []) 0), (List.toArray [])⟩) ::
(nat_lit 593, ⟨(.type "tuple"), none, (.seq (List.toArray []) 0), (List.toArray [])⟩) ::
(nat_lit 595, ⟨(.type "tuple"), none, (.seq (List.toArray [(.str (PySem.Str.ofString "state") 1016), (.str (PySem.Str.ofString "entries") 1017), (.str (PySem.Str.ofString "length") 1018), (.str (PySem.Str.ofString "pairs") 1019), (.str (PySem.Str.ofString "sessions") 1020), (.str (PySem.Str.ofString "stop") 1021), (.str (PySem.Str.ofString "entry") 1022), (.str (PySem.Str.ofString "client") 1023), (.str (PySem.Str.ofString "number") 1024), (.str (PySem.Str.ofString "deed") 1025), (.str (PySem.Str.ofString "answer") 1026)]) 0), (List.toArray [])⟩) ::
(nat_lit 596, ⟨(.type "tuple"), none, (.seq (List.toArray []) 0), (List.toArray [])⟩) ::
(nat_lit 600, ⟨(.type "tuple"), none, (.seq (List.toArray []) 0), (List.toArray [])⟩) ::
(nat_lit 605, ⟨(.type "tuple"), none, (.seq (List.toArray []) 0), (List.toArray [])⟩) ::
(nat_lit 610, ⟨(.type "tuple"), none, (.seq (List.toArray []) 0), (List.toArray [])⟩) ::
(nat_lit 612, ⟨(.type "tuple"), none, (.seq (List.toArray [(.str (PySem.Str.ofString "value") 1045), (.str (PySem.Str.ofString "length") 1046), (.str (PySem.Str.ofString "number") 1047), (.str (PySem.Str.ofString "answer") 1048), (.str (PySem.Str.ofString "place") 1049)]) 0), (List.toArray [])⟩) ::
(nat_lit 613, ⟨(.type "tuple"), none, (.seq (List.toArray []) 0), (List.toArray [])⟩) ::
(nat_lit 617, ⟨(.type "tuple"), none, (.seq (List.toArray []) 0), (List.toArray [])⟩) ::
(nat_lit 619, ⟨(.type "tuple"), none, (.seq (List.toArray [(.str (PySem.Str.ofString "value") 1056)]) 0), (List.toArray [])⟩) ::
(nat_lit 620, ⟨(.type "tuple"), none, (.seq (List.toArray []) 0), (List.toArray [])⟩) ::
(nat_lit 624, ⟨(.type "tuple"), none, (.seq (List.toArray []) 0), (List.toArray [])⟩) ::
(nat_lit 629, ⟨(.type "tuple"), none, (.seq (List.toArray []) 0), (List.toArray [])⟩) ::
(nat_lit 631, ⟨(.type "tuple"), none, (.seq (List.toArray [(.str (PySem.Str.ofString "value") 1069), (.str (PySem.Str.ofString "word") 1070), (.str (PySem.Str.ofString "many") 1071)]) 0), (List.toArray [])⟩) ::
(nat_lit 632, ⟨(.type "tuple"), none, (.seq (List.toArray []) 0), (List.toArray [])⟩) ::
(nat_lit 636, ⟨(.type "tuple"), none, (.seq (List.toArray [(.str (PySem.Str.ofString "ask") 1085), (.str (PySem.Str.ofString "grant") 1086), (.str (PySem.Str.ofString "bar") 1087), (.str (PySem.Str.ofString "lay") 1088), (.str (PySem.Str.ofString "laid") 1089), (.str (PySem.Str.ofString "carry") 1090), (.str (PySem.Str.ofString "begun") 1091)]) 0), (List.toArray [])⟩) ::
(nat_lit 637, ⟨(.type "tuple"), none, (.seq (List.toArray []) 0), (List.toArray [])⟩) ::
(nat_lit 639, ⟨(.type "tuple"), none, (.seq (List.toArray [(.str (PySem.Str.ofString "value") 1098)]) 0), (List.toArray [])⟩) ::
(nat_lit 640, ⟨(.type "tuple"), none, (.seq (List.toArray []) 0), (List.toArray [])⟩) ::
(nat_lit 642, ⟨(.type "code"), none, (.fields (List.toArray [(.str (PySem.Str.ofString "_is_count") 1095), (.str (PySem.Str.ofString "_is_count") 1096), (.str (PySem.Str.ofString "/claim/cut.py") 1097), (.int (341) 0), (.int (1) 0), (.int (0) 0), (.int (0) 0), (.int (3) 0), (.ref 637), (.bool true), (.int (181) 0), (.ref 638), .none, (.ref 639), (.ref 640), (.ref 641), (.int (1099) 0), (.int (341) 0), (.str (PySem.Str.ofString "/claim/cut.py") 1100)])), (List.toArray [])⟩) ::
(nat_lit 643, ⟨(.type "function"), none, (.func (PySem.W.fnOf (PySem.Str.ofString "_is_count") (PySem.Str.ofString "_is_count") (defArgs s_is_count) (defBody s_is_count) (defScope s_is_count) .none .none .none (.str (PySem.Str.ofString "halvesmeet.net.letters") 1075) none (.ref 642) .none)), (List.toArray [])⟩) ::
(nat_lit 644, ⟨(.type "tuple"), none, (.seq (List.toArray []) 0), (List.toArray [])⟩) ::
(nat_lit 646, ⟨(.type "tuple"), none, (.seq (List.toArray [(.str (PySem.Str.ofString "value") 1105)]) 0), (List.toArray [])⟩) ::
(nat_lit 647, ⟨(.type "tuple"), none, (.seq (List.toArray []) 0), (List.toArray [])⟩) ::
(nat_lit 651, ⟨(.type "tuple"), none, (.seq (List.toArray []) 0), (List.toArray [])⟩) ::
(nat_lit 653, ⟨(.type "tuple"), none, (.seq (List.toArray [(.str (PySem.Str.ofString "value") 1112)]) 0), (List.toArray [])⟩) ::
(nat_lit 654, ⟨(.type "tuple"), none, (.seq (List.toArray []) 0), (List.toArray [])⟩) ::
(nat_lit 656, ⟨(.type "code"), none, (.fields (List.toArray [(.str (PySem.Str.ofString "_is_call_number") 1109), (.str (PySem.Str.ofString "_is_call_number") 1110), (.str (PySem.Str.ofString "/claim/cut.py") 1111), (.int (345) 0), (.int (1) 0), (.int (0) 0), (.int (0) 0), (.int (3) 0), (.ref 651), (.bool true), (.int (181) 0), (.ref 652), .none, (.ref 653), (.ref 654), (.ref 655), (.int (1113) 0), (.int (345) 0), (.str (PySem.Str.ofString "/claim/cut.py") 1114)])), (List.toArray [])⟩) ::
(nat_lit 657, ⟨(.type "function"), none, (.func (PySem.W.fnOf (PySem.Str.ofString "_is_call_number") (PySem.Str.ofString "_is_call_number") (defArgs s_is_call_number) (defBody s_is_call_number) (defScope s_is_call_number) .none .none .none (.str (PySem.Str.ofString "halvesmeet.net.letters") 1075) none (.ref 656) .none)), (List.toArray [])⟩) ::
(nat_lit 658, ⟨(.type "tuple"), none, (.seq (List.toArray []) 0), (List.toArray [])⟩) ::
(nat_lit 660, ⟨(.type "tuple"), none, (.seq (List.toArray [(.str (PySem.Str.ofString "value") 1119)]) 0), (List.toArray [])⟩) ::
(nat_lit 661, ⟨(.type "tuple"), none, (.seq (List.toArray []) 0), (List.toArray [])⟩) ::
(nat_lit 665, ⟨(.type "tuple"), none, (.seq (List.toArray []) 0), (List.toArray [])⟩) ::
(nat_lit 667, ⟨(.type "tuple"), none, (.seq (List.toArray [(.str (PySem.Str.ofString "base") 1126), (.str (PySem.Str.ofString "start") 1127), (.str (PySem.Str.ofString "entries") 1128)]) 0), (List.toArray [])⟩) ::
(nat_lit 668, ⟨(.type "tuple"), none, (.seq (List.toArray []) 0), (List.toArray [])⟩) ::
(nat_lit 672, ⟨(.type "tuple"), none, (.seq (List.toArray []) 0), (List.toArray [])⟩) ::
(nat_lit 674, ⟨(.type "tuple"), none, (.seq (List.toArray [(.str (PySem.Str.ofString "value") 1135), (.str (PySem.Str.ofString "accepted") 1136), (.str (PySem.Str.ofString "decided") 1137), (.str (PySem.Str.ofString "base") 1138), (.str (PySem.Str.ofString "start") 1139), (.str (PySem.Str.ofString "entries") 1140)]) 0), (List.toArray [])⟩) ::
(nat_lit 675, ⟨(.type "tuple"), none, (.seq (List.toArray []) 0), (List.toArray [])⟩) ::
(nat_lit 679, ⟨(.type "tuple"), none, (.seq (List.toArray []) 0), (List.toArray [])⟩) ::
(nat_lit 681, ⟨(.type "tuple"), none, (.seq (List.toArray [(.str (PySem.Str.ofString "rest") 1147)]) 0), (List.toArray [])⟩) ::
(nat_lit 682, ⟨(.type "tuple"), none, (.seq (List.toArray []) 0), (List.toArray [])⟩) ::
(nat_lit 684, ⟨(.type "code"), none, (.fields (List.toArray [(.str (PySem.Str.ofString "_is_ask") 1144), (.str (PySem.Str.ofString "_is_ask") 1145), (.str (PySem.Str.ofString "/claim/cut.py") 1146), (.int (358) 0), (.int (1) 0), (.int (0) 0), (.int (0) 0), (.int (3) 0), (.ref 679), (.bool true), (.int (181) 0), (.ref 680), .none, (.ref 681), (.ref 682), (.ref 683), (.int (1148) 0), (.int (358) 0), (.str (PySem.Str.ofString "/claim/cut.py") 1149)])), (List.toArray [])⟩) ::
(nat_lit 685, ⟨(.type "function"), none, (.func (PySem.W.fnOf (PySem.Str.ofString "_is_ask") (PySem.Str.ofString "_is_ask") (defArgs s_is_ask) (defBody s_is_ask) (defScope s_is_ask) .none .none .none (.str (PySem.Str.ofString "halvesmeet.net.letters") 1075) none (.ref 684) .none)), (List.toArray [])⟩) ::
(nat_lit 686, ⟨(.type "tuple"), none, (.seq (List.toArray []) 0), (List.toArray [])⟩) ::
(nat_lit 688, ⟨(.type "tuple"), none, (.seq (List.toArray [(.str (PySem.Str.ofString "rest") 1154)]) 0), (List.toArray [])⟩) ::
(nat_lit 689, ⟨(.type "tuple"), none, (.seq (List.toArray []) 0), (List.toArray [])⟩) ::
(nat_lit 691, ⟨(.type "code"), none, (.fields (List.toArray [(.str (PySem.Str.ofString "_is_grant") 1151), (.str (PySem.Str.ofString "_is_grant") 1152), (.str (PySem.Str.ofString "/claim/cut.py") 1153), (.int (360) 0), (.int (1) 0), (.int (0) 0), (.int (0) 0), (.int (3) 0), (.ref 686), (.bool true), (.int (181) 0), (.ref 687), .none, (.ref 688), (.ref 689), (.ref 690), (.int (1155) 0), (.int (360) 0), (.str (PySem.Str.ofString "/claim/cut.py") 1156)])), (List.toArray [])⟩) ::
(nat_lit 692, ⟨(.type "function"), none, (.func (PySem.W.fnOf (PySem.Str.ofString "_is_grant") (PySem.Str.ofString "_is_grant") (defArgs s_is_grant) (defBody s_is_grant) (defScope s_is_grant) .none .none .none (.str (PySem.Str.ofString "halvesmeet.net.letters") 1075) none (.ref 691) .none)), (List.toArray [])⟩) ::
(nat_lit 693, ⟨(.type "tuple"), none, (.seq (List.toArray []) 0), (List.toArray [])⟩) ::
(nat_lit 695, ⟨(.type "tuple"), none, (.seq (List.toArray [(.str (PySem.Str.ofString "rest") 1161)]) 0), (List.toArray [])⟩) ::
(nat_lit 696, ⟨(.type "tuple"), none, (.seq (List.toArray []) 0), (List.toArray [])⟩) ::
(nat_lit 698, ⟨(.type "code"), none, (.fields (List.toArray [(.str (PySem.Str.ofString "_is_bar") 1158), (.str (PySem.Str.ofString "_is_bar") 1159), (.str (PySem.Str.ofString "/claim/cut.py") 1160), (.int (362) 0), (.int (1) 0), (.int (0) 0), (.int (0) 0), (.int (3) 0), (.ref 693), (.bool true), (.int (181) 0), (.ref 694), .none, (.ref 695), (.ref 696), (.ref 697), (.int (1162) 0), (.int (362) 0), (.str (PySem.Str.ofString "/claim/cut.py") 1163)])), (List.toArray [])⟩) ::
(nat_lit 699, ⟨(.type "function"), none, (.func (PySem.W.fnOf (PySem.Str.ofString "_is_bar") (PySem.Str.ofString "_is_bar") (defArgs s_is_bar) (defBody s_is_bar) (defScope s_is_bar) .none .none .none (.str (PySem.Str.ofString "halvesmeet.net.letters") 1075) none (.ref 698) .none)), (List.toArray [])⟩) ::
(nat_lit 700, ⟨(.type "tuple"), none, (.seq (List.toArray []) 0), (List.toArray [])⟩) ::
(nat_lit 703, ⟨(.type "code"), none, (.fields (List.toArray [(.str (PySem.Str.ofString "_is_lay") 1165), (.str (PySem.Str.ofString "_is_lay") 1166), (.str (PySem.Str.ofString "/claim/cut.py") 1167), (.int (364) 0), (.int (1) 0), (.int (0) 0), (.int (0) 0), (.int (3) 0), (.ref 700), (.bool true), (.int (181) 0), (.ref 701), .none, .none, .none, (.ref 702), (.int (1168) 0), (.int (364) 0), (.str (PySem.Str.ofString "/claim/cut.py") 1169)])), (List.toArray [])⟩) ::
(nat_lit 704, ⟨(.type "function"), none, (.func (PySem.W.fnOf (PySem.Str.ofString "_is_lay") (PySem.Str.ofString "_is_lay") (defArgs s_is_lay) (defBody s_is_lay) (defScope s_is_lay) .none .none .none (.str (PySem.Str.ofString "halvesmeet.net.letters") 1075) none (.ref 703) .none)), (List.toArray [])⟩) ::
(nat_lit 705, ⟨(.type "tuple"), none, (.seq (List.toArray []) 0), (List.toArray [])⟩) ::
(nat_lit 708, ⟨(.type "code"), none, (.fields (List.toArray [(.str (PySem.Str.ofString "_is_laid") 1171), (.str (PySem.Str.ofString "_is_laid") 1172), (.str (PySem.Str.ofString "/claim/cut.py") 1173), (.int (369) 0), (.int (1) 0), (.int (0) 0), (.int (0) 0), (.int (3) 0), (.ref 705), (.bool true), (.int (181) 0), (.ref 706), .none, .none, .none, (.ref 707), (.int (1174) 0), (.int (369) 0), (.str (PySem.Str.ofString "/claim/cut.py") 1175)])), (List.toArray [])⟩) ::
(nat_lit 709, ⟨(.type "function"), none, (.func (PySem.W.fnOf (PySem.Str.ofString "_is_laid") (PySem.Str.ofString "_is_laid") (defArgs s_is_laid) (defBody s_is_laid) (defScope s_is_laid) .none .none .none (.str (PySem.Str.ofString "halvesmeet.net.letters") 1075) none (.ref 708) .none)), (List.toArray [])⟩) ::
(nat_lit 710, ⟨(.type "tuple"), none, (.seq (List.toArray []) 0), (List.toArray [])⟩) ::
(nat_lit 712, ⟨(.type "tuple"), none, (.seq (List.toArray [(.str (PySem.Str.ofString "rest") 1180)]) 0), (List.toArray [])⟩) ::
(nat_lit 713, ⟨(.type "tuple"), none, (.seq (List.toArray []) 0), (List.toArray [])⟩) ::
(nat_lit 715, ⟨(.type "code"), none, (.fields (List.toArray [(.str (PySem.Str.ofString "_is_carry") 1177), (.str (PySem.Str.ofString "_is_carry") 1178), (.str (PySem.Str.ofString "/claim/cut.py") 1179), (.int (371) 0), (.int (1) 0), (.int (0) 0), (.int (0) 0), (.int (3) 0), (.ref 710), (.bool true), (.int (181) 0), (.ref 711), .none, (.ref 712), (.ref 713), (.ref 714), (.int (1181) 0), (.int (371) 0), (.str (PySem.Str.ofString "/claim/cut.py") 1182)])), (List.toArray [])⟩) ::
(nat_lit 716, ⟨(.type "function"), none, (.func (PySem.W.fnOf (PySem.Str.ofString "_is_carry") (PySem.Str.ofString "_is_carry") (defArgs s_is_carry) (defBody s_is_carry) (defScope s_is_carry) .none .none .none (.str (PySem.Str.ofString "halvesmeet.net.letters") 1075) none (.ref 715) .none)), (List.toArray [])⟩) ::
(nat_lit 717, ⟨(.type "tuple"), none, (.seq (List.toArray []) 0), (List.toArray [])⟩) ::
(nat_lit 719, ⟨(.type "tuple"), none, (.seq (List.toArray [(.str (PySem.Str.ofString "rest") 1187)]) 0), (List.toArray [])⟩) ::
(nat_lit 720, ⟨(.type "tuple"), none, (.seq (List.toArray []) 0), (List.toArray [])⟩) ::
(nat_lit 722, ⟨(.type "code"), none, (.fields (List.toArray [(.str (PySem.Str.ofString "_is_begun") 1184), (.str (PySem.Str.ofString "_is_begun") 1185), (.str (PySem.Str.ofString "/claim/cut.py") 1186), (.int (373) 0), (.int (1) 0), (.int (0) 0), (.int (0) 0), (.int (3) 0), (.ref 717), (.bool true), (.int (181) 0), (.ref 718), .none, (.ref 719), (.ref 720), (.ref 721), (.int (1188) 0), (.int (373) 0), (.str (PySem.Str.ofString "/claim/cut.py") 1189)])), (List.toArray [])⟩) ::
(nat_lit 723, ⟨(.type "function"), none, (.func (PySem.W.fnOf (PySem.Str.ofString "_is_begun") (PySem.Str.ofString "_is_begun") (defArgs s_is_begun) (defBody s_is_begun) (defScope s_is_begun) .none .none .none (.str (PySem.Str.ofString "halvesmeet.net.letters") 1075) none (.ref 722) .none)), (List.toArray [])⟩) ::
(nat_lit 724, ⟨(.type "dict"), none, (.dict (List.toArray [⟨PyData.keyHash P (PySem.Str.ofString "ask"), (.str (PySem.Str.ofString "ask") 1191), (.ref 685)⟩, ⟨PyData.keyHash P (PySem.Str.ofString "grant"), (.str (PySem.Str.ofString "grant") 1192), (.ref 692)⟩, ⟨PyData.keyHash P (PySem.Str.ofString "bar"), (.str (PySem.Str.ofString "bar") 1193), (.ref 699)⟩, ⟨PyData.keyHash P (PySem.Str.ofString "lay"), (.str (PySem.Str.ofString "lay") 1194), (.ref 704)⟩, ⟨PyData.keyHash P (PySem.Str.ofString "laid"), (.str (PySem.Str.ofString "laid") 1195), (.ref 709)⟩, ⟨PyData.keyHash P (PySem.Str.ofString "carry"), (.str (PySem.Str.ofString "carry") 1196), (.ref 716)⟩, ⟨PyData.keyHash P (PySem.Str.ofString "begun"), (.str (PySem.Str.ofString "begun") 1197), (.ref 723)⟩]) 7), (List.toArray [])⟩) ::
(nat_lit 725, ⟨(.type "tuple"), none, (.seq (List.toArray []) 0), (List.toArray [])⟩) ::
(nat_lit 727, ⟨(.type "tuple"), none, (.seq (List.toArray [(.str (PySem.Str.ofString "letter") 1209)]) 0), (List.toArray [])⟩) ::
(nat_lit 728, ⟨(.type "tuple"), none, (.seq (List.toArray []) 0), (List.toArray [])⟩) ::
(nat_lit 730, ⟨(.type "code"), none, (.fields (List.toArray [(.str (PySem.Str.ofString "_is_call") 1206), (.str (PySem.Str.ofString "_is_call") 1207), (.str (PySem.Str.ofString "/claim/cut.py") 1208), (.int (376) 0), (.int (1) 0), (.int (0) 0), (.int (0) 0), (.int (3) 0), (.ref 725), (.bool true), (.int (181) 0), (.ref 726), .none, (.ref 727), (.ref 728), (.ref 729), (.int (1210) 0), (.int (376) 0), (.str (PySem.Str.ofString "/claim/cut.py") 1211)])), (List.toArray [])⟩) ::
(nat_lit 731, ⟨(.type "function"), none, (.func (PySem.W.fnOf (PySem.Str.ofString "_is_call") (PySem.Str.ofString "_is_call") (defArgs s_is_call) (defBody s_is_call) (defScope s_is_call) .none .none .none (.str (PySem.Str.ofString "halvesmeet.net.letters") 1075) none (.ref 730) .none)), (List.toArray [])⟩) ::
(nat_lit 732, ⟨(.type "tuple"), none, (.seq (List.toArray []) 0), (List.toArray [])⟩) ::
(nat_lit 734, ⟨(.type "tuple"), none, (.seq (List.toArray [(.str (PySem.Str.ofString "letter") 1216)]) 0), (List.toArray [])⟩) ::
(nat_lit 735, ⟨(.type "tuple"), none, (.seq (List.toArray []) 0), (List.toArray [])⟩) ::
(nat_lit 739, ⟨(.type "tuple"), none, (.seq (List.toArray []) 0), (List.toArray [])⟩) ::
(nat_lit 741, ⟨(.type "tuple"), none, (.seq (List.toArray [(.str (PySem.Str.ofString "letter") 1223)]) 0), (List.toArray [])⟩) ::
(nat_lit 742, ⟨(.type "tuple"), none, (.seq (List.toArray []) 0), (List.toArray [])⟩) ::
(nat_lit 744, ⟨(.type "code"), none, (.fields (List.toArray [(.str (PySem.Str.ofString "_is_reply") 1220), (.str (PySem.Str.ofString "_is_reply") 1221), (.str (PySem.Str.ofString "/claim/cut.py") 1222), (.int (382) 0), (.int (1) 0), (.int (0) 0), (.int (0) 0), (.int (3) 0), (.ref 739), (.bool true), (.int (181) 0), (.ref 740), .none, (.ref 741), (.ref 742), (.ref 743), (.int (1224) 0), (.int (382) 0), (.str (PySem.Str.ofString "/claim/cut.py") 1225)])), (List.toArray [])⟩) ::
(nat_lit 745, ⟨(.type "function"), none, (.func (PySem.W.fnOf (PySem.Str.ofString "_is_reply") (PySem.Str.ofString "_is_reply") (defArgs s_is_reply) (defBody s_is_reply) (defScope s_is_reply) .none .none .none (.str (PySem.Str.ofString "halvesmeet.net.letters") 1075) none (.ref 744) .none)), (List.toArray [])⟩) ::
(nat_lit 746, ⟨(.type "tuple"), none, (.seq (List.toArray []) 0), (List.toArray [])⟩) ::
(nat_lit 748, ⟨(.type "tuple"), none, (.seq (List.toArray [(.str (PySem.Str.ofString "letter") 1230), (.str (PySem.Str.ofString "_") 1231), (.str (PySem.Str.ofString "other") 1232), (.str (PySem.Str.ofString "epoch") 1233), (.str (PySem.Str.ofString "circle") 1234)]) 0), (List.toArray [])⟩) ::
(nat_lit 749, ⟨(.type "tuple"), none, (.seq (List.toArray []) 0), (List.toArray [])⟩) ::
(nat_lit 751, ⟨(.type "code"), none, (.fields (List.toArray [(.str (PySem.Str.ofString "_is_try") 1227), (.str (PySem.Str.ofString "_is_try") 1228), (.str (PySem.Str.ofString "/claim/cut.py") 1229), (.int (384) 0), (.int (1) 0), (.int (0) 0), (.int (0) 0), (.int (3) 0), (.ref 746), (.bool true), (.int (181) 0), (.ref 747), .none, (.ref 748), (.ref 749), (.ref 750), (.int (1235) 0), (.int (384) 0), (.str (PySem.Str.ofString "/claim/cut.py") 1236)])), (List.toArray [])⟩) ::
(nat_lit 752, ⟨(.type "function"), none, (.func (PySem.W.fnOf (PySem.Str.ofString "_is_try") (PySem.Str.ofString "_is_try") (defArgs s_is_try) (defBody s_is_try) (defScope s_is_try) .none .none .none (.str (PySem.Str.ofString "halvesmeet.net.letters") 1075) none (.ref 751) .none)), (List.toArray [])⟩) ::
(nat_lit 753, ⟨(.type "dict"), none, (.dict (List.toArray [⟨PyData.keyHash P (PySem.Str.ofString "deed"), (.str (PySem.Str.ofString "deed") 1238), (.ref 731)⟩, ⟨PyData.keyHash P (PySem.Str.ofString "answer"), (.str (PySem.Str.ofString "answer") 1239), (.ref 745)⟩, ⟨PyData.keyHash P (PySem.Str.ofString "try"), (.str (PySem.Str.ofString "try") 1240), (.ref 752)⟩]) 3), (List.toArray [])⟩) ::
(nat_lit 754, ⟨(.type "tuple"), none, (.seq (List.toArray []) 0), (List.toArray [])⟩) ::
(nat_lit 756, ⟨(.type "tuple"), none, (.seq (List.toArray [(.str (PySem.Str.ofString "value") 1248), (.str (PySem.Str.ofString "word") 1249), (.str (PySem.Str.ofString "form") 1250)]) 0), (List.toArray [])⟩) ::
(nat_lit 757, ⟨(.type "tuple"), none, (.seq (List.toArray []) 0), (List.toArray [])⟩) ::
(nat_lit 759, ⟨(.type "code"), none, (.fields (List.toArray [(.str (PySem.Str.ofString "is_letter") 1245), (.str (PySem.Str.ofString "is_letter") 1246), (.str (PySem.Str.ofString "/claim/cut.py") 1247), (.int (390) 0), (.int (1) 0), (.int (0) 0), (.int (0) 0), (.int (3) 0), (.ref 754), (.bool true), (.int (181) 0), (.ref 755), .none, (.ref 756), (.ref 757), (.ref 758), (.int (1251) 0), (.int (390) 0), (.str (PySem.Str.ofString "/claim/cut.py") 1252)])), (List.toArray [])⟩) ::
(nat_lit 760, ⟨(.type "function"), none, (.func (PySem.W.fnOf (PySem.Str.ofString "is_letter") (PySem.Str.ofString "is_letter") (defArgs s_is_letter) (defBody s_is_letter) (defScope s_is_letter) .none .none .none (.str (PySem.Str.ofString "halvesmeet.net.letters") 1075) none (.ref 759) .none)), (List.toArray [])⟩) ::
(nat_lit 761, ⟨(.type "tuple"), none, (.seq (List.toArray []) 0), (List.toArray [])⟩) ::
(nat_lit 763, ⟨(.type "tuple"), none, (.seq (List.toArray [(.str (PySem.Str.ofString "value") 1257), (.str (PySem.Str.ofString "word") 1258), (.str (PySem.Str.ofString "form") 1259)]) 0), (List.toArray [])⟩) ::
(nat_lit 764, ⟨(.type "tuple"), none, (.seq (List.toArray []) 0), (List.toArray [])⟩) ::
(nat_lit 766, ⟨(.type "code"), none, (.fields (List.toArray [(.str (PySem.Str.ofString "is_house_letter") 1254), (.str (PySem.Str.ofString "is_house_letter") 1255), (.str (PySem.Str.ofString "/claim/cut.py") 1256), (.int (396) 0), (.int (1) 0), (.int (0) 0), (.int (0) 0), (.int (3) 0), (.ref 761), (.bool true), (.int (181) 0), (.ref 762), .none, (.ref 763), (.ref 764), (.ref 765), (.int (1260) 0), (.int (396) 0), (.str (PySem.Str.ofString "/claim/cut.py") 1261)])), (List.toArray [])⟩) ::
(nat_lit 767, ⟨(.type "function"), none, (.func (PySem.W.fnOf (PySem.Str.ofString "is_house_letter") (PySem.Str.ofString "is_house_letter") (defArgs s_is_house_letter) (defBody s_is_house_letter) (defScope s_is_house_letter) .none .none .none (.str (PySem.Str.ofString "halvesmeet.net.letters") 1075) none (.ref 766) .none)), (List.toArray [])⟩) ::
(nat_lit 768, ⟨(.type "tuple"), none, (.seq (List.toArray []) 0), (List.toArray [])⟩) ::
(nat_lit 770, ⟨(.type "tuple"), none, (.seq (List.toArray [(.str (PySem.Str.ofString "value") 1266)]) 0), (List.toArray [])⟩) ::
(nat_lit 771, ⟨(.type "tuple"), none, (.seq (List.toArray []) 0), (List.toArray [])⟩) ::
(nat_lit 773, ⟨(.type "code"), none, (.fields (List.toArray [(.str (PySem.Str.ofString "check_letter") 1263), (.str (PySem.Str.ofString "check_letter") 1264), (.str (PySem.Str.ofString "/claim/cut.py") 1265), (.int (402) 0), (.int (1) 0), (.int (0) 0), (.int (0) 0), (.int (3) 0), (.ref 768), (.bool true), (.int (181) 0), (.ref 769), .none, (.ref 770), (.ref 771), (.ref 772), (.int (1267) 0), (.int (402) 0), (.str (PySem.Str.ofString "/claim/cut.py") 1268)])), (List.toArray [])⟩) ::
(nat_lit 774, ⟨(.type "function"), none, (.func (PySem.W.fnOf (PySem.Str.ofString "check_letter") (PySem.Str.ofString "check_letter") (defArgs s_check_letter) (defBody s_check_letter) (defScope s_check_letter) .none .none .none (.str (PySem.Str.ofString "halvesmeet.net.letters") 1075) none (.ref 773) .none)), (List.toArray [])⟩) ::
(nat_lit 775, ⟨(.type "tuple"), none, (.seq (List.toArray []) 0), (List.toArray [])⟩) ::
(nat_lit 778, ⟨(.type "code"), none, (.fields (List.toArray [(.str (PySem.Str.ofString "check_letters") 1270), (.str (PySem.Str.ofString "check_letters") 1271), (.str (PySem.Str.ofString "/claim/cut.py") 1272), (.int (405) 0), (.int (1) 0), (.int (0) 0), (.int (0) 0), (.int (3) 0), (.ref 775), (.bool true), (.int (181) 0), (.ref 776), .none, .none, .none, (.ref 777), (.int (1273) 0), (.int (405) 0), (.str (PySem.Str.ofString "/claim/cut.py") 1274)])), (List.toArray [])⟩) ::
(nat_lit 779, ⟨(.type "function"), none, (.func (PySem.W.fnOf (PySem.Str.ofString "check_letters") (PySem.Str.ofString "check_letters") (defArgs s_check_letters) (defBody s_check_letters) (defScope s_check_letters) .none .none .none (.str (PySem.Str.ofString "halvesmeet.net.letters") 1075) none (.ref 778) .none)), (List.toArray [])⟩) ::
(nat_lit 780, ⟨(.type "tuple"), none, (.seq (List.toArray []) 0), (List.toArray [])⟩) ::
(nat_lit 782, ⟨(.type "tuple"), none, (.seq (List.toArray [(.str (PySem.Str.ofString "letter") 1279)]) 0), (List.toArray [])⟩) ::
(nat_lit 783, ⟨(.type "tuple"), none, (.seq (List.toArray []) 0), (List.toArray [])⟩) ::
(nat_lit 785, ⟨(.type "code"), none, (.fields (List.toArray [(.str (PySem.Str.ofString "sender") 1276), (.str (PySem.Str.ofString "sender") 1277), (.str (PySem.Str.ofString "/claim/cut.py") 1278), (.int (408) 0), (.int (1) 0), (.int (0) 0), (.int (0) 0), (.int (3) 0), (.ref 780), (.bool true), (.int (181) 0), (.ref 781), .none, (.ref 782), (.ref 783), (.ref 784), (.int (1280) 0), (.int (408) 0), (.str (PySem.Str.ofString "/claim/cut.py") 1281)])), (List.toArray [])⟩) ::
(nat_lit 786, ⟨(.type "function"), none, (.func (PySem.W.fnOf (PySem.Str.ofString "sender") (PySem.Str.ofString "sender") (defArgs s_sender) (defBody s_sender) (defScope s_sender) .none .none .none (.str (PySem.Str.ofString "halvesmeet.net.letters") 1075) none (.ref 785) .none)), (List.toArray [])⟩) ::
(nat_lit 787, ⟨(.type "tuple"), none, (.seq (List.toArray []) 0), (List.toArray [])⟩) ::
(nat_lit 789, ⟨(.type "tuple"), none, (.seq (List.toArray [(.str (PySem.Str.ofString "letter") 1286)]) 0), (List.toArray [])⟩) ::
(nat_lit 790, ⟨(.type "tuple"), none, (.seq (List.toArray []) 0), (List.toArray [])⟩) ::
(nat_lit 792, ⟨(.type "code"), none, (.fields (List.toArray [(.str (PySem.Str.ofString "receiver") 1283), (.str (PySem.Str.ofString "receiver") 1284), (.str (PySem.Str.ofString "/claim/cut.py") 1285), (.int (413) 0), (.int (1) 0), (.int (0) 0), (.int (0) 0), (.int (3) 0), (.ref 787), (.bool true), (.int (181) 0), (.ref 788), .none, (.ref 789), (.ref 790), (.ref 791), (.int (1287) 0), (.int (413) 0), (.str (PySem.Str.ofString "/claim/cut.py") 1288)])), (List.toArray [])⟩) ::
(nat_lit 793, ⟨(.type "function"), none, (.func (PySem.W.fnOf (PySem.Str.ofString "receiver") (PySem.Str.ofString "receiver") (defArgs s_receiver) (defBody s_receiver) (defScope s_receiver) .none .none .none (.str (PySem.Str.ofString "halvesmeet.net.letters") 1075) none (.ref 792) .none)), (List.toArray [])⟩) ::
(nat_lit 794, ⟨(.type "tuple"), none, (.seq (List.toArray []) 0), (List.toArray [])⟩) ::
(nat_lit 796, ⟨(.type "tuple"), none, (.seq (List.toArray [(.str (PySem.Str.ofString "letter") 1293)]) 0), (List.toArray [])⟩) ::
(nat_lit 797, ⟨(.type "tuple"), none, (.seq (List.toArray []) 0), (List.toArray [])⟩) ::
(nat_lit 808, ⟨(.type "tuple"), none, (.seq (List.toArray []) 0), (List.toArray [])⟩) ::
(nat_lit 809, ⟨(.type "tuple"), none, (.seq (List.toArray [(.ref 808)]) 0), (List.toArray [])⟩) ::
(nat_lit 810, ⟨(.type "tuple"), none, (.seq (List.toArray []) 0), (List.toArray [])⟩) ::
(nat_lit 812, ⟨(.type "tuple"), none, (.seq (List.toArray [(.str (PySem.Str.ofString "self") 1312), (.str (PySem.Str.ofString "letters") 1313)]) 0), (List.toArray [])⟩) ::
(nat_lit 813, ⟨(.type "tuple"), none, (.seq (List.toArray []) 0), (List.toArray [])⟩) ::
(nat_lit 815, ⟨(.type "code"), none, (.fields (List.toArray [(.str (PySem.Str.ofString "__init__") 1309), (.str (PySem.Str.ofString "Bag.__init__") 1310), (.str (PySem.Str.ofString "/claim/cut.py") 1311), (.int (422) 0), (.int (2) 0), (.int (0) 0), (.int (0) 0), (.int (3) 0), (.ref 810), (.bool true), (.int (181) 0), (.ref 811), .none, (.ref 812), (.ref 813), (.ref 814), (.int (1314) 0), (.int (422) 0), (.str (PySem.Str.ofString "/claim/cut.py") 1315)])), (List.toArray [])⟩) ::
(nat_lit 816, ⟨(.type "function"), none, (.func (PySem.W.fnOf (PySem.Str.ofString "__init__") (PySem.Str.ofString "Bag.__init__") (defArgs s_Bag_init) (defBody s_Bag_init) (defScope s_Bag_init) (.ref 809) .none .none (.str (PySem.Str.ofString "halvesmeet.net.letters") 1075) none (.ref 815) .none)), (List.toArray [])⟩) ::
(nat_lit 817, ⟨(.type "tuple"), none, (.seq (List.toArray []) 0), (List.toArray [])⟩) ::
(nat_lit 819, ⟨(.type "tuple"), none, (.seq (List.toArray [(.str (PySem.Str.ofString "self") 1320)]) 0), (List.toArray [])⟩) ::
(nat_lit 820, ⟨(.type "tuple"), none, (.seq (List.toArray []) 0), (List.toArray [])⟩) ::
(nat_lit 822, ⟨(.type "code"), none, (.fields (List.toArray [(.str (PySem.Str.ofString "letters") 1317), (.str (PySem.Str.ofString "Bag.letters") 1318), (.str (PySem.Str.ofString "/claim/cut.py") 1319), (.int (428) 0), (.int (1) 0), (.int (0) 0), (.int (0) 0), (.int (3) 0), (.ref 817), (.bool true), (.int (181) 0), (.ref 818), .none, (.ref 819), (.ref 820), (.ref 821), (.int (1321) 0), (.int (428) 0), (.str (PySem.Str.ofString "/claim/cut.py") 1322)])), (List.toArray [])⟩) ::
(nat_lit 823, ⟨(.type "function"), none, (.func (PySem.W.fnOf (PySem.Str.ofString "letters") (PySem.Str.ofString "Bag.letters") (defArgs s_Bag_letters) (defBody s_Bag_letters) (defScope s_Bag_letters) .none .none .none (.str (PySem.Str.ofString "halvesmeet.net.letters") 1075) none (.ref 822) .none)), (List.toArray [])⟩) ::
(nat_lit 824, ⟨(.type "property"), none, (.fields (List.toArray [(.ref 823), .none, .none, .none, (.str (PySem.Str.ofString "letters") 1324), (.bool false)])), (List.toArray [])⟩) ::
(nat_lit 825, ⟨(.type "tuple"), none, (.seq (List.toArray []) 0), (List.toArray [])⟩) ::
(nat_lit 827, ⟨(.type "tuple"), none, (.seq (List.toArray [(.str (PySem.Str.ofString "self") 1328), (.str (PySem.Str.ofString "letters") 1329)]) 0), (List.toArray [])⟩) ::
(nat_lit 828, ⟨(.type "tuple"), none, (.seq (List.toArray []) 0), (List.toArray [])⟩) ::
(nat_lit 830, ⟨(.type "code"), none, (.fields (List.toArray [(.str (PySem.Str.ofString "sent") 1325), (.str (PySem.Str.ofString "Bag.sent") 1326), (.str (PySem.Str.ofString "/claim/cut.py") 1327), (.int (432) 0), (.int (2) 0), (.int (0) 0), (.int (0) 0), (.int (3) 0), (.ref 825), (.bool true), (.int (181) 0), (.ref 826), .none, (.ref 827), (.ref 828), (.ref 829), (.int (1330) 0), (.int (432) 0), (.str (PySem.Str.ofString "/claim/cut.py") 1331)])), (List.toArray [])⟩) ::
(nat_lit 831, ⟨(.type "function"), none, (.func (PySem.W.fnOf (PySem.Str.ofString "sent") (PySem.Str.ofString "Bag.sent") (defArgs s_Bag_sent) (defBody s_Bag_sent) (defScope s_Bag_sent) .none .none .none (.str (PySem.Str.ofString "halvesmeet.net.letters") 1075) none (.ref 830) .none)), (List.toArray [])⟩) ::
(nat_lit 832, ⟨(.type "tuple"), none, (.seq (List.toArray []) 0), (List.toArray [])⟩) ::
(nat_lit 834, ⟨(.type "tuple"), none, (.seq (List.toArray [(.str (PySem.Str.ofString "self") 1336), (.str (PySem.Str.ofString "index") 1337), (.str (PySem.Str.ofString "later") 1338)]) 0), (List.toArray [])⟩) ::
(nat_lit 835, ⟨(.type "tuple"), none, (.seq (List.toArray []) 0), (List.toArray [])⟩) ::
(nat_lit 837, ⟨(.type "code"), none, (.fields (List.toArray [(.str (PySem.Str.ofString "taken") 1333), (.str (PySem.Str.ofString "Bag.taken") 1334), (.str (PySem.Str.ofString "/claim/cut.py") 1335), (.int (436) 0), (.int (2) 0), (.int (0) 0), (.int (0) 0), (.int (3) 0), (.ref 832), (.bool true), (.int (181) 0), (.ref 833), .none, (.ref 834), (.ref 835), (.ref 836), (.int (1339) 0), (.int (436) 0), (.str (PySem.Str.ofString "/claim/cut.py") 1340)])), (List.toArray [])⟩) ::
(nat_lit 838, ⟨(.type "function"), none, (.func (PySem.W.fnOf (PySem.Str.ofString "taken") (PySem.Str.ofString "Bag.taken") (defArgs s_Bag_taken) (defBody s_Bag_taken) (defScope s_Bag_taken) .none .none .none (.str (PySem.Str.ofString "halvesmeet.net.letters") 1075) none (.ref 837) .none)), (List.toArray [])⟩) ::
(nat_lit 839, ⟨(.type "tuple"), none, (.seq (List.toArray []) 0), (List.toArray [])⟩) ::
(nat_lit 841, ⟨(.type "tuple"), none, (.seq (List.toArray [(.str (PySem.Str.ofString "self") 1345), (.str (PySem.Str.ofString "index") 1346)]) 0), (List.toArray [])⟩) ::
(nat_lit 842, ⟨(.type "tuple"), none, (.seq (List.toArray []) 0), (List.toArray [])⟩) ::
(nat_lit 844, ⟨(.type "code"), none, (.fields (List.toArray [(.str (PySem.Str.ofString "lost") 1342), (.str (PySem.Str.ofString "Bag.lost") 1343), (.str (PySem.Str.ofString "/claim/cut.py") 1344), (.int (440) 0), (.int (2) 0), (.int (0) 0), (.int (0) 0), (.int (3) 0), (.ref 839), (.bool true), (.int (181) 0), (.ref 840), .none, (.ref 841), (.ref 842), (.ref 843), (.int (1347) 0), (.int (440) 0), (.str (PySem.Str.ofString "/claim/cut.py") 1348)])), (List.toArray [])⟩) ::
(nat_lit 845, ⟨(.type "function"), none, (.func (PySem.W.fnOf (PySem.Str.ofString "lost") (PySem.Str.ofString "Bag.lost") (defArgs s_Bag_lost) (defBody s_Bag_lost) (defScope s_Bag_lost) .none .none .none (.str (PySem.Str.ofString "halvesmeet.net.letters") 1075) none (.ref 844) .none)), (List.toArray [])⟩) ::
(nat_lit 846, ⟨(.type "tuple"), none, (.seq (List.toArray []) 0), (List.toArray [])⟩) ::
(nat_lit 848, ⟨(.type "tuple"), none, (.seq (List.toArray [(.str (PySem.Str.ofString "self") 1353), (.str (PySem.Str.ofString "index") 1354)]) 0), (List.toArray [])⟩) ::
(nat_lit 849, ⟨(.type "tuple"), none, (.seq (List.toArray []) 0), (List.toArray [])⟩) ::
(nat_lit 851, ⟨(.type "code"), none, (.fields (List.toArray [(.str (PySem.Str.ofString "doubled") 1350), (.str (PySem.Str.ofString "Bag.doubled") 1351), (.str (PySem.Str.ofString "/claim/cut.py") 1352), (.int (444) 0), (.int (2) 0), (.int (0) 0), (.int (0) 0), (.int (3) 0), (.ref 846), (.bool true), (.int (181) 0), (.ref 847), .none, (.ref 848), (.ref 849), (.ref 850), (.int (1355) 0), (.int (444) 0), (.str (PySem.Str.ofString "/claim/cut.py") 1356)])), (List.toArray [])⟩) ::
(nat_lit 852, ⟨(.type "function"), none, (.func (PySem.W.fnOf (PySem.Str.ofString "doubled") (PySem.Str.ofString "Bag.doubled") (defArgs s_Bag_doubled) (defBody s_Bag_doubled) (defScope s_Bag_doubled) .none .none .none (.str (PySem.Str.ofString "halvesmeet.net.letters") 1075) none (.ref 851) .none)), (List.toArray [])⟩) ::
(nat_lit 853, ⟨(.type "tuple"), none, (.seq (List.toArray []) 0), (List.toArray [])⟩) ::
(nat_lit 855, ⟨(.type "tuple"), none, (.seq (List.toArray [(.str (PySem.Str.ofString "self") 1361), (.str (PySem.Str.ofString "house") 1362)]) 0), (List.toArray [])⟩) ::
(nat_lit 856, ⟨(.type "tuple"), none, (.seq (List.toArray []) 0), (List.toArray [])⟩) ::
(nat_lit 858, ⟨(.type "code"), none, (.fields (List.toArray [(.str (PySem.Str.ofString "to_house") 1358), (.str (PySem.Str.ofString "Bag.to_house") 1359), (.str (PySem.Str.ofString "/claim/cut.py") 1360), (.int (448) 0), (.int (2) 0), (.int (0) 0), (.int (0) 0), (.int (3) 0), (.ref 853), (.bool true), (.int (181) 0), (.ref 854), .none, (.ref 855), (.ref 856), (.ref 857), (.int (1363) 0), (.int (448) 0), (.str (PySem.Str.ofString "/claim/cut.py") 1364)])), (List.toArray [])⟩) ::
(nat_lit 859, ⟨(.type "function"), none, (.func (PySem.W.fnOf (PySem.Str.ofString "to_house") (PySem.Str.ofString "Bag.to_house") (defArgs s_Bag_to_house) (defBody s_Bag_to_house) (defScope s_Bag_to_house) .none .none .none (.str (PySem.Str.ofString "halvesmeet.net.letters") 1075) none (.ref 858) .none)), (List.toArray [])⟩) ::
(nat_lit 860, ⟨(.type "tuple"), none, (.seq (List.toArray []) 0), (List.toArray [])⟩) ::
(nat_lit 862, ⟨(.type "tuple"), none, (.seq (List.toArray [(.str (PySem.Str.ofString "self") 1369), (.str (PySem.Str.ofString "client") 1370)]) 0), (List.toArray [])⟩) ::
(nat_lit 863, ⟨(.type "tuple"), none, (.seq (List.toArray []) 0), (List.toArray [])⟩) ::
(nat_lit 865, ⟨(.type "code"), none, (.fields (List.toArray [(.str (PySem.Str.ofString "to_client") 1366), (.str (PySem.Str.ofString "Bag.to_client") 1367), (.str (PySem.Str.ofString "/claim/cut.py") 1368), (.int (452) 0), (.int (2) 0), (.int (0) 0), (.int (0) 0), (.int (3) 0), (.ref 860), (.bool true), (.int (181) 0), (.ref 861), .none, (.ref 862), (.ref 863), (.ref 864), (.int (1371) 0), (.int (452) 0), (.str (PySem.Str.ofString "/claim/cut.py") 1372)])), (List.toArray [])⟩) ::
(nat_lit 866, ⟨(.type "function"), none, (.func (PySem.W.fnOf (PySem.Str.ofString "to_client") (PySem.Str.ofString "Bag.to_client") (defArgs s_Bag_to_client) (defBody s_Bag_to_client) (defScope s_Bag_to_client) .none .none .none (.str (PySem.Str.ofString "halvesmeet.net.letters") 1075) none (.ref 865) .none)), (List.toArray [])⟩) ::
(nat_lit 867, ⟨(.type "tuple"), none, (.seq (List.toArray []) 0), (List.toArray [])⟩) ::
(nat_lit 869, ⟨(.type "tuple"), none, (.seq (List.toArray [(.str (PySem.Str.ofString "self") 1377), (.str (PySem.Str.ofString "other") 1378)]) 0), (List.toArray [])⟩) ::
(nat_lit 870, ⟨(.type "tuple"), none, (.seq (List.toArray []) 0), (List.toArray [])⟩) ::
(nat_lit 872, ⟨(.type "code"), none, (.fields (List.toArray [(.str (PySem.Str.ofString "has_same") 1374), (.str (PySem.Str.ofString "Bag.has_same") 1375), (.str (PySem.Str.ofString "/claim/cut.py") 1376), (.int (456) 0), (.int (2) 0), (.int (0) 0), (.int (0) 0), (.int (3) 0), (.ref 867), (.bool true), (.int (181) 0), (.ref 868), .none, (.ref 869), (.ref 870), (.ref 871), (.int (1379) 0), (.int (456) 0), (.str (PySem.Str.ofString "/claim/cut.py") 1380)])), (List.toArray [])⟩) ::
(nat_lit 873, ⟨(.type "function"), none, (.func (PySem.W.fnOf (PySem.Str.ofString "has_same") (PySem.Str.ofString "Bag.has_same") (defArgs s_Bag_has_same) (defBody s_Bag_has_same) (defScope s_Bag_has_same) .none .none .none (.str (PySem.Str.ofString "halvesmeet.net.letters") 1075) none (.ref 872) .none)), (List.toArray [])⟩) ::
(nat_lit 874, ⟨(.type "tuple"), none, (.seq (List.toArray []) 0), (List.toArray [])⟩) ::
(nat_lit 876, ⟨(.type "tuple"), none, (.seq (List.toArray [(.str (PySem.Str.ofString "self") 1385)]) 0), (List.toArray [])⟩) ::
(nat_lit 877, ⟨(.type "tuple"), none, (.seq (List.toArray []) 0), (List.toArray [])⟩) ::
(nat_lit 879, ⟨(.type "code"), none, (.fields (List.toArray [(.str (PySem.Str.ofString "__len__") 1382), (.str (PySem.Str.ofString "Bag.__len__") 1383), (.str (PySem.Str.ofString "/claim/cut.py") 1384), (.int (461) 0), (.int (1) 0), (.int (0) 0), (.int (0) 0), (.int (3) 0), (.ref 874), (.bool true), (.int (181) 0), (.ref 875), .none, (.ref 876), (.ref 877), (.ref 878), (.int (1386) 0), (.int (461) 0), (.str (PySem.Str.ofString "/claim/cut.py") 1387)])), (List.toArray [])⟩) ::
(nat_lit 880, ⟨(.type "function"), none, (.func (PySem.W.fnOf (PySem.Str.ofString "__len__") (PySem.Str.ofString "Bag.__len__") (defArgs s_Bag_len) (defBody s_Bag_len) (defScope s_Bag_len) .none .none .none (.str (PySem.Str.ofString "halvesmeet.net.letters") 1075) none (.ref 879) .none)), (List.toArray [])⟩) ::
(nat_lit 881, ⟨(.type "tuple"), none, (.seq (List.toArray []) 0), (List.toArray [])⟩) ::
(nat_lit 883, ⟨(.type "tuple"), none, (.seq (List.toArray [(.str (PySem.Str.ofString "self") 1392)]) 0), (List.toArray [])⟩) ::
(nat_lit 884, ⟨(.type "tuple"), none, (.seq (List.toArray []) 0), (List.toArray [])⟩) ::
(nat_lit 886, ⟨(.type "code"), none, (.fields (List.toArray [(.str (PySem.Str.ofString "__iter__") 1389), (.str (PySem.Str.ofString "Bag.__iter__") 1390), (.str (PySem.Str.ofString "/claim/cut.py") 1391), (.int (464) 0), (.int (1) 0), (.int (0) 0), (.int (0) 0), (.int (3) 0), (.ref 881), (.bool true), (.int (181) 0), (.ref 882), .none, (.ref 883), (.ref 884), (.ref 885), (.int (1393) 0), (.int (464) 0), (.str (PySem.Str.ofString "/claim/cut.py") 1394)])), (List.toArray [])⟩) ::
(nat_lit 887, ⟨(.type "function"), none, (.func (PySem.W.fnOf (PySem.Str.ofString "__iter__") (PySem.Str.ofString "Bag.__iter__") (defArgs s_Bag_iter) (defBody s_Bag_iter) (defScope s_Bag_iter) .none .none .none (.str (PySem.Str.ofString "halvesmeet.net.letters") 1075) none (.ref 886) .none)), (List.toArray [])⟩) ::
(nat_lit 888, ⟨(.type "tuple"), none, (.seq (List.toArray []) 0), (List.toArray [])⟩) ::
(nat_lit 890, ⟨(.type "tuple"), none, (.seq (List.toArray [(.str (PySem.Str.ofString "self") 1399), (.str (PySem.Str.ofString "other") 1400)]) 0), (List.toArray [])⟩) ::
(nat_lit 891, ⟨(.type "tuple"), none, (.seq (List.toArray []) 0), (List.toArray [])⟩) ::
(nat_lit 893, ⟨(.type "code"), none, (.fields (List.toArray [(.str (PySem.Str.ofString "__eq__") 1396), (.str (PySem.Str.ofString "Bag.__eq__") 1397), (.str (PySem.Str.ofString "/claim/cut.py") 1398), (.int (467) 0), (.int (2) 0), (.int (0) 0), (.int (0) 0), (.int (3) 0), (.ref 888), (.bool true), (.int (181) 0), (.ref 889), .none, (.ref 890), (.ref 891), (.ref 892), (.int (1401) 0), (.int (467) 0), (.str (PySem.Str.ofString "/claim/cut.py") 1402)])), (List.toArray [])⟩) ::
(nat_lit 894, ⟨(.type "function"), none, (.func (PySem.W.fnOf (PySem.Str.ofString "__eq__") (PySem.Str.ofString "Bag.__eq__") (defArgs s_Bag_eq) (defBody s_Bag_eq) (defScope s_Bag_eq) .none .none .none (.str (PySem.Str.ofString "halvesmeet.net.letters") 1075) none (.ref 893) .none)), (List.toArray [])⟩) ::
(nat_lit 895, ⟨(.type "tuple"), none, (.seq (List.toArray []) 0), (List.toArray [])⟩) ::
(nat_lit 897, ⟨(.type "tuple"), none, (.seq (List.toArray [(.str (PySem.Str.ofString "self") 1407)]) 0), (List.toArray [])⟩) ::
(nat_lit 898, ⟨(.type "tuple"), none, (.seq (List.toArray []) 0), (List.toArray [])⟩) ::
(nat_lit 900, ⟨(.type "code"), none, (.fields (List.toArray [(.str (PySem.Str.ofString "__str__") 1404), (.str (PySem.Str.ofString "Bag.__str__") 1405), (.str (PySem.Str.ofString "/claim/cut.py") 1406), (.int (470) 0), (.int (1) 0), (.int (0) 0), (.int (0) 0), (.int (3) 0), (.ref 895), (.bool true), (.int (181) 0), (.ref 896), .none, (.ref 897), (.ref 898), (.ref 899), (.int (1408) 0), (.int (470) 0), (.str (PySem.Str.ofString "/claim/cut.py") 1409)])), (List.toArray [])⟩) ::
(nat_lit 901, ⟨(.type "function"), none, (.func (PySem.W.fnOf (PySem.Str.ofString "__str__") (PySem.Str.ofString "Bag.__str__") (defArgs s_Bag_str) (defBody s_Bag_str) (defScope s_Bag_str) .none .none .none (.str (PySem.Str.ofString "halvesmeet.net.letters") 1075) none (.ref 900) .none)), (List.toArray [])⟩) ::
(nat_lit 902, ⟨(.type "tuple"), none, (.seq (List.toArray [(.str (PySem.Str.ofString "_letters") 1411)]) 0), (List.toArray [])⟩) ::
(nat_lit 903, ⟨(.type "dict"), none, (.dict (List.toArray [⟨PyData.keyHash P (PySem.Str.ofString "__module__"), (.str (PySem.Str.ofString "__module__") 1304), (.str (PySem.Str.ofString "halvesmeet.net.letters") 1075)⟩, ⟨PyData.keyHash P (PySem.Str.ofString "__firstlineno__"), (.str (PySem.Str.ofString "__firstlineno__") 1308), (.int (420) 1307)⟩, ⟨PyData.keyHash P (PySem.Str.ofString "__init__"), (.str (PySem.Str.ofString "__init__") 1316), (.ref 816)⟩, ⟨PyData.keyHash P (PySem.Str.ofString "letters"), (.str (PySem.Str.ofString "letters") 1324), (.ref 824)⟩, ⟨PyData.keyHash P (PySem.Str.ofString "sent"), (.str (PySem.Str.ofString "sent") 1332), (.ref 831)⟩, ⟨PyData.keyHash P (PySem.Str.ofString "taken"), (.str (PySem.Str.ofString "taken") 1341), (.ref 838)⟩, ⟨PyData.keyHash P (PySem.Str.ofString "lost"), (.str (PySem.Str.ofString "lost") 1349), (.ref 845)⟩, ⟨PyData.keyHash P (PySem.Str.ofString "doubled"), (.str (PySem.Str.ofString "doubled") 1357), (.ref 852)⟩, ⟨PyData.keyHash P (PySem.Str.ofString "to_house"), (.str (PySem.Str.ofString "to_house") 1365), (.ref 859)⟩, ⟨PyData.keyHash P (PySem.Str.ofString "to_client"), (.str (PySem.Str.ofString "to_client") 1373), (.ref 866)⟩, ⟨PyData.keyHash P (PySem.Str.ofString "has_same"), (.str (PySem.Str.ofString "has_same") 1381), (.ref 873)⟩, ⟨PyData.keyHash P (PySem.Str.ofString "__len__"), (.str (PySem.Str.ofString "__len__") 1388), (.ref 880)⟩, ⟨PyData.keyHash P (PySem.Str.ofString "__iter__"), (.str (PySem.Str.ofString "__iter__") 1395), (.ref 887)⟩, ⟨PyData.keyHash P (PySem.Str.ofString "__eq__"), (.str (PySem.Str.ofString "__eq__") 1403), (.ref 894)⟩, ⟨PyData.keyHash P (PySem.Str.ofString "__str__"), (.str (PySem.Str.ofString "__str__") 1410), (.ref 901)⟩, ⟨PyData.keyHash P (PySem.Str.ofString "__static_attributes__"), (.str (PySem.Str.ofString "__static_attributes__") 1412), (.ref 902)⟩, ⟨PyData.keyHash P (PySem.Str.ofString "__dict__"), (.str (PySem.Str.ofString "__dict__") 1414), (.ref 905)⟩, ⟨PyData.keyHash P (PySem.Str.ofString "__weakref__"), (.str (PySem.Str.ofString "__weakref__") 1416), (.ref 906)⟩, ⟨PyData.keyHash P (PySem.Str.ofString "__doc__"), (.str (PySem.Str.ofString "__doc__") 1417), .none⟩, ⟨PyData.keyHash P (PySem.Str.ofString "__hash__"), (.str (PySem.Str.ofString "__hash__") 1418), .none⟩]) 5), (List.toArray [])⟩) ::
(nat_lit 904, ⟨(.type "type"), none, (.cls ⟨(PySem.Str.ofString "Bag"), [(.type "object")], [(.ref 904), (.type "object")], 903, (PySem.Str.ofString "Bag"), true, [], [], false, none, false⟩), (List.toArray [none, none, (some (.str (PySem.Str.ofString "Bag") 1297)), (some (.str (PySem.Str.ofString "Bag") 1305)), (some (.builtin "object.__new__")), (some (.bool true))])⟩) ::
(nat_lit 905, ⟨(.type "getset_descriptor"), none, (.fields (List.toArray [(.str (PySem.Str.ofString "__dict__") 1413), (.ref 904), (.builtin "function.__dict__"), (.builtin "function.__dict__#set")])), (List.toArray [])⟩) ::
(nat_lit 906, ⟨(.type "getset_descriptor"), none, (.fields (List.toArray [(.str (PySem.Str.ofString "__weakref__") 1415), (.ref 904), (.builtin "ExceptionGroup.__weakref__"), .none])), (List.toArray [])⟩) ::
(nat_lit 909, ⟨(.type "tuple"), none, (.seq (List.toArray []) 0), (List.toArray [])⟩) ::
(nat_lit 911, ⟨(.type "tuple"), none, (.seq (List.toArray [(.str (PySem.Str.ofString "letters") 1424), (.str (PySem.Str.ofString "bag") 1425)]) 0), (List.toArray [])⟩) ::
(nat_lit 912, ⟨(.type "tuple"), none, (.seq (List.toArray []) 0), (List.toArray [])⟩) ::
(nat_lit 914, ⟨(.type "code"), none, (.fields (List.toArray [(.str (PySem.Str.ofString "_made") 1421), (.str (PySem.Str.ofString "_made") 1422), (.str (PySem.Str.ofString "/claim/cut.py") 1423), (.int (472) 0), (.int (1) 0), (.int (0) 0), (.int (0) 0), (.int (3) 0), (.ref 909), (.bool true), (.int (181) 0), (.ref 910), .none, (.ref 911), (.ref 912), (.ref 913), (.int (1426) 0), (.int (472) 0), (.str (PySem.Str.ofString "/claim/cut.py") 1427)])), (List.toArray [])⟩) ::
(nat_lit 915, ⟨(.type "function"), none, (.func (PySem.W.fnOf (PySem.Str.ofString "_made") (PySem.Str.ofString "_made") (defArgs s_made) (defBody s_made) (defScope s_made) .none .none .none (.str (PySem.Str.ofString "halvesmeet.net.letters") 1075) none (.ref 914) .none)), (List.toArray [])⟩) ::
(nat_lit 916, ⟨(.type "tuple"), none, (.seq (List.toArray []) 0), (List.toArray [])⟩) ::
(nat_lit 921, ⟨(.type "tuple"), none, (.seq (List.toArray []) 0), (List.toArray [])⟩) ::
(nat_lit 923, ⟨(.type "tuple"), none, (.seq (List.toArray [(.str (PySem.Str.ofString "letters") 1439), (.str (PySem.Str.ofString "times") 1440), (.str (PySem.Str.ofString "letter") 1441)]) 0), (List.toArray [])⟩) ::
(nat_lit 924, ⟨(.type "tuple"), none, (.seq (List.toArray []) 0), (List.toArray [])⟩) ::
(nat_lit 928, ⟨(.type "tuple"), none, (.seq (List.toArray []) 0), (List.toArray [])⟩) ::
(nat_lit 930, ⟨(.type "tuple"), none, (.seq (List.toArray [(.str (PySem.Str.ofString "script") 1450), (.str (PySem.Str.ofString "spot") 1451), (.str (PySem.Str.ofString "cell") 1452), (.str (PySem.Str.ofString "left") 1453)]) 0), (List.toArray [])⟩) ::
(nat_lit 931, ⟨(.type "tuple"), none, (.seq (List.toArray []) 0), (List.toArray [])⟩) ::
(nat_lit 933, ⟨(.type "code"), none, (.fields (List.toArray [(.str (PySem.Str.ofString "_law_dice") 1447), (.str (PySem.Str.ofString "_law_dice") 1448), (.str (PySem.Str.ofString "/claim/cut.py") 1449), (.int (485) 0), (.int (2) 0), (.int (0) 0), (.int (0) 0), (.int (3) 0), (.ref 928), (.bool true), (.int (181) 0), (.ref 929), .none, (.ref 930), (.ref 931), (.ref 932), (.int (1454) 0), (.int (485) 0), (.str (PySem.Str.ofString "/claim/cut.py") 1455)])), (List.toArray [])⟩) ::
(nat_lit 934, ⟨(.type "function"), none, (.func (PySem.W.fnOf (PySem.Str.ofString "_law_dice") (PySem.Str.ofString "_law_dice") (defArgs s_law_dice) (defBody s_law_dice) (defScope s_law_dice) .none .none .none (.str (PySem.Str.ofString "law_halvesmeet_k30_errors_of_letters_and_bag") 1445) none (.ref 933) .none)), (List.toArray [])⟩) ::
(nat_lit 935, ⟨(.type "tuple"), none, (.seq (List.toArray []) 0), (List.toArray [])⟩) ::
(nat_lit 937, ⟨(.type "tuple"), none, (.seq (List.toArray [(.str (PySem.Str.ofString "dice") 1460), (.str (PySem.Str.ofString "most") 1461), (.str (PySem.Str.ofString "found") 1462), (.str (PySem.Str.ofString "one") 1463), (.str (PySem.Str.ofString "two") 1464)]) 0), (List.toArray [])⟩) ::
(nat_lit 938, ⟨(.type "tuple"), none, (.seq (List.toArray []) 0), (List.toArray [])⟩) ::
(nat_lit 940, ⟨(.type "code"), none, (.fields (List.toArray [(.str (PySem.Str.ofString "_law_roll") 1457), (.str (PySem.Str.ofString "_law_roll") 1458), (.str (PySem.Str.ofString "/claim/cut.py") 1459), (.int (489) 0), (.int (2) 0), (.int (0) 0), (.int (0) 0), (.int (3) 0), (.ref 935), (.bool true), (.int (181) 0), (.ref 936), .none, (.ref 937), (.ref 938), (.ref 939), (.int (1465) 0), (.int (489) 0), (.str (PySem.Str.ofString "/claim/cut.py") 1466)])), (List.toArray [])⟩) ::
(nat_lit 941, ⟨(.type "function"), none, (.func (PySem.W.fnOf (PySem.Str.ofString "_law_roll") (PySem.Str.ofString "_law_roll") (defArgs s_law_roll) (defBody s_law_roll) (defScope s_law_roll) .none .none .none (.str (PySem.Str.ofString "law_halvesmeet_k30_errors_of_letters_and_bag") 1445) none (.ref 940) .none)), (List.toArray [])⟩) ::
(nat_lit 942, ⟨(.type "tuple"), none, (.seq (List.toArray []) 0), (List.toArray [])⟩) ::
(nat_lit 944, ⟨(.type "tuple"), none, (.seq (List.toArray [(.str (PySem.Str.ofString "dice") 1471), (.str (PySem.Str.ofString "items") 1472)]) 0), (List.toArray [])⟩) ::
(nat_lit 945, ⟨(.type "tuple"), none, (.seq (List.toArray []) 0), (List.toArray [])⟩) ::
(nat_lit 947, ⟨(.type "code"), none, (.fields (List.toArray [(.str (PySem.Str.ofString "_law_pick") 1468), (.str (PySem.Str.ofString "_law_pick") 1469), (.str (PySem.Str.ofString "/claim/cut.py") 1470), (.int (498) 0), (.int (2) 0), (.int (0) 0), (.int (0) 0), (.int (3) 0), (.ref 942), (.bool true), (.int (181) 0), (.ref 943), .none, (.ref 944), (.ref 945), (.ref 946), (.int (1473) 0), (.int (498) 0), (.str (PySem.Str.ofString "/claim/cut.py") 1474)])), (List.toArray [])⟩) ::
(nat_lit 948, ⟨(.type "function"), none, (.func (PySem.W.fnOf (PySem.Str.ofString "_law_pick") (PySem.Str.ofString "_law_pick") (defArgs s_law_pick) (defBody s_law_pick) (defScope s_law_pick) .none .none .none (.str (PySem.Str.ofString "law_halvesmeet_k30_errors_of_letters_and_bag") 1445) none (.ref 947) .none)), (List.toArray [])⟩) ::
(nat_lit 949, ⟨(.type "tuple"), none, (.seq (List.toArray []) 0), (List.toArray [])⟩) ::
(nat_lit 951, ⟨(.type "tuple"), none, (.seq (List.toArray [(.str (PySem.Str.ofString "call") 1479), (.str (PySem.Str.ofString "error") 1480)]) 0), (List.toArray [])⟩) ::
(nat_lit 952, ⟨(.type "tuple"), none, (.seq (List.toArray []) 0), (List.toArray [])⟩) ::
(nat_lit 954, ⟨(.type "code"), none, (.fields (List.toArray [(.str (PySem.Str.ofString "_law_met") 1476), (.str (PySem.Str.ofString "_law_met") 1477), (.str (PySem.Str.ofString "/claim/cut.py") 1478), (.int (500) 0), (.int (1) 0), (.int (0) 0), (.int (0) 0), (.int (3) 0), (.ref 949), (.bool true), (.int (181) 0), (.ref 950), .none, (.ref 951), (.ref 952), (.ref 953), (.int (1481) 0), (.int (500) 0), (.str (PySem.Str.ofString "/claim/cut.py") 1482)])), (List.toArray [])⟩) ::
(nat_lit 955, ⟨(.type "function"), none, (.func (PySem.W.fnOf (PySem.Str.ofString "_law_met") (PySem.Str.ofString "_law_met") (defArgs s_law_met) (defBody s_law_met) (defScope s_law_met) .none .none .none (.str (PySem.Str.ofString "law_halvesmeet_k30_errors_of_letters_and_bag") 1445) none (.ref 954) .none)), (List.toArray [])⟩) ::
(nat_lit 956, ⟨(.type "tuple"), none, (.seq (List.toArray []) 0), (List.toArray [])⟩) ::
(nat_lit 959, ⟨(.type "code"), none, (.fields (List.toArray [(.str (PySem.Str.ofString "_law_right") 1484), (.str (PySem.Str.ofString "_law_right") 1485), (.str (PySem.Str.ofString "/claim/cut.py") 1486), (.int (512) 0), (.int (2) 0), (.int (0) 0), (.int (0) 0), (.int (3) 0), (.ref 956), (.bool true), (.int (181) 0), (.ref 957), .none, .none, .none, (.ref 958), (.int (1487) 0), (.int (512) 0), (.str (PySem.Str.ofString "/claim/cut.py") 1488)])), (List.toArray [])⟩) ::
(nat_lit 960, ⟨(.type "function"), none, (.func (PySem.W.fnOf (PySem.Str.ofString "_law_right") (PySem.Str.ofString "_law_right") (defArgs s_law_right) (defBody s_law_right) (defScope s_law_right) .none .none .none (.str (PySem.Str.ofString "law_halvesmeet_k30_errors_of_letters_and_bag") 1445) none (.ref 959) .none)), (List.toArray [])⟩) ::
(nat_lit 961, ⟨(.type "tuple"), none, (.seq (List.toArray []) 0), (List.toArray [])⟩) ::
(nat_lit 964, ⟨(.type "code"), none, (.fields (List.toArray [(.str (PySem.Str.ofString "law") 1490), (.str (PySem.Str.ofString "law") 1491), (.str (PySem.Str.ofString "/claim/cut.py") 1492), (.int (532) 0), (.int (1) 0), (.int (0) 0), (.int (0) 0), (.int (3) 0), (.ref 961), (.bool true), (.int (181) 0), (.ref 962), .none, .none, .none, (.ref 963), (.int (1493) 0), (.int (532) 0), (.str (PySem.Str.ofString "/claim/cut.py") 1494)])), (List.toArray [])⟩) ::
(nat_lit 965, ⟨(.type "function"), none, (.func (PySem.W.fnOf (PySem.Str.ofString "law") (PySem.Str.ofString "law") (defArgs s_law) (defBody s_law) (defScope s_law) .none .none .none (.str (PySem.Str.ofString "law_halvesmeet_k30_errors_of_letters_and_bag") 1445) none (.ref 964) .none)), (List.toArray [])⟩) :: []
def asX : List Addr := 2 :: 3 :: 15 :: 17 :: 18 :: 22 :: 29 :: 30 :: 31 :: 32 :: 35 :: 42 :: 43 :: 44 :: 47 :: 54 :: 55 :: 56 :: 59 :: 66 :: 67 :: 68 :: 71 :: 78 :: 79 :: 80 :: 83 :: 90 :: 92 :: 93 :: 95 :: 96 :: 97 :: 98 :: 99 :: 100 :: 103 :: 110 :: 112 :: 113 :: 115 :: 116 :: 117 :: 118 :: 119 :: 120 :: 123 :: 125 :: 126 :: 128 :: 129 :: 130 :: 132 :: 133 :: 135 :: 136 :: 137 :: 139 :: 140 :: 142 :: 143 :: 144 :: 146 :: 147 :: 149 :: 150 :: 151 :: 153 :: 154 :: 156 :: 157 :: 158 :: 161 :: 162 :: 163 :: 166 :: 167 :: 168 :: 170 :: 171 :: 173 :: 174 :: 175 :: 177 :: 178 :: 180 :: 181 :: 182 :: 184 :: 185 :: 187 :: 188 :: 189 :: 191 :: 192 :: 194 :: 195 :: 196 :: 197 :: 199 :: 200 :: 202 :: 203 :: 204 :: 206 :: 207 :: 209 :: 210 :: 211 :: 213 :: 214 :: 216 :: 217 :: 218 :: 219 :: 220 :: 221 :: 226 :: 228 :: 229 :: 231 :: 232 :: 233 :: 235 :: 236 :: 238 :: 239 :: 240 :: 242 :: 243 :: 245 :: 246 :: 247 :: 249 :: 250 :: 252 :: 253 :: 254 :: 256 :: 257 :: 259 :: 260 :: 261 :: 263 :: 264 :: 266 :: 267 :: 268 :: 270 :: 271 :: 273 :: 274 :: 275 :: 278 :: 279 :: 280 :: 282 :: 283 :: 285 :: 286 :: 287 :: 289 :: 290 :: 292 :: 293 :: 294 :: 295 :: 297 :: 298 :: 300 :: 301 :: 302 :: 304 :: 305 :: 309 :: 311 :: 312 :: 316 :: 318 :: 319 :: 323 :: 328 :: 330 :: 331 :: 335 :: 337 :: 338 :: 342 :: 344 :: 345 :: 349 :: 351 :: 352 :: 356 :: 358 :: 359 :: 363 :: 368 :: 373 :: 375 :: 376 :: 380 :: 381 :: 383 :: 384 :: 388 :: 390 :: 391 :: 395 :: 397 :: 398 :: 402 :: 404 :: 405 :: 409 :: 411 :: 412 :: 416 :: 418 :: 419 :: 423 :: 425 :: 426 :: 430 :: 432 :: 433 :: 437 :: 442 :: 444 :: 445 :: 449 :: 451 :: 452 :: 456 :: 457 :: 459 :: 460 :: 464 :: 476 :: 478 :: 479 :: 483 :: 485 :: 486 :: 490 :: 491 :: 492 :: 493 :: 495 :: 496 :: 500 :: 501 :: 503 :: 504 :: 508 :: 509 :: 511 :: 512 :: 516 :: 517 :: 519 :: 520 :: 524 :: 525 :: 527 :: 528 :: 532 :: 534 :: 535 :: 539 :: 541 :: 542 :: 546 :: 548 :: 549 :: 553 :: 555 :: 556 :: 560 :: 565 :: 567 :: 568 :: 572 :: 574 :: 575 :: 579 :: 580 :: 581 :: 582 :: 583 :: 586 :: 588 :: 589 :: 593 :: 595 :: 596 :: 600 :: 605 :: 610 :: 612 :: 613 :: 617 :: 619 :: 620 :: 624 :: 629 :: 631 :: 632 :: 636 :: 637 :: 639 :: 640 :: 642 :: 643 :: 644 :: 646 :: 647 :: 651 :: 653 :: 654 :: 656 :: 657 :: 658 :: 660 :: 661 :: 665 :: 667 :: 668 :: 672 :: 674 :: 675 :: 679 :: 681 :: 682 :: 684 :: 685 :: 686 :: 688 :: 689 :: 691 :: 692 :: 693 :: 695 :: 696 :: 698 :: 699 :: 700 :: 703 :: 704 :: 705 :: 708 :: 709 :: 710 :: 712 :: 713 :: 715 :: 716 :: 717 :: 719 :: 720 :: 722 :: 723 :: 724 :: 725 :: 727 :: 728 :: 730 :: 731 :: 732 :: 734 :: 735 :: 739 :: 741 :: 742 :: 744 :: 745 :: 746 :: 748 :: 749 :: 751 :: 752 :: 753 :: 754 :: 756 :: 757 :: 759 :: 760 :: 761 :: 763 :: 764 :: 766 :: 767 :: 768 :: 770 :: 771 :: 773 :: 774 :: 775 :: 778 :: 779 :: 780 :: 782 :: 783 :: 785 :: 786 :: 787 :: 789 :: 790 :: 792 :: 793 :: 794 :: 796 :: 797 :: 808 :: 809 :: 810 :: 812 :: 813 :: 815 :: 816 :: 817 :: 819 :: 820 :: 822 :: 823 :: 824 :: 825 :: 827 :: 828 :: 830 :: 831 :: 832 :: 834 :: 835 :: 837 :: 838 :: 839 :: 841 :: 842 :: 844 :: 845 :: 846 :: 848 :: 849 :: 851 :: 852 :: 853 :: 855 :: 856 :: 858 :: 859 :: 860 :: 862 :: 863 :: 865 :: 866 :: 867 :: 869 :: 870 :: 872 :: 873 :: 874 :: 876 :: 877 :: 879 :: 880 :: 881 :: 883 :: 884 :: 886 :: 887 :: 888 :: 890 :: 891 :: 893 :: 894 :: 895 :: 897 :: 898 :: 900 :: 901 :: 902 :: 903 :: 904 :: 905 :: 906 :: 909 :: 911 :: 912 :: 914 :: 915 :: 916 :: 921 :: 923 :: 924 :: 928 :: 930 :: 931 :: 933 :: 934 :: 935 :: 937 :: 938 :: 940 :: 941 :: 942 :: 944 :: 945 :: 947 :: 948 :: 949 :: 951 :: 952 :: 954 :: 955 :: 956 :: 959 :: 960 :: 961 :: 964 :: 965 :: []
theorem asX_eq : ∀ P, asX = (KX P).map (·.1) := fun _ => by kernel_rfl
def loose0 : List PySem.Str := [PySem.Str.ofString "_wall", PySem.Str.ofString "HouseError", PySem.Str.ofString "InvalidDeed", PySem.Str.ofString "InvalidState", PySem.Str.ofString "InvalidLetter", PySem.Str.ofString "InvalidOperation", PySem.Str.ofString "InvalidNumber", PySem.Str.ofString "TooMany", PySem.Str.ofString "MAX_HOUSES", PySem.Str.ofString "MAX_CIRCLE", PySem.Str.ofString "MAX_CLIENTS", PySem.Str.ofString "MAX_KEYS", PySem.Str.ofString "MAX_SIGNS", PySem.Str.ofString "MAX_LOT", PySem.Str.ofString "MAX_KEY_SIGNS", PySem.Str.ofString "MAX_NUMBER", PySem.Str.ofString "MAX_SHORT_NUMBER", PySem.Str.ofString "LETTERS", PySem.Str.ofString "SIGNS", PySem.Str.ofString "is_number", PySem.Str.ofString "is_within", PySem.Str.ofString "is_house", PySem.Str.ofString "is_client", PySem.Str.ofString "is_circle", PySem.Str.ofString "are_indices", PySem.Str.ofString "are_ascending", PySem.Str.ofString "is_made_of", PySem.Str.ofString "is_key", PySem.Str.ofString "is_short_number", PySem.Str.ofString "is_value", PySem.Str.ofString "check_number", PySem.Str.ofString "check_house", PySem.Str.ofString "check_client", PySem.Str.ofString "MAX_SUM", PySem.Str.ofString "LOT_WORDS", PySem.Str.ofString "STOP_WORD", PySem.Str.ofString "LOT_ANSWERS", PySem.Str.ofString "BREAKS", PySem.Str.ofString "GREATEST_KEY", PySem.Str.ofString "are_pairs"]
def loose1 : List PySem.Str := [PySem.Str.ofString "_is_worth", PySem.Str.ofString "word_of", PySem.Str.ofString "_is_put", PySem.Str.ofString "_is_of_key", PySem.Str.ofString "_is_add", PySem.Str.ofString "_is_swap", PySem.Str.ofString "_is_list", PySem.Str.ofString "_is_all", PySem.Str.ofString "_has_lot_size", PySem.Str.ofString "_is_of_circle", PySem.Str.ofString "DEED_FORMS", PySem.Str.ofString "is_deed", PySem.Str.ofString "is_entry", PySem.Str.ofString "is_stop", PySem.Str.ofString "check_entry", PySem.Str.ofString "are_entries", PySem.Str.ofString "check_entries", PySem.Str.ofString "_is_word_alone", PySem.Str.ofString "_has_worth", PySem.Str.ofString "_has_sum", PySem.Str.ofString "_has_place_in_lot", PySem.Str.ofString "_has_answers", PySem.Str.ofString "_has_rows", PySem.Str.ofString "_is_row", PySem.Str.ofString "ANSWER_FORMS", PySem.Str.ofString "is_answer", PySem.Str.ofString "_lacks_room", PySem.Str.ofString "_exchanged", PySem.Str.ofString "_do_put", PySem.Str.ofString "_do_drop", PySem.Str.ofString "_do_get", PySem.Str.ofString "_do_add", PySem.Str.ofString "_do_swap", PySem.Str.ofString "_do_list", PySem.Str.ofString "_do_all", PySem.Str.ofString "_do_circle", PySem.Str.ofString "DEED_STEPS", PySem.Str.ofString "do_deed", PySem.Str.ofString "by_keys", PySem.Str.ofString "MAX_LENGTH"]
def loose2 : List PySem.Str := [PySem.Str.ofString "State", PySem.Str.ofString "_made", PySem.Str.ofString "made_states", PySem.Str.ofString "run_entries", PySem.Str.ofString "_are_right", PySem.Str.ofString "_are_sessions", PySem.Str.ofString "_is_session", PySem.Str.ofString "is_parts", PySem.Str.ofString "_state_told", PySem.Str.ofString "_is_part", PySem.Str.ofString "MAX_LETTERS", PySem.Str.ofString "MAX_CARRIED", PySem.Str.ofString "MAX_COUNT", PySem.Str.ofString "HOUSE_WORDS", PySem.Str.ofString "GRANT_MEMBERS", PySem.Str.ofString "_is_count", PySem.Str.ofString "_is_count_or_none", PySem.Str.ofString "_is_call_number", PySem.Str.ofString "_is_open_base", PySem.Str.ofString "_is_told_row", PySem.Str.ofString "is_granted", PySem.Str.ofString "_is_ask", PySem.Str.ofString "_is_grant", PySem.Str.ofString "_is_bar", PySem.Str.ofString "_is_lay", PySem.Str.ofString "_is_laid", PySem.Str.ofString "_is_carry", PySem.Str.ofString "_is_begun", PySem.Str.ofString "HOUSE_FORMS", PySem.Str.ofString "_is_call", PySem.Str.ofString "_is_from_house_to_client", PySem.Str.ofString "_is_reply", PySem.Str.ofString "_is_try", PySem.Str.ofString "CLIENT_FORMS", PySem.Str.ofString "is_letter", PySem.Str.ofString "is_house_letter", PySem.Str.ofString "check_letter", PySem.Str.ofString "check_letters", PySem.Str.ofString "sender", PySem.Str.ofString "receiver"]
def loose3 : List PySem.Str := [PySem.Str.ofString "_address_of", PySem.Str.ofString "Bag", PySem.Str.ofString "made_letters", PySem.Str.ofString "_indices_to", PySem.Str.ofString "_times_of", PySem.Str.ofString "_law_dice", PySem.Str.ofString "_law_roll", PySem.Str.ofString "_law_pick", PySem.Str.ofString "_law_met", PySem.Str.ofString "_law_right"]
def looseX : List PySem.Str := loose0 ++ loose1 ++ loose2 ++ loose3
abbrev RX : PySem.W.OpenRow := PySem.W.OpenLaw.row PySem.Challenge.rw_halvesmeet_k30_errors_of_letters_and_bag
def qX : Program := PySem.W.view RX.prog [138]
abbrev hkX : PySem.W.Hook := (PySem.W.kmHook KX asX asX_eq [957, 962])
def obX (s : PySem.W.SharedT) : hkX.α := (asX.map (HandSHeadRun.getT s), [957, 962].map (HandSHeadRun.getT s))
theorem obX_eq (s : PySem.W.SharedT) : obX s = hkX.obs s.abs := by
  have e : HandSHeadRun.getT s = s.abs.heap.get? := funext (HandSHeadRun.getT_eq s)
  unfold obX
  rw [e]
  rfl
theorem runX0 (w : World) : HandSHeadRun.RunEq RX qX hkX obX 7400 looseX (w.withFollow "special-get-raises" false) := by
  intro os
  kernel_rfl
theorem runX1 (w : World) : HandSHeadRun.RunEq RX qX hkX obX 7400 looseX (w.withFollow "special-get-raises" true) := by
  intro os
  kernel_rfl
theorem runX (w : World) : HandSHeadRun.RunEq RX qX hkX obX 7400 looseX w := PySem.W.byRow2 "special-get-raises" (P := fun w => HandSHeadRun.RunEq RX qX hkX obX 7400 looseX w) runX0 runX1 w
end
end K0
open PySem PySem.W PyProof.Rows
set_option maxRecDepth 100000 in
set_option maxHeartbeats 0 in
theorem PySem.Challenge.cw_halvesmeet_k30_errors_of_letters_and_bag_holds : PySem.Challenge.rw_halvesmeet_k30_errors_of_letters_and_bag.Holds := by
  w_on; o_law
  refine HandSHeadRun.head_any (r := OpenLaw.row PySem.Challenge.rw_halvesmeet_k30_errors_of_letters_and_bag) (q := K0.qX) (H := (PySem.W.kmHook K0.KX K0.asX K0.asX_eq [957, 962])) (ob := K0.obX) (M := 7400) (loose := K0.looseX) (d := (HandSHeadRun.topDef (OpenLaw.row PySem.Challenge.rw_halvesmeet_k30_errors_of_letters_and_bag).prog 138)) (kwd := []) K0.obX_eq (by kernel_rfl) (fun s => by kernel_rfl) K0.runX (by kernel_rfl) (by kernel_rfl) (by kernel_rfl) (by rfl) (by first | assumption | decide +kernel) (by decide +kernel) ⟨rfl, rfl, rfl, rfl, rfl, by decide +kernel⟩ ?hw ?hc
  case hw => w_witness2
  case hc =>
  k_fill
  refine K0.walk (l := PySem.Challenge.rw_halvesmeet_k30_errors_of_letters_and_bag) rfl (by kernel_rfl) (fun w h Y => PySem.W.km_in_of Y) ?F
  case F =>
    intro w mg fa h Y KX G hmg0
    have hmg : mg ("law" : PySem.Str) = some (.ref fa) := by
      have e : (HandSHeadRun.topDef (OpenLaw.row PySem.Challenge.rw_halvesmeet_k30_errors_of_letters_and_bag).prog 138).name = ("law" : PySem.Str) := by kernel_rfl
      rw [← e]
      exact hmg0
    have Y2 := PySem.W.km_tabs_of Y
    refine' K0.all_mk (pp61 := 957) (pp62 := 962) KX G hmg ?aCBag ?a0 ?l0 ?c0 ?k0 ?a1 ?l1 ?c1 ?k1 ?a2 ?l2 ?c2 ?k2 ?a3 ?l3 ?c3 ?k3 ?a4 ?l4 ?c4 ?k4 ?a5 ?l5 ?c5 ?k5 ?a6 ?l6 ?c6 ?k6 ?a7 ?l7 ?c7 ?k7 ?a8 ?l8 ?c8 ?k8 ?a9 ?l9 ?c9 ?k9 ?a10 ?l10 ?c10 ?k10 ?a11 ?l11 ?c11 ?k11 ?d11 ?a12 ?l12 ?c12 ?k12 ?a13 ?l13 ?c13 ?k13 ?a14 ?l14 ?c14 ?k14 ?a15 ?l15 ?c15 ?k15 ?a16 ?l16 ?c16 ?k16 ?a17 ?l17 ?c17 ?k17 ?a18 ?l18 ?c18 ?k18 ?a19 ?l19 ?c19 ?k19 ?a20 ?l20 ?c20 ?k20 ?a21 ?l21 ?c21 ?k21 ?a22 ?l22 ?c22 ?k22 ?a23 ?l23 ?c23 ?k23 ?a24 ?l24 ?c24 ?k24 ?a25 ?l25 ?c25 ?k25 ?a26 ?l26 ?c26 ?k26 ?a27 ?l27 ?c27 ?k27 ?a28 ?l28 ?c28 ?k28 ?a29 ?l29 ?c29 ?k29 ?a30 ?l30 ?c30 ?k30 ?a31 ?l31 ?c31 ?k31 ?a32 ?l32 ?c32 ?k32 ?a33 ?l33 ?c33 ?k33 ?a34 ?l34 ?c34 ?k34 ?a35 ?l35 ?c35 ?k35 ?a36 ?l36 ?c36 ?k36 ?a37 ?l37 ?c37 ?k37 ?a38 ?l38 ?c38 ?k38 ?a39 ?l39 ?c39 ?k39 ?a40 ?l40 ?c40 ?k40 ?a41 ?l41 ?c41 ?k41 ?a42 ?l42 ?c42 ?k42 ?a43 ?l43 ?c43 ?k43 ?a44 ?i44 ?l44 ?c44 ?k44 ?d44 ?eh44 ?a45 ?g45 ?t45 ?r45 ?l45 ?c45 ?k45 ?a46 ?i46 ?l46 ?c46 ?k46 ?a47 ?i47 ?l47 ?c47 ?k47 ?a48 ?i48 ?l48 ?c48 ?k48 ?a49 ?i49 ?l49 ?c49 ?k49 ?a50 ?i50 ?l50 ?c50 ?k50 ?a51 ?i51 ?l51 ?c51 ?k51 ?a52 ?i52 ?l52 ?c52 ?k52 ?a53 ?i53 ?l53 ?c53 ?k53 ?a54 ?i54 ?l54 ?c54 ?k54 ?a55 ?i55 ?l55 ?c55 ?k55 ?a56 ?i56 ?l56 ?c56 ?k56 ?a57 ?l57 ?c57 ?k57 ?a58 ?l58 ?c58 ?k58 ?a59 ?l59 ?c59 ?k59 ?a60 ?l60 ?c60 ?k60 ?a61 ?l61 ?c61 ?k61 ?lq61 ?ln61 ?lt61 ?a62 ?l62 ?c62 ?k62 ?lq62 ?ln62 ?lt62 ?aEInvalidNumber ?zEInvalidNumberini ?l63 ?c63 ?k63 ?aETooMany ?zETooManyini ?l64 ?c64 ?k64 ?zBagpg ?zBaghd ?zBagpo ?zBagsa ?zBagmk ?zBagkc ?zBagca ?zBagcg ?zBagct ?zBagco ?zBagrd ?zBagga ?zBagkNoneType ?zBagfNoneType ?zBagktuple ?zBagftuple ?zBagkint ?zBagfint ?zBagkstr ?zBagfstr ?zBagklist ?zBagflist ?zBagkbool ?zBagfbool ?zBagkdict ?zBagfdict ?zBagne ?zBagno_letters ?aEInvalidDeed ?qEInvalidDeed ?zEInvalidDeedkc ?zEInvalidDeedsb ?zEInvalidDeedty ?aEInvalidState ?qEInvalidState ?zEInvalidStatekc ?zEInvalidStatesb ?zEInvalidStatety ?aEInvalidLetter ?qEInvalidLetter ?zEInvalidLetterkc ?zEInvalidLettersb ?zEInvalidLetterty ?aEInvalidOperation ?qEInvalidOperation ?zEInvalidOperationkc ?zEInvalidOperationsb ?zEInvalidOperationty ?zEInvalidNumberoi ?zEInvalidNumberxf ?zEInvalidNumberkc ?zEInvalidNumbersb ?zEInvalidNumberty ?zEInvalidNumbersa ?zEInvalidNumberfn ?zEInvalidNumbernogiven ?zETooManyoi ?zETooManyxf ?zETooManykc ?zETooManysb ?zETooManyty ?zETooManysa ?zETooManyfn ?zETooManynolimit ?zEInvalidDeedInvalidLetter ?zEInvalidDeedInvalidNumber ?zEInvalidDeedInvalidOperation ?zEInvalidDeedTooMany ?zEInvalidStateInvalidLetter ?zEInvalidStateInvalidNumber ?zEInvalidStateInvalidOperation ?zEInvalidStateTooMany ?zEInvalidLetterInvalidLetter ?zEInvalidLetterInvalidNumber ?zEInvalidLetterInvalidOperation ?zEInvalidLetterTooMany ?zEInvalidOperationInvalidLetter ?zEInvalidOperationInvalidNumber ?zEInvalidOperationInvalidOperation ?zEInvalidOperationTooMany ?zEInvalidNumberInvalidLetter ?zEInvalidNumberInvalidNumber ?zEInvalidNumberInvalidOperation ?zEInvalidNumberTooMany ?zETooManyInvalidLetter ?zETooManyInvalidNumber ?zETooManyInvalidOperation ?zETooManyTooMany ?x0 ?x1 ?x2 ?x3 ?x4 ?x5 ?x6 ?x7 ?x8 ?x9 ?x10 ?x11 ?x12 ?x13 ?x14 ?x15 ?x16 ?x17 ?x18 ?y0 ?y1 ?y2 ?y3 ?y4 ?y5 ?y6 ?y7 ?y8 ?y9 ?y10 ?y11 ?y12 ?y13 ?y14 ?y15 ?y16 ?xx0 ?xl0 ?xx1 ?xl1 ?xx2 ?xl2 ?xx3 ?xl3 ?wx0 ?wl0 ?wH0_0 ?wH0_1 ?wH0_2 ?wH0_3 ?wH0_4 ?wH0_5 ?wH0_6 ?wH0_7 ?wz0 ?wx1 ?wl1 ?wH1_0 ?wH1_1 ?wH1_2 ?wH1_3 ?wH1_4 ?wH1_5 ?wH1_6 ?wz1 ?wx2 ?wl2 ?wH2_0 ?wH2_1 ?wH2_2 ?wz2 ?lne0_1 ?al0
    (case aCBag => k_is)
    (case a0 => k_is)
    (case l0 => k_is)
    (case c0 => k_is)
    (case k0 => k_is)
    (case a1 => k_is)
    (case l1 => k_is)
    (case c1 => k_is)
    (case k1 => k_is)
    (case a2 => k_is)
    (case l2 => k_is)
    (case c2 => k_is)
    (case k2 => k_is)
    (case a3 => k_is)
    (case l3 => k_is)
    (case c3 => k_is)
    (case k3 => k_is)
    (case a4 => k_is)
    (case l4 => k_is)
    (case c4 => k_is)
    (case k4 => k_is)
    (case a5 => k_is)
    (case l5 => k_is)
    (case c5 => k_is)
    (case k5 => k_is)
    (case a6 => k_is)
    (case l6 => k_is)
    (case c6 => k_is)
    (case k6 => k_is)
    (case a7 => k_is)
    (case l7 => k_is)
    (case c7 => k_is)
    (case k7 => k_is)
    (case a8 => k_is)
    (case l8 => k_is)
    (case c8 => k_is)
    (case k8 => k_is)
    (case a9 => k_is)
    (case l9 => k_is)
    (case c9 => k_is)
    (case k9 => k_is)
    (case a10 => k_is)
    (case l10 => k_is)
    (case c10 => k_is)
    (case k10 => k_is)
    (case a11 => k_is)
    (case l11 => k_is)
    (case c11 => k_is)
    (case k11 => k_is)
    (case d11 => k_is)
    (case a12 => k_is)
    (case l12 => k_is)
    (case c12 => k_is)
    (case k12 => k_is)
    (case a13 => k_is)
    (case l13 => k_is)
    (case c13 => k_is)
    (case k13 => k_is)
    (case a14 => k_is)
    (case l14 => k_is)
    (case c14 => k_is)
    (case k14 => k_is)
    (case a15 => k_is)
    (case l15 => k_is)
    (case c15 => k_is)
    (case k15 => k_is)
    (case a16 => k_is)
    (case l16 => k_is)
    (case c16 => k_is)
    (case k16 => k_is)
    (case a17 => k_is)
    (case l17 => k_is)
    (case c17 => k_is)
    (case k17 => k_is)
    (case a18 => k_is)
    (case l18 => k_is)
    (case c18 => k_is)
    (case k18 => k_is)
    (case a19 => k_is)
    (case l19 => k_is)
    (case c19 => k_is)
    (case k19 => k_is)
    (case a20 => k_is)
    (case l20 => k_is)
    (case c20 => k_is)
    (case k20 => k_is)
    (case a21 => k_is)
    (case l21 => k_is)
    (case c21 => k_is)
    (case k21 => k_is)
    (case a22 => k_is)
    (case l22 => k_is)
    (case c22 => k_is)
    (case k22 => k_is)
    (case a23 => k_is)
    (case l23 => k_is)
    (case c23 => k_is)
    (case k23 => k_is)
    (case a24 => k_is)
    (case l24 => k_is)
    (case c24 => k_is)
    (case k24 => k_is)
    (case a25 => k_is)
    (case l25 => k_is)
    (case c25 => k_is)
    (case k25 => k_is)
    (case a26 => k_is)
    (case l26 => k_is)
    (case c26 => k_is)
    (case k26 => k_is)
    (case a27 => k_is)
    (case l27 => k_is)
    (case c27 => k_is)
    (case k27 => k_is)
    (case a28 => k_is)
    (case l28 => k_is)
    (case c28 => k_is)
    (case k28 => k_is)
    (case a29 => k_is)
    (case l29 => k_is)
    (case c29 => k_is)
    (case k29 => k_is)
    (case a30 => k_is)
    (case l30 => k_is)
    (case c30 => k_is)
    (case k30 => k_is)
    (case a31 => k_is)
    (case l31 => k_is)
    (case c31 => k_is)
    (case k31 => k_is)
    (case a32 => k_is)
    (case l32 => k_is)
    (case c32 => k_is)
    (case k32 => k_is)
    (case a33 => k_is)
    (case l33 => k_is)
    (case c33 => k_is)
    (case k33 => k_is)
    (case a34 => k_is)
    (case l34 => k_is)
    (case c34 => k_is)
    (case k34 => k_is)
    (case a35 => k_is)
    (case l35 => k_is)
    (case c35 => k_is)
    (case k35 => k_is)
    (case a36 => k_is)
    (case l36 => k_is)
    (case c36 => k_is)
    (case k36 => k_is)
    (case a37 => k_is)
    (case l37 => k_is)
    (case c37 => k_is)
    (case k37 => k_is)
    (case a38 => k_is)
    (case l38 => k_is)
    (case c38 => k_is)
    (case k38 => k_is)
    (case a39 => k_is)
    (case l39 => k_is)
    (case c39 => k_is)
    (case k39 => k_is)
    (case a40 => k_is)
    (case l40 => k_is)
    (case c40 => k_is)
    (case k40 => k_is)
    (case a41 => k_is)
    (case l41 => k_is)
    (case c41 => k_is)
    (case k41 => k_is)
    (case a42 => k_is)
    (case l42 => k_is)
    (case c42 => k_is)
    (case k42 => k_is)
    (case a43 => k_is)
    (case l43 => k_is)
    (case c43 => k_is)
    (case k43 => k_is)
    (case a44 => k_is)
    (case i44 => k_is)
    (case l44 => k_is)
    (case c44 => k_is)
    (case k44 => k_is)
    (case d44 => k_is)
    (case eh44 => k_is)
    (case a45 => k_is)
    (case g45 => k_is)
    (case t45 => k_is)
    (case r45 => k_is)
    (case l45 => k_is)
    (case c45 => k_is)
    (case k45 => k_is)
    (case a46 => k_is)
    (case i46 => k_is)
    (case l46 => k_is)
    (case c46 => k_is)
    (case k46 => k_is)
    (case a47 => k_is)
    (case i47 => k_is)
    (case l47 => k_is)
    (case c47 => k_is)
    (case k47 => k_is)
    (case a48 => k_is)
    (case i48 => k_is)
    (case l48 => k_is)
    (case c48 => k_is)
    (case k48 => k_is)
    (case a49 => k_is)
    (case i49 => k_is)
    (case l49 => k_is)
    (case c49 => k_is)
    (case k49 => k_is)
    (case a50 => k_is)
    (case i50 => k_is)
    (case l50 => k_is)
    (case c50 => k_is)
    (case k50 => k_is)
    (case a51 => k_is)
    (case i51 => k_is)
    (case l51 => k_is)
    (case c51 => k_is)
    (case k51 => k_is)
    (case a52 => k_is)
    (case i52 => k_is)
    (case l52 => k_is)
    (case c52 => k_is)
    (case k52 => k_is)
    (case a53 => k_is)
    (case i53 => k_is)
    (case l53 => k_is)
    (case c53 => k_is)
    (case k53 => k_is)
    (case a54 => k_is)
    (case i54 => k_is)
    (case l54 => k_is)
    (case c54 => k_is)
    (case k54 => k_is)
    (case a55 => k_is)
    (case i55 => k_is)
    (case l55 => k_is)
    (case c55 => k_is)
    (case k55 => k_is)
    (case a56 => k_is)
    (case i56 => k_is)
    (case l56 => k_is)
    (case c56 => k_is)
    (case k56 => k_is)
    (case a57 => k_is)
    (case l57 => k_is)
    (case c57 => k_is)
    (case k57 => k_is)
    (case a58 => k_is)
    (case l58 => k_is)
    (case c58 => k_is)
    (case k58 => k_is)
    (case a59 => k_is)
    (case l59 => k_is)
    (case c59 => k_is)
    (case k59 => k_is)
    (case a60 => k_is)
    (case l60 => k_is)
    (case c60 => k_is)
    (case k60 => k_is)
    (case a61 => k_is)
    (case l61 => k_is)
    (case c61 => k_is)
    (case k61 => k_is)
    (case lq61 => first | kernel_rfl | rfl | decide +kernel)
    (case ln61 => first | kernel_rfl | rfl | decide +kernel)
    (case lt61 => exact Y2 _ (by decide))
    (case a62 => k_is)
    (case l62 => k_is)
    (case c62 => k_is)
    (case k62 => k_is)
    (case lq62 => first | kernel_rfl | rfl | decide +kernel)
    (case ln62 => first | kernel_rfl | rfl | decide +kernel)
    (case lt62 => exact Y2 _ (by decide))
    (case aEInvalidNumber => k_is)
    (case zEInvalidNumberini => k_is)
    (case l63 => k_is)
    (case c63 => k_is)
    (case k63 => k_is)
    (case aETooMany => k_is)
    (case zETooManyini => k_is)
    (case l64 => k_is)
    (case c64 => k_is)
    (case k64 => k_is)
    (case zBagpg => k_is)
    (case zBaghd => k_is)
    (case zBagpo => k_is)
    (case zBagsa => k_is)
    (case zBagmk => first | k_is | kit_is)
    (case zBagkc => first | k_is | kit_is)
    (case zBagca => k_is)
    (case zBagcg => k_is)
    (case zBagct => k_is)
    (case zBagco => k_is)
    (case zBagrd => k_is)
    (case zBagga => k_is)
    (case zBagkNoneType => first | k_is | kit_is)
    (case zBagfNoneType => k_is)
    (case zBagktuple => first | k_is | kit_is)
    (case zBagftuple => k_is)
    (case zBagkint => first | k_is | kit_is)
    (case zBagfint => k_is)
    (case zBagkstr => first | k_is | kit_is)
    (case zBagfstr => k_is)
    (case zBagklist => first | k_is | kit_is)
    (case zBagflist => k_is)
    (case zBagkbool => first | k_is | kit_is)
    (case zBagfbool => k_is)
    (case zBagkdict => first | k_is | kit_is)
    (case zBagfdict => k_is)
    (case zBagne => k_is)
    (case zBagno_letters => k_is)
    (case aEInvalidDeed => k_is)
    (case qEInvalidDeed => k_exc)
    (case zEInvalidDeedkc => first | k_is | kit_is)
    (case zEInvalidDeedsb => k_is)
    (case zEInvalidDeedty => k_is)
    (case aEInvalidState => k_is)
    (case qEInvalidState => k_exc)
    (case zEInvalidStatekc => first | k_is | kit_is)
    (case zEInvalidStatesb => k_is)
    (case zEInvalidStatety => k_is)
    (case aEInvalidLetter => k_is)
    (case qEInvalidLetter => k_exc)
    (case zEInvalidLetterkc => first | k_is | kit_is)
    (case zEInvalidLettersb => k_is)
    (case zEInvalidLetterty => k_is)
    (case aEInvalidOperation => k_is)
    (case qEInvalidOperation => k_exc)
    (case zEInvalidOperationkc => first | k_is | kit_is)
    (case zEInvalidOperationsb => k_is)
    (case zEInvalidOperationty => k_is)
    (case zEInvalidNumberoi => first | kernel_rfl | rfl | decide +kernel)
    (case zEInvalidNumberxf => first | kernel_rfl | rfl | decide +kernel)
    (case zEInvalidNumberkc => first | k_is | kit_is)
    (case zEInvalidNumbersb => k_is)
    (case zEInvalidNumberty => k_is)
    (case zEInvalidNumbersa => k_is)
    (case zEInvalidNumberfn => k_is)
    (case zEInvalidNumbernogiven => k_is)
    (case zETooManyoi => first | kernel_rfl | rfl | decide +kernel)
    (case zETooManyxf => first | kernel_rfl | rfl | decide +kernel)
    (case zETooManykc => first | k_is | kit_is)
    (case zETooManysb => k_is)
    (case zETooManyty => k_is)
    (case zETooManysa => k_is)
    (case zETooManyfn => k_is)
    (case zETooManynolimit => k_is)
    (case zEInvalidDeedInvalidLetter => first | kernel_rfl | rfl | decide +kernel)
    (case zEInvalidDeedInvalidNumber => first | kernel_rfl | rfl | decide +kernel)
    (case zEInvalidDeedInvalidOperation => first | kernel_rfl | rfl | decide +kernel)
    (case zEInvalidDeedTooMany => first | kernel_rfl | rfl | decide +kernel)
    (case zEInvalidStateInvalidLetter => first | kernel_rfl | rfl | decide +kernel)
    (case zEInvalidStateInvalidNumber => first | kernel_rfl | rfl | decide +kernel)
    (case zEInvalidStateInvalidOperation => first | kernel_rfl | rfl | decide +kernel)
    (case zEInvalidStateTooMany => first | kernel_rfl | rfl | decide +kernel)
    (case zEInvalidLetterInvalidLetter => first | kernel_rfl | rfl | decide +kernel)
    (case zEInvalidLetterInvalidNumber => first | kernel_rfl | rfl | decide +kernel)
    (case zEInvalidLetterInvalidOperation => first | kernel_rfl | rfl | decide +kernel)
    (case zEInvalidLetterTooMany => first | kernel_rfl | rfl | decide +kernel)
    (case zEInvalidOperationInvalidLetter => first | kernel_rfl | rfl | decide +kernel)
    (case zEInvalidOperationInvalidNumber => first | kernel_rfl | rfl | decide +kernel)
    (case zEInvalidOperationInvalidOperation => first | kernel_rfl | rfl | decide +kernel)
    (case zEInvalidOperationTooMany => first | kernel_rfl | rfl | decide +kernel)
    (case zEInvalidNumberInvalidLetter => first | kernel_rfl | rfl | decide +kernel)
    (case zEInvalidNumberInvalidNumber => first | kernel_rfl | rfl | decide +kernel)
    (case zEInvalidNumberInvalidOperation => first | kernel_rfl | rfl | decide +kernel)
    (case zEInvalidNumberTooMany => first | kernel_rfl | rfl | decide +kernel)
    (case zETooManyInvalidLetter => first | kernel_rfl | rfl | decide +kernel)
    (case zETooManyInvalidNumber => first | kernel_rfl | rfl | decide +kernel)
    (case zETooManyInvalidOperation => first | kernel_rfl | rfl | decide +kernel)
    (case zETooManyTooMany => first | kernel_rfl | rfl | decide +kernel)
    (case x0 => k_is)
    (case x1 => k_is)
    (case x2 => k_is)
    (case x3 => k_is)
    (case x4 => k_is)
    (case x5 => k_is)
    (case x6 => k_is)
    (case x7 => k_is)
    (case x8 => k_is)
    (case x9 => k_is)
    (case x10 => k_is)
    (case x11 => k_is)
    (case x12 => k_is)
    (case x13 => k_is)
    (case x14 => k_is)
    (case x15 => k_is)
    (case x16 => k_is)
    (case x17 => k_is)
    (case x18 => k_is)
    (case y0 => k_is)
    (case y1 => k_is)
    (case y2 => k_is)
    (case y3 => k_is)
    (case y4 => k_is)
    (case y5 => k_is)
    (case y6 => k_is)
    (case y7 => k_is)
    (case y8 => k_is)
    (case y9 => k_is)
    (case y10 => k_is)
    (case y11 => k_is)
    (case y12 => k_is)
    (case y13 => k_is)
    (case y14 => k_is)
    (case y15 => k_is)
    (case y16 => k_is)
    (case xx0 => k_is)
    (case xl0 => k_is)
    (case xx1 => k_is)
    (case xl1 => k_is)
    (case xx2 => k_is)
    (case xl2 => k_is)
    (case xx3 => k_is)
    (case xl3 => k_is)
    (case wx0 => k_is)
    (case wl0 => k_is)
    (case wH0_0 => rfl)
    (case wH0_1 => rfl)
    (case wH0_2 => rfl)
    (case wH0_3 => rfl)
    (case wH0_4 => rfl)
    (case wH0_5 => rfl)
    (case wH0_6 => rfl)
    (case wH0_7 => rfl)
    (case wz0 => rfl)
    (case wx1 => k_is)
    (case wl1 => k_is)
    (case wH1_0 => rfl)
    (case wH1_1 => rfl)
    (case wH1_2 => rfl)
    (case wH1_3 => rfl)
    (case wH1_4 => rfl)
    (case wH1_5 => rfl)
    (case wH1_6 => rfl)
    (case wz1 => rfl)
    (case wx2 => k_is)
    (case wl2 => k_is)
    (case wH2_0 => rfl)
    (case wH2_1 => rfl)
    (case wH2_2 => rfl)
    (case wz2 => rfl)
    (case lne0_1 => decide)
    (case al0 => k_is)

