import PyProof.Rows.All
import Wide.All
import OpenK.AllK
import Wide.FinOn
import HandS.Evl
import HandS.Exc
import HandS.ExcInit
import HandS.ExcField
import HandS.RaiseMore
import KE.KExcInit
import HandS.ForMost
import HandS.IsInst
import HandS.StrMore
import HandS.Strs
import HandS.TupAny
import HandS.Zip
import HandS.Walk
import HandS.Wide
import HandS.Conv
import HandS.Property
import HandS.ClsMeth
import HandS.CallLocal
import HandS.Defaults
import HandS.FStr
import HandS.TupMul
import HandS.GenList
import PySem.Challenge.RW_halvesmeet_k14_errors_of_disks
import HandS.SetFor
import HandS.TryMany
import HandS.ExcOwn
import HandS.WordsExc
import HandS.EndTab
import HandS.Codes
import HandS.Lambda
import HandS.TupLe
import HandS.Deep
import HandS.Rev
import HandS.Head0
import HandS.Head1
import HandS.Head2
import KE.KNestM
set_option Elab.async false
set_option linter.all false
set_option maxRecDepth 100000
set_option maxHeartbeats 8000000
/-! ### own exceptions with a field over any base (IndexError, OverflowError, ..): as ExcInit's rules, the base's row a parameter -/
namespace K0
open PySem PySem.HandSPX PySem.W PySem.Calls PyProof.Rows Builtin Builtin.ObjectAttr
/-- own classes, then the base's row -/
def refsT (tail : List Value) : List Value → Bool
  | .ref _ :: r => refsT tail r
  | l => l == tail
/-- what is asked of the base -/
structure ExTail (B newId initId : String) (tail : List Value) : Prop where
  F : ExcBaseFacts B newId initId tail
  ne : tail.isEmpty = false
  pass : ∀ self : Value, refuseLoop self "__setattr__" tail = pure ()
  obj : tail.contains (.type "object") = true
abbrev tailIndex : List Value := [.type "IndexError", .type "LookupError", .type "Exception", .type "BaseException", .type "object"]
abbrev tailOver : List Value := [.type "OverflowError", .type "ArithmeticError", .type "Exception", .type "BaseException", .type "object"]
theorem exT_index : ExTail "IndexError" "IndexError.__new__" "IndexError.__init__" tailIndex :=
  ⟨F.excBase_IndexError, rfl, F.store_IndexError.passes, by decide +kernel⟩
theorem exT_over : ExTail "OverflowError" "OverflowError.__new__" "OverflowError.__init__" tailOver :=
  ⟨F.excBase_OverflowError, rfl, F.store_OverflowError.passes, by decide +kernel⟩
theorem exT_value : ExTail "ValueError" "ValueError.__new__" "ValueError.__init__" [.type "ValueError", .type "Exception", .type "BaseException", .type "object"] :=
  ⟨F.excBase_ValueError, rfl, F.store_ValueError.passes, by decide +kernel⟩
theorem refsT_cases {tail : List Value} (l : List Value) (e : refsT tail l = true) : (∃ c r, l = .ref c :: r ∧ refsT tail r = true) ∨ l = tail := by
  unfold refsT at e
  split at e
  · exact .inl ⟨_, _, rfl, e⟩
  · exact .inr (beq_iff_eq.mp e)
section
variable {B newId initId : String} {tail : List Value} (T : ExTail B newId initId tail)
include T
theorem refsT_pass (self : Value) : ∀ l : List Value, refsT tail l = true → refuseLoop self "__setattr__" l = pure ()
  | [], e => by
    rcases refsT_cases [] e with ⟨c, r, q, _⟩ | q
    · cases q
    · rw [q]
      exact T.pass self
  | a :: r, e => by
    rcases refsT_cases (a :: r) e with ⟨c, r', q, h⟩ | q
    · obtain ⟨rfl, rfl⟩ := List.cons.inj q
      rw [refuseLoop_ref]
      exact refsT_pass self r h
    · rw [q]
      exact T.pass self
theorem refsT_has (X : String) : ∀ l : List Value, refsT tail l = true → l.contains (.type X) = tail.contains (.type X)
  | [], e => by
    rcases refsT_cases [] e with ⟨c, r, q, _⟩ | q
    · cases q
    · rw [q]
  | a :: r, e => by
    rcases refsT_cases (a :: r) e with ⟨c, r', q, h⟩ | q
    · obtain ⟨rfl, rfl⟩ := List.cons.inj q
      rw [List.contains_cons, refsT_has X r h]
      rfl
    · rw [q]
theorem refsT_ne {l : List Value} (e : refsT tail l = true) : l.isEmpty = false := by
  cases l with
  | nil =>
    rcases refsT_cases [] e with ⟨c, r, q, _⟩ | q
    · cases q
    · have := T.ne
      rw [← q] at this
      cases this
  | cons _ _ => rfl
end
section
variable {prog : Program} {w : World} {A : Around} {R : Result → Shared → Prop} {hp : Heap} {g : Array GenState} {d : Drawn} {t : Nat} {os : OsState} {B newId initId : String} {tail : List Value}
/-- the first field of such an exception -/
theorem osaT {K : W.Frag} {name : Str} {tk : Tok} {v : Value} {x C : Addr} {fv : Array Value} {cd : ClassData} (T : ExTail B newId initId tail)
    (X : K.In hp) (hx : hp.get? x = some { cls := .ref C, data := .fields fv }) (hcd : W.clsIn K C = some cd) (hm : refsT tail cd.mro = true) (hh : cd.hasDict = true) (ha : W.findIn K (.ref C) name = some none)
    (hq : ∀ h' tk' dx, (∀ b o, b ≠ x → hp.get? b = some o → h'.get? b = some o) → hp.objs.size ≤ dx → dx ≠ x → h'.get? x = some { cls := .ref C, dict := some dx, data := .fields fv } →
      h'.Ns1 dx (fun y => if y = name then some v else none) → R (.ok (.ret .none)) ⟨h', g, d, tk', os⟩) :
    codeAny (model prog w) A (.call (.builtin "object.__setattr__") ⟨[.ref x, .str name tk, v], []⟩) R ⟨hp, g, d, t, os⟩ := by
  have It : W.InstAt hp x { cls := .ref C, data := .fields fv } C none := ⟨hx, rfl, rfl, trivial⟩
  have SO := F.store_object
  have sub : W.Looks (model prog w) hp (isInstance (.ref x) (.type "object")) true := It.type.andThen (W.looks_mroIn X (by
    unfold W.mroIn
    rw [hcd, Option.bind_some, if_neg (by rw [refsT_ne T hm]; decide), refsT_has T "object" _ hm, T.obj]))
  refine codeAny_call_builtin SO.slot.plain SO.entry (@W.check_slot (model prog w) _ _ ⟨hp, g, d, t, os⟩ "object.__setattr__" "object" "__setattr__" (.ref x) [.str name tk, v] [] _ SO.kind SO.split sub (SO.args (.ref x) (.str name tk) v) ?_)
  have Lm : W.Looks (model prog w) hp (mroOf (.ref C)) cd.mro := (W.looks_clsIn X hcd).andThen .now
  have Ln : W.Looks (model prog w) hp (storeTaker? none) none := .now
  have Lc : W.Looks (model prog w) hp (classData C) cd := W.looks_clsIn X hcd
  have nx : x ≠ hp.objs.size := Nat.ne_of_lt (Heap.lt_size hx)
  rw [W.osa_eq, refuse_eq]
  refine wpAny_bind (wpAny_bind (It.type.at (wpAny_bind (Lm.at ?_))))
  rw [refsT_pass T _ _ hm]
  refine wpAny_pure (wpAny_bind (It.type.at (wpAny_bind ((W.looks_findIn X ha).at (wpAny_bind (Ln.at ?_))))))
  show wpAny _ _ (storeInOwnDict (.ref x) (.ref C) (.str name tk) name v false) _ _ _
  cases cd
  dsimp only at hh
  subst hh
  unfold storeInOwnDict ownDictForStores
  repeat (first | with_reducible refine store_in_new ?_ ?_ | with_reducible refine wpAny_loadPart_at hx ?_ | with_reducible refine Lc.at ?_ | wp_step)
  · exact ⟨_, #[], _, (Heap.get?_update_ne _ _ _ _ nx.symm).trans (Heap.get?_push_at rfl rfl), rfl, fun e he => absurd he (by simp), fun _ => rfl⟩
  · intro h' tk' hn' hs
    have hx1 : (hp.push { cls := .type "dict", data := .dict #[] }).get? x = some { cls := .ref C, data := .fields fv } := Heap.get?_push_of_some _ hx
    exact hq h' tk' hp.objs.size (fun b o hb ho => (hs.2 b (Nat.ne_of_lt (Heap.lt_size ho))).trans ((Heap.get?_update_ne _ _ _ _ hb).trans (Heap.get?_push_of_some _ ho))) (Nat.le_refl _) nx.symm ((hs.2 x nx).trans (Heap.get?_update_self _ hx1 rfl)) hn'
end
end K0
namespace K0
open PySem PySem.Spec PyProof.Rows L2 Evl
/-- what the written part says of such a class, whatever its base -/
structure OexT (K : PySem.W.Frag) (C : Addr) : Prop where
  cls : ∃ B newId initId tail nm q N bs bm sn sub ab col dd k0 k1 k2 k3 k5, ExTail B newId initId tail ∧ K.lookup C = some (excClassObj nm q C N bs bm true sn sub ab col dd k0 k1 k2 k3 k5 newId) ∧ refsT tail bm = true
  sa : PySem.W.findIn K (.ref C) "__setattr__" = some (some (.builtin "object.__setattr__"))
  exC : PySem.W.subIn K (.ref C) (.type "BaseException") = some true
  tyC : PySem.W.typeIn K (.ref C) = some (.type "type")
  kC : PySem.W.keepIn K (.ref C) = true
section
variable {X : Cx} {pins : List (Addr × Obj)} {σ : L2.St} {H : Hp} {s : Shared} {a C dx : Addr} {f : Str} {y : V} {u : Value} {Q : Unit → Shared → Prop} {E : Value → Shared → Prop} {A : Around}
/-- self.f = y, the first one -/
theorem ost_newT (T : OexT X.K C) (I : Inv X pins σ H s) (e : H a = some (exo a C none)) (hno : PySem.W.findIn X.K (.ref C) f = some none) (ry : RelV y u)
    (h : ∀ dx s', H dx = none → dx ≠ a → Inv X pins σ (upd (upd H dx (exd dx [(f, y)])) a (exo a C (some dx))) s' → Q () s') : wpAny (model X.prog X.w) A (setAttr (.ref a) f u) Q E s := by
  obtain ⟨B, newId, initId, tail, nm, q, N, bs, bm, sn, sub, ab, col, dd, k0, k1, k2, k3, k5, TT, hC, hbm⟩ := T.cls
  have hcl : PySem.W.clsIn X.K C = some { name := nm, bases := bs, mro := .ref C :: bm, ns := N, qualname := q, hasDict := true, slotNames := sn, subclasses := sub, abstract := ab, collection := col, hasDel := false } := by unfold PySem.W.clsIn; rw [hC] <;> rfl
  obtain ⟨t1, ho⟩ := exo_at I.hok e
  obtain ⟨hp, g, d, t, os⟩ := s
  refine PySem.W.set_plain I.kIn (ox := { cls := .ref C, dict := none, data := .fields #[.ref t1, .none, .none, .none, .bool false, .none] }) (od := none) ⟨ho, rfl, rfl, trivial⟩ T.sa ?_
  refine osaT TT I.kIn ho hcl (show refsT tail (.ref C :: bm) = true from hbm) rfl hno (fun h' tk' dx k dn dne hx hn => ?_)
  have hnd : H dx = none := I.hok.fresh dn
  have nd : ∀ {b : Addr} {o : Obj}, hp.get? b = some o → b ≠ dx := fun {b o} q => Nat.ne_of_lt (Nat.lt_of_lt_of_le (Heap.lt_size q) dn)
  have na : ∀ {b : Addr}, H b = none → b ≠ a := fun {b} n z => by
    rw [z, e] at n
    cases n
  have U : Un X.fs [] H (upd (upd H dx (exd dx [(f, y)])) a (exo a C (some dx))) hp h' :=
    ⟨fun b o q n _ _ => k b o (na n) q, fun b o q n _ _ => ⟨o.slots, k b o (na n) q⟩, fun b o q n _ => by rw [upd_ne (na n), upd_ne (nd q)]; exact n, fun b o q _ => by
      by_cases hb : b = a
      · exact ⟨_, by rw [hb]; exact hx⟩
      · exact ⟨o, k b o hb q⟩, fun b xs q => by rw [upd_ne (at_ne e q exo_tup), upd_ne (ne_of_none q hnd)]; exact q, fun b o v q => by rw [upd_ne (at_ne e q exo_frz), upd_ne (ne_of_none q hnd)]; exact q,
      fun b ps q => ⟨#[], by rw [upd_ne (at_ne e q exo_tbl), upd_ne (ne_of_none q hnd), q]; simp⟩⟩
  refine h dx _ hnd dne (I.un (t' := tk') U fun b o q => ?_)
  by_cases hb : b = a
  · subst hb
    rw [upd_same] at q
    cases q
    exact exo_ok hx
  · rw [upd_ne hb] at q
    by_cases hd : b = dx
    · subst hd
      rw [upd_same] at q
      cases q
      exact exd_ok hn (relO_put (fs := []) ry fun g => True.intro)
    · rw [upd_ne hd] at q
      refine (I.hok b o q).stay (fun c v hc z => k c v ?_ z) (fun c hc => by rw [upd_ne (at_ne e hc exo_own), upd_ne (ne_of_none hc hnd)]; exact hc) (fun c xs hc => by rw [upd_ne (at_ne e hc exo_tup), upd_ne (ne_of_none hc hnd)]; exact hc)
      rcases hc with hc | hc
      · rw [hc]
        exact hb
      · exact at_ne e hc exo_own
end
/-- self.f = e -/
def tOstT (K : PySem.W.Frag) (f : Str) (to te : TE) : TS := fun D σ H => te σ H fun y H1 => to σ H1 fun x H2 => ∃ a C : Addr, x = .ref a ∧ OexT K C ∧ PySem.W.findIn K (.ref C) f = some none ∧
  H2 a = some (exo a C none) ∧ ∀ dx, H2 dx = none → dx ≠ a → D.nx σ (upd (upd H2 dx (exd dx [(f, y)])) a (exo a C (some dx)))
section
variable {X : Cx} {o e : Expr} {es : List Expr} {to te : TE} {ta : TA} {f : Str} {p p' pos : Pos}
theorem ps_ostT (ho : PE X o to) (he : PE X e te) (hs : swapsWith e (some (.Attribute o f p')) pos.line X.env = pure false := by rfl) : PS X (.Assign [.Attribute o f p'] e pos) (tOstT X.K f to te) := by
  refine ⟨fun pins s σ H D I h => ?_⟩
  refine plainObj_wpAny_Assign_Attribute (thn (he.run pins s σ H _ I h) fun v s1 ⟨y, H1, I1, r1, q1⟩ => thn (ho.run pins s1 σ H1 _ I1 q1) fun u s2 ⟨x, H2, I2, r2, a, C, ex, T, hno, ea, q⟩ => ?_) hs
  subst ex
  obtain rfl : u = Value.ref a := r2
  exact ost_newT T I2 ea hno r1 fun dx s' n ne J => ⟨σ, _, J, q dx n ne⟩
theorem pmk_oexT {CX : CXT} {x : Str} {C fI : Addr} {k : Nat} {fd : FuncData} {ps : List Str} {sp : Sp} {ds : List Value} {dvs : List V} (T : OexT X.K C) (iC : PySem.W.findIn X.K (.ref C) "__init__" = some (some (.ref fI))) (tI : PySem.W.typeIn X.K (.ref fI) = some (.type "function"))
    (F1 : FnOk X.prog X.w X.K X.mg X.base CX k fI fd ps sp) (hr : Room (k + 1) X.A) (hb : Binds X.K fd ps ds) (hd : Vals dvs ds) (hx : Passes CX X (fun _ _ _ => False)) (hg : Gl X x) (hm : X.mg x = some (.ref C)) (ha : PA X (e :: es) ta)
    (hdb : (x == ("__debug__" : Str)) = false := by decide) (he : starEach (e :: es) X.env = (false, eval e X.env) :: starEach es X.env := by rfl) (hpl : (backTo pos (starEach es X.env)).any (·.1) = false := by rfl) :
    PMk X (.Call (.Name x p) (e :: es) [] pos) (tMkO C sp dvs ta) := by
  intro pins s σ H Q I h
  obtain ⟨B, newId, initId, tail, nm, q, N, bs, bm, sn, sub, ab, col, dd, k0, k1, k2, k3, k5, TT, hC, hbm⟩ := T.cls
  refine wpAny_Call_Name_kw (ld_glob I hg hm ?_ hdb)
  refine PySem.W.callWith_K (h₀ := X.base) I.ok.mod.kin T.kC (thn (ha.run pos pins s σ H _ I h) fun us s1 ⟨vs, H1, I1, r1, hz, q1⟩ => ⟨I1.kIn, ?_⟩) he hpl
  show wpAny _ _ (call (.ref C) us) _ _ _
  obtain ⟨hp, g, dr, tk, os⟩ := s1
  have hsz : hp.objs.size ≤ hp.objs.size + 1 := Nat.le_succ _
  have hq := q1 (hp.objs.size + 1) (I1.hok.fresh hsz)
  have kk : ∀ b o, hp.get? b = some o → ((hp.push (PySem.W.kdv_tup us)).push (PySem.HandSPX.excO C hp.objs.size)).get? b = some o := fun b o e => Heap.get?_push_of_some _ (Heap.get?_push_of_some _ e)
  have hget : ((hp.push (PySem.W.kdv_tup us)).push (PySem.HandSPX.excO C hp.objs.size)).get? (hp.objs.size + 1) = some (PySem.HandSPX.excO C hp.objs.size) := by heap_get
  have I2 : Inv X pins σ (upd H1 (hp.objs.size + 1) (exo (hp.objs.size + 1) C none)) ⟨(hp.push (PySem.W.kdv_tup us)).push (PySem.HandSPX.excO C hp.objs.size), g, dr, tk, os⟩ :=
    I1.laid (t' := tk) (a := hp.objs.size + 1) (o := exo (hp.objs.size + 1) C none) (h' := (hp.push (PySem.W.kdv_tup us)).push (PySem.HandSPX.excO C hp.objs.size)) kk hsz (exo_ok hget)
  have r2 : Vals (V.ref (hp.objs.size + 1) :: (vs ++ dvs)) (Value.ref (hp.objs.size + 1) :: (us ++ ds)) := .cons rfl (r1.append hd)
  have hl : (Value.ref (hp.objs.size + 1) :: us ++ ds).length = ps.length := (r2.length.symm.trans (F1.len _ _ _ _ hq))
  have hus : us.length ≤ sizeLine := by
    rw [← Paired.length r1, sizeLine_eq]
    omega
  refine wpAny_call (PySem.HandSPX.call_own TT.F (fun Y => refsT_has TT Y bm hbm) (I1.kIn _ _ hC) (PySem.W.looks_findIn I1.kIn iC) (fun self => PySem.W.bind_fn I1.kIn self tI) hus
    (codeAny_mono (F1.run _ X.stack _ _ ⟨Value.ref (hp.objs.size + 1) :: us, []⟩ (Value.ref (hp.objs.size + 1) :: (us ++ ds)) _ _ (fun _ _ _ => False) (hr.make C us []) (I2.env0.make C us []) (hb _ (Value.ref (hp.objs.size + 1) :: us) I2.kIn hl) r2 hq) fun r s' hq' => ?_))
  cases r with
  | error er => exact hx pins σ _ _ er s' I2 hq'
  | ok fl =>
    cases fl with
    | ret u =>
      obtain ⟨v, H2, os2, bare2, un2, hok2, rv, ev, d, fs, ea, ed, hd1, q2⟩ := hq'
      subst ev
      obtain ⟨h2, g2, d2, t2, os'⟩ := s'
      exact ⟨rv, mk_end (raises_own T.exC T.tyC) I1 hsz kk un2 hok2 os2 bare2 ea ed hd1 q2⟩
    | _ => exact False.elim hq'
end
/-- read off the written part -/
def oexInT (newId : String) (tail : List Value) (K : PySem.W.Frag) (C : Addr) : Bool := match K.lookup C with
  | some ⟨.type "type", _, .cls cd, sl⟩ => (match cd.mro, sl.toList with
    | .ref C' :: bm, [_, _, _, _, some (.builtin n), _] => C' == C && n == newId && !cd.hasDel && cd.hasDict && refsT tail bm
    | _, _ => false)
  | _ => false
theorem oexCT {B newId initId : String} {tail : List Value} (T : ExTail B newId initId tail) {K : PySem.W.Frag} {C : Addr} (q : oexInT newId tail K C = true) (sa : PySem.W.findIn K (.ref C) "__setattr__" = some (some (.builtin "object.__setattr__")))
    (exC : PySem.W.subIn K (.ref C) (.type "BaseException") = some true) (tyC : PySem.W.typeIn K (.ref C) = some (.type "type")) (kC : PySem.W.keepIn K (.ref C) = true) : OexT K C := by
  refine ⟨?_, sa, exC, tyC, kC⟩
  unfold oexInT at q
  split at q
  · rename_i dd cd sl ho
    split at q
    · rename_i C' bm k0 k1 k2 k3 n k5 hm hs
      simp only [Bool.and_eq_true, beq_iff_eq, Bool.not_eq_true'] at q
      obtain ⟨⟨⟨⟨rfl, rfl⟩, hdel⟩, hdi⟩, ht⟩ := q
      obtain ⟨nm, bs, mro, ns, qn, hd, sn, sub, ab, col, del⟩ := cd
      dsimp only at hm hdel hdi
      subst hm hdel hdi
      have hsl : sl = #[k0, k1, k2, k3, some (.builtin n), k5] := by
        obtain ⟨l⟩ := sl
        simp only at hs
        rw [hs]
      subst hsl
      exact ⟨B, n, initId, tail, nm, qn, ns, bs, bm, sn, sub, ab, col, dd, k0, k1, k2, k3, k5, T, ho, ht⟩
    · cases q
  · cases q
structure ExIT (K : PySem.W.Frag) (mg : Str → Option Value) (x : Str) (C fI : Addr) : Prop where
  g : mg x = some (.ref C)
  o : OexT K C
  x : XfC K C
  i : PySem.W.findIn K (.ref C) "__init__" = some (some (.ref fI))
  t : PySem.W.typeIn K (.ref fI) = some (.type "function")
end K0

namespace K0
open PySem L2 Evl
/-- a dict of the top from texts to defs -/
def TabF (K : PySem.W.Frag) (w : World) (a : Addr) (ts : List (Str × Addr)) : Prop := ∃ es n, KDict K w a es n ∧ ∀ z, PySem.W.nsIn K a z = some ((ts.lookup z).map Value.ref)
/-- an own class has what isinstance asks -/
structure ObjC (K : PySem.W.Frag) (C : Addr) : Prop where
  ca : PySem.W.findIn K (.ref C) "__class__" = some (some (.builtin "object.__class__"))
  cg : PySem.W.specialIn K (.builtin "object.__class__") "__get__" = some (some (.builtin "getset_descriptor.__get__"))
  ct : PySem.W.takesIn K (.builtin "object.__class__") = some true
  co : PySem.W.mroIn K C (.type "object") = some true
def bmVE : List Value := [.type "ValueError", .type "Exception", .type "BaseException", .type "object"]
/-- an exception class over ValueError, without an __init__ of its own -/
structure ExcF (K : PySem.W.Frag) (mg : Str → Option Value) (x : Str) (C : Addr) : Prop where
  g : mg x = some (.ref C)
  q : PySem.W.excIn K C bmVE "ValueError.__new__" = true
  k : PySem.W.keepIn K (.ref C) = true
  b : PySem.W.subIn K (.ref C) (.type "BaseException") = some true
  t : PySem.W.typeIn K (.ref C) = some (.type "type")
/-- an exception class over ValueError with an __init__ of its own alone -/
def oexIn (K : PySem.W.Frag) (C : Addr) : Bool := match K.lookup C with
  | some ⟨.type "type", _, .cls cd, sl⟩ => (match cd.mro, sl.toList with
    | .ref C' :: bm, [_, _, _, _, some (.builtin n), _] => C' == C && n == "ValueError.__new__" && !cd.hasDel && cd.hasDict && PySem.HandSPX.refsVE bm
    | _, _ => false)
  | _ => false
theorem oexC {K : PySem.W.Frag} {C : Addr} (q : oexIn K C = true) (sa : PySem.W.findIn K (.ref C) "__setattr__" = some (some (.builtin "object.__setattr__"))) (exC : PySem.W.subIn K (.ref C) (.type "BaseException") = some true)
    (tyC : PySem.W.typeIn K (.ref C) = some (.type "type")) (kC : PySem.W.keepIn K (.ref C) = true) : OexC K C := by
  refine ⟨?_, sa, exC, tyC, kC⟩
  unfold oexIn at q
  split at q
  · rename_i dd cd sl ho
    split at q
    · rename_i C' bm k0 k1 k2 k3 n k5 hm hs
      simp only [Bool.and_eq_true, beq_iff_eq, Bool.not_eq_true'] at q
      obtain ⟨⟨⟨⟨rfl, rfl⟩, hdel⟩, hdi⟩, ht⟩ := q
      obtain ⟨nm, bs, mro, ns, qn, hd, sn, sub, ab, col, del⟩ := cd
      dsimp only at hm hdel hdi
      subst hm hdel hdi
      have hsl : sl = #[k0, k1, k2, k3, some (.builtin "ValueError.__new__"), k5] := by
        obtain ⟨l⟩ := sl
        simp only at hs
        rw [hs]
      subst hsl
      exact ⟨nm, qn, ns, bs, bm, sn, sub, ab, col, dd, k0, k1, k2, k3, k5, ho, ht⟩
    · cases q
  · cases q
structure ExI (K : PySem.W.Frag) (mg : Str → Option Value) (x : Str) (C fI : Addr) : Prop where
  g : mg x = some (.ref C)
  o : OexC K C
  x : XfC K C
  i : PySem.W.findIn K (.ref C) "__init__" = some (some (.ref fI))
  t : PySem.W.typeIn K (.ref fI) = some (.type "function")
def top (i : Nat) : Stmt := PySem.Challenge.pw_halvesmeet_k14_errors_of_disks.main.body.getD i (.Pass ⟨0, 0, 0, 0⟩)
abbrev s_is_number : Stmt := top 12
abbrev N_is_number : List Str := ["value"]
theorem sc_is_number : FnScope N_is_number ["value"] (defScope s_is_number) := ⟨rfl, rfl, rfl, by decide +kernel, rfl, by decide +kernel, by decide +kernel⟩
abbrev s_is_within : Stmt := top 13
abbrev N_is_within : List Str := ["value", "least", "most"]
theorem sc_is_within : FnScope N_is_within ["value", "least", "most"] (defScope s_is_within) := ⟨rfl, rfl, rfl, by decide +kernel, rfl, by decide +kernel, by decide +kernel⟩
abbrev s_are_indices : Stmt := top 14
abbrev N_are_indices : List Str := ["value", "many", "index"]
theorem sc_are_indices : FnScope N_are_indices ["value", "many"] (defScope s_are_indices) := ⟨rfl, rfl, rfl, by decide +kernel, rfl, by decide +kernel, by decide +kernel⟩
abbrev s_are_ascending : Stmt := top 15
abbrev N_are_ascending : List Str := ["row", "one", "other"]
theorem sc_are_ascending : FnScope N_are_ascending ["row"] (defScope s_are_ascending) := ⟨rfl, rfl, rfl, by decide +kernel, rfl, by decide +kernel, by decide +kernel⟩
abbrev s_is_made_of : Stmt := top 16
abbrev N_is_made_of : List Str := ["value", "signs", "most"]
theorem sc_is_made_of : FnScope N_is_made_of ["value", "signs", "most"] (defScope s_is_made_of) := ⟨rfl, rfl, rfl, by decide +kernel, rfl, by decide +kernel, by decide +kernel⟩
abbrev s_is_plain : Stmt := top 17
abbrev N_is_plain : List Str := ["value"]
theorem sc_is_plain : FnScope N_is_plain ["value"] (defScope s_is_plain) := ⟨rfl, rfl, rfl, by decide +kernel, rfl, by decide +kernel, by decide +kernel⟩
abbrev s_is_plain_within : Stmt := top 18
abbrev N_is_plain_within : List Str := ["value", "most", "level", "nest", "inner", "part", "row", "member"]
theorem sc_is_plain_within : FnScope N_is_plain_within ["value", "most"] (defScope s_is_plain_within) := ⟨rfl, rfl, rfl, by decide +kernel, rfl, by decide +kernel, by decide +kernel⟩
abbrev s_is_single : Stmt := top 19
abbrev N_is_single : List Str := ["value"]
theorem sc_is_single : FnScope N_is_single ["value"] (defScope s_is_single) := ⟨rfl, rfl, rfl, by decide +kernel, rfl, by decide +kernel, by decide +kernel⟩
abbrev s_check_number : Stmt := top 21
abbrev N_check_number : List Str := ["given", "least", "most"]
theorem sc_check_number : FnScope N_check_number ["given", "least", "most"] (defScope s_check_number) := ⟨rfl, rfl, rfl, by decide +kernel, rfl, by decide +kernel, by decide +kernel⟩
abbrev s_is_block : Stmt := top 26
abbrev N_is_block : List Str := ["value"]
theorem sc_is_block : FnScope N_is_block ["value"] (defScope s_is_block) := ⟨rfl, rfl, rfl, by decide +kernel, rfl, by decide +kernel, by decide +kernel⟩
abbrev s_are_blocks : Stmt := top 27
abbrev N_are_blocks : List Str := ["value", "least", "block"]
theorem sc_are_blocks : FnScope N_are_blocks ["value", "least"] (defScope s_are_blocks) := ⟨rfl, rfl, rfl, by decide +kernel, rfl, by decide +kernel, by decide +kernel⟩
abbrev s_Disk_init : Stmt := inClass (top 28) 0
abbrev N_Disk_init : List Str := ["self", "blocks"]
theorem sc_Disk_init : FnScope N_Disk_init ["self", "blocks"] (defScope s_Disk_init) := ⟨rfl, rfl, rfl, by decide +kernel, rfl, by decide +kernel, by decide +kernel⟩
abbrev s_Disk_empty : Stmt := inClass (top 28) 1
abbrev N_Disk_empty : List Str := ["cls", "many"]
theorem sc_Disk_empty : FnScope N_Disk_empty ["cls", "many"] (defScope s_Disk_empty) := ⟨rfl, rfl, rfl, by decide +kernel, rfl, by decide +kernel, by decide +kernel⟩
abbrev s_Disk_sure : Stmt := inClass (top 28) 2
abbrev N_Disk_sure : List Str := ["self"]
theorem sc_Disk_sure : FnScope N_Disk_sure ["self"] (defScope s_Disk_sure) := ⟨rfl, rfl, rfl, by decide +kernel, rfl, by decide +kernel, by decide +kernel⟩
abbrev s_Disk_waiting : Stmt := inClass (top 28) 3
abbrev N_Disk_waiting : List Str := ["self"]
theorem sc_Disk_waiting : FnScope N_Disk_waiting ["self"] (defScope s_Disk_waiting) := ⟨rfl, rfl, rfl, by decide +kernel, rfl, by decide +kernel, by decide +kernel⟩
abbrev s_Disk_put : Stmt := inClass (top 28) 4
abbrev N_Disk_put : List Str := ["self", "place", "block"]
theorem sc_Disk_put : FnScope N_Disk_put ["self", "place", "block"] (defScope s_Disk_put) := ⟨rfl, rfl, rfl, by decide +kernel, rfl, by decide +kernel, by decide +kernel⟩
abbrev s_Disk_read : Stmt := inClass (top 28) 5
abbrev N_Disk_read : List Str := ["self", "place"]
theorem sc_Disk_read : FnScope N_Disk_read ["self", "place"] (defScope s_Disk_read) := ⟨rfl, rfl, rfl, by decide +kernel, rfl, by decide +kernel, by decide +kernel⟩
abbrev s_Disk_blocks : Stmt := inClass (top 28) 6
abbrev N_Disk_blocks : List Str := ["self"]
theorem sc_Disk_blocks : FnScope N_Disk_blocks ["self"] (defScope s_Disk_blocks) := ⟨rfl, rfl, rfl, by decide +kernel, rfl, by decide +kernel, by decide +kernel⟩
abbrev s_Disk_synced : Stmt := inClass (top 28) 7
abbrev N_Disk_synced : List Str := ["self"]
theorem sc_Disk_synced : FnScope N_Disk_synced ["self"] (defScope s_Disk_synced) := ⟨rfl, rfl, rfl, by decide +kernel, rfl, by decide +kernel, by decide +kernel⟩
abbrev s_Disk_fallen : Stmt := inClass (top 28) 8
abbrev N_Disk_fallen : List Str := ["self", "kept", "index"]
theorem sc_Disk_fallen : FnScope N_Disk_fallen ["self", "kept"] (defScope s_Disk_fallen) := ⟨rfl, rfl, rfl, by decide +kernel, rfl, by decide +kernel, by decide +kernel⟩
abbrev s_Disk_len : Stmt := inClass (top 28) 9
abbrev N_Disk_len : List Str := ["self"]
theorem sc_Disk_len : FnScope N_Disk_len ["self"] (defScope s_Disk_len) := ⟨rfl, rfl, rfl, by decide +kernel, rfl, by decide +kernel, by decide +kernel⟩
abbrev s_Disk_eq : Stmt := inClass (top 28) 10
abbrev N_Disk_eq : List Str := ["self", "other"]
theorem sc_Disk_eq : FnScope N_Disk_eq ["self", "other"] (defScope s_Disk_eq) := ⟨rfl, rfl, rfl, by decide +kernel, rfl, by decide +kernel, by decide +kernel⟩
abbrev s_Disk_str : Stmt := inClass (top 28) 11
abbrev N_Disk_str : List Str := ["self"]
theorem sc_Disk_str : FnScope N_Disk_str ["self"] (defScope s_Disk_str) := ⟨rfl, rfl, rfl, by decide +kernel, rfl, by decide +kernel, by decide +kernel⟩
abbrev s_made : Stmt := top 29
abbrev N_made : List Str := ["sure", "waiting", "disk"]
theorem sc_made : FnScope N_made ["sure", "waiting"] (defScope s_made) := ⟨rfl, rfl, rfl, by decide +kernel, rfl, by decide +kernel, by decide +kernel⟩
abbrev s_behind : Stmt := top 30
abbrev N_behind : List Str := ["sure", "puts", "blocks", "place", "block"]
theorem sc_behind : FnScope N_behind ["sure", "puts"] (defScope s_behind) := ⟨rfl, rfl, rfl, by decide +kernel, rfl, by decide +kernel, by decide +kernel⟩
abbrev s_check_disk : Stmt := top 31
abbrev N_check_disk : List Str := ["value"]
theorem sc_check_disk : FnScope N_check_disk ["value"] (defScope s_check_disk) := ⟨rfl, rfl, rfl, by decide +kernel, rfl, by decide +kernel, by decide +kernel⟩
abbrev s_versions_of : Stmt := top 32
abbrev N_versions_of : List Str := ["disk", "versions", "block", "place"]
theorem sc_versions_of : FnScope N_versions_of ["disk"] (defScope s_versions_of) := ⟨rfl, rfl, rfl, by decide +kernel, rfl, by decide +kernel, by decide +kernel⟩
abbrev s_falls_count : Stmt := top 33
abbrev N_falls_count : List Str := ["disk", "many", "choices"]
theorem sc_falls_count : FnScope N_falls_count ["disk"] (defScope s_falls_count) := ⟨rfl, rfl, rfl, by decide +kernel, rfl, by decide +kernel, by decide +kernel⟩
abbrev s_each_fall : Stmt := top 34
abbrev N_each_fall : List Str := ["disk", "many", "versions", "number"]
theorem sc_each_fall : GScope N_each_fall ["disk"] (defScope s_each_fall) := ⟨rfl, rfl, rfl, by decide +kernel, rfl, by decide +kernel, by decide +kernel⟩
abbrev s_picked : Stmt := top 35
abbrev N_picked : List Str := ["versions", "number", "blocks", "choices"]
theorem sc_picked : FnScope N_picked ["versions", "number"] (defScope s_picked) := ⟨rfl, rfl, rfl, by decide +kernel, rfl, by decide +kernel, by decide +kernel⟩
abbrev s_fall_paper : Stmt := top 36
abbrev N_fall_paper : List Str := ["disk", "other", "kept", "index", "place", "block", "paper"]
theorem sc_fall_paper : FnScope N_fall_paper ["disk", "other"] (defScope s_fall_paper) := ⟨rfl, rfl, rfl, by decide +kernel, rfl, by decide +kernel, by decide +kernel⟩
abbrev s_is_fall_paper : Stmt := top 37
abbrev N_is_fall_paper : List Str := ["disk", "other", "value"]
theorem sc_is_fall_paper : FnScope N_is_fall_paper ["disk", "other", "value"] (defScope s_is_fall_paper) := ⟨rfl, rfl, rfl, by decide +kernel, rfl, by decide +kernel, by decide +kernel⟩
abbrev s_law_dice : Stmt := top 39
abbrev N_law_dice : List Str := ["script", "spot", "cell", "left"]
theorem sc_law_dice : FnScope N_law_dice ["script", "spot"] (defScope s_law_dice) := ⟨rfl, rfl, rfl, by decide +kernel, rfl, by decide +kernel, by decide +kernel⟩
abbrev s_law_roll : Stmt := top 40
abbrev N_law_roll : List Str := ["dice", "most", "found", "one", "two"]
theorem sc_law_roll : FnScope N_law_roll ["dice", "most"] (defScope s_law_roll) := ⟨rfl, rfl, rfl, by decide +kernel, rfl, by decide +kernel, by decide +kernel⟩
abbrev s_law_pick : Stmt := top 41
abbrev N_law_pick : List Str := ["dice", "items"]
theorem sc_law_pick : FnScope N_law_pick ["dice", "items"] (defScope s_law_pick) := ⟨rfl, rfl, rfl, by decide +kernel, rfl, by decide +kernel, by decide +kernel⟩
abbrev s_law_fault : Stmt := top 42
abbrev N_law_fault : List Str := ["call", "error"]
theorem sc_law_fault : FnScope N_law_fault ["call"] (defScope s_law_fault) := ⟨rfl, rfl, rfl, by decide +kernel, rfl, by decide +kernel, by decide +kernel⟩
abbrev s_law_right : Stmt := top 43
abbrev N_law_right : List Str := ["dice", "disk", "none", "block", "blocks", "place", "many", "kept", "told", "due", "word"]
theorem sc_law_right : FnScope N_law_right ["dice"] (defScope s_law_right) := ⟨rfl, rfl, rfl, by decide +kernel, rfl, by decide +kernel, by decide +kernel⟩
abbrev s_law_deep : Stmt := top 44
abbrev N_law_deep : List Str := ["many", "found", "turn"]
theorem sc_law_deep : FnScope N_law_deep ["many"] (defScope s_law_deep) := ⟨rfl, rfl, rfl, by decide +kernel, rfl, by decide +kernel, by decide +kernel⟩
abbrev s_law : Stmt := top 45
abbrev N_law : List Str := ["script", "spot", "wide", "full", "many", "turn", "place", "more", "told", "some", "value"]
theorem sc_law : FnScope N_law ["script"] (defScope s_law) := ⟨rfl, rfl, rfl, by decide +kernel, rfl, by decide +kernel, by decide +kernel⟩
abbrev s_InvalidNumber_init : Stmt := inClass (top 5) 0
abbrev N_InvalidNumber_init : List Str := ["self", "given"]
theorem sc_InvalidNumber_init : FnScope N_InvalidNumber_init ["self", "given"] (defScope s_InvalidNumber_init) := ⟨rfl, rfl, rfl, by decide +kernel, rfl, by decide +kernel, by decide +kernel⟩
abbrev s_TooMany_init : Stmt := inClass (top 6) 0
abbrev N_TooMany_init : List Str := ["self", "limit"]
theorem sc_TooMany_init : FnScope N_TooMany_init ["self", "limit"] (defScope s_TooMany_init) := ⟨rfl, rfl, rfl, by decide +kernel, rfl, by decide +kernel, by decide +kernel⟩
structure Ad where
  Disk : Addr
  is_number : Addr
  is_within : Addr
  are_indices : Addr
  are_ascending : Addr
  is_made_of : Addr
  is_plain : Addr
  is_plain_within : Addr
  is_single : Addr
  check_number : Addr
  is_block : Addr
  are_blocks : Addr
  Disk_init : Addr
  Disk_empty : Addr
  Disk_sure : Addr
  Disk_waiting : Addr
  Disk_put : Addr
  Disk_read : Addr
  Disk_blocks : Addr
  Disk_synced : Addr
  Disk_fallen : Addr
  Disk_len : Addr
  Disk_eq : Addr
  Disk_str : Addr
  made : Addr
  behind : Addr
  check_disk : Addr
  versions_of : Addr
  falls_count : Addr
  each_fall : Addr
  picked : Addr
  fall_paper : Addr
  is_fall_paper : Addr
  law_dice : Addr
  law_roll : Addr
  law_pick : Addr
  law_fault : Addr
  law_right : Addr
  law_deep : Addr
  law : Addr
  InvalidNumber_init : Addr
  TooMany_init : Addr
  EInvalidDisk : Addr
  EInvalidBlock : Addr
  EInvalidOperation : Addr
  EInvalidNumber : Addr
  ETooMany : Addr
structure Fd where
  is_number : FuncData
  is_within : FuncData
  are_indices : FuncData
  are_ascending : FuncData
  is_made_of : FuncData
  is_plain : FuncData
  is_plain_within : FuncData
  is_single : FuncData
  check_number : FuncData
  is_block : FuncData
  are_blocks : FuncData
  Disk_init : FuncData
  Disk_empty : FuncData
  Disk_sure : FuncData
  Disk_waiting : FuncData
  Disk_put : FuncData
  Disk_read : FuncData
  Disk_blocks : FuncData
  Disk_synced : FuncData
  Disk_fallen : FuncData
  Disk_len : FuncData
  Disk_eq : FuncData
  Disk_str : FuncData
  made : FuncData
  behind : FuncData
  check_disk : FuncData
  versions_of : FuncData
  falls_count : FuncData
  each_fall : FuncData
  picked : FuncData
  fall_paper : FuncData
  is_fall_paper : FuncData
  law_dice : FuncData
  law_roll : FuncData
  law_pick : FuncData
  law_fault : FuncData
  law_right : FuncData
  law_deep : FuncData
  law : FuncData
  InvalidNumber_init : FuncData
  TooMany_init : FuncData
/-- what the top has written -/
structure Txt (K : PySem.W.Frag) (mg : Str → Option Value) (A : Ad) (D : Fd) : Prop where
  g_is_number : mg "is_number" = some (.ref A.is_number)
  F_is_number : Fun K "is_number" "is_number" s_is_number A.is_number D.is_number
  b_is_number : Binds K D.is_number ["value"] []
  g_is_within : mg "is_within" = some (.ref A.is_within)
  F_is_within : Fun K "is_within" "is_within" s_is_within A.is_within D.is_within
  b_is_within : Binds K D.is_within ["value", "least", "most"] []
  g_are_indices : mg "are_indices" = some (.ref A.are_indices)
  F_are_indices : Fun K "are_indices" "are_indices" s_are_indices A.are_indices D.are_indices
  b_are_indices : Binds K D.are_indices ["value", "many"] []
  g_are_ascending : mg "are_ascending" = some (.ref A.are_ascending)
  F_are_ascending : Fun K "are_ascending" "are_ascending" s_are_ascending A.are_ascending D.are_ascending
  b_are_ascending : Binds K D.are_ascending ["row"] []
  g_is_made_of : mg "is_made_of" = some (.ref A.is_made_of)
  F_is_made_of : Fun K "is_made_of" "is_made_of" s_is_made_of A.is_made_of D.is_made_of
  b_is_made_of : Binds K D.is_made_of ["value", "signs", "most"] []
  g_is_plain : mg "is_plain" = some (.ref A.is_plain)
  F_is_plain : Fun K "is_plain" "is_plain" s_is_plain A.is_plain D.is_plain
  b_is_plain : Binds K D.is_plain ["value"] []
  g_is_plain_within : mg "is_plain_within" = some (.ref A.is_plain_within)
  F_is_plain_within : Fun K "is_plain_within" "is_plain_within" s_is_plain_within A.is_plain_within D.is_plain_within
  b_is_plain_within : Binds K D.is_plain_within ["value", "most"] []
  g_is_single : mg "_is_single" = some (.ref A.is_single)
  F_is_single : Fun K "_is_single" "_is_single" s_is_single A.is_single D.is_single
  b_is_single : Binds K D.is_single ["value"] []
  g_check_number : mg "check_number" = some (.ref A.check_number)
  F_check_number : FunD K "check_number" "check_number" (defArgs s_check_number) (defBody s_check_number) (defScope s_check_number) [.int (999999999999999999999999999999999999999999999999999999999999)] [] A.check_number D.check_number
  d_check_number : ∃ ds, Vals [.int (999999999999999999999999999999999999999999999999999999999999)] ds ∧ Binds K D.check_number ["given", "least", "most"] ds
  b_check_number : Binds K D.check_number ["given", "least", "most"] []
  g_is_block : mg "is_block" = some (.ref A.is_block)
  F_is_block : Fun K "is_block" "is_block" s_is_block A.is_block D.is_block
  b_is_block : Binds K D.is_block ["value"] []
  g_are_blocks : mg "are_blocks" = some (.ref A.are_blocks)
  F_are_blocks : Fun K "are_blocks" "are_blocks" s_are_blocks A.are_blocks D.are_blocks
  b_are_blocks : Binds K D.are_blocks ["value", "least"] []
  F_Disk_init : Fun K "__init__" "Disk.__init__" s_Disk_init A.Disk_init D.Disk_init
  b_Disk_init : Binds K D.Disk_init ["self", "blocks"] []
  F_Disk_empty : Fun K "empty" "Disk.empty" s_Disk_empty A.Disk_empty D.Disk_empty
  b_Disk_empty : Binds K D.Disk_empty ["cls", "many"] []
  F_Disk_sure : Fun K "sure" "Disk.sure" s_Disk_sure A.Disk_sure D.Disk_sure
  b_Disk_sure : Binds K D.Disk_sure ["self"] []
  F_Disk_waiting : Fun K "waiting" "Disk.waiting" s_Disk_waiting A.Disk_waiting D.Disk_waiting
  b_Disk_waiting : Binds K D.Disk_waiting ["self"] []
  F_Disk_put : Fun K "put" "Disk.put" s_Disk_put A.Disk_put D.Disk_put
  b_Disk_put : Binds K D.Disk_put ["self", "place", "block"] []
  F_Disk_read : Fun K "read" "Disk.read" s_Disk_read A.Disk_read D.Disk_read
  b_Disk_read : Binds K D.Disk_read ["self", "place"] []
  F_Disk_blocks : Fun K "blocks" "Disk.blocks" s_Disk_blocks A.Disk_blocks D.Disk_blocks
  b_Disk_blocks : Binds K D.Disk_blocks ["self"] []
  F_Disk_synced : Fun K "synced" "Disk.synced" s_Disk_synced A.Disk_synced D.Disk_synced
  b_Disk_synced : Binds K D.Disk_synced ["self"] []
  F_Disk_fallen : Fun K "fallen" "Disk.fallen" s_Disk_fallen A.Disk_fallen D.Disk_fallen
  b_Disk_fallen : Binds K D.Disk_fallen ["self", "kept"] []
  F_Disk_len : Fun K "__len__" "Disk.__len__" s_Disk_len A.Disk_len D.Disk_len
  b_Disk_len : Binds K D.Disk_len ["self"] []
  F_Disk_eq : Fun K "__eq__" "Disk.__eq__" s_Disk_eq A.Disk_eq D.Disk_eq
  b_Disk_eq : Binds K D.Disk_eq ["self", "other"] []
  F_Disk_str : Fun K "__str__" "Disk.__str__" s_Disk_str A.Disk_str D.Disk_str
  b_Disk_str : Binds K D.Disk_str ["self"] []
  g_made : mg "_made" = some (.ref A.made)
  F_made : Fun K "_made" "_made" s_made A.made D.made
  b_made : Binds K D.made ["sure", "waiting"] []
  g_behind : mg "_behind" = some (.ref A.behind)
  F_behind : Fun K "_behind" "_behind" s_behind A.behind D.behind
  b_behind : Binds K D.behind ["sure", "puts"] []
  g_check_disk : mg "check_disk" = some (.ref A.check_disk)
  F_check_disk : Fun K "check_disk" "check_disk" s_check_disk A.check_disk D.check_disk
  b_check_disk : Binds K D.check_disk ["value"] []
  g_versions_of : mg "_versions_of" = some (.ref A.versions_of)
  F_versions_of : Fun K "_versions_of" "_versions_of" s_versions_of A.versions_of D.versions_of
  b_versions_of : Binds K D.versions_of ["disk"] []
  g_falls_count : mg "falls_count" = some (.ref A.falls_count)
  F_falls_count : Fun K "falls_count" "falls_count" s_falls_count A.falls_count D.falls_count
  b_falls_count : Binds K D.falls_count ["disk"] []
  g_each_fall : mg "each_fall" = some (.ref A.each_fall)
  F_each_fall : Fun K "each_fall" "each_fall" s_each_fall A.each_fall D.each_fall
  b_each_fall : Binds K D.each_fall ["disk"] []
  g_picked : mg "_picked" = some (.ref A.picked)
  F_picked : Fun K "_picked" "_picked" s_picked A.picked D.picked
  b_picked : Binds K D.picked ["versions", "number"] []
  g_fall_paper : mg "fall_paper" = some (.ref A.fall_paper)
  F_fall_paper : Fun K "fall_paper" "fall_paper" s_fall_paper A.fall_paper D.fall_paper
  b_fall_paper : Binds K D.fall_paper ["disk", "other"] []
  g_is_fall_paper : mg "is_fall_paper" = some (.ref A.is_fall_paper)
  F_is_fall_paper : Fun K "is_fall_paper" "is_fall_paper" s_is_fall_paper A.is_fall_paper D.is_fall_paper
  b_is_fall_paper : Binds K D.is_fall_paper ["disk", "other", "value"] []
  g_law_dice : mg "_law_dice" = some (.ref A.law_dice)
  F_law_dice : Fun K "_law_dice" "_law_dice" s_law_dice A.law_dice D.law_dice
  b_law_dice : Binds K D.law_dice ["script", "spot"] []
  g_law_roll : mg "_law_roll" = some (.ref A.law_roll)
  F_law_roll : Fun K "_law_roll" "_law_roll" s_law_roll A.law_roll D.law_roll
  b_law_roll : Binds K D.law_roll ["dice", "most"] []
  g_law_pick : mg "_law_pick" = some (.ref A.law_pick)
  F_law_pick : Fun K "_law_pick" "_law_pick" s_law_pick A.law_pick D.law_pick
  b_law_pick : Binds K D.law_pick ["dice", "items"] []
  g_law_fault : mg "_law_fault" = some (.ref A.law_fault)
  F_law_fault : Fun K "_law_fault" "_law_fault" s_law_fault A.law_fault D.law_fault
  b_law_fault : Binds K D.law_fault ["call"] []
  g_law_right : mg "_law_right" = some (.ref A.law_right)
  F_law_right : Fun K "_law_right" "_law_right" s_law_right A.law_right D.law_right
  b_law_right : Binds K D.law_right ["dice"] []
  g_law_deep : mg "_law_deep" = some (.ref A.law_deep)
  F_law_deep : Fun K "_law_deep" "_law_deep" s_law_deep A.law_deep D.law_deep
  b_law_deep : Binds K D.law_deep ["many"] []
  g_law : mg "law" = some (.ref A.law)
  F_law : Fun K "law" "law" s_law A.law D.law
  b_law : Binds K D.law ["script"] []
  F_InvalidNumber_init : Fun K "__init__" "InvalidNumber.__init__" s_InvalidNumber_init A.InvalidNumber_init D.InvalidNumber_init
  b_InvalidNumber_init : Binds K D.InvalidNumber_init ["self", "given"] []
  F_TooMany_init : Fun K "__init__" "TooMany.__init__" s_TooMany_init A.TooMany_init D.TooMany_init
  b_TooMany_init : Binds K D.TooMany_init ["self", "limit"] []
  g_Disk : mg "Disk" = some (.ref A.Disk)
  cl_Disk : Cls K A.Disk
  mk_Disk : Mk K A.Disk A.Disk_init
  ob_Disk : ObjC K A.Disk
  rd_Disk : ClX.CRead K A.Disk (.type "type")
  kNoneType_Disk : PySem.W.kitOne K (.type "NoneType") (.ref A.Disk) = some false
  fNoneType_Disk : PySem.W.notFirst K A.Disk (.type "NoneType") = true
  ktuple_Disk : PySem.W.kitOne K (.type "tuple") (.ref A.Disk) = some false
  ftuple_Disk : PySem.W.notFirst K A.Disk (.type "tuple") = true
  kint_Disk : PySem.W.kitOne K (.type "int") (.ref A.Disk) = some false
  fint_Disk : PySem.W.notFirst K A.Disk (.type "int") = true
  kstr_Disk : PySem.W.kitOne K (.type "str") (.ref A.Disk) = some false
  fstr_Disk : PySem.W.notFirst K A.Disk (.type "str") = true
  klist_Disk : PySem.W.kitOne K (.type "list") (.ref A.Disk) = some false
  flist_Disk : PySem.W.notFirst K A.Disk (.type "list") = true
  kbool_Disk : PySem.W.kitOne K (.type "bool") (.ref A.Disk) = some false
  fbool_Disk : PySem.W.notFirst K A.Disk (.type "bool") = true
  kdict_Disk : PySem.W.kitOne K (.type "dict") (.ref A.Disk) = some false
  fdict_Disk : PySem.W.notFirst K A.Disk (.type "dict") = true
  rint_Disk : PySem.W.kitOne K (.ref A.Disk) (.type "int") = some false
  rbool_Disk : PySem.W.kitOne K (.ref A.Disk) (.type "bool") = some false
  rstr_Disk : PySem.W.kitOne K (.ref A.Disk) (.type "str") = some false
  rtuple_Disk : PySem.W.kitOne K (.ref A.Disk) (.type "tuple") = some false
  ne_Disk : PySem.W.findIn K (.ref A.Disk) "__ne__" = some (some (.builtin "object.__ne__"))
  no_Disk_sure : NoAttr K A.Disk "_sure"
  no_Disk_waiting : NoAttr K A.Disk "_waiting"
  m_Disk_init : Meth K A.Disk "__init__" A.Disk_init
  cm_Disk_empty : ∃ p, ClX.CMet K A.Disk (.type "type") "empty" p A.Disk_empty
  p_Disk_sure : ∃ p, PropOf K A.Disk "sure" p A.Disk_sure
  p_Disk_waiting : ∃ p, PropOf K A.Disk "waiting" p A.Disk_waiting
  m_Disk_put : Meth K A.Disk "put" A.Disk_put
  m_Disk_read : Meth K A.Disk "read" A.Disk_read
  m_Disk_blocks : Meth K A.Disk "blocks" A.Disk_blocks
  m_Disk_synced : Meth K A.Disk "synced" A.Disk_synced
  m_Disk_fallen : Meth K A.Disk "fallen" A.Disk_fallen
  m_Disk_len : Meth K A.Disk "__len__" A.Disk_len
  m_Disk_eq : Meth K A.Disk "__eq__" A.Disk_eq
  m_Disk_str : Meth K A.Disk "__str__" A.Disk_str
  c_MAX_NEST : ∃ t, mg "MAX_NEST" = some (.int (12) t)
  c_MAX_STRING : ∃ t, mg "MAX_STRING" = some (.int (3000) t)
  c_MAX_NUMBER : ∃ t, mg "MAX_NUMBER" = some (.int (999999999999999999999999999999999999999999999999999999999999) t)
  c_SIGNS : ∃ t, mg "SIGNS" = some (.str "abcdefghijklmnopqrstuvwxyz0123456789 " t)
  c_MAX_BLOCKS : ∃ t, mg "MAX_BLOCKS" = some (.int (200) t)
  c_MAX_WAITING : ∃ t, mg "MAX_WAITING" = some (.int (400) t)
  c_MOST_FALLS : ∃ t, mg "MOST_FALLS" = some (.int (4000) t)
  b_abs : mg "abs" = none
  b_all : mg "all" = none
  b_bool : mg "bool" = none
  b_enumerate : mg "enumerate" = none
  b_int : mg "int" = none
  b_isinstance : mg "isinstance" = none
  b_len : mg "len" = none
  b_list : mg "list" = none
  b_max : mg "max" = none
  b_min : mg "min" = none
  b_range : mg "range" = none
  b_repr : mg "repr" = none
  b_reversed : mg "reversed" = none
  b_sorted : mg "sorted" = none
  b_str : mg "str" = none
  b_tuple : mg "tuple" = none
  b_zip : mg "zip" = none
  e_InvalidDisk : ExcF K mg "InvalidDisk" A.EInvalidDisk
  e_InvalidBlock : ExcF K mg "InvalidBlock" A.EInvalidBlock
  e_InvalidOperation : ExcF K mg "InvalidOperation" A.EInvalidOperation
  e_InvalidNumber : ExIT K mg "InvalidNumber" A.EInvalidNumber A.InvalidNumber_init
  n_InvalidNumbergiven : PySem.W.findIn K (.ref A.EInvalidNumber) "given" = some none
  e_TooMany : ExIT K mg "TooMany" A.ETooMany A.TooMany_init
  n_TooManylimit : PySem.W.findIn K (.ref A.ETooMany) "limit" = some none
  m_InvalidDisk_InvalidBlock : PySem.W.exmOne K (.ref A.EInvalidDisk) (.ref A.EInvalidBlock) = some false
  m_InvalidDisk_InvalidDisk : PySem.W.exmOne K (.ref A.EInvalidDisk) (.ref A.EInvalidDisk) = some true
  m_InvalidDisk_InvalidNumber : PySem.W.exmOne K (.ref A.EInvalidDisk) (.ref A.EInvalidNumber) = some false
  m_InvalidDisk_InvalidOperation : PySem.W.exmOne K (.ref A.EInvalidDisk) (.ref A.EInvalidOperation) = some false
  m_InvalidDisk_TooMany : PySem.W.exmOne K (.ref A.EInvalidDisk) (.ref A.ETooMany) = some false
  m_InvalidBlock_InvalidBlock : PySem.W.exmOne K (.ref A.EInvalidBlock) (.ref A.EInvalidBlock) = some true
  m_InvalidBlock_InvalidDisk : PySem.W.exmOne K (.ref A.EInvalidBlock) (.ref A.EInvalidDisk) = some false
  m_InvalidBlock_InvalidNumber : PySem.W.exmOne K (.ref A.EInvalidBlock) (.ref A.EInvalidNumber) = some false
  m_InvalidBlock_InvalidOperation : PySem.W.exmOne K (.ref A.EInvalidBlock) (.ref A.EInvalidOperation) = some false
  m_InvalidBlock_TooMany : PySem.W.exmOne K (.ref A.EInvalidBlock) (.ref A.ETooMany) = some false
  m_InvalidOperation_InvalidBlock : PySem.W.exmOne K (.ref A.EInvalidOperation) (.ref A.EInvalidBlock) = some false
  m_InvalidOperation_InvalidDisk : PySem.W.exmOne K (.ref A.EInvalidOperation) (.ref A.EInvalidDisk) = some false
  m_InvalidOperation_InvalidNumber : PySem.W.exmOne K (.ref A.EInvalidOperation) (.ref A.EInvalidNumber) = some false
  m_InvalidOperation_InvalidOperation : PySem.W.exmOne K (.ref A.EInvalidOperation) (.ref A.EInvalidOperation) = some true
  m_InvalidOperation_TooMany : PySem.W.exmOne K (.ref A.EInvalidOperation) (.ref A.ETooMany) = some false
  m_InvalidNumber_InvalidBlock : PySem.W.exmOne K (.ref A.EInvalidNumber) (.ref A.EInvalidBlock) = some false
  m_InvalidNumber_InvalidDisk : PySem.W.exmOne K (.ref A.EInvalidNumber) (.ref A.EInvalidDisk) = some false
  m_InvalidNumber_InvalidNumber : PySem.W.exmOne K (.ref A.EInvalidNumber) (.ref A.EInvalidNumber) = some true
  m_InvalidNumber_InvalidOperation : PySem.W.exmOne K (.ref A.EInvalidNumber) (.ref A.EInvalidOperation) = some false
  m_InvalidNumber_TooMany : PySem.W.exmOne K (.ref A.EInvalidNumber) (.ref A.ETooMany) = some false
  m_TooMany_InvalidBlock : PySem.W.exmOne K (.ref A.ETooMany) (.ref A.EInvalidBlock) = some false
  m_TooMany_InvalidDisk : PySem.W.exmOne K (.ref A.ETooMany) (.ref A.EInvalidDisk) = some false
  m_TooMany_InvalidNumber : PySem.W.exmOne K (.ref A.ETooMany) (.ref A.EInvalidNumber) = some false
  m_TooMany_InvalidOperation : PySem.W.exmOne K (.ref A.ETooMany) (.ref A.EInvalidOperation) = some false
  m_TooMany_TooMany : PySem.W.exmOne K (.ref A.ETooMany) (.ref A.ETooMany) = some true
  nst_InvalidDisk : PySem.W.subIn K (.ref A.EInvalidDisk) (.type "StopIteration") = some false
  nst_InvalidBlock : PySem.W.subIn K (.ref A.EInvalidBlock) (.type "StopIteration") = some false
  nst_InvalidOperation : PySem.W.subIn K (.ref A.EInvalidOperation) (.type "StopIteration") = some false
  nst_InvalidNumber : PySem.W.subIn K (.ref A.EInvalidNumber) (.type "StopIteration") = some false
  nst_TooMany : PySem.W.subIn K (.ref A.ETooMany) (.type "StopIteration") = some false
/-! ### values as data -/
inductive D where
  | non | bl (b : Bool) | int (i : Int) | str (s : Str) | tup (ds : List D) | oth
/-- an own class whose instances are of none of the built-in kinds that are asked for -/
structure InsC (K : PySem.W.Frag) (C : Addr) : Prop where
  cl : Cls K C
  ob : ObjC K C
  i : PySem.W.kitOne K (.ref C) (.type "int") = some false
  b : PySem.W.kitOne K (.ref C) (.type "bool") = some false
  s : PySem.W.kitOne K (.ref C) (.type "str") = some false
  t : PySem.W.kitOne K (.ref C) (.type "tuple") = some false
mutual
inductive Rp (K : PySem.W.Frag) (H : Hp) : V → D → Prop where
  | non : Rp K H .non .non
  | bl (b : Bool) : Rp K H (.bl b) (.bl b)
  | int (i : Int) : Rp K H (.int i) (.int i)
  | str (s : Str) : Rp K H (.str s) (.str s)
  | tup {a : Addr} {xs : List V} {ds : List D} : SqT K H a xs → RpAll K H xs ds → Rp K H (.ref a) (.tup ds)
  | lst {a : Addr} {xs : List V} : H a = some (.lst xs) → Rp K H (.ref a) .oth
  | dct {a : Addr} {kvs : List (Key × V)} : H a = some (.dK kvs) → Rp K H (.ref a) .oth
  | ins {a C dx : Addr} {fs : List (Str × V)} : H a = some (.ins C dx fs) → InsC K C → Rp K H (.ref a) .oth
inductive RpAll (K : PySem.W.Frag) (H : Hp) : List V → List D → Prop where
  | nil : RpAll K H [] []
  | cons {v : V} {vs : List V} {d : D} {ds : List D} : Rp K H v d → RpAll K H vs ds → RpAll K H (v :: vs) (d :: ds)
end
section
variable {K : PySem.W.Frag} {H H' : Hp}
mutual
theorem Rp.ex {v : V} {d : D} (e : Ex H H') : Rp K H v d → Rp K H' v d
  | .non => .non
  | .bl b => .bl b
  | .int i => .int i
  | .str s => .str s
  | .tup h r => .tup (ex_t e h) (RpAll.ex e r)
  | .lst h => .lst (e _ _ h)
  | .dct h => .dct (e _ _ h)
  | .ins h i => .ins (e _ _ h) i
theorem RpAll.ex {vs : List V} {ds : List D} (e : Ex H H') : RpAll K H vs ds → RpAll K H' vs ds
  | .nil => .nil
  | .cons h r => .cons (Rp.ex e h) (RpAll.ex e r)
end
theorem RpAll.len {vs : List V} {ds : List D} : RpAll K H vs ds → vs.length = ds.length
  | .nil => rfl
  | .cons _ r => by rw [List.length_cons, List.length_cons, RpAll.len r]
theorem RpAll.inv {v : V} {vs : List V} {ds : List D} (h : RpAll K H (v :: vs) ds) : ∃ d es, ds = d :: es ∧ Rp K H v d ∧ RpAll K H vs es := by
  cases h with
  | cons h r => exact ⟨_, _, rfl, h, r⟩
theorem RpAll.get : ∀ (vs : List V) (ds : List D) (i : Nat) (v : V), RpAll K H vs ds → vs[i]? = some v → ∃ d, ds[i]? = some d ∧ Rp K H v d
  | [], _, _, _, _, h => by simp at h
  | u :: us, ds, 0, v, h, e => by
    have e' := Option.some.inj e
    subst e'
    obtain ⟨d, es, rfl, h1, _⟩ := h.inv
    exact ⟨d, rfl, h1⟩
  | u :: us, ds, i + 1, v, h, e => by
    obtain ⟨d, es, rfl, _, h2⟩ := h.inv
    obtain ⟨c, h3, h4⟩ := RpAll.get us es i v h2 (by simpa using e)
    exact ⟨c, by simpa using h3, h4⟩
theorem RpAll.app {vs ws : List V} {ds es : List D} : RpAll K H vs ds → RpAll K H ws es → RpAll K H (vs ++ ws) (ds ++ es)
  | .nil, s => s
  | .cons h r, s => .cons h (RpAll.app r s)
/-! ### kinds -/
def D.isInt : D → Bool
  | .int _ => true | .bl _ => true | _ => false
def D.isBl : D → Bool
  | .bl _ => true | _ => false
def D.isStr : D → Bool
  | .str _ => true | _ => false
def D.isTup : D → Bool
  | .tup _ => true | _ => false
theorem ty_tup {a : Addr} {xs : List V} (h : SqT K H a xs) : TyX K H (.ref a) (.type "tuple") := by
  rcases h with (h | ⟨o, h⟩) | ⟨o, its, n, lk, c, _⟩
  · exact .base (.tup h)
  · exact .fTuple h
  · exact .kTuple lk c
theorem rc_isi {n : String} {f : D → Bool} (hn : kitB "NoneType" n = some (f .non)) (hb : ∀ b, kitB "bool" n = some (f (.bl b))) (hi : ∀ i, kitB "int" n = some (f (.int i))) (hs : ∀ s, kitB "str" n = some (f (.str s)))
    (ht : ∀ ds, kitB "tuple" n = some (f (.tup ds))) (hl : kitB "list" n = some (f .oth)) (hd : kitB "dict" n = some (f .oth))
    (hI : ∀ C, InsC K C → PySem.W.kitOne K (.ref C) (.type n) = some (f .oth))
    {x : V} {d : D} (h : Rp K H x d) : RC (rIsi K) [x, .ty n] H (.bl (f d)) := fun H1 e Q q => by
  have h1 := Rp.ex e h
  cases h1 with
  | non => exact ⟨_, _, _, _, _, rfl, .ty _, .base .non, kit_ty hn, q H1 (Ex.refl _)⟩
  | bl b => exact ⟨_, _, _, _, _, rfl, .ty _, .base (.bl _), kit_ty (hb b), q H1 (Ex.refl _)⟩
  | int i => exact ⟨_, _, _, _, _, rfl, .ty _, .base (.int _), kit_ty (hi i), q H1 (Ex.refl _)⟩
  | str s => exact ⟨_, _, _, _, _, rfl, .ty _, .base (.str _), kit_ty (hs s), q H1 (Ex.refl _)⟩
  | tup h2 _ => exact ⟨_, _, _, _, _, rfl, .ty _, ty_tup h2, kit_ty (ht _), q H1 (Ex.refl _)⟩
  | lst h2 => exact ⟨_, _, _, _, _, rfl, .ty _, .base (.lst h2), kit_ty hl, q H1 (Ex.refl _)⟩
  | dct h2 => exact ⟨_, _, _, _, _, rfl, .ty _, .base (.dK h2), kit_ty hd, q H1 (Ex.refl _)⟩
  | ins h2 j => exact ⟨_, _, _, _, _, rfl, .ty _, .base (.ins h2 j.cl j.ob.ca j.ob.cg j.ob.ct j.ob.co), hI _ j, q H1 (Ex.refl _)⟩
theorem rc_int {x : V} {d : D} (h : Rp K H x d) : RC (rIsi K) [x, .ty "int"] H (.bl d.isInt) :=
  rc_isi (f := D.isInt) (show kitB "NoneType" "int" = some false by decide +kernel) (fun _ => show kitB "bool" "int" = some true by decide +kernel) (fun _ => show kitB "int" "int" = some true by decide +kernel) (fun _ => show kitB "str" "int" = some false by decide +kernel)
    (fun _ => show kitB "tuple" "int" = some false by decide +kernel) (show kitB "list" "int" = some false by decide +kernel) (show kitB "dict" "int" = some false by decide +kernel)
    (fun _ j => j.i)
    h
theorem rc_bool {x : V} {d : D} (h : Rp K H x d) : RC (rIsi K) [x, .ty "bool"] H (.bl d.isBl) :=
  rc_isi (f := D.isBl) (show kitB "NoneType" "bool" = some false by decide +kernel) (fun _ => show kitB "bool" "bool" = some true by decide +kernel) (fun _ => show kitB "int" "bool" = some false by decide +kernel) (fun _ => show kitB "str" "bool" = some false by decide +kernel)
    (fun _ => show kitB "tuple" "bool" = some false by decide +kernel) (show kitB "list" "bool" = some false by decide +kernel) (show kitB "dict" "bool" = some false by decide +kernel)
    (fun _ j => j.b)
    h
theorem rc_str {x : V} {d : D} (h : Rp K H x d) : RC (rIsi K) [x, .ty "str"] H (.bl d.isStr) :=
  rc_isi (f := D.isStr) (show kitB "NoneType" "str" = some false by decide +kernel) (fun _ => show kitB "bool" "str" = some false by decide +kernel) (fun _ => show kitB "int" "str" = some false by decide +kernel) (fun _ => show kitB "str" "str" = some true by decide +kernel)
    (fun _ => show kitB "tuple" "str" = some false by decide +kernel) (show kitB "list" "str" = some false by decide +kernel) (show kitB "dict" "str" = some false by decide +kernel)
    (fun _ j => j.s)
    h
theorem rc_tup {x : V} {d : D} (h : Rp K H x d) : RC (rIsi K) [x, .ty "tuple"] H (.bl d.isTup) :=
  rc_isi (f := D.isTup) (show kitB "NoneType" "tuple" = some false by decide +kernel) (fun _ => show kitB "bool" "tuple" = some false by decide +kernel) (fun _ => show kitB "int" "tuple" = some false by decide +kernel) (fun _ => show kitB "str" "tuple" = some false by decide +kernel)
    (fun _ => show kitB "tuple" "tuple" = some true by decide +kernel) (show kitB "list" "tuple" = some false by decide +kernel) (show kitB "dict" "tuple" = some false by decide +kernel)
    (fun _ j => j.t)
    h
theorem Rp.isI {x : V} {d : D} (h : Rp K H x d) (h1 : d.isInt = true) (h2 : d.isBl = false) : ∃ i, d = .int i ∧ x = .int i := by
  cases h <;> first | exact ⟨_, rfl, rfl⟩ | (simp [D.isInt] at h1; done) | (simp [D.isBl] at h2; done)
theorem Rp.isS {x : V} {d : D} (h : Rp K H x d) (h1 : d.isStr = true) : ∃ s, d = .str s ∧ x = .str s := by
  cases h <;> first | exact ⟨_, rfl, rfl⟩ | cases h1
theorem Rp.isT {x : V} {d : D} (h : Rp K H x d) (h1 : d.isTup = true) : ∃ a xs ds, d = .tup ds ∧ x = .ref a ∧ SqT K H a xs ∧ RpAll K H xs ds := by
  cases h <;> first | exact ⟨_, _, _, rfl, rfl, by assumption, by assumption⟩ | cases h1
end
/-! ### the promises of pure judges -/
def sp1 (f : D → Bool) (K : PySem.W.Frag) : Sp := fun vs H Q _ => ∃ x d, vs = [x] ∧ Rp K H x d ∧ RetV (.bl (f d)) H Q
theorem sp1_len {f : D → Bool} {K : PySem.W.Frag} {vs : List V} {H : Hp} {Q : VK} {E : XK} (h : sp1 f K vs H Q E) : vs.length = 1 := by
  obtain ⟨x, d, rfl, _⟩ := h
  rfl
theorem sv1 {f : D → Bool} {K : PySem.W.Frag} {H : Hp} {x : V} {d : D} (h : Rp K H x d) : SpV (sp1 f K) [x] H (.bl (f d)) := fun H1 e Q q E => ⟨x, d, rfl, h.ex e, q⟩
abbrev big : Int := 10 ^ 60 - 1
def numB (i : Int) : Bool := decide (-big ≤ i) && decide (i ≤ big)
def D.num : D → Bool
  | .int i => numB i | _ => false
section
variable {P : Program} {w : World} {K : PySem.W.Frag} {mg : Str → Option Value} {base : Heap} {A : Ad} {D : Fd}
abbrev sp_is_number (K : PySem.W.Frag) : Sp := sp1 K0.D.num K
theorem len_is_number {vs : List V} {H : Hp} {Q : VK} {E : XK} (h : sp_is_number K vs H Q E) : vs.length = 1 := sp1_len h
/-- a chain a <= b <= c of ints -/
theorem ev_chain_le {σ : L2.St} {H : Hp} {ta tb tc : TE} {i j k : Int} (ha : Ev ta σ H (.int i)) (hb : Ev tb σ H (.int j)) (hc : Ev tc σ H (.int k)) :
    Ev (tChain (rI0 fun i j => .bl (decide (i ≤ j))) (rI0 fun i j => .bl (decide (i ≤ j))) ta tb tc) σ H (.bl (decide (i ≤ j) && decide (j ≤ k))) := fun H1 e Q q =>
  ha H1 e _ fun H2 e2 => hb H2 (e.trans e2) _ fun H3 e3 => ⟨i, j, rfl, rfl, _, rfl, by
    by_cases c : i ≤ j
    · rw [if_pos (decide_eq_true c)]
      refine hc H3 ((e.trans e2).trans e3) _ fun H4 e4 => ⟨j, k, rfl, rfl, ?_⟩
      have := q H4 ((e2.trans e3).trans e4)
      rw [decide_eq_true c, Bool.true_and] at this
      exact this
    · rw [if_neg (by rw [decide_eq_false c]; decide)]
      have := q H3 (e2.trans e3)
      rw [decide_eq_false c, Bool.false_and] at this
      exact this⟩
theorem ok_is_number (T : Txt K mg A D) : FnOk P w K mg base CX0 1 A.is_number D.is_number ["value"] (sp_is_number K) := by
  obtain ⟨t_MAX_NUMBER, c_MAX_NUMBER⟩ := T.c_MAX_NUMBER
  refine T.F_is_number.ok sc_is_number (fun vs H Q E h => len_is_number h) (fun cdv A0 outer s H vs Q E hr h => ?_)
  refine ⟨_, (pss_cons (ps_if (PW.pt (pw_or (pt_not (pt_val (pe_callB call_isi (by rfl) T.b_isinstance (by decide +kernel) (pa_cons (pv 0) (pa_cons (pe_bltn (v := .ty "int") (u := .type "int") (by rfl) T.b_int (by decide +kernel) rfl) pa_nil))))) (pw_or1 (pt_val (pe_callB call_isi (by rfl) T.b_isinstance (by decide +kernel) (pa_cons (pv 0) (pa_cons (pe_bltn (v := .ty "bool") (u := .type "bool") (by rfl) T.b_bool (by decide +kernel) rfl) pa_nil))))))) (pss_one (ps_ret pe_bl)) pss_nil)
  (pss_one (ps_ret (pe_chain op_le op_le (pe_un un_neg (pe_glob (v := .int (999999999999999999999999999999999999999999999999999999999999)) rfl c_MAX_NUMBER ⟨_, rfl⟩)) (pv 0) (pe_glob (v := .int (999999999999999999999999999999999999999999999999999999999999)) rfl c_MAX_NUMBER ⟨_, rfl⟩))))), ?_⟩
  obtain ⟨x, d, rfl, hx, k⟩ := h
  refine q_when (et_or (et_not (et_B (ev_cb (ea_cons (ev_var rfl) (ea_cons ev_c ea_nil)) (rc_int hx)))) fun _ => et_B (ev_cb (ea_cons (ev_var rfl) (ea_cons ev_c ea_nil)) (rc_bool hx))) (fun hb H1 e1 => ?_) (fun hb H1 e1 => ?_)
  · refine s_ret ev_c fun H2 e2 => ?_
    have hf : K0.D.num d = false := by cases d <;> first | rfl | simp [K0.D.isInt, K0.D.isBl] at hb
    have := k H2 (e1.trans e2)
    rw [hf] at this
    exact this
  · have h1 : K0.D.isInt d = true := by cases z : K0.D.isInt d <;> rw [z] at hb <;> simp at hb <;> rfl
    have h2 : K0.D.isBl d = false := by cases z : K0.D.isBl d <;> rw [z] at hb <;> simp at hb <;> rfl
    obtain ⟨i, rfl, rfl⟩ := hx.isI h1 h2
    refine s_ret (ev_chain_le (i := -big) (j := i) (k := big) (ev_un ev_c ru_neg) (ev_var rfl) ev_c) fun H2 e2 => ?_
    exact k H2 (e1.trans e2)
end
end K0

namespace K0
open PySem L2 Evl
open PySem.Builtin.Str (strSub)
/-! ### texts -/
theorem takeWhile_le {α : Type} (p : α → Bool) : ∀ l : List α, (l.takeWhile p).length ≤ l.length
  | [] => Nat.le_refl _
  | a :: l => by
    rw [List.takeWhile_cons]
    split
    · simp only [List.length_cons]
      have := takeWhile_le p l
      omega
    · simp
theorem takeWhile_all {α : Type} (p : α → Bool) : ∀ l : List α, (l.takeWhile p).length = l.length → l.all p = true
  | [], _ => rfl
  | a :: l, h => by
    rw [List.takeWhile_cons] at h
    split at h
    · rename_i ha
      simp only [List.length_cons] at h
      rw [List.all_cons, ha, takeWhile_all p l (by omega)]
      rfl
    · simp at h
theorem all_takeWhile {α : Type} (p : α → Bool) : ∀ l : List α, l.all p = true → l.takeWhile p = l
  | [], _ => rfl
  | a :: l, h => by
    rw [List.all_cons, Bool.and_eq_true] at h
    rw [List.takeWhile_cons, if_pos h.1, all_takeWhile p l h.2]
theorem drop_takeWhile {α : Type} (p : α → Bool) : ∀ l : List α, (l.drop (l.takeWhile p).length).all p = true → l.all p = true
  | [], _ => rfl
  | a :: l, h => by
    rw [List.takeWhile_cons] at h
    split at h
    · rename_i ha
      rw [List.all_cons, ha, drop_takeWhile p l (by simpa using h)]
      rfl
    · simpa using h
theorem str_nil {x : Str} : x = ("" : Str) ↔ x.cps.toList.length = 0 := by
  constructor
  · intro h
    subst h
    decide +kernel
  · intro h
    obtain ⟨⟨l⟩⟩ := x
    cases l with
    | nil => decide +kernel
    | cons a l => simp at h
theorem strip_all (x y : Str) : decide (V.str (Txt.stripChars x y) = V.str "") = x.cps.toList.all y.cps.contains := by
  have key : (Txt.stripChars x y = ("" : Str)) ↔ x.cps.toList.all y.cps.contains = true := by
    unfold Txt.stripChars
    rw [PySem.W.stripBy_eq]
    show strSub x (stripLo y.cps.contains true x) (stripHi y.cps.contains true x (stripLo y.cps.contains true x)) = ("" : Str) ↔ _
    rw [str_nil]
    have e1 : stripLo y.cps.contains true x = (x.cps.toList.takeWhile y.cps.contains).length := rfl
    have e2 : stripHi y.cps.contains true x (stripLo y.cps.contains true x) = x.cps.toList.length - ((x.cps.toList.drop (stripLo y.cps.contains true x)).reverse.takeWhile y.cps.contains).length := by
      show x.cps.size - _ = _
      rw [Array.length_toList] <;> rfl
    have e3 : (strSub x (stripLo y.cps.contains true x) (stripHi y.cps.contains true x (stripLo y.cps.contains true x))).cps.toList.length = min (stripHi y.cps.contains true x (stripLo y.cps.contains true x)) x.cps.toList.length - stripLo y.cps.contains true x := by
      show (x.cps.extract _ _).toList.length = _
      rw [Array.length_toList, Array.size_extract, Array.length_toList]
    rw [e3, e2, e1]
    generalize x.cps.toList = l
    generalize y.cps.contains = p
    have h1 := takeWhile_le p l
    have h2 := takeWhile_le p (l.drop (l.takeWhile p).length).reverse
    rw [List.length_reverse, List.length_drop] at h2
    constructor
    · intro h
      have h3 : ((l.drop (l.takeWhile p).length).reverse.takeWhile p).length = (l.drop (l.takeWhile p).length).reverse.length := by
        rw [List.length_reverse, List.length_drop]
        omega
      have h4 := takeWhile_all p _ h3
      rw [List.all_reverse] at h4
      exact drop_takeWhile p l h4
    · intro h
      have h3 := all_takeWhile p l h
      rw [h3, List.drop_length]
      simp
  by_cases c : x.cps.toList.all y.cps.contains = true
  · rw [c]
    exact decide_eq_true (congrArg V.str (key.mpr c))
  · rw [Bool.not_eq_true] at c
    rw [c]
    refine decide_eq_false fun q => ?_
    have := key.mp (V.str.inj q)
    rw [c] at this
    cases this
/-! ### more of what evaluates to what -/
section
variable {K : PySem.W.Frag} {σ : L2.St} {H H' : Hp} {ta tb te tx : TE} {t u : TT} {x y z v : V}
/-- a tuple with these items, new or not -/
def EvW (K : PySem.W.Frag) (te : TE) (σ : L2.St) (H : Hp) (xs : List V) : Prop := ∀ H1, Ex H H1 → ∀ Q : VK, (∀ p H2, Ex H1 H2 → SqT K H2 p xs → Q (.ref p) H2) → te σ H1 Q
theorem ew_sl {tl th : TO} {a : Addr} {xs : List V} {lo hi : Option Int} (h : Ev te σ H (.ref a)) (h1 : EvO tl σ H lo) (h2 : EvO th σ H hi) (hs : SqT K H a xs) : EvW K (tSl (rSlA K) te tl th) σ H (cutV xs lo hi) := fun H1 e Q q =>
  h H1 e _ fun H2 e2 => h1 H2 (e.trans e2) _ fun H3 e3 => h2 H3 ((e.trans e2).trans e3) _ fun H4 e4 => by
    have hx := ex_t (((e.trans e2).trans e3).trans e4) hs
    refine ⟨a, xs, rfl, hx, fun hw => ?_, fun _ p hp => ?_⟩
    · refine q a H4 ((e2.trans e3).trans e4) ?_
      have : cutV xs lo hi = xs := by
        unfold cutV
        rw [hw.1, hw.2]
        simp
      rw [this]
      exact hx
    · exact q p _ (((e2.trans e3).trans e4).trans (Ex.new hp)) (st_of upd_same)
/-- comprehensions over a tuple, over zip of two tuples -/
theorem el_lcT {a : Addr} {xs : List V} {tl : TE} {j : Nat} {vs : List Nat} (f : Nat → Bool) (v : Nat → V) (h : Ev tl σ H (.ref a)) (hx : SqT K H a xs) (hz : xs.length ≤ 40000) (hw : ∀ x, wipe ((wipe σ vs).set j (some x)) vs = wipe σ vs)
    (ht : ∀ (i : Nat) (x : V) H1, Ex H H1 → xs[i]? = some x → EvT t ((wipe σ vs).set j (some x)) H1 (f i)) (he : ∀ (i : Nat) (x : V) H1, Ex H H1 → xs[i]? = some x → f i = true → Ev te ((wipe σ vs).set j (some x)) H1 (v i)) :
    EvL (tLc (iTup K tl) (gName j) t te vs) σ H (given xs.length f v) := fun H0 e Q q => h H0 e _ fun H1 e1 => ⟨a, rfl, ⟨xs, ex_t (e.trans e1) hx⟩, fun Dl hD =>
  lc_tup (xs := xs) (Cw H1 f v Dl) ⟨hD, Ex.new hD, upd_same⟩ (fun i H' _ p => ex_t ((e.trans e1).trans p.2.1) hx)
    (fun i x H' hi p => ⟨hw x, cw_turn p (by have := (List.getElem?_eq_some_iff.mp hi).1; omega) (ht i x H1 (e.trans e1) hi) (fun hf => he i x H1 (e.trans e1) hi hf)⟩)
    (fun H' p => q Dl H' (fresh_back e1 p.1) (e1.trans p.2.1) p.2.2)⟩
theorem walk_zipT {a b : Addr} {xs ys : List V} {n : Nat} (hn : n = min xs.length ys.length) : Walk (RZ.ItzT K a b) n (fun H => SqT K H a xs ∧ SqT K H b ys) (YPair (fun i => xs[i]?) (fun i => ys[i]?)) := by
  subst hn
  refine ⟨fun i _ hi g => ?_, fun _ g => ⟨xs, ys, g.1, g.2, by omega⟩, fun i H v H' _ g yy => ?_⟩
  · have l1 : i < xs.length := by omega
    have l2 : i < ys.length := by omega
    exact ⟨xs, ys, xs[i], ys[i], g.1, g.2, List.getElem?_eq_getElem l1, List.getElem?_eq_getElem l2⟩
  · obtain ⟨T, x, z, e1, e2, e3, e4, e5⟩ := yy
    exact ⟨T, x, z, e1, e2, e3, e4 xs g.1, e5 ys g.2⟩
theorem given_map {n : Nat} {f : Nat → Bool} {v : Nat → V} (hf : ∀ i, f i = true) : given n f v = (List.range n).map v := by
  unfold given
  rw [List.filter_eq_self.mpr (fun a _ => hf a)]
theorem rc_all {a : Addr} {bs : List Bool} (h : SqL K H a (bs.map V.bl)) : RC (rAll K) [.ref a] H (.bl (bs.all id)) := fun H1 e Q q => ⟨a, bs, rfl, ex_l e h, q H1 (Ex.refl _)⟩
/-- all([..]) of a new list of truths -/
theorem ev_all {bs : List Bool} (h : EvL te σ H (bs.map V.bl)) : Ev (tCB (rAll K) (tCons te tNil)) σ H (.bl (bs.all id)) := fun H1 e Q q =>
  h H1 e _ fun p H2 _ e2 h2 => ⟨p, bs, rfl, sq_of h2, q H2 e2⟩
theorem et_yes : EvT tYes σ H true := fun H1 _ _ q => q H1 (Ex.refl _)
end
end K0

namespace K0
open PySem L2 Evl
section
variable {K : PySem.W.Frag} {σ : L2.St} {H H' : Hp} {ta tb te tx : TE} {t u : TT} {x y z v : V}
theorem ev_chain_of {σ : L2.St} {H : Hp} {ta tb tc : TE} {r r' : R2} {x y z : V} {a b : Bool} (ha : Ev ta σ H x) (hb : Ev tb σ H y) (hr : RV r x y H (.bl a)) (hc : Ev tc σ H z) (hr' : RV r' y z H (.bl b)) :
    Ev (tChain r r' ta tb tc) σ H (.bl (a && b)) := fun H1 e Q q =>
  ha H1 e _ fun H2 e2 => hb H2 (e.trans e2) _ fun H3 e3 => hr H3 ((e.trans e2).trans e3) _ fun H4 e4 => ⟨a, rfl, by
    cases a with
    | true => exact hc H4 (((e.trans e2).trans e3).trans e4) _ fun H5 e5 => hr' H5 ((((e.trans e2).trans e3).trans e4).trans e5) Q fun H6 e6 => q H6 ((((e2.trans e3).trans e4).trans e5).trans e6)
    | false => exact q H4 ((e2.trans e3).trans e4)⟩
theorem ev_one (h : Ev te σ H v) : Ev te σ H v := h
theorem rc_lenT {a : Addr} {xs : List V} (h : SqT K H a xs) : RC (fun xs H Q => ∃ x n, xs = [x] ∧ LenV K x H n ∧ Q (.int n) H) [.ref a] H (.int (xs.length : Nat)) := fun H1 e Q q =>
  ⟨_, xs.length, rfl, Or.inr ⟨xs, ex_t e h, rfl⟩, q H1 (Ex.refl _)⟩
theorem rc_lenL {a : Addr} {xs : List V} (h : SqL K H a xs) : RC (fun xs H Q => ∃ x n, xs = [x] ∧ LenV K x H n ∧ Q (.int n) H) [.ref a] H (.int (xs.length : Nat)) := fun H1 e Q q =>
  ⟨_, xs.length, rfl, Or.inl ⟨xs, ex_l e h, rfl⟩, q H1 (Ex.refl _)⟩
theorem rc_lenS {s : Str} (h : s.length ≤ sizeLine) : RC (fun xs H Q => ∃ x n, xs = [x] ∧ LenV K x H n ∧ Q (.int n) H) [.str s] H (.int (s.length : Nat)) := fun H1 e Q q =>
  ⟨_, s.length, rfl, ⟨h, rfl⟩, q H1 (Ex.refl _)⟩
/-- a comprehension over zip of two tuples, no test -/
theorem el_lcZ {a : Addr} {xs ys : List V} {t1 t2 : TE} {g : TG} {vs : List Nat} {n : Nat} (v : Nat → V) (h1 : Ev t1 σ H (.ref a)) (hx : SqT K H a xs) (h2 : EvW K t2 σ H ys) (hn : n = min xs.length ys.length) (hz : n ≤ 40000)
    (hg : ∀ i x y T H', xs[i]? = some x → ys[i]? = some y → H' T = some (.tup [x, y]) → ∃ σ2, (∀ k : L2.St → Hp → Prop, k σ2 H' → g (.ref T) (wipe σ vs) H' k) ∧ wipe σ2 vs = wipe σ vs ∧ Ev te σ2 H (v i)) :
    EvL (tLc (RZ.iZipA K (tCons t1 (tCons t2 tNil))) g tYes te vs) σ H ((List.range n).map v) := fun H0 e Q q =>
  h1 H0 e _ fun H1 e1 => h2 H1 (e.trans e1) _ fun b H2 e2 hy => ⟨a, b, xs, ys, rfl, Or.inr ⟨ex_t ((e.trans e1).trans e2) hx, hy, fun Dl hD => by
    have e02 := (e.trans e1).trans e2
    refine lc_it (walk_zipT hn) (Cw H2 (fun _ => true) v Dl) ⟨hD, Ex.new hD, upd_same⟩ (fun i H' _ p => ⟨ex_t p.2.1 (ex_t e02 hx), ex_t p.2.1 hy⟩) (fun i w H' H'' hi p yp => ?_) (fun H' p => ?_)
    · obtain ⟨T, x, y, rfl, hT, rfl, ex, ey⟩ := yp
      obtain ⟨σ2, k1, k2, k3⟩ := hg i x y T (upd H' T (.tup [x, y])) ex ey upd_same
      have hne : Dl ≠ T := ne_of_none p.2.2 hT
      have p' : Cw H2 (fun _ => true) v Dl i (upd H' T (.tup [x, y])) := ⟨p.1, p.2.1.trans (Ex.new hT), by rw [upd_ne hne]; exact p.2.2⟩
      exact k1 _ ⟨k2, cw_turn p' (by omega) et_yes (fun _ => k3.mono e02)⟩
    · have := p.2.2
      rw [given_map (fun _ => rfl)] at this
      exact q Dl H' (fresh_back (e1.trans e2) p.1) ((e1.trans e2).trans p.2.1) this⟩⟩
theorem rv_le {i j : Int} : RV (rI0 fun i j => .bl (decide (i ≤ j))) (.int i) (.int j) H (.bl (decide (i ≤ j))) := rv_I0
theorem rv_lt {i j : Int} : RV (rI0 fun i j => .bl (decide (i < j))) (.int i) (.int j) H (.bl (decide (i < j))) := rv_I0
theorem rv_isN : RV (fun x y H Q => y = .non ∧ Q (.bl (decide (x = .non))) H) x .non H (.bl (decide (x = .non))) := fun H1 _ _ q => ⟨rfl, q H1 (Ex.refl _)⟩
theorem rc_strip {a b : Str} (h : a.length ≤ sizeLine) : ∀ H1, Ex H H1 → ∀ Q : VK, (∀ H2, Ex H1 H2 → Q (.str (Txt.stripChars a b)) H2) → (fun (x : V) (xs : List V) (H : Hp) (Q : VK) => ∃ a b, x = .str a ∧ xs = [.str b] ∧ a.length ≤ sizeLine ∧ Q (.str (Txt.stripChars a b)) H) (.str a) [.str b] H1 Q :=
  fun H1 _ _ q => ⟨a, b, rfl, rfl, h, q H1 (Ex.refl _)⟩
end
/-! ### the judges of stage 1 as functions of data -/
def D.within (lo hi : Int) : D → Bool
  | .int i => numB i && (decide (lo ≤ i) && decide (i ≤ hi)) | _ => false
def D.toInt : D → Int
  | .int i => i | _ => 0
def ascB : List Int → Bool
  | a :: b :: r => decide (a < b) && ascB (b :: r)
  | _ => true
def D.indices (m : Int) : D → Bool
  | .tup ds => ds.all (D.within 0 (m - 1)) && ascB (ds.map D.toInt) | _ => false
def D.circle : D → Bool
  | .tup ds => D.indices 9 (.tup ds) && (decide (1 ≤ ds.length) && decide (ds.length ≤ 7)) | _ => false
def D.word (signs : Str) (most : Int) : D → Bool
  | .str s => decide ((s.length : Int) ≤ most) && s.cps.toList.all signs.cps.contains | _ => false
def D.nonEmpty : D → Bool
  | .str s => decide (0 < s.length) | _ => false
abbrev letters : Str := "abcdefghijklmnopqrstuvwxyz"
abbrev signs37 : Str := "abcdefghijklmnopqrstuvwxyz0123456789 "
def D.key (d : D) : Bool := d.word letters 8 && d.nonEmpty
def D.short (d : D) : Bool := d.within (-(999999999999)) 999999999999
def D.value (d : D) : Bool := d.short || d.word signs37 12
def D.single : D → Bool
  | .non => true
  | .int i => numB i
  | .str s => D.word signs37 3000 (.str s)
  | _ => false
/-- plain, at most n deep -/
def D.plain : Nat → D → Bool
  | 0, d => d.single
  | n + 1, .tup ds => ds.all (D.plain n)
  | _ + 1, d => d.single
def D.small : D → Prop
  | .tup ds => ds.length ≤ 40000 | _ => True
theorem all_getD (ds : List D) (f : D → Bool) : ((List.range ds.length).all fun i => f (ds.getD i .non)) = ds.all f := by
  induction ds with
  | nil => rfl
  | cons d ds ih =>
    rw [List.length_cons, List.range_succ_eq_map, List.all_cons, List.all_cons, List.all_map, ← ih]
    rfl
theorem ints_of {K : PySem.W.Frag} {H : Hp} {lo hi : Int} : ∀ (xs : List V) (ds : List D), RpAll K H xs ds → ds.all (D.within lo hi) = true → xs = (ds.map D.toInt).map V.int
  | _, _, .nil, _ => rfl
  | _, _, .cons (d := d) h r, e => by
    rw [List.all_cons, Bool.and_eq_true] at e
    rw [List.map_cons, List.map_cons, ← ints_of _ _ r e.2]
    cases h with
    | int i => rfl
    | _ => exact absurd e.1 (by simp [D.within])
section
variable {P : Program} {w : World} {K : PySem.W.Frag} {mg : Str → Option Value} {base : Heap} {A : Ad} {D : Fd}
def sp_is_within (K : PySem.W.Frag) : Sp := fun vs H Q _ => ∃ x d lo hi, vs = [x, .int lo, .int hi] ∧ Rp K H x d ∧ RetV (.bl (d.within lo hi)) H Q
theorem len_is_within {vs : List V} {H : Hp} {Q : VK} {E : XK} (h : sp_is_within K vs H Q E) : vs.length = 3 := by
  obtain ⟨x, d, lo, hi, rfl, _⟩ := h
  rfl
theorem sv_within {H : Hp} {x : V} {d : K0.D} {lo hi : Int} (h : Rp K H x d) : SpV (sp_is_within K) [x, .int lo, .int hi] H (.bl (d.within lo hi)) := fun H1 e Q q E => ⟨x, d, lo, hi, rfl, h.ex e, q⟩
theorem ok_is_within (T : Txt K mg A D) : FnOk P w K mg base CX0 2 A.is_within D.is_within ["value", "least", "most"] (sp_is_within K) := by
  have G_is_number : FnOk P w K mg base CX0 1 A.is_number D.is_number ["value"] (sp_is_number K) := ok_is_number T
  refine T.F_is_within.ok sc_is_within (fun vs H Q E h => len_is_within h) (fun cdv A0 outer s H vs Q E hr h => ?_)
  refine ⟨_, (pss_one (ps_ret (pe_and (pe_call G_is_number (hr.mono (by decide)) rfl T.g_is_number T.F_is_number.kp T.b_is_number .nil pass0 (pa_cons (pv 0) pa_nil)) (pe_one (pe_chain op_le op_le (pv 1) (pv 0) (pv 2)))))), ?_⟩
  obtain ⟨x, d, lo, hi, rfl, hx, k⟩ := h
  refine s_ret (ev_is (ev_andV (a := d.num) (b := d.within lo hi) (ev_call (ea_cons (ev_var rfl) ea_nil) (sv1 hx)) fun hb => ?_) ?_) fun H2 e2 => k H2 e2
  · cases hx with
    | int i =>
      have hb' : numB i = true := hb
      refine ev_is (ev_chain_le (i := lo) (j := i) (k := hi) (ev_var rfl) (ev_var rfl) (ev_var rfl)) ?_
      show V.bl (decide (lo ≤ i) && decide (i ≤ hi)) = V.bl (numB i && (decide (lo ≤ i) && decide (i ≤ hi)))
      rw [hb', Bool.true_and]
    | _ => cases hb
  · cases d with
    | int i =>
      show V.bl (numB i && (numB i && _)) = V.bl (numB i && _)
      cases numB i <;> rfl
    | _ => rfl
/-- row: a tuple of ints -/
def sp_are_ascending (K : PySem.W.Frag) : Sp := fun vs H Q _ => ∃ a ns, vs = [.ref a] ∧ SqT K H a (ns.map V.int) ∧ ns.length ≤ 40000 ∧ RetV (.bl (ascB ns)) H Q
theorem len_are_ascending {vs : List V} {H : Hp} {Q : VK} {E : XK} (h : sp_are_ascending K vs H Q E) : vs.length = 1 := by
  obtain ⟨a, ns, rfl, _⟩ := h
  rfl
theorem sv_asc {H : Hp} {a : Addr} {ns : List Int} (h : SqT K H a (ns.map V.int)) (hl : ns.length ≤ 40000) : SpV (sp_are_ascending K) [.ref a] H (.bl (ascB ns)) := fun H1 e Q q E => ⟨a, ns, rfl, ex_t e h, hl, q⟩
theorem cut1 (xs : List V) : cutV xs (some 1) none = xs.drop 1 := by
  unfold cutV
  have h1 : HT.sIx xs.length 0 (some 1) = min 1 xs.length := HT.sIx_nat _ _ 1
  have h2 : HT.sIx xs.length xs.length none = xs.length := rfl
  rw [h1, h2]
  cases xs with
  | nil => rfl
  | cons x xs =>
    have : min 1 (x :: xs).length = 1 := by simp
    rw [this]
    exact List.take_of_length_le (by simp)
theorem asc_all : ∀ ns : List Int, ((List.range (ns.length - 1)).map fun i => decide (ns.getD i 0 < ns.getD (i + 1) 0)).all id = ascB ns
  | [] => rfl
  | [a] => rfl
  | a :: b :: r => by
    have ih := asc_all (b :: r)
    have e1 : (a :: b :: r).length - 1 = ((b :: r).length - 1) + 1 := by simp
    rw [e1, List.range_succ_eq_map, List.map_cons, List.all_cons, List.map_map]
    show (decide (a < b) && _) = (decide (a < b) && ascB (b :: r))
    rw [← ih]
    rfl
theorem ok_are_ascending (T : Txt K mg A D) : FnOk P w K mg base CX0 1 A.are_ascending D.are_ascending ["row"] (sp_are_ascending K) := by
  refine T.F_are_ascending.ok sc_are_ascending (fun vs H Q E h => len_are_ascending h) (fun cdv A0 outer s H vs Q E hr h => ?_)
  refine ⟨_, (pss_one (ps_ret (pe_callB (cr_all rfl) (by rfl) T.b_all (by decide +kernel) (pa_cons (pe_lc (own := [("one", 1), ("other", 2)]) (g := gTup K 2 (gCons (gName 1) (gCons (gName 2) gNil))) (tt := tYes) rfl sc_are_ascending.nd (RZ.pi_zipA (by rfl) T.b_zip (pa_cons (pv 0) (pa_cons (pe_slice sl_tupA (pv 0) (po_some pe_int) po_none) pa_nil))) (blkOk_by (own := [("one", 1), ("other", 2)]) (N := N_are_ascending) (sc := defScope s_are_ascending) (by decide +kernel)) (fun _ _ _ _ _ => by exact (pg_tup rfl (pgs_cons (pg_name (i := 1) sc_are_ascending.nd rfl (Or.inl rfl)) (pgs_cons (pg_name (i := 2) sc_are_ascending.nd rfl (Or.inl rfl)) pgs_nil)))) (fun _ _ _ _ _ => by exact pts_nil) (fun _ _ _ _ _ => by exact (pe_cmpR op_lt (pv 1) (pv 2) (nomark _)))) pa_nil)))), ?_⟩
  obtain ⟨a, ns, rfl, ha, hl, k⟩ := h
  refine s_ret (ev_is (ev_all (bs := (List.range (ns.length - 1)).map fun i => decide (ns.getD i 0 < ns.getD (i + 1) 0)) ?_) (congrArg V.bl (asc_all ns))) fun H2 e2 => k H2 e2
  rw [List.map_map]
  refine el_lcZ (ys := (ns.map V.int).drop 1) _ (ev_var rfl) ha ?_ (by rw [List.length_drop, List.length_map]; omega) (by omega) (fun i x y T H' hx hy hT => ?_)
  · have := ew_sl (K := K) (lo := some 1) (hi := none) (ev_var rfl : Ev (tVar 0) (start N_are_ascending [V.ref a]) H (.ref a)) (eo_some ev_c) eo_none ha
    rw [cut1] at this
    exact this
  · rw [List.getElem?_map] at hx
    rw [List.getElem?_drop, List.getElem?_map, Nat.add_comm] at hy
    obtain ⟨p, hp, rfl⟩ : ∃ p, ns[i]? = some p ∧ V.int p = x := by
      cases z : ns[i]? with
      | none => rw [z] at hx; cases hx
      | some p => rw [z] at hx; exact ⟨p, rfl, Option.some.inj hx⟩
    obtain ⟨r, hr', rfl⟩ : ∃ p, ns[i + 1]? = some p ∧ V.int p = y := by
      cases z : ns[i + 1]? with
      | none => rw [z] at hy; cases hy
      | some p => rw [z] at hy; exact ⟨p, rfl, Option.some.inj hy⟩
    refine ⟨[some (.ref a), some (.int p), some (.int r)], fun kk hk => ⟨T, _, rfl, st_of hT, rfl, _, _, rfl, _, _, rfl, rfl, hk⟩, rfl, ?_⟩
    refine ev_is (ev_op (ev_var rfl) (ev_var rfl) rv_I0) ?_
    show V.bl (decide (p < r)) = V.bl (decide (ns.getD i 0 < ns.getD (i + 1) 0))
    rw [List.getD_eq_getElem?_getD, List.getD_eq_getElem?_getD, hp, hr']
    rfl
def sp_are_indices (K : PySem.W.Frag) : Sp := fun vs H Q _ => ∃ x d m, vs = [x, .int m] ∧ Rp K H x d ∧ d.small ∧ RetV (.bl (d.indices m)) H Q
theorem len_are_indices {vs : List V} {H : Hp} {Q : VK} {E : XK} (h : sp_are_indices K vs H Q E) : vs.length = 2 := by
  obtain ⟨x, d, m, rfl, _⟩ := h
  rfl
theorem sv_indices {H : Hp} {x : V} {d : K0.D} {m : Int} (h : Rp K H x d) (hs : d.small) : SpV (sp_are_indices K) [x, .int m] H (.bl (d.indices m)) := fun H1 e Q q E => ⟨x, d, m, rfl, h.ex e, hs, q⟩
theorem ok_are_indices (T : Txt K mg A D) : FnOk P w K mg base CX0 3 A.are_indices D.are_indices ["value", "many"] (sp_are_indices K) := by
  have G_is_within : FnOk P w K mg base CX0 2 A.is_within D.is_within ["value", "least", "most"] (sp_is_within K) := ok_is_within T
  have G_are_ascending : FnOk P w K mg base CX0 1 A.are_ascending D.are_ascending ["row"] (sp_are_ascending K) := ok_are_ascending T
  refine T.F_are_indices.ok sc_are_indices (fun vs H Q E h => len_are_indices h) (fun cdv A0 outer s H vs Q E hr h => ?_)
  refine ⟨_, (pss_cons (ps_if (pt_not (pt_val (pe_callB call_isi (by rfl) T.b_isinstance (by decide +kernel) (pa_cons (pv 0) (pa_cons (pe_bltn (v := .ty "tuple") (u := .type "tuple") (by rfl) T.b_tuple (by decide +kernel) rfl) pa_nil))))) (pss_one (ps_ret pe_bl)) pss_nil)
  (pss_cons (ps_if (pt_not (pt_val (pe_callB (cr_all rfl) (by rfl) T.b_all (by decide +kernel) (pa_cons (pe_lc (own := [("index", 2)]) (g := gName 2) (tt := tYes) rfl sc_are_indices.nd (pi_tup (pv 0)) (blkOk_by (own := [("index", 2)]) (N := N_are_indices) (sc := defScope s_are_indices) (by decide +kernel)) (fun _ _ _ _ _ => by exact pg_name (i := 2) sc_are_indices.nd rfl (Or.inl rfl)) (fun _ _ _ _ _ => by exact pts_nil) (fun _ _ _ _ _ => by exact (pe_call G_is_within (hr.mono (by decide)) rfl T.g_is_within T.F_is_within.kp T.b_is_within .nil pass0 (pa_cons (pv 2) (pa_cons pe_int (pa_cons (pe_op op_sub (pv 1) pe_int) pa_nil)))))) pa_nil)))) (pss_one (ps_ret pe_bl)) pss_nil)
  (pss_one (ps_ret (pe_call G_are_ascending (hr.mono (by decide)) rfl T.g_are_ascending T.F_are_ascending.kp T.b_are_ascending .nil pass0 (pa_cons (pv 0) pa_nil)))))), ?_⟩
  obtain ⟨x, d, m, rfl, hx, hs, k⟩ := h
  refine q_when (et_not (et_B (ev_cb (ea_cons (ev_var rfl) (ea_cons ev_c ea_nil)) (rc_tup hx)))) (fun hb H1 e1 => ?_) (fun hb H1 e1 => ?_)
  · refine s_ret ev_c fun H2 e2 => ?_
    have hf : d.indices m = false := by cases d <;> first | rfl | (simp [K0.D.isTup] at hb; done)
    have := k H2 (e1.trans e2)
    rw [hf] at this
    exact this
  · have h1 : d.isTup = true := by cases z : d.isTup <;> rw [z] at hb <;> simp at hb <;> rfl
    obtain ⟨a, xs, ds, rfl, rfl, hq, hr1⟩ := hx.isT h1
    have hl := hr1.len
    have hq1 := ex_t e1 hq
    have hr2 := hr1.ex e1
    have hsz : ds.length ≤ 40000 := hs
    refine q_when (b := !(ds.all (K0.D.within 0 (m - 1)))) (et_not (et_B (ev_is (ev_all (bs := (List.range xs.length).map fun i => (ds.getD i .non).within 0 (m - 1)) ?_) ?_))) (fun hb H2 e2 => ?_) (fun hb H2 e2 => ?_)
    · rw [List.map_map, ← given_map (f := fun _ => true) (fun _ => rfl)]
      refine el_lcT (fun _ => true) _ (ev_var rfl) hq1 (by omega) (fun _ => rfl) (fun i y H3 e3 hy => et_yes) (fun i y H3 e3 hy _ => ?_)
      obtain ⟨d, hd, hrp⟩ := RpAll.get _ _ _ _ (hr2.ex e3) hy
      refine ev_is (ev_call (ea_cons (ev_var rfl) (ea_cons ev_c (ea_cons (ev_op (ev_var rfl) ev_c rv_I0) ea_nil))) (sv_within hrp)) ?_
      show V.bl (d.within 0 (m - 1)) = V.bl ((ds.getD i .non).within 0 (m - 1))
      rw [List.getD_eq_getElem?_getD, hd]
      rfl
    · rw [List.all_map, hl]
      congr 1
      exact all_getD ds _
    · refine s_ret ev_c fun H3 e3 => ?_
      have := k H3 ((e1.trans e2).trans e3)
      have hf : (K0.D.tup ds).indices m = false := by
        show (ds.all (K0.D.within 0 (m - 1)) && _) = false
        cases z : ds.all (K0.D.within 0 (m - 1)) with
        | true => rw [z] at hb; cases hb
        | false => rfl
      rw [hf] at this
      exact this
    · have hall : ds.all (K0.D.within 0 (m - 1)) = true := by
        cases z : ds.all (K0.D.within 0 (m - 1)) with
        | true => rfl
        | false => rw [z] at hb; cases hb
      have hints : xs = (ds.map K0.D.toInt).map V.int := ints_of _ _ hr1 hall
      have hq2 : SqT K H2 a ((ds.map K0.D.toInt).map V.int) := by rw [← hints]; exact ex_t (e1.trans e2) hq
      refine s_ret (ev_call (ea_cons (ev_var rfl) ea_nil) (sv_asc hq2 (by rw [List.length_map]; exact hsz))) fun H3 e3 => ?_
      have := k H3 ((e1.trans e2).trans e3)
      have hf : (K0.D.tup ds).indices m = ascB (ds.map K0.D.toInt) := by
        show (ds.all (K0.D.within 0 (m - 1)) && _) = _
        rw [hall, Bool.true_and]
      rw [hf] at this
      exact this
end
end K0

namespace K0
open PySem L2 Evl
section
variable {K : PySem.W.Frag} {σ : L2.St} {H H' : Hp} {ta tb te tx : TE} {t u : TT} {x y z v : V}
theorem et_truL {a : Addr} {xs : List V} (h : Ev te σ H (.ref a)) (hx : SqL K H a xs) : EvT (fun σ H Q => te σ H fun x H' => ∃ k, TruV K x H' k ∧ Q k H') σ H (!xs.isEmpty) := fun H1 e Q q =>
  h H1 e _ fun H2 e2 => ⟨_, Or.inl ⟨xs, ex_l (e.trans e2) hx, rfl⟩, q H2 e2⟩
/-- [y for row in rows for y in row]: rows a list of tuples -/
theorem el_flat {a : Addr} {rs : List Addr} {rows : List (List V)} {tl : TE} {j j1 : Nat} {vs vs1 : List Nat} (h : Ev tl σ H (.ref a)) (hx : SqL K H a (rs.map V.ref)) (hl : rs.length = rows.length)
    (hr : ∀ (i : Nat) r row, rs[i]? = some r → rows[i]? = some row → SqT K H r row) (hz : rows.flatten.length ≤ 40000)
    (hw : ∀ x, wipe ((wipe σ vs).set j (some x)) vs = wipe σ vs) (hj : ∀ x, ((wipe σ vs).set j (some x))[j]? = some (some x))
    (hw1 : ∀ x y, wipe ((wipe ((wipe σ vs).set j (some x)) vs1).set j1 (some y)) vs1 = wipe ((wipe σ vs).set j (some x)) vs1) (hj1 : ∀ x y, ((wipe ((wipe σ vs).set j (some x)) vs1).set j1 (some y))[j1]? = some (some y)) :
    EvL (tLc2 (iList K tl) (gName j) tYes (iTup K (tVar j)) (gName j1) tYes (tVar j1) vs vs1) σ H rows.flatten := fun H0 e Q q =>
  h H0 e _ fun H1 e1 => ⟨a, rfl, ⟨_, ex_l (e.trans e1) hx⟩, fun Dl hD => by
    refine ⟨fun i m H' => m = rs.length - i ∧ i ≤ rs.length ∧ Ex H1 H' ∧ H' Dl = some (.lst (rows.take i).flatten), ⟨rs.length, by simp, Nat.zero_le _, Ex.new hD, upd_same⟩, ?_⟩
    rintro i m H' ⟨rfl, hi, p1, p2⟩
    have hxl := ex_l ((e.trans e1).trans p1) hx
    by_cases hlt : i < rs.length
    · have hlt2 : i < rows.length := by omega
      have g1 : rs[i]? = some rs[i] := List.getElem?_eq_getElem hlt
      have g2 : rows[i]? = some rows[i] := List.getElem?_eq_getElem hlt2
      have et : rows.take (i + 1) = rows.take i ++ [rows[i]] := by rw [List.take_succ, g2] <;> rfl
      have efl : ((rows.take (i + 1)).flatten).length ≤ rows.flatten.length := by
        have : rows.flatten = (rows.take (i + 1)).flatten ++ (rows.drop (i + 1)).flatten := by rw [← List.flatten_append, List.take_append_drop]
        rw [this, List.length_append]
        omega
      have efl2 : ((rows.take (i + 1)).flatten).length = ((rows.take i).flatten).length + rows[i].length := by rw [et, List.flatten_append]; simp
      have hrow := hr i _ _ g1 g2
      refine .inr ⟨⟨rs.map V.ref, .ref rs[i], hxl, by rw [List.getElem?_map, g1]; rfl⟩, fun H2 => Ex H1 H2 ∧ H2 Dl = some (.lst (rows.take (i + 1)).flatten), fun H2 k => ⟨rs.length - (i + 1), by omega, rfl, hlt, k⟩, fun y H2 yy => ?_⟩
      obtain ⟨rfl, yy⟩ := yy
      have ey := yy _ hxl
      rw [List.getElem?_map, g1] at ey
      have ey : V.ref rs[i] = y := Option.some.inj ey
      subst ey
      refine ⟨hw _, ?_⟩
      refine ⟨_, hj _, rs[i], rfl, ⟨_, ex_t ((e.trans e1).trans p1) hrow⟩, fun jj kk H3 => kk = rows[i].length - jj ∧ jj ≤ rows[i].length ∧ Ex H1 H3 ∧ H3 Dl = some (.lst ((rows.take i).flatten ++ rows[i].take jj)), ⟨_, rfl, Nat.zero_le _, p1, by rw [p2]; simp⟩, ?_⟩
      rintro jj kk H3 ⟨rfl, hjj, q1, q2⟩
      have hrow3 := ex_t ((e.trans e1).trans q1) hrow
      by_cases hlj : jj < rows[i].length
      · have g3 : rows[i][jj]? = some rows[i][jj] := List.getElem?_eq_getElem hlj
        refine .inr ⟨⟨rows[i], rows[i][jj], hrow3, g3⟩, fun H4 => Ex H1 H4 ∧ H4 Dl = some (.lst ((rows.take i).flatten ++ rows[i].take (jj + 1))), fun H4 k => ⟨rows[i].length - (jj + 1), by omega, rfl, hlj, k⟩, fun y H4 yy => ?_⟩
        obtain ⟨rfl, yy⟩ := yy
        have ey := yy _ hrow3
        rw [g3] at ey
        have ey : rows[i][jj] = y := Option.some.inj ey
        subst ey
        refine ⟨hw1 _ _, _, hj1 _ _, _, q2, ?_, ?_, ?_⟩
        · have : ((rows.take i).flatten ++ rows[i].take jj).length ≤ 40000 := by rw [List.length_append, List.length_take]; omega
          exact sz_lt (by omega)
        · exact Ex.mut q1 hD
        · rw [upd_same, List.append_assoc, List.take_succ, g3]
          rfl
      · have : jj = rows[i].length := by omega
        subst this
        refine .inl ⟨⟨rows[i], hrow3, Nat.le_refl _⟩, q1, ?_⟩
        rw [q2, et, List.flatten_append, List.take_length]
        simp
    · have : i = rs.length := by omega
      subst this
      refine .inl ⟨⟨_, hxl, by rw [List.length_map]; exact Nat.le_refl _⟩, q Dl H' (fresh_back e1 hD) (e1.trans p1) ?_⟩
      rw [p2, hl, List.take_length]⟩
end
mutual
/-- how much of a value there is: signs and members -/
def D.size : D → Nat
  | .str s => 1 + s.length / 100
  | .tup ds => 1 + D.sizeL ds
  | _ => 1
def D.sizeL : List D → Nat
  | [] => 0
  | d :: ds => d.size + D.sizeL ds
end
theorem sizeL_len : ∀ ds : List D, ds.length ≤ D.sizeL ds
  | [] => Nat.le_refl _
  | d :: ds => by
    have := sizeL_len ds
    have h1 : 1 ≤ d.size := by cases d <;> simp [D.size]
    simp only [List.length_cons, D.sizeL]
    omega
theorem sizeL_app : ∀ ds es : List D, D.sizeL (ds ++ es) = D.sizeL ds + D.sizeL es
  | [], es => by simp [D.sizeL]
  | d :: ds, es => by
    show d.size + D.sizeL (ds ++ es) = d.size + D.sizeL ds + D.sizeL es
    rw [sizeL_app ds es]
    omega
theorem size_mem : ∀ {ds : List D} {d : D}, d ∈ ds → d.size ≤ D.sizeL ds
  | a :: ds, d, h => by
    rcases List.mem_cons.mp h with h | h
    · subst h
      simp only [D.sizeL]
      omega
    · have := size_mem h
      simp only [D.sizeL]
      omega
def D.kids : D → List D
  | .tup ds => ds | _ => []
end K0

namespace K0
open PySem L2 Evl
section
variable {P : Program} {w : World} {K : PySem.W.Frag} {mg : Str → Option Value} {base : Heap} {A : Ad} {D : Fd}
/-- a judge of values that are not too great -/
def spS (f : K0.D → Bool) (K : PySem.W.Frag) : Sp := fun vs H Q _ => ∃ x d, vs = [x] ∧ Rp K H x d ∧ d.size ≤ 30000 ∧ RetV (.bl (f d)) H Q
theorem spS_len {f : K0.D → Bool} {vs : List V} {H : Hp} {Q : VK} {E : XK} (h : spS f K vs H Q E) : vs.length = 1 := by
  obtain ⟨x, d, rfl, _⟩ := h
  rfl
theorem svS {f : K0.D → Bool} {H : Hp} {x : V} {d : K0.D} (h : Rp K H x d) (hs : d.size ≤ 30000) : SpV (spS f K) [x] H (.bl (f d)) := fun H1 e Q q E => ⟨x, d, rfl, h.ex e, hs, q⟩
theorem small_of {d : K0.D} (h : d.size ≤ 30000) : d.small := by
  cases d with
  | tup ds =>
    have := sizeL_len ds
    simp only [K0.D.size] at h
    show ds.length ≤ 40000
    omega
  | _ => trivial
theorem sline {n : Nat} (h : n ≤ 3000000) : n ≤ sizeLine := by rw [sizeLine_eq]; omega
def sp_is_made_of (K : PySem.W.Frag) : Sp := fun vs H Q _ => ∃ x d sg m, vs = [x, .str sg, .int m] ∧ Rp K H x d ∧ d.size ≤ 30000 ∧ RetV (.bl (d.word sg m)) H Q
theorem len_is_made_of {vs : List V} {H : Hp} {Q : VK} {E : XK} (h : sp_is_made_of K vs H Q E) : vs.length = 3 := by
  obtain ⟨x, d, sg, m, rfl, _⟩ := h
  rfl
theorem sv_made {H : Hp} {x : V} {d : K0.D} {sg : Str} {m : Int} (h : Rp K H x d) (hs : d.size ≤ 30000) : SpV (sp_is_made_of K) [x, .str sg, .int m] H (.bl (d.word sg m)) := fun H1 e Q q E => ⟨x, d, sg, m, rfl, h.ex e, hs, q⟩
/-- s.strip(t) -/
theorem ev_strip {σ : L2.St} {H : Hp} {ta tb : TE} {a b : Str} (ha : Ev ta σ H (.str a)) (hb : Ev tb σ H (.str b)) (h : a.length ≤ sizeLine) :
    Ev (tBM K "str" (fun (x : V) (xs : List V) (H : Hp) (Q : VK) => ∃ a b, x = .str a ∧ xs = [.str b] ∧ a.length ≤ sizeLine ∧ Q (.str (Txt.stripChars a b)) H) ta (tCons tb tNil)) σ H (.str (Txt.stripChars a b)) := fun H1 e Q q =>
  ha H1 e _ fun H2 e2 => ⟨rfl, hb H2 (e.trans e2) _ fun H3 e3 => ⟨a, b, rfl, rfl, h, q H3 (e2.trans e3)⟩⟩
theorem ok_is_made_of (T : Txt K mg A D) : FnOk P w K mg base CX0 1 A.is_made_of D.is_made_of ["value", "signs", "most"] (sp_is_made_of K) := by
  refine T.F_is_made_of.ok sc_is_made_of (fun vs H Q E h => len_is_made_of h) (fun cdv A0 outer s H vs Q E hr h => ?_)
  refine ⟨_, (pss_one (ps_ret (pe_and (pe_callB call_isi (by rfl) T.b_isinstance (by decide +kernel) (pa_cons (pv 0) (pa_cons (pe_bltn (v := .ty "str") (u := .type "str") (by rfl) T.b_str (by decide +kernel) rfl) pa_nil))) (pe_and (pe_cmpR op_le (pe_callB call_len (by rfl) T.b_len (by decide +kernel) (pa_cons (pv 0) pa_nil)) (pv 2) (nomark _)) (pe_one (pe_cmpR op_eq (pe_bm PySem.F.plainAttrs_str PySem.F.slot_str_strip PySem.F.type_str_strip mt_stripChars (pv 0) (pa_cons (pv 1) pa_nil)) pe_str (nomark _))))))), ?_⟩
  obtain ⟨x, d, sg, m, rfl, hx, hs, k⟩ := h
  refine s_ret (ev_is (ev_andV (a := d.isStr) (b := d.word sg m) (ev_cb (ea_cons (ev_var rfl) (ea_cons ev_c ea_nil)) (rc_str hx)) fun hb => ?_) ?_) fun H2 e2 => k H2 e2
  · obtain ⟨s, rfl, rfl⟩ := hx.isS hb
    have hl : s.length ≤ sizeLine := sline (by simp only [K0.D.size] at hs; omega)
    refine ev_andV (a := decide ((s.length : Int) ≤ m)) (ev_op (ev_cb (ea_cons (ev_var rfl) ea_nil) (rc_lenS hl)) (ev_var rfl) rv_I0) fun _ => ?_
    refine ev_is (ev_op (ev_strip (ev_var rfl) (ev_var rfl) hl) ev_c (rv_eq rfl)) ?_
    exact congrArg V.bl (strip_all _ _)
  · cases d <;> rfl
def D.isNon : K0.D → Bool
  | .non => true | _ => false
theorem Rp.isN {H : Hp} {x : V} {d : K0.D} (h : Rp K H x d) : decide (x = V.non) = d.isNon := by cases h <;> rfl
def sp_is_single (K : PySem.W.Frag) : Sp := spS K0.D.single K
theorem len_is_single {vs : List V} {H : Hp} {Q : VK} {E : XK} (h : sp_is_single K vs H Q E) : vs.length = 1 := spS_len h
theorem ok_is_single (T : Txt K mg A D) : FnOk P w K mg base CX0 2 A.is_single D.is_single ["value"] (sp_is_single K) := by
  have G_is_number : FnOk P w K mg base CX0 1 A.is_number D.is_number ["value"] (sp_is_number K) := ok_is_number T
  have G_is_made_of : FnOk P w K mg base CX0 1 A.is_made_of D.is_made_of ["value", "signs", "most"] (sp_is_made_of K) := ok_is_made_of T
  obtain ⟨t_MAX_STRING, c_MAX_STRING⟩ := T.c_MAX_STRING
  obtain ⟨t_SIGNS, c_SIGNS⟩ := T.c_SIGNS
  refine T.F_is_single.ok sc_is_single (fun vs H Q E h => len_is_single h) (fun cdv A0 outer s H vs Q E hr h => ?_)
  refine ⟨_, (pss_one (ps_ret (pe_or (pe_cmpR op_isN (pv 0) pe_non (nomark _)) (pe_or (pe_call G_is_number (hr.mono (by decide)) rfl T.g_is_number T.F_is_number.kp T.b_is_number .nil pass0 (pa_cons (pv 0) pa_nil)) (pe_one (pe_call G_is_made_of (hr.mono (by decide)) rfl T.g_is_made_of T.F_is_made_of.kp T.b_is_made_of .nil pass0 (pa_cons (pv 0) (pa_cons (pe_glob (v := .str "abcdefghijklmnopqrstuvwxyz0123456789 ") rfl c_SIGNS ⟨_, rfl⟩) (pa_cons (pe_glob (v := .int (3000)) rfl c_MAX_STRING ⟨_, rfl⟩) pa_nil))))))))), ?_⟩
  obtain ⟨x, d, rfl, hx, hs, k⟩ := h
  refine s_ret (ev_is (ev_orV (a := d.isNon) (b := d.num || d.word signs37 3000) (ev_is (ev_op (ev_var rfl) ev_c rv_isN) (congrArg V.bl hx.isN)) fun _ => ?_) ?_) fun H2 e2 => k H2 e2
  · exact ev_orV (ev_call (ea_cons (ev_var rfl) ea_nil) (sv1 hx)) fun _ => ev_call (ea_cons (ev_var rfl) (ea_cons ev_c (ea_cons ev_c ea_nil))) (sv_made hx hs)
  · cases d with
    | int i =>
      show V.bl (false || (numB i || false)) = V.bl (numB i)
      cases numB i <;> rfl
    | _ => rfl
end
end K0

namespace K0
open PySem L2 Evl
def tupsL : List D → List (List D)
  | [] => []
  | .tup es :: r => es :: tupsL r
  | _ :: r => tupsL r
theorem tupsL_app : ∀ a b : List D, tupsL (a ++ b) = tupsL a ++ tupsL b
  | [], _ => rfl
  | d :: r, b => by
    cases d <;> first | exact congrArg _ (tupsL_app r b) | exact tupsL_app r b
def okTop (d : D) : Bool := d.isTup || d.single
theorem plain_flat {j : Nat} : ∀ ds : List D, ds.all okTop = true → ds.all (D.plain (j + 1)) = (tupsL ds).flatten.all (D.plain j)
  | [], _ => rfl
  | d :: r, h => by
    rw [List.all_cons, Bool.and_eq_true] at h
    have ih := plain_flat (j := j) r h.2
    rw [List.all_cons, ih]
    cases d with
    | tup es =>
      show (es.all (D.plain j) && _) = ((es :: tupsL r).flatten).all _
      rw [List.flatten_cons, List.all_append]
    | non => rfl
    | bl b => exact absurd h.1 (by simp [okTop, D.isTup, D.single])
    | int i =>
      have hs : D.single (.int i) = true := h.1
      show (D.single (.int i) && _) = _
      rw [hs, Bool.true_and]
      rfl
    | str s =>
      have hs : D.single (.str s) = true := h.1
      show (D.single (.str s) && _) = _
      rw [hs, Bool.true_and]
      rfl
    | oth => exact absurd h.1 (by simp [okTop, D.isTup, D.single])
theorem plain_single {n : Nat} {d : D} (h : d.isTup = false) : d.plain n = d.single := by
  cases n <;> cases d <;> first | rfl | cases h
theorem plain_none : ∀ {ds : List D} {n : Nat}, ds.all okTop = true → tupsL ds = [] → ds.all (D.plain n) = true
  | [], _, _, _ => rfl
  | d :: r, n, h, e => by
    rw [List.all_cons, Bool.and_eq_true] at h
    cases ht : d.isTup with
    | true =>
      cases d with
      | tup es => exact absurd e (by simp [tupsL])
      | _ => cases ht
    | false =>
      have h1 : d.single = true := by
        have := h.1
        unfold okTop at this
        rw [ht, Bool.false_or] at this
        exact this
      have e' : tupsL r = [] := by cases d <;> first | exact e | cases ht
      rw [List.all_cons, plain_single ht, h1, Bool.true_and]
      exact plain_none h.2 e'
theorem plain_deep : ∀ {ds : List D}, tupsL ds ≠ [] → ds.all (D.plain 0) = false
  | [], h => absurd rfl h
  | d :: r, h => by
    cases ht : d.isTup with
    | true =>
      cases d with
      | tup es => rfl
      | _ => cases ht
    | false =>
      have h' : tupsL r ≠ [] := by cases d <;> first | exact h | cases ht
      rw [List.all_cons, plain_deep h', Bool.and_false]
theorem size_flat : ∀ ds : List D, D.sizeL (tupsL ds).flatten + (tupsL ds).length ≤ D.sizeL ds
  | [] => Nat.le_refl _
  | d :: r => by
    have ih := size_flat r
    cases d with
    | tup es =>
      show D.sizeL (es :: tupsL r).flatten + (tupsL r).length.succ ≤ D.size (.tup es) + D.sizeL r
      rw [List.flatten_cons, sizeL_app]
      simp only [D.size]
      omega
    | _ =>
      simp only [D.sizeL]
      show D.sizeL (tupsL r).flatten + (tupsL r).length ≤ _
      omega
theorem tups_nil_empty : D.sizeL ([] : List D) = 0 := rfl
inductive Rows (K : PySem.W.Frag) (H : Hp) : List Addr → List (List V) → List (List D) → Prop where
  | nil : Rows K H [] [] []
  | cons {r : Addr} {row : List V} {es : List D} {rs : List Addr} {rows : List (List V)} {ess : List (List D)} : SqT K H r row → RpAll K H row es → Rows K H rs rows ess → Rows K H (r :: rs) (row :: rows) (es :: ess)
section
variable {K : PySem.W.Frag} {H H' : Hp}
theorem Rows.snoc {r : Addr} {row : List V} {es : List D} (h : SqT K H r row) (hr : RpAll K H row es) : ∀ {rs : List Addr} {rows : List (List V)} {ess : List (List D)}, Rows K H rs rows ess → Rows K H (rs ++ [r]) (rows ++ [row]) (ess ++ [es])
  | _, _, _, .nil => .cons h hr .nil
  | _, _, _, .cons a b c => .cons a b (Rows.snoc h hr c)
theorem Rows.len : ∀ {rs : List Addr} {rows : List (List V)} {ess : List (List D)}, Rows K H rs rows ess → rs.length = rows.length ∧ rs.length = ess.length
  | _, _, _, .nil => ⟨rfl, rfl⟩
  | _, _, _, .cons _ _ c => ⟨by rw [List.length_cons, List.length_cons, c.len.1], by rw [List.length_cons, List.length_cons, c.len.2]⟩
theorem Rows.get : ∀ {rs : List Addr} {rows : List (List V)} {ess : List (List D)}, Rows K H rs rows ess → ∀ (i : Nat) r row, rs[i]? = some r → rows[i]? = some row → SqT K H r row
  | _, _, _, .nil, i, r, row, h, _ => by simp at h
  | _, _, _, .cons a _ c, 0, r, row, h, h' => by
    have e1 := Option.some.inj h
    have e2 := Option.some.inj h'
    subst e1 e2
    exact a
  | _, _, _, .cons _ _ c, i + 1, r, row, h, h' => Rows.get c i r row (by simpa using h) (by simpa using h')
theorem Rows.flat : ∀ {rs : List Addr} {rows : List (List V)} {ess : List (List D)}, Rows K H rs rows ess → RpAll K H rows.flatten ess.flatten
  | _, _, _, .nil => .nil
  | _, _, _, .cons _ b c => by
    rw [List.flatten_cons, List.flatten_cons]
    exact RpAll.app b (Rows.flat c)
end
section
variable {P : Program} {w : World} {K : PySem.W.Frag} {mg : Str → Option Value} {base : Heap} {A : Ad} {D : Fd}
def sp_is_plain_within (K : PySem.W.Frag) : Sp := fun vs H Q _ => ∃ x d, ∃ n : Nat, vs = [x, .int (n : Int)] ∧ Rp K H x d ∧ d.size ≤ 30000 ∧ RetV (.bl (d.plain n)) H Q
theorem len_is_plain_within {vs : List V} {H : Hp} {Q : VK} {E : XK} (h : sp_is_plain_within K vs H Q E) : vs.length = 2 := by
  obtain ⟨x, d, n, rfl, _⟩ := h
  rfl
theorem sv_within_plain {H : Hp} {x : V} {d : K0.D} {n : Nat} (h : Rp K H x d) (hs : d.size ≤ 30000) : SpV (sp_is_plain_within K) [x, .int (n : Int)] H (.bl (d.plain n)) := fun H1 e Q q E => ⟨x, d, n, rfl, h.ex e, hs, q⟩
def PlainW (K : PySem.W.Frag) (H : Hp) (x : V) (d : K0.D) (n : Nat) (m : Nat) (σ : L2.St) (H' : Hp) : Prop :=
  ∃ (lv : Addr) (xs : List V) (ds : List K0.D) (k : Nat) (v4 v5 : Option V), σ = [some x, some (.int (n : Int)), some (.ref lv), some (.int (k : Int)), v4, v5, none, none] ∧ H' lv = some (.lst xs) ∧ RpAll K H' xs ds ∧ Ex H H' ∧
    K0.D.sizeL ds = m ∧ m ≤ 30000 ∧ k ≤ n ∧ d.plain n = ds.all (K0.D.plain (n - k))
def PlainP (K : PySem.W.Frag) (H1 : Hp) (x : V) (n k : Nat) (lv p : Addr) (ds : List K0.D) (i : Nat) (σ : L2.St) (H' : Hp) : Prop :=
  ∃ (ys : List Addr) (rows : List (List V)) (v5 : Option V), σ = [some x, some (.int (n : Int)), some (.ref lv), some (.int (k : Int)), some (.ref p), v5, none, none] ∧ Ex H1 H' ∧ H' p = some (.lst (ys.map V.ref)) ∧
    Rows K H1 ys rows (tupsL (ds.take i)) ∧ (ds.take i).all okTop = true ∧ ys.length ≤ i
theorem ok_is_plain_within (T : Txt K mg A D) : FnOk P w K mg base CX0 3 A.is_plain_within D.is_plain_within ["value", "most"] (sp_is_plain_within K) := by
  have G_is_single : FnOk P w K mg base CX0 2 A.is_single D.is_single ["value"] (sp_is_single K) := ok_is_single T
  refine T.F_is_plain_within.ok sc_is_plain_within (fun vs H Q E h => len_is_plain_within h) (fun cdv A0 outer s H vs Q E hr h => ?_)
  refine ⟨_, (pss_cons (ps_set (i := 2) sc_is_plain_within.nd rfl (Or.inl rfl) (pe_lst (pa_cons (pv 0) pa_nil)))
  (pss_cons (ps_set (i := 3) sc_is_plain_within.nd rfl (Or.inl rfl) pe_int)
  (pss_cons (ps_while PassesOwn.never (pt_truth (pv 2) (by intro _; rfl)) (pss_cons (ps_set (i := 4) sc_is_plain_within.nd rfl (Or.inl rfl) (pe_lst pa_nil))
  (pss_cons (ps_for PassesOwn.never rfl (pi_list (pv 2)) (pg_name (i := 5) sc_is_plain_within.nd rfl (Or.inl rfl)) (pss_one (ps_if (pt_val (pe_callB call_isi (by rfl) T.b_isinstance (by decide +kernel) (pa_cons (pv 5) (pa_cons (pe_bltn (v := .ty "tuple") (u := .type "tuple") (by rfl) T.b_tuple (by decide +kernel) rfl) pa_nil)))) (pss_one (ps_expr (pe_bm PySem.F.plainAttrs_list PySem.F.slot_list_append PySem.F.type_list_append mt_append (pv 4) (pa_cons (pv 5) pa_nil)))) (pss_one (ps_if (pt_not (pt_val (pe_call G_is_single (hr.mono (by decide)) rfl T.g_is_single T.F_is_single.kp T.b_is_single .nil pass0 (pa_cons (pv 5) pa_nil)))) (pss_one (ps_ret pe_bl)) pss_nil)))))
  (pss_cons (ps_if (pt_truth (pv 4) (by intro _; rfl)) (pss_one (ps_aug (i := 3) sc_is_plain_within.nd rfl (Or.inl rfl) pe_int ip_add)) pss_nil)
  (pss_cons (ps_if (pt_cmpR op_gt (pv 3) (pv 1) (nomark _)) (pss_one (ps_ret pe_bl)) pss_nil)
  (pss_one (ps_setLc2 (i := 2) (wi1 := iTup K (tVar 6)) (own := [("row", 6), ("member", 7)]) (vs1 := [7]) (g := gName 6) (g1 := gName 7) (tt := tYes) (tt1 := tYes) rfl sc_is_plain_within.nd rfl rfl (sw_true rfl rfl rfl (by decide +kernel)) (pi_list (pv 4)) (blkOk_by (own := [("row", 6), ("member", 7)]) (N := N_is_plain_within) (sc := defScope s_is_plain_within) (by decide +kernel)) (by decide) (fun _ _ _ _ _ => by exact pg_name (i := 6) sc_is_plain_within.nd rfl (Or.inl rfl)) (fun _ _ _ _ _ => pts_nil) (fun _ _ _ _ _ => by exact (pi_tup (pv 6))) (fun _ _ _ _ _ => by exact pg_name (i := 7) sc_is_plain_within.nd rfl (Or.inl rfl)) (fun _ _ _ _ _ => pts_nil) (fun _ _ _ _ _ => by exact (pv 7)))))))))
  (pss_one (ps_ret pe_bl))))), ?_⟩
  obtain ⟨x, d, n, rfl, hx, hs, k⟩ := h
  have wl : ∀ (lv : Addr) (xs : List V), xs.length = 1 → True := fun _ _ _ => trivial
  refine q_asgL (el_lst (ea_cons (ev_var rfl) ea_nil) (by simp)) fun lv H1 hlv e1 h1 => ?_
  refine q_asg ev_c fun H2 e2 => ?_
  refine q_while (PlainW K H x d n) _ ⟨lv, [x], [d], 0, none, none, rfl, e2 _ _ h1, .cons (hx.ex (e1.trans e2)) .nil, e1.trans e2, rfl, ?_, Nat.zero_le _, ?_⟩ ?_
  · simp only [K0.D.sizeL]
    omega
  · simp
  rintro m σ' H' ⟨lv, xs, ds, kk, v4, v5, rfl, hl, hr0, e0, hm, hm2, hk, hp⟩
  have hlen := hr0.len
  have hsl := sizeL_len ds
  refine ⟨!xs.isEmpty, et_truL (ev_var rfl) (sq_of hl), fun hb H3 e3 => ⟨fun σ2 H2 => ∃ m', m' < m ∧ PlainW K H x d n m' σ2 H2, fun σ2 H2 z => z, ?_⟩, fun hb H3 e3 => ?_⟩
  · -- a turn
    have hr3 := hr0.ex e3
    refine q_asgL (el_lst ea_nil (by decide)) fun p H4 hp4 e4 h4 => ?_
    refine q_forLn (xs := xs) (ev_var rfl) (sq_of (e4 _ _ (e3 _ _ hl))) (PlainP K H3 x n kk lv p ds) (fun H5 e5 => ?_) (fun i σ5 H5 hi q5 => ?_) (fun i y σ5 H5 hy q5 => ?_) (fun σ5 H5 q5 => ?_)
    · exact ⟨[], [], v5, rfl, e4.trans e5, e5 _ _ h4, .nil, rfl, Nat.le_refl _⟩
    · obtain ⟨ys, rows, w5, rfl, q1, _⟩ := q5
      exact sq_of (q1 _ _ (e3 _ _ hl))
    · obtain ⟨ys, rows, w5, rfl, q1, q2, q3, q4, q6⟩ := q5
      obtain ⟨di, hdi, hrp⟩ := RpAll.get _ _ _ _ hr3 hy
      have hmem : di ∈ ds := List.mem_of_getElem? hdi
      have hsz : di.size ≤ 30000 := by have := size_mem hmem; omega
      have hilt : i < xs.length := (List.getElem?_eq_some_iff.mp hy).1
      have etk : ds.take (i + 1) = ds.take i ++ [di] := by rw [List.take_succ, hdi]; rfl
      refine s_if (et_B (ev_cb (ea_cons (ev_var rfl) (ea_cons ev_c ea_nil)) (rc_tup (hrp.ex q1)))) (fun hb H6 e6 => ?_) (fun hb H6 e6 => ?_)
      · obtain ⟨r, row, es, rfl, rfl, hq, hra⟩ := hrp.isT hb
        refine s_app (e6 _ _ q2) (ev_var rfl) (ev_var rfl) (by rw [List.length_map]; omega) fun H7 e7 => ?_
        refine ⟨ys ++ [r], rows ++ [row], _, rfl, Ex.mut ((q1.trans e6).trans e7) hp4, ?_, ?_, ?_, ?_⟩
        · rw [upd_same, List.map_append]
          rfl
        · rw [etk, tupsL_app]
          exact Rows.snoc hq hra q3
        · rw [etk, List.all_append, q4]
          rfl
        · rw [List.length_append]
          simp
          omega
      · refine s_if (et_not (et_B (ev_call (ea_cons (ev_var rfl) ea_nil) (svS (hrp.ex (q1.trans e6)) hsz)))) (fun hb2 H7 e7 => ?_) (fun hb2 H7 e7 => ?_)
        · refine s_ret ev_c fun H8 e8 => ?_
          have := k H8 ((((e0.trans e3).trans q1).trans e6).trans (e7.trans e8))
          have hf : ds.all (K0.D.plain (n - kk)) = false := by
            have hdf : di.plain (n - kk) = false := by
              rw [plain_single hb]
              cases z : di.single with
              | true => rw [z] at hb2; cases hb2
              | false => rfl
            rw [List.all_eq_false]
            exact ⟨di, hmem, by rw [hdf]; decide⟩
          rw [hp, hf] at this
          exact this
        · have hsi : di.single = true := by
            cases z : di.single with
            | true => rfl
            | false => rw [z] at hb2; cases hb2
          refine ⟨ys, rows, _, rfl, (q1.trans e6).trans e7, e7 _ _ (e6 _ _ q2), ?_, ?_, by omega⟩
          · rw [etk, tupsL_app]
            have : tupsL [di] = [] := by cases di <;> first | rfl | cases hb
            rw [this, List.append_nil]
            exact q3
          · rw [etk, List.all_append, q4]
            show (true && ((di.isTup || di.single) && true)) = true
            rw [hsi]
            cases di.isTup <;> rfl
    · obtain ⟨ys, rows, w5, rfl, q1, q2, q3, q4, q6⟩ := q5
      rw [hlen, List.take_length] at q3 q4
      have hrl := q3.len
      have hszf := size_flat ds
      have hflen : rows.flatten.length ≤ 40000 := by
        have h1 := q3.flat.len
        have h2 := sizeL_len (tupsL ds).flatten
        omega
      have fin : ∀ (k' : Nat) (H8 : Hp), Ex H5 H8 → k' ≤ n → d.plain n = (tupsL ds).flatten.all (K0.D.plain (n - k')) → K0.D.sizeL (tupsL ds).flatten < m →
          tAsg (tLc2 (iList K (tVar 4)) (gName 6) tYes (iTup K (tVar 6)) (gName 7) tYes (tVar 7) [6, 7] [7]) (gName 2) { nx := fun σ2 H2 => ∃ m', m' < m ∧ PlainW K H x d n m' σ2 H2, rt := Q, bk := fun _ _ => False, ct := fun _ _ => False }
            [some x, some (.int (n : Int)), some (.ref lv), some (.int (k' : Int)), some (.ref p), w5, none, none] H8 := fun k' H8 e8 hk' hpl hlt => by
        refine s_asgL (el_flat (a := p) (ev_var rfl) (sq_of (e8 _ _ q2)) hrl.1 (fun i r row h1 h2 => ex_t (q1.trans e8) (q3.get i r row h1 h2)) hflen (fun _ => rfl) (fun _ => rfl) (fun _ _ => rfl) (fun _ _ => rfl)) fun lv2 H9 hlv2 e9 h9 => ?_
        exact ⟨_, hlt, lv2, rows.flatten, (tupsL ds).flatten, k', _, _, rfl, h9, q3.flat.ex ((q1.trans e8).trans e9), ((e0.trans e3).trans q1).trans (e8.trans e9), rfl, by omega, hk', hpl⟩
      have hne : ds ≠ [] := by
        intro z
        subst z
        have : xs = [] := by
          cases xs with
          | nil => rfl
          | cons a b => cases hr0
        subst this
        cases hb
      refine q_when (et_truL (ev_var rfl) (sq_of q2)) (fun hb6 H6 e6 => ?_) (fun hb6 H6 e6 => ?_)
      · have hys : tupsL ds ≠ [] := by
          intro z
          have h1 := hrl.2
          rw [z] at h1
          have h2 : ys = [] := List.length_eq_zero_iff.mp h1
          subst h2
          cases hb6
        have hpos : 0 < (tupsL ds).length := List.length_pos_iff.mpr hys
        refine s_aug (a := (kk : Int)) (b := 1) rfl ev_c fun H7 e7 => ?_
        refine q_when (b := decide ((n : Int) < (kk : Int) + 1)) (et_test (ev_op (ev_var rfl) (ev_var rfl) rv_I0)) (fun hb7 H8 e8 => ?_) (fun hb7 H8 e8 => ?_)
        · refine s_ret ev_c fun H9 e9 => ?_
          have := k H9 ((((e0.trans e3).trans q1).trans e6).trans ((e7.trans e8).trans e9))
          have hkn : n - kk = 0 := by
            have := of_decide_eq_true hb7
            omega
          rw [hp, hkn, plain_deep hys] at this
          exact this
        · have hkn : kk + 1 ≤ n := by
            have := of_decide_eq_false hb7
            omega
          refine fin (kk + 1) H8 ((e6.trans e7).trans e8) hkn ?_ (by omega)
          have e1 : n - kk = (n - (kk + 1)) + 1 := by omega
          rw [hp, e1]
          exact plain_flat ds q4
      · have hys : tupsL ds = [] := by
          have h1 : ys = [] := by
            cases ys with
            | nil => rfl
            | cons a b => cases hb6
          subst h1
          exact List.length_eq_zero_iff.mp hrl.2.symm
        refine q_when (b := decide ((n : Int) < (kk : Int))) (et_test (ev_op (ev_var rfl) (ev_var rfl) rv_I0)) (fun hb7 H8 e8 => ?_) (fun hb7 H8 e8 => ?_)
        · have := of_decide_eq_true hb7
          omega
        · have hpos : 0 < ds.length := List.length_pos_iff.mpr hne
          refine fin kk H8 (e6.trans e8) hk ?_ ?_
          · rw [hp, hys, plain_none q4 hys]
            rfl
          · rw [hys]
            show 0 < m
            omega
  · have : xs = [] := by
      cases xs with
      | nil => rfl
      | cons a b => cases hb
    subst this
    have hd : ds = [] := by
      cases ds with
      | nil => rfl
      | cons a b => cases hr0
    subst hd
    refine s_ret ev_c fun H4 e4 => ?_
    have := k H4 ((e0.trans e3).trans e4)
    rw [hp] at this
    exact this
def sp_is_plain (K : PySem.W.Frag) : Sp := spS (K0.D.plain 12) K
theorem len_is_plain {vs : List V} {H : Hp} {Q : VK} {E : XK} (h : sp_is_plain K vs H Q E) : vs.length = 1 := spS_len h
theorem ok_is_plain (T : Txt K mg A D) : FnOk P w K mg base CX0 4 A.is_plain D.is_plain ["value"] (sp_is_plain K) := by
  have G_is_plain_within : FnOk P w K mg base CX0 3 A.is_plain_within D.is_plain_within ["value", "most"] (sp_is_plain_within K) := ok_is_plain_within T
  obtain ⟨t_MAX_NEST, c_MAX_NEST⟩ := T.c_MAX_NEST
  refine T.F_is_plain.ok sc_is_plain (fun vs H Q E h => len_is_plain h) (fun cdv A0 outer s H vs Q E hr h => ?_)
  refine ⟨_, (pss_one (ps_ret (pe_call G_is_plain_within (hr.mono (by decide)) rfl T.g_is_plain_within T.F_is_plain_within.kp T.b_is_plain_within .nil pass0 (pa_cons (pv 0) (pa_cons (pe_glob (v := .int (12)) rfl c_MAX_NEST ⟨_, rfl⟩) pa_nil))))), ?_⟩
  obtain ⟨x, d, rfl, hx, hs, k⟩ := h
  exact s_ret (ev_call (ea_cons (ev_var rfl) (ea_cons ev_c ea_nil)) (sv_within_plain (n := 12) hx hs)) fun H2 e2 => k H2 e2
end
end K0

namespace K0
open PySem PySem.Spec PyProof.Rows L2 Evl
/-! ### more rules -/
section
variable {X : Cx}
/-- xs == [] for two lists of which one is empty -/
theorem op_eqNil (hu : X.A.units < cLine) : OpR X (compareOp .Eq) (fun x y H Q => ∃ a b xs, x = V.ref a ∧ y = V.ref b ∧ SqL X.K H a xs ∧ SqL X.K H b [] ∧ Q (.bl xs.isEmpty) H) := by
  intro pins s σ H x y v u Q I rx ry h
  obtain ⟨a, b, xs, rfl, rfl, ha, hb, q⟩ := h
  cases rx
  cases ry
  obtain ⟨its, r, p, _⟩ := I.list ha
  obtain ⟨its2, r2, p2, _⟩ := I.list hb
  cases r2
  cases xs with
  | nil =>
    cases r
    exact SeqAt.eq_listAt (e := fun _ => true) p.isList p2.isList rfl hu (fun j h1 _ => absurd h1 (by simp)) ⟨.bl true, H, I, rfl, q⟩
  | cons y ys =>
    refine SeqAt.eq_list_lengthsAt p.isList p2.isList ?_ hu ⟨.bl false, H, I, rfl, q⟩
    cases r with
    | cons r1 r2 => simp
theorem fold_size (x : Array Nat) : ∀ (n : Nat) (acc : Array Nat), ((List.replicate n x).foldl (· ++ ·) acc).size = acc.size + n * x.size
  | 0, acc => by simp
  | n + 1, acc => by
    rw [List.replicate_succ, List.foldl_cons, fold_size x n, Array.size_append, Nat.succ_mul]
    omega
/-- a text times a number: some text of that length -/
theorem op_mulS : OpR X (binaryOp .Mult) (fun x y H Q => ∃ (s : Str) (n : Nat), x = V.str s ∧ y = V.int (n : Int) ∧ 1 < n ∧ n ≤ 5000 ∧ s.length = 1 ∧ ∀ z : Str, z.length = n → Q (.str z) H) := by
  intro pins s σ H x y v u Q I rx ry h
  obtain ⟨a, n, rfl, rfl, h1, h2, hl, q⟩ := h
  obtain ⟨t, rfl⟩ := rx
  obtain ⟨t', rfl⟩ := ry
  have hs : sizeLine = 16777216 := sizeLine_eq
  have hn : ¬ ((n : Int) < 1) := by omega
  have hb : ((n : Int) == 1 || a.length == 0) = false := by
    rw [hl]
    simp
    omega
  have e : (⟨(List.replicate ((n : Int)).toNat a.cps).foldl (· ++ ·) #[]⟩ : Str).length = n := by
    show ((List.replicate ((n : Int)).toNat a.cps).foldl (· ++ ·) #[]).size = n
    rw [fold_size]
    show 0 + ((n : Int)).toNat * a.length = n
    rw [hl]
    omega
  refine PySem.P.mul_str ?_ (fun _ _ => ?_) (fun _ _ => ?_) ?_
  · have c1 : ¬ ((n : Int) < -(2 ^ 63 : Int)) := by omega
    have c2 : ¬ ((n : Int) ≥ 2 ^ 63) := by omega
    rw [decide_eq_false c1, decide_eq_false c2]
    rfl
  · rw [hl]
    have h3 : 1 ≤ (2 ^ 63 - 1 : Int) / (n : Int) := by
      rw [Int.le_ediv_iff_mul_le (by omega)]
      omega
    omega
  · rw [hl]
    unfold Builtin.Str.tooLong
    exact decide_eq_false (by omega)
  · rw [if_neg hn, if_neg (by rw [hb]; decide)]
    exact ⟨by rw [e, hs]; omega, ⟨.str _, H, I.tok _, ⟨_, rfl⟩, q _ e⟩⟩
/-- set(t), t a tuple of ints -/
def rSetT (K : PySem.W.Frag) (w : World) : List V → Hp → VK → Prop := fun vs H Q => ∃ (a : Addr) (ns : List Int), vs = [V.ref a] ∧ SqT K H a (ns.map V.int) ∧ ns.length ≤ 60 ∧
  ∀ (p : Addr) (c : Nat), c ≤ ns.length → H p = none → Q (.ref p) (upd H p (SetO w p (fun j => decide (j ∈ ns)) c))
theorem cr_setT (hc : X.calm = true) : CallR X (.type "set") (rSetT X.K X.w) := by
  intro pins s σ H xs us Q I r h
  obtain ⟨a, ns, rfl, ha, hl, q⟩ := h
  obtain ⟨u, rfl, rx⟩ := vals1 r
  cases rx
  obtain ⟨its, ri, p, _⟩ := I.tuple ha
  have hb : ns.length + 1 < scanBound := Nat.lt_of_le_of_lt (Nat.succ_le_succ hl) (by decide)
  refine L2.call_set_tupI ns (I.ok.hd hc) p (by simpa using intsAre_of ri) hb fun h' tk c R hcl hk => ?_
  exact ⟨.ref _, upd H s.heap.objs.size (SetO X.w s.heap.objs.size (fun j => decide (j ∈ ns)) c), I.laid (t' := tk) hk (Nat.le_refl _) (setO_new R), rfl, q _ c hcl (I.hok.fresh (Nat.le_refl _))⟩
/-- repr of data (where no repr is under way) -/
def rRepr (K : PySem.W.Frag) : List V → Hp → VK → Prop := fun vs H Q => ∃ x d, vs = [V.ref x] ∧ Dp K H (.ref x) d ∧ d.showable = true ∧ d.hasDict = false ∧ d.depth ≤ 60 ∧ d.shown.length ≤ sizeLine ∧ Q (.str d.shown) H
theorem cr_repr (hg : X.A.guards = some []) (hu : X.A.units + 64 < cLine) : CallR X (.builtin "repr") (rRepr X.K) := by
  intro pins s σ H xs us Q I r h
  obtain ⟨a, d, rfl, hd, h1, h2, h3, h4, q⟩ := h
  obtain ⟨u, rfl, rx⟩ := vals1 r
  cases rx
  obtain ⟨as, rr⟩ := Dp.reads I d _ _ hd rfl
  refine repr_of_reads' rr h1 (fun z => by rw [h2] at z; cases z) hg (by omega) (fun b o e => e) (fun h' u tk hk => ?_) h4
  exact ⟨.str d.shown, H, I.kept hk, ⟨_, rfl⟩, q⟩
end
end K0

namespace K0
open PySem L2 Evl
/-! ### the heap but for one list -/
def hid (o : Option Addr) (H : Hp) : Hp := fun b => if o = some b then none else H b
section
variable {o : Option Addr} {a : Addr} {H H' H'' : Hp}
theorem hid_ex (e : Ex H H') : Ex (hid o H) (hid o H') := fun b u h => by
  unfold hid at h ⊢
  split at h
  · cases h
  · rename_i n
    rw [if_neg n]
    exact e b u h
theorem hid_le : Ex (hid o H) H := fun b u h => by
  unfold hid at h
  split at h
  · cases h
  · exact h
theorem hid_none : hid none H = H := by
  funext b
  unfold hid
  rw [if_neg (by simp)]
theorem hid_at {b : Addr} {u : HO} (h : H b = some u) (n : b ≠ a) : hid (some a) H b = some u := by
  unfold hid
  rw [if_neg (by simpa using fun z => n z.symm)]
  exact h
/-- all but what stands at a is as it was -/
def Bt (a : Addr) (H H' : Hp) : Prop := Ex (hid (some a) H) (hid (some a) H')
theorem Bt.refl : Bt a H H := Ex.refl _
theorem Bt.trans (h : Bt a H H') (h' : Bt a H' H'') : Bt a H H'' := Ex.trans h h'
theorem Bt.of (e : Ex H H') : Bt a H H' := hid_ex e
theorem Bt.upd {u : HO} : Bt a H (L2.upd H a u) := fun b v h => by
  unfold hid at h ⊢
  split at h
  · cases h
  · rename_i n
    have n' : b ≠ a := fun z => n (by rw [z])
    rw [if_neg n, upd_ne n']
    exact h
theorem Bt.at {b : Addr} {u : HO} (e : Bt a H H') (n : b ≠ a) (h : H b = some u) : H' b = some u := hid_le _ _ (e _ _ (hid_at h n))
theorem Bt.sqL {K : PySem.W.Frag} {b : Addr} {xs : List V} (e : Bt a H H') (n : b ≠ a) (h : SqL K H b xs) : SqL K H' b xs := by
  rcases h with (h | ⟨o, h⟩) | h
  · exact .inl (.inl (e.at n h))
  · exact .inl (.inr ⟨o, e.at n h⟩)
  · exact .inr h
theorem Bt.sqT {K : PySem.W.Frag} {b : Addr} {xs : List V} (e : Bt a H H') (n : b ≠ a) (h : SqT K H b xs) : SqT K H' b xs := by
  rcases h with (h | ⟨o, h⟩) | h
  · exact .inl (.inl (e.at n h))
  · exact .inl (.inr ⟨o, e.at n h⟩)
  · exact .inr h
theorem Bt.free {b : Addr} (e : Bt a H H') (n : b ≠ a) (h : H' b = none) : H b = none := by
  cases z : H b with
  | none => rfl
  | some u =>
    rw [e.at n z] at h
    cases h
end
def DiceAt (H : Hp) (a : Addr) : Prop := ∃ d0 d1 d2 : Int, H a = some (.lst [.int d0, .int d1, .int d2])
theorem DiceAt.ex {H H' : Hp} {a : Addr} (e : Ex H H') (h : DiceAt H a) : DiceAt H' a := by
  obtain ⟨x, y, z, h⟩ := h
  exact ⟨x, y, z, e _ _ h⟩
theorem DiceAt.ne {H : Hp} {a p : Addr} (h : DiceAt H a) (hp : H p = none) : p ≠ a := by
  obtain ⟨x, y, z, h⟩ := h
  exact (ne_of_none h hp).symm
section
variable {K : PySem.W.Frag} {σ : L2.St} {H H' : Hp} {ta tb te tx : TE} {t u : TT} {x y z v : V}
theorem rc_abs {i : Int} : RC (fun xs H Q => ∃ i, xs = [.int i] ∧ Q (.int (if i < 0 then -i else i)) H) [.int i] H (.int (if i < 0 then -i else i)) := fun H1 _ _ q => ⟨i, rfl, q H1 (Ex.refl _)⟩
theorem rc_max2 {i j : Int} : RC (fun xs H Q => ∃ i j, xs = [.int i, .int j] ∧ Q (.int (if j > i then j else i)) H) [.int i, .int j] H (.int (if j > i then j else i)) := fun H1 _ _ q => ⟨i, j, rfl, q H1 (Ex.refl _)⟩
theorem rc_min2 {i j : Int} : RC (fun xs H Q => ∃ i j, xs = [.int i, .int j] ∧ Q (.int (if j < i then j else i)) H) [.int i, .int j] H (.int (if j < i then j else i)) := fun H1 _ _ q => ⟨i, j, rfl, q H1 (Ex.refl _)⟩
theorem rc_int1 {i : Int} : RC (fun xs H Q => (∃ i, xs = [.int i] ∧ Q (.int i) H) ∨ ∃ k, xs = [.bl k] ∧ Q (.int (if k then 1 else 0)) H) [.int i] H (.int i) := fun H1 _ _ q => Or.inl ⟨i, rfl, q H1 (Ex.refl _)⟩
theorem rc_intB {b : Bool} : RC (fun xs H Q => (∃ i, xs = [.int i] ∧ Q (.int i) H) ∨ ∃ k, xs = [.bl k] ∧ Q (.int (if k then 1 else 0)) H) [.bl b] H (.int (if b then 1 else 0)) := fun H1 _ _ q => Or.inr ⟨b, rfl, q H1 (Ex.refl _)⟩
theorem rv_pow {i : Int} {n : Nat} (h : n ≤ 1000000) (hi : i.natAbs < 2 ^ 64) : RV (rI CPow fun i j => .int (i ^ j.toNat)) (.int i) (.int (n : Int)) H (.int (i ^ n)) := rv_I (by exact ⟨by omega, by omega, hi⟩)
/-- a chosen value -/
theorem ev_ifv {b : Bool} {v w : V} (h : EvT t σ H b) (h1 : b = true → Ev ta σ H v) (h2 : b = false → Ev tb σ H w) : Ev (tIf t ta tb) σ H (if b then v else w) := by
  cases b with
  | true => exact ev_if h (fun _ => h1 rfl) (fun z => by cases z)
  | false => exact ev_if h (fun z => by cases z) (fun _ => h2 rfl)
end
section
variable {P : Program} {w : World} {K : PySem.W.Frag} {mg : Str → Option Value} {base : Heap} {A : Ad} {D : Fd}
def sp_law_dice (K : PySem.W.Frag) : Sp := fun vs H Q _ => ∃ (a : Addr) (ns : List Int) (i : Nat), vs = [.ref a, .int (i : Int)] ∧ SqL K H a (ns.map V.int) ∧ ∀ p H', H p = none → Ex H H' → DiceAt H' p → Q (.ref p) H'
theorem len_law_dice {vs : List V} {H : Hp} {Q : VK} {E : XK} (h : sp_law_dice K vs H Q E) : vs.length = 2 := by
  obtain ⟨a, ns, i, rfl, _⟩ := h
  rfl
theorem ok_law_dice (T : Txt K mg A D) : FnOk P w K mg base CX0 1 A.law_dice D.law_dice ["script", "spot"] (sp_law_dice K) := by
  refine T.F_law_dice.ok sc_law_dice (fun vs H Q E h => len_law_dice h) (fun cdv A0 outer s H vs Q E hr h => ?_)
  refine ⟨_, (pss_cons (ps_set (i := 2) sc_law_dice.nd rfl (Or.inl rfl) (pe_ifExp (pt_cmpR op_lt (pv 1) (pe_callB call_len (by rfl) T.b_len (by decide +kernel) (pa_cons (pv 0) pa_nil)) (nomark _)) (pe_callTy call_int1 (by rfl) T.b_int (by decide +kernel) (pa_cons (pe_ix ix_list (pv 0) (pv 1) (fun _ _ => rfl)) pa_nil)) (pe_op op_add (pe_op op_mul pe_int (pv 1)) pe_int)))
  (pss_cons (ps_set (i := 3) sc_law_dice.nd rfl (Or.inl rfl) (pe_op op_mod (pe_callB (call_max2 rfl) (by rfl) T.b_max (by decide +kernel) (pa_cons pe_int (pa_cons (pe_op op_sub (pe_callB call_abs (by rfl) T.b_abs (by decide +kernel) (pa_cons (pv 2) pa_nil)) (pe_op op_pow pe_int pe_int)) pa_nil))) (pe_op op_mulW (pe_op op_pow pe_int pe_int) (pe_op op_pow pe_int pe_int))))
  (pss_one (ps_ret (pe_lst (pa_cons (pv 3) (pa_cons (pe_op op_add (pe_op op_add (pe_op op_add (pe_op op_mul (pe_op op_mod (pe_callB call_abs (by rfl) T.b_abs (by decide +kernel) (pa_cons (pv 2) pa_nil)) pe_int) pe_int) (pe_op op_mul pe_int (pv 1))) (pe_op op_mul pe_int (pe_callTy call_int1 (by rfl) T.b_int (by decide +kernel) (pa_cons (pe_cmpR op_lt (pv 2) pe_int (nomark _)) pa_nil)))) pe_int) (pa_cons pe_int pa_nil)))))))), ?_⟩
  obtain ⟨a, ns, i, rfl, ha, k⟩ := h
  refine q_asg (v := .int (if i < ns.length then ns.getD i 0 else 97 * (i : Int) + 61)) ?_ fun H1 e1 => ?_
  · refine ev_is (ev_ifv (b := decide ((i : Int) < (ns.length : Int))) (v := .int (ns.getD i 0)) (w := .int (97 * (i : Int) + 61)) (et_test (ev_is (ev_op (ev_var rfl) (ev_cb (ea_cons (ev_var rfl) ea_nil) (rc_lenL ha)) rv_I0) (by rw [List.length_map]))) (fun hb => ?_) (fun hb => ?_)) ?_
    · have hi : i < ns.length := by have := of_decide_eq_true hb; omega
      refine ev_cb (ea_cons (ev_op (ev_var rfl) (ev_var rfl) (rv_ixL ha (at_of (j := i) rfl ?_))) ea_nil) rc_int1
      rw [List.getElem?_map, List.getD_eq_getElem?_getD, List.getElem?_eq_getElem hi]
      rfl
    · exact ev_op (ev_op ev_c (ev_var rfl) (rv_I (.inl ⟨by decide, by decide⟩))) ev_c rv_I0
    · by_cases c : i < ns.length
      · rw [if_pos c, if_pos (decide_eq_true (by omega))]
      · rw [if_neg c, if_neg (by rw [decide_eq_false (by omega)]; decide)]
  generalize (if i < ns.length then ns.getD i 0 else 97 * (i : Int) + 61) = c
  refine q_asg (ev_op (ev_cb (ea_cons ev_c (ea_cons (ev_op (ev_cb (ea_cons (ev_var rfl) ea_nil) rc_abs) (ev_op ev_c ev_c (rv_pow (n := 16) (by decide) (by decide))) rv_I0) ea_nil)) rc_max2)
    (ev_op (ev_op ev_c ev_c (rv_pow (n := 57) (by decide) (by decide))) (ev_op ev_c ev_c (rv_pow (n := 60) (by decide) (by decide))) (rv_I (by show _ < _; decide +kernel))) (rv_I (by decide +kernel))) fun H2 e2 => ?_
  refine s_retL (el_lst (ea_cons (ev_var rfl) (ea_cons (ev_op (ev_op (ev_op (ev_op (ev_op (ev_cb (ea_cons (ev_var rfl) ea_nil) rc_abs) ev_c (rv_I (by decide))) ev_c (rv_I (.inr ⟨by decide, by decide⟩)))
    (ev_op ev_c (ev_var rfl) (rv_I (.inl ⟨by decide, by decide⟩))) rv_I0) (ev_op ev_c (ev_cb (ea_cons (ev_op (ev_var rfl) ev_c rv_I0) ea_nil) rc_intB) (rv_I (.inl ⟨by decide, by decide⟩))) rv_I0) ev_c rv_I0) (ea_cons ev_c ea_nil))) (by simp)) fun p H3 hp e3 h3 => ?_
  exact k p H3 (fresh_back (e1.trans e2) hp) ((e1.trans e2).trans e3) ⟨_, _, _, h3⟩
def sp_law_roll (K : PySem.W.Frag) : Sp := fun vs H Q _ => ∃ (a : Addr) (m : Int), vs = [.ref a, .int m] ∧ DiceAt H a ∧ 0 < m ∧ m < 1000000 ∧ ∀ r H', 0 ≤ r → r < m → Bt a H H' → DiceAt H' a → Q (.int r) H'
theorem len_law_roll {vs : List V} {H : Hp} {Q : VK} {E : XK} (h : sp_law_roll K vs H Q E) : vs.length = 2 := by
  obtain ⟨a, m, rfl, _⟩ := h
  rfl
theorem ok_law_roll (T : Txt K mg A D) : FnOk P w K mg base CX0 1 A.law_roll D.law_roll ["dice", "most"] (sp_law_roll K) := by
  refine T.F_law_roll.ok sc_law_roll (fun vs H Q E h => len_law_roll h) (fun cdv A0 outer s H vs Q E hr h => ?_)
  refine ⟨_, (pss_cons (ps_if (pt_cmpR op_gt (pe_ix ix_list (pv 0) pe_int (fun _ _ => rfl)) pe_int (nomark _)) (pss_cons (ps_set (i := 2) sc_law_roll.nd rfl (Or.inl rfl) (pe_op op_mod (pe_callTy call_int1 (by rfl) T.b_int (by decide +kernel) (pa_cons (pe_ix ix_list (pv 0) pe_int (fun _ _ => rfl)) pa_nil)) (pv 1)))
  (pss_cons (ps_asg (pe_op op_fdiv (pe_ix ix_list (pv 0) pe_int (fun _ _ => rfl)) (pv 1)) (pg_sub (pv 0) pe_int set_list))
  (pss_one (ps_ret (pv 2))))) pss_nil)
  (pss_cons (ps_asg (pe_op op_add (pe_ix ix_list (pv 0) pe_int (fun _ _ => rfl)) pe_int) (pg_sub (pv 0) pe_int set_list))
  (pss_cons (ps_set (i := 3) sc_law_roll.nd rfl (Or.inl rfl) (pe_op op_mod (pe_callTy call_int1 (by rfl) T.b_int (by decide +kernel) (pa_cons (pe_op op_add (pe_ix ix_list (pv 0) pe_int (fun _ _ => rfl)) (pe_op op_mul pe_int (pe_ix ix_list (pv 0) pe_int (fun _ _ => rfl)))) pa_nil)) pe_int))
  (pss_cons (ps_set (i := 4) sc_law_roll.nd rfl (Or.inl rfl) (pe_op op_add (pe_op op_mul (pe_op op_mod (pe_callTy call_int1 (by rfl) T.b_int (by decide +kernel) (pa_cons (pe_op op_add (pe_op op_mul (pv 3) (pv 3)) (pe_op op_mul pe_int (pe_ix ix_list (pv 0) pe_int (fun _ _ => rfl)))) pa_nil)) pe_int) pe_int) (pv 3)))
  (pss_one (ps_ret (pe_op op_mod (pe_callTy call_int1 (by rfl) T.b_int (by decide +kernel) (pa_cons (pe_op op_fdiv (pv 4) pe_int) pa_nil)) (pv 1)))))))), ?_⟩
  obtain ⟨a, m, rfl, ⟨d0, d1, d2, ha⟩, hm, hm2, k⟩ := h
  have hmod : ∀ x : Int, 0 ≤ x % m ∧ x % m < m := fun x => ⟨Int.emod_nonneg _ (by omega), Int.emod_lt_of_pos _ hm⟩
  refine q_when (b := decide (0 < d0)) (et_test (ev_op (ev_op (ev_var rfl) ev_c (rv_ixL (sq_of ha) (at_of (j := 0) rfl rfl))) ev_c rv_I0)) (fun hb H1 e1 => ?_) (fun hb H1 e1 => ?_)
  · have h1 := e1 _ _ ha
    refine q_asg (ev_op (ev_cb (ea_cons (ev_op (ev_var rfl) ev_c (rv_ixL (sq_of h1) (at_of (j := 0) rfl rfl))) ea_nil) rc_int1) (ev_var rfl) (rv_I hm)) fun H2 e2 => ?_
    have h2 := e2 _ _ h1
    refine q_setL (j := 0) h2 (ev_op (ev_op (ev_var rfl) ev_c (rv_ixL (sq_of h2) (at_of (j := 0) rfl rfl))) (ev_var rfl) (rv_I ⟨hm, by omega⟩)) (ev_var rfl) ev_c (by simp) fun H3 e3 => ?_
    refine s_ret (ev_var rfl) fun H4 e4 => ?_
    exact k _ H4 (hmod _).1 (hmod _).2 ((Bt.of ((e1.trans e2).trans e3)).trans (Bt.upd.trans (Bt.of e4))) ⟨_, _, _, e4 _ _ upd_same⟩
  · have h1 := e1 _ _ ha
    refine q_setL (j := 2) h1 (ev_op (ev_op (ev_var rfl) ev_c (rv_ixL (sq_of h1) (at_of (j := 2) rfl rfl))) ev_c rv_I0) (ev_var rfl) ev_c (by simp) fun H2 e2 => ?_
    have h2 : (L2.upd H2 a (.lst [.int d0, .int d1, .int (d2 + 1)])) a = some (.lst [.int d0, .int d1, .int (d2 + 1)]) := upd_same
    refine q_asg (v := .int ((d1 + 71593063 * (d2 + 1)) % 2305843009213693487)) (ev_op (ev_cb (ea_cons (ev_op (ev_op (ev_var rfl) ev_c (rv_ixL (sq_of h2) (at_of (j := 1) rfl rfl))) (ev_op ev_c (ev_op (ev_var rfl) ev_c (rv_ixL (sq_of h2) (at_of (j := 2) rfl rfl))) (rv_I (.inl ⟨by decide, by decide⟩))) rv_I0) ea_nil) rc_int1) ev_c (rv_I (by decide))) fun H3 e3 => ?_
    have h3 := e3 _ _ h2
    have hone : 0 ≤ (d1 + 71593063 * (d2 + 1)) % 2305843009213693487 ∧ (d1 + 71593063 * (d2 + 1)) % 2305843009213693487 < 2305843009213693487 := ⟨Int.emod_nonneg _ (by decide), Int.emod_lt_of_pos _ (by decide)⟩
    generalize (d1 + 71593063 * (d2 + 1)) % 2305843009213693487 = one at hone ⊢
    refine q_asg (v := .int ((one * one + 89 * (d2 + 1)) % 2305843009213693253 * 6700417 + one)) (ev_op (ev_op (ev_op (ev_cb (ea_cons (ev_op (ev_op (ev_var rfl) (ev_var rfl) (rv_I (.inl ⟨by omega, by omega⟩))) (ev_op ev_c (ev_op (ev_var rfl) ev_c (rv_ixL (sq_of h3) (at_of (j := 2) rfl rfl))) (rv_I (.inl ⟨by decide, by decide⟩))) rv_I0) ea_nil) rc_int1) ev_c (rv_I (by decide))) ev_c (rv_I (.inr ⟨by decide, by decide⟩))) (ev_var rfl) rv_I0) fun H4 e4 => ?_
    refine s_ret (ev_op (ev_cb (ea_cons (ev_op (ev_var rfl) ev_c (rv_I ⟨by decide, by decide⟩)) ea_nil) rc_int1) (ev_var rfl) (rv_I hm)) fun H5 e5 => ?_
    exact k _ H5 (hmod _).1 (hmod _).2 ((Bt.of (e1.trans e2)).trans (Bt.upd.trans (Bt.of ((e3.trans e4).trans e5)))) ⟨_, _, _, ((e3.trans e4).trans e5) _ _ h2⟩
def sp_law_pick (K : PySem.W.Frag) : Sp := fun vs H Q _ => ∃ (a p : Addr) (xs : List V), vs = [.ref a, .ref p] ∧ DiceAt H a ∧ p ≠ a ∧ SqL K H p xs ∧ xs ≠ [] ∧ xs.length < 1000000 ∧ ∀ x H', x ∈ xs → Bt a H H' → DiceAt H' a → Q x H'
theorem len_law_pick {vs : List V} {H : Hp} {Q : VK} {E : XK} (h : sp_law_pick K vs H Q E) : vs.length = 2 := by
  obtain ⟨a, p, xs, rfl, _⟩ := h
  rfl
theorem ok_law_pick (T : Txt K mg A D) : FnOk P w K mg base CX0 2 A.law_pick D.law_pick ["dice", "items"] (sp_law_pick K) := by
  have G_law_roll : FnOk P w K mg base CX0 1 A.law_roll D.law_roll ["dice", "most"] (sp_law_roll K) := ok_law_roll T
  refine T.F_law_pick.ok sc_law_pick (fun vs H Q E h => len_law_pick h) (fun cdv A0 outer s H vs Q E hr h => ?_)
  refine ⟨_, (pss_one (ps_ret (pe_ix ix_list (pv 1) (pe_call G_law_roll (hr.mono (by decide)) rfl T.g_law_roll T.F_law_roll.kp T.b_law_roll .nil pass0 (pa_cons (pv 0) (pa_cons (pe_callB call_len (by rfl) T.b_len (by decide +kernel) (pa_cons (pv 1) pa_nil)) pa_nil))) (fun _ _ => rfl)))), ?_⟩
  obtain ⟨a, p, xs, rfl, ha, hne, hp, hx, hx2, k⟩ := h
  have hpos : 0 < xs.length := List.length_pos_iff.mpr hx
  refine ⟨_, rfl, ?_⟩
  refine (ea_cons (ev_var rfl) (ea_cons (ev_cb (ea_cons (ev_var rfl) ea_nil) (rc_lenL hp)) ea_nil) : EvA _ _ H [.ref a, .int (xs.length : Nat)]) H (Ex.refl _) _ fun H1 e1 => ?_
  refine ⟨a, _, rfl, ha.ex e1, by omega, by omega, fun r H2 h0 h1 hb hd => ?_⟩
  have hbt := (Bt.of e1).trans hb
  have hj : r.toNat < xs.length := by omega
  refine ⟨p, xs, r, xs[r.toNat], rfl, rfl, hbt.sqL hne hp, at_of (j := r.toNat) (by omega) (List.getElem?_eq_getElem hj), ?_⟩
  exact k _ H2 (List.getElem_mem hj) hbt hd
end
end K0

namespace K0
open PySem L2 Evl
/-! ### what evaluates to some value of which R holds -/
def Mono (R : V → Hp → Prop) : Prop := ∀ v H H', Ex H H' → R v H → R v H'
def EvR (te : TE) (σ : L2.St) (H : Hp) (R : V → Hp → Prop) : Prop := ∀ H1, Ex H H1 → ∀ Q : VK, (∀ v H2, Ex H1 H2 → R v H2 → Q v H2) → te σ H1 Q
def EvAR (ta : TA) (σ : L2.St) (H : Hp) (n : Nat) (R : V → Hp → Prop) : Prop := ∀ H1, Ex H H1 → ∀ Q : List V → Hp → Prop, (∀ vs H2, Ex H1 H2 → vs.length = n → (∀ v ∈ vs, R v H2) → Q vs H2) → ta σ H1 Q
/-- a value of which the part of the heap but for o tells data of at most this size -/
def Rz (K : PySem.W.Frag) (o : Option Addr) (s : Nat) : V → Hp → Prop := fun v H => ∃ d, Rp K (hid o H) v d ∧ d.size ≤ s
def live (o : Option Addr) (H : Hp) : Prop := ∀ a, o = some a → H a ≠ none
section
variable {K : PySem.W.Frag} {σ : L2.St} {H H' : Hp} {ta tb te tx : TE} {tr : TA} {t u : TT} {x y z v : V} {R : V → Hp → Prop} {n s s' : Nat} {o : Option Addr}
theorem mono_Rz : Mono (Rz K o s) := fun v H H' e ⟨d, h, hs⟩ => ⟨d, h.ex (hid_ex e), hs⟩
theorem Rz.le (h : Rz K o s v H) (hs : s ≤ s') : Rz K o s' v H := let ⟨d, r, z⟩ := h; ⟨d, r, Nat.le_trans z hs⟩
theorem live.ex (h : live o H) (e : Ex H H') : live o H' := fun a ha => by
  cases z : H a with
  | none => exact absurd z (h a ha)
  | some u =>
    rw [e a u z]
    simp
theorem live.new {p : Addr} {u : HO} (h : live o H) (hp : H p = none) : hid o (upd H p u) p = some u := by
  unfold hid
  rw [if_neg, upd_same]
  intro z
  exact h p z hp
theorem live_of {a : Addr} (h : DiceAt H a) : live (some a) H := fun b hb => by
  obtain ⟨d0, d1, d2, h⟩ := h
  have e := Option.some.inj hb
  subst e
  rw [h]
  simp
theorem live_none : live none H := fun b hb => by cases hb
theorem er_ev (h : Ev te σ H v) (hr : ∀ H', R v H') : EvR te σ H R := fun H1 e Q q => h H1 e Q fun H2 e2 => q v H2 e2 (hr H2)
theorem ear_nil : EvAR tNil σ H 0 R := fun H1 _ _ q => q [] H1 (Ex.refl _) rfl (fun v h => by cases h)
theorem ear_cons (hm : Mono R) (h : EvR te σ H R) (hr : EvAR tr σ H n R) : EvAR (tCons te tr) σ H (n + 1) R := fun H1 e Q q =>
  h H1 e _ fun v H2 e2 hv => hr H2 (e.trans e2) _ fun vs H3 e3 hl hvs => q (v :: vs) H3 (e2.trans e3) (by rw [List.length_cons, hl]) fun w hw => by
    rcases List.mem_cons.mp hw with hw | hw
    · rw [hw]
      exact hm _ _ _ e3 hv
    · exact hvs w hw
def EvAL (ta : TA) (σ : L2.St) (H : Hp) (n : Nat) (R : V → Hp → Prop) : Prop := ∀ H1, Ex H H1 → ∀ Q : List V → Hp → Prop, (∀ vs H2, Ex H1 H2 → vs.length ≤ n → (∀ v ∈ vs, R v H2) → Q vs H2) → ta σ H1 Q
theorem eal_nil : EvAL tNil σ H n R := fun H1 _ _ q => q [] H1 (Ex.refl _) (Nat.zero_le _) (fun v h => by cases h)
theorem eal_cons (hm : Mono R) (h : EvR te σ H R) (hr : EvAL tr σ H n R) : EvAL (tCons te tr) σ H (n + 1) R := fun H1 e Q q =>
  h H1 e _ fun v H2 e2 hv => hr H2 (e.trans e2) _ fun vs H3 e3 hl hvs => q (v :: vs) H3 (e2.trans e3) (by rw [List.length_cons]; omega) fun w hw => by
    rcases List.mem_cons.mp hw with hw | hw
    · rw [hw]
      exact hm _ _ _ e3 hv
    · exact hvs w hw
theorem rpAll_of {G : Hp} : ∀ {vs : List V}, (∀ v ∈ vs, ∃ d, Rp K G v d ∧ d.size ≤ s) → ∃ ds, RpAll K G vs ds ∧ D.sizeL ds ≤ vs.length * s
  | [], _ => ⟨[], .nil, Nat.zero_le _⟩
  | v :: vs, h => by
    obtain ⟨d, h1, h2⟩ := h v List.mem_cons_self
    obtain ⟨ds, h3, h4⟩ := rpAll_of (vs := vs) fun w hw => h w (List.mem_cons_of_mem _ hw)
    refine ⟨d :: ds, .cons h1 h3, ?_⟩
    rw [List.length_cons, Nat.succ_mul]
    simp only [D.sizeL]
    omega
theorem er_tup (hl : live o H) (h : EvAL tr σ H n (Rz K o s)) (hn : n ≤ 1000) (hs : 1 + n * s ≤ s') : EvR (tTup tr) σ H (Rz K o s') := fun H1 e Q q =>
  h H1 e _ fun vs H2 e2 hlen hvs => ⟨sz_of (by omega), fun p hp => by
    have hl2 := hl.ex (e.trans e2)
    refine q (.ref p) _ (e2.trans (Ex.new hp)) ?_
    obtain ⟨ds, h1, h2⟩ := rpAll_of hvs
    refine ⟨.tup ds, .tup (st_of (hl2.new hp)) (h1.ex (hid_ex (Ex.new hp))), ?_⟩
    have h5 : vs.length * s ≤ n * s := Nat.mul_le_mul_right s hlen
    simp only [D.size]
    omega⟩
theorem er_lst (hl : live o H) (h : EvAL tr σ H n R) (hn : n ≤ 1000) (hs : 1 ≤ s') : EvR (tLst tr) σ H (Rz K o s') := fun H1 e Q q =>
  h H1 e _ fun vs H2 e2 hlen hvs => ⟨sz_of (by omega), fun p hp => q (.ref p) _ (e2.trans (Ex.new hp)) ⟨.oth, .lst ((hl.ex (e.trans e2)).new hp), hs⟩⟩
theorem er_dict (hl : live o H) (hs : 1 ≤ s') : EvR tDNewK σ H (Rz K o s') := fun H1 e Q q => fun p hp => q (.ref p) _ (Ex.new hp) ⟨.oth, .dct ((hl.ex e).new hp), hs⟩
theorem rz_non (h : 1 ≤ s) : Rz K o s .non H := ⟨.non, .non, h⟩
theorem rz_bl {b : Bool} (h : 1 ≤ s) : Rz K o s (.bl b) H := ⟨.bl b, .bl b, h⟩
theorem rz_int {i : Int} (h : 1 ≤ s) : Rz K o s (.int i) H := ⟨.int i, .int i, h⟩
theorem rz_str {z : Str} (h : 1 + z.length / 100 ≤ s) : Rz K o s (.str z) H := ⟨.str z, .str z, h⟩
theorem rv_pw {i j : Int} (h : 0 ≤ j ∧ j ≤ 1000000 ∧ i.natAbs < 2 ^ 64) : RV (rI CPow fun i j => .int (i ^ j.toNat)) (.int i) (.int j) H (.int (i ^ j.toNat)) := rv_I h
theorem er_mulS {a : Str} {n : Nat} (ha : Ev ta σ H (.str a)) (hb : Ev tb σ H (.int (n : Int))) (h1 : 1 < n) (h2 : n ≤ 5000) (hl : a.length = 1) (hs : 1 + n / 100 ≤ s) :
    EvR (tOp (fun x y H Q => ∃ (s : Str) (n : Nat), x = V.str s ∧ y = V.int (n : Int) ∧ 1 < n ∧ n ≤ 5000 ∧ s.length = 1 ∧ ∀ z : Str, z.length = n → Q (.str z) H) ta tb) σ H (Rz K o s) := fun H1 e Q q =>
  ha H1 e _ fun H2 e2 => hb H2 (e.trans e2) _ fun H3 e3 => ⟨a, n, rfl, rfl, h1, h2, hl, fun z hz => q (.str z) H3 (e2.trans e3) ⟨.str z, .str z, by simp only [D.size]; omega⟩⟩
/-- a call in a def that changes the heap -/
theorem c_call {sp : Sp} {dvs vs : List V} {E : XK} {ta : TA} {Q : VK} (h : EvA ta σ H vs) (k : ∀ H1, Ex H H1 → sp (vs ++ dvs) H1 Q E) : tCall sp dvs E ta σ H Q := h H (Ex.refl H) _ k
theorem s_retC {D : Ends} {sp : Sp} {dvs vs : List V} {E : XK} {ta : TA} (h : EvA ta σ H vs) (k : ∀ H1, Ex H H1 → sp (vs ++ dvs) H1 D.rt E) : tRet (tCall sp dvs E ta) D σ H := h H (Ex.refl H) _ k
theorem s_asgC {D : Ends} {sp : Sp} {dvs vs : List V} {E : XK} {ta : TA} {i : Nat} (h : EvA ta σ H vs) (k : ∀ H1, Ex H H1 → sp (vs ++ dvs) H1 (fun v H2 => D.nx (σ.set i (some v)) H2) E) : tAsg (tCall sp dvs E ta) (gName i) D σ H := h H (Ex.refl H) _ k
theorem q_asgC {D : Ends} {tz : TS} {sp : Sp} {dvs vs : List V} {E : XK} {ta : TA} {i : Nat} (h : EvA ta σ H vs) (k : ∀ H1, Ex H H1 → sp (vs ++ dvs) H1 (fun v H2 => tz D (σ.set i (some v)) H2) E) : tSeq (tAsg (tCall sp dvs E ta) (gName i)) tz D σ H := h H (Ex.refl H) _ k
/-- some = [..], some = some + [..] -/
theorem q_asgLR {D : Ends} {tz : TS} {i : Nat} (hm : Mono R) (h : EvAR tr σ H n R) (hn : n ≤ 1000) (k : ∀ p xs H1, H p = none → Ex H H1 → H1 p = some (.lst xs) → xs.length = n → (∀ v ∈ xs, R v H1) → tz D (σ.set i (some (.ref p))) H1) :
    tSeq (tAsg (tLst tr) (gName i)) tz D σ H :=
  h H (Ex.refl H) _ fun vs H1 e1 hl hvs => ⟨sz_of (by omega), fun p hp => k p vs _ (fresh_back e1 hp) (e1.trans (Ex.new hp)) upd_same hl fun v hv => hm _ _ _ (Ex.new hp) (hvs v hv)⟩
theorem q_asgCR {D : Ends} {tz : TS} {i : Nat} {q0 : Addr} {ys : List V} (hm : Mono R) (ha : Ev ta σ H (.ref q0)) (h0 : H q0 = some (.lst ys)) (hy : ∀ v ∈ ys, R v H) (h : EvAR tr σ H n R) (hn : n + ys.length ≤ 1000)
    (k : ∀ p xs H1, H p = none → Ex H H1 → H1 p = some (.lst xs) → xs.length = ys.length + n → (∀ v ∈ xs, R v H1) → tz D (σ.set i (some (.ref p))) H1) :
    tSeq (tAsg (tOp rCat ta (tLst tr)) (gName i)) tz D σ H :=
  ha H (Ex.refl H) _ fun H1 e1 => h H1 e1 _ fun vs H2 e2 hl hvs => ⟨sz_of (by omega), fun p hp => by
    have hq : q0 ≠ p := ne_of_none (e2 _ _ (e1 _ _ h0)) hp
    refine ⟨q0, p, ys, vs, rfl, rfl, by rw [upd_ne hq]; exact e2 _ _ (e1 _ _ h0), upd_same, sz_of (by omega), fun p2 hp2 => ?_⟩
    have e3 : Ex H2 (upd H2 p (.lst vs)) := Ex.new hp
    have e4 : Ex (upd H2 p (.lst vs)) (upd (upd H2 p (.lst vs)) p2 (.lst (ys ++ vs))) := Ex.new hp2
    refine k p2 (ys ++ vs) _ (fresh_back ((e1.trans e2).trans e3) hp2) (((e1.trans e2).trans e3).trans e4) upd_same (by rw [List.length_append, hl]) fun v hv => ?_
    rcases List.mem_append.mp hv with hv | hv
    · exact hm _ _ _ (((e1.trans e2).trans e3).trans e4) (hy v hv)
    · exact hm _ _ _ (e3.trans e4) (hvs v hv)⟩
end
end K0

namespace K0
open PySem L2 Evl
/-! ### lists may change, nothing else -/
def ExL (G G' : Hp) : Prop := ∀ b u, G b = some u → G' b = some u ∨ ∃ xs ys, u = .lst xs ∧ G' b = some (.lst ys)
theorem ExL.of {G G' : Hp} (e : Ex G G') : ExL G G' := fun b u h => .inl (e b u h)
theorem ExL.upd {G : Hp} {p : Addr} {xs ys : List V} (h : G p = some (.lst xs)) : ExL G (L2.upd G p (.lst ys)) := fun b u hb => by
  by_cases c : b = p
  · subst c
    rw [h] at hb
    exact .inr ⟨xs, ys, (Option.some.inj hb).symm, upd_same⟩
  · exact .inl (by rw [upd_ne c]; exact hb)
theorem ExL.trans {G G' G'' : Hp} (a : ExL G G') (b : ExL G' G'') : ExL G G'' := fun c u h => by
  rcases a c u h with h1 | ⟨xs, ys, rfl, h1⟩
  · exact b c u h1
  · rcases b c _ h1 with h2 | ⟨_, zs, _, h2⟩
    · exact .inr ⟨xs, ys, rfl, h2⟩
    · exact .inr ⟨xs, zs, rfl, h2⟩
theorem ExL.sqT {K : PySem.W.Frag} {G G' : Hp} {a : Addr} {xs : List V} (e : ExL G G') (h : SqT K G a xs) : SqT K G' a xs := by
  rcases h with (h | ⟨o, h⟩) | h
  · rcases e a _ h with h1 | ⟨_, _, z, _⟩
    · exact .inl (.inl h1)
    · cases z
  · rcases e a _ h with h1 | ⟨_, _, z, _⟩
    · exact .inl (.inr ⟨o, h1⟩)
    · cases z
  · exact .inr h
section
variable {K : PySem.W.Frag} {H H' : Hp}
mutual
theorem Rp.exL {v : V} {d : D} (e : ExL H H') : Rp K H v d → Rp K H' v d
  | .non => .non
  | .bl b => .bl b
  | .int i => .int i
  | .str s => .str s
  | .tup h r => .tup (e.sqT h) (RpAll.exL e r)
  | .lst h => by
    rcases e _ _ h with h1 | ⟨_, ys, _, h1⟩
    · exact .lst h1
    · exact .lst h1
  | .dct h => by
    rcases e _ _ h with h1 | ⟨_, _, z, _⟩
    · exact .dct h1
    · cases z
  | .ins h i => by
    rcases e _ _ h with h1 | ⟨_, _, z, _⟩
    · exact .ins h1 i
    · cases z
theorem RpAll.exL {vs : List V} {ds : List D} (e : ExL H H') : RpAll K H vs ds → RpAll K H' vs ds
  | .nil => .nil
  | .cons h r => .cons (Rp.exL e h) (RpAll.exL e r)
end
end
theorem hid_upd {a p : Addr} {H : Hp} {u : HO} (h : p ≠ a) : hid (some a) (upd H p u) = upd (hid (some a) H) p u := by
  funext b
  unfold hid upd
  by_cases c : b = p
  · subst c
    rw [if_neg (by simpa using fun z => h z.symm), if_pos rfl, if_pos rfl]
  · rw [if_neg c, if_neg c]
/-- a comprehension over a range whose elements are drawn -/
theorem lc_draws {te : TE} {vs : List Nat} {σ : L2.St} {j : Nat} {a : Addr} {n : Nat} {H1 : Hp} {R : V → Hp → Prop} {Q : VK} (hR : ∀ v H H', ExL (hid (some a) H) (hid (some a) H') → R v H → R v H') (hd : DiceAt H1 a) (hn : n ≤ 1000)
    (hw : ∀ x, wipe ((wipe σ vs).set j (some x)) vs = wipe σ vs)
    (turn : ∀ (i : Nat) H', i < n → Bt a H1 H' → DiceAt H' a → ∀ Q : VK, (∀ x H'', Bt a H' H'' → DiceAt H'' a → R x H'' → Q x H'') → te ((wipe σ vs).set j (some (.int ((0 : Int) + (i : Int))))) H' Q)
    (k : ∀ D xs H', H1 D = none → Bt a H1 H' → DiceAt H' a → H' D = some (.lst xs) → xs.length = n → (∀ x ∈ xs, R x H') → Q (.ref D) H') :
    ∀ D, H1 D = none → ∃ W : Nat → Nat → Hp → Prop, (∃ m, W 0 m (upd H1 D (.lst []))) ∧ ∀ i m H, W i m H →
      ((Itr 0 n).stop i H ∧ Q (.ref D) H) ∨ ((Itr 0 n).go i H ∧ ∃ Nx : Hp → Prop, (∀ H', Nx H' → ∃ m', m' < m ∧ W (i + 1) m' H') ∧ ∀ x H', (Itr 0 n).yld i H x H' → gName j x (wipe σ vs) H' fun σ2 H2 => wipe σ2 vs = wipe σ vs ∧ tYes σ2 H2 fun b H3 =>
        if b = true then te σ2 H3 fun y H4 => ∃ acc, H4 D = some (.lst acc) ∧ acc.length < sizeLine ∧ Nx (upd H4 D (.lst (acc ++ [y]))) else Nx H3) := fun D hD => by
  have hne : D ≠ a := hd.ne hD
  refine lc_range (lo := 0) (n := n) (fun i H' => i ≤ n ∧ ∃ acc, H' D = some (.lst acc) ∧ acc.length = i ∧ (∀ x ∈ acc, R x H') ∧ Bt a H1 H' ∧ DiceAt H' a) ⟨Nat.zero_le _, [], upd_same, rfl, fun x h => (by cases h), Bt.of (Ex.new hD), hd.ex (Ex.new hD)⟩ (fun i H' hi p => ?_) (fun H' p => ?_)
  · obtain ⟨_, acc, p1, p2, p3, p4, p5⟩ := p
    refine ⟨hw _, turn i H' hi p4 p5 _ fun x H'' hb hd2 hx => ?_⟩
    have h2 : H'' D = some (.lst acc) := hb.at hne p1
    have eL : ExL (hid (some a) H'') (hid (some a) (upd H'' D (.lst (acc ++ [x])))) := by
      rw [hid_upd hne]
      exact ExL.upd (hid_at h2 hne)
    refine ⟨acc, h2, sz_lt (by omega), hi, acc ++ [x], upd_same, by rw [List.length_append, p2]; rfl, fun y hy => ?_, ?_, ?_⟩
    · rcases List.mem_append.mp hy with hy | hy
      · exact hR _ _ _ ((ExL.of hb).trans eL) (p3 y hy)
      · rw [List.mem_singleton.mp hy]
        exact hR _ _ _ eL hx
    · have h3 := p4.trans hb
      intro b u hbu
      have := h3 b u hbu
      rw [hid_upd hne]
      have hbD : b ≠ D := fun z => by
        subst z
        have := hid_le _ _ hbu
        rw [hD] at this
        cases this
      rw [upd_ne hbD]
      exact this
    · obtain ⟨x0, x1, x2, h⟩ := hd2
      exact ⟨x0, x1, x2, by rw [upd_ne hne.symm]; exact h⟩
  · obtain ⟨_, acc, p1, p2, p3, p4, p5⟩ := p
    exact k D acc H' hD p4 p5 p1 p2 p3
/-- tuple(xs) -/
def rTupOf (K : PySem.W.Frag) : List V → Hp → VK → Prop := fun xs H Q => ∃ p ys, xs = [.ref p] ∧ ((SqL K H p ys ∧ ∀ l, H l = none → Q (.ref l) (upd H l (.tup ys))) ∨ (SqT K H p ys ∧ Q (.ref p) H))
theorem n_next {D : Ends} {σ : L2.St} {H : Hp} (h : D.nx σ H) : tNext D σ H := h
theorem n_ret {D : Ends} {σ : L2.St} {H : Hp} {te : TE} (h : te σ H D.rt) : tRet te D σ H := h
theorem n_cb {r : List V → Hp → VK → Prop} {t : TA} {σ : L2.St} {H : Hp} {Q : VK} (h : t σ H fun vs H1 => r vs H1 Q) : tCB r t σ H Q := h
theorem n_cons {te : TE} {t : TA} {σ : L2.St} {H : Hp} {Q : List V → Hp → Prop} (h : te σ H fun v H1 => t σ H1 fun vs H2 => Q (v :: vs) H2) : tCons te t σ H Q := h
theorem n_rng1 {ta : TA} {σ : L2.St} {H : Hp} {R : It → Hp → Prop} (h : ta σ H fun vs H1 => ∃ j : Int, vs = [.int j] ∧ -(2 ^ 62) ≤ j ∧ j < 2 ^ 62 ∧ R (Itr 0 j.toNat) H1) : iRng1 ta σ H R := h
end K0

namespace K0
open PySem PySem.Spec PyProof.Rows L2 Evl
/-! ### own comparisons, own len, own str -/
/-- what may stand on the right of an own == -/
def RightV (K : PySem.W.Frag) (C : Addr) (H : Hp) (y : V) : Prop :=
  y = .non ∨ (∃ b dy gs, y = .ref b ∧ H b = some (.ins C dy gs)) ∨ ∃ b xs, y = .ref b ∧ SqT K H b xs
section
variable {X : Cx} {CX : CXT} {k : Nat} {C g : Addr} {fd : FuncData} {ps : List Str} {sp : Sp} {E : XK}
/-- a def runs somewhere below the body -/
theorem call_below {A : Around} {pins : List (Addr × Obj)} {σ : L2.St} {H : Hp} {s : Shared} {Q : VK} {us : List Value} {vs : List V}
    (ro : Room k A) (fr : A.frames = X.A.frames) (F : FnOk X.prog X.w X.K X.mg X.base CX k g fd ps sp) (hb : Binds X.K fd ps []) (hx : Passes CX X E)
    (I : Inv X pins σ H s) (r : Vals vs us) (h : sp vs H Q E) : wpAny (model X.prog X.w) A (call (.ref g) us) (EP X pins σ Q) X.xe s := by
  have le : us.length = ps.length := r.length.symm.trans (F.len _ _ _ _ h)
  have e0 : Env0 X.prog X.w X.K X.mg X.base A X.stack s H :=
    let e := I.env0
    ⟨fr ▸ e.frames, e.mod, e.bs, e.bsz, e.funs, e.frf, e.hok, e.bare⟩
  have bb : BindsTo s fd ⟨us, []⟩ (ps.zip us) := by
    have z := hb s us I.kIn (by rw [List.append_nil]; exact le)
    rwa [List.append_nil] at z
  refine wpAny_call (codeAny_mono (F.run A X.stack s H ⟨us, []⟩ us vs Q E ro e0 bb r h) fun o t ho => ?_)
  rcases o with er | fl
  · exact hx pins σ H s er t I ho
  · cases fl with
    | ret u =>
      exact I.after ho
    | next => exact ho.elim
    | brk => exact ho.elim
    | cont => exact ho.elim
theorem right_ty {pins : List (Addr × Obj)} {σ : L2.St} {H : Hp} {s : Shared} {y : V} {u : Value} {M : Model} (I : Inv X pins σ H s) (ry : RelV y u) (h : RightV X.K C H y)
    (n1 : PySem.W.notFirst X.K C (.type "NoneType") = true) (n2 : PySem.W.notFirst X.K C (.type "tuple") = true) : ∃ tb, PySem.W.Looks M s.heap (typeOf u) tb ∧ PySem.W.notFirst X.K C tb = true := by
  rcases h with rfl | ⟨b, dy, gs, rfl, hb⟩ | ⟨b, xs, rfl, hb⟩
  · cases (show u = Value.none from ry)
    exact ⟨.type "NoneType", PySem.W.Looks.of_pure rfl, n1⟩
  · cases (show u = Value.ref b from ry)
    obtain ⟨mB, J, _⟩ := ins_get I.hok hb
    obtain ⟨od, J, _⟩ := J.look
    exact ⟨.ref C, J.type, by simp [PySem.W.notFirst]⟩
  · cases (show u = Value.ref b from ry)
    obtain ⟨its, _, ⟨o, ho, hc, _⟩, _⟩ := I.tuple hb
    refine ⟨.type "tuple", ?_, n2⟩
    have z : PySem.W.Looks M s.heap (typeOf (.ref b)) o.cls := (PySem.W.Looks.ld ho).andThen .now
    rwa [hc] at z
def rEqO (K : PySem.W.Frag) (C : Addr) (sp : Sp) (E : XK) : R2 := fun x y H Q => ∃ a dx fs, x = .ref a ∧ H a = some (.ins C dx fs) ∧ RightV K C H y ∧ sp [x, y] H (fun v H' => ∃ b, v = .bl b ∧ Q (.bl b) H') E
def rNeO (K : PySem.W.Frag) (C : Addr) (sp : Sp) (E : XK) : R2 := fun x y H Q => ∃ a dx fs, x = .ref a ∧ H a = some (.ins C dx fs) ∧ RightV K C H y ∧ sp [x, y] H (fun v H' => ∃ b, v = .bl b ∧ Q (.bl (!b)) H') E
theorem op_eqO (F : FnOk X.prog X.w X.K X.mg X.base CX k g fd ps sp) (hr : Room k X.A) (hb : Binds X.K fd ps []) (hx : Passes CX X E) (hs : PySem.W.findIn X.K (.ref C) "__eq__" = some (some (.ref g)))
    (hf : PySem.W.isFn X.K (.ref g) = true) (n1 : PySem.W.notFirst X.K C (.type "NoneType") = true) (n2 : PySem.W.notFirst X.K C (.type "tuple") = true) : OpR X (compareOp .Eq) (rEqO X.K C sp E) := by
  intro pins s σ H x y v u Q I rx ry h
  obtain ⟨a, dx, fs, rfl, ha, hy, hsp⟩ := h
  cases (show v = Value.ref a from rx)
  obtain ⟨tb, lt, nf⟩ := right_ty (M := model X.prog X.w) I ry hy n1 n2
  obtain ⟨mA, J, _⟩ := ins_get I.hok ha
  obtain ⟨od, J, _⟩ := J.look
  obtain ⟨m, hF⟩ := I.fr
  show wpAny (model X.prog X.w) X.A (richCompare .Eq (.ref a) u) _ _ _
  refine PySem.W.cmp_K (op := .Eq) hr.units0 hF I.ok.mod.kin J lt nf hs hf ?_
  refine wpAny_mono (call_below hr rfl F hb hx I (.cons rx (.cons ry .nil)) hsp) (fun r t z => ?_) fun _ _ q => q
  obtain ⟨w, H', I', rw', b, rfl, q⟩ := z
  cases (show r = Value.bool b from rw')
  exact ⟨.bl b, H', I', rfl, q⟩
/-- a special name that the class has from object -/
theorem special_blt {M : Model} {A : Around} {Ex : Value → Shared → Prop} {s : Shared} {K : PySem.W.Frag} {x C : Addr} {ox : Obj} {od : Option Obj} {name : Str} {id : String} {rest : List Value} {Q : Option Value → Shared → Prop}
    (kin : K.In s.heap) (J : PySem.W.InstAt s.heap x ox C od) (fi : PySem.W.findIn K (.ref C) name = some (some (.builtin id)))
    (bi : ∀ z, bindSpecial (.builtin id) z = pure (.builtin id, [z]))
    (h : wpAny M A (call (.builtin id) (.ref x :: rest)) (fun v => Q (some v)) Ex s) : wpAny M A (callSpecialIfBound? (.ref x) name rest) Q Ex s := by
  simp only [callSpecialIfBound?, bindSpecialIfBound?]
  have last : wpAny M A (call (.builtin id) ([.ref x] ++ rest) >>= fun v => pure (some v)) Q Ex s :=
    wpAny_bind (wpAny_mono h (fun _ _ z => wpAny_pure z) (fun _ _ z => z))
  refine wpAny_holding (wpAny_bind (wpAny_bind (wpAny_bind (J.type.here ((PySem.W.looks_findIn kin fi).here ?_)))))
  refine wpAny_bind (wpAny_askSetting (wpAny_ite ?_))
  split
  · refine wpAny_bind ((PySem.W.Looks.of_pure (bi (.ref x))).here (wpAny_pure ?_))
    exact last
  · refine wpAny_tryCatch (wpAny_bind ((PySem.W.Looks.of_pure (bi (.ref x))).here (wpAny_pure ?_)))
    exact last
theorem op_neO (F : FnOk X.prog X.w X.K X.mg X.base CX k g fd ps sp) (hr : Room (k + 1) X.A) (hb : Binds X.K fd ps []) (hx : Passes CX X E) (hs : PySem.W.findIn X.K (.ref C) "__eq__" = some (some (.ref g)))
    (hne : PySem.W.findIn X.K (.ref C) "__ne__" = some (some (.builtin "object.__ne__"))) (hm : PySem.W.mroIn X.K C (.type "object") = some true)
    (hf : PySem.W.isFn X.K (.ref g) = true) (n1 : PySem.W.notFirst X.K C (.type "NoneType") = true) (n2 : PySem.W.notFirst X.K C (.type "tuple") = true) : OpR X (compareOp .NotEq) (rNeO X.K C sp E) := by
  intro pins s σ H x y v u Q I rx ry h
  obtain ⟨a, dx, fs, rfl, ha, hy, hsp⟩ := h
  cases (show v = Value.ref a from rx)
  obtain ⟨tb, lt, nf⟩ := right_ty (M := model X.prog X.w) I ry hy n1 n2
  obtain ⟨mA, J, _⟩ := ins_get I.hok ha
  obtain ⟨od, J, _⟩ := J.look
  have one : wpAny (model X.prog X.w) X.A (tryCompare (.ref a) "__ne__" u) (fun o t => ∃ w, o = some w ∧ EP X pins σ Q w t) X.xe s := by
    unfold tryCompare
    refine wpAny_bind (special_blt I.kIn J hne PySem.F.cmp_object.ne.bind ?_)
    refine wpAny_call (codeAny_call_builtin PySem.F.cmp_object.ne.plain PySem.F.cmpEntry_ne (PySem.W.check_slot PySem.F.cmpKind_ne PySem.F.cmpSplit_ne (J.type.andThen (PySem.W.looks_mroIn I.kIn hm)) (PySem.F.cmpArgs_ne _ _) ?_))
    unfold Builtin.«object.__ne__»
    refine wpAny_bind (m := slotArgs "__ne__" 1 _) (wpAny_pure ?_)
    refine wpAny_bind (m := cRoomFor _ _) (wpAny_cRoomFor hr.in1.units0 ?_)
    refine wpAny_bind (m := callSpecialIfBound? (.ref a) (Str.ofString "__eq__") _) (PySem.W.ifBound_K I.kIn J hs hf (wpAny_mono (call_below hr.in1 rfl F hb hx I (.cons rx (.cons ry .nil)) hsp) (fun r t z => ?_) fun _ _ q => q))
    obtain ⟨w, H', I', rw', b, rfl, q⟩ := z
    cases (show r = Value.bool b from rw')
    refine wpAny_bind (m := truthy (.bool _)) (wpAny_truthy_bool ?_)
    have z : EP X pins σ Q (.bool (!b)) t := ⟨.bl (!b), H', I', rfl, q⟩
    first
      | exact wpAny_pure (wpAny_pure ⟨_, rfl, z⟩)
      | exact wpAny_pure ⟨_, rfl, z⟩
  show wpAny (model X.prog X.w) X.A (richCompare .NotEq (.ref a) u) _ _ _
  unfold richCompare
  simp only [oneThing_ref]
  refine wpAny_holding (wpAny_bind (wpAny_cRoomFor hr.units0 ?_))
  rw [cmpInfo_NotEq]
  dsimp only
  refine wpAny_bind (J.type.here (wpAny_bind (lt.here ?_)))
  have fin : ∀ (rest : Option Value → Sem Value), (∀ v, rest (some v) = pure v) → wpAny (model X.prog X.w) X.A (tryCompare (.ref a) "__ne__" u >>= rest) (EP X pins σ Q) X.xe s := fun rest hrest =>
    wpAny_bind (wpAny_mono one (fun o t z => by
      obtain ⟨w, rfl, q⟩ := z
      rw [hrest]
      exact wpAny_pure q) fun _ _ q => q)
  split
  · rename_i nq
    have le : PySem.W.subIn X.K tb (.ref C) = some false := by
      rcases Bool.or_eq_true_iff.mp nf with z | z
      · rw [beq_iff_eq.mp z] at nq
        simp at nq
      · exact beq_iff_eq.mp z
    refine wpAny_bind ((PySem.W.looks_subIn I.kIn le).here ?_)
    simp only [Bool.false_eq_true, if_false]
    exact fin _ fun _ => rfl
  · refine wpAny_bind (wpAny_pure ?_)
    simp only [Bool.false_eq_true, if_false]
    exact fin _ fun _ => rfl
/-- len(o) by an own def -/
def rLenO (C : Addr) (sp : Sp) (E : XK) : List V → Hp → VK → Prop := fun xs H Q => ∃ a dx fs, xs = [.ref a] ∧ H a = some (.ins C dx fs) ∧ sp [.ref a] H (fun v H' => ∃ n : Nat, v = .int (n : Int) ∧ n < 1000000 ∧ Q v H') E
theorem cr_lenO (F : FnOk X.prog X.w X.K X.mg X.base CX k g fd ps sp) (hr : Room (k + 1) X.A) (hb : Binds X.K fd ps []) (hx : Passes CX X E) (hs : PySem.W.findIn X.K (.ref C) "__len__" = some (some (.ref g)))
    (hf : PySem.W.isFn X.K (.ref g) = true) : CallR X (.builtin "len") (rLenO C sp E) := by
  intro pins s σ H xs us Q I r h
  obtain ⟨a, dx, fs, rfl, ha, hsp⟩ := h
  obtain ⟨u, rfl, ru⟩ := vals1 r
  cases (show u = Value.ref a from ru)
  obtain ⟨mA, J, _⟩ := ins_get I.hok ha
  obtain ⟨od, J, _⟩ := J.look
  obtain ⟨m, hF⟩ := I.fr
  refine PySem.W.len_K hF I.ok.mod.kin J hs hf (wpAny_mono (call_below hr.in1 rfl F hb hx I r hsp) (fun o t z => ?_) fun _ _ q => q)
  obtain ⟨w, H', I', rw', n, rfl, hn, q⟩ := z
  obtain ⟨tk, rfl⟩ := (show ∃ tk, o = Value.int (n : Int) tk from rw')
  exact ⟨⟨by omega, by omega⟩, .int (n : Int), H', I'.tok _, ⟨_, rfl⟩, q⟩
/-- str(o) by an own def -/
def rStrO (C : Addr) (sp : Sp) (E : XK) : List V → Hp → VK → Prop := fun xs H Q => ∃ a dx fs, xs = [.ref a] ∧ H a = some (.ins C dx fs) ∧ sp [.ref a] H (fun v H' => ∃ y : Str, v = .str y ∧ Q v H') E
theorem cr_strO (F : FnOk X.prog X.w X.K X.mg X.base CX k g fd ps sp) (hr : Room (k + 2) X.A) (hb : Binds X.K fd ps []) (hx : Passes CX X E) (hs : PySem.W.findIn X.K (.ref C) "__str__" = some (some (.ref g)))
    (hf : PySem.W.isFn X.K (.ref g) = true) : CallR X (.type "str") (rStrO C sp E) := by
  intro pins s σ H xs us Q I r h
  obtain ⟨a, dx, fs, rfl, ha, hsp⟩ := h
  obtain ⟨u, rfl, ru⟩ := vals1 r
  cases (show u = Value.ref a from ru)
  obtain ⟨mA, J, _⟩ := ins_get I.hok ha
  obtain ⟨od, J, _⟩ := J.look
  refine PySem.W.kso_call hr.in1.in1.units0 I.kIn J hs hf (wpAny_mono (call_below hr.in1.in1 rfl F hb hx I r hsp) (fun o t z => ?_) fun _ _ q => q)
  obtain ⟨w, H', I', rw', y, rfl, q⟩ := z
  obtain ⟨tk, rfl⟩ := (show ∃ tk, o = Value.str y tk from rw')
  exact ⟨.str y, H', I', ⟨_, rfl⟩, q⟩
/-- the call of a local name that holds a class -/
def tMakeL (i : Nat) (C : Addr) (sp : Sp) (E : XK) (t : TA) : TE := fun σ H Q => σ[i]? = some (some (.ref C)) ∧ tMake C sp [] E t σ H Q
theorem pe_makeL {i : Nat} {x : Str} {p pos : Pos} {e : Expr} {es : List Expr} {t : TA} (M : Mk X.K C g) (F : FnOk X.prog X.w X.K X.mg X.base CX k g fd ps sp) (hr : Room (k + 1) X.A)
    (hN : X.N[i]? = some x) (hv : Vis X.env.scope x) (hb : Binds X.K fd ps []) (hx : Passes CX X E) (ha : PA X (e :: es) t)
    (d1 : (x == ("__debug__" : Str)) = false := by decide) (d2 : (x == ("__classdict__" : Str)) = false := by decide)
    (st : starEach (e :: es) X.env = (false, eval e X.env) :: starEach es X.env := by rfl) (pl : (backTo pos (starEach es X.env)).any (·.1) = false := by rfl) :
    PE X (.Call (.Name x p) (e :: es) [] pos) (tMakeL i C sp E t) := by
  constructor
  intro pins s σ H Q I h
  refine wpAny_Call_Name_kw (thn ((pe_var (pos := p) hN hv d1 d2).run pins s σ H (fun v H1 => v = .ref C ∧ H1 = H) I ⟨.ref C, h.1, rfl, rfl⟩) fun u t1 z => ?_)
  obtain ⟨v, H1, I1, r1, rfl, rfl⟩ := z
  cases r1
  refine PySem.W.callWith_K (h₀ := X.base) I.ok.mod.kin M.kp (thn (ha.run pos pins t1 σ _ _ I1 h.2) fun us t2 z => ?_) st pl
  obtain ⟨vs, H2, I2, r, q⟩ := z
  exact ⟨I2.kIn, run_make M F hr hb .nil hx I2 r q⟩
end
end K0

namespace K0
open PySem L2 Evl
/-! ### data: what can be compared -/
mutual
def D.clean : D → Bool
  | .oth => false
  | .tup ds => D.cleanL ds
  | _ => true
def D.cleanL : List D → Bool
  | [] => true
  | d :: ds => d.clean && D.cleanL ds
end
mutual
def D.py : D → PyData
  | .non => .none
  | .bl b => .bool b
  | .int i => .int i
  | .str s => .str s
  | .tup ds => .tuple (D.pyL ds)
  | .oth => .none
def D.pyL : List D → List PyData
  | [] => []
  | d :: ds => d.py :: D.pyL ds
end
theorem pyL_map : ∀ ds : List D, D.pyL ds = ds.map D.py
  | [] => rfl
  | d :: ds => by
    show d.py :: D.pyL ds = _
    rw [pyL_map ds]
    rfl
theorem cleanL_all : ∀ ds : List D, D.cleanL ds = ds.all D.clean
  | [] => rfl
  | d :: ds => by
    show (d.clean && D.cleanL ds) = _
    rw [cleanL_all ds]
    rfl
section
variable {K : PySem.W.Frag} {H : Hp}
mutual
theorem Rp.dp {v : V} {d : D} (c : d.clean = true) : Rp K H v d → Dp K H v d.py
  | .non => .non
  | .bl b => .bl b
  | .int i => .int i
  | .str s => .str s
  | .tup h r => .tup h (RpAll.dp c r)
  | .lst h => by cases c
  | .dct h => by cases c
  | .ins h i => by cases c
theorem RpAll.dp {vs : List V} {ds : List D} (c : D.cleanL ds = true) : RpAll K H vs ds → DpAll K H vs (D.pyL ds)
  | .nil => .nil
  | .cons h r => by
    have c' := Bool.and_eq_true_iff.mp c
    exact .cons (Rp.dp c'.1 h) (RpAll.dp c'.2 r)
end
end
mutual
theorem eqv_self : ∀ d : D, d.clean = true → PyData.eqv d.py d.py = true
  | .non, _ => rfl
  | .bl b, _ => by simp [D.py, PyData.eqv]
  | .int i, _ => by simp [D.py, PyData.eqv]
  | .str s, _ => by simp [D.py, PyData.eqv]
  | .tup ds, c => by
    simp only [D.py, PyData.eqv]
    exact eqvAll_self ds c
  | .oth, c => by cases c
theorem eqvAll_self : ∀ ds : List D, D.cleanL ds = true → PyData.eqvAll (D.pyL ds) (D.pyL ds) = true
  | [], _ => rfl
  | d :: ds, c => by
    have c' := Bool.and_eq_true_iff.mp c
    simp only [D.pyL, PyData.eqvAll]
    rw [eqv_self d c'.1, eqvAll_self ds c'.2]
    rfl
end
/-- clean, of texts that can lie there, not deep -/
def D.fine (n : Nat) (d : D) : Bool := d.clean && d.py.canLay0 && decide (d.py.depth ≤ n)
theorem fine_c {n : Nat} {d : D} (h : d.fine n = true) : d.clean = true := (Bool.and_eq_true_iff.mp (Bool.and_eq_true_iff.mp h).1).1
theorem fine_l {n : Nat} {d : D} (h : d.fine n = true) : d.py.canLay0 = true := (Bool.and_eq_true_iff.mp (Bool.and_eq_true_iff.mp h).1).2
theorem fine_d {n : Nat} {d : D} (h : d.fine n = true) : d.py.depth ≤ n := of_decide_eq_true (Bool.and_eq_true_iff.mp h).2
theorem fine_all {n : Nat} : ∀ ds : List D, (∀ d ∈ ds, d.fine n = true) → D.cleanL ds = true ∧ PyData.canLayAll0 (D.pyL ds) = true ∧ PyData.depthAll (D.pyL ds) ≤ n
  | [], _ => ⟨rfl, rfl, Nat.zero_le _⟩
  | d :: ds, h => by
    have h1 := h d (List.mem_cons_self ..)
    obtain ⟨a, b, c⟩ := fine_all ds fun e he => h e (List.mem_cons_of_mem _ he)
    refine ⟨Bool.and_eq_true_iff.mpr ⟨fine_c h1, a⟩, ?_, ?_⟩
    · simp only [D.pyL, PyData.canLayAll0]
      rw [fine_l h1, b]
      rfl
    · simp only [D.pyL, PyData.depthAll]
      exact Nat.max_le.mpr ⟨fine_d h1, c⟩
theorem fine_tup {n : Nat} {ds : List D} (h : ∀ d ∈ ds, d.fine n = true) : (D.tup ds).fine (n + 1) = true := by
  obtain ⟨a, b, c⟩ := fine_all ds h
  refine Bool.and_eq_true_iff.mpr ⟨Bool.and_eq_true_iff.mpr ⟨a, ?_⟩, decide_eq_true ?_⟩
  · simp only [D.py, PyData.canLay0]
    exact b
  · simp only [D.py, PyData.depth]
    omega
theorem fine_le {n m : Nat} {d : D} (h : d.fine n = true) (l : n ≤ m) : d.fine m = true :=
  Bool.and_eq_true_iff.mpr ⟨Bool.and_eq_true_iff.mpr ⟨fine_c h, fine_l h⟩, decide_eq_true (Nat.le_trans (fine_d h) l)⟩
theorem shaped_of {n : Nat} {d : D} (h : d.fine n = true) (l : n ≤ 64) : SeqAt.shaped d.py = true :=
  Bool.and_eq_true_iff.mpr ⟨fine_l h, decide_eq_true (Nat.le_trans (fine_d h) l)⟩
theorem shapedL_of {n : Nat} {ds : List D} (h : ∀ d ∈ ds, d.fine n = true) (l : n + 1 ≤ 64) : SeqAt.shaped (.list (D.pyL ds)) = true := by
  obtain ⟨a, b, c⟩ := fine_all ds h
  refine Bool.and_eq_true_iff.mpr ⟨?_, decide_eq_true ?_⟩
  · simp only [PyData.canLay0]
    exact b
  · simp only [PyData.depth]
    omega
theorem Rp.tupI {K : PySem.W.Frag} {H : Hp} {v : V} {ds : List D} (h : Rp K H v (.tup ds)) : ∃ a xs, v = .ref a ∧ SqT K H a xs ∧ RpAll K H xs ds := by
  cases h with
  | tup h r => exact ⟨_, _, rfl, h, r⟩
theorem RpAll.setI {K : PySem.W.Frag} {H : Hp} : ∀ {vs : List V} {ds : List D} (i : Nat) {v : V} {d : D}, RpAll K H vs ds → Rp K H v d → RpAll K H (vs.set i v) (ds.set i d)
  | _, _, i, _, _, .nil, _ => by cases i <;> exact .nil
  | _, _, 0, _, _, .cons h r, g => .cons g r
  | _, _, i + 1, _, _, .cons h r, g => .cons h (RpAll.setI i r g)
/-! ### readings -/
section
variable {K : PySem.W.Frag} {σ : L2.St} {H H' : Hp} {ta tb te tv : TE} {x y z v : V} {C a dx : Addr} {fs : List (Str × V)} {f : Str} {D : Ends} {tz : TS}
theorem ev_fld (h : Ev ta σ H (.ref a)) (ha : H a = some (.ins C dx fs)) (c : Cls K C) (n : NoAttr K C f) (l : fs.lookup f = some v) : Ev (tFld K ta f) σ H v := fun H1 e Q q =>
  h H1 e _ fun H2 e2 => ⟨a, C, dx, fs, v, rfl, (e.trans e2) _ _ ha, c, n, l, q H2 e2⟩
theorem q_fld (hv : Ev tv σ H v) (ho : Ev ta σ H (.ref a)) (ha : H a = some (.ins C dx fs)) (c : Cls K C) (n : NoAttr K C f) (hl : fs.length < 1000) (k : ∀ H1, Ex H H1 → tz D σ (upd H1 a (.ins C dx (putF f v fs)))) :
    tSeq (sFld K ta tv f) tz D σ H := hv H (Ex.refl H) _ fun H1 e1 => ho H1 e1 _ fun H2 e2 => ⟨a, C, dx, fs, rfl, (e1.trans e2) _ _ ha, c, n, hl, k H2 (e1.trans e2)⟩
theorem s_fldU {xs : List V} (hv : EvU tv σ H xs) (ho : Ev ta σ H (.ref a)) (ha : H a = some (.ins C dx fs)) (c : Cls K C) (n : NoAttr K C f) (hl : fs.length < 1000)
    (k : ∀ p H1, H p = none → Ex H H1 → H1 p = some (.tup xs) → D.nx σ (upd H1 a (.ins C dx (putF f (.ref p) fs)))) :
    sFld K ta tv f D σ H := hv H (Ex.refl H) _ fun p H1 hp e1 h1 => ho H1 e1 _ fun H2 e2 => ⟨a, C, dx, fs, rfl, (e1.trans e2) _ _ ha, c, n, hl, k p H2 hp (e1.trans e2) (e2 _ _ h1)⟩
theorem q_asgMk {sp : Sp} {E : XK} {i : Nat} {xs : List V} (h : EvU te σ H xs)
    (k : ∀ p H1, H p = none → Ex H H1 → H1 p = some (.tup xs) → ∀ x dx, H1 x = none → H1 dx = none → dx ≠ x → sp [.ref x, .ref p] (upd (upd H1 dx (.own x)) x (.ins C dx [])) (fun v H2 => v = .non ∧ tz D (σ.set i (some (.ref x))) H2) E) :
    tSeq (tAsg (tMake C sp [] E (tCons te tNil)) (gName i)) tz D σ H := h H (Ex.refl H) _ fun p H1 hp e h1 => k p H1 hp e h1
theorem eu_tupOf {p : Addr} {xs : List V} (h : Ev ta σ H (.ref p)) (hx : SqL K H p xs) : EvU (tCB (rTupOf K) (tCons ta tNil)) σ H xs := fun H1 e Q q =>
  h H1 e _ fun H2 e2 => ⟨p, xs, rfl, .inl ⟨ex_l (e.trans e2) hx, fun l hl => q l _ (fresh_back e2 hl) (e2.trans (Ex.new hl)) upd_same⟩⟩
theorem el_listT {p : Addr} {xs : List V} (h : Ev ta σ H (.ref p)) (hx : SqT K H p xs) : EvL (tCB (rListS K) (tCons ta tNil)) σ H xs := fun H1 e Q q =>
  h H1 e _ fun H2 e2 => ⟨p, xs, rfl, .inr (ex_t (e.trans e2) hx), fun l hl => q l _ (fresh_back e2 hl) (e2.trans (Ex.new hl)) upd_same⟩
theorem rc_kitI {P : V → Prop} {n : String} {b : Bool} {dy : Addr} {gs : List (Str × V)} {p : Addr} (o : ObjC K C) (cl : Cls K C) (hp : H p = some (.ins C dy gs)) : RC (rIsi K) [.ref p, .ref C] H (.bl true) := fun H1 e Q q =>
  ⟨_, _, _, _, _, rfl, .own C, .base (.ins (e _ _ hp) cl o.ca o.cg o.ct o.co), by unfold PySem.W.kitOne; rw [if_pos (by simp)], q H1 (Ex.refl _)⟩
end
/-- the promise of a value, by what it is -/
def RetR (K : PySem.W.Frag) (d : D) (H : Hp) (Q : VK) : Prop := ∀ v H', Ex H H' → Rp K H' v d → Q v H'
/-! ### what evaluates to data -/
section
variable {K : PySem.W.Frag} {σ : L2.St} {H H' : Hp} {ta tb te : TE} {tr : TA} {x y z v : V} {d e : D} {ds es : List D}
def EvD (K : PySem.W.Frag) (te : TE) (σ : L2.St) (H : Hp) (d : D) : Prop := ∀ H1, Ex H H1 → ∀ Q : VK, (∀ v H2, Ex H1 H2 → Rp K H2 v d → Q v H2) → te σ H1 Q
def EvDA (K : PySem.W.Frag) (ta : TA) (σ : L2.St) (H : Hp) (ds : List D) : Prop := ∀ H1, Ex H H1 → ∀ Q : List V → Hp → Prop, (∀ vs H2, Ex H1 H2 → RpAll K H2 vs ds → Q vs H2) → ta σ H1 Q
theorem EvD.mono (a : Ex H H') (h : EvD K te σ H d) : EvD K te σ H' d := fun H1 e Q q => h H1 (a.trans e) Q q
theorem ed_ev (h : Ev te σ H v) (r : Rp K H v d) : EvD K te σ H d := fun H1 a Q q => h H1 a Q fun H2 b => q v H2 b (r.ex (a.trans b))
theorem ed_int {i : Int} : EvD K (tC (.int i)) σ H (.int i) := ed_ev ev_c (.int i)
theorem ed_non : EvD K (tC .non) σ H .non := ed_ev ev_c .non
theorem ed_str {s : Str} : EvD K (tC (.str s)) σ H (.str s) := ed_ev ev_c (.str s)
theorem eda_nil : EvDA K tNil σ H [] := fun H1 _ Q q => q [] H1 (Ex.refl _) .nil
theorem eda_cons (h : EvD K te σ H d) (r : EvDA K tr σ H ds) : EvDA K (tCons te tr) σ H (d :: ds) := fun H1 a Q q =>
  h H1 a _ fun v H2 b hv => r H2 (a.trans b) _ fun vs H3 c hs => q (v :: vs) H3 (b.trans c) (.cons (hv.ex c) hs)
theorem ed_tup (h : EvDA K tr σ H ds) (l : ds.length ≤ 100000) : EvD K (tTup tr) σ H (.tup ds) := fun H1 a Q q =>
  h H1 a _ fun vs H2 b hs => ⟨by rw [hs.len]; exact sz_of l, fun p hp => q (.ref p) _ (b.trans (Ex.new hp)) (.tup (st_of upd_same) (hs.ex (Ex.new hp)))⟩
theorem ed_cat (h1 : EvD K ta σ H (.tup ds)) (h2 : EvD K tb σ H (.tup es)) (l : ds.length + es.length ≤ 100000) : EvD K (tOp (rCatA K) ta tb) σ H (.tup (ds ++ es)) := fun H1 a Q q =>
  h1 H1 a _ fun v H2 b hv => h2 H2 (a.trans b) _ fun w H3 c hw => by
    obtain ⟨p, xs, rfl, sp, rp⟩ := (hv.ex c).tupI
    obtain ⟨r, ys, rfl, sr, rr⟩ := hw.tupI
    refine ⟨p, r, xs, ys, rfl, rfl, sp, sr, by rw [rp.len, rr.len]; exact sz_of l, fun h => ?_, fun _ h => ?_, fun _ _ n hn => ?_⟩
    · subst h
      cases rp
      exact q _ _ (b.trans c) (.tup sr rr)
    · subst h
      cases rr
      rw [List.append_nil] at q
      exact q _ _ (b.trans c) (.tup sp rp)
    · exact q _ _ ((b.trans c).trans (Ex.new hn)) (.tup (st_of upd_same) ((rp.app rr).ex (Ex.new hn)))
theorem ed_ix {i : Nat} (h : EvD K ta σ H (.tup ds)) (hb : ∀ H1, Ex H H1 → Ev tb σ H1 (.int (i : Int))) (hi : ds[i]? = some d) : EvD K (tOp (rIxT K) ta tb) σ H d := fun H1 a Q q =>
  h H1 a _ fun v H2 b hv => hb H2 (a.trans b) H2 (Ex.refl _) _ fun H3 c => by
    obtain ⟨p, xs, rfl, sp, rp⟩ := (hv.ex c).tupI
    have hlt : i < ds.length := by
      rcases Nat.lt_or_ge i ds.length with h | h
      · exact h
      · rw [List.getElem?_eq_none h] at hi
        cases hi
    have hxl : i < xs.length := by
      rw [rp.len]
      exact hlt
    have hx : xs[i]? = some xs[i] := List.getElem?_eq_getElem hxl
    obtain ⟨d', hd', hr'⟩ := RpAll.get _ _ _ _ rp hx
    rw [hi] at hd'
    cases hd'
    refine ⟨p, xs, (i : Int), xs[i], rfl, rfl, sp, ?_, q _ _ (b.trans c) hr'⟩
    unfold atI
    rw [ixN_nat (by rw [rp.len]; exact hlt)]
    exact hx
theorem d_call {sp : Sp} {E : XK} {Q : VK} (h : EvDA K tr σ H ds) (k : ∀ vs H1, Ex H H1 → RpAll K H1 vs ds → sp vs H1 Q E) : tCall sp [] E tr σ H Q := h H (Ex.refl H) _ fun vs H1 a r => by
  show sp (vs ++ []) H1 Q E
  rw [List.append_nil]
  exact k vs H1 a r
theorem d_ret {D : Ends} (h : EvD K te σ H d) (k : ∀ v H1, Ex H H1 → Rp K H1 v d → D.rt v H1) : tRet te D σ H := h H (Ex.refl H) _ k
/-- a method without arguments that gives data -/
theorem ed_meth0 {C a dx : Addr} {fs : List (Str × V)} {m : Str} {sp : Sp} {E : XK} (h : Ev ta σ H (.ref a)) (ha : H a = some (.ins C dx fs)) (l : fs.lookup m = none) (k : ∀ H1, Ex H H1 → ∀ Q : VK, RetR K d H1 Q → sp [.ref a] H1 Q E) :
    EvD K (tMeth C m sp [] E ta tNil) σ H d := fun H1 a1 Q q => h H1 a1 _ fun H2 b => ⟨a, dx, fs, rfl, (a1.trans b) _ _ ha, l, k H2 (a1.trans b) Q fun v H3 c hv => q v H3 (b.trans c) hv⟩
theorem ed_call {sp : Sp} {E : XK} (h : EvDA K tr σ H ds) (k : ∀ vs H1, Ex H H1 → RpAll K H1 vs ds → ∀ Q : VK, RetR K d H1 Q → sp vs H1 Q E) : EvD K (tCall sp [] E tr) σ H d := fun H1 a Q q => h H1 a _ fun vs H2 b r => by
  show sp (vs ++ []) H2 Q E
  rw [List.append_nil]
  exact k vs H2 (a.trans b) r Q fun v H3 c hv => q v H3 (b.trans c) hv
theorem rv_eqD (hx : Rp K H x d) (hy : Rp K H y e) {n : Nat} (fd : d.fine n = true) (fe : e.fine n = true) (hn : n ≤ 64) : RV (rEqD K) x y H (.bl (PyData.eqv d.py e.py)) := fun H1 a Q q =>
  ⟨d.py, e.py, (hx.ex a).dp (fine_c fd), (hy.ex a).dp (fine_c fe), shaped_of fd hn, shaped_of fe hn, q H1 (Ex.refl _)⟩
theorem rv_neD (hx : Rp K H x d) (hy : Rp K H y e) {n : Nat} (fd : d.fine n = true) (fe : e.fine n = true) (hn : n ≤ 64) : RV (rNeD K) x y H (.bl (!PyData.eqv d.py e.py)) := fun H1 a Q q =>
  ⟨d.py, e.py, (hx.ex a).dp (fine_c fd), (hy.ex a).dp (fine_c fe), shaped_of fd hn, shaped_of fe hn, q H1 (Ex.refl _)⟩
/-- compared as data -/
theorem ev_neD (h1 : EvD K ta σ H d) (h2 : EvD K tb σ H e) {n : Nat} (fd : d.fine n = true) (fe : e.fine n = true) (hn : n ≤ 64) : Ev (tOp (rNeD K) ta tb) σ H (.bl (!PyData.eqv d.py e.py)) := fun H1 a Q q =>
  h1 H1 a _ fun v H2 b hv => h2 H2 (a.trans b) _ fun w H3 c hw => rv_neD (hv.ex c) hw fd fe hn H3 (Ex.refl _) Q fun H4 g => q H4 ((b.trans c).trans g)
theorem ev_eqD (h1 : EvD K ta σ H d) (h2 : EvD K tb σ H e) {n : Nat} (fd : d.fine n = true) (fe : e.fine n = true) (hn : n ≤ 64) : Ev (tOp (rEqD K) ta tb) σ H (.bl (PyData.eqv d.py e.py)) := fun H1 a Q q =>
  h1 H1 a _ fun v H2 b hv => h2 H2 (a.trans b) _ fun w H3 c hw => rv_eqD (hv.ex c) hw fd fe hn H3 (Ex.refl _) Q fun H4 g => q H4 ((b.trans c).trans g)
theorem Rp.tupR {a : Addr} (h : Rp K H (.ref a) (.tup ds)) : ∃ xs, SqT K H a xs ∧ RpAll K H xs ds := by
  cases h with
  | tup h r => exact ⟨_, h, r⟩
/-! ### f-strings -/
def EvJ (ts : List TE) (acc : Str) (σ : L2.St) (H : Hp) (out : Str) : Prop := ∀ H1, Ex H H1 → ∀ Q : Str → Hp → Prop, (∀ H2, Ex H1 H2 → Q out H2) → tJs ts acc σ H1 Q
theorem ej_nil {acc : Str} : EvJ [] acc σ H acc := fun H1 _ Q q => q H1 (Ex.refl _)
theorem ej_cons {t : TE} {ts : List TE} {acc s out : Str} (h : Ev t σ H (.str s)) (l : (acc ++ s).length ≤ 100000) (r : EvJ ts (acc ++ s) σ H out) : EvJ (t :: ts) acc σ H out := fun H1 a Q q =>
  h H1 a _ fun H2 b => ⟨s, rfl, sz_of l, r H2 (a.trans b) Q fun H3 c => q H3 (b.trans c)⟩
theorem ev_js {ts : List TE} {out : Str} (h : EvJ ts Str.empty σ H out) : Ev (fun σ H Q => tJs ts Str.empty σ H fun out H1 => Q (.str out) H1) σ H (.str out) := fun H1 a Q q => h H1 a _ fun H2 b => q H2 b
theorem ev_fmt {i : Int} (h : Ev te σ H (.int i)) (l : i.natAbs.log2 < 1920) : Ev (tFmt te) σ H (.str (toString i)) := fun H1 a Q q => h H1 a _ fun H2 b => .inr ⟨i, rfl, l, q H2 b⟩
end
/-- the text of a small number -/
def tos (n : Nat) : Str := toString (n : Int)
theorem tos_len {n : Nat} (h : n ≤ 400) : (tos n).length ≤ 8 := by
  have z : ∀ i : Fin 401, (tos i.val).length ≤ 8 := by decide +kernel
  exact z ⟨n, by omega⟩
theorem log_small {n : Nat} (h : n ≤ 400) : (n : Int).natAbs.log2 < 1920 := by
  have z : ∀ i : Fin 401, (i.val : Int).natAbs.log2 < 1920 := by decide +kernel
  exact z ⟨n, by omega⟩
theorem app_len (a b : Str) : (a ++ b).length = a.length + b.length := by
  show (a.cps ++ b.cps).size = _
  rw [Array.size_append]
  rfl
theorem numB_small {n : Nat} (h : n ≤ 1000) : numB (n : Int) = true := by
  unfold numB big
  rw [decide_eq_true (by omega), decide_eq_true (by omega)]
  rfl
theorem within_ok {n : Nat} {lo hi : Int} (h : n ≤ 1000) (h1 : lo ≤ (n : Int)) (h2 : (n : Int) ≤ hi) : (D.int (n : Int)).within lo hi = true := by
  show (numB (n : Int) && (decide (lo ≤ (n : Int)) && decide ((n : Int) ≤ hi))) = true
  rw [numB_small h, decide_eq_true h1, decide_eq_true h2]
  rfl
end K0

namespace K0
open PySem L2 Evl
theorem ix_tupK {X : Cx} {K : PySem.W.Frag} (h : X.K = K) : IxR X (rIxT K) := h ▸ ix_tup
theorem pe_fldK {X : Cx} {K : PySem.W.Frag} {e : Expr} {f : Str} {pos : Pos} {ta : TE} (he : PE X e ta) (hb : attributeBase e f X.env (eval e X.env) = eval e X.env) (h : X.K = K) : PE X (.Attribute e f pos) (tFld K ta f) := h ▸ pe_fld he hb
section
variable {K : PySem.W.Frag} {A : Ad}
theorem d_raw {σ : L2.St} {H : Hp} {tr : TA} {sp : Sp} {E : XK} {Q : VK} (h : tr σ H fun vs H1 => sp vs H1 Q E) : tCall sp [] E tr σ H Q := by
  have e : (fun (vs : List V) H1 => sp (vs ++ []) H1 Q E) = fun vs H1 => sp vs H1 Q E := by
    funext vs H1
    rw [List.append_nil]
  show tr σ H fun vs H1 => sp (vs ++ []) H1 Q E
  rw [e]
  exact h
theorem gd_some {α : Type} {l : List α} {i : Nat} {x y : α} (h : l[i]? = some x) : l.getD i y = x := by
  rw [List.getD_eq_getElem?_getD, h]
  rfl
theorem getD_mem {α : Type} {l : List α} {i : Nat} {x : α} (h : i < l.length) : l.getD i x ∈ l := by
  rw [List.getD_eq_getElem?_getD, List.getElem?_eq_getElem h]
  exact List.getElem_mem h
theorem rp_maps {H : Hp} {α : Type} {v : α → V} {f : α → K0.D} : ∀ (l : List α), (∀ i ∈ l, Rp K H (v i) (f i)) → RpAll K H (l.map v) (l.map f)
  | [], _ => .nil
  | a :: l, h => .cons (h a (List.mem_cons_self ..)) (rp_maps l fun i hi => h i (List.mem_cons_of_mem _ hi))
theorem map_rangeD {α β : Type} (g : α → β) (x : α) : ∀ l : List α, (List.range l.length).map (fun i => g (l.getD i x)) = l.map g
  | [] => rfl
  | a :: l => by
    rw [List.length_cons, List.range_succ_eq_map, List.map_cons, List.map_cons, List.map_map, ← map_rangeD g x l]
    rfl
end
/-! ### all but lists stays -/
def ExT (H H' : Hp) : Prop := ∀ b u, H b = some u → (∀ xs, u ≠ HO.lst xs) → H' b = some u
section
variable {K : PySem.W.Frag} {H H' : Hp}
theorem ExT.of (e : Ex H H') : ExT H H' := fun b u h _ => e b u h
theorem ExT.trans {H'' : Hp} (a : ExT H H') (b : ExT H' H'') : ExT H H'' := fun c u h n => b c u (a c u h n) n
theorem ExT.sqT {a : Addr} {xs : List V} (e : ExT H H') (h : SqT K H a xs) : SqT K H' a xs := by
  rcases h with (h | ⟨o, h⟩) | h
  · exact .inl (.inl (e _ _ h fun _ z => by cases z))
  · exact .inl (.inr ⟨o, e _ _ h fun _ z => by cases z⟩)
  · exact .inr h
mutual
theorem Rp.exT {v : V} {d : D} (c : d.clean = true) (e : ExT H H') : Rp K H v d → Rp K H' v d
  | .non => .non
  | .bl b => .bl b
  | .int i => .int i
  | .str s => .str s
  | .tup h r => .tup (e.sqT h) (RpAll.exT c e r)
  | .lst h => by cases c
  | .dct h => by cases c
  | .ins h i => by cases c
theorem RpAll.exT {vs : List V} {ds : List D} (c : D.cleanL ds = true) (e : ExT H H') : RpAll K H vs ds → RpAll K H' vs ds
  | .nil => .nil
  | .cons h r => by
    have c' := Bool.and_eq_true_iff.mp c
    exact .cons (Rp.exT c'.1 e h) (RpAll.exT c'.2 e r)
end
/-- what is hidden is a list -/
def hidL (o : Option Addr) (H : Hp) : Prop := ∀ a, o = some a → ∃ xs, H a = some (.lst xs)
theorem exT_hid {o : Option Addr} (h : hidL o H) : ExT H (hid o H) := fun b u hb n => by
  unfold hid
  by_cases c : o = some b
  · obtain ⟨xs, hx⟩ := h b c
    rw [hb] at hx
    exact absurd (Option.some.inj hx) (n xs)
  · rw [if_neg c]
    exact hb
theorem DiceAt.hidL {a : Addr} (h : DiceAt H a) : hidL (some a) H := fun b e => by
  obtain ⟨x, y, z, h⟩ := h
  cases e
  exact ⟨_, h⟩
theorem Bt.exT {a : Addr} (h : DiceAt H a) (b : Bt a H H') : ExT H H' := ((exT_hid h.hidL).trans (ExT.of b)).trans (ExT.of hid_le)
theorem RpAll.memI : ∀ {vs : List V} {ds : List D}, RpAll K H vs ds → ∀ v ∈ vs, ∃ d ∈ ds, Rp K H v d
  | _, _, .nil, v, h => by cases h
  | _, _, .cons h r, v, hv => by
    rcases List.mem_cons.mp hv with rfl | hv
    · exact ⟨_, List.mem_cons_self .., h⟩
    · obtain ⟨d, hd, hr⟩ := RpAll.memI r v hv
      exact ⟨d, List.mem_cons_of_mem _ hd, hr⟩
end
section
variable {K : PySem.W.Frag} {σ : L2.St} {H H' : Hp} {ta tb te tn : TE} {tr : TA} {ds : List D} {d : D}
theorem l_lst {Q : VK} (h : EvDA K tr σ H ds) (l : ds.length ≤ 100000) (k : ∀ p xs H1, H p = none → Ex H H1 → H1 p = some (.lst xs) → RpAll K H1 xs ds → Q (.ref p) H1) : tLst tr σ H Q := h H (Ex.refl H) _ fun vs H1 e r =>
  ⟨by rw [r.len]; exact sz_of l, fun p hp => k p vs _ (fresh_back e hp) (e.trans (Ex.new hp)) upd_same (r.ex (Ex.new hp))⟩
/-- a new list of data -/
def EvDL (K : PySem.W.Frag) (te : TE) (σ : L2.St) (H : Hp) (ds : List D) : Prop := ∀ H1, Ex H H1 → ∀ Q : VK, (∀ p xs H2, H1 p = none → Ex H1 H2 → H2 p = some (.lst xs) → RpAll K H2 xs ds → Q (.ref p) H2) → te σ H1 Q
/-- [e for j in range(n)], each e data -/
theorem edl_range {n j : Nat} {vs : List Nat} {f : Nat → D} (hn : ∀ H1, Ex H H1 → Ev tn σ H1 (.int (n : Int))) (hz : n ≤ 1000) (hw : ∀ x, wipe ((wipe σ vs).set j (some x)) vs = wipe σ vs)
    (he : ∀ i H1, Ex H H1 → i < n → EvD K te ((wipe σ vs).set j (some (.int (i : Int)))) H1 (f i)) : EvDL K (tLc (iRng1 (tCons tn tNil)) (gName j) tYes te vs) σ H ((List.range n).map f) := fun H0 e0 Q q => by
  unfold tLc
  refine n_rng1 (n_cons (hn H0 e0 H0 (Ex.refl _) _ fun H1 e1 => ⟨(n : Int), rfl, by omega, by omega, fun Dl hD => ?_⟩))
  refine lc_range (lo := 0) (n := (n : Int).toNat) (fun i H' => i ≤ n ∧ ∃ acc, H' Dl = some (.lst acc) ∧ RpAll K H' acc ((List.range i).map f) ∧ Ex H1 H') ⟨Nat.zero_le _, [], upd_same, .nil, Ex.new hD⟩ (fun i H' hi p => ?_) (fun H' p => ?_)
  · obtain ⟨_, acc, p1, p2, p3⟩ := p
    rw [Int.toNat_natCast] at hi
    have ez : (0 : Int) + (i : Int) = (i : Int) := Int.zero_add _
    rw [ez]
    refine ⟨hw _, he i H' ((e0.trans e1).trans p3) hi H' (Ex.refl _) _ fun v H'' e2 hv => ?_⟩
    have h2 := e2 _ _ p1
    have hl : acc.length = i := by rw [p2.len, List.length_map, List.length_range]
    refine ⟨acc, h2, sz_lt (by omega), hi, acc ++ [v], upd_same, ?_, Ex.mut (p3.trans e2) hD⟩
    rw [List.range_succ, List.map_append]
    exact ((p2.ex e2).app (.cons hv .nil)).exL (ExL.upd h2)
  · obtain ⟨_, acc, p1, p2, p3⟩ := p
    rw [Int.toNat_natCast] at p2
    exact q Dl acc H' (fresh_back e1 hD) (e1.trans p3) p1 p2
theorem dpL {a : Addr} {xs : List V} (h : H a = some (.lst xs)) (r : RpAll K H xs ds) (c : D.cleanL ds = true) : Dp K H (.ref a) (.list (D.pyL ds)) := .lst (sq_of h) (r.dp c)
/-- two lists compared as data -/
theorem ev_neLL {es : List D} {n : Nat} (h1 : EvDL K ta σ H ds) (h2 : ∀ H1, Ex H H1 → ∃ b ys, Ev tb σ H1 (.ref b) ∧ H1 b = some (.lst ys) ∧ RpAll K H1 ys es) (fd : ∀ d ∈ ds, d.fine n = true) (fe : ∀ d ∈ es, d.fine n = true) (hn : n + 1 ≤ 64) :
    Ev (tOp (rNeD K) ta tb) σ H (.bl (!PyData.eqvAll (D.pyL ds) (D.pyL es))) := fun H1 a Q q =>
  h1 H1 a _ fun p xs H2 hp b hx rx => by
    obtain ⟨r, ys, ev, hy, ry⟩ := h2 H2 (a.trans b)
    refine ev H2 (Ex.refl _) _ fun H3 c => ?_
    refine ⟨.list (D.pyL ds), .list (D.pyL es), dpL (c _ _ hx) (rx.ex c) (fine_all ds fd).1, dpL (c _ _ hy) (ry.ex c) (fine_all es fe).1, shapedL_of fd hn, shapedL_of fe hn, ?_⟩
    show Q (.bl (!PyData.eqvAll (D.pyL ds) (D.pyL es))) H3
    exact q H3 (b.trans c)
/-- two lists that stand -/
theorem ev_eqLs {a b : Addr} {xs ys : List V} {es : List D} {n : Nat} (h1 : Ev ta σ H (.ref a)) (h2 : Ev tb σ H (.ref b)) (hx : H a = some (.lst xs)) (hy : H b = some (.lst ys)) (rx : RpAll K H xs ds) (ry : RpAll K H ys es) (fd : ∀ d ∈ ds, d.fine n = true) (fe : ∀ d ∈ es, d.fine n = true) (hn : n + 1 ≤ 64) :
    Ev (tOp (rEqD K) ta tb) σ H (.bl (PyData.eqvAll (D.pyL ds) (D.pyL es))) := ev_op h1 h2 fun H1 e Q q => ⟨.list (D.pyL ds), .list (D.pyL es), dpL (e _ _ hx) (rx.ex e) (fine_all ds fd).1, dpL (e _ _ hy) (ry.ex e) (fine_all es fe).1, shapedL_of fd hn, shapedL_of fe hn, q H1 (Ex.refl _)⟩
/-- tuple(xs), xs a list of data -/
theorem ed_tupOf {a : Addr} {xs : List V} (h : Ev ta σ H (.ref a)) (hx : H a = some (.lst xs)) (r : RpAll K H xs ds) : EvD K (tCB (rTupOf K) (tCons ta tNil)) σ H (.tup ds) := fun H1 e Q q =>
  eu_tupOf h (sq_of hx) H1 e Q fun p H2 hp e2 h2 => q (.ref p) H2 e2 (.tup (st_of h2) (r.ex (e.trans e2)))
/-- a property that gives data -/
theorem ed_prop {C a dx : Addr} {fs : List (Str × V)} {sp : Sp} {E : XK} (h : Ev ta σ H (.ref a)) (ha : H a = some (.ins C dx fs)) (k : ∀ H1, Ex H H1 → ∀ Q : VK, RetR K d H1 Q → sp [.ref a] H1 Q E) :
    EvD K (tProp C sp [] E ta) σ H d := fun H1 a1 Q q => h H1 a1 _ fun H2 b => ⟨a, dx, fs, rfl, (a1.trans b) _ _ ha, k H2 (a1.trans b) Q fun v H3 c hv => q v H3 (b.trans c) hv⟩
/-- a method with one argument that gives data -/
theorem ed_meth1 {C a dx : Addr} {fs : List (Str × V)} {m : Str} {sp : Sp} {E : XK} {y : V} (h : Ev ta σ H (.ref a)) (ha : H a = some (.ins C dx fs)) (l : fs.lookup m = none) (hb : ∀ H1, Ex H H1 → Ev tb σ H1 y) (k : ∀ H1, Ex H H1 → ∀ Q : VK, RetR K d H1 Q → sp [.ref a, y] H1 Q E) :
    EvD K (tMeth C m sp [] E ta (tCons tb tNil)) σ H d := fun H1 a1 Q q => h H1 a1 _ fun H2 b => ⟨a, dx, fs, rfl, (a1.trans b) _ _ ha, l, hb H2 (a1.trans b) H2 (Ex.refl _) _ fun H3 c => k H3 ((a1.trans b).trans c) Q fun v H4 g hv => q v H4 ((b.trans c).trans g) hv⟩
theorem rv_addS {a b : Str} (h : a.length + b.length ≤ 100000) : RV (fun x y H Q => ∃ i j, x = .str i ∧ y = .str j ∧ i.length + j.length ≤ sizeLine ∧ Q (.str (i ++ j)) H) (.str a) (.str b) H (.str (a ++ b)) := fun H1 _ Q q => ⟨a, b, rfl, rfl, sz_of h, q H1 (Ex.refl _)⟩
theorem rc_strI {i : Int} (h : i.natAbs.log2 < 1920) : RC (fun xs H Q => ∃ i, xs = [.int i] ∧ i.natAbs.log2 < 1920 ∧ Q (.str (toString i)) H) [.int i] H (.str (toString i)) := fun H1 _ Q q => ⟨i, rfl, h, q H1 (Ex.refl _)⟩
end
theorem range_all {α : Type} (x : α) (l : List α) {n : Nat} (h : l.length = n) : (List.range n).map (fun i => l.getD i x) = l := by
  subst h
  have := map_rangeD (fun y : α => y) x l
  rw [List.map_id''] at this
  · exact this
  · intro y
    rfl
section
variable {K : PySem.W.Frag}
theorem et_neD {σ : L2.St} {H : Hp} {ta tb : TE} {d : K0.D} {n : Nat} (h1 : EvD K ta σ H d) (h2 : EvD K tb σ H d) (fd : d.fine n = true) (hn : n ≤ 64) : EvT (tTest (tOp (rNeD K) ta tb)) σ H false := et_is (et_test (ev_neD h1 h2 fd fd hn)) (by
  rw [eqv_self d (fine_c fd)]
  rfl)
end
section
variable {σ : L2.St} {H H' : Hp} {ta tb te tx : TE} {t u : TT} {tr : TA} {Q : VK} {D : Ends} {tz : TS}
theorem q_par {i j : Nat} (h : tr σ H fun vs H1 => ∃ v w, vs = [v, w] ∧ tz D ((σ.set i (some v)).set j (some w)) H1) : tSeq (tPar i j tr) tz D σ H := h
theorem q_asgX {i : Nat} (h : te σ H fun v H1 => tz D (σ.set i (some v)) H1) : tSeq (tAsg te (gName i)) tz D σ H := h
theorem n_tup (h : tr σ H fun xs H1 => xs.length ≤ sizeLine ∧ ∀ p, H1 p = none → Q (.ref p) (upd H1 p (.tup xs))) : tTup tr σ H Q := h
theorem n_var {i : Nat} {v : V} (h : σ[i]? = some (some v)) (k : Q v H) : tVar i σ H Q := ⟨v, h, k⟩
theorem n_op {r : R2} (h : ta σ H fun x H1 => tb σ H1 fun y H2 => r x y H2 Q) : tOp r ta tb σ H Q := h
theorem n_nil {k : List V → Hp → Prop} (h : k [] H) : tNil σ H k := h
theorem n_if {b : Bool} (h : EvT t σ H b) (h1 : b = true → ∀ H1, Ex H H1 → ta σ H1 Q) (h2 : b = false → ∀ H1, Ex H H1 → tb σ H1 Q) : tIf t ta tb σ H Q := h H (Ex.refl H) _ fun H1 e => by
  cases b with
  | true => exact h1 rfl H1 e
  | false => exact h2 rfl H1 e
theorem c_meth {C p dx : Addr} {fs : List (Str × V)} {m : Str} {sp : Sp} {E : XK} {vs : List V} (h : Ev ta σ H (.ref p)) (hp : H p = some (.ins C dx fs)) (l : fs.lookup m = none) (ha : ∀ H1, Ex H H1 → EvA tr σ H1 vs) (k : ∀ H1, Ex H H1 → sp (.ref p :: vs) H1 Q E) :
    tMeth C m sp [] E ta tr σ H Q := h H (Ex.refl H) _ fun H1 e1 => ⟨p, dx, fs, rfl, e1 _ _ hp, l, ha H1 e1 H1 (Ex.refl _) _ fun H2 e2 => by
  show sp (.ref p :: (vs ++ [])) H2 Q E
  rw [List.append_nil]
  exact k H2 (e1.trans e2)⟩
theorem c_methD {K : PySem.W.Frag} {C p dx : Addr} {fs : List (Str × V)} {m : Str} {sp : Sp} {E : XK} {d : K0.D} (h : Ev ta σ H (.ref p)) (hp : H p = some (.ins C dx fs)) (l : fs.lookup m = none) (ha : ∀ H1, Ex H H1 → EvD K tb σ H1 d) (k : ∀ v H1, Ex H H1 → Rp K H1 v d → sp [.ref p, v] H1 Q E) :
    tMeth C m sp [] E ta (tCons tb tNil) σ H Q := h H (Ex.refl H) _ fun H1 e1 => ⟨p, dx, fs, rfl, e1 _ _ hp, l, ha H1 e1 H1 (Ex.refl _) _ fun v H2 e2 hv => k v H2 (e1.trans e2) hv⟩
end
theorem asc_snoc : ∀ (l : List Int) (y : Int), ascB l = true → (∀ x ∈ l, x < y) → ascB (l ++ [y]) = true
  | [], y, _, _ => rfl
  | [x], y, _, h => by
    show (decide (x < y) && ascB [y]) = true
    rw [decide_eq_true (h x (List.mem_cons_self ..))]
    rfl
  | x :: z :: r, y, h, g => by
    have h' : (decide (x < z) && ascB (z :: r)) = true := h
    have h1 := Bool.and_eq_true_iff.mp h'
    show (decide (x < z) && ascB ((z :: r) ++ [y])) = true
    rw [h1.1, asc_snoc (z :: r) y h1.2 fun w hw => g w (List.mem_cons_of_mem _ hw)]
    rfl
section
variable {K : PySem.W.Frag} {σ : L2.St} {H H' : Hp} {ta tb te tx tn : TE} {t u : TT} {tr : TA} {Q : VK} {D : Ends} {tz : TS} {g : TG}
theorem q_asgG (h : te σ H fun v H1 => g v σ H1 fun σ2 H2 => tz D σ2 H2) : tSeq (tAsg te g) tz D σ H := h
end
section
variable {K : PySem.W.Frag} {σ : L2.St} {H H' : Hp} {ta tb te tx tn : TE} {t u : TT} {tr : TA} {Q : VK} {D : Ends} {tz tu tw : TS}
theorem n_ifS (h : t σ H fun b H1 => if b = true then tu D σ H1 else tw D σ H1) : tIfS t tu tw D σ H := h
theorem n_or {Q : Bool → Hp → Prop} (h : t σ H fun b H1 => if b = true then Q true H1 else u σ H1 Q) : tOr t u σ H Q := h
theorem n_not {Q : Bool → Hp → Prop} (h : t σ H fun b H1 => Q (!b) H1) : tNot t σ H Q := h
theorem n_B {Q : Bool → Hp → Prop} (h : te σ H fun v H1 => ∃ b, v = .bl b ∧ Q b H1) : tB te σ H Q := h
theorem sq_btF {p a : Addr} {xs : List V} {H1 H2 : Hp} (hp : H p = none) (h : SqL K H a xs) (e : Ex H H1) (b : Bt p H1 H2) : SqL K H2 a xs := by
  rcases h with (h | ⟨o, h⟩) | h
  · exact .inl (.inl (b.at (ne_of_none h hp) (e _ _ h)))
  · exact .inl (.inr ⟨o, b.at (ne_of_none h hp) (e _ _ h)⟩)
  · exact .inr h
theorem ev_neVL {a : Addr} {xs : List V} {ds es : List K0.D} {n : Nat} (h1 : Ev ta σ H (.ref a)) (hx : H a = some (.lst xs)) (rx : RpAll K H xs ds) (h2 : EvDA K tr σ H es) (l : es.length ≤ 1000) (fd : ∀ d ∈ ds, d.fine n = true) (fe : ∀ d ∈ es, d.fine n = true) (hn : n + 1 ≤ 64) :
    Ev (tOp (rNeD K) ta (tLst tr)) σ H (.bl (!PyData.eqvAll (K0.D.pyL ds) (K0.D.pyL es))) := fun H1 e Q q =>
  h1 H1 e _ fun H2 e2 => h2 H2 (e.trans e2) _ fun vs H3 e3 r => ⟨by rw [r.len]; exact sz_of (by omega), fun p hp => by
    have e4 := (e.trans e2).trans e3
    refine ⟨.list (K0.D.pyL ds), .list (K0.D.pyL es), dpL ((e4.trans (Ex.new hp)) _ _ hx) (rx.ex (e4.trans (Ex.new hp))) (fine_all ds fd).1, dpL upd_same (r.ex (Ex.new hp)) (fine_all es fe).1, shapedL_of fd hn, shapedL_of fe hn, ?_⟩
    exact q _ ((e2.trans e3).trans (Ex.new hp))⟩
end
section
variable {l : Addr} {H : Hp}
theorem ExT.upd {xs ys : List V} (h : H l = some (.lst xs)) : ExT H (L2.upd H l (.lst ys)) := fun b u hb n => by
  by_cases c : b = l
  · subst c
    rw [h] at hb
    exact absurd (Option.some.inj hb).symm (n xs)
  · rw [upd_ne c]
    exact hb
end
end K0

namespace K0
open PySem PySem.Spec PyProof.Rows L2
/-! ### try with several clauses, of which some name the exception -/
/-- a clause: its class, the slot of its name, what its suite reads as -/
structure Clause where
  cls : Value
  at_ : Option Nat
  ts : Addr → Value → Option Addr → TS
def endsC (o : Option Nat) (D : Ends) : Ends := match o with
  | none => D
  | some i => { nx := fun u G => D.nx (u.set i none) G, rt := D.rt, bk := fun u G => D.bk (u.set i none) G, ct := fun u G => D.ct (u.set i none) G }
def slotC (o : Option Nat) (σ : L2.St) (a : Addr) : L2.St := match o with
  | none => σ
  | some i => σ.set i (some (.ref a))
def wClauses (K : PySem.W.Frag) (n : Nat) (Wz : WX) (D : Ends) : List Clause → WX
  | [] => Wz
  | q :: r => fun cls d σ H => ∃ b, PySem.W.exmOne K cls q.cls = some b ∧ (b = true → ∀ a, H a = none → σ.length = n → q.ts a cls d (endsC q.at_ D) (slotC q.at_ σ a) H) ∧ (b = false → wClauses K n Wz D r cls d σ H)
def SuiteOk (X : Cx) (sts : List Stmt) (ts : Addr → Value → Option Addr → TS) : Prop :=
  ∀ (a : Addr) (oe : Obj) (cls : Value) (d : Option Addr) (pn : List (Addr × Obj)), Zc cls d oe → (∃ vs, oe.data = .fields vs) → PSs (X.suite a ((a, oe) :: pn)) sts (ts a cls d)
inductive ClausesOk (X : Cx) : List ExceptHandler → List Clause → Prop
  | nil : ClausesOk X [] []
  | bare {x : Str} {c : Value} {ts : Addr → Value → Option Addr → TS} {s0 : Stmt} {sts : List Stmt} {p1 p2 : Pos} {es : List ExceptHandler} {l : List Clause} (hc : Names X x c) (hs : SuiteOk X (s0 :: sts) ts) (r : ClausesOk X es l) :
      ClausesOk X (.ExceptHandler (some (.Name x p1)) none (s0 :: sts) p2 :: es) (⟨c, none, ts⟩ :: l)
  | named {x n : Str} {c : Value} {i : Nat} {ts : Addr → Value → Option Addr → TS} {s0 : Stmt} {sts : List Stmt} {p1 p2 : Pos} {es : List ExceptHandler} {l : List Clause} (hc : Names X x c) (hN : X.N.Nodup) (hi : X.N[i]? = some n) (hl : X.env.kindOf n = some .local) (hs : SuiteOk X (s0 :: sts) ts) (r : ClausesOk X es l) :
      ClausesOk X (.ExceptHandler (some (.Name x p1)) (some n) (s0 :: sts) p2 :: es) (⟨c, some i, ts⟩ :: l)
section
variable {X : Cx} {body : List Stmt} {e0 : ExceptHandler} {es : List ExceptHandler} {l : List Clause} {pos : Pos} {tb : WX → TS} {Wz : WX}
theorem ps_clauses (st : X.stack = X.env :: X.outer) (fr : X.env.frame = some X.env.locals) (tk : Takes X Wz)
    (hb : ∀ (W : WX) (pn : List (Addr × Obj)) (xe : Value → Shared → Prop), Takes (X.tr pn xe) W → PassesOwn (model X.prog X.w) X.A X.env xe → PSs (X.tr pn xe) body (tb W))
    (hk : ClausesOk X (e0 :: es) l) : PS X (.Try body (e0 :: es) [] [] pos) (fun D σ H => tb (wClauses X.K X.N.length Wz D l) D σ H) := by
  refine ⟨fun pins s σ H D I h => ?_⟩
  have okX := I.ok
  have frs_ : X.A.frames = some (X.env :: X.outer) := by rw [okX.frames, st]
  refine wpAny_Try_except ?_
  have run_ := (hb (wClauses X.K X.N.length Wz D l) (X.pn ++ pins) (fun e t1 => wpAny (model X.prog X.w) X.A (noteFrame e X.env) (fun _ t2 => wpAny (model X.prog X.w) X.A (setFlight e none) (fun _ t3 => wpAny (model X.prog X.w) X.A (handleBy e X.env (e0 :: es)) (SP X pins D) X.xe t3) X.xe t2) X.xe t1)
    (fun u t xx => ?_) PassesOwn.looking).run [] s σ H D (I.toTry _) h
  · refine wpAny_mono run_ (fun f t z => ?_) (fun e t z => z)
    cases f with
    | next => exact let ⟨u, G, J, q⟩ := z; wpAny_execs_nil ⟨u, G, J.ofTry okX, q⟩
    | brk => exact let ⟨u, G, J, q⟩ := z; ⟨u, G, J.ofTry okX, q⟩
    | cont => exact let ⟨u, G, J, q⟩ := z; ⟨u, G, J.ofTry okX, q⟩
    | ret v => exact let ⟨y, u, G, J, r, q⟩ := z; ⟨y, u, G, J.ofTry okX, r, q⟩
  · obtain ⟨a, B, sI, pz, u1, G, cls, d, rfl, Jt, nb, up, sky, na, os, ag, w⟩ := xx
    have J : Inv X pins u1 G sI := Jt.ofTry okX
    rw [show (X.tr (X.pn ++ pins) _).stack = X.env :: X.outer from st] at sky
    show wpAny (model X.prog X.w) X.A (noteFrame (.ref a) X.env) _ _ _
    refine Sky.land Zc.steady frs_ fr sky fun h3 fl3 up3 => ?_
    have J3 : Inv X pins u1 G { t with heap := h3 } := J.landed nb fl3.1 (up.trans up3) os ag
    obtain ⟨o3, w3, at3, z3, f3⟩ := fl3.there
    have off : a ∉ frs (X.env :: X.outer) := fun hm => by
      obtain ⟨_, o', at', hnf⟩ := fl3.2.2.1.mem hm
      rw [at3] at at'
      cases at'
      exact hnf _ f3
    have offL : a ≠ X.env.locals := fun z => off (List.mem_filterMap.mpr ⟨X.env, List.mem_cons_self, by rw [fr, z]⟩)
    have offF : a ∉ X.fs := fun hm => by
      obtain ⟨e, he, q⟩ := List.mem_filterMap.mp hm
      exact off (List.mem_filterMap.mpr ⟨e, List.mem_cons_of_mem _ he, q⟩)
    have S3 := J3.suite at3 f3 na offL offF
    have name_ : ∀ {x : Str} {c : Value} {p1 : Pos} {Q E : Value → Shared → Prop}, Names X x c → Q c { t with heap := h3 } → wpAny (model X.prog X.w) (X.A.mark (some (.ref a))) (eval (.Name x p1) X.env) (fun v s => Q v s) E { t with heap := h3 } := fun {x c p1 Q E} hc q => by
      rcases hc with ⟨g, dbg, m | ⟨m, bb, nn⟩⟩
      · exact ld_glob (X := X.suite a ((a, o3) :: (X.pn ++ pins))) S3 g m q dbg
      · exact ld_blt (X := X.suite a ((a, o3) :: (X.pn ++ pins))) S3 g m bb q nn dbg
    have looks_ : PySem.W.Looks (model X.prog X.w) h3 (typeOf (.ref a)) cls := fun A Q E s k q => wpAny_typeOf_ref (k _ _ at3) (by rw [z3.1]; exact q)
    have go : ∀ {hs : List ExceptHandler} {l : List Clause}, ClausesOk X hs l → wClauses X.K X.N.length Wz D l cls d u1 G → wpAny (model X.prog X.w) X.A (handleBy (.ref a) X.env hs) (SP X pins D) X.xe { t with heap := h3 } := by
      intro hs l ck
      induction ck with
      | nil =>
        intro w
        refine wpAny_handleBy_nil ?_
        obtain ⟨_, _, _, oe, vs, T, oT, ts', he, hz, hd, h1, hr⟩ := id fl3
        unfold PySem.passOn
        refine wpAny_bind (wpAny_field he hd h1 ?_)
        rw [if_neg (show ¬ ((Value.ref T == Value.none) = true) by simp)]
        have out_ : wpAny (model X.prog X.w) X.A (setFlight (.ref a) X.env.frame) (fun _ t4 => wpAny (model X.prog X.w) X.A (throw (.ref a) : Sem Flow) (SP X pins D) X.xe t4) X.xe { t with heap := h3 } := by
          rw [fr]
          exact HandSPX.setFlight_upZ fl3 fun h4 hh4 up4 => wpAny_throw (tk _ _ ⟨a, B, sI, pins, u1, G, cls, d, rfl, J, nb, (up.trans up3).trans up4, .inr (.inr (by rw [st]; exact hh4)), na, os, ag, w⟩)
        first
          | exact wpAny_bind (wpAny_pure (wpAny_bind out_))
          | exact wpAny_bind out_
      | bare hc hsu r ih =>
        intro w
        obtain ⟨b, eb, yes, no⟩ := w
        refine wpAny_handleBy_cons (codeAny_handlers_test ?_) (fun q => by cases q)
        refine name_ hc ((PySem.W.exm_one (M := model X.prog X.w) J3.kIn looks_ eb).here ?_)
        cases b with
        | false =>
          show wpAny _ X.A (handleBy (.ref a) X.env _) _ _ _
          exact ih (no rfl)
        | true =>
          refine codeAny_handlers_suite (HandSPX.lands_againZ fl3 fun h4 fl4 up4 => ?_)
          have J4 : Inv X pins u1 G { t with heap := h4 } := J.landed nb fl4.1 ((up.trans up3).trans up4) os ag
          obtain ⟨o4, w4, at4, z4, f4⟩ := fl4.there
          refine wpAny_mono ((hsu a o4 cls d (X.pn ++ pins) z4 ⟨_, f4⟩).run [] _ _ G _ (J4.suite at4 f4 na offL offF) (yes rfl a na J.len)) (fun f s6 hq => ?_) (fun _ _ z => z.elim)
          cases f with
          | next => exact let ⟨u, G6, S, q⟩ := hq; ⟨u, G6, S.unsuite okX, q⟩
          | brk => exact let ⟨u, G6, S, q⟩ := hq; ⟨u, G6, S.unsuite okX, q⟩
          | cont => exact let ⟨u, G6, S, q⟩ := hq; ⟨u, G6, S.unsuite okX, q⟩
          | ret v => exact let ⟨y, u, G6, S, r, q⟩ := hq; ⟨y, u, G6, S.unsuite okX, r, q⟩
      | @named x n c i ts s0 sts p1 p2 es l hc hN hi hl hsu r ih =>
        intro w
        obtain ⟨b, eb, yes, no⟩ := w
        refine wpAny_handleBy_cons (codeAny_handlers_test ?_) (fun q => by cases q)
        refine name_ hc ((PySem.W.exm_one (M := model X.prog X.w) J3.kIn looks_ eb).here ?_)
        cases b with
        | false =>
          show wpAny _ X.A (handleBy (.ref a) X.env _) _ _ _
          exact ih (no rfl)
        | true =>
          refine codeAny_handlers_suite_as (HandSPX.lands_againZ fl3 fun h4 fl4 up4 => ?_)
          have J4 : Inv X pins u1 G { t with heap := h4 } := J.landed nb fl4.1 ((up.trans up3).trans up4) os ag
          obtain ⟨o4, w4, at4, z4, f4⟩ := fl4.there
          refine store_ok (X := X.suite a ((a, o4) :: (X.pn ++ pins))) (v := .ref a) (J4.suite at4 f4 na offL offF) hN hi (show Loc X.env.scope n from .inl hl) rfl (fun s5 S5 => ?_) (.inr hl)
          refine wpAny_mono ((hsu a o4 cls d (X.pn ++ pins) z4 ⟨_, f4⟩).run [] s5 _ G _ S5 (yes rfl a na J.len)) (fun f s6 hq => ?_) (fun _ _ z => z.elim)
          have gone : ∀ {u : L2.St} {G6 : Hp} {Q : Shared → Prop}, Inv (X.suite a ((a, o4) :: (X.pn ++ pins))) [] u G6 s6 → (∀ s7, Inv X pins (u.set i none) G6 s7 → Q s7) → wpAny (model X.prog X.w) X.A (do bindName X.env n .none; unbindBehindTheSuite X.env n p2) (fun _ s7 => Q s7) X.xe s6 :=
            fun S hq => gone_ok (S.unsuite okX) hN hi hl hq
          cases f with
          | next => exact let ⟨u, G6, S, q⟩ := hq; gone S fun s7 J7 => ⟨_, _, J7, q⟩
          | brk => exact let ⟨u, G6, S, q⟩ := hq; gone S fun s7 J7 => ⟨_, _, J7, q⟩
          | cont => exact let ⟨u, G6, S, q⟩ := hq; gone S fun s7 J7 => ⟨_, _, J7, q⟩
          | ret v => exact let ⟨y, u, G6, S, r, q⟩ := hq; gone S fun s7 J7 => ⟨_, _, _, J7, r, q⟩
    exact go hk w
end
end K0

namespace K0
open PySem PySem.Spec PyProof.Rows L2 Evl
/-! ### repr of any data (where no repr is under way) -/
def D.rep : D → Str
  | .non => "None"
  | .bl b => if b then "True" else "False"
  | .int i => toString i
  | .str s => reprText s
  | .tup ds => (D.tup ds).py.shown
  | .oth => ""
def D.repOk : D → Bool
  | .int i => decide (i.natAbs.log2 < 1920)
  | .str s => decide ((reprText s).length ≤ 20000)
  | .tup ds => (D.tup ds).clean && ((D.tup ds).py.showable && (!(D.tup ds).py.hasDict && (decide ((D.tup ds).py.depth ≤ 60) && decide ((D.tup ds).py.shown.length ≤ 20000))))
  | .oth => false
  | _ => true
def rReprD (K : PySem.W.Frag) : List V → Hp → VK → Prop := fun vs H Q => ∃ x d, vs = [x] ∧ Rp K H x d ∧ d.repOk = true ∧ Q (.str d.rep) H
theorem cr_reprD {X : Cx} (hg : X.A.guards = some []) (hu : X.A.units + 64 < cLine) : CallR X (.builtin "repr") (rReprD X.K) := by
  intro pins s σ H xs us Q I r h
  obtain ⟨x, d, rfl, hx, ok, q⟩ := h
  cases hx with
  | non =>
    obtain ⟨u, rfl, rx⟩ := vals1 r
    cases rx
    exact PySem.P.repr_of_none ⟨.str "None", H, I.tok _, ⟨_, rfl⟩, q⟩
  | bl b =>
    obtain ⟨u, rfl, rx⟩ := vals1 r
    cases rx
    exact PySem.P.repr_of_bool ⟨.str _, H, I.tok _, ⟨_, rfl⟩, q⟩
  | int i =>
    obtain ⟨u, rfl, t, rfl⟩ := vals1 r
    exact PySem.P.repr_of_int (of_decide_eq_true ok) ⟨.str _, H, I.tok _, ⟨_, rfl⟩, q⟩
  | str z =>
    obtain ⟨u, rfl, t, rfl⟩ := vals1 r
    have hl : (reprText z).length ≤ 20000 := of_decide_eq_true ok
    exact PySem.P.repr_of_str ⟨.str _, H, I.tok _, ⟨_, rfl⟩, q⟩ (by rw [sizeLine_eq]; omega)
  | @tup a ys ds ha hr =>
    have ok' : ((D.tup ds).clean && ((D.tup ds).py.showable && (!(D.tup ds).py.hasDict && (decide ((D.tup ds).py.depth ≤ 60) && decide ((D.tup ds).py.shown.length ≤ 20000))))) = true := ok
    simp only [Bool.and_eq_true, Bool.not_eq_true', decide_eq_true_eq] at ok'
    obtain ⟨h1, h2, h3, h4, h5⟩ := ok'
    exact cr_repr hg hu pins s σ H _ us Q I r ⟨a, _, rfl, (Rp.tup ha hr).dp h1, h2, h3, h4, by rw [sizeLine_eq]; omega, q⟩
  | lst h => cases ok
  | dct h => cases ok
  | ins h i => cases ok
end K0

namespace K0
open PySem PySem.Spec PyProof.Rows L2 Evl
/-! ### own exceptions with a field; repr of None and of numbers -/
/-- what is raised: an exception of the class at C whose one field is f = v -/
def RaF (C : Addr) (f : Str) (v : V) (H : Hp) (E : XK) : Prop := ∀ dd H', Ex H H' → H' dd = some (.xd [(f, v)]) → E (.ref C) (some dd) H'
theorem RaF.ex {C : Addr} {f : Str} {v : V} {H H' : Hp} {E : XK} (e : Ex H H') (h : RaF C f v H E) : RaF C f v H' E := fun dd H2 e2 => h dd H2 (e.trans e2)
/-- the promise of an __init__ that keeps one field -/
def spXI (C : Addr) (f : Str) : Sp := fun vs H Q _ => ∃ a x, vs = [.ref a, x] ∧ H a = some (exo a C none) ∧ ∀ dx, H dx = none → dx ≠ a → Q .non (upd (upd H dx (exd dx [(f, x)])) a (exo a C (some dx)))
section
variable {C : Addr} {f : Str} {ta : TE} {σ : L2.St} {H : Hp} {Q : XK} {v : V}
theorem n_mkO (h : Ev ta σ H v) (k : ∀ H1, Ex H H1 → ∀ dd H2, Ex H1 H2 → H2 dd = some (.xd [(f, v)]) → Q (.ref C) (some dd) H2) : tMkO C (spXI C f) [] (tCons ta tNil) σ H Q :=
  h H (Ex.refl H) _ fun H1 e1 => ⟨by simp, fun a ha => ⟨a, v, rfl, upd_same, fun dx hx ne => ⟨rfl, dx, [(f, v)], upd_same, by rw [upd_ne ne]; exact upd_same, (by rw [upd_ne ne] at hx; exact hx), k H1 e1 dx _ (fun b o hb => by
    have nb : b ≠ a := ne_of_none hb ha
    have hx' : H1 dx = none := by rw [upd_ne ne] at hx; exact hx
    have nd : b ≠ dx := ne_of_none hb hx'
    rw [upd_ne nd, del_ne nb, upd_ne nb, upd_ne nd, upd_ne nb]
    exact hb) upd_same⟩⟩⟩
theorem s_raiseO {D : Ends} {W : WX} (h : Ev ta σ H v) (k : ∀ dd H2, Ex H H2 → H2 dd = some (.xd [(f, v)]) → W (.ref C) (some dd) σ H2) : (fun (_ : Ends) (σ : L2.St) (H : Hp) => tMkO C (spXI C f) [] (tCons ta tNil) σ H fun cls d H' => W cls d σ H') D σ H :=
  n_mkO h fun H1 e1 dd H2 e2 h2 => k dd H2 (e1.trans e2) h2
end
section
variable {X : Cx}
def rReprI : List V → Hp → VK → Prop := fun xs H Q => (xs = [.non] ∧ Q (.str "None") H) ∨ ∃ i, xs = [.int i] ∧ i.natAbs.log2 < 1920 ∧ Q (.str (toString i)) H
theorem cr_reprI : CallR X (.builtin "repr") rReprI := by
  intro pins s σ H xs us Q I r h
  rcases h with ⟨rfl, q⟩ | ⟨i, rfl, hz, q⟩
  · obtain ⟨u, rfl, rx⟩ := vals1 r
    cases rx
    exact PySem.P.repr_of_none ⟨.str "None", H, I.tok _, ⟨_, rfl⟩, q⟩
  · obtain ⟨u, rfl, t, rfl⟩ := vals1 r
    exact PySem.P.repr_of_int hz ⟨.str _, H, I.tok _, ⟨_, rfl⟩, q⟩
end
end K0

namespace K0
open PySem L2 Evl
section
variable {K : PySem.W.Frag} {H H' : Hp} {l : Addr}
mutual
/-- clean data stays where tuples stay -/
theorem Rp.byT {v : V} {d : D} (c : d.clean = true) (h : ∀ a xs, SqT K H a xs → SqT K H' a xs) : Rp K H v d → Rp K H' v d
  | .non => .non
  | .bl b => .bl b
  | .int i => .int i
  | .str s => .str s
  | .tup g r => .tup (h _ _ g) (RpAll.byT c h r)
  | .lst g => by cases c
  | .dct g => by cases c
  | .ins g i => by cases c
theorem RpAll.byT {vs : List V} {ds : List D} (c : D.cleanL ds = true) (h : ∀ a xs, SqT K H a xs → SqT K H' a xs) : RpAll K H vs ds → RpAll K H' vs ds
  | .nil => .nil
  | .cons g r => by
    have c' := Bool.and_eq_true_iff.mp c
    exact .cons (Rp.byT c'.1 h g) (RpAll.byT c'.2 h r)
end
theorem sqT_lst {b : Addr} {xs ys zs : List V} (hl : H l = some (.lst xs)) (h : SqT K H b zs) : SqT K (L2.upd H l (.lst ys)) b zs := by
  have ne : ∀ {b : Addr} {o : HO}, H b = some o → (∀ zs, o ≠ .lst zs) → b ≠ l := fun g n z => by
    rw [z, hl] at g
    exact n _ (Option.some.inj g).symm
  rcases h with (h | ⟨o, h⟩) | h
  · exact .inl (.inl (by rw [upd_ne (ne h fun zs z => by cases z)]; exact h))
  · exact .inl (.inr ⟨o, by rw [upd_ne (ne h fun zs z => by cases z)]; exact h⟩)
  · exact .inr h
end
end K0

namespace K0
open PySem PySem.Spec PyProof.Rows L2 Evl
/-! ### promises of defs where no repr is under way; the law's end for such -/
structure FnG (P : Program) (w : World) (K : PySem.W.Frag) (mg : Str → Option Value) (base : Heap) (CXr : CXT) (k : Nat) (f : Addr) (fd : FuncData) (ps : List Str) (sp : Sp) : Prop where
  len : ∀ vs H Q E, sp vs H Q E → vs.length = ps.length
  run : ∀ (A : Around) (out : List Env) (t0 : Shared) (H : Hp) (ar : Args) (ws : List Value) (vs : List V) (Q : VK) (E : XK), A.guards = some [] → Room k A → Env0 P w K mg base A out t0 H → BindsTo t0 fd ar (ps.zip ws) → Vals vs ws → sp vs H Q E → codeAny (model P w) A (.call (.ref f) ar) (CR CXr out P w H t0 Q E) t0
section
variable {P : Program} {w : World} {K : PySem.W.Frag} {mg : Str → Option Value} {base : Heap} {CXr : CXT} {k : Nat} {f : Addr} {fd : FuncData} {ps : List Str} {sp : Sp}
theorem FnG.of (F : FnOk P w K mg base CXr k f fd ps sp) : FnG P w K mg base CXr k f fd ps sp := ⟨F.len, fun A out t0 H ar ws vs Q E _ => F.run A out t0 H ar ws vs Q E⟩
/-- by its body; the code object may be known -/
theorem okG {x qual : Str} {st : Stmt} {N : List Str} (F : Fun K x qual st f fd) (S : FnScope N ps (defScope st)) (len : ∀ vs H Q E, sp vs H Q E → vs.length = ps.length)
    (body : ∀ (cdv : Value) (A : Around) (out : List Env) (t0 : Shared) (H : Hp) (vs : List V) (Q : VK) (E : XK), fd.code = cdv → A.guards = some [] → Room k (A.deeper (envOfC qual (defScope st) t0.heap.objs.size f cdv)) → sp vs H Q E →
      ∃ t, PSs (cxOf CXr P w K mg base N qual (defScope st) f cdv A out t0 H E) (defBody st) t ∧ t { nx := fun _ H' => Q .non H', rt := Q } (start N vs) H) : FnG P w K mg base CXr (k + 1) f fd ps sp := by
  obtain ⟨oc, od, kV, doc, pm, an, cdv, ct, osl, rfl, lk, hcd⟩ := F.ex
  refine ⟨len, fun A out t0 H ar ws vs Q E gd rm env bnd rel prm => ?_⟩
  have kin : K.In t0.heap := env.mod.kin.keeps fun b u ee => (env.bs b u ee).1
  have pk : ∀ y ∈ ps.zip ws, (defScope st).names.lookup y.1 = some .local ∨ ((defScope st).names.lookup y.1 = some .cell ∧ ((cellsFrom (t0.heap.objs.size + 1) (defScope st).names []).lookup y.1).isSome = true) := fun ⟨n, v⟩ hy =>
    (S.par n (List.of_mem_zip hy).1).imp (fun q => q) fun q => ⟨q, PySem.W.cellsFrom_some _ _ _ (.inl q)⟩
  refine codeAny_call_function rm.depth (kin _ _ lk) rfl S.co S.gen rfl (PySem.W.codeRec_of kin hcd) (bnd _ _ _ _ ?_)
  refine wpAny_newFunctionEnv_cells S.kind pk fun ev he t1 xx => ?_
  subst he
  refine ⟨(env.mod.nolimit.keeps fun b u ee => (env.bs b u ee).1).keeps xx.toInCall.keep, codeAny_func ?_⟩
  obtain ⟨t, tt, tq⟩ := body cdv A out t0 H vs Q E rfl gd (rm.deeper _) prm
  refine wpAny_mono (tt.run [] t1 (start N vs) H _ (inv_start S rm.hd env (len _ _ _ _ prm) rel xx) tq) (fun fl t2 z => ?_) fun _ _ z => z
  cases fl with
  | ret u => exact let ⟨v, _, H', J, rv, q⟩ := z; ⟨v, H', J.os, J.bare, J.base, J.hok, rv, q⟩
  | next => exact let ⟨_, H', J, q⟩ := z; ⟨.non, H', J.os, J.bare, J.base, J.hok, rfl, q⟩
  | brk => exact let ⟨_, _, _, q⟩ := z; q.elim
  | cont => exact let ⟨_, _, _, q⟩ := z; q.elim
end
section
variable {X : Cx} {CXr : CXT} {k : Nat} {f : Addr} {fd : FuncData} {ps : List Str} {sp : Sp} {E : XK} {x : Str} {p pos : Pos} {e : Expr} {es : List Expr} {t : TA}
/-- f(e, ..) of such a def -/
theorem pe_callG (F : FnG X.prog X.w X.K X.mg X.base CXr k f fd ps sp) (gd : X.A.guards = some []) (rm : Room k X.A) (gl : Gl X x) (at_ : X.mg x = some (.ref f)) (kp : PySem.W.keepIn X.K (.ref f) = true) (bnd : Binds X.K fd ps []) (px : Passes CXr X E) (ha : PA X (e :: es) t)
    (nd : (x == ("__debug__" : Str)) = false := by decide) (h1 : starEach (e :: es) X.env = (false, eval e X.env) :: starEach es X.env := by rfl) (h2 : (backTo pos (starEach es X.env)).any (·.1) = false := by rfl) :
    PE X (.Call (.Name x p) (e :: es) [] pos) (tCall sp [] E t) := ⟨fun pins s σ H Q I h => by
  refine wpAny_Call_Name_kw (ld_glob I gl at_ ?_ nd)
  refine PySem.W.callWith_K (h₀ := X.base) I.ok.mod.kin kp (thn (ha.run pos pins s σ H _ I h) fun us s1 z => ?_) h1 h2
  obtain ⟨vs, H1, I1, rel, q⟩ := z
  rw [List.append_nil] at q
  have ln : us.length = ps.length := by rw [← rel.length]; exact F.len _ _ _ _ q
  refine ⟨I1.kIn, wpAny_call (codeAny_mono (F.run X.A X.stack s1 H1 ⟨us, []⟩ us vs Q E gd rm I1.env0 (by have := bnd s1 us I1.kIn (by rw [List.append_nil]; exact ln); rw [List.append_nil] at this; exact this) rel q) fun r s2 zz => ?_)⟩
  cases r with
  | error u => exact px pins σ H1 s1 u s2 I1 zz
  | ok fl =>
    cases fl with
    | ret u => exact I1.after zz
    | _ => exact False.elim zz⟩
end
/-! ### the law's call -/
/-- what is told of the heap where the law is called: the tables, and the script (where it is not an object of the written part) -/
def lawH (K : PySem.W.Frag) (T : List Addr) (a : Addr) (so : Obj) (ns : List Int) : Hp := fun b => if b ∈ T then some (.tbl #[]) else if b = a ∧ K.lookup a = none then some (.frz so (.lst (ns.map V.int))) else none
section
variable {K : PySem.W.Frag} {T : List Addr} {a b : Addr} {so : Obj} {ns : List Int} {u : HO}
theorem lawH_tab (h : b ∈ T) : lawH K T a so ns b = some (.tbl #[]) := if_pos h
theorem lawH_cases (h : lawH K T a so ns b = some u) : (b ∈ T ∧ u = .tbl #[]) ∨ (b ∉ T ∧ b = a ∧ K.lookup a = none ∧ u = .frz so (.lst (ns.map V.int))) := by
  unfold lawH at h
  split at h
  · rename_i m
    exact .inl ⟨m, (Option.some.inj h).symm⟩
  · rename_i m
    split at h
    · rename_i m2
      exact .inr ⟨m, m2.1, m2.2, (Option.some.inj h).symm⟩
    · cases h
end
theorem law_callG {P : Program} {w : World} {K : PySem.W.Frag} {mg mb : Str → Option Value} {CXr : CXT} {k : Nat} {fa a : Addr} {cs : List (Addr × Addr)} {fd : FuncData} {x : Str} {sp : Sp} {t0 : Shared} {vs : List Value} {ns : List Int}
    (kin : K.In t0.heap) (gns : t0.heap.Ns mainGlobals mg) (bns : t0.heap.Ns builtinsNs mb) (bb : ∀ x : Str, x ≠ "__name__" → mb x = bootBuiltins x) (lim : t0.heap.NoLimit) (gen0 : t0.gens = #[])
    (tabs : ∀ p ∈ cs, t0.heap.get? p.2 = some { cls := .none, data := .fields #[] }) (tabN : ∀ p ∈ cs, K.lookup p.2 = none) (heads : ∀ p ∈ cs, PySem.W.CodeHd t0.heap p.1 p.2)
    (main : ∃ (m : Addr) (o : Obj), mg "__builtins__" = some (.ref m) ∧ m ≠ builtinsNs ∧ t0.heap.get? m = some o ∧ o.cls = .type "module" ∧ o.dict = some builtinsNs ∧ o.data = .plain)
    (scr : t0.heap.get? a = some { cls := .type "list", data := .seq vs.toArray }) (scrI : IntsAre vs ns) (few : ns.length ≤ sizeLine) (rm : Room k callerA)
    (F : ∀ base : Heap, K.In base → base.Ns mainGlobals mg → (∀ p ∈ cs, LamX.TabB base mg p.1 p.2) → FnG P w K mg base CXr k fa fd [x] sp) (bnd : ∀ (s : Shared) (u : Value), BindsTo s fd ⟨[u], []⟩ [(x, u)])
    (prm : ∀ H : Hp, (∀ p ∈ cs, H p.2 = some (.tbl #[])) → SqL K H a (ns.map V.int) → sp [.ref a] H (fun v _ => v = .bl true) fun _ _ _ => False)
    (noX : ∀ H e s', CXr [] H t0 (fun _ _ _ => False) e s' → False) :
    codeAny (model P w) callerA (.call (.ref fa) ⟨[.ref a], []⟩) (fun rr t1 => rr = .ok (.ret (.bool true)) ∧ OldK t0.heap t1.heap ∧ t1.os = t0.os ∧ AllBare t1.gens) t0 := by
  have tab_ : ∀ {b : Addr}, b ∈ cs.map (·.2) → t0.heap.get? b = some { cls := .none, data := .fields #[] } := fun hb => by
    obtain ⟨p, hp, rfl⟩ := List.mem_map.mp hb
    exact tabs p hp
  have in_ : ∀ p ∈ cs, p.2 ∈ cs.map (·.2) := fun p hp => List.mem_map.mpr ⟨p, hp, rfl⟩
  have aOut : a ∉ cs.map (·.2) := fun z => by
    have y := (tab_ z).symm.trans scr
    have y2 : Data.fields #[] = Data.seq vs.toArray _ := congrArg Obj.data (Option.some.inj y)
    cases y2
  obtain ⟨so, eso⟩ : ∃ so : Obj, so = { cls := .type "list", data := .seq vs.toArray } := ⟨_, rfl⟩
  rw [← eso] at scr
  generalize eH : lawH K (cs.map (·.2)) a so ns = H
  have rel := vals_ints scrI
  have lnV := scrI.length
  -- what is told stands in the heap, and is no part of what is written
  have what : ∀ {b : Addr} {u : HO}, H b = some u → K.lookup b = none ∧ ∃ o : Obj, t0.heap.get? b = some o ∧ ((∃ q n, o.data = .seq q n) ∨ o.data = .fields #[]) := fun {b u} h => by
    rw [← eH] at h
    rcases lawH_cases h with ⟨m, _⟩ | ⟨_, rfl, kn, _⟩
    · obtain ⟨p, hp, rfl⟩ := List.mem_map.mp m
      exact ⟨tabN p hp, _, tabs p hp, .inr rfl⟩
    · exact ⟨kn, so, scr, .inl ⟨_, _, by rw [eso]⟩⟩
  have free : ∀ {b : Addr} {o : Obj}, t0.heap.get? b = some o → (∀ q n, o.data ≠ .seq q n) → o.data ≠ .fields #[] → H b = none := fun {b o} e n1 n2 => by
    cases q : H b with
    | none => rfl
    | some u =>
      obtain ⟨_, o', e', d⟩ := what q
      cases e.symm.trans e'
      rcases d with ⟨q', n', d⟩ | d
      · exact absurd d (n1 _ _)
      · exact absurd d n2
  have low : ∀ {b : Addr} {o : Obj}, t0.heap.get? b = some o → H b = none → (hidT t0.heap H).get? b = some o := fun e n => hidT_get e n
  have lowN : ∀ {b : Addr} {m : Str → Option Value}, t0.heap.Ns b m → (hidT t0.heap H).Ns b m := fun ⟨o, es, ep, e, d, r⟩ =>
    ⟨o, es, ep, low e (free e (fun q n z => by rw [d] at z; cases z) fun z => by rw [d] at z; cases z), d, r⟩
  have lowK : K.In (hidT t0.heap H) := fun b o e => low (kin b o e) (by
    cases q : H b with
    | none => rfl
    | some u => exact absurd e (by rw [(what q).1]; simp))
  have modl : L2.Mod K mg (hidT t0.heap H) := ⟨lowK, lowN gns, ⟨mb, lowN bns, bb⟩, let ⟨mc, l1, l2⟩ := lim; ⟨mc, lowN l1, l2⟩⟩
  have hTabs : ∀ p ∈ cs, H p.2 = some (.tbl #[]) := fun p hp => by rw [← eH]; exact lawH_tab (in_ p hp)
  have okH : HOk P w H t0.heap := fun b u h => by
    rw [← eH] at h
    rcases lawH_cases h with ⟨m, rfl⟩ | ⟨_, rfl, _, rfl⟩
    · exact tab_ m
    · exact ⟨scr, by rw [List.length_map]; exact few, vs, _, rel, by rw [scr, eso]⟩
  have seqA : SqL K H a (ns.map V.int) := by
    cases kl : K.lookup a with
    | none => exact .inl (.inr ⟨so, by rw [← eH]; unfold lawH; rw [if_neg aOut, if_pos ⟨rfl, kl⟩]⟩)
    | some o =>
      have y := scr.symm.trans (kin a o kl)
      cases y
      exact .inr ⟨_, vs.toArray, _, kl, by rw [eso], by rw [eso], by rw [eso], by rw [List.size_toArray, lnV]; exact few, by simpa using rel⟩
  have lowT : ∀ p ∈ cs, LamX.TabB (hidT t0.heap H) mg p.1 p.2 := fun p hp => by
    refine ⟨?_, ?_, fun z => ?_⟩
    · obtain ⟨o, us, file, tf, flags, tg, inF, text, tt, c1, c2, c3, c4, c5, c6, c7, c8, c9, cn⟩ := heads p hp
      exact ⟨o, us, file, tf, flags, tg, inF, text, tt, low c1 (free c1 (fun q n y => by rw [c3] at y; cases y) fun y => by rw [c3] at y; cases y; simp at c4), c2, c3, c4, c5, c6, c7, c8, c9, cn⟩
    · obtain ⟨m, o, m1, m2, m3, m4, m5, m6⟩ := main
      refine ⟨m, o, m1, m2, fun y => ?_, fun y => ?_, low m3 (free m3 (fun q n y => by rw [m6] at y; cases y) fun y => by rw [m6] at y; cases y), m4, m5, m6⟩
      · obtain ⟨o', es, ep, e', d', _⟩ := gns
        rw [y, e'] at m3
        cases m3
        rw [d'] at m6
        cases m6
      · rw [y, tabs p hp] at m3
        cases m3
        cases m6
    · obtain ⟨o', es, ep, e', d', _⟩ := gns
      rw [z, tabs p hp] at e'
      cases e'
      cases d'
  have env : Env0 P w K mg (hidT t0.heap H) callerA [] t0 H := ⟨rfl, modl, fun b o e => of_hidT e, Nat.le_of_eq (hidT_size _ _), trivial, fun b hb => (List.not_mem_nil hb).elim, okH, .of_eq gen0⟩
  refine codeAny_mono ((F _ lowK (lowN gns) lowT).run callerA [] t0 H ⟨[.ref a], []⟩ [.ref a] [.ref a] _ _ rfl rm env (bnd t0 (.ref a)) (.cons rfl .nil) (prm H hTabs seqA)) fun rr t1 z => ?_
  cases rr with
  | error u => exact (noX H u t1 z).elim
  | ok fl =>
    cases fl with
    | ret u =>
      obtain ⟨v, G, os1, bare, un, ok1, rv, qv⟩ := z
      obtain rfl : v = .bl true := qv
      obtain rfl : u = Value.bool true := rv
      have kept : ∀ b o, b ∉ cs.map (·.2) → t0.heap.get? b = some o → t1.heap.get? b = some o := fun b o nb e => by
        cases q : H b with
        | none => exact un.keep b o e q (fun y => List.not_mem_nil y) (fun y => List.not_mem_nil y)
        | some u =>
          have q2 := q
          rw [← eH] at q2
          rcases lawH_cases q2 with ⟨m, _⟩ | ⟨_, rfl, _, rfl⟩
          · exact absurd m nb
          · obtain ⟨e1, _⟩ := ok1 b _ (un.frzs b so _ q)
            cases e.symm.trans scr
            exact e1
      refine ⟨rfl, ⟨fun b o e => ?_, fun b o e => ?_⟩, os1, bare⟩
      all_goals
        by_cases m : b ∈ cs.map (·.2)
      · obtain ⟨p, hp, rfl⟩ := List.mem_map.mp m
        obtain ⟨more, zz⟩ := un.tbls p.2 #[] (hTabs p hp)
        cases (tabs p hp).symm.trans e
        exact .inr (.inl ⟨((heads p hp).tab (tabs p hp)).isCodeTable, rfl, #[], more, rfl, by rw [Array.empty_append]; have := ok1 p.2 _ zz; rw [Array.empty_append] at this; exact this⟩)
      · exact .inl (kept b o m e)
      · obtain ⟨p, hp, rfl⟩ := List.mem_map.mp m
        obtain ⟨more, zz⟩ := un.tbls p.2 #[] (hTabs p hp)
        exact ⟨_, ok1 p.2 _ zz⟩
      · exact ⟨o, kept b o m e⟩
    | _ => exact False.elim z
/-- what a law's def keeps, where no repr is under way -/
def LawG (l : PySem.W.OpenLaw) (w : World) (K : PySem.W.Frag) (CXr : CXT) (k n : Nat) (x : Str) (mg : Str → Option Value) (fa : Addr) (h : Heap) : Prop :=
  ∃ (fd : FuncData) (cs : List (Addr × Addr)) (sp : Sp), (∀ p ∈ cs, h.get? p.2 = some { cls := .none, data := .fields #[] }) ∧ (∀ p ∈ cs, K.lookup p.2 = none) ∧ (∀ p ∈ cs, PySem.W.CodeHd h p.1 p.2) ∧ (∀ (s : Shared) (u : Value), BindsTo s fd ⟨[u], []⟩ [(x, u)]) ∧
    (∀ (H : Hp) (a : Addr) (ns : List Int), ns.length ≤ n → (∀ p ∈ cs, H p.2 = some (.tbl #[])) → SqL K H a (ns.map V.int) → sp [.ref a] H (fun v _ => v = .bl true) fun _ _ _ => False) ∧
    ∀ base : Heap, K.In base → base.Ns mainGlobals mg → (∀ p ∈ cs, LamX.TabB base mg p.1 p.2) → FnG l.prog w K mg base CXr k fa fd [x] sp
theorem walk_ofG {l : PySem.W.OpenLaw} {n k : Nat} {q : Program} {loose : List Str} {XP : (Str → Option Value) → Heap → Prop} {YP : World → Heap → Prop} {d : DefRec} {K : Params → PySem.W.Frag} {CXr : World → CXT} {x : Str}
    (most : l.most = some n) (few : n ≤ sizeLine) (nodef : d.params.defaults = []) (rm : Room k callerA) (kin : ∀ (w : World) (h : Heap), YP w h → (K w.params).In h)
    (F : ∀ (w : World) (mg : Str → Option Value) (fa : Addr) (h : Heap), YP w h → (K w.params).In h → h.Ns mainGlobals mg → mg d.name = some (.ref fa) → LawG l w (K w.params) (CXr w) k n x mg fa h)
    (noX : ∀ (w : World) (H : Hp) (s : Shared) (e : Value) (s' : Shared), CXr w [] H s (fun _ _ _ => False) e s' → False) :
    PySem.W.WalkO q loose XP YP l.row.toRowW d [] (fun f vs => PySem.call f vs) :=
  Att.attach_call most nodef fun w t0 t1 mg mb fa o pm cd doc a vs ns G Y ho hd hcd fnd hobj scrI hlen gen0 => by
    obtain ⟨fd, cs, sp, c1, c2, c3, bnd, prm, hF⟩ := F w mg fa _ Y (kin w _ Y) G.T.g fnd
    exact law_callG (kin w _ Y) G.T.g G.T.b G.T.builtins G.T.nolimit gen0 c1 c2 c3 G.T.bmain hobj scrI (Nat.le_trans hlen few) rm hF bnd (fun H hH hS => prm H a ns hlen hH hS) fun H e s' => noX w H t1 e s'
end K0

namespace K0
open PySem L2 Evl LamX
/-! ### laws of errors: lambdas in the law's own defs, what they meet (for any law) -/
def wordsD (a b : Str) : K0.D := .tup [.str a, .str b]
/-- which exceptions are told as which data -/
abbrev EKT := K0.D → Value → Option Addr → Hp → Prop
def TMG (K : PySem.W.Frag) (EK : EKT) (TF : Hp → VK → Prop) : (XK → Hp → VK → Prop) → Hp → VK → Prop := fun tl H Q => tl (fun cls dd H' => ∃ r, EK r cls dd H' ∧ RetR K r H' Q) H (fun _ H' => TF H' Q)
structure Ca where
  c0 : Addr
  p0 : Addr
  c1 : Addr
  p1 : Addr
def Ca.tabs (ca : Ca) : List (Addr × Str) := [(ca.p0, ("_law_right" : Str) ++ ".<locals>." ++ "<lambda>"), (ca.p1, ("law" : Str) ++ ".<locals>." ++ "<lambda>")]
structure LamH (base : Heap) (mg : Str → Option Value) (D : Fd) (ca : Ca) : Prop where
  c_law_right : D.law_right.code = .ref ca.c0
  t_law_right : LamX.TabB base mg ca.c0 ca.p0
  c_law : D.law.code = .ref ca.c1
  t_law : LamX.TabB base mg ca.c1 ca.p1
  ne0_1 : ca.p0 ≠ ca.p1
section
variable {base : Heap} {mg : Str → Option Value} {D : Fd} {ca : Ca}
theorem LamH.m_law_right (_ : LamH base mg D ca) : (ca.p0, ("_law_right" : Str) ++ ".<locals>." ++ "<lambda>") ∈ ca.tabs := List.mem_cons_self
theorem LamH.u_law_right (h : LamH base mg D ca) : ∀ p ∈ ca.tabs, p.1 = ca.p0 → p.2 = ("_law_right" : Str) ++ ".<locals>." ++ "<lambda>" := fun p hp e => by
  unfold Ca.tabs at hp
  simp only [List.mem_cons, List.not_mem_nil, or_false] at hp
  rcases hp with rfl | rfl
  · rfl
  · exact absurd e.symm h.ne0_1
theorem LamH.m_law (_ : LamH base mg D ca) : (ca.p1, ("law" : Str) ++ ".<locals>." ++ "<lambda>") ∈ ca.tabs := (List.mem_cons_of_mem _ List.mem_cons_self)
theorem LamH.u_law (h : LamH base mg D ca) : ∀ p ∈ ca.tabs, p.1 = ca.p1 → p.2 = ("law" : Str) ++ ".<locals>." ++ "<lambda>" := fun p hp e => by
  unfold Ca.tabs at hp
  simp only [List.mem_cons, List.not_mem_nil, or_false] at hp
  rcases hp with rfl | rfl
  · exact absurd e h.ne0_1
  · rfl
end
section
variable {P : Program} {w : World} {K : PySem.W.Frag} {mg : Str → Option Value} {base : Heap} {A : Ad} {D : Fd} {ca : Ca}
/-- a def whose code object is known -/
theorem okL {x qual : Str} {st : Stmt} {f c : Addr} {fd : FuncData} {N ps : List Str} {k : Nat} {sp : Sp} (F : Fun K x qual st f fd) (hc : fd.code = .ref c) (S : FnScope N ps (defScope st)) (len : ∀ vs H Q E, sp vs H Q E → vs.length = ps.length)
    (hbody : ∀ (A : Around) (outer : List Env) (s : Shared) (H : Hp) (vs : List V) (Q : VK) (E : XK), Room k (A.deeper (PyProof.Rows.envOfC qual (defScope st) s.heap.objs.size f (.ref c))) → sp vs H Q E →
      ∃ t, PSs (cxOf CX0 P w K mg base N qual (defScope st) f (.ref c) A outer s H E).nox (defBody st) t ∧ t { nx := fun _ H' => Q .non H', rt := Q } (start N vs) H) : FnOk P w K mg base CX0 (k + 1) f fd ps sp := by
  obtain ⟨oc, od, kV, doc, pm, an, cdv, ct, osl, rfl, lk, hcd⟩ := F.ex
  obtain rfl : cdv = .ref c := hc
  refine fn_of lk hcd S len fun A outer s H vs Q E hr hsp => ?_
  obtain ⟨t, h, q⟩ := hbody A outer s H vs Q E hr hsp
  exact ⟨t, h.nox, q⟩
/-- the def that meets: g(lambda: body) -/
theorem pe_lmG {X : Cx} {x a : Str} {st : Stmt} {g : Addr} {fd : FuncData} {N : List Str} {TM : (XK → Hp → VK → Prop) → Hp → VK → Prop} {TT : List (Addr × Str)} {c P : Addr} {k : Nat} {params : Arguments} {body : Expr} {scope : Scope} {t : XK → TE} {p lpos pos : Pos}
    (hgx : X.mg x = some (.ref g)) (F : Fun X.K x x st g fd) (hb : Binds X.K fd [a] []) (S : FnScope N [a] (defScope st)) (h0 : N[0]? = some a) (hva : Vis (defScope st) a) (M : ∀ {q : Str} {cdg : Value}, GivesTo X N x (defScope st) g cdg (defBody st) a q TM)
    (TB : TabB X.base X.mg c P) (hcode : X.env.code = .ref c) (hmT : (P, X.env.qual ++ "<lambda>") ∈ TT) (hu : ∀ p ∈ TT, p.1 = P → p.2 = X.env.qual ++ "<lambda>")
    (hr : Room (k + 2) X.A) (L : lamSB X.env.scope scope = true) (hg : Gl X x) (hdef : defaultsOf params X.env = ([], []))
    (hbind : ∀ (q : Str) (cl : List (Str × Addr)) (pm cv ctv : Value), bindArgs (PySem.W.kla_fn "<lambda>" q params body scope cl pm cv ctv) ⟨[], []⟩ = pure [])
    (hbody : ∀ (A : Around) (outer : List Env) (s : Shared) (H : Hp) (E : XK) (f c' : Addr), Room k (A.deeper (lamEnv X scope s.heap.objs.size f c')) → PE (lamCx X A outer s H E scope f c') body (t E))
    (hdb : (x == ("__debug__" : Str)) = false := by decide) (hd : (a == ("__debug__" : Str)) = false := by decide) (hcd : (a == ("__classdict__" : Str)) = false := by decide) :
    PE X (.Call (.Name x p) [.Lambda params body scope lpos] [] pos) (tLam TT TM t) := by
  obtain ⟨oc, od, kV, doc, pm, an, cdv, ct, osl, e, lk, hcod⟩ := F.ex
  rw [e] at hb lk
  exact pe_lamcall hg hgx F.kp lk hcod hb S h0 hva M TB hcode hmT hu hr (lamS_by L) hdef hbind hbody hdb hd hcd
end
/-! ### what stays: all but the tables and the dice list (if there is one) -/
def BtO (o : Option Addr) (H H' : Hp) : Prop := ExtN (hid o H) (hid o H')
def DiceO (o : Option Addr) (H : Hp) : Prop := ∀ a, o = some a → DiceAt H a
section
variable {K : PySem.W.Frag} {H H' H'' : Hp} {a l : Addr} {o : Option Addr}
theorem sqT_extN {b : Addr} {xs : List V} (e : ExtN H H') (h : SqT K H b xs) : SqT K H' b xs := by
  rcases h with (h | ⟨o, h⟩) | h
  · exact .inl (.inl (e _ _ h fun ps z => by cases z))
  · exact .inl (.inr ⟨o, e _ _ h fun ps z => by cases z⟩)
  · exact .inr h
theorem sqL_extN {b : Addr} {xs : List V} (e : ExtN H H') (h : SqL K H b xs) : SqL K H' b xs := by
  rcases h with (h | ⟨o, h⟩) | h
  · exact .inl (.inl (e _ _ h fun ps z => by cases z))
  · exact .inl (.inr ⟨o, e _ _ h fun ps z => by cases z⟩)
  · exact .inr h
mutual
theorem Rp.extN {v : V} {d : K0.D} (e : ExtN H H') : Rp K H v d → Rp K H' v d
  | .non => .non
  | .bl b => .bl b
  | .int i => .int i
  | .str s => .str s
  | .tup h r => .tup (sqT_extN e h) (RpAll.extN e r)
  | .lst h => .lst (e _ _ h fun ps z => by cases z)
  | .dct h => .dct (e _ _ h fun ps z => by cases z)
  | .ins h i => .ins (e _ _ h fun ps z => by cases z) i
theorem RpAll.extN {vs : List V} {ds : List K0.D} (e : ExtN H H') : RpAll K H vs ds → RpAll K H' vs ds
  | .nil => .nil
  | .cons h r => .cons (Rp.extN e h) (RpAll.extN e r)
end
theorem ext_of : ExtN (hid o H) H := ExtN.of hid_le
theorem hid_extN (e : ExtN H H') : ExtN (hid o H) (hid o H') := fun b u h n => by
  unfold hid at h ⊢
  split at h
  · cases h
  · rename_i m
    rw [if_neg m]
    exact e b u h n
theorem BtO.refl : BtO o H H := ExtN.refl _
theorem BtO.trans (h : BtO o H H') (h' : BtO o H' H'') : BtO o H H'' := ExtN.trans h h'
theorem BtO.ofN (e : ExtN H H') : BtO o H H' := hid_extN e
theorem BtO.ofE (e : Ex H H') : BtO o H H' := BtO.ofN (ExtN.of e)
theorem BtO.ofB (e : Bt a H H') : BtO (some a) H H' := ExtN.of e
theorem BtO.at_ {b : Addr} {u : HO} (e : BtO o H H') (n : ∀ a, o = some a → b ≠ a) (nt : ∀ ps, u ≠ .tbl ps) (h : H b = some u) : H' b = some u := by
  have hb : hid o H b = some u := by
    unfold hid
    rw [if_neg fun z => n b z rfl]
    exact h
  exact hid_le _ _ (e _ _ hb nt)
theorem BtO.ne (hd : DiceO o H) {b : Addr} {u : HO} (h : H b = some u) (n : ∀ zs, u ≠ .lst zs) : ∀ a, o = some a → b ≠ a := fun a ha z => by
  obtain ⟨x, y, w, hz⟩ := hd a ha
  rw [z, hz] at h
  exact n _ (Option.some.inj h).symm
theorem BtO.sqT (hd : DiceO o H) (e : BtO o H H') {b : Addr} {xs : List V} (h : SqT K H b xs) : SqT K H' b xs := by
  rcases h with (h | ⟨q, h⟩) | h
  · exact .inl (.inl (e.at_ (BtO.ne hd h fun zs z => by cases z) (fun ps z => by cases z) h))
  · exact .inl (.inr ⟨q, e.at_ (BtO.ne hd h fun zs z => by cases z) (fun ps z => by cases z) h⟩)
  · exact .inr h
theorem DiceO.extN (e : ExtN H H') (h : DiceO o H) : DiceO o H' := fun a ha => by
  obtain ⟨x, y, z, h⟩ := h a ha
  exact ⟨x, y, z, e _ _ h fun ps z => by cases z⟩
theorem DiceO.ex (e : Ex H H') (h : DiceO o H) : DiceO o H' := DiceO.extN (ExtN.of e) h
theorem DiceO.of (h : DiceAt H a) : DiceO (some a) H := fun b hb => by cases hb; exact h
theorem DiceO.get (h : DiceO (some a) H) : DiceAt H a := h a rfl
theorem DiceO.none : DiceO none H := fun b hb => by cases hb
/-- nothing, or a table -/
def FreeN (H : Hp) (l : Addr) : Prop := ∀ o, H l = some o → ∃ ps, o = .tbl ps
theorem BtO.mutF {u : HO} (e : BtO o H H') (h : FreeN H l) : BtO o H (L2.upd H' l u) := fun b v g n => by
  have nl : b ≠ l := fun z => by
    have h2 := hid_le _ _ g
    rw [z] at h2
    obtain ⟨ps, hp⟩ := h v h2
    exact n ps hp
  have g2 := e b v g n
  unfold hid at g2 ⊢
  split at g2
  · cases g2
  · rename_i m
    rw [if_neg m, upd_ne nl]
    exact g2
theorem tabs_lst {T : List (Addr × Str)} {xs ys : List V} (hl : H l = some (.lst xs)) (h : Tabs T H) : Tabs T (L2.upd H l (.lst ys)) := fun p hp => by
  obtain ⟨ps, a1, a2, a3⟩ := h p hp
  have ne : ∀ {b : Addr} {o : HO}, H b = some o → (∀ zs, o ≠ .lst zs) → b ≠ l := fun g n z => by
    rw [z, hl] at g
    exact n _ (Option.some.inj g).symm
  refine ⟨ps, by rw [upd_ne (ne a1 fun zs z => by cases z)]; exact a1, a2, fun pos cv hc => ?_⟩
  obtain ⟨c, e1, e2⟩ := a3 pos cv hc
  exact ⟨c, e1, by rw [upd_ne (ne e2 fun zs z => by unfold CodeO at z; cases z)]; exact e2⟩
theorem tabs_bt {T : List (Addr × Str)} (hd : DiceAt H a) (b : Bt a H H') (h : Tabs T H) : Tabs T H' := fun p hp => by
  obtain ⟨ps, a1, a2, a3⟩ := h p hp
  obtain ⟨x, y, z, hz⟩ := hd
  have ne : ∀ {b : Addr} {o : HO}, H b = some o → (∀ zs, o ≠ .lst zs) → b ≠ a := fun g n z => by
    rw [z, hz] at g
    exact n _ (Option.some.inj g).symm
  refine ⟨ps, b.at (ne a1 fun zs z => by cases z) a1, a2, fun pos cv hc => ?_⟩
  obtain ⟨c, e1, e2⟩ := a3 pos cv hc
  exact ⟨c, e1, b.at (ne e2 fun zs z => by unfold CodeO at z; cases z) e2⟩
theorem sq_btO {p b : Addr} {xs : List V} {H1 : Hp} (hp : H p = none) (h : SqL K H b xs) (e : Ex H H1) (g : BtO (some p) H1 H') : SqL K H' b xs := by
  rcases h with (h | ⟨o, h⟩) | h
  · exact .inl (.inl (g.at_ (fun a ha => by cases ha; exact ne_of_none h hp) (fun ps z => by cases z) (e _ _ h)))
  · exact .inl (.inr ⟨o, g.at_ (fun a ha => by cases ha; exact ne_of_none h hp) (fun ps z => by cases z) (e _ _ h)⟩)
  · exact .inr h
end
/-! ### facts beside the dice list -/
structure MonoN (N : Hp → V → Prop) : Prop where
  m : ∀ {H H' : Hp} {v : V}, ExtN H H' → N H v → N H' v
/-- what is true of v where the dice list is hidden -/
def Off (o : Option Addr) (N : Hp → V → Prop) : Hp → V → Prop := fun H v => N (hid o H) v
structure MonoQ (M : Hp → V → Prop) : Prop where
  m : ∀ {H H' : Hp} {v : V}, Ex H H' → M H v → M H' v
theorem MonoN.q {N : Hp → V → Prop} (h : MonoN N) : MonoQ N := ⟨fun e m => h.m (ExtN.of e) m⟩
theorem MonoN.off {N : Hp → V → Prop} {o : Option Addr} (h : MonoN N) : MonoQ (Off o N) := ⟨fun e m => h.m (ExtN.of (hid_ex e)) m⟩
theorem Off.get {N : Hp → V → Prop} {v : V} {o : Option Addr} {H H' : Hp} (mo : MonoN N) (e : BtO o H H') (h : Off o N H v) : N H' v := mo.m ext_of (mo.m e h)
theorem Off.bt {N : Hp → V → Prop} {v : V} {o : Option Addr} {H H' : Hp} (mo : MonoN N) (e : BtO o H H') (h : Off o N H v) : Off o N H' v := mo.m e h
def EvQ (M : Hp → V → Prop) (te : TE) (σ : L2.St) (H : Hp) : Prop := ∀ H1, Ex H H1 → ∀ Q : VK, (∀ v H2, Ex H1 H2 → M H2 v → Q v H2) → te σ H1 Q
def EvQL (M : Hp → V → Prop) (te : TE) (σ : L2.St) (H : Hp) (n : Nat) : Prop := ∀ H1, Ex H H1 → ∀ Q : VK, (∀ p xs H2, H1 p = none → Ex H1 H2 → H2 p = some (.lst xs) → (∀ v ∈ xs, M H2 v) → xs.length = n → Q (.ref p) H2) → te σ H1 Q
def EvQA (M : Hp → V → Prop) (ta : TA) (σ : L2.St) (H : Hp) (n : Nat) : Prop := ∀ H1, Ex H H1 → ∀ Q : List V → Hp → Prop, (∀ vs H2, Ex H1 H2 → (∀ v ∈ vs, M H2 v) → vs.length = n → Q vs H2) → ta σ H1 Q
section
variable {K : PySem.W.Frag} {σ : L2.St} {H H' : Hp} {ta tb te : TE} {tr : TA} {x y z v : V} {d e : K0.D} {ds es : List K0.D} {M N : Hp → V → Prop} {a p : Addr} {n m : Nat} {o : Option Addr}
theorem qa_nil : EvQA M tNil σ H 0 := fun H1 e Q q => q [] H1 (Ex.refl _) (fun v hv => by cases hv) rfl
theorem qa_cons (mo : MonoQ M) (h : EvQ M te σ H) (r : EvQA M tr σ H n) : EvQA M (tCons te tr) σ H (n + 1) := fun H1 e Q q =>
  h H1 e _ fun v H2 e2 m => r H2 (e.trans e2) _ fun vs H3 e3 ms l => q (v :: vs) H3 (e2.trans e3) (fun u hu => by
    rcases List.mem_cons.mp hu with rfl | hu
    · exact mo.m e3 m
    · exact ms u hu) (by rw [List.length_cons, l])
theorem ql_lst (mo : MonoQ M) (h : EvQA M tr σ H n) (hn : n ≤ 1000) : EvQL M (tLst tr) σ H n := fun H1 e Q q =>
  h H1 e _ fun vs H2 e2 ms l => ⟨sz_of (by omega), fun p hp => q p vs _ (fresh_back e2 hp) (e2.trans (Ex.new hp)) upd_same (fun v hv => mo.m (Ex.new hp) (ms v hv)) l⟩
theorem ql_cat {xs : List V} (mo : MonoQ M) (hv : Ev ta σ H (.ref p)) (hp : H p = some (.lst xs)) (hx : ∀ v ∈ xs, M H v) (h : EvQL M te σ H n) (hn : xs.length + n ≤ 1000) : EvQL M (tOp rCat ta te) σ H (xs.length + n) := fun H1 e Q q =>
  hv H1 e _ fun H2 e2 => h H2 (e.trans e2) _ fun r zs H3 hr e3 h3 ms l => ⟨p, r, xs, zs, rfl, rfl, ((e.trans e2).trans e3) _ _ hp, h3, sz_of (by omega), fun t ht =>
    q t _ _ (fresh_back (e2.trans e3) ht) ((e2.trans e3).trans (Ex.new ht)) upd_same (fun v hv => by
      rcases List.mem_append.mp hv with hv | hv
      · exact mo.m (((e.trans e2).trans e3).trans (Ex.new ht)) (hx v hv)
      · exact mo.m (Ex.new ht) (ms v hv)) (by rw [List.length_append, l])⟩
/-- _law_pick(dice, [..]): one of them -/
theorem c_pick {E : XK} {Q : VK} (mo : MonoN N) (hv : σ[0]? = some (some (.ref a))) (hd : DiceAt H a) (h : EvQL (Off (some a) N) te σ H n) (n0 : 0 < n) (hn : n ≤ 1000)
    (k : ∀ x H2, Bt a H H2 → DiceAt H2 a → Off (some a) N H2 x → Q x H2) : tCall (sp_law_pick K) [] E (tCons (tVar 0) (tCons te tNil)) σ H Q := by
  refine d_raw (n_cons (n_var hv (n_cons ?_)))
  refine h H (Ex.refl _) _ fun p xs H2 hp e2 h2 ms l => n_nil ⟨a, p, xs, rfl, hd.ex e2, hd.ne hp, sq_of h2, (fun z => by rw [z] at l; simp at l; omega), by omega, fun x H3 hx b3 d3 => ?_⟩
  exact k x H3 ((Bt.of e2).trans b3) d3 (mo.m (ExtN.of b3) (ms x hx))
theorem q_pick {E : XK} {D : Ends} {tz : TS} {i : Nat} (mo : MonoN N) (hv : σ[0]? = some (some (.ref a))) (hd : DiceAt H a) (h : EvQL (Off (some a) N) te σ H n) (n0 : 0 < n) (hn : n ≤ 1000)
    (k : ∀ x H2, Bt a H H2 → DiceAt H2 a → Off (some a) N H2 x → tz D (σ.set i (some x)) H2) : tSeq (tAsg (tCall (sp_law_pick K) [] E (tCons (tVar 0) (tCons te tNil))) (gName i)) tz D σ H := c_pick mo hv hd h n0 hn k
/-! ### data there -/
def Al (o : Option Addr) (H : Hp) : Prop := ∀ a, o = some a → ∃ u, H a = some u
theorem Al.ex (e : Ex H H') (h : Al o H) : Al o H' := fun a ha => let ⟨u, hu⟩ := h a ha; ⟨u, e _ _ hu⟩
theorem Al.ne (h : Al o H) (hp : H p = none) : ∀ a, o = some a → p ≠ a := fun a ha z => by
  obtain ⟨u, hu⟩ := h a ha
  rw [← z, hp] at hu
  cases hu
theorem Al.of (h : DiceAt H a) : Al (some a) H := fun b hb => by
  cases hb
  obtain ⟨x, y, z, hz⟩ := h
  exact ⟨_, hz⟩
theorem Al.none : Al none H := fun b hb => by cases hb
theorem hidO_at {b : Addr} {u : HO} (h : H b = some u) (n : ∀ a, o = some a → b ≠ a) : hid o H b = some u := by
  unfold hid
  rw [if_neg fun z => n b z rfl]
  exact h
abbrev RpO (K : PySem.W.Frag) (o : Option Addr) (d : K0.D) : Hp → V → Prop := Off o fun H v => Rp K H v d
def EvH (K : PySem.W.Frag) (o : Option Addr) (te : TE) (σ : L2.St) (H : Hp) (d : K0.D) : Prop := EvQ (RpO K o d) te σ H
def EvHA (K : PySem.W.Frag) (o : Option Addr) (ta : TA) (σ : L2.St) (H : Hp) (ds : List K0.D) : Prop := ∀ H1, Ex H H1 → ∀ Q : List V → Hp → Prop, (∀ vs H2, Ex H1 H2 → RpAll K (hid o H2) vs ds → Q vs H2) → ta σ H1 Q
theorem rpN {d : K0.D} : MonoN fun H v => Rp K H v d := ⟨fun e h => h.extN e⟩
theorem h_ev (h : Ev te σ H v) (r : ∀ H, Rp K H v d) : EvH K o te σ H d := fun H1 e Q q => h H1 e Q fun H2 e2 => q v H2 e2 (r _)
theorem h_int {i : Int} : EvH K o (tC (.int i)) σ H (.int i) := h_ev ev_c fun _ => .int i
theorem h_neg {i : Int} : EvH K o (tUn (rU fun i => .int (-i)) (tC (.int i))) σ H (.int (-i)) := h_ev (ev_un ev_c ru_neg) fun _ => .int _
theorem h_str {s : Str} : EvH K o (tC (.str s)) σ H (.str s) := h_ev ev_c fun _ => .str s
theorem h_non : EvH K o (tC .non) σ H .non := h_ev ev_c fun _ => .non
theorem h_bl {b : Bool} : EvH K o (tC (.bl b)) σ H (.bl b) := h_ev ev_c fun _ => .bl b
theorem h_var {i : Nat} (h : σ[i]? = some (some v)) (r : RpO K o d H v) : EvH K o (tVar i) σ H d := fun H1 e Q q => ev_var h H1 e Q fun H2 e2 => q v H2 e2 (Rp.ex (hid_ex (e.trans e2)) r)
theorem ha_nil : EvHA K o tNil σ H [] := fun H1 e Q q => q [] H1 (Ex.refl _) .nil
theorem ha_cons (h : EvH K o te σ H d) (r : EvHA K o tr σ H ds) : EvHA K o (tCons te tr) σ H (d :: ds) := fun H1 e Q q =>
  h H1 e _ fun v H2 e2 hv => r H2 (e.trans e2) _ fun vs H3 e3 hs => q (v :: vs) H3 (e2.trans e3) (.cons (Rp.ex (hid_ex e3) hv) hs)
theorem h_tup (al : Al o H) (h : EvHA K o tr σ H ds) (l : ds.length ≤ 1000) : EvH K o (tTup tr) σ H (.tup ds) := fun H1 e Q q =>
  h H1 e _ fun vs H2 e2 hs => ⟨by rw [hs.len]; exact sz_of (by omega), fun p hp => q (.ref p) _ (e2.trans (Ex.new hp)) (.tup (st_of (hidO_at upd_same ((al.ex (e.trans e2)).ne hp))) (RpAll.ex (hid_ex (Ex.new hp)) hs))⟩
theorem h_lst (al : Al o H) (h : EvHA K o tr σ H ds) (l : ds.length ≤ 1000) : EvH K o (tLst tr) σ H .oth := fun H1 e Q q =>
  h H1 e _ fun vs H2 e2 hs => ⟨by rw [hs.len]; exact sz_of (by omega), fun p hp => q (.ref p) _ (e2.trans (Ex.new hp)) (.lst (hidO_at upd_same ((al.ex (e.trans e2)).ne hp)))⟩
theorem h_dict0 (al : Al o H) : EvH K o tDNewK σ H .oth := fun H1 e Q q p hp => q (.ref p) _ (Ex.new hp) (.dct (hidO_at upd_same ((al.ex e).ne hp)))
theorem h_q {N : Hp → V → Prop} (h : EvH K o te σ H d) (k : ∀ H v, Rp K H v d → N H v) : EvQ (Off o N) te σ H := fun H1 e Q q => h H1 e Q fun v H2 e2 r => q v H2 e2 (k _ _ r)
end
/-! ### told: a list that grows by what lambdas meet -/
structure TIG (K : PySem.W.Frag) (T : List (Addr × Str)) (H0 : Hp) (o : Option Addr) (l : Addr) (ds : List K0.D) (H : Hp) : Prop where
  bt : BtO o H0 H
  dice : DiceO o H
  tabs : Tabs T H
  fr : FreeN H0 l
  na : ∀ a, o = some a → l ≠ a
  lst : ∃ vs, H l = some (.lst vs) ∧ RpAll K H vs ds
section
variable {K : PySem.W.Frag} {σ : L2.St} {H H0 H1 H' : Hp} {ta te : TE} {tr : TA} {sp : Sp} {Q : VK} {T : List (Addr × Str)} {D : Ends} {tz : TS} {i : Nat} {a l : Addr} {ds : List K0.D} {r fine : K0.D} {EK : EKT} {TF : Hp → VK → Prop} {o : Option Addr} {t : XK → TE}
theorem TIG.ex (e : Ex H H') (h : TIG K T H0 o l ds H) : TIG K T H0 o l ds H' := by
  obtain ⟨vs, h1, h2⟩ := h.lst
  exact ⟨h.bt.trans (BtO.ofE e), h.dice.ex e, h.tabs.ext e, h.fr, h.na, vs, e _ _ h1, h2.ex e⟩
/-- what a lambda's body is to do -/
def LamDo (T : List (Addr × Str)) (EK : EKT) (fine r : K0.D) (o : Option Addr) (H0 : Hp) (t : XK → TE) (σ : L2.St) : Prop :=
  ∀ H1 (E : XK), BtO o H0 H1 → DiceO o H1 → Tabs T H1 → (∀ cls dd H2, BtO o H1 H2 → DiceO o H2 → Tabs T H2 → EK r cls dd H2 → E cls dd H2) → ∀ Q : VK, (∀ v H2, BtO o H1 H2 → DiceO o H2 → Tabs T H2 → r = fine → Q v H2) → t E σ H1 Q
theorem n_lamG (hF : ∀ H Q, RetR K fine H Q → TF H Q) (hd : DiceO o H) (ht : Tabs T H) (h : LamDo T EK fine r o H t σ) (k : ∀ v H2, BtO o H H2 → DiceO o H2 → Tabs T H2 → Rp K H2 v r → Q v H2) : tLam T (TMG K EK TF) t σ H Q :=
  ⟨ht, fun H1 e1 T1 => h H1 _ (BtO.ofN e1) (hd.extN e1) T1 (fun cls dd H2 b2 d2 t2 ek => ⟨r, ek, fun v H3 e3 rv => k v H3 (((BtO.ofN e1).trans b2).trans (BtO.ofE e3)) (d2.ex e3) (t2.ext e3) rv⟩) _
    fun v H2 b2 d2 t2 er => hF _ _ fun v H3 e3 rv => k v H3 (((BtO.ofN e1).trans b2).trans (BtO.ofE e3)) (d2.ex e3) (t2.ext e3) (by rw [er]; exact rv)⟩
theorem LamDo.bt (b : BtO o H0 H) (h : LamDo T EK fine r o H0 t σ) : LamDo T EK fine r o H t σ := fun H1 E b1 => h H1 E (b.trans b1)
theorem q_told0 (hF : ∀ H Q, RetR K fine H Q → TF H Q) (hd : DiceO o H) (ht : Tabs T H) (h : LamDo T EK fine r o H t σ) (k : ∀ l H1, TIG K T H o l [r] H1 → tz D (σ.set i (some (.ref l))) H1) : tSeq (tAsg (tLst (tCons (tLam T (TMG K EK TF) t) tNil)) (gName i)) tz D σ H :=
  n_lamG hF hd ht h fun v H1 b1 d1 t1 rv => ⟨sz_of (by simp), fun p hp => k p _ ⟨b1.trans (BtO.ofE (Ex.new hp)), d1.ex (Ex.new hp), t1.ext (Ex.new hp), (fun u hu => by
    by_cases nt : ∃ ps, u = .tbl ps
    · exact nt
    · have hne : ∀ a, o = some a → p ≠ a := fun a ha z => by
        obtain ⟨x, y, w, hz⟩ := d1 a ha
        rw [← z, hp] at hz
        cases hz
      have := b1.at_ hne (fun ps z => nt ⟨ps, z⟩) hu
      rw [hp] at this
      cases this), (fun a ha z => by
      obtain ⟨x, y, w, hz⟩ := d1 a ha
      rw [← z, hp] at hz
      cases hz), [v], upd_same, .cons (rv.ex (Ex.new hp)) .nil⟩⟩
theorem q_toldA (hF : ∀ H Q, RetR K fine H Q → TF H Q) (hv : σ[i]? = some (some (.ref l))) (hl : ds.length ≤ 1000) (hc : K0.D.cleanL ds = true) (hr : r.clean = true) (I : TIG K T H0 o l ds H) (h : LamDo T EK fine r o H0 t σ)
    (k : ∀ H1, TIG K T H0 o l (ds ++ [r]) H1 → tz D σ H1) : tSeq (tDrop (tBM K "list" rAppend (tVar i) (tCons (tLam T (TMG K EK TF) t) tNil))) tz D σ H := by
  obtain ⟨vs, hvs, rvs⟩ := I.lst
  have lv : vs.length = ds.length := rvs.len
  refine ⟨.ref l, hv, Or.inl ⟨rfl, vs, sq_of hvs⟩, n_lamG (K := K) hF I.dice I.tabs (h.bt I.bt) fun v H1 b1 d1 t1 rv => ?_⟩
  have h1 : H1 l = some (.lst vs) := b1.at_ I.na (fun ps z => by cases z) hvs
  refine ⟨l, vs, v, rfl, rfl, h1, sz_lt (by omega), k _ ⟨(I.bt.trans b1).mutF I.fr, ?_, tabs_lst h1 t1, I.fr, I.na, _, upd_same, ?_⟩⟩
  · intro a ha
    obtain ⟨x, y, z, hz⟩ := d1 a ha
    exact ⟨x, y, z, by rw [upd_ne (I.na a ha).symm]; exact hz⟩
  · exact (rvs.byT hc fun _ _ g => sqT_lst h1 (BtO.sqT I.dice b1 g)).app (.cons (rv.byT hr fun _ _ g => sqT_lst h1 g) .nil)
end
end K0

namespace K0
namespace G
open PySem PySem.Spec PyProof.Rows L2 Evl
/-! ### lists of data (the generic part, for laws of errors) -/
section
variable {K : PySem.W.Frag} {σ : L2.St} {H H1 : Hp} {te tl : TE} {t : TT} {vs : List Nat} {j : Nat} {Q : VK}
theorem lc_dataF {α : Type} {J : It} {Gd : Hp → Prop} {ys : List α} {f : α → V} {Pk : α → Bool} {G : α → D} (w : Walk J ys.length Gd (YAt (ys.map f))) (hG : ∀ H', Ex H1 H' → Gd H') (hz : ys.length ≤ 40000)
    (hw : ∀ x, wipe ((wipe σ vs).set j (some x)) vs = wipe σ vs)
    (ht : ∀ y H', y ∈ ys → Ex H1 H' → EvT t ((wipe σ vs).set j (some (f y))) H' (Pk y)) (he : ∀ y H', y ∈ ys → Pk y = true → Ex H1 H' → EvD K te ((wipe σ vs).set j (some (f y))) H' (G y))
    (q : ∀ p xs H2, H1 p = none → Ex H1 H2 → H2 p = some (.lst xs) → RpAll K H2 xs ((ys.filter Pk).map G) → Q (.ref p) H2) :
    ∀ Dl, H1 Dl = none → ∃ W : Nat → Nat → Hp → Prop, (∃ m, W 0 m (upd H1 Dl (.lst []))) ∧ ∀ i m H, W i m H → (J.stop i H ∧ Q (.ref Dl) H) ∨ (J.go i H ∧ ∃ Nx : Hp → Prop, (∀ H', Nx H' → ∃ m', m' < m ∧ W (i + 1) m' H') ∧
      ∀ x H', J.yld i H x H' → gName j x (wipe σ vs) H' fun σ2 H2 => wipe σ2 vs = wipe σ vs ∧ t σ2 H2 fun b H3 => if b = true then te σ2 H3 fun y H4 => ∃ acc, H4 Dl = some (.lst acc) ∧ acc.length < sizeLine ∧ Nx (upd H4 Dl (.lst (acc ++ [y]))) else Nx H3) := fun Dl hD => by
  refine lc_it w (fun i H' => i ≤ ys.length ∧ ∃ acc, H' Dl = some (.lst acc) ∧ RpAll K H' acc (((ys.take i).filter Pk).map G) ∧ Ex H1 H') ⟨Nat.zero_le _, [], upd_same, .nil, Ex.new hD⟩ (fun i H' _ p => hG H' p.2.choose_spec.2.2) (fun i x H' H'' hi p y => ?_) (fun H' p => ?_)
  · obtain ⟨_, acc, p1, p2, p3⟩ := p
    obtain ⟨rfl, hx⟩ := y
    rw [List.getElem?_map, List.getElem?_eq_getElem hi] at hx
    have hx' : f ys[i] = x := Option.some.inj hx
    subst hx'
    have hm : ys[i] ∈ ys := List.getElem_mem hi
    have et : ys.take (i + 1) = ys.take i ++ [ys[i]] := by rw [List.take_succ, List.getElem?_eq_getElem hi]; rfl
    refine ⟨hw _, ht ys[i] H'' hm p3 H'' (Ex.refl _) _ fun H3 e3 => ?_⟩
    have hal : acc.length ≤ i := by
      rw [p2.len, List.length_map]
      refine Nat.le_trans (List.length_filter_le _ _) ?_
      rw [List.length_take]
      omega
    cases hk : Pk ys[i] with
    | true =>
      rw [if_pos rfl]
      refine he ys[i] H3 hm hk (p3.trans e3) H3 (Ex.refl _) _ fun v H4 e4 hv => ?_
      have h4 := e4 _ _ (e3 _ _ p1)
      refine ⟨acc, h4, sz_lt (by omega), hi, acc ++ [v], upd_same, ?_, Ex.mut ((p3.trans e3).trans e4) hD⟩
      rw [et, List.filter_append, List.map_append, show [ys[i]].filter Pk = [ys[i]] from by rw [List.filter_cons, if_pos hk]; rfl]
      exact ((p2.ex (e3.trans e4)).app (.cons hv .nil)).exL (ExL.upd h4)
    | false =>
      rw [if_neg (by decide)]
      refine ⟨hi, acc, e3 _ _ p1, ?_, p3.trans e3⟩
      rw [et, List.filter_append, show [ys[i]].filter Pk = [] from by rw [List.filter_cons, if_neg (by rw [hk]; decide)]; rfl, List.append_nil]
      exact p2.ex e3
  · obtain ⟨_, acc, p1, p2, p3⟩ := p
    rw [List.take_length] at p2
    exact q Dl acc H' hD p3 p1 p2
/-- .. as what evaluates to a new list of data, over a list that stands -/
theorem edl_listF {α : Type} {a : Addr} {ys : List α} {f : α → V} {Pk : α → Bool} {G : α → D} (h : Ev tl σ H (.ref a)) (hx : SqL K H a (ys.map f)) (hz : ys.length ≤ 40000) (hw : ∀ x, wipe ((wipe σ vs).set j (some x)) vs = wipe σ vs)
    (ht : ∀ y H', y ∈ ys → Ex H H' → EvT t ((wipe σ vs).set j (some (f y))) H' (Pk y)) (he : ∀ y H', y ∈ ys → Pk y = true → Ex H H' → EvD K te ((wipe σ vs).set j (some (f y))) H' (G y)) :
    EvDL K (tLc (iList K tl) (gName j) t te vs) σ H ((ys.filter Pk).map G) := fun H0 e Q q => h H0 e _ fun H1 e1 => by
  have wk := walk_list (K := K) (a := a) (xs := ys.map f)
  rw [List.length_map] at wk
  exact ⟨a, rfl, ⟨_, ex_l (e.trans e1) hx⟩, lc_dataF wk (fun H' e' => ex_l ((e.trans e1).trans e') hx) hz hw (fun y H' hy e' => ht y H' hy ((e.trans e1).trans e')) (fun y H' hy hk e' => he y H' hy hk ((e.trans e1).trans e')) fun p xs H2 hp e2 h2 r => q p xs H2 (fresh_back e1 hp) (e1.trans e2) h2 r⟩
end
section
variable {K : PySem.W.Frag} {σ : L2.St} {H H' : Hp} {te ta tb : TE} {a : Addr} {ds es : List D} {M : Hp → V → Prop} {n : Nat}
theorem edl_cat (h1 : EvDL K ta σ H ds) (h2 : EvDL K tb σ H es) (l : ds.length + es.length ≤ 100000) : EvDL K (tOp rCat ta tb) σ H (ds ++ es) := fun H1 e Q q =>
  h1 H1 e _ fun p xs H2 hp e2 h3 r3 => h2 H2 (e.trans e2) _ fun p' ys H3 hp' e3 h4 r4 => ⟨p, p', xs, ys, rfl, rfl, e3 _ _ h3, h4, by rw [r3.len, r4.len]; exact sz_of l, fun q' hq => q q' _ _ (fresh_back (e2.trans e3) hq) ((e2.trans e3).trans (Ex.new hq)) upd_same (((r3.ex e3).app r4).ex (Ex.new hq))⟩
theorem edl_lst {tr : TA} (h : EvDA K tr σ H ds) (l : ds.length ≤ 1000) : EvDL K (tLst tr) σ H ds := fun H1 e Q q =>
  h H1 e _ fun vs H2 e2 r2 => ⟨by rw [r2.len]; exact sz_of (by omega), fun p hp => q p vs _ (fresh_back e2 hp) (e2.trans (Ex.new hp)) upd_same (r2.ex (Ex.new hp))⟩
theorem ev_eqDL {a : Addr} {xs : List V} {n : Nat} (h1 : Ev ta σ H (.ref a)) (hx : H a = some (.lst xs)) (rx : RpAll K H xs ds) (h2 : EvDL K tb σ H es) (fd : ∀ d ∈ ds, d.fine n = true) (fe : ∀ d ∈ es, d.fine n = true) (hn : n + 1 ≤ 64) :
    Ev (tOp (rEqD K) ta tb) σ H (.bl (PyData.eqvAll (K0.D.pyL ds) (K0.D.pyL es))) := fun H1 e Q q => h1 H1 e _ fun H2 e2 => h2 H2 (e.trans e2) _ fun p ys H3 hp e3 h3 ry =>
  ⟨.list (K0.D.pyL ds), .list (K0.D.pyL es), dpL (((e.trans e2).trans e3) _ _ hx) (rx.ex ((e.trans e2).trans e3)) (fine_all ds fd).1, dpL h3 ry (fine_all es fe).1, shapedL_of fd hn, shapedL_of fe hn, q H3 (e2.trans e3)⟩
/-- two new lists of data compared -/
theorem ev_neLN {n : Nat} (h1 : EvDL K ta σ H ds) (h2 : EvDL K tb σ H es) (fd : ∀ d ∈ ds, d.fine n = true) (fe : ∀ d ∈ es, d.fine n = true) (hn : n + 1 ≤ 64) :
    Ev (tOp (rNeD K) ta tb) σ H (.bl (!PyData.eqvAll (K0.D.pyL ds) (K0.D.pyL es))) := fun H1 e Q q => h1 H1 e _ fun p0 xs H2 hp0 e2 hx rx => h2 H2 (e.trans e2) _ fun p ys H3 hp e3 h3 ry =>
  ⟨.list (K0.D.pyL ds), .list (K0.D.pyL es), dpL (e3 _ _ hx) (rx.ex e3) (fine_all ds fd).1, dpL h3 ry (fine_all es fe).1, shapedL_of fd hn, shapedL_of fe hn, q H3 (e2.trans e3)⟩
theorem q_asgQ {M : Hp → V → Prop} {D : Ends} {tz : TS} {i : Nat} (h : EvQL M te σ H n) (k : ∀ p xs H1, H p = none → Ex H H1 → H1 p = some (.lst xs) → (∀ v ∈ xs, M H1 v) → xs.length = n → tz D (σ.set i (some (.ref p))) H1) : tSeq (tAsg te (gName i)) tz D σ H :=
  h H (Ex.refl _) _ fun p xs H1 hp e1 h1 ms l => k p xs H1 hp e1 h1 ms l
theorem q_asgDL {D : Ends} {tz : TS} {i : Nat} (h : EvDL K te σ H ds) (k : ∀ p xs H1, H p = none → Ex H H1 → H1 p = some (.lst xs) → RpAll K H1 xs ds → tz D (σ.set i (some (.ref p))) H1) : tSeq (tAsg te (gName i)) tz D σ H :=
  h H (Ex.refl _) _ fun p xs H1 hp e1 h1 r => k p xs H1 hp e1 h1 r
/-- texts -/
theorem strs_of {xs : List V} {ws : List Str} (h : RpAll K H xs (ws.map D.str)) : xs = ws.map V.str := by
  induction ws generalizing xs with
  | nil => cases h; rfl
  | cons z ws ih =>
    cases h with
    | cons a b =>
      cases a
      rw [List.map_cons, ih b]
/-- a list of one, some times over -/
theorem edl_rep {d : D} {k : Nat} (h : EvD K te σ H d) (hk : k ≤ 1000) : EvDL K (tOp rRep (tLst (tCons te tNil)) (tC (.int (k : Int)))) σ H (List.replicate k d) := fun G e Q q =>
  edl_lst (eda_cons h eda_nil) (by simp) G e _ fun p xs G1 hp e1 h1 r => by
    cases r with
    | cons r0 r1 =>
      cases r1
      rename_i v
      refine ⟨p, (k : Int), [v], rfl, rfl, h1, by omega, by omega, sz_of (by simp; omega), fun t ht => q t _ _ (fresh_back e1 ht) (e1.trans (Ex.new ht)) upd_same ?_⟩
      have key : ∀ m, RpAll K G1 (List.replicate m v) (List.replicate m d) := fun m => by
        induction m with
        | zero => exact .nil
        | succ m ih => exact .cons r0 ih
      have hz : (List.replicate (k : Int).toNat [v]).flatten = List.replicate k v := by
        rw [Int.toNat_natCast]
        clear q r0 key ht h1 hp e1
        induction k with
        | zero => rfl
        | succ m ih => rw [List.replicate_succ, List.flatten_cons, ih (by omega), List.replicate_succ]; rfl
      rw [hz]
      exact (key k).ex (Ex.new ht)
theorem eqvAll_same {ds : List D} (h : D.cleanL ds = true) : PyData.eqvAll (D.pyL ds) (D.pyL ds) = true := eqvAll_self ds h
end
end G
end K0

namespace K0
open PySem PySem.Spec PyProof.Rows L2 Evl
/-! ### defs that raise (for any law) -/
def Rai (C : Addr) (H : Hp) (E : XK) : Prop := ∀ H', Ex H H' → E (.ref C) none H'
theorem Rai.ex {C : Addr} {H H' : Hp} {E : XK} (e : Ex H H') (h : Rai C H E) : Rai C H' E := fun H2 e2 => h H2 (e.trans e2)
theorem fn_down {P : Program} {w : World} {K : PySem.W.Frag} {mg : Str → Option Value} {base : Heap} {k : Nat} {f : Addr} {fd : FuncData} {ps : List Str} {sp sq : Sp} (F : FnOk P w K mg base (L2.CX P w) k f fd ps sp) (i : ∀ vs H Q E, sq vs H Q E → sp vs H Q (fun _ _ _ => False)) : FnOk P w K mg base CX0 k f fd ps sq :=
  ⟨fun vs H Q E h => F.len _ _ _ _ (i _ _ _ _ h), fun A0 o s H ar us vs Q E hr e hb hv hs => codeAny_mono (F.run A0 o s H ar us vs Q _ hr e hb hv (i _ _ _ _ hs)) fun r s' z => by
    cases r with
    | error e =>
      obtain ⟨_, _, _, _, _, _, _, _, _, _, _, _, h⟩ := z
      exact h.elim
    | ok fl => cases fl <;> exact z⟩
theorem q_callX {σ : L2.St} {H : Hp} {tr : TA} {tz : TS} {Dn : Ends} {sp : Sp} {E : XK} {vs : List V} (h : EvA tr σ H vs) (k : ∀ H1, Ex H H1 → sp (vs ++ []) H1 (fun _ H2 => tz Dn σ H2) E) : tSeq (tDrop (tCall sp [] E tr)) tz Dn σ H := h H (Ex.refl _) _ k
end K0

namespace K0
open PySem PySem.Spec PyProof.Rows L2 Evl
/-! ### disks (as in k12, any blocks) -/
def D.block : D → Bool
  | .non => true
  | .tup ds => D.plain 12 (.tup ds)
  | _ => false
/-- a block that is not great -/
structure BkOk (d : D) : Prop where
  blk : d.block = true
  fine : d.fine 5 = true
  size : d.size ≤ 20
theorem blk_block {d : D} (m : BkOk d) : d.block = true := m.blk
theorem blk_fine {d : D} (m : BkOk d) : d.fine 5 = true := m.fine
theorem blk_size {d : D} (m : BkOk d) : d.size ≤ 20 := m.size
theorem bk_non : BkOk .non := ⟨rfl, by decide +kernel, by decide⟩
theorem size_le : ∀ ds : List D, (∀ d ∈ ds, d.size ≤ 20) → D.sizeL ds ≤ 20 * ds.length
  | [], _ => Nat.le_refl _
  | d :: ds, h => by
    have h1 := h d (List.mem_cons_self ..)
    have h2 := size_le ds fun e he => h e (List.mem_cons_of_mem _ he)
    simp only [D.sizeL, List.length_cons]
    omega
def prD (p : Nat × D) : D := .tup [.int (p.1 : Int), p.2]
theorem prD_fine {p : Nat × D} (h : BkOk p.2) : (prD p).fine 6 = true := fine_tup fun d hd => by
  rcases List.mem_cons.mp hd with rfl | hd
  · simp [D.fine, D.clean, D.py, PyData.canLay0, PyData.depth]
  · rw [List.mem_singleton.mp hd]
    exact blk_fine h
/-- the blocks behind some puts -/
def rd (S : List D) (W : List (Nat × D)) : List D := W.foldl (fun s p => s.set p.1 p.2) S
theorem rd_len (S : List D) (W : List (Nat × D)) : (rd S W).length = S.length := by
  unfold rd
  induction W generalizing S with
  | nil => rfl
  | cons p W ih =>
    rw [List.foldl_cons, ih, List.length_set]
theorem rd_mem {S : List D} {W : List (Nat × D)} (h : ∀ d ∈ S, BkOk d) (g : ∀ p ∈ W, BkOk p.2) : ∀ d ∈ rd S W, BkOk d := by
  unfold rd
  induction W generalizing S with
  | nil => exact h
  | cons p W ih =>
    rw [List.foldl_cons]
    refine ih (fun d hd => ?_) fun q hq => g q (List.mem_cons_of_mem _ hq)
    rcases List.mem_or_eq_of_mem_set hd with hd | rfl
    · exact h d hd
    · exact g p (List.mem_cons_self ..)
theorem rd_take {S : List D} {W : List (Nat × D)} {i : Nat} {p : Nat × D} (h : W[i]? = some p) : rd S (W.take (i + 1)) = (rd S (W.take i)).set p.1 p.2 := by
  unfold rd
  rw [List.take_succ, h, List.foldl_append]
  rfl
/-- what holds of all disks here -/
structure DOk (S : List D) (W : List (Nat × D)) : Prop where
  lo : 1 ≤ S.length
  hi : S.length ≤ 200
  wl : W.length ≤ 400
  bs : ∀ d ∈ S, BkOk d
  bw : ∀ p ∈ W, p.1 < S.length ∧ BkOk p.2
theorem DOk.sync {S : List D} {W : List (Nat × D)} (h : DOk S W) : DOk (rd S W) [] :=
  ⟨by rw [rd_len]; exact h.lo, by rw [rd_len]; exact h.hi, Nat.zero_le _, rd_mem h.bs fun p hp => (h.bw p hp).2, fun p hp => by cases hp⟩
theorem DOk.fs {S : List D} {W : List (Nat × D)} (h : DOk S W) : (D.tup S).fine 8 = true := fine_le (fine_tup fun d hd => blk_fine (h.bs d hd)) (by decide)
theorem DOk.fw {S : List D} {W : List (Nat × D)} (h : DOk S W) : (D.tup (W.map prD)).fine 8 = true := fine_le (fine_tup (n := 6) fun d hd => by
  obtain ⟨p, hp, rfl⟩ := List.mem_map.mp hd
  exact prD_fine (h.bw p hp).2) (by decide)
/-- a disk stands at p -/
structure DiskAt (K : PySem.W.Frag) (C : Addr) (H : Hp) (p : Addr) (S : List D) (W : List (Nat × D)) : Prop where
  ob : ∃ dx a b, H p = some (.ins C dx [("_sure", .ref a), ("_waiting", .ref b)]) ∧ Rp K H (.ref a) (.tup S) ∧ Rp K H (.ref b) (.tup (W.map prD))
  ok : DOk S W
theorem DiskAt.ex {K : PySem.W.Frag} {C : Addr} {H H' : Hp} {p : Addr} {S : List D} {W : List (Nat × D)} (e : Ex H H') (h : DiskAt K C H p S W) : DiskAt K C H' p S W := by
  obtain ⟨⟨dx, a, b, h1, h2, h3⟩, ok⟩ := h
  exact ⟨⟨dx, a, b, e _ _ h1, h2.ex e, h3.ex e⟩, ok⟩
theorem Rp.pairI {K : PySem.W.Frag} {H : Hp} {x : V} {p : Nat × D} (h : Rp K H x (prD p)) : ∃ t v, x = .ref t ∧ SqT K H t [.int (p.1 : Int), v] ∧ Rp K H v p.2 := by
  obtain ⟨a, xs, rfl, hs, hr⟩ := h.tupI
  cases hr with
  | cons h1 r =>
    cases h1
    cases r with
    | cons h2 r =>
      cases r
      exact ⟨a, _, rfl, hs, h2⟩
theorem f_sw : ¬ (("_sure" : Str) = "_waiting") := by decide +kernel
theorem f_ws : ¬ (("_waiting" : Str) = "_sure") := by decide +kernel
theorem flds_new (x y : V) : putF "_waiting" y (putF "_sure" x []) = ([("_sure", x), ("_waiting", y)] : List (Str × V)) := by
  show (if ("_sure" : Str) = "_waiting" then _ else (("_sure" : Str), x) :: putF "_waiting" y []) = _
  rw [if_neg f_sw]
  all_goals rfl
theorem flds_s (x y z : V) : putF "_sure" z [("_sure", x), ("_waiting", y)] = ([("_sure", z), ("_waiting", y)] : List (Str × V)) := by
  show (if ("_sure" : Str) = "_sure" then _ else _) = _
  rw [if_pos rfl]
theorem flds_w (x y z : V) : putF "_waiting" z [("_sure", x), ("_waiting", y)] = ([("_sure", x), ("_waiting", z)] : List (Str × V)) := by
  show (if ("_sure" : Str) = "_waiting" then _ else (("_sure" : Str), x) :: (if ("_waiting" : Str) = "_waiting" then _ else _)) = _
  rw [if_neg f_sw, if_pos rfl]
theorem look_s (x y : V) : ([("_sure", x), ("_waiting", y)] : List (Str × V)).lookup ("_sure" : Str) = some x := by
  rw [List.lookup_cons, show (("_sure" : Str) == ("_sure" : Str)) = true from by decide +kernel]
theorem look_w (x y : V) : ([("_sure", x), ("_waiting", y)] : List (Str × V)).lookup ("_waiting" : Str) = some y := by
  rw [List.lookup_cons, show (("_waiting" : Str) == ("_sure" : Str)) = false from by decide +kernel, List.lookup_cons, show (("_waiting" : Str) == ("_waiting" : Str)) = true from by decide +kernel]
theorem look_no (x y : V) {m : Str} (h1 : (m == ("_sure" : Str)) = false) (h2 : (m == ("_waiting" : Str)) = false) : ([("_sure", x), ("_waiting", y)] : List (Str × V)).lookup m = none := by
  rw [List.lookup_cons, h1, List.lookup_cons, h2]
  rfl
/-! ### readings -/
section
variable {K : PySem.W.Frag} {σ : L2.St} {H H' : Hp} {ta tb te tv : TE} {x y z v : V} {C a dx : Addr} {fs : List (Str × V)} {f : Str} {D : Ends} {tz : TS}
end
def RetDisk (K : PySem.W.Frag) (C : Addr) (S : List D) (W : List (Nat × D)) (H : Hp) (Q : VK) : Prop := ∀ p H', Ex H H' → DiskAt K C H' p S W → Q (.ref p) H'
end K0

namespace K0
open PySem PySem.Spec PyProof.Rows L2 Evl
def NumQ (A : Ad) (x : V) (d : D) (lo hi : Int) (H : Hp) (Q : VK) (E : XK) : Prop := (d.within lo hi = true → RetV .non H Q) ∧ (d.within lo hi = false → RaF A.EInvalidNumber "given" x H E)
theorem NumQ.ex {A : Ad} {x : V} {d : D} {lo hi : Int} {H H' : Hp} {Q : VK} {E : XK} (e : Ex H H') (h : NumQ A x d lo hi H Q E) : NumQ A x d lo hi H' Q E := ⟨fun z H2 e2 => h.1 z H2 (e.trans e2), fun z => (h.2 z).ex e⟩
section
variable {P : Program} {w : World} {K : PySem.W.Frag} {mg : Str → Option Value} {base : Heap} {A : Ad} {D : Fd}
theorem ok_InvalidNumber_init (T : Txt K mg A D) : FnOk P w K mg base CX0 1 A.InvalidNumber_init D.InvalidNumber_init ["self", "given"] (spXI A.EInvalidNumber "given") := by
  refine T.F_InvalidNumber_init.ok sc_InvalidNumber_init (fun vs H Q E h => by obtain ⟨a, x, rfl, _⟩ := h; rfl) (fun cdv A0 outer s H vs Q E hr h => ?_)
  refine ⟨_, (pss_one (ps_ostT (pv 0) (pv 1))), ?_⟩
  obtain ⟨a, x, rfl, ha, k⟩ := h
  exact n_var rfl (n_var rfl ⟨a, A.EInvalidNumber, rfl, T.e_InvalidNumber.o, T.n_InvalidNumbergiven, ha, k⟩)
theorem ok_TooMany_init (T : Txt K mg A D) : FnOk P w K mg base CX0 1 A.TooMany_init D.TooMany_init ["self", "limit"] (spXI A.ETooMany "limit") := by
  refine T.F_TooMany_init.ok sc_TooMany_init (fun vs H Q E h => by obtain ⟨a, x, rfl, _⟩ := h; rfl) (fun cdv A0 outer s H vs Q E hr h => ?_)
  refine ⟨_, (pss_one (ps_ostT (pv 0) (pv 1))), ?_⟩
  obtain ⟨a, x, rfl, ha, k⟩ := h
  exact n_var rfl (n_var rfl ⟨a, A.ETooMany, rfl, T.e_TooMany.o, T.n_TooManylimit, ha, k⟩)
def sp_check_numberX (K : PySem.W.Frag) (A : Ad) : Sp := fun vs H Q E => ∃ x d lo hi, vs = [x, .int lo, .int hi] ∧ Rp K H x d ∧ NumQ A x d lo hi H Q E
theorem ok_check_numberX (T : Txt K mg A D) : FnOk P w K mg base (L2.CX P w) 6 A.check_number D.check_number ["given", "least", "most"] (sp_check_numberX K A) := by
  have G_is_within : FnOk P w K mg base CX0 2 A.is_within D.is_within ["value", "least", "most"] (sp_is_within K) := ok_is_within T
  have G_InvalidNumber_init := ok_InvalidNumber_init (P := P) (w := w) (base := base) T
  refine T.F_check_number.ok sc_check_number (fun vs H Q E h => by obtain ⟨x, d, lo, hi, rfl, _⟩ := h; rfl) (fun cdv A0 outer s H vs Q E hr h => ?_)
  refine ⟨_, (pss_one (ps_if (pt_not (pt_val (pe_call G_is_within (hr.mono (by decide)) rfl T.g_is_within T.F_is_within.kp T.b_is_within .nil pass0 (pa_cons (pv 0) (pa_cons (pv 1) (pa_cons (pv 2) pa_nil)))))) (pss_one (ps_raise rfl (takes_of rfl rfl rfl rfl) (pmk_oexT T.e_InvalidNumber.o T.e_InvalidNumber.i T.e_InvalidNumber.t G_InvalidNumber_init (hr.mono (by decide)) T.b_InvalidNumber_init .nil pass0 (by exact rfl) T.e_InvalidNumber.g (pa_cons (pv 0) pa_nil)))) pss_nil)), ?_⟩
  obtain ⟨x, d, lo, hi, rfl, hx, k⟩ := h
  refine s_when (et_not (et_B (ev_call (ea_cons (ev_var rfl) (ea_cons (ev_var rfl) (ea_cons (ev_var rfl) ea_nil))) (sv_within hx)))) (fun hb H1 e1 => ?_) fun hb H1 e1 => k.1 (by cases q : d.within lo hi with | true => rfl | false => rw [q] at hb; cases hb) H1 e1
  have hf : d.within lo hi = false := by cases q : d.within lo hi with | true => rw [q] at hb; cases hb | false => rfl
  exact s_raiseO (D := ⟨fun _ _ => True, fun _ _ => True, fun _ _ => True, fun _ _ => True⟩) (W := fun cls d _ H => E cls d H) (ev_var rfl) fun dd H4 e4 h4 => k.2 hf dd H4 (e1.trans e4) h4
def sp_is_block (K : PySem.W.Frag) : Sp := spS K0.D.block K
theorem len_is_block {vs : List V} {H : Hp} {Q : VK} {E : XK} (h : sp_is_block K vs H Q E) : vs.length = 1 := spS_len h
theorem ok_is_block (T : Txt K mg A D) : FnOk P w K mg base CX0 5 A.is_block D.is_block ["value"] (sp_is_block K) := by
  have G_is_plain : FnOk P w K mg base CX0 4 A.is_plain D.is_plain ["value"] (sp_is_plain K) := ok_is_plain T
  refine T.F_is_block.ok sc_is_block (fun vs H Q E h => len_is_block h) (fun cdv A0 outer s H vs Q E hr h => ?_)
  refine ⟨_, (pss_one (ps_ret (pe_or (pe_cmpR op_isN (pv 0) pe_non (nomark _)) (pe_one (pe_and (pe_callB call_isi (by rfl) T.b_isinstance (by decide +kernel) (pa_cons (pv 0) (pa_cons (pe_bltn (v := .ty "tuple") (u := .type "tuple") (by rfl) T.b_tuple (by decide +kernel) rfl) pa_nil))) (pe_one (pe_call G_is_plain (hr.mono (by decide)) rfl T.g_is_plain T.F_is_plain.kp T.b_is_plain .nil pass0 (pa_cons (pv 0) pa_nil)))))))), ?_⟩
  obtain ⟨x, d, rfl, hx, hs, k⟩ := h
  refine s_ret (ev_is (ev_orV (a := d.isNon) (b := d.isTup && d.plain 12) (ev_is (ev_op (ev_var rfl) ev_c rv_isN) (congrArg V.bl hx.isN)) fun _ => ?_) ?_) fun H2 e2 => k H2 e2
  · exact ev_andV (ev_cb (ea_cons (ev_var rfl) (ea_cons ev_c ea_nil)) (rc_tup hx)) fun _ => ev_call (ea_cons (ev_var rfl) ea_nil) (svS hx hs)
  · cases d <;> rfl
def D.blocks (lo : Int) : K0.D → Bool
  | .tup ds => decide (lo ≤ (ds.length : Int)) && decide ((ds.length : Int) ≤ 200) && ds.all K0.D.block
  | _ => false
def sp_are_blocks (K : PySem.W.Frag) : Sp := fun vs H Q _ => ∃ x d lo, vs = [x, .int lo] ∧ Rp K H x d ∧ d.size ≤ 30000 ∧ RetV (.bl (d.blocks lo)) H Q
theorem len_are_blocks {vs : List V} {H : Hp} {Q : VK} {E : XK} (h : sp_are_blocks K vs H Q E) : vs.length = 2 := by
  obtain ⟨x, d, lo, rfl, _⟩ := h
  rfl
theorem sv_blocks {H : Hp} {x : V} {d : K0.D} {lo : Int} (h : Rp K H x d) (hs : d.size ≤ 30000) : SpV (sp_are_blocks K) [x, .int lo] H (.bl (d.blocks lo)) := fun H1 e Q q E => ⟨x, d, lo, rfl, h.ex e, hs, q⟩
theorem et_chain_le {σ : L2.St} {H : Hp} {ta tb tc : TE} {i j k : Int} (ha : Ev ta σ H (.int i)) (hb : Ev tb σ H (.int j)) (hc : Ev tc σ H (.int k)) :
    EvT (tB (tChain (rI0 fun i j => .bl (decide (i ≤ j))) (rI0 fun i j => .bl (decide (i ≤ j))) ta tb tc)) σ H (decide (i ≤ j) && decide (j ≤ k)) := et_B (ev_chain_le ha hb hc)
theorem ok_are_blocks (T : Txt K mg A D) : FnOk P w K mg base CX0 6 A.are_blocks D.are_blocks ["value", "least"] (sp_are_blocks K) := by
  have G_is_block : FnOk P w K mg base CX0 5 A.is_block D.is_block ["value"] (sp_is_block K) := ok_is_block T
  obtain ⟨t_MAX_BLOCKS, c_MAX_BLOCKS⟩ := T.c_MAX_BLOCKS
  refine T.F_are_blocks.ok sc_are_blocks (fun vs H Q E h => len_are_blocks h) (fun cdv A0 outer s H vs Q E hr h => ?_)
  refine ⟨_, (pss_cons (ps_if (PW.pt (pw_or (pt_not (pt_val (pe_callB call_isi (by rfl) T.b_isinstance (by decide +kernel) (pa_cons (pv 0) (pa_cons (pe_bltn (v := .ty "tuple") (u := .type "tuple") (by rfl) T.b_tuple (by decide +kernel) rfl) pa_nil))))) (pw_or1 (pt_not (pt_chain op_le op_le (pv 1) (pe_callB call_len (by rfl) T.b_len (by decide +kernel) (pa_cons (pv 0) pa_nil)) (pe_glob (v := .int (200)) rfl c_MAX_BLOCKS ⟨_, rfl⟩)))))) (pss_one (ps_ret pe_bl)) pss_nil)
  (pss_one (ps_ret (pe_callB (cr_all rfl) (by rfl) T.b_all (by decide +kernel) (pa_cons (pe_lc (own := [("block", 2)]) (g := gName 2) (tt := tYes) rfl sc_are_blocks.nd (pi_tup (pv 0)) (blkOk_by (own := [("block", 2)]) (N := N_are_blocks) (sc := defScope s_are_blocks) (by decide +kernel)) (fun _ _ _ _ _ => by exact pg_name (i := 2) sc_are_blocks.nd rfl (Or.inl rfl)) (fun _ _ _ _ _ => by exact pts_nil) (fun _ _ _ _ _ => by exact (pe_call G_is_block (hr.mono (by decide)) rfl T.g_is_block T.F_is_block.kp T.b_is_block .nil pass0 (pa_cons (pv 2) pa_nil)))) pa_nil))))), ?_⟩
  obtain ⟨x, d, lo, rfl, hx, hs, k⟩ := h
  by_cases ht : d.isTup = true
  · obtain ⟨a, xs, ds, rfl, rfl, hq, hrp⟩ := hx.isT ht
    have hl := hrp.len
    have hz := sizeL_len ds
    simp only [K0.D.size] at hs
    refine q_when (b := !(decide (lo ≤ (ds.length : Int)) && decide ((ds.length : Int) ≤ 200))) (et_is (et_or (et_is (et_not (et_B (ev_cb (ea_cons (ev_var rfl) (ea_cons ev_c ea_nil)) (rc_tup hx)))) (b := false) rfl) fun _ => et_not (by
      have z := et_chain_le (i := lo) (j := (xs.length : Nat)) (k := 200) (ta := tVar 1) (tb := tCB (fun xs H Q => ∃ x n, xs = [x] ∧ LenV K x H n ∧ Q (.int n) H) (tCons (tVar 0) tNil)) (tc := tC (.int 200)) (σ := start N_are_blocks [V.ref a, V.int lo]) (H := H) (ev_var rfl) (ev_cb (ea_cons (ev_var rfl) ea_nil) (rc_lenT hq)) ev_c
      rw [hl] at z
      exact z)) (Bool.false_or _)) (fun hb H1 e1 => ?_) (fun hb H1 e1 => ?_)
    · refine s_ret ev_c fun H2 e2 => ?_
      have z := k H2 (e1.trans e2)
      have c : (decide (lo ≤ (ds.length : Int)) && decide ((ds.length : Int) ≤ 200)) = false := by
        cases q : (decide (lo ≤ (ds.length : Int)) && decide ((ds.length : Int) ≤ 200)) <;> rw [q] at hb <;> first | rfl | cases hb
      have hf : (K0.D.tup ds).blocks lo = false := by
        show ((decide (lo ≤ (ds.length : Int)) && decide ((ds.length : Int) ≤ 200)) && ds.all K0.D.block) = false
        rw [c]
        rfl
      rw [hf] at z
      exact z
    · have c : (decide (lo ≤ (ds.length : Int)) && decide ((ds.length : Int) ≤ 200)) = true := by
        cases q : (decide (lo ≤ (ds.length : Int)) && decide ((ds.length : Int) ≤ 200)) <;> rw [q] at hb <;> first | rfl | cases hb
      refine s_ret (ev_is (ev_all (bs := (List.range xs.length).map fun i => (ds.getD i .non).block) ?_) ?_) fun H2 e2 => k H2 (e1.trans e2)
      · rw [List.map_map, ← given_map (f := fun _ => true) (fun _ => rfl)]
        refine el_lcT (fun _ => true) _ (ev_var rfl) (ex_t e1 hq) (by omega) (fun _ => rfl) (fun i y H3 e3 hy => et_yes) (fun i y H3 e3 hy _ => ?_)
        obtain ⟨d, hd, hrp'⟩ := RpAll.get _ _ _ _ (hrp.ex (e1.trans e3)) hy
        have hsz := size_mem (List.mem_of_getElem? hd)
        refine ev_is (ev_call (ea_cons (ev_var rfl) ea_nil) (svS (f := K0.D.block) hrp' (by omega))) ?_
        show V.bl d.block = V.bl ((ds.getD i .non).block)
        rw [List.getD_eq_getElem?_getD, hd]
        rfl
      · rw [List.all_map, hl]
        show V.bl (((List.range ds.length).all fun i => (ds.getD i .non).block)) = V.bl ((decide (lo ≤ (ds.length : Int)) && decide ((ds.length : Int) ≤ 200)) && ds.all K0.D.block)
        rw [c, all_getD]
        rfl
  · have hf : d.blocks lo = false := by cases d <;> first | rfl | exact absurd rfl ht
    rw [hf] at k
    have ht' : d.isTup = false := by cases q : d.isTup <;> first | rfl | exact absurd q ht
    refine q_when (b := true) (et_is (et_or (a := true) (b := true) (et_is (et_not (et_B (ev_cb (ea_cons (ev_var rfl) (ea_cons ev_c ea_nil)) (rc_tup hx)))) (by rw [ht']; rfl)) fun z => by cases z) rfl) (fun _ H1 e1 => ?_) (fun z => by cases z)
    exact s_ret ev_c fun H2 e2 => k H2 (e1.trans e2)
theorem sure_ok {S : List K0.D} (h1 : 1 ≤ S.length) (h2 : S.length ≤ 200) (h : ∀ d ∈ S, BkOk d) : (K0.D.tup S).blocks 1 = true ∧ (K0.D.tup S).size ≤ 30000 := by
  constructor
  · show (decide ((1 : Int) ≤ (S.length : Int)) && decide ((S.length : Int) ≤ 200) && S.all K0.D.block) = true
    rw [decide_eq_true (by omega), decide_eq_true (by omega), List.all_eq_true.mpr fun d hd => blk_block (h d hd)]
    rfl
  · have := size_le S fun d hd => blk_size (h d hd)
    simp only [K0.D.size]
    omega
/-- Disk(x): refused, or made -/
def sp_Disk_initX (K : PySem.W.Frag) (A : Ad) : Sp := fun vs H Q E => ∃ p dx y d, vs = [.ref p, y] ∧ H p = some (.ins A.Disk dx []) ∧ Rp K H y d ∧ d.size ≤ 30000 ∧ (d.blocks 1 = false → Rai A.EInvalidBlock H E) ∧
  (d.blocks 1 = true → ∀ u H', (∀ c o, H c = some o → c ≠ p → H' c = some o) → H' p = some (.ins A.Disk dx [("_sure", y), ("_waiting", .ref u)]) → SqT K H' u [] → Q .non H')
theorem ok_Disk_initX (T : Txt K mg A D) : FnOk P w K mg base (L2.CX P w) 20 A.Disk_init D.Disk_init ["self", "blocks"] (sp_Disk_initX K A) := by
  have G_are_blocks := ok_are_blocks (P := P) (w := w) (base := base) T
  refine T.F_Disk_init.okX sc_Disk_init (fun vs H Q E h => by obtain ⟨p, dx, y, d, rfl, _⟩ := h; rfl) (fun cdv A0 outer s H vs Q E hr h => ?_)
  refine ⟨_, (pss_cons (ps_if (pt_not (pt_val (pe_call G_are_blocks (hr.mono (by decide)) rfl T.g_are_blocks T.F_are_blocks.kp T.b_are_blocks .nil pass0 (pa_cons (pv 1) (pa_cons pe_int pa_nil))))) (pss_one (ps_raise rfl (takes_of rfl rfl rfl rfl) (pmk_own PySem.F.excBase_ValueError T.e_InvalidBlock.q T.e_InvalidBlock.g T.e_InvalidBlock.k (raises_own T.e_InvalidBlock.b T.e_InvalidBlock.t) (by exact rfl)))) pss_nil)
  (pss_cons (ps_fld (pv 0) (pv 1) rfl)
  (pss_one (ps_fld (pv 0) (pe_tup pa_nil) rfl)))), ?_⟩
  obtain ⟨p, dx, y, d, rfl, hp, hy, hs, k1, k⟩ := h
  refine q_when (b := !d.blocks 1) (et_not (et_B (ev_call (ea_cons (ev_var rfl) (ea_cons ev_c ea_nil)) (sv_blocks hy hs)))) (fun hb H1 e1 => ?_) fun hb H1 e1 => ?_
  · exact k1 (by cases q : d.blocks 1 <;> first | rfl | (rw [q] at hb; cases hb)) H1 e1
  have k := k (by cases q : d.blocks 1 <;> first | rfl | (rw [q] at hb; cases hb))
  refine q_fld (ev_var rfl) (ev_var rfl) (e1 _ _ hp) T.cl_Disk T.no_Disk_sure (by decide) fun H2 e2 => ?_
  refine s_fldU (eu_tup ea_nil (by simp)) (ev_var rfl) upd_same T.cl_Disk T.no_Disk_waiting (by show 1 < 1000; decide) fun u H3 hu e3 h3 => ?_
  have npu : u ≠ p := fun z => by
    rw [z, upd_same] at hu
    cases hu
  refine k u _ (fun c o hc ne => ?_) ?_ ?_
  · rw [upd_ne ne]
    refine e3 _ _ ?_
    rw [upd_ne ne]
    exact e2 _ _ (e1 _ _ hc)
  · rw [upd_same, flds_new]
  · refine st_of ?_
    rw [upd_ne npu]
    exact h3
def sp_Disk_init (K : PySem.W.Frag) (A : Ad) : Sp := fun vs H Q _ => sp_Disk_initX K A vs H Q fun _ _ _ => False
theorem ok_Disk_init (T : Txt K mg A D) : FnOk P w K mg base CX0 20 A.Disk_init D.Disk_init ["self", "blocks"] (sp_Disk_init K A) := fn_down (ok_Disk_initX T) fun _ _ _ _ h => h
def sp_made (K : PySem.W.Frag) (A : Ad) : Sp := fun vs H Q _ => ∃ x y S W, vs = [x, y] ∧ Rp K H x (.tup S) ∧ Rp K H y (.tup (W.map prD)) ∧ DOk S W ∧ RetDisk K A.Disk S W H Q
theorem len_made {vs : List V} {H : Hp} {Q : VK} {E : XK} (h : sp_made K A vs H Q E) : vs.length = 2 := by
  obtain ⟨x, y, S, W, rfl, _⟩ := h
  rfl
theorem ok_made (T : Txt K mg A D) : FnOk P w K mg base CX0 22 A.made D.made ["sure", "waiting"] (sp_made K A) := by
  have G_Disk_init := ok_Disk_init (P := P) (w := w) (base := base) T
  refine T.F_made.ok sc_made (fun vs H Q E h => len_made h) (fun cdv A0 outer s H vs Q E hr h => ?_)
  refine ⟨_, (pss_cons (ps_set (i := 2) sc_made.nd rfl (Or.inl rfl) (pe_make T.mk_Disk G_Disk_init (hr.mono (by decide)) (by rfl) T.g_Disk T.b_Disk_init .nil pass0 (pa_cons (pe_tup (pa_cons pe_non pa_nil)) pa_nil)))
  (pss_cons (ps_fld (pv 2) (pv 0) rfl)
  (pss_cons (ps_fld (pv 2) (pv 1) rfl)
  (pss_one (ps_ret (pv 2)))))), ?_⟩
  obtain ⟨x, y, S, W, rfl, hx, hy, ok, k⟩ := h
  obtain ⟨a, xs, rfl, _⟩ := hx.tupI
  obtain ⟨b, ys, rfl, _⟩ := hy.tupI
  refine q_asgMk (eu_tup (ea_cons ev_c ea_nil) (by simp)) fun p H1 hp e1 h1 q dx hq hdx hne => ?_
  have e2 : Ex H1 (upd (upd H1 dx (.own q)) q (.ins A.Disk dx [])) := fun c o hc => by
    rw [upd_ne (ne_of_none hc hq), upd_ne (ne_of_none hc hdx)]
    exact hc
  refine ⟨q, dx, .ref p, .tup [.non], rfl, upd_same, (Rp.tup (st_of h1) (.cons .non .nil)).ex e2, by decide, (fun z => absurd z (by decide +kernel)), fun _ u H2 k2 hq2 hu => ⟨rfl, ?_⟩⟩
  have e3 : Ex H1 H2 := fun c o hc => k2 c o (e2 c o hc) (ne_of_none hc hq)
  refine q_fld (ev_var rfl) (ev_var rfl) hq2 T.cl_Disk T.no_Disk_sure (by show 2 < 1000; decide) fun H3 e4 => ?_
  refine q_fld (ev_var rfl) (ev_var rfl) upd_same T.cl_Disk T.no_Disk_waiting (by rw [flds_s]; show 2 < 1000; decide) fun H4 e5 => ?_
  have e6 : Ex H1 (upd H3 q (.ins A.Disk dx (putF "_sure" (V.ref a) [("_sure", V.ref p), ("_waiting", V.ref u)]))) := (e3.trans e4).mut hq
  have e7 := (e6.trans e5).mut (o := .ins A.Disk dx (putF "_waiting" (V.ref b) (putF "_sure" (V.ref a) [("_sure", V.ref p), ("_waiting", V.ref u)]))) hq
  refine s_ret (ev_var rfl) fun H5 e8 => ?_
  have e9 : Ex H H5 := (e1.trans e7).trans e8
  refine k q H5 e9 ⟨⟨dx, a, b, e8 _ _ ?_, hx.ex e9, hy.ex e9⟩, ok⟩
  rw [upd_same, flds_s, flds_w]
def sp_behindT (K : PySem.W.Frag) : Sp := fun vs H Q _ => ∃ x y S W, vs = [x, y] ∧ Rp K H x (.tup S) ∧ Rp K H y (.tup (W.map prD)) ∧ (∀ p ∈ W, p.1 < S.length) ∧ S.length ≤ 1000 ∧ W.length ≤ 1000 ∧ RetR K (.tup (rd S W)) H Q
theorem len_behindT {vs : List V} {H : Hp} {Q : VK} {E : XK} (h : sp_behindT K vs H Q E) : vs.length = 2 := by
  obtain ⟨x, y, S, W, rfl, _⟩ := h
  rfl
theorem ok_behindT (T : Txt K mg A D) : FnOk P w K mg base CX0 1 A.behind D.behind ["sure", "puts"] (sp_behindT K) := by
  refine T.F_behind.ok sc_behind (fun vs H Q E h => len_behindT h) (fun cdv A0 outer s H vs Q E hr h => ?_)
  refine ⟨_, (pss_cons (ps_set (i := 2) sc_behind.nd rfl (Or.inl rfl) (pe_callTy call_list_of (by rfl) T.b_list (by decide +kernel) (pa_cons (pv 0) pa_nil)))
  (pss_cons (ps_for PassesOwn.never rfl (pi_tup (pv 1)) (pg_tup rfl (pgs_cons (pg_name (i := 3) sc_behind.nd rfl (Or.inl rfl)) (pgs_cons (pg_name (i := 4) sc_behind.nd rfl (Or.inl rfl)) pgs_nil))) (pss_one (ps_asg (pv 4) (pg_sub (pv 2) (pv 3) set_list))))
  (pss_one (ps_ret (pe_callTy call_tuple_of (by rfl) T.b_tuple (by decide +kernel) (pa_cons (pv 2) pa_nil)))))), ?_⟩
  obtain ⟨x, y, S, W, rfl, hx, hy, hb, l1, l2, k⟩ := h
  obtain ⟨a, xs, rfl, sa, ra⟩ := hx.tupI
  obtain ⟨b, ys, rfl, sb, rb⟩ := hy.tupI
  refine q_asgL (el_listT (ev_var rfl) sa) fun l H1 hl e1 h1 => ?_
  refine q_forT (ev_var rfl) (ex_t e1 sb) (fun i σ' H' => ∃ zs v3 v4, σ' = [some (.ref a), some (.ref b), some (.ref l), v3, v4] ∧ Ex H H' ∧ H' l = some (.lst zs) ∧ RpAll K H' zs (rd S (W.take i))) (fun H2 e2 => ?_) (fun i σ' H' _ ⟨_, _, _, _, e, _⟩ => ex_t e sb) (fun i z σ' H' hz p => ?_) (fun σ' H' p => ?_)
  · exact ⟨xs, none, none, rfl, e1.trans e2, e2 _ _ h1, ra.ex (e1.trans e2)⟩
  · obtain ⟨zs, v3, v4, rfl, e, hzs, rz⟩ := p
    obtain ⟨d, hd, hrp⟩ := RpAll.get _ _ _ _ (rb.ex e) hz
    rw [List.getElem?_map] at hd
    obtain ⟨q, hq, rfl⟩ : ∃ q, W[i]? = some q ∧ prD q = d := by
      cases g : W[i]? with
      | none => rw [g] at hd; cases hd
      | some q => rw [g] at hd; exact ⟨q, rfl, Option.some.inj hd⟩
    obtain ⟨t, v, rfl, ht, hv⟩ := hrp.pairI
    have hlen : zs.length = S.length := rz.len.trans (rd_len _ _)
    refine ⟨t, _, rfl, ht, rfl, _, _, rfl, _, _, rfl, rfl, ?_⟩
    refine s_setL (j := q.1) hzs (ev_var rfl) (ev_var rfl) (ev_var rfl) (by rw [hlen]; exact hb q (List.mem_of_getElem? hq)) fun H3 e3 => ?_
    have h3 := e3 _ _ hzs
    refine ⟨_, _, _, rfl, Ex.mut (e.trans e3) hl, upd_same, ?_⟩
    rw [rd_take hq]
    exact RpAll.setI _ ((rz.ex e3).exL (ExL.upd h3)) ((hv.ex e3).exL (ExL.upd h3))
  · obtain ⟨zs, v3, v4, rfl, e, hzs, rz⟩ := p
    have hn : ys.length = W.length := by rw [rb.len, List.length_map]
    rw [hn, List.take_length] at rz
    refine s_retU (eu_tupOf (ev_var rfl) (sq_of hzs)) fun p H2 hp e2 h2 => ?_
    exact k (.ref p) H2 (e.trans e2) (.tup (st_of h2) (rz.ex e2))
end
end K0

namespace K0
open PySem PySem.Spec PyProof.Rows L2 Evl
section
variable {P : Program} {w : World} {K : PySem.W.Frag} {mg : Str → Option Value} {base : Heap} {A : Ad} {D : Fd}
def sp_behindL (K : PySem.W.Frag) : Sp := fun vs H Q _ => ∃ x b ys S W, vs = [x, .ref b] ∧ Rp K H x (.tup S) ∧ SqL K H b ys ∧ RpAll K H ys (W.map prD) ∧ (∀ p ∈ W, p.1 < S.length) ∧ S.length ≤ 1000 ∧ W.length ≤ 1000 ∧ RetR K (.tup (rd S W)) H Q
theorem len_behindL {vs : List V} {H : Hp} {Q : VK} {E : XK} (h : sp_behindL K vs H Q E) : vs.length = 2 := by
  obtain ⟨x, b, ys, S, W, rfl, _⟩ := h
  rfl
theorem ok_behindL (T : Txt K mg A D) : FnOk P w K mg base CX0 1 A.behind D.behind ["sure", "puts"] (sp_behindL K) := by
  refine T.F_behind.ok sc_behind (fun vs H Q E h => len_behindL h) (fun cdv A0 outer s H vs Q E hr h => ?_)
  refine ⟨_, (pss_cons (ps_set (i := 2) sc_behind.nd rfl (Or.inl rfl) (pe_callTy call_list_of (by rfl) T.b_list (by decide +kernel) (pa_cons (pv 0) pa_nil)))
  (pss_cons (ps_for PassesOwn.never rfl (pi_list (pv 1)) (pg_tup rfl (pgs_cons (pg_name (i := 3) sc_behind.nd rfl (Or.inl rfl)) (pgs_cons (pg_name (i := 4) sc_behind.nd rfl (Or.inl rfl)) pgs_nil))) (pss_one (ps_asg (pv 4) (pg_sub (pv 2) (pv 3) set_list))))
  (pss_one (ps_ret (pe_callTy call_tuple_of (by rfl) T.b_tuple (by decide +kernel) (pa_cons (pv 2) pa_nil)))))), ?_⟩
  obtain ⟨x, b, ys, S, W, rfl, hx, sb, rb, hb, l1, l2, k⟩ := h
  obtain ⟨a, xs, rfl, sa, ra⟩ := hx.tupI
  refine q_asgL (el_listT (ev_var rfl) sa) fun l H1 hl e1 h1 => ?_
  refine q_forL (ev_var rfl) (ex_l e1 sb) (fun i σ' H' => ∃ zs v3 v4, σ' = [some (.ref a), some (.ref b), some (.ref l), v3, v4] ∧ Ex H H' ∧ H' l = some (.lst zs) ∧ RpAll K H' zs (rd S (W.take i))) (fun H2 e2 => ?_) (fun i σ' H' _ ⟨_, _, _, _, e, _⟩ => ex_l e sb) (fun i z σ' H' hz p => ?_) (fun σ' H' p => ?_)
  · exact ⟨xs, none, none, rfl, e1.trans e2, e2 _ _ h1, ra.ex (e1.trans e2)⟩
  · obtain ⟨zs, v3, v4, rfl, e, hzs, rz⟩ := p
    obtain ⟨d, hd, hrp⟩ := RpAll.get _ _ _ _ (rb.ex e) hz
    rw [List.getElem?_map] at hd
    obtain ⟨q, hq, rfl⟩ : ∃ q, W[i]? = some q ∧ prD q = d := by
      cases g : W[i]? with
      | none => rw [g] at hd; cases hd
      | some q => rw [g] at hd; exact ⟨q, rfl, Option.some.inj hd⟩
    obtain ⟨t, v, rfl, ht, hv⟩ := hrp.pairI
    have hlen : zs.length = S.length := rz.len.trans (rd_len _ _)
    refine ⟨t, _, rfl, ht, rfl, _, _, rfl, _, _, rfl, rfl, ?_⟩
    refine s_setL (j := q.1) hzs (ev_var rfl) (ev_var rfl) (ev_var rfl) (by rw [hlen]; exact hb q (List.mem_of_getElem? hq)) fun H3 e3 => ?_
    have h3 := e3 _ _ hzs
    refine ⟨_, _, _, rfl, Ex.mut (e.trans e3) hl, upd_same, ?_⟩
    rw [rd_take hq]
    exact RpAll.setI _ ((rz.ex e3).exL (ExL.upd h3)) ((hv.ex e3).exL (ExL.upd h3))
  · obtain ⟨zs, v3, v4, rfl, e, hzs, rz⟩ := p
    have hn : ys.length = W.length := by rw [rb.len, List.length_map]
    rw [hn, List.take_length] at rz
    refine s_retU (eu_tupOf (ev_var rfl) (sq_of hzs)) fun p H2 hp e2 h2 => ?_
    exact k (.ref p) H2 (e.trans e2) (.tup (st_of h2) (rz.ex e2))
/-- either promise -/
theorem fn_orQ {CX : CXT} {k : Nat} {f : Addr} {fd : FuncData} {ps : List Str} {sp sq : Sp} (F : FnOk P w K mg base CX k f fd ps sp) (G : FnOk P w K mg base CX k f fd ps sq) : FnOk P w K mg base CX k f fd ps (fun vs H Q E => sp vs H Q E ∨ sq vs H Q E) :=
  ⟨fun vs H Q E h => h.elim (F.len vs H Q E) (G.len vs H Q E), fun A0 o s H ar us vs Q E hr e hb hv hs => hs.elim (F.run A0 o s H ar us vs Q E hr e hb hv) (G.run A0 o s H ar us vs Q E hr e hb hv)⟩
def sp_behind (K : PySem.W.Frag) (_ : Ad) : Sp := fun vs H Q E => sp_behindT K vs H Q E ∨ sp_behindL K vs H Q E
theorem ok_behind (T : Txt K mg A D) : FnOk P w K mg base CX0 1 A.behind D.behind ["sure", "puts"] (sp_behind K A)   := fn_orQ (ok_behindT T) (ok_behindL T)
/-- what a method without arguments promises -/
def spM (K : PySem.W.Frag) (A : Ad) (R : List K0.D → List (Nat × K0.D) → Hp → VK → Prop) : Sp := fun vs H Q _ => ∃ p S W, vs = [.ref p] ∧ DiskAt K A.Disk H p S W ∧ R S W H Q
theorem spM_len {R : List K0.D → List (Nat × K0.D) → Hp → VK → Prop} {vs : List V} {H : Hp} {Q : VK} {E : XK} (h : spM K A R vs H Q E) : vs.length = 1 := by
  obtain ⟨p, S, W, rfl, _⟩ := h
  rfl
abbrev sp_Disk_sure (K : PySem.W.Frag) (A : Ad) : Sp := spM K A fun S W => RetR K (.tup S)
theorem len_Disk_sure {vs : List V} {H : Hp} {Q : VK} {E : XK} (h : sp_Disk_sure K A vs H Q E) : vs.length = 1 := spM_len h
theorem ok_Disk_sure (T : Txt K mg A D) : FnOk P w K mg base CX0 1 A.Disk_sure D.Disk_sure ["self"] (sp_Disk_sure K A) := by
  refine T.F_Disk_sure.ok sc_Disk_sure (fun vs H Q E h => len_Disk_sure h) (fun cdv A0 outer s H vs Q E hr h => ?_)
  refine ⟨_, (pss_one (ps_ret (pe_fld (pv 0) (by rfl)))), ?_⟩
  obtain ⟨p, S, W, rfl, ⟨⟨dx, a, b, hp, ha, hb⟩, ok⟩, k⟩ := h
  refine s_ret (ev_fld (ev_var rfl) hp T.cl_Disk T.no_Disk_sure (look_s _ _)) fun H1 e1 => k _ H1 e1 (ha.ex e1)
abbrev sp_Disk_waiting (K : PySem.W.Frag) (A : Ad) : Sp := spM K A fun S W => RetR K (.tup (W.map prD))
theorem len_Disk_waiting {vs : List V} {H : Hp} {Q : VK} {E : XK} (h : sp_Disk_waiting K A vs H Q E) : vs.length = 1 := spM_len h
theorem ok_Disk_waiting (T : Txt K mg A D) : FnOk P w K mg base CX0 1 A.Disk_waiting D.Disk_waiting ["self"] (sp_Disk_waiting K A) := by
  refine T.F_Disk_waiting.ok sc_Disk_waiting (fun vs H Q E h => len_Disk_waiting h) (fun cdv A0 outer s H vs Q E hr h => ?_)
  refine ⟨_, (pss_one (ps_ret (pe_fld (pv 0) (by rfl)))), ?_⟩
  obtain ⟨p, S, W, rfl, ⟨⟨dx, a, b, hp, ha, hb⟩, ok⟩, k⟩ := h
  refine s_ret (ev_fld (ev_var rfl) hp T.cl_Disk T.no_Disk_waiting (look_w _ _)) fun H1 e1 => k _ H1 e1 (hb.ex e1)
abbrev sp_Disk_blocks (K : PySem.W.Frag) (A : Ad) : Sp := spM K A fun S W => RetR K (.tup (rd S W))
theorem len_Disk_blocks {vs : List V} {H : Hp} {Q : VK} {E : XK} (h : sp_Disk_blocks K A vs H Q E) : vs.length = 1 := spM_len h
theorem ok_Disk_blocks (T : Txt K mg A D) : FnOk P w K mg base CX0 2 A.Disk_blocks D.Disk_blocks ["self"] (sp_Disk_blocks K A) := by
  have G_behind : FnOk P w K mg base CX0 1 A.behind D.behind ["sure", "puts"] (sp_behind K A) := ok_behind T
  refine T.F_Disk_blocks.ok sc_Disk_blocks (fun vs H Q E h => len_Disk_blocks h) (fun cdv A0 outer s H vs Q E hr h => ?_)
  refine ⟨_, (pss_one (ps_ret (pe_call G_behind (hr.mono (by decide)) rfl T.g_behind T.F_behind.kp T.b_behind .nil pass0 (pa_cons (pe_fld (pv 0) (by rfl)) (pa_cons (pe_fld (pv 0) (by rfl)) pa_nil))))), ?_⟩
  obtain ⟨p, S, W, rfl, ⟨⟨dx, a, b, hp, ha, hb⟩, ok⟩, k⟩ := h
  refine s_retC (ea_cons (ev_fld (ev_var rfl) hp T.cl_Disk T.no_Disk_sure (look_s _ _)) (ea_cons (ev_fld (ev_var rfl) hp T.cl_Disk T.no_Disk_waiting (look_w _ _)) ea_nil)) fun H1 e1 => ?_
  exact .inl ⟨_, _, S, W, rfl, ha.ex e1, hb.ex e1, fun q hq => (ok.bw q hq).1, by have := ok.hi; omega, by have := ok.wl; omega, fun v H2 e2 hv => k v H2 (e1.trans e2) hv⟩
abbrev sp_Disk_len (K : PySem.W.Frag) (A : Ad) : Sp := spM K A fun S W => RetV (.int (S.length : Int))
theorem len_Disk_len {vs : List V} {H : Hp} {Q : VK} {E : XK} (h : sp_Disk_len K A vs H Q E) : vs.length = 1 := spM_len h
theorem ok_Disk_len (T : Txt K mg A D) : FnOk P w K mg base CX0 1 A.Disk_len D.Disk_len ["self"] (sp_Disk_len K A) := by
  refine T.F_Disk_len.ok sc_Disk_len (fun vs H Q E h => len_Disk_len h) (fun cdv A0 outer s H vs Q E hr h => ?_)
  refine ⟨_, (pss_one (ps_ret (pe_callB call_len (by rfl) T.b_len (by decide +kernel) (pa_cons (pe_fld (pv 0) (by rfl)) pa_nil)))), ?_⟩
  obtain ⟨p, S, W, rfl, ⟨⟨dx, a, b, hp, ha, hb⟩, ok⟩, k⟩ := h
  obtain ⟨xs, sa, ra⟩ := ha.tupR
  refine s_ret (ev_is (ev_cb (ea_cons (ev_fld (ev_var rfl) hp T.cl_Disk T.no_Disk_sure (look_s _ _)) ea_nil) (rc_lenT sa)) (by rw [ra.len])) fun H1 e1 => k H1 e1
abbrev sp_Disk_synced (K : PySem.W.Frag) (A : Ad) : Sp := spM K A fun S W => RetDisk K A.Disk (rd S W) []
theorem len_Disk_synced {vs : List V} {H : Hp} {Q : VK} {E : XK} (h : sp_Disk_synced K A vs H Q E) : vs.length = 1 := spM_len h
theorem ok_Disk_synced (T : Txt K mg A D) : FnOk P w K mg base CX0 23 A.Disk_synced D.Disk_synced ["self"] (sp_Disk_synced K A) := by
  have G_made : FnOk P w K mg base CX0 22 A.made D.made ["sure", "waiting"] (sp_made K A) := ok_made T
  have G_Disk_blocks : FnOk P w K mg base CX0 2 A.Disk_blocks D.Disk_blocks ["self"] (sp_Disk_blocks K A) := ok_Disk_blocks T
  refine T.F_Disk_synced.ok sc_Disk_synced (fun vs H Q E h => len_Disk_synced h) (fun cdv A0 outer s H vs Q E hr h => ?_)
  refine ⟨_, (pss_one (ps_ret (pe_call G_made (hr.mono (by decide)) rfl T.g_made T.F_made.kp T.b_made .nil pass0 (pa_cons (pe_meth0 (pv 0) T.cl_Disk T.m_Disk_blocks G_Disk_blocks (hr.mono (by decide)) T.b_Disk_blocks .nil pass0 ) (pa_cons (pe_tup pa_nil) pa_nil))))), ?_⟩
  obtain ⟨p, S, W, rfl, hd, k⟩ := h
  obtain ⟨⟨dx, a, b, hp, ha, hb⟩, ok⟩ := id hd
  refine n_ret (d_call (eda_cons (ed_meth0 (d := .tup (rd S W)) (ev_var rfl) hp (look_no _ _ (by decide +kernel) (by decide +kernel)) fun H1 e1 Q k1 => ⟨p, S, W, rfl, hd.ex e1, k1⟩) (eda_cons (ed_tup eda_nil (by simp)) eda_nil)) fun vs H1 e1 r => ?_)
  cases r with
  | cons r1 r =>
    cases r with
    | cons r2 r =>
      cases r
      exact ⟨_, _, rd S W, [], rfl, r1, r2, ok.sync, fun q H2 e2 hq => k q H2 (e1.trans e2) hq⟩
end
end K0

namespace K0
open PySem PySem.Spec PyProof.Rows L2 Evl
section
variable {P : Program} {w : World} {K : PySem.W.Frag} {mg : Str → Option Value} {base : Heap} {A : Ad} {D : Fd}
def pickW (W : List (Nat × K0.D)) (idx : List Nat) : List (Nat × K0.D) := idx.map fun i => W.getD i (0, .non)
def idxD (idx : List Nat) : K0.D := .tup (idx.map fun i : Nat => K0.D.int (i : Int))
theorem indices_ok {idx : List Nat} {m : Nat} (h : ∀ i ∈ idx, i < m) (hm : m ≤ 1000) (ha : ascB (idx.map fun i : Nat => (i : Int)) = true) : (idxD idx).indices (m : Int) = true := by
  show ((idx.map fun i : Nat => K0.D.int (i : Int)).all (K0.D.within 0 ((m : Int) - 1)) && ascB ((idx.map fun i : Nat => K0.D.int (i : Int)).map K0.D.toInt)) = true
  have e : (idx.map fun i : Nat => K0.D.int (i : Int)).map K0.D.toInt = idx.map fun i : Nat => (i : Int) := by
    rw [List.map_map]
    rfl
  rw [e, ha, List.all_map, List.all_eq_true.mpr fun i hi => ?_]
  · rfl
  · have := h i hi
    exact within_ok (by omega) (by omega) (by omega)

/-- put: refused, or made -/
def sp_Disk_putX (K : PySem.W.Frag) (A : Ad) : Sp := fun vs H Q E => ∃ p S W x y d e, vs = [.ref p, x, y] ∧ DiskAt K A.Disk H p S W ∧ Rp K H x d ∧ Rp K H y e ∧ e.size ≤ 30000 ∧ (d.within 0 ((S.length : Int) - 1) = false → RaF A.EInvalidNumber "given" x H E) ∧
  (∀ n : Nat, d = .int (n : Int) → n < S.length → (e.block = false → Rai A.EInvalidBlock H E) ∧ (e.block = true → (400 ≤ W.length → RaF A.ETooMany "limit" (.int 400) H E) ∧ (W.length < 400 → BkOk e ∧ RetDisk K A.Disk S (W ++ [(n, e)]) H Q)))
theorem nat_in {d : K0.D} {hi : Int} (h : d.within 0 hi = true) : ∃ n : Nat, d = .int (n : Int) ∧ (n : Int) ≤ hi := by
  cases d with
  | int i =>
    have h' := (Bool.and_eq_true_iff.mp (show (numB i && (decide (0 ≤ i) && decide (i ≤ hi))) = true from h)).2
    obtain ⟨h1, h2⟩ := Bool.and_eq_true_iff.mp h'
    have := of_decide_eq_true h1
    have := of_decide_eq_true h2
    exact ⟨i.toNat, by rw [Int.toNat_of_nonneg (by omega)], by omega⟩
  | _ => cases h
theorem ok_Disk_putX (T : Txt K mg A D) : FnOk P w K mg base (L2.CX P w) 25 A.Disk_put D.Disk_put ["self", "place", "block"] (sp_Disk_putX K A) := by
  have G_check_number := ok_check_numberX (P := P) (w := w) (base := base) T
  have G_is_block := ok_is_block (P := P) (w := w) (base := base) T
  have G_TooMany_init := ok_TooMany_init (P := P) (w := w) (base := base) T
  have G_made := ok_made (P := P) (w := w) (base := base) T
  obtain ⟨t_MAX_WAITING, c_MAX_WAITING⟩ := T.c_MAX_WAITING
  refine T.F_Disk_put.okX sc_Disk_put (fun vs H Q E h => by obtain ⟨p, S, W, x, y, d, e, rfl, _⟩ := h; rfl) (fun cdv A0 outer s H vs Q E hr h => ?_)
  refine ⟨_, (pss_cons (ps_expr (pe_call G_check_number (hr.mono (by decide)) rfl T.g_check_number T.F_check_number.kp T.b_check_number .nil (passes_call (takes_of rfl rfl rfl rfl) (fun _ _ _ _ z => z)) (pa_cons (pv 1) (pa_cons pe_int (pa_cons (pe_op op_sub (pe_callB call_len (by rfl) T.b_len (by decide +kernel) (pa_cons (pe_fld (pv 0) (by rfl)) pa_nil)) pe_int) pa_nil)))))
  (pss_cons (ps_if (pt_not (pt_val (pe_call G_is_block (hr.mono (by decide)) rfl T.g_is_block T.F_is_block.kp T.b_is_block .nil pass0 (pa_cons (pv 2) pa_nil)))) (pss_one (ps_raise rfl (takes_of rfl rfl rfl rfl) (pmk_own PySem.F.excBase_ValueError T.e_InvalidBlock.q T.e_InvalidBlock.g T.e_InvalidBlock.k (raises_own T.e_InvalidBlock.b T.e_InvalidBlock.t) (by exact rfl)))) pss_nil)
  (pss_cons (ps_if (pt_cmpR op_ge (pe_callB call_len (by rfl) T.b_len (by decide +kernel) (pa_cons (pe_fld (pv 0) (by rfl)) pa_nil)) (pe_glob (v := .int (400)) rfl c_MAX_WAITING ⟨_, rfl⟩) (nomark _)) (pss_one (ps_raise rfl (takes_of rfl rfl rfl rfl) (pmk_oexT T.e_TooMany.o T.e_TooMany.i T.e_TooMany.t G_TooMany_init (hr.mono (by decide)) T.b_TooMany_init .nil pass0 (by exact rfl) T.e_TooMany.g (pa_cons (pe_glob (v := .int (400)) rfl c_MAX_WAITING ⟨_, rfl⟩) pa_nil)))) pss_nil)
  (pss_one (ps_ret (pe_call G_made (hr.mono (by decide)) rfl T.g_made T.F_made.kp T.b_made .nil pass0 (pa_cons (pe_fld (pv 0) (by rfl)) (pa_cons (pe_op op_catA (pe_fld (pv 0) (by rfl)) (pe_tup (pa_cons (pe_tup (pa_cons (pv 1) (pa_cons (pv 2) pa_nil))) pa_nil))) pa_nil)))))))), ?_⟩
  obtain ⟨p, S, W, x, y, d, e, rfl, ⟨⟨dx, a, b, hp, ha, hb⟩, ok⟩, hx, hy, hz, k1, k2⟩ := h
  obtain ⟨xs, sa, ra⟩ := ha.tupR
  obtain ⟨ys, sb, rb⟩ := hb.tupR
  have hhi := ok.hi
  have hyl : ys.length = W.length := by rw [rb.len, List.length_map]
  refine q_callX (ea_cons (ev_var rfl) (ea_cons ev_c (ea_cons (ev_op (ev_cb (ea_cons (ev_fld (ev_var rfl) hp T.cl_Disk T.no_Disk_sure (look_s _ _)) ea_nil) (rc_lenT sa)) ev_c rv_I0) ea_nil))) fun H1 e1 => ⟨x, d, 0, _, rfl, hx.ex e1, fun hw H2 e2 => ?_, fun hw => (k1 (by rw [ra.len] at hw; exact hw)).ex e1⟩
  have e02 := e1.trans e2
  rw [ra.len] at hw
  obtain ⟨n, rfl, hn⟩ := nat_in hw
  obtain ⟨k3, k4⟩ := k2 n rfl (by omega)
  refine q_when (b := !e.block) (et_not (et_B (ev_call (ea_cons (ev_var rfl) ea_nil) (svS (f := K0.D.block) (hy.ex e02) hz)))) (fun hb3 H3 e3 => ?_) fun hb3 H3 e3 => ?_
  · exact k3 (by cases q : e.block <;> first | rfl | (rw [q] at hb3; cases hb3)) H3 (e02.trans e3)
  obtain ⟨k5, k6⟩ := k4 (by cases q : e.block <;> first | rfl | (rw [q] at hb3; cases hb3))
  have e03 := e02.trans e3
  refine q_when (b := decide (400 ≤ W.length)) (et_is (et_test (ev_op (ev_cb (ea_cons (ev_fld (ev_var rfl) (e03 _ _ hp) T.cl_Disk T.no_Disk_waiting (look_w _ _)) ea_nil) (rc_lenT (ex_t e03 sb))) ev_c rv_I0)) (by rw [hyl]; exact decide_eq_decide.mpr (by omega))) (fun hb4 H4 e4 => ?_) fun hb4 H4 e4 => ?_
  · exact s_raiseO (D := ⟨fun _ _ => True, fun _ _ => True, fun _ _ => True, fun _ _ => True⟩) (W := fun cls d _ H => E cls d H) ev_c fun dd H5 e5 h5 => k5 (of_decide_eq_true hb4) dd H5 ((e03.trans e4).trans e5) h5
  obtain ⟨hm, k⟩ := k6 (by have := of_decide_eq_false hb4; omega)
  have e04 := e03.trans e4
  cases hx
  refine n_ret (d_call (eda_cons (ed_ev (ev_fld (ev_var rfl) (e04 _ _ hp) T.cl_Disk T.no_Disk_sure (look_s _ _)) (ha.ex e04)) (eda_cons (ed_cat (ed_ev (ev_fld (ev_var rfl) (e04 _ _ hp) T.cl_Disk T.no_Disk_waiting (look_w _ _)) (hb.ex e04))
    (ed_tup (eda_cons (ed_tup (eda_cons (ed_ev (ev_var rfl) (.int _)) (eda_cons (ed_ev (ev_var rfl) (hy.ex e04)) eda_nil)) (by simp)) eda_nil) (by simp)) (by rw [List.length_map]; have := ok.wl; simp; omega)) eda_nil)) fun vs H5 e5 r => ?_)
  cases r with
  | cons r1 r =>
    cases r with
    | cons r2 r =>
      cases r
      refine ⟨_, _, S, W ++ [(n, e)], rfl, r1, ?_, ⟨ok.lo, ok.hi, by rw [List.length_append]; have := of_decide_eq_false hb4; simp; omega, ok.bs, fun q hq => ?_⟩, fun q H6 e6 hq => k q H6 ((e04.trans e5).trans e6) hq⟩
      · rw [List.map_append]
        exact r2
      · rcases List.mem_append.mp hq with hq | hq
        · exact ok.bw q hq
        · rw [List.mem_singleton.mp hq]
          exact ⟨by omega, hm⟩
/-- read where the place is none -/
def sp_Disk_readX (K : PySem.W.Frag) (A : Ad) : Sp := fun vs H Q E => ∃ p S W x d, vs = [.ref p, x] ∧ DiskAt K A.Disk H p S W ∧ Rp K H x d ∧ d.within 0 ((S.length : Int) - 1) = false ∧ RaF A.EInvalidNumber "given" x H E
theorem ok_Disk_readX (T : Txt K mg A D) : FnOk P w K mg base (L2.CX P w) 25 A.Disk_read D.Disk_read ["self", "place"] (sp_Disk_readX K A) := by
  have G_check_number := ok_check_numberX (P := P) (w := w) (base := base) T
  refine T.F_Disk_read.okX sc_Disk_read (fun vs H Q E h => by obtain ⟨p, S, W, x, d, rfl, _⟩ := h; rfl) (fun cdv A0 outer s H vs Q E hr h => ?_)
  refine ⟨_, (pss_cons (ps_expr (pe_call G_check_number (hr.mono (by decide)) rfl T.g_check_number T.F_check_number.kp T.b_check_number .nil (passes_call (takes_of rfl rfl rfl rfl) (fun _ _ _ _ z => z)) (pa_cons (pv 1) (pa_cons pe_int (pa_cons (pe_op op_sub (pe_callB call_len (by rfl) T.b_len (by decide +kernel) (pa_cons (pe_fld (pv 0) (by rfl)) pa_nil)) pe_int) pa_nil)))))
  (pss_one (ps_never))), ?_⟩
  obtain ⟨p, S, W, x, d, rfl, ⟨⟨dx, a, b, hp, ha, hb⟩, ok⟩, hx, hw, k1⟩ := h
  obtain ⟨xs, sa, ra⟩ := ha.tupR
  exact q_callX (ea_cons (ev_var rfl) (ea_cons ev_c (ea_cons (ev_op (ev_cb (ea_cons (ev_fld (ev_var rfl) hp T.cl_Disk T.no_Disk_sure (look_s _ _)) ea_nil) (rc_lenT sa)) ev_c rv_I0) ea_nil))) fun H1 e1 => ⟨x, d, 0, _, rfl, hx.ex e1, (fun z => by rw [ra.len, hw] at z; cases z), fun _ => k1.ex e1⟩
/-- fallen: refused, or made -/
def sp_Disk_fallenX (K : PySem.W.Frag) (A : Ad) : Sp := fun vs H Q E => ∃ p S W x d, vs = [.ref p, x] ∧ DiskAt K A.Disk H p S W ∧ Rp K H x d ∧ d.small ∧ ((d.indices (W.length : Int) = false ∧ Rai A.EInvalidOperation H E) ∨
  ∃ idx : List Nat, d = idxD idx ∧ idx.length ≤ 1000 ∧ (∀ i ∈ idx, i < W.length) ∧ ascB (idx.map fun i : Nat => (i : Int)) = true ∧ RetDisk K A.Disk (rd S (pickW W idx)) [] H Q)
theorem DOk.pick {S : List K0.D} {W : List (Nat × K0.D)} (h : DOk S W) {idx : List Nat} (hi : ∀ i ∈ idx, i < W.length) : ∀ p ∈ pickW W idx, p.1 < S.length ∧ BkOk p.2 := fun p hp => by
  obtain ⟨i, him, rfl⟩ := List.mem_map.mp hp
  exact h.bw _ (getD_mem (hi i him))
theorem DOk.fall {S : List K0.D} {W : List (Nat × K0.D)} (h : DOk S W) {idx : List Nat} (hi : ∀ i ∈ idx, i < W.length) : DOk (rd S (pickW W idx)) [] :=
  ⟨by rw [rd_len]; exact h.lo, by rw [rd_len]; exact h.hi, Nat.zero_le _, rd_mem h.bs fun p hp => (h.pick hi p hp).2, fun p hp => by cases hp⟩
theorem ok_Disk_fallenX (T : Txt K mg A D) : FnOk P w K mg base (L2.CX P w) 25 A.Disk_fallen D.Disk_fallen ["self", "kept"] (sp_Disk_fallenX K A) := by
  have G_are_indices := ok_are_indices (P := P) (w := w) (base := base) T
  have G_made := ok_made (P := P) (w := w) (base := base) T
  have G_behind := ok_behind (P := P) (w := w) (base := base) T
  refine T.F_Disk_fallen.okX sc_Disk_fallen (fun vs H Q E h => by obtain ⟨p, S, W, x, d, rfl, _⟩ := h; rfl) (fun cdv A0 outer s H vs Q E hr h => ?_)
  refine ⟨_, (pss_cons (ps_if (pt_not (pt_val (pe_call G_are_indices (hr.mono (by decide)) rfl T.g_are_indices T.F_are_indices.kp T.b_are_indices .nil pass0 (pa_cons (pv 1) (pa_cons (pe_callB call_len (by rfl) T.b_len (by decide +kernel) (pa_cons (pe_fld (pv 0) (by rfl)) pa_nil)) pa_nil))))) (pss_one (ps_raise rfl (takes_of rfl rfl rfl rfl) (pmk_own PySem.F.excBase_ValueError T.e_InvalidOperation.q T.e_InvalidOperation.g T.e_InvalidOperation.k (raises_own T.e_InvalidOperation.b T.e_InvalidOperation.t) (by exact rfl)))) pss_nil)
  (pss_one (ps_ret (pe_call G_made (hr.mono (by decide)) rfl T.g_made T.F_made.kp T.b_made .nil pass0 (pa_cons (pe_call G_behind (hr.mono (by decide)) rfl T.g_behind T.F_behind.kp T.b_behind .nil pass0 (pa_cons (pe_fld (pv 0) (by rfl)) (pa_cons (pe_lc (own := [("index", 2)]) (g := gName 2) (tt := tYes) rfl sc_Disk_fallen.nd (pi_tup (pv 1)) (blkOk_by (own := [("index", 2)]) (N := N_Disk_fallen) (sc := defScope s_Disk_fallen) (by decide +kernel)) (fun _ _ _ _ _ => by exact pg_name (i := 2) sc_Disk_fallen.nd rfl (Or.inl rfl)) (fun _ _ _ _ _ => by exact pts_nil) (fun _ _ _ _ _ => by exact (pe_ix (ix_tupK (K := K) (by rfl)) (pe_fldK (K := K) (pv 0) (by rfl) (by rfl)) (pv 2) (fun _ _ => rfl)))) pa_nil))) (pa_cons (pe_tup pa_nil) pa_nil)))))), ?_⟩
  obtain ⟨p, S, W, x, d, rfl, hD, hx, hsm, hh⟩ := h
  rcases hh with ⟨hbad, kbad⟩ | ⟨idx, rfl, hl, hi, hasc, k⟩
  · obtain ⟨⟨dx, a, b, hp, ha, hb⟩, ok⟩ := hD
    obtain ⟨ys, sb, rb⟩ := hb.tupR
    have hyl : ys.length = W.length := by rw [rb.len, List.length_map]
    refine q_when (b := true) (et_is (et_not (et_B (ev_call (ea_cons (ev_var rfl) (ea_cons (ev_cb (ea_cons (ev_fld (ev_var rfl) hp T.cl_Disk T.no_Disk_waiting (look_w _ _)) ea_nil) (rc_lenT sb)) ea_nil)) (sv_indices hx hsm)))) (by rw [hyl, hbad]; rfl)) (fun _ H1 e1 => kbad H1 e1) (fun z => by cases z)
  · obtain ⟨⟨dx, a, b, hp, ha, hb⟩, ok⟩ := hD
    obtain ⟨ys, sb, rb⟩ := hb.tupR
    have hyl : ys.length = W.length := by rw [rb.len, List.length_map]
    have hwl := ok.wl
    have hind : (idxD idx).indices (ys.length : Int) = true := by
      rw [hyl]
      exact indices_ok hi (by omega) hasc
    obtain ⟨xa, xs, rfl, sx, rx⟩ := hx.tupI
    have hxl : xs.length = idx.length := by rw [rx.len, List.length_map]
    refine q_when (b := false) (et_is (et_not (et_B (ev_call (ea_cons (ev_var rfl) (ea_cons (ev_cb (ea_cons (ev_fld (ev_var rfl) hp T.cl_Disk T.no_Disk_waiting (look_w _ _)) ea_nil) (rc_lenT sb)) ea_nil)) (sv_indices hx (by show (idx.map fun i : Nat => K0.D.int (i : Int)).length ≤ 40000; rw [List.length_map]; omega))))) (by rw [hind]; rfl)) (fun z => by cases z) fun _ H1 e1 => ?_
    refine n_ret (d_call (K := K) (eda_cons (d := .tup (rd S (pickW W idx))) (fun H2 e2 Q2 q2 => ?_) (eda_cons (ed_tup eda_nil (by simp)) eda_nil)) fun vs H3 e3 r => ?_)
    · have e02 := e1.trans e2
      refine d_raw (n_cons ?_)
      refine ev_fld (ev_var rfl) (e02 _ _ hp) T.cl_Disk T.no_Disk_sure (look_s _ _) H2 (Ex.refl _) _ fun H3 e3 => ?_
      have e03 := e02.trans e3
      refine n_cons ?_
      refine el_lcT (fun _ => true) (fun i => ys.getD (idx.getD i 0) .non) (ev_var rfl) (ex_t e03 sx) (by omega) (fun _ => rfl) (fun i y H4 e4 hy => et_yes) (fun i y H4 e4 hy _ => ?_) H3 (Ex.refl _) _ fun l H4 hl4 e4 h4 => ?_
      · obtain ⟨d, hd, hrd⟩ := RpAll.get _ _ _ _ (rx.ex (e03.trans e4)) hy
        rw [List.getElem?_map] at hd
        obtain ⟨n, hn, rfl⟩ : ∃ n, idx[i]? = some n ∧ K0.D.int (n : Int) = d := by
          cases g : idx[i]? with
          | none => rw [g] at hd; cases hd
          | some n => rw [g] at hd; exact ⟨n, rfl, Option.some.inj hd⟩
        cases hrd
        have hlt : n < ys.length := by
          rw [hyl]
          exact hi n (List.mem_of_getElem? hn)
        refine ev_op (ev_fld (ev_var rfl) ((e03.trans e4) _ _ hp) T.cl_Disk T.no_Disk_waiting (look_w _ _)) (ev_var rfl) (rv_ixT (ex_t (e03.trans e4) sb) ?_)
        unfold atI
        rw [ixN_nat hlt]
        show ys[n]? = some (ys.getD (idx.getD i 0) .non)
        rw [gd_some hn, gd_some (List.getElem?_eq_getElem hlt)]
        exact List.getElem?_eq_getElem hlt
      · refine .inr ⟨_, l, _, S, pickW W idx, rfl, ha.ex (e03.trans e4), sq_of h4, ?_, fun q hq => (ok.pick hi q hq).1, by have := ok.hi; omega, by unfold pickW; rw [List.length_map]; exact hl, fun v H5 e5 hv => q2 v H5 ((e3.trans e4).trans e5) hv⟩
        rw [given_map (fun _ => rfl), hxl]
        have ew : (pickW W idx).map prD = (List.range idx.length).map (fun i => prD (W.getD (idx.getD i 0) (0, .non))) := by
          rw [map_rangeD (fun n => prD (W.getD n (0, .non))) 0 idx]
          unfold pickW
          rw [List.map_map]
          rfl
        rw [ew]
        refine rp_maps _ fun i him => ?_
        have hlt : idx.getD i 0 < W.length := hi _ (getD_mem (List.mem_range.mp him))
        have hlt' : idx.getD i 0 < ys.length := by rw [hyl]; exact hlt
        obtain ⟨d, hd, hrd⟩ := RpAll.get _ _ (idx.getD i 0) _ (rb.ex (e03.trans e4)) (List.getElem?_eq_getElem hlt')
        rw [List.getElem?_map, List.getElem?_eq_getElem hlt] at hd
        have hd' := Option.some.inj hd
        rw [gd_some (List.getElem?_eq_getElem hlt'), gd_some (List.getElem?_eq_getElem hlt)]
        rw [hd']
        exact hrd
    · cases r with
      | cons r1 r =>
        cases r with
        | cons r2 r =>
          cases r
          exact ⟨_, _, _, [], rfl, r1, r2, ok.fall hi, fun q H2 e2 hq => k q H2 ((e1.trans e3).trans e2) hq⟩
end
end K0

/-! ### for in a generator's body -/
namespace L2
open PySem PySem.Spec PyProof.Rows GenW
section
variable {prog : Program} {w : World} {A : Around} {R : GenEnd} {Y : Protocol} {n : Nat} {s₀ : Shared} {c : Code} {fs : List Frame} {s : Shared} {env : Env}
  {K : Flow → Sem PySem.Fin} {J : Value → Sem PySem.Fin} {gd : Bool → Bool} {lv : List Value → List Value} {tg iter : Expr} {body : List Stmt} {pos : Pos} {itv : Value}
/-- what an exception in a loop's turn does -/
def loopX (env : Env) (e : Value) : Sem PySem.Fin := (do noteFrame e env; theTreesLotGoes e : Sem Unit).wrap (fun _ => .raise e) .raise id id
theorem seg_For (hs : ∀ x, foldedSetIterable iter env x = pure x)
    (h : wpAny (model prog w) (A.over c fs) (eval iter env) (fun v s1 => wpAny (model prog w) (A.over c fs) (pyIter v) (fun u s2 => ∀ p, Seg (model prog w) A R Y n s₀ (.forLoop tg u body [] env) ((model prog w).den (.forLoop tg u body [] env))
      (.ret (fun r => ((match r with | .ok f => (.pure f : Sem Flow) | .error e => .raise e).onRaise (cameBack env)).wrap K J gd lv) none (gd false) (lv []) c p [] :: fs) s2)
      (fun x s' => Seg (model prog w) A R Y n s₀ c (J x) fs s') s1) (fun x s' => Seg (model prog w) A R Y n s₀ c (J x) fs s') s) :
    Seg (model prog w) A R Y n s₀ c ((exec (.For tg iter body [] pos) env).wrap K J gd lv) fs s := by
  refine seg_at ?_
  show Seg _ _ _ _ _ _ _ ((eval iter env >>= fun v => foldedSetIterable iter env v >>= fun x => standAt iter.pos >>= fun _ => holding [x] (pyIter x) >>= fun u => runOwn (.forLoop tg u body [] env) env).wrap K J gd lv) fs s
  refine seg_bind_wrap (wpAny_mono h (fun v s1 h1 => ?_) fun _ _ q => q)
  rw [hs v]
  show Seg _ _ _ _ _ _ _ ((standAt iter.pos >>= fun _ => holding [v] (pyIter v) >>= fun u => runOwn (.forLoop tg u body [] env) env).wrap K J gd lv) fs s1
  refine seg_at ?_
  show Seg _ _ _ _ _ _ _ ((holding [v] (pyIter v) >>= fun u => runOwn (.forLoop tg u body [] env) env).wrap K J gd lv) fs s1
  refine seg_bind_wrap (wpAny_holding (wpAny_mono h1 (fun u s2 h2 => ?_) fun _ _ q => q))
  exact seg_call h2
theorem seg_forLoop (h : wpAny (model prog w) (A.over (.forLoop tg itv body [] env) fs) (pyNext itv) (fun r s1 => match r with
      | none => Seg (model prog w) A R Y n s₀ (.block [] env) (.pure (.done .next)) fs s1
      | some u => wpAny (model prog w) (A.over (.forLoop tg itv body [] env) fs) (letOwnedTupleGo tg itv u) (fun _ s2 => wpAny (model prog w) (A.over (.forLoop tg itv body [] env) fs) (assign tg env u) (fun _ s3 =>
          Seg (model prog w) A R Y n s₀ (.forLoop tg itv body [] env) ((execs body env).wrap (fun f => match f with
            | .next | .cont => .pure (.again (.forLoop tg itv body [] env))
            | .brk => .pure (.done .next)
            | .ret v => .pure (.done (.ret v))) (loopX env) id id) fs s3) (fun x s' => Seg (model prog w) A R Y n s₀ (.forLoop tg itv body [] env) (loopX env x) fs s') s2) (fun x s' => Seg (model prog w) A R Y n s₀ (.forLoop tg itv body [] env) (loopX env x) fs s') s1)
      (fun x s' => Seg (model prog w) A R Y n s₀ (.forLoop tg itv body [] env) (loopX env x) fs s') s) :
    Seg (model prog w) A R Y n s₀ (.forLoop tg itv body [] env) ((model prog w).den (.forLoop tg itv body [] env)) fs s := by
  show Seg _ A R Y n s₀ _ ((forTurn tg itv body [] env).onRaise (fun x => do noteFrame x env; theTreesLotGoes x)) fs s
  unfold forTurn
  rw [Sem.onRaise_eq_wrap]
  refine seg_at ?_
  show Seg _ _ _ _ _ _ _ ((((pyNext itv).onRaise (fun _ => standAt { tg.pos with line := 0 })) >>= _).wrap _ _ _ _) fs s
  refine seg_bind_wrap (wpAny_onRaise (wpAny_mono h (fun r s1 h1 => ?_) fun x s' hx => wpAny_standAt ?_))
  · cases r with
    | none => exact seg_again rfl h1
    | some u =>
      refine seg_bind_wrap (wpAny_mono h1 (fun _ s2 h2 => ?_) fun x s' hx => ?_)
      · refine seg_bind_wrap (wpAny_mono h2 (fun _ s3 h3 => ?_) fun x s' hx => ?_)
        · rw [Sem.bind_eq_wrap', Sem.wrap_wrap]
          rw [Sem.wrap_congr (execs body env) _ _ (K' := fun f => match f with
            | .next | .cont => .pure (.again (.forLoop tg itv body [] env))
            | .brk => .pure (.done .next)
            | .ret v => .pure (.done (.ret v))) (H' := loopX env)
            (fun f => by cases f <;> rfl)
            (fun e => by first | exact Sem.bind_eq_wrap _ _ | (show (do noteFrame e env; theTreesLotGoes e : Sem Unit).bind (fun _ => .raise e) = _; rw [Sem.bind_eq_wrap]; rfl))]
          exact h3
        · have z := hx
          unfold loopX at z
          rw [← Sem.bind_eq_wrap] at z
          exact z
      · have z := hx
        unfold loopX at z
        rw [← Sem.bind_eq_wrap] at z
        exact z
  · have z := hx
    unfold loopX at z
    rw [← Sem.bind_eq_wrap] at z
    exact z
end
section
variable {X : Cx} {tg iter : Expr} {body : List Stmt} {pos : Pos} {wi : TI} {g : TG} {tb : TGn}
def tGFor (wi : TI) (g : TG) (tb : TGn) : TGn := fun D ys σ H => wi σ H fun Jt H1 => ∃ W : Nat → Nat → List V → L2.St → Hp → Prop, (∃ m, W 0 m ys σ H1) ∧ ∀ i m ys σ H, W i m ys σ H →
  (Jt.stop i H ∧ D.nx ys σ H) ∨ (Jt.go i H ∧ ∃ N : List V → L2.St → Hp → Prop, (∀ ys' σ' H', N ys' σ' H' → ∃ m', m' < m ∧ W (i + 1) m' ys' σ' H') ∧ ∀ x H', Jt.yld i H x H' → g x σ H' fun σ2 H2 => tb { D with nx := N, ct := N, bk := D.nx } ys σ2 H2)
theorem gs_for (hp : PassesOwn (model X.prog X.w) X.A X.env X.xe) (hc : X.calm = true) (hi : PI X tg iter wi) (hg : PG X tg g) (hb : GSs X body tb) (hs : ∀ x, foldedSetIterable iter X.env x = pure x := by intro _; rfl) : GS X (.For tg iter body [] pos) (tGFor wi g tb) := by
  refine ⟨fun A S ip R n ys s₀ c fs K J gd lv s σ H D gc hn k hI ht => ?_⟩
  obtain ⟨acc0, cc0, r0, I0⟩ := hI
  refine seg_For hs ?_
  rw [gc.over]
  refine wpAny_mono (hi.run _ s σ H _ I0 ht) (fun v s1 h1 => ?_) fun x s' hx => k.exc n s₀ x s' hx
  refine wpAny_mono h1 (fun u s2 h2 => ?_) fun x s' hx => k.exc n s₀ x s' hx
  obtain ⟨it, fp, tn, Jt, H2, e, I2, T, st2, f2, W, ⟨m0, w0⟩, turn⟩ := h2
  subst e
  intro p
  have gl := fun (kk : Result → Sem PySem.Fin) => gc_loop (k := kk) (c' := .forLoop tg (.ref it) body [] X.env) (l := lv []) (kp := []) (p := p) gc rfl rfl
  have fS : ∀ b ∈ fp, S ≠ b := fun b hb => (f2 b hb).2.2.2.2.2 (S, lstObj acc0 cc0) (List.mem_append_right _ List.mem_cons_self)
  have stat : ∀ {H' : Hp} {acc : Array Value} {cc : Nat}, (∀ b ∈ fp, H' b = none) → ∀ b ∈ fp, FpOk X ((S, lstObj acc cc) :: ip) H' b := fun {H' acc cc} hn b hb => ⟨hn b hb, (f2 b hb).2.1, (f2 b hb).2.2.1, (f2 b hb).2.2.2.1, (f2 b hb).2.2.2.2.1, fun q hq => by
    rcases List.mem_append.mp hq with hq | hq
    · exact (f2 b hb).2.2.2.2.2 q (List.mem_append_left _ hq)
    · rcases List.mem_cons.mp hq with rfl | hq
      · exact fS b hb
      · exact (f2 b hb).2.2.2.2.2 q (List.mem_append_right _ (List.mem_cons_of_mem _ hq))⟩
  have loop : ∀ (m i n : Nat) (ys : List V) (s₀ s : Shared) (σ : L2.St) (H : Hp), n + ys.length = sizeLine → W i m ys σ H → GI X S ip ys σ H s → tn i s.heap → (∀ b ∈ fp, H b = none) →
      Seg (model X.prog X.w) A R (GY X S) n s₀ (.forLoop tg (.ref it) body [] X.env) ((model X.prog X.w).den (.forLoop tg (.ref it) body [] X.env))
        (.ret (fun r => ((match r with | .ok f => (.pure f : Sem Flow) | .error e => .raise e).onRaise (cameBack X.env)).wrap K J gd lv) none (gd false) (lv []) c p [] :: fs) s := by
    intro m
    induction m using Nat.strongRecOn with
    | ind m ih =>
      intro i n ys s₀ s σ H hn w hI st fr
      have ee : ∀ (n : Nat) (s₀ : Shared) (x : Value) (s' : Shared), X.xe x s' → Seg (model X.prog X.w) A R (GY X S) n s₀ (.forLoop tg (.ref it) body [] X.env) (loopX X.env x)
          (.ret (fun r => ((match r with | .ok f => (.pure f : Sem Flow) | .error e => .raise e).onRaise (cameBack X.env)).wrap K J gd lv) none (gd false) (lv []) c p [] :: fs) s' := fun n s₀ x s' hx => by
        unfold loopX
        refine seg_wrap ?_
        rw [(gl _).over]
        refine wpAny_bind (wpAny_mono (hp x s' hx) (fun _ s'' hcb => wpAny_theTreesLotGoes ?_) fun y s'' hcb => ?_)
        · exact seg_leaf (.error x) (seg_cameBack gc k hcb)
        · exact seg_leaf (.error y) (seg_cameBack gc k hcb)
      refine seg_forLoop ?_
      rw [(gl _).over]
      obtain ⟨acc, cc, r, I⟩ := hI
      rcases turn i m ys σ H w with ⟨stop, qn⟩ | ⟨go, N, hN, step⟩
      · refine wpAny_mono (T.done X rfl rfl rfl hc i _ s σ H X.xe I (stat fr) st stop) (fun r4 s4 h4 => ?_) fun x s' hx => ee n s₀ x s' hx
        obtain ⟨hr, I4⟩ := h4
        subst hr
        exact seg_leaf (.ok .next) (k.ok n ys s₀ s4 .next hn ⟨σ, H, ⟨acc, cc, r, I4⟩, qn⟩)
      · refine wpAny_mono (T.item X rfl rfl rfl hc i _ s σ H X.xe I (stat fr) st go) (fun r4 s4 h4 => ?_) fun x s' hx => ee n s₀ x s' hx
        obtain ⟨u, hr, h4⟩ := h4
        subst hr
        refine wpAny_mono h4 (fun _ s5 h5 => ?_) fun x s' hx => ee n s₀ x s' hx
        obtain ⟨x, H5, I5, r5, y5, st5, fr5⟩ := h5
        have I5' := I5.pinned (stat fr5) (T.obj _ _ st5)
        refine wpAny_mono (hg.run _ s5 σ H5 x u _ I5' r5 (step x H5 y5)) (fun _ s6 h6 => ?_) fun x s' hx => ee n s₀ x s' hx
        obtain ⟨σ6, H6, I6, q6⟩ := h6
        have G6 : GI X S (ip ++ pinsAt fp s5.heap) ys σ6 H6 s6 := ⟨acc, cc, r, I6⟩
        have un : ∀ {ys7 : List V} {σ7 : L2.St} {H7 : Hp} {s7 : Shared}, GI X S (ip ++ pinsAt fp s5.heap) ys7 σ7 H7 s7 → GI X S ip ys7 σ7 H7 s7 ∧ tn (i + 1) s7.heap ∧ ∀ b ∈ fp, H7 b = none := fun {ys7 σ7 H7 s7} h => by
          obtain ⟨acc7, cc7, r7, I7⟩ := h
          have I7' : Inv X (((S, lstObj acc7 cc7) :: ip) ++ pinsAt fp s5.heap) σ7 H7 s7 := I7
          refine ⟨⟨acc7, cc7, r7, I7'.unpinned⟩, T.keep _ _ _ st5 fun b hb o e => (I7'.pin (b, o) (List.mem_append_right _ (List.mem_append_right _ (mem_pinsAt hb e)))).1, fun b hb => ?_⟩
          obtain ⟨o, e, d⟩ := T.obj _ _ st5 b hb
          exact (I7'.pin (b, o) (List.mem_append_right _ (List.mem_append_right _ (mem_pinsAt hb e)))).2.1
        refine hb.run A S (ip ++ pinsAt fp s5.heap) R n ys s₀ _ _ _ _ id id s6 σ6 H6 { D with nx := N, ct := N, bk := D.nx } ⟨gc.pn, fun q hq => ?_, gc.apart, (gl _).over, (gl _).split, (gl _).guard, rfl⟩ hn ⟨fun n' ys' s₀' s3 f hn' hs => ?_, fun n' s₀' x s3 hx => ee n' s₀' x s3 hx⟩ G6 q6
        · rcases List.mem_append.mp hq with hq | hq
          · exact gc.ip q hq
          · exact fun z => fS q.1 (of_pinsAt hq).1 z.symm
        · cases f with
          | next =>
            obtain ⟨σ3, H3, I3, n3⟩ := hs
            obtain ⟨m', hm, w3⟩ := hN ys' σ3 H3 n3
            obtain ⟨a1, a2, a3⟩ := un I3
            exact seg_again rfl (ih m' hm (i + 1) n' ys' s₀' s3 σ3 H3 hn' w3 a1 a2 a3)
          | cont =>
            obtain ⟨σ3, H3, I3, n3⟩ := hs
            obtain ⟨m', hm, w3⟩ := hN ys' σ3 H3 n3
            obtain ⟨a1, a2, a3⟩ := un I3
            exact seg_again rfl (ih m' hm (i + 1) n' ys' s₀' s3 σ3 H3 hn' w3 a1 a2 a3)
          | brk =>
            obtain ⟨σ3, H3, I3, n3⟩ := hs
            exact seg_leaf (.ok .next) (k.ok n' ys' s₀' s3 .next hn' ⟨σ3, H3, (un I3).1, n3⟩)
          | ret v =>
            obtain ⟨x3, σ3, H3, I3, rv, n3⟩ := hs
            exact seg_leaf (.ok (.ret v)) (k.ok n' ys' s₀' s3 (.ret v) hn' ⟨x3, σ3, H3, (un I3).1, rv, n3⟩)
  exact loop m0 0 n ys s₀ s2 σ H2 hn w0 ⟨acc0, cc0, r0, I2⟩ st2 fun b hb => (f2 b hb).1
end
end L2

namespace K0
open PySem PySem.Spec PyProof.Rows L2 Evl
theorem un65 {k : Nat} {A : Around} (hr : Room k A) : A.units + 65 < cLine := by have := hr.un; omega
/-! ### what may stand at each place, the mathematics -/
def versF (vs : List (List D)) (p : Nat × D) : List (List D) := if ((vs.getD p.1 []).any fun z => PyData.eqv z.py p.2.py) = true then vs else vs.set p.1 (vs.getD p.1 [] ++ [p.2])
def vers (S : List D) (W : List (Nat × D)) : List (List D) := W.foldl versF (S.map fun d => [d])
def prodL (vs : List (List D)) : Nat := vs.foldl (fun m ds => m * ds.length) 1
structure VOk (n : Nat) (m : Nat) (vs : List (List D)) : Prop where
  len : vs.length = n
  ne : ∀ ds ∈ vs, ds ≠ [] ∧ ds.length ≤ m + 1 ∧ ∀ d ∈ ds, BkOk d
theorem vok_0 {S : List D} (h : ∀ d ∈ S, BkOk d) : VOk S.length 0 (S.map fun d => [d]) := ⟨List.length_map .., fun ds hd => by
  obtain ⟨d, hd', rfl⟩ := List.mem_map.mp hd
  exact ⟨by simp, by simp, fun e he => by rw [List.mem_singleton.mp he]; exact h d hd'⟩⟩
theorem getD_lt {α : Type} {l : List α} {i : Nat} {x : α} (h : i < l.length) : l.getD i x = l[i] := by rw [List.getD_eq_getElem?_getD, List.getElem?_eq_getElem h]; rfl
theorem vok_step {n m : Nat} {vs : List (List D)} {p : Nat × D} (h : VOk n m vs) (hp : p.1 < n) (hb : BkOk p.2) : VOk n (m + 1) (versF vs p) := by
  unfold versF
  split
  · exact ⟨h.len, fun ds hd => by obtain ⟨a, b, c⟩ := h.ne ds hd; exact ⟨a, by omega, c⟩⟩
  · refine ⟨by rw [List.length_set, h.len], fun ds hd => ?_⟩
    rcases List.mem_or_eq_of_mem_set hd with hd | rfl
    · obtain ⟨a, b, c⟩ := h.ne ds hd
      exact ⟨a, by omega, c⟩
    · have hl : p.1 < vs.length := by rw [h.len]; exact hp
      rw [getD_lt hl]
      obtain ⟨a, b, c⟩ := h.ne vs[p.1] (List.getElem_mem hl)
      refine ⟨by simp, by rw [List.length_append, List.length_singleton]; omega, fun d hd => ?_⟩
      rcases List.mem_append.mp hd with hd | hd
      · exact c d hd
      · rw [List.mem_singleton.mp hd]
        exact hb
theorem vers_take {S : List D} {W : List (Nat × D)} {i : Nat} {p : Nat × D} (h : W[i]? = some p) : vers S (W.take (i + 1)) = versF (vers S (W.take i)) p := by
  unfold vers
  rw [List.take_succ, h, List.foldl_append]
  rfl
theorem vok_vers {S : List D} {W : List (Nat × D)} (h : DOk S W) : ∀ i, i ≤ W.length → VOk S.length i (vers S (W.take i))
  | 0, _ => vok_0 h.bs
  | i + 1, hi => by
    have hW : W[i]? = some W[i] := List.getElem?_eq_getElem hi
    rw [vers_take hW]
    have := h.bw W[i] (List.getElem_mem hi)
    exact vok_step (vok_vers h i (by omega)) this.1 this.2
/-! ### lists of lists, as they stand -/
def OneAt (K : PySem.W.Frag) (H : Hp) (a : Addr) (ds : List D) : Prop := ∃ xs, H a = some (.lst xs) ∧ RpAll K H xs ds
structure VIn (K : PySem.W.Frag) (H : Hp) (as : List Addr) (vs : List (List D)) : Prop where
  nd : as.Nodup
  len : as.length = vs.length
  at_ : ∀ (i : Nat) (a : Addr) (ds : List D), as[i]? = some a → vs[i]? = some ds → OneAt K H a ds
def VAt (K : PySem.W.Frag) (H : Hp) (L : Addr) (vs : List (List D)) : Prop := ∃ as : List Addr, H L = some (.lst (as.map V.ref)) ∧ L ∉ as ∧ VIn K H as vs
section
variable {K : PySem.W.Frag} {σ : L2.St} {H H' : Hp} {te ta tb : TE} {ds es : List D} {as : List Addr} {vs : List (List D)}
theorem OneAt.ex {a : Addr} (e : Ex H H') (h : OneAt K H a ds) : OneAt K H' a ds := let ⟨xs, h1, h2⟩ := h; ⟨xs, e _ _ h1, h2.ex e⟩
theorem VIn.ex (e : Ex H H') (h : VIn K H as vs) : VIn K H' as vs := ⟨h.nd, h.len, fun i a ds h1 h2 => (h.at_ i a ds h1 h2).ex e⟩
theorem VAt.ex {L : Addr} (e : Ex H H') (h : VAt K H L vs) : VAt K H' L vs := let ⟨as, h1, h2, h3⟩ := h; ⟨as, e _ _ h1, h2, h3.ex e⟩
/-- another list changed -/
theorem VIn.other {b : Addr} {xs ys : List V} (h : VIn K H as vs) (hb : b ∉ as) (g : H b = some (.lst xs)) : VIn K (L2.upd H b (.lst ys)) as vs := ⟨h.nd, h.len, fun i a ds h1 h2 => by
  obtain ⟨zs, z1, z2⟩ := h.at_ i a ds h1 h2
  have ne : a ≠ b := fun z => hb (z ▸ List.mem_of_getElem? h1)
  exact ⟨zs, by rw [upd_ne ne]; exact z1, z2.exL (ExL.upd g)⟩⟩
theorem nodup_at {as : List Addr} (h : as.Nodup) {i j : Nat} {a : Addr} (h1 : as[i]? = some a) (h2 : as[j]? = some a) : i = j := by
  obtain ⟨hi, e1⟩ := List.getElem?_eq_some_iff.mp h1
  exact (List.getElem?_inj hi h).mp (h1.trans h2.symm)
/-- one of them grows -/
theorem VIn.grow {n : Nat} {a : Addr} {xs : List V} {v : V} {d : D} (h : VIn K H as vs) (ha : as[n]? = some a) (hv : vs[n]? = some ds) (g : H a = some (.lst xs)) (r : RpAll K H xs ds) (rv : Rp K H v d) : VIn K (L2.upd H a (.lst (xs ++ [v]))) as (vs.set n (ds ++ [d])) := by
  refine ⟨h.nd, by rw [List.length_set]; exact h.len, fun i b es h1 h2 => ?_⟩
  have e1 : ExL H (L2.upd H a (.lst (xs ++ [v]))) := ExL.upd g
  by_cases e : i = n
  · subst e
    rw [ha] at h1
    cases h1
    have hl : i < vs.length := (List.getElem?_eq_some_iff.mp hv).1
    rw [List.getElem?_set_self hl] at h2
    cases h2
    exact ⟨_, upd_same, (r.exL e1).app (.cons (rv.exL e1) .nil)⟩
  · rw [List.getElem?_set_ne (fun z => e z.symm)] at h2
    obtain ⟨zs, z1, z2⟩ := h.at_ i b es h1 h2
    have ne : b ≠ a := fun z => e (nodup_at h.nd (z ▸ h1) ha)
    exact ⟨zs, by rw [upd_ne ne]; exact z1, z2.exL e1⟩
theorem VIn.snoc {a : Addr} (h : VIn K H as vs) (ha : a ∉ as) (o : OneAt K H a ds) : VIn K H (as ++ [a]) (vs ++ [ds]) := by
  refine ⟨List.nodup_append.mpr ⟨h.nd, by simp, fun x hx y hy z => ha (by rw [List.mem_singleton.mp hy] at z; rw [← z]; exact hx)⟩, by rw [List.length_append, List.length_append, h.len]; rfl, fun i b es h1 h2 => ?_⟩
  by_cases e : i < as.length
  · rw [List.getElem?_append_left e] at h1
    rw [List.getElem?_append_left (by rw [← h.len]; exact e)] at h2
    exact h.at_ i b es h1 h2
  · rw [List.getElem?_append_right (by omega)] at h1
    rw [List.getElem?_append_right (by rw [← h.len]; omega)] at h2
    rw [← h.len] at h2
    cases q : i - as.length with
    | zero =>
      rw [q] at h1 h2
      cases h1
      cases h2
      exact o
    | succ m => rw [q] at h1; cases h1
theorem n_appendV {Dn : Ends} {l : Addr} {xs : List V} (ha : Ev ta σ H (.ref l)) (hl : H l = some (.lst xs))
    (h : ∀ H1, Ex H H1 → te σ H1 fun v H2 => ∃ l' ys v', V.ref l = V.ref l' ∧ [v] = [v'] ∧ H2 l' = some (.lst ys) ∧ ys.length < sizeLine ∧ Dn.nx σ (L2.upd H2 l' (.lst (ys ++ [v'])))) : tDrop (tBM K "list" rAppend ta (tCons te tNil)) Dn σ H :=
  ha H (Ex.refl H) _ fun H1 e1 => ⟨Or.inl ⟨rfl, xs, sq_of (e1 l _ hl)⟩, h H1 e1⟩
theorem q_forD {g : TG} {tu tz : TS} {Dn : Ends} (h : EvD K te σ H (.tup ds)) (k : ∀ a xs H1, Ex H H1 → SqT K H1 a xs → RpAll K H1 xs ds → tSeq (tFor (iTup K (tC (.ref a))) g tu) tz Dn σ H1) : tSeq (tFor (iTup K te) g tu) tz Dn σ H := h H (Ex.refl _) _ fun v H1 e1 hv => by
  obtain ⟨a, xs, rfl, hq, hr⟩ := hv.tupI
  exact k a xs H1 e1 hq hr
theorem n_lstV {tr : TA} {Q : VK} (h : tr σ H fun xs H1 => xs.length ≤ sizeLine ∧ ∀ p, H1 p = none → Q (.ref p) (upd H1 p (.lst xs))) : tLst tr σ H Q := h
/-- [[x] for x in t] -/
theorem l_ones {j : Nat} {ws : List Nat} {Q : VK} (h : EvD K te σ H (.tup ds)) (hz : ds.length ≤ 1000) (hw : ∀ x, wipe ((wipe σ ws).set j (some x)) ws = wipe σ ws) (hj : ∀ x, ((wipe σ ws).set j (some x))[j]? = some (some x))
    (k : ∀ L as H', H L = none → Ex H H' → (∀ a ∈ as, H a = none) → H' L = some (.lst (as.map V.ref)) → L ∉ as → VIn K H' as (ds.map fun d => [d]) → Q (.ref L) H') : tLc (iTup K te) (gName j) tYes (tLst (tCons (tVar j) tNil)) ws σ H Q := h H (Ex.refl _) _ fun v H1 e1 hv => by
  obtain ⟨a, xs, rfl, ha, hr⟩ := hv.tupI
  have hl : xs.length = ds.length := hr.len
  refine ⟨a, rfl, ⟨_, ha⟩, fun Dl hD => ?_⟩
  refine lc_it (walk_tup (K := K) (a := a) (xs := xs)) (fun i H' => i ≤ xs.length ∧ Ex H1 H' ∧ ∃ as : List Addr, H' Dl = some (.lst (as.map V.ref)) ∧ as.length = i ∧ Dl ∉ as ∧ (∀ a ∈ as, H1 a = none) ∧ VIn K H' as ((ds.take i).map fun d => [d]))
    ⟨Nat.zero_le _, Ex.new hD, [], upd_same, rfl, by simp, (fun a h => by cases h), ⟨List.nodup_nil, rfl, fun i a ds h => by cases h⟩⟩ (fun i H' _ q => ex_t q.2.1 ha) (fun i w H' H'' hi q yp => ?_) (fun H' q => ?_)
  · obtain ⟨rfl, ex⟩ := yp
    obtain ⟨_, q2, as, q3, q4, q5, qf, q6⟩ := q
    refine ⟨hw _, ?_⟩
    refine et_yes H'' (Ex.refl _) _ fun H2 e2 => ?_
    rw [if_pos rfl]
    refine n_lstV (n_cons (n_var (hj _) (n_nil ⟨sz_of (by simp), fun b hb => ?_⟩)))
    have e3 : Ex H2 (upd H2 b (.lst [w])) := Ex.new hb
    have nb : b ∉ as := fun z => by
      obtain ⟨m, hm⟩ := List.getElem?_of_mem z
      have hm' : m < as.length := (List.getElem?_eq_some_iff.mp hm).1
      obtain ⟨ds', hd⟩ : ∃ ds', ((ds.take i).map fun d => [d])[m]? = some ds' := ⟨_, List.getElem?_eq_getElem (by rw [← q6.len]; exact hm')⟩
      obtain ⟨zs, z1, _⟩ := (q6.ex e2).at_ m b ds' hm hd
      rw [hb] at z1
      cases z1
    have nD : Dl ≠ b := ne_of_none (e2 _ _ q3) hb
    have h3 : (upd H2 b (.lst [w])) Dl = some (.lst (as.map V.ref)) := e3 _ _ (e2 _ _ q3)
    obtain ⟨d, hd, rd⟩ := RpAll.get _ _ _ _ (hr.ex ((q2.trans e2).trans e3)) ex
    have v3 : VIn K (upd H2 b (.lst [w])) (as ++ [b]) ((ds.take (i + 1)).map fun d => [d]) := by
      rw [List.take_succ, hd]
      show VIn K _ _ ((ds.take i ++ [d]).map fun d => [d])
      rw [List.map_append]
      exact (q6.ex (e2.trans e3)).snoc nb ⟨[w], upd_same, .cons rd .nil⟩
    have nb2 : Dl ∉ as ++ [b] := fun z => by
      rcases List.mem_append.mp z with z | z
      · exact q5 z
      · exact nD (List.mem_singleton.mp z)
    refine ⟨as.map V.ref, h3, by rw [List.length_map]; exact sz_lt (by omega), hi, Ex.mut ((q2.trans e2).trans e3) hD, as ++ [b], by rw [List.map_append]; exact upd_same, by rw [List.length_append, q4]; rfl, nb2, fun x hx => ?_, v3.other nb2 h3⟩
    rcases List.mem_append.mp hx with hx | hx
    · exact qf x hx
    · rw [List.mem_singleton.mp hx]
      exact fresh_back (q2.trans e2) hb
  · obtain ⟨_, q2, as, q3, q4, q5, qf, q6⟩ := q
    rw [hl, List.take_length] at q6
    exact k Dl as H' (fresh_back e1 hD) (e1.trans q2) (fun a ha => fresh_back e1 (qf a ha)) q3 q5 q6
end
section
variable {P : Program} {w : World} {K : PySem.W.Frag} {mg : Str → Option Value} {base : Heap} {A : Ad} {D : Fd}
def sp_versions_of (K : PySem.W.Frag) (A : Ad) : Sp := fun vs H Q _ => ∃ p S W, vs = [.ref p] ∧ DiskAt K A.Disk H p S W ∧ ∀ L H', Ex H H' → H L = none → VAt K H' L (vers S W) → Q (.ref L) H'
theorem len_versions_of {vs : List V} {H : Hp} {Q : VK} {E : XK} (h : sp_versions_of K A vs H Q E) : vs.length = 1 := by
  obtain ⟨p, S, W, rfl, _⟩ := h
  rfl
theorem ok_versions_of (T : Txt K mg A D) : FnOk P w K mg base CX0 5 A.versions_of D.versions_of ["disk"] (sp_versions_of K A) := by
  have G_Disk_waiting : FnOk P w K mg base CX0 1 A.Disk_waiting D.Disk_waiting ["self"] (sp_Disk_waiting K A) := ok_Disk_waiting T
  have G_Disk_sure : FnOk P w K mg base CX0 1 A.Disk_sure D.Disk_sure ["self"] (sp_Disk_sure K A) := ok_Disk_sure T
  obtain ⟨_, hp_Disk_waiting⟩ := T.p_Disk_waiting
  obtain ⟨_, hp_Disk_sure⟩ := T.p_Disk_sure
  refine T.F_versions_of.ok sc_versions_of (fun vs H Q E h => len_versions_of h) (fun cdv A0 outer s H vs Q E hr h => ?_)
  refine ⟨_, (pss_cons (ps_setLc (i := 1) (own := [("block", 2)]) (g := gName 2) (tt := tYes) rfl sc_versions_of.nd rfl rfl (sw_true rfl rfl rfl (by decide +kernel)) (pi_tup (pe_prop (pv 0) T.cl_Disk hp_Disk_sure G_Disk_sure (hr.mono (by decide)) T.b_Disk_sure .nil pass0 (by rfl))) (blkOk_by (own := [("block", 2)]) (N := N_versions_of) (sc := defScope s_versions_of) (by decide +kernel)) (fun _ _ _ _ _ => by exact pg_name (i := 2) sc_versions_of.nd rfl (Or.inl rfl)) (fun _ _ _ _ _ => by exact pts_nil) (fun _ _ _ _ _ => by exact (pe_lst (pa_cons (pv 2) pa_nil))))
  (pss_cons (ps_for PassesOwn.never rfl (pi_tup (pe_prop (pv 0) T.cl_Disk hp_Disk_waiting G_Disk_waiting (hr.mono (by decide)) T.b_Disk_waiting .nil pass0 (by rfl))) (pg_tup rfl (pgs_cons (pg_name (i := 3) sc_versions_of.nd rfl (Or.inl rfl)) (pgs_cons (pg_name (i := 2) sc_versions_of.nd rfl (Or.inl rfl)) pgs_nil))) (pss_one (ps_if (pt_cmpR (op_notInD (un65 hr)) (pv 2) (pe_ix ix_list (pv 1) (pv 3) (fun _ _ => rfl)) (by rfl)) (pss_one (ps_expr (pe_bm PySem.F.plainAttrs_list PySem.F.slot_list_append PySem.F.type_list_append mt_append (pe_ix ix_list (pv 1) (pv 3) (fun _ _ => rfl)) (pa_cons (pv 2) pa_nil)))) pss_nil)))
  (pss_one (ps_ret (pv 1))))), ?_⟩
  obtain ⟨p, S, W, rfl, hD, k⟩ := h
  obtain ⟨⟨dx, a, b, hp, ha, hb⟩, ok⟩ := id hD
  have hhi := ok.hi
  refine q_asgG (l_ones (K := K) (ds := S) (ed_prop (K := K) (ev_var rfl) hp fun H1 e1 Q q => ⟨p, S, W, rfl, hD.ex e1, q⟩) (by omega) (fun _ => rfl) (fun _ => rfl) fun L as H1 hL e1 fa g1 nL vi => ?_)
  have hD1 := hD.ex e1
  refine q_forD (K := K) (ds := W.map prD) (ed_prop (K := K) (ev_var rfl) (e1 _ _ hp) fun H2 e2 Q q => ⟨p, S, W, rfl, hD1.ex e2, q⟩) fun wa ws H2 e2 hq hr => ?_
  have e02 := e1.trans e2
  have hwl : ws.length = W.length := by rw [hr.len, List.length_map]
  have al : as.length = S.length := by rw [vi.len, List.length_map]
  refine q_forT ev_c hq (fun i σ' H' => ∃ v2 v3, σ' = [some (.ref p), some (.ref L), v2, v3] ∧ Ex H H' ∧ H' L = some (.lst (as.map V.ref)) ∧ SqT K H' wa ws ∧ RpAll K H' ws (W.map prD) ∧ VIn K H' as (vers S (W.take i))) (fun H3 e3 => ⟨none, none, rfl, e02.trans e3, (e2.trans e3) _ _ g1, ex_t e3 hq, hr.ex e3, vi.ex (e2.trans e3)⟩) (fun i σ' H' _ ⟨_, _, _, _, _, h, _⟩ => h) (fun i y σ' H' hy g => ?_) (fun σ' H' g => ?_)
  · obtain ⟨v2, v3, rfl, e3, g3, q3, r3, vi3⟩ := g
    obtain ⟨d, hd, hrp⟩ := RpAll.get _ _ _ _ r3 hy
    rw [List.getElem?_map] at hd
    obtain ⟨q, hW, rfl⟩ : ∃ q, W[i]? = some q ∧ prD q = d := by
      cases g : W[i]? with
      | none => rw [g] at hd; cases hd
      | some q => rw [g] at hd; exact ⟨q, rfl, Option.some.inj hd⟩
    obtain ⟨t, v, rfl, ht, hv⟩ := hrp.pairI
    refine ⟨t, _, rfl, ht, rfl, _, _, rfl, _, _, rfl, rfl, ?_⟩
    have bw := ok.bw q (List.mem_of_getElem? hW)
    have ql : q.1 < as.length := by rw [al]; exact bw.1
    have vok := vok_vers ok i (by have := (List.getElem?_eq_some_iff.mp hW).1; omega)
    generalize hV : vers S (W.take i) = vs at vi3 vok
    have qv : q.1 < vs.length := by rw [← vi3.len]; exact ql
    have ha1 : as[q.1]? = some as[q.1] := List.getElem?_eq_getElem ql
    have hv1 : vs[q.1]? = some vs[q.1] := List.getElem?_eq_getElem qv
    obtain ⟨zs, z1, z2⟩ := vi3.at_ q.1 _ _ ha1 hv1
    obtain ⟨n1, n2, n3⟩ := vok.ne vs[q.1] (List.getElem_mem qv)
    have evA : ∀ {H4 : Hp} {σ : L2.St}, H4 L = some (.lst (as.map V.ref)) → σ[1]? = some (some (.ref L)) → σ[3]? = some (some (.int (q.1 : Int))) → Ev (tOp (rIxL K) (tVar 1) (tVar 3)) σ H4 (.ref as[q.1]) := fun g s1 s3 => ev_op (ev_var s1) (ev_var s3) (rv_ixL (sq_of g) (by
      unfold atI
      rw [ixN_nat (by rw [List.length_map]; exact ql)]
      show (as.map V.ref)[q.1]? = _
      rw [List.getElem?_map, ha1]
      rfl))
    have fds : ∀ d ∈ vs[q.1], d.fine 5 = true := fun d hd => (n3 d hd).fine
    have cl := (fine_all _ fds).1
    have hvf : vers S (W.take (i + 1)) = versF vs q := by rw [vers_take hW, hV]
    refine n_ifS (et_test (b := !(vs[q.1].any fun z => PyData.eqv z.py q.2.py)) (fun H4 e4 Q q4 => n_op (n_var rfl (evA (e4 _ _ g3) rfl rfl H4 (Ex.refl _) _ fun H5 e5 => ⟨q.2.py, K0.D.pyL vs[q.1], ((hv.ex (e4.trans e5)).dp (fine_c bw.2.fine)), dpL ((e4.trans e5) _ _ z1) (z2.ex (e4.trans e5)) cl, shaped_of bw.2.fine (by decide), shapedL_of fds (by decide), by
      rw [pyL_map, List.any_map]
      exact q4 H5 e5⟩))) H' (Ex.refl _) _ fun H4 e4 => ?_)
    cases hB : vs[q.1].any fun z => PyData.eqv z.py q.2.py with
    | true =>
      rw [if_neg (by simp)]
      have hs : versF vs q = vs := by
        unfold versF
        rw [getD_lt qv, if_pos hB]
      exact n_next ⟨_, _, rfl, e3.trans e4, e4 _ _ g3, ex_t e4 q3, r3.ex e4, by rw [hvf, hs]; exact vi3.ex e4⟩
    | false =>
      rw [if_pos (by simp)]
      have hs : versF vs q = vs.set q.1 (vs[q.1] ++ [q.2]) := by
        unfold versF
        rw [getD_lt qv, if_neg (by rw [hB]; simp)]
      have z4 := e4 _ _ z1
      refine n_appendV (evA (e4 _ _ g3) rfl rfl) z4 fun H5 e5 => n_var rfl ?_
      have e45 := e4.trans e5
      have z5 := e45 _ _ z1
      have zl : zs.length = vs[q.1].length := z2.len
      have hwl2 := ok.wl
      have hiW := (List.getElem?_eq_some_iff.mp hW).1
      have eL : ExL H5 (L2.upd H5 as[q.1] (.lst (zs ++ [v]))) := ExL.upd z5
      have nLa : L ≠ as[q.1] := fun z => nL (by rw [z]; exact List.getElem_mem ql)
      refine ⟨as[q.1], zs, v, rfl, rfl, z5, sz_lt (by omega), _, _, rfl, Ex.mut (e3.trans e45) (fa _ (List.getElem_mem ql)), ?_, eL.sqT (ex_t e45 q3), (r3.ex e45).exL eL, ?_⟩
      · rw [upd_ne nLa]
        exact e45 _ _ g3
      · rw [hvf, hs]
        exact (vi3.ex e45).grow ha1 hv1 z5 (z2.ex e45) (hv.ex e45)
  · obtain ⟨v2, v3, rfl, e3, g3, q3, r3, vi3⟩ := g
    rw [hwl, List.take_length] at vi3
    exact s_ret (ev_var rfl) fun H4 e4 => k L H4 (e3.trans e4) hL ⟨as, e4 _ _ g3, nL, vi3.ex e4⟩
end
end K0

namespace K0
open PySem PySem.Spec PyProof.Rows L2 Evl
def D.isOth : D → Bool
  | .oth => true | _ => false
/-- no instance: of a kind of its own, or a list, or a dict -/
def NoIns (K : PySem.W.Frag) (H : Hp) (x : V) : Prop := (∃ d, Rp K H x d ∧ d.isOth = false) ∨ (∃ p xs, x = .ref p ∧ H p = some (.lst xs)) ∨ ∃ p kvs, x = .ref p ∧ H p = some (.dK kvs)
theorem NoIns.ex {K : PySem.W.Frag} {H H' : Hp} {x : V} (e : Ex H H') (h : NoIns K H x) : NoIns K H' x := by
  rcases h with ⟨d, r, o⟩ | ⟨p, xs, rfl, g⟩ | ⟨p, xs, rfl, g⟩
  · exact .inl ⟨d, r.ex e, o⟩
  · exact .inr (.inl ⟨p, xs, rfl, e _ _ g⟩)
  · exact .inr (.inr ⟨p, xs, rfl, e _ _ g⟩)
section
variable {P : Program} {w : World} {K : PySem.W.Frag} {mg : Str → Option Value} {base : Heap} {A : Ad} {D : Fd}
theorem rc_noDisk {H : Hp} {x : V} (T : Txt K mg A D) (h : NoIns K H x) : RC (rIsi K) [x, .ref A.Disk] H (.bl false) := fun H1 e Q q => by
  rcases h.ex e with ⟨d, r, o⟩ | ⟨p, xs, rfl, g⟩ | ⟨p, xs, rfl, g⟩
  · cases r with
    | non => exact ⟨_, _, _, _, _, rfl, .own _, .base .non, T.kNoneType_Disk, q H1 (Ex.refl _)⟩
    | bl b => exact ⟨_, _, _, _, _, rfl, .own _, .base (.bl _), T.kbool_Disk, q H1 (Ex.refl _)⟩
    | int i => exact ⟨_, _, _, _, _, rfl, .own _, .base (.int _), T.kint_Disk, q H1 (Ex.refl _)⟩
    | str s => exact ⟨_, _, _, _, _, rfl, .own _, .base (.str _), T.kstr_Disk, q H1 (Ex.refl _)⟩
    | tup h2 _ => exact ⟨_, _, _, _, _, rfl, .own _, ty_tup h2, T.ktuple_Disk, q H1 (Ex.refl _)⟩
    | lst h2 => cases o
    | dct h2 => cases o
    | ins h2 i => cases o
  · exact ⟨_, _, _, _, _, rfl, .own _, .base (.lst g), T.klist_Disk, q H1 (Ex.refl _)⟩
  · exact ⟨_, _, _, _, _, rfl, .own _, .base (.dK g), T.kdict_Disk, q H1 (Ex.refl _)⟩
def sp_check_diskX (K : PySem.W.Frag) (A : Ad) : Sp := fun vs H Q E => ∃ x, vs = [x] ∧ ((NoIns K H x ∧ Rai A.EInvalidDisk H E) ∨ ((∃ p S W, x = .ref p ∧ DiskAt K A.Disk H p S W) ∧ RetV .non H Q))
theorem ok_check_diskX (T : Txt K mg A D) : FnOk P w K mg base (L2.CX P w) 2 A.check_disk D.check_disk ["value"] (sp_check_diskX K A) := by
  refine T.F_check_disk.okX sc_check_disk (fun vs H Q E h => by obtain ⟨x, rfl, _⟩ := h; rfl) (fun cdv A0 outer s H vs Q E hr h => ?_)
  refine ⟨_, (pss_one (ps_if (pt_not (pt_val (pe_callB call_isi (by rfl) T.b_isinstance (by decide +kernel) (pa_cons (pv 0) (pa_cons (pe_glob (v := .ref A.Disk) rfl T.g_Disk rfl) pa_nil))))) (pss_one (ps_raise rfl (takes_of rfl rfl rfl rfl) (pmk_own PySem.F.excBase_ValueError T.e_InvalidDisk.q T.e_InvalidDisk.g T.e_InvalidDisk.k (raises_own T.e_InvalidDisk.b T.e_InvalidDisk.t) (by exact rfl)))) pss_nil)), ?_⟩
  obtain ⟨x, rfl, h⟩ := h
  rcases h with ⟨hn, k⟩ | ⟨⟨p, S, W, rfl, ⟨⟨dx, a, b, hp, ha, hb⟩, ok⟩⟩, k⟩
  · exact s_when (b := true) (et_is (et_not (et_B (ev_cb (ea_cons (ev_var rfl) (ea_cons ev_c ea_nil)) (rc_noDisk T hn)))) rfl) (fun _ H1 e1 => k H1 e1) fun z => by cases z
  · exact s_when (b := false) (et_is (et_not (et_B (ev_cb (ea_cons (ev_var rfl) (ea_cons ev_c ea_nil)) (rc_kitI (P := fun _ => True) (n := "") (b := true) T.ob_Disk T.cl_Disk hp)))) rfl) (fun z => by cases z) fun _ H1 e1 => k H1 e1
theorem q_forCallV {σ : L2.St} {H : Hp} {tl : TE} {g : TG} {tu tz : TS} {Dn : Ends} (h : tl σ H fun x H1 => tSeq (tFor (iList K (tC x)) g tu) tz Dn σ H1) : tSeq (tFor (iList K tl) g tu) tz Dn σ H := h
theorem prodL_take {vs : List (List K0.D)} {i : Nat} {ds : List K0.D} (h : vs[i]? = some ds) : prodL (vs.take (i + 1)) = prodL (vs.take i) * ds.length := by
  unfold prodL
  rw [List.take_succ, h, List.foldl_append]
  rfl
/-- how many falls -/
def sp_falls_countX (K : PySem.W.Frag) (A : Ad) : Sp := fun vs H Q E => ∃ x, vs = [x] ∧ ((NoIns K H x ∧ Rai A.EInvalidDisk H E) ∨ ∃ p S W, x = .ref p ∧ DiskAt K A.Disk H p S W ∧ RetV (.int (prodL (vers S W) : Nat)) H Q)
theorem ok_falls_countX (T : Txt K mg A D) : FnOk P w K mg base (L2.CX P w) 30 A.falls_count D.falls_count ["disk"] (sp_falls_countX K A) := by
  have G_check_disk := ok_check_diskX (P := P) (w := w) (base := base) T
  have G_versions_of := ok_versions_of (P := P) (w := w) (base := base) T
  refine T.F_falls_count.okX sc_falls_count (fun vs H Q E h => by obtain ⟨x, rfl, _⟩ := h; rfl) (fun cdv A0 outer s H vs Q E hr h => ?_)
  refine ⟨_, (pss_cons (ps_expr (pe_call G_check_disk (hr.mono (by decide)) rfl T.g_check_disk T.F_check_disk.kp T.b_check_disk .nil (passes_call (takes_of rfl rfl rfl rfl) (fun _ _ _ _ z => z)) (pa_cons (pv 0) pa_nil)))
  (pss_cons (ps_set (i := 1) sc_falls_count.nd rfl (Or.inl rfl) pe_int)
  (pss_cons (ps_for (passes_of rfl) rfl (pi_list (pe_call G_versions_of (hr.mono (by decide)) rfl T.g_versions_of T.F_versions_of.kp T.b_versions_of .nil pass0 (pa_cons (pv 0) pa_nil))) (pg_name (i := 2) sc_falls_count.nd rfl (Or.inl rfl)) (pss_one (ps_set (i := 1) sc_falls_count.nd rfl (Or.inl rfl) (pe_op op_mul (pv 1) (pe_callB call_len (by rfl) T.b_len (by decide +kernel) (pa_cons (pv 2) pa_nil))))))
  (pss_one (ps_ret (pv 1)))))), ?_⟩
  obtain ⟨x, rfl, h⟩ := h
  rcases h with ⟨hn, k⟩ | ⟨p, S, W, rfl, hD, k⟩
  · exact q_callX (ea_cons (ev_var rfl) ea_nil) fun H1 e1 => ⟨x, rfl, .inl ⟨hn.ex e1, k.ex e1⟩⟩
  refine q_callX (ea_cons (ev_var rfl) ea_nil) fun H1 e1 => ⟨.ref p, rfl, .inr ⟨⟨p, S, W, rfl, hD.ex e1⟩, fun H2 e2 => ?_⟩⟩
  have hD2 := hD.ex (e1.trans e2)
  obtain ⟨_, ok⟩ := id hD2
  have vok : VOk S.length W.length (vers S W) := by
    have := vok_vers ok W.length (Nat.le_refl _)
    rwa [List.take_length] at this
  refine q_asgX (ev_c H2 (Ex.refl _) _ fun H3 e3 => ?_)
  refine q_forCallV (d_raw (n_cons (n_var rfl (n_nil ⟨p, S, W, rfl, hD2.ex e3, fun L H4 e4 hL hV => ?_⟩))))
  obtain ⟨as, g4, nL, vi⟩ := hV
  have al : as.length = S.length := by rw [vi.len, vok.len]
  refine q_forL ev_c (sq_of g4) (fun i σ' H' => ∃ v2, σ' = [some (.ref p), some (.int (prodL ((vers S W).take i) : Nat)), v2] ∧ Ex H4 H') (fun H5 e5 => ⟨none, rfl, e5⟩) (fun i σ' H' _ ⟨_, _, e⟩ => sq_of (e _ _ g4)) (fun i y σ' H' hy g => ?_) (fun σ' H' g => ?_)
  · obtain ⟨v2, rfl, e5⟩ := g
    rw [List.getElem?_map] at hy
    obtain ⟨a, ha, rfl⟩ : ∃ a, as[i]? = some a ∧ V.ref a = y := by
      cases g : as[i]? with
      | none => rw [g] at hy; cases hy
      | some q => rw [g] at hy; exact ⟨q, rfl, Option.some.inj hy⟩
    have hi : i < (vers S W).length := by rw [← vi.len]; exact (List.getElem?_eq_some_iff.mp ha).1
    have hv1 : (vers S W)[i]? = some (vers S W)[i] := List.getElem?_eq_getElem hi
    obtain ⟨zs, z1, z2⟩ := vi.at_ i a _ ha hv1
    have zl : zs.length = ((vers S W)[i]).length := z2.len
    have bd := (vok.ne _ (List.getElem_mem hi)).2.1
    have hwl := ok.wl
    refine (ev_op (ev_var rfl) (ev_cb (ea_cons (ev_var rfl) ea_nil) (rc_lenL (sq_of (e5 _ _ z1)))) (rv_I (.inr ⟨by omega, by omega⟩))) H' (Ex.refl _) _ fun H6 e6 => ⟨some (.ref a), ?_, e5.trans e6⟩
    rw [prodL_take hv1, zl]
    push_cast
    rfl
  · obtain ⟨v2, rfl, e5⟩ := g
    have tk : (vers S W).take (as.map V.ref).length = vers S W := by rw [List.length_map, vi.len, List.take_length]
    rw [tk]
    exact s_ret (ev_var rfl) fun H6 e6 => k H6 ((((e1.trans e2).trans e3).trans e4).trans (e5.trans e6))
theorem q_appendV {σ : L2.St} {H : Hp} {ta te : TE} {tz : TS} {Dn : Ends} {l : Addr} {xs : List V} (ha : Ev ta σ H (.ref l)) (hl : H l = some (.lst xs))
    (h : ∀ H1, Ex H H1 → te σ H1 fun v H2 => ∃ l' ys v', V.ref l = V.ref l' ∧ [v] = [v'] ∧ H2 l' = some (.lst ys) ∧ ys.length < sizeLine ∧ tz Dn σ (L2.upd H2 l' (.lst (ys ++ [v'])))) : tSeq (tDrop (tBM K "list" rAppend ta (tCons te tNil))) tz Dn σ H := n_appendV (K := K) (Dn := { Dn with nx := fun σ H => tz Dn σ H }) ha hl h
theorem rpAll_revV {G : Hp} : ∀ {xs : List V} {ds : List K0.D}, RpAll K G xs ds → RpAll K G xs.reverse ds.reverse
  | _, _, .nil => .nil
  | _, _, .cons a r => by
    rw [List.reverse_cons, List.reverse_cons]
    exact (rpAll_revV r).app (.cons a .nil)
theorem q_forRevL {σ : L2.St} {H : Hp} {i : Nat} {L : Addr} {xs : List V} {g : TG} {tu tz : TS} {Dn : Ends} (hv : σ[i]? = some (some (.ref L))) (hl : SqL K H L xs) (Pv : Nat → L2.St → Hp → Prop) (h0 : Pv 0 σ H) (hq : ∀ i σ H, Pv i σ H → SqL K H L xs)
    (hs : ∀ (i : Nat) (x : V) (σ : L2.St) (H : Hp), i < xs.length → xs[xs.length - 1 - i]? = some x → Pv i σ H → g x σ H fun σ2 H2 => tu { Dn with nx := Pv (i + 1), ct := Pv (i + 1), bk := tz Dn } σ2 H2) (hd : ∀ σ H, Pv xs.length σ H → tz Dn σ H) : tSeq (tFor (RT.iRevA K (tVar i)) g tu) tz Dn σ H :=
  ⟨.ref L, hv, L, xs, rfl, .inl ⟨hl, RT.for_Itv (K := K) (D := { Dn with nx := fun σ H => tz Dn σ H }) Pv h0 hq hs hd⟩⟩
def sp_picked (K : PySem.W.Frag) : Sp := fun vs H Q _ => ∃ L, ∃ m : Nat, ∃ vs', vs = [.ref L, .int (m : Int)] ∧ VAt K H L vs' ∧ (∀ ds ∈ vs', ds ≠ [] ∧ ds.length ≤ 500 ∧ ∀ d ∈ ds, BkOk d) ∧ vs'.length ≤ 200 ∧ ∀ v S H', Ex H H' → Rp K H' v (.tup S) → S.length = vs'.length → (∀ d ∈ S, BkOk d) → Q v H'
theorem len_picked {vs : List V} {H : Hp} {Q : VK} {E : XK} (h : sp_picked K vs H Q E) : vs.length = 2 := by
  obtain ⟨L, m, vs', rfl, _⟩ := h
  rfl
theorem ok_picked (T : Txt K mg A D) : FnOk P w K mg base CX0 1 A.picked D.picked ["versions", "number"] (sp_picked K) := by
  refine T.F_picked.ok sc_picked (fun vs H Q E h => len_picked h) (fun cdv A0 outer s H vs Q E hr h => ?_)
  refine ⟨_, (pss_cons (ps_set (i := 2) sc_picked.nd rfl (Or.inl rfl) (pe_lst pa_nil))
  (pss_cons (ps_for PassesOwn.never rfl (RT.pi_revA (by rfl) T.b_reversed (pv 0)) (pg_name (i := 3) sc_picked.nd rfl (Or.inl rfl)) (pss_cons (ps_expr (pe_bm PySem.F.plainAttrs_list PySem.F.slot_list_append PySem.F.type_list_append mt_append (pv 2) (pa_cons (pe_ix ix_list (pv 3) (pe_op op_mod (pv 1) (pe_callB call_len (by rfl) T.b_len (by decide +kernel) (pa_cons (pv 3) pa_nil))) (fun _ _ => rfl)) pa_nil)))
  (pss_one (ps_set (i := 1) sc_picked.nd rfl (Or.inl rfl) (pe_op op_fdiv (pv 1) (pe_callB call_len (by rfl) T.b_len (by decide +kernel) (pa_cons (pv 3) pa_nil)))))))
  (pss_one (ps_ret (RT.pe_tupRev rfl (by rfl) T.b_tuple (by rfl) T.b_reversed (pv 2)))))), ?_⟩
  obtain ⟨L, m, vs', rfl, hV, hok, hl, k⟩ := h
  obtain ⟨as, g0, nL, vi⟩ := hV
  have al : as.length = vs'.length := vi.len
  refine q_asgX (n_lstV (n_nil ⟨sz_of (by simp), fun B hB => ?_⟩))
  have eB : Ex H (upd H B (.lst [])) := Ex.new hB
  refine q_forRevL (K := K) (L := L) (xs := as.map V.ref) rfl (sq_of (eB _ _ g0)) (fun i σ' H' => ∃ v3, ∃ j : Nat, ∃ ys ds, σ' = [some (.ref L), some (.int (j : Int)), some (.ref B), v3] ∧ Ex H H' ∧ H' B = some (.lst ys) ∧ RpAll K H' ys ds ∧ ds.length = i ∧ ∀ d ∈ ds, BkOk d) ⟨none, m, [], [], rfl, eB, upd_same, .nil, rfl, fun d hd => by cases hd⟩ (fun i σ' H' ⟨_, _, _, _, _, e, _⟩ => sq_of (e _ _ g0)) (fun i x σ' H' hi hx g => ?_) (fun σ' H' g => ?_)
  · obtain ⟨v3, j, ys, ds, rfl, e, gB, rB, lB, oB⟩ := g
    rw [List.length_map] at hi hx
    rw [List.getElem?_map] at hx
    obtain ⟨a, ha, rfl⟩ : ∃ a, as[as.length - 1 - i]? = some a ∧ V.ref a = x := by
      cases g : as[as.length - 1 - i]? with
      | none => rw [g] at hx; cases hx
      | some q => rw [g] at hx; exact ⟨q, rfl, Option.some.inj hx⟩
    have hn : as.length - 1 - i < vs'.length := by omega
    have hv1 : vs'[as.length - 1 - i]? = some vs'[as.length - 1 - i] := List.getElem?_eq_getElem hn
    obtain ⟨zs, z1, z2⟩ := vi.at_ _ a _ ha hv1
    obtain ⟨n1, n2, n3⟩ := hok _ (List.getElem_mem hn)
    generalize vs'[as.length - 1 - i] = cs at z2 n1 n2 n3
    have zl : zs.length = cs.length := z2.len
    have cp : 0 < zs.length := by rw [zl]; exact List.length_pos_iff.mpr n1
    have zb : zs.length < 1073741824 := by omega
    have jm : j % zs.length < zs.length := Nat.mod_lt _ cp
    have hz : zs[j % zs.length]? = some zs[j % zs.length] := List.getElem?_eq_getElem jm
    obtain ⟨d, hd, rd⟩ := RpAll.get _ _ _ _ z2 hz
    have hdm := List.mem_of_getElem? hd
    have em : ((j % zs.length : Nat) : Int) = (j : Int) % (zs.length : Int) := by push_cast; rfl
    have lenE : ∀ {H1 : Hp} {σ : L2.St}, Ex H H1 → σ[3]? = some (some (.ref a)) → Ev (tCB (fun xs H Q => ∃ x n, xs = [x] ∧ LenV K x H n ∧ Q (.int n) H) (tCons (tVar 3) tNil)) σ H1 (.int (zs.length : Nat)) := fun e1 h3 => ev_cb (ea_cons (ev_var h3) ea_nil) (rc_lenL (sq_of (e1 _ _ z1)))
    refine q_appendV (K := K) (ev_var rfl) gB fun H1 e1 => ?_
    refine (ev_op (ev_var rfl) (ev_is (ev_op (ev_var rfl) (lenE (e.trans e1) rfl) (rv_I (by omega))) (by push_cast; rfl)) (rv_ixL (v := zs[j % zs.length]) (sq_of ((e.trans e1) _ _ z1)) (by unfold atI; first | rw [ixN_nat jm] | rw [← em, ixN_nat jm]; exact hz))) H1 (Ex.refl _) _ fun H2 e2 => ?_
    have e12 := e1.trans e2
    have gB2 := e12 _ _ gB
    have eL : ExL H2 (L2.upd H2 B (.lst (ys ++ [zs[j % zs.length]]))) := ExL.upd gB2
    have e3 : Ex H (L2.upd H2 B (.lst (ys ++ [zs[j % zs.length]]))) := Ex.mut (e.trans e12) hB
    refine ⟨B, ys, _, rfl, rfl, gB2, sz_lt (by rw [rB.len, lB]; omega), ?_⟩
    refine (ev_op (ev_var rfl) (lenE e3 rfl) (rv_I ⟨by omega, by omega⟩)) _ (Ex.refl _) _ fun H4 e4 => ⟨some (.ref a), j / zs.length, ys ++ [zs[j % zs.length]], ds ++ [d], ?_, e3.trans e4, e4 _ _ upd_same, (((rB.ex e12).exL eL).ex e4).app (.cons (((rd.ex (e.trans e12)).exL eL).ex e4) .nil), by rw [List.length_append, lB]; rfl, fun x hx => ?_⟩
    · rw [Int.natCast_ediv]
      rfl
    · rcases List.mem_append.mp hx with hx | hx
      · exact oB x hx
      · rw [List.mem_singleton.mp hx]
        exact n3 d hdm
  · obtain ⟨v3, j, ys, ds, rfl, e, gB, rB, lB, oB⟩ := g
    rw [List.length_map, al] at lB
    refine n_ret (n_var rfl ⟨B, ys, rfl, sq_of gB, fun q hq => ?_⟩)
    have eQ := Ex.new (o := .tup ys.reverse) hq
    exact k (.ref q) ds.reverse _ (e.trans eQ) (.tup (st_of upd_same) ((rpAll_revV rB).ex eQ)) (by rw [List.length_reverse, lB]) fun d hd => oB d (List.mem_reverse.mp hd)
end
end K0

namespace K0
open PySem PySem.Spec PyProof.Rows L2 Evl
/-! ### the generator of all falls -/
section
variable {P : Program} {w : World} {K : PySem.W.Frag} {mg : Str → Option Value} {base : Heap}
theorem fun_gen {x qual : Str} {st : Stmt} {f : Addr} {fd : FuncData} {N ps : List Str} {k : Nat} {sp : SpG} (F : Fun K x qual st f fd) (S : GScope N ps (defScope st)) (len : ∀ vs H Q E, sp vs H Q E → vs.length = ps.length)
    (hbody : ∀ (cdv : Value) (A : Around) (outer : List Env) (s : Shared) (H : Hp) (vs : List V) (Q : List V → Hp → Prop) (E : XK) (pn : List (Addr × Obj)), Room k (A.deeper (envOfC qual (defScope st) s.heap.objs.size f cdv)) → sp vs H Q E →
      ∃ t, GSs (gcxOf P w K mg base N qual (defScope st) f cdv A outer s H E pn) (defBody st) t ∧ t { nx := fun ys _ H' => Q ys H', rt := fun ys v H' => v = .non ∧ Q ys H' } [] (start N vs) H) : GFn P w K mg base (k + 1) f fd ps sp := by
  obtain ⟨oc, od, kV, doc, pm, an, cdv, ct, osl, rfl, lk, hcd⟩ := F.ex
  exact gfn_of lk hcd S len fun A outer s H vs Q E pn hr hsp => hbody cdv A outer s H vs Q E pn hr hsp
end
theorem small1000' {n : Nat} (h : n ≤ 5000) : n < sizeLine := sz_lt (by omega)
section
variable {σ : L2.St} {H : Hp} {D : GEnds} {ys : List V} {u : TGn}
theorem g_set {te : TE} {i : Nat} (h : te σ H fun v H1 => u D ys (σ.set i (some v)) H1) : tGThen (tPlain (tAsg te (gName i))) u D ys σ H := h
theorem g_if {c : TT} {tu : TS} {b : Bool} (h : EvT c σ H b) (h1 : b = true → ∀ H1, Ex H H1 → tu (GEnds.at { D with nx := fun ys' σ' H' => u D ys' σ' H' } ys) σ H1) (h2 : b = false → ∀ H1, Ex H H1 → u D ys σ H1) : tGThen (tPlain (tIfS c tu tNext)) u D ys σ H := h H (Ex.refl _) _ fun H1 e1 => by
  cases b with
  | true => exact h1 rfl H1 e1
  | false => exact h2 rfl H1 e1
/-- for .. in range(n), in a generator -/
theorem g_rng {ta : TA} {g : TG} {tb : TGn} {n : Nat} (h : EvA ta σ H [.int (n : Int)]) (hn : n ≤ 1000000) (Pv : Nat → List V → L2.St → Hp → Prop) (h0 : ∀ H1, Ex H H1 → Pv 0 ys σ H1)
    (hs : ∀ i ys σ' H', i < n → Pv i ys σ' H' → g (.int (i : Int)) σ' H' fun σ2 H2 => tb { D with nx := Pv (i + 1), ct := Pv (i + 1), bk := fun ys' σ' H' => u D ys' σ' H' } ys σ2 H2) (hz : ∀ ys σ' H', Pv n ys σ' H' → u D ys σ' H') : tGThen (tGFor (iRng1 ta) g tb) u D ys σ H := by
  unfold tGThen tGFor
  refine n_rng1 (h H (Ex.refl _) _ fun H1 e1 => ⟨(n : Int), rfl, by omega, by omega, ?_⟩)
  refine ⟨fun i m ys σ H => m = n - i ∧ i ≤ n ∧ Pv i ys σ H, ⟨n, by simp, Nat.zero_le _, h0 H1 e1⟩, ?_⟩
  rintro i m ys' σ' H' ⟨rfl, hi, p⟩
  have w := walk_range (lo := 0) (n := ((n : Int)).toNat)
  have en : ((n : Int)).toNat = n := Int.toNat_natCast n
  by_cases hlt : i < n
  · refine .inr ⟨w.goes i H' (by omega) trivial, Pv (i + 1), fun ys'' σ'' H'' p' => ⟨n - (i + 1), by omega, rfl, hlt, p'⟩, fun x H'' y => ?_⟩
    obtain ⟨rfl, ex⟩ := w.yields i H' x H'' (by omega) trivial y
    have ez : x = .int (i : Int) := by rw [ex]; show V.int (0 + (i : Int)) = _; rw [Int.zero_add]
    rw [ez]
    exact hs i ys' σ' H'' hlt p
  · have e : i = n := by omega
    subst e
    exact .inl ⟨by show ((i : Int)).toNat ≤ i; rw [en]; exact Nat.le_refl _, hz ys' σ' H' p⟩
end
section
variable {P : Program} {w : World} {K : PySem.W.Frag} {mg : Str → Option Value} {base : Heap} {A : Ad} {D : Fd}
def sp_each_fall (K : PySem.W.Frag) (A : Ad) : SpG := fun vs H cont E => ∃ x, vs = [x] ∧ ((NoIns K H x ∧ Rai A.EInvalidDisk H E) ∨ ∃ p S W, x = .ref p ∧ DiskAt K A.Disk H p S W ∧ (4000 < prodL (vers S W) → RaF A.ETooMany "limit" (.int 4000) H E) ∧
  (prodL (vers S W) ≤ 4000 → ∀ out H', Ex H H' → cont out H'))
theorem ok_each_fall (T : Txt K mg A D) : GFn P w K mg base 41 A.each_fall D.each_fall ["disk"] (sp_each_fall K A) := by
  have G_falls_count := ok_falls_countX (P := P) (w := w) (base := base) T
  have G_versions_of := ok_versions_of (P := P) (w := w) (base := base) T
  have G_picked := ok_picked (P := P) (w := w) (base := base) T
  have G_made := ok_made (P := P) (w := w) (base := base) T
  have G_TooMany_init := ok_TooMany_init (P := P) (w := w) (base := base) T
  obtain ⟨t_MOST_FALLS, c_MOST_FALLS⟩ := T.c_MOST_FALLS
  refine fun_gen T.F_each_fall sc_each_fall (fun vs H Q E h => by obtain ⟨x, rfl, _⟩ := h; rfl) (fun cdv A0 outer s H vs Q E pn hr h => ?_)
  refine ⟨_, gss_cons (gs_ps (ps_set (i := 1) sc_each_fall.nd rfl (Or.inl rfl) (pe_call G_falls_count (hr.mono (by decide)) rfl T.g_falls_count T.F_falls_count.kp T.b_falls_count .nil (passes_call takes_gcx (fun _ _ _ _ z => z)) (pa_cons (pv 0) pa_nil))))
    (gss_cons (gs_ps (ps_if (pt_cmpR op_gt (pv 1) (pe_glob (v := .int (4000)) rfl c_MOST_FALLS ⟨_, rfl⟩) (nomark _)) (pss_one (ps_raise rfl takes_gcx (pmk_oexT T.e_TooMany.o T.e_TooMany.i T.e_TooMany.t G_TooMany_init (hr.mono (by decide)) T.b_TooMany_init .nil pass0 (by exact rfl) T.e_TooMany.g (pa_cons (pe_glob (v := .int (4000)) rfl c_MOST_FALLS ⟨_, rfl⟩) pa_nil)))) pss_nil))
      (gss_cons (gs_ps (ps_set (i := 2) sc_each_fall.nd rfl (Or.inl rfl) (pe_call G_versions_of (hr.mono (by decide)) rfl T.g_versions_of T.F_versions_of.kp T.b_versions_of .nil pass0 (pa_cons (pv 0) pa_nil))))
        (gss_cons (gs_for owns_gcx rfl (pi_range1 rfl T.b_range (pa_cons (pv 1) pa_nil)) (pg_name (i := 3) sc_each_fall.nd rfl (Or.inl rfl))
          (gss_cons (gs_yield (pe_call G_made (hr.mono (by decide)) rfl T.g_made T.F_made.kp T.b_made .nil pass0 (pa_cons (pe_call G_picked (hr.mono (by decide)) rfl T.g_picked T.F_picked.kp T.b_picked .nil pass0 (pa_cons (pv 2) (pa_cons (pv 3) pa_nil))) (pa_cons (pe_tup pa_nil) pa_nil)))) gss_nil)) gss_nil))), ?_⟩
  obtain ⟨x, rfl, h⟩ := h
  rcases h with ⟨hn, k⟩ | ⟨p, S, W, rfl, hD, k1, k2⟩
  · refine g_set (d_raw (n_cons (n_var rfl (n_nil ⟨x, rfl, .inl ⟨hn, k⟩⟩))))
  refine g_set (d_raw (n_cons (n_var rfl (n_nil ⟨.ref p, rfl, .inr ⟨p, S, W, rfl, hD, fun H1 e1 => ?_⟩⟩))))
  refine g_if (b := decide (4000 < prodL (vers S W))) (et_is (et_test (ev_op (ev_var rfl) ev_c rv_I0)) (decide_eq_decide.mpr (by omega))) (fun hb H2 e2 => ?_) fun hb H2 e2 => ?_
  · exact s_raiseO (D := ⟨fun _ _ => True, fun _ _ => True, fun _ _ => True, fun _ _ => True⟩) (W := fun cls d _ H => E cls d H) ev_c fun dd H4 e4 h4 => k1 (of_decide_eq_true hb) dd H4 ((e1.trans e2).trans e4) h4
  have hle : prodL (vers S W) ≤ 4000 := by have := of_decide_eq_false hb; omega
  have k := k2 hle
  have e02 := e1.trans e2
  have hD2 := hD.ex e02
  obtain ⟨_, ok⟩ := id hD2
  have vok : VOk S.length W.length (vers S W) := by
    have := vok_vers ok W.length (Nat.le_refl _)
    rwa [List.take_length] at this
  have hwl := ok.wl
  have hhi := ok.hi
  have hlo := ok.lo
  refine g_set (d_raw (n_cons (n_var rfl (n_nil ⟨p, S, W, rfl, hD2, fun L H3 e3 hL hV => ?_⟩))))
  refine g_rng (n := prodL (vers S W)) (ea_cons (ev_var rfl) ea_nil) (by omega) (fun i ys σ' H' => ys.length = i ∧ ∃ v3, σ' = [some (.ref p), some (.int (prodL (vers S W) : Nat)), some (.ref L), v3] ∧ Ex H3 H') (fun H4 e4 => ⟨rfl, none, rfl, e4⟩) (fun i ys σ' H' hi g => ?_) (fun ys σ' H' g => ?_)
  · obtain ⟨hy, v3, rfl, e4⟩ := g
    refine ⟨by rw [hy]; exact small1000' (by omega), ?_⟩
    refine d_raw (n_cons (d_raw (n_cons (n_var rfl (n_cons (n_var rfl (n_nil ⟨L, i, vers S W, rfl, hV.ex e4, fun ds hd => ?_, by rw [vok.len]; omega, fun v S' H5 e5 rv lS oS => n_cons (n_tup (n_nil ⟨sz_of (by simp), fun t ht => n_nil ?_⟩))⟩)))))))
    · obtain ⟨a, b, c⟩ := vok.ne ds hd
      exact ⟨a, by omega, c⟩
    have e6 := Ex.new (o := .tup []) ht
    have lS' : S'.length = S.length := by rw [lS, vok.len]
    exact ⟨v, .ref t, S', [], rfl, rv.ex e6, .tup (st_of upd_same) .nil, ⟨by omega, by omega, Nat.zero_le _, oS, fun q hq => by cases hq⟩, fun q H7 e7 hq => ⟨by rw [List.length_append, hy]; rfl, _, rfl, ((e4.trans e5).trans e6).trans e7⟩⟩
  · obtain ⟨hy, v3, rfl, e4⟩ := g
    exact k ys H' ((e02.trans e3).trans e4)
end
end K0

/-! ### a tuple times one: itself -/
namespace L2
open PySem PySem.Spec PyProof.Rows
theorem tuple_mulW1 (l : Addr) (items : Array Value) (n : Nat) (dd : Option Addr) (sl : Array (Option Value)) (u : Tok) :
    Meets (Builtin.«tuple.__mul__» ⟨[.ref l, .int 1 u], []⟩) (fun _ R s => s.heap.get? l = some { cls := .type "tuple", dict := dd, data := .seq items n, slots := sl } ∧
      R (.ok (.ret (Value.ref l))) s) :=
  .of_wp fun prog w A R s h => by
    obtain ⟨hp, g, d, tk, os⟩ := s
    obtain ⟨hl, h⟩ := h
    have f1 := AutoSeq1.idx_int
    wp_walk using wpAny_loadPart' hl
    exact ⟨_, rfl, h⟩
def rRepT1 (K : PySem.W.Frag) : R2 := fun x y H Q => ∃ l xs, x = .ref l ∧ y = .int 1 ∧ SqT K H l xs ∧ Q (.ref l) H
/-- (..) * k, k at least one -/
def rRepTA (K : PySem.W.Frag) : R2 := fun x y H Q => rRepT K x y H Q ∨ rRepT1 K x y H Q
theorem op_repTA {X : Cx} : OpR X (binaryOp .Mult) (rRepTA X.K) := by
  intro pins s σ H x y v u Q I rx ry h
  rcases h with h | ⟨l, xs, rfl, rfl, hT, q⟩
  · exact op_repT pins s σ H x y v u Q I rx ry h
  cases rx
  obtain ⟨t, rfl⟩ := ry
  obtain ⟨its, r, ⟨⟨cls, dd, data, sl⟩, ho, hc, n, hd⟩, hs⟩ := I.tuple hT
  simp only at hc hd
  subst hc hd
  refine wpAny_binaryOp_repeat_ref (T := "tuple") (U := "int") (by decide) ⟨_, ho, rfl⟩ (fun s' => typeIs_int s' 1 t) noFill_tuple_mul F.fills_int_mul F.slot_int_rmul repeat_tuple F.slot_int_index.lookup
    (call_meets F.slot_int_rmul (typeIs_int s 1 t) F.entry_int_rmul (F.args_int_rmul_2 _ _) (int_rmul_tuple 1 t l its.toArray n dd sl)
      ⟨ho, rfl, ⟨_, ho, rfl⟩, call_meets F.slot_tuple_mul ⟨_, ho, rfl⟩ F.entry_tuple_mul (F.args_tuple_mul_2 _ _) (tuple_mulW1 l its.toArray n dd sl t) ⟨ho, ?_⟩⟩)
  exact ⟨.ref l, H, I, rfl, q⟩
end L2

namespace K0
open PySem PySem.Spec PyProof.Rows L2 Evl
def eqD (S S' : List D) (W W' : List (Nat × D)) : Bool := PyData.eqv (D.tup S).py (D.tup S').py && PyData.eqv (D.tup (W.map prD)).py (D.tup (W'.map prD)).py
section
variable {K : PySem.W.Frag} {H : Hp} {d e : D} {x y : V} {ds : List D}
theorem rv_eqDq (hx : Rp K H x d) (hy : Rp K H y e) {n : Nat} (fd : d.fine n = true) (fe : e.fine n = true) (hn : n ≤ 64) : RV (rEqD K) x y H (.bl (PyData.eqv d.py e.py)) := fun H1 a Q q =>
  ⟨d.py, e.py, (hx.ex a).dp (fine_c fd), (hy.ex a).dp (fine_c fe), shaped_of fd hn, shaped_of fe hn, q H1 (Ex.refl _)⟩
theorem within1_nat {hi : Int} (h : d.within 1 hi = true) : ∃ n : Nat, d = .int (n : Int) ∧ 1 ≤ n ∧ (n : Int) ≤ hi := by
  cases d with
  | int i =>
    have h' := (Bool.and_eq_true_iff.mp (show (numB i && (decide (1 ≤ i) && decide (i ≤ hi))) = true from h)).2
    obtain ⟨h1, h2⟩ := Bool.and_eq_true_iff.mp h'
    have := of_decide_eq_true h1
    have := of_decide_eq_true h2
    exact ⟨i.toNat, by rw [Int.toNat_of_nonneg (by omega)], by omega, by omega⟩
  | _ => cases h
theorem ed_repA {σ : L2.St} {ta tb : TE} {d : D} {n : Nat} (h : EvD K ta σ H (.tup [d])) (hb : ∀ H1, Ex H H1 → Ev tb σ H1 (.int (n : Int))) (h1 : 1 ≤ n) (h2 : n ≤ 1000) : EvD K (tOp (rRepTA K) ta tb) σ H (.tup (List.replicate n d)) := fun H1 a Q q =>
  h H1 a _ fun v H2 b hv => hb H2 (a.trans b) H2 (Ex.refl _) _ fun H3 c => by
    obtain ⟨p, xs, rfl, sp, rp⟩ := (hv.ex c).tupI
    by_cases e : n = 1
    · subst e
      exact .inr ⟨p, xs, rfl, rfl, sp, q (.ref p) H3 (b.trans c) (.tup sp rp)⟩
    · cases rp with
      | cons r0 r1 =>
        cases r1
        rename_i u
        refine .inl ⟨p, (n : Int), [u], rfl, rfl, sp, by simp, by omega, by omega, by simp, fun t ht => ?_⟩
        rw [Int.toNat_natCast]
        have fl : ∀ m : Nat, (List.replicate m [u]).flatten = List.replicate m u := fun m => by
          induction m with
          | zero => rfl
          | succ m ih => rw [List.replicate_succ, List.flatten_cons, ih]; rfl
        have rr : ∀ m : Nat, RpAll K H3 (List.replicate m u) (List.replicate m d) := fun m => by
          induction m with
          | zero => exact .nil
          | succ m ih => exact .cons r0 ih
        rw [fl]
        exact q _ _ ((b.trans c).trans (Ex.new ht)) (.tup (st_of upd_same) ((rr n).ex (Ex.new ht)))
end
section
variable {P : Program} {w : World} {K : PySem.W.Frag} {mg : Str → Option Value} {base : Heap} {A : Ad} {D : Fd}
def sp_Disk_emptyX (K : PySem.W.Frag) (A : Ad) : Sp := fun vs H Q E => ∃ x d, vs = [.ref A.Disk, x] ∧ Rp K H x d ∧ (d.within 1 200 = false → RaF A.EInvalidNumber "given" x H E) ∧ (∀ n : Nat, d = .int (n : Int) → 1 ≤ n → n ≤ 200 → RetDisk K A.Disk (List.replicate n .non) [] H Q)
theorem ok_Disk_emptyX (T : Txt K mg A D) : FnOk P w K mg base (L2.CX P w) 25 A.Disk_empty D.Disk_empty ["cls", "many"] (sp_Disk_emptyX K A) := by
  have G_check_number := ok_check_numberX (P := P) (w := w) (base := base) T
  have G_made := ok_made (P := P) (w := w) (base := base) T
  obtain ⟨t_MAX_BLOCKS, c_MAX_BLOCKS⟩ := T.c_MAX_BLOCKS
  refine T.F_Disk_empty.okX sc_Disk_empty (fun vs H Q E h => by obtain ⟨x, d, rfl, _⟩ := h; rfl) (fun cdv A0 outer s H vs Q E hr h => ?_)
  refine ⟨_, (pss_cons (ps_expr (pe_call G_check_number (hr.mono (by decide)) rfl T.g_check_number T.F_check_number.kp T.b_check_number .nil (passes_call (takes_of rfl rfl rfl rfl) (fun _ _ _ _ z => z)) (pa_cons (pv 1) (pa_cons pe_int (pa_cons (pe_glob (v := .int (200)) rfl c_MAX_BLOCKS ⟨_, rfl⟩) pa_nil)))))
  (pss_one (ps_ret (pe_call G_made (hr.mono (by decide)) rfl T.g_made T.F_made.kp T.b_made .nil pass0 (pa_cons (pe_op op_repTA (pe_tup (pa_cons pe_non pa_nil)) (pv 1)) (pa_cons (pe_tup pa_nil) pa_nil)))))), ?_⟩
  obtain ⟨x, d, rfl, hx, k1, k2⟩ := h
  refine q_callX (ea_cons (ev_var rfl) (ea_cons ev_c (ea_cons ev_c ea_nil))) fun H1 e1 => ⟨x, d, 1, 200, rfl, hx.ex e1, fun hw H2 e2 => ?_, fun hw => (k1 hw).ex e1⟩
  obtain ⟨n, rfl, n1, n2⟩ := within1_nat hw
  cases hx
  have e02 := e1.trans e2
  refine n_ret (d_call (K := K) (eda_cons (ed_repA (n := n) (d := .non) (ed_tup (eda_cons ed_non eda_nil) (by simp)) (fun _ _ => ev_var rfl) n1 (by omega)) (eda_cons (ed_tup eda_nil (by simp)) eda_nil)) fun vs H3 e3 r => ?_)
  cases r with
  | cons r1 r =>
    cases r with
    | cons r2 r =>
      cases r
      exact ⟨_, _, List.replicate n .non, [], rfl, r1, r2, ⟨by rw [List.length_replicate]; exact n1, by rw [List.length_replicate]; omega, Nat.zero_le _, fun d hd => by rw [List.eq_of_mem_replicate hd]; exact bk_non, fun q hq => by cases hq⟩, fun q H4 e4 hq => k2 n rfl n1 (by omega) q H4 ((e02.trans e3).trans e4) hq⟩
/-- == of two disks -/
def sp_Disk_eq (K : PySem.W.Frag) (A : Ad) : Sp := fun vs H Q _ => ∃ p S W q S' W', vs = [.ref p, .ref q] ∧ DiskAt K A.Disk H p S W ∧ DiskAt K A.Disk H q S' W' ∧ RetV (.bl (eqD S S' W W')) H Q
theorem len_Disk_eq {vs : List V} {H : Hp} {Q : VK} {E : XK} (h : sp_Disk_eq K A vs H Q E) : vs.length = 2 := by
  obtain ⟨p, S, W, q, S', W', rfl, _⟩ := h
  rfl
theorem ok_Disk_eq (T : Txt K mg A D) : FnOk P w K mg base CX0 1 A.Disk_eq D.Disk_eq ["self", "other"] (sp_Disk_eq K A) := by
  refine T.F_Disk_eq.ok sc_Disk_eq (fun vs H Q E h => len_Disk_eq h) (fun cdv A0 outer s H vs Q E hr h => ?_)
  refine ⟨_, (pss_one (ps_ret (pe_and (pe_callB call_isi (by rfl) T.b_isinstance (by decide +kernel) (pa_cons (pv 1) (pa_cons (pe_glob (v := .ref A.Disk) rfl T.g_Disk rfl) pa_nil))) (pe_and (pe_cmpR (op_eqD hr.units) (pe_fld (pv 0) (by rfl)) (pe_fld (pv 1) (by rfl)) (nomark _)) (pe_one (pe_cmpR (op_eqD hr.units) (pe_fld (pv 0) (by rfl)) (pe_fld (pv 1) (by rfl)) (nomark _))))))), ?_⟩
  obtain ⟨p, S, W, q, S', W', rfl, ⟨⟨dx, a, b, hp, ha, hb⟩, ok⟩, ⟨⟨dy, a', b', hq, ha', hb'⟩, ok'⟩, k⟩ := h
  refine s_ret (ev_is (ev_andV (a := true) (b := eqD S S' W W') (ev_cb (ea_cons (ev_var rfl) (ea_cons ev_c ea_nil)) (rc_kitI (P := fun _ => True) (n := "") (b := true) T.ob_Disk T.cl_Disk hq)) fun _ => ?_) (congrArg V.bl (Bool.true_and _))) fun H1 e1 => k H1 e1
  refine ev_andV (ev_op (ev_fld (ev_var rfl) hp T.cl_Disk T.no_Disk_sure (look_s _ _)) (ev_fld (ev_var rfl) hq T.cl_Disk T.no_Disk_sure (look_s _ _)) (rv_eqDq ha ha' ok.fs ok'.fs (by decide))) fun _ => ?_
  exact ev_op (ev_fld (ev_var rfl) hp T.cl_Disk T.no_Disk_waiting (look_w _ _)) (ev_fld (ev_var rfl) hq T.cl_Disk T.no_Disk_waiting (look_w _ _)) (rv_eqDq hb hb' ok.fw ok'.fw (by decide))
end
/-! ### disks as values -/
def EvK (K : PySem.W.Frag) (C : Addr) (te : TE) (σ : L2.St) (H : Hp) (S : List K0.D) (W : List (Nat × K0.D)) : Prop := ∀ H1, Ex H H1 → ∀ Q : VK, (∀ q H2, Ex H1 H2 → DiskAt K C H2 q S W → Q (.ref q) H2) → te σ H1 Q
section
variable {K : PySem.W.Frag} {σ : L2.St} {H : Hp} {ta tb : TE} {tr : TA} {C p : Addr} {S S' : List K0.D} {W W' : List (Nat × K0.D)} {A : Ad} {E : XK} {m : Str} {sp : Sp}
theorem ek_ev {te : TE} (h : Ev te σ H (.ref p)) (d : DiskAt K C H p S W) : EvK K C te σ H S W := fun H1 e Q q => h H1 e Q fun H2 e2 => q p H2 e2 (d.ex (e.trans e2))
theorem ek_methA {ds : List K0.D} (h : EvK K C ta σ H S W) (l : ∀ x y : V, ([("_sure", x), ("_waiting", y)] : List (Str × V)).lookup m = none) (ha : EvDA K tr σ H ds) (k : ∀ p vs H1, Ex H H1 → DiskAt K C H1 p S W → RpAll K H1 vs ds → ∀ Q : VK, RetDisk K C S' W' H1 Q → sp (.ref p :: vs) H1 Q E) :
    EvK K C (tMeth C m sp [] E ta tr) σ H S' W' := fun H1 e Q q => h H1 e _ fun p H2 e2 d => by
  obtain ⟨⟨dx, a, b, hp, _⟩, _⟩ := id d
  refine ⟨p, dx, _, rfl, hp, l _ _, ha H2 (e.trans e2) _ fun vs H3 e3 r => ?_⟩
  show sp (.ref p :: (vs ++ [])) H3 Q E
  rw [List.append_nil]
  exact k p vs H3 ((e.trans e2).trans e3) (d.ex e3) r Q fun r H4 e4 d4 => q r H4 ((e2.trans e3).trans e4) d4
theorem ek_prop {d' : K0.D} (h : EvK K C ta σ H S W) (k : ∀ p H1, Ex H H1 → DiskAt K C H1 p S W → ∀ Q : VK, RetR K d' H1 Q → sp [.ref p] H1 Q E) : EvD K (tProp C sp [] E ta) σ H d' := fun H1 e Q q => h H1 e _ fun p H2 e2 d => by
  obtain ⟨⟨dx, a, b, hp, _⟩, _⟩ := id d
  exact ⟨p, dx, _, rfl, hp, k p H2 (e.trans e2) d Q fun v H4 e4 d4 => q v H4 (e2.trans e4) d4⟩
theorem ev_eqO (h1 : EvK K A.Disk ta σ H S W) (h2 : EvK K A.Disk tb σ H S' W') : Ev (tOp (rEqO K A.Disk (sp_Disk_eq K A) E) ta tb) σ H (.bl (eqD S S' W W')) := fun H1 e Q q =>
  h1 H1 e _ fun p H2 e2 d => h2 H2 (e.trans e2) _ fun r H3 e3 d' => by
    obtain ⟨⟨dx, a, b, hp, _⟩, _⟩ := id (d.ex e3)
    obtain ⟨⟨dy, a', b', hr, _⟩, _⟩ := id d'
    exact ⟨p, dx, _, rfl, hp, .inr (.inl ⟨r, dy, _, rfl, hr⟩), p, S, W, r, S', W', rfl, d.ex e3, d', fun H4 e4 => ⟨_, rfl, q H4 ((e2.trans e3).trans e4)⟩⟩
/-- len(..) of data that is a tuple -/
theorem ev_lenD {te : TE} {ds : List K0.D} (h : EvD K te σ H (.tup ds)) : Ev (tCB (fun xs H Q => ∃ x n, xs = [x] ∧ LenV K x H n ∧ Q (.int n) H) (tCons te tNil)) σ H (.int (ds.length : Nat)) := fun H1 e Q q =>
  h H1 e _ fun v H2 e2 hv => by
    obtain ⟨p, xs, rfl, sp, rp⟩ := hv.tupI
    exact rc_lenT sp H2 (Ex.refl _) Q fun H3 e3 => by rw [rp.len]; exact q H3 (e2.trans e3)
end
theorem look_m {m : Str} (h1 : (m == ("_sure" : Str)) = false) (h2 : (m == ("_waiting" : Str)) = false) : ∀ x y : V, ([("_sure", x), ("_waiting", y)] : List (Str × V)).lookup m = none := fun x y => look_no x y h1 h2
section
variable {P : Program} {w : World} {K : PySem.W.Frag} {mg : Str → Option Value} {base : Heap} {A : Ad} {D : Fd}
def IsDisk (K : PySem.W.Frag) (A : Ad) (H : Hp) (x : V) : Prop := ∃ p S W, x = .ref p ∧ DiskAt K A.Disk H p S W
theorem IsDisk.ex {H H' : Hp} {x : V} (e : Ex H H') (h : IsDisk K A H x) : IsDisk K A H' x := let ⟨p, S, W, r, d⟩ := h; ⟨p, S, W, r, d.ex e⟩
/-- fall_paper where one is no disk -/
def sp_fall_paperX (K : PySem.W.Frag) (A : Ad) : Sp := fun vs H Q E => ∃ x y, vs = [x, y] ∧ (NoIns K H x ∨ (IsDisk K A H x ∧ NoIns K H y)) ∧ Rai A.EInvalidDisk H E
theorem ok_fall_paperX (T : Txt K mg A D) : FnOk P w K mg base (L2.CX P w) 30 A.fall_paper D.fall_paper ["disk", "other"] (sp_fall_paperX K A) := by
  have G_check_disk := ok_check_diskX (P := P) (w := w) (base := base) T
  refine T.F_fall_paper.okX sc_fall_paper (fun vs H Q E h => by obtain ⟨x, y, rfl, _⟩ := h; rfl) (fun cdv A0 outer s H vs Q E hr h => ?_)
  refine ⟨_, pss_cons (ps_expr (pe_call G_check_disk (hr.mono (by decide)) rfl T.g_check_disk T.F_check_disk.kp T.b_check_disk .nil (passes_call (takes_of rfl rfl rfl rfl) (fun _ _ _ _ z => z)) (pa_cons (pv 0) pa_nil)))
    (pss_cons (ps_expr (pe_call G_check_disk (hr.mono (by decide)) rfl T.g_check_disk T.F_check_disk.kp T.b_check_disk .nil (passes_call (takes_of rfl rfl rfl rfl) (fun _ _ _ _ z => z)) (pa_cons (pv 1) pa_nil))) (pss_cons ps_never (pss_cons ps_never (pss_cons ps_never (pss_one ps_never))))), ?_⟩
  obtain ⟨x, y, rfl, h, k⟩ := h
  rcases h with hn | ⟨⟨p, S, W, rfl, hD⟩, hn⟩
  · exact q_callX (ea_cons (ev_var rfl) ea_nil) fun H1 e1 => ⟨x, rfl, .inl ⟨hn.ex e1, k.ex e1⟩⟩
  · exact q_callX (ea_cons (ev_var rfl) ea_nil) fun H1 e1 => ⟨.ref p, rfl, .inr ⟨⟨p, S, W, rfl, hD.ex e1⟩, fun H2 e2 => q_callX (ea_cons (ev_var rfl) ea_nil) fun H3 e3 => ⟨y, rfl, .inl ⟨hn.ex ((e1.trans e2).trans e3), k.ex ((e1.trans e2).trans e3)⟩⟩⟩⟩
def sp_is_fall_paperX (K : PySem.W.Frag) (A : Ad) : Sp := fun vs H Q E => ∃ x y z d, vs = [x, y, z] ∧ Rp K H z d ∧ d.small ∧ (((NoIns K H x ∨ (IsDisk K A H x ∧ NoIns K H y)) ∧ Rai A.EInvalidDisk H E) ∨
  ∃ p S W q S' W', x = .ref p ∧ y = .ref q ∧ DiskAt K A.Disk H p S W ∧ DiskAt K A.Disk H q S' W' ∧ (d.indices (W.length : Int) = false ∨ (d = .tup [] ∧ W' ≠ [])) ∧ RetV (.bl false) H Q)
theorem ok_is_fall_paperX (T : Txt K mg A D) : FnOk P w K mg base (L2.CX P w) 40 A.is_fall_paper D.is_fall_paper ["disk", "other", "value"] (sp_is_fall_paperX K A) := by
  have G_check_disk := ok_check_diskX (P := P) (w := w) (base := base) T
  have G_are_indices := ok_are_indices (P := P) (w := w) (base := base) T
  have G_Disk_fallen := ok_Disk_fallenX (P := P) (w := w) (base := base) T
  have G_Disk_waiting := ok_Disk_waiting (P := P) (w := w) (base := base) T
  have G_Disk_eq := ok_Disk_eq (P := P) (w := w) (base := base) T
  obtain ⟨_, hp_Disk_waiting⟩ := T.p_Disk_waiting
  refine T.F_is_fall_paper.okX sc_is_fall_paper (fun vs H Q E h => by obtain ⟨x, y, z, d, rfl, _⟩ := h; rfl) (fun cdv A0 outer s H vs Q E hr h => ?_)
  refine ⟨_, (pss_cons (ps_expr (pe_call G_check_disk (hr.mono (by decide)) rfl T.g_check_disk T.F_check_disk.kp T.b_check_disk .nil (passes_call (takes_of rfl rfl rfl rfl) (fun _ _ _ _ z => z)) (pa_cons (pv 0) pa_nil)))
  (pss_cons (ps_expr (pe_call G_check_disk (hr.mono (by decide)) rfl T.g_check_disk T.F_check_disk.kp T.b_check_disk .nil (passes_call (takes_of rfl rfl rfl rfl) (fun _ _ _ _ z => z)) (pa_cons (pv 1) pa_nil)))
  (pss_one (ps_ret (pe_and (pe_call G_are_indices (hr.mono (by decide)) rfl T.g_are_indices T.F_are_indices.kp T.b_are_indices .nil pass0 (pa_cons (pv 2) (pa_cons (pe_callB call_len (by rfl) T.b_len (by decide +kernel) (pa_cons (pe_prop (pv 0) T.cl_Disk hp_Disk_waiting G_Disk_waiting (hr.mono (by decide)) T.b_Disk_waiting .nil pass0 (by rfl)) pa_nil)) pa_nil))) (pe_one (pe_cmpR (op_eqO G_Disk_eq (hr.mono (by decide)) T.b_Disk_eq pass0 T.m_Disk_eq.at_ T.m_Disk_eq.fn T.fNoneType_Disk T.ftuple_Disk) (pe_meth (pv 0) T.cl_Disk T.m_Disk_fallen G_Disk_fallen (hr.mono (by decide)) T.b_Disk_fallen .nil (passes_call (takes_of rfl rfl rfl rfl) (fun _ _ _ _ z => z)) (pa_cons (pv 2) pa_nil)) (pv 1) (nomark _)))))))), ?_⟩
  obtain ⟨x, y, z, d, rfl, hz, hsm, h⟩ := h
  rcases h with ⟨h, k⟩ | ⟨p, S, W, q, S', W', rfl, rfl, hD, hD', hh, k⟩
  · rcases h with hn | ⟨⟨p, S, W, rfl, hD⟩, hn⟩
    · exact q_callX (ea_cons (ev_var rfl) ea_nil) fun H1 e1 => ⟨x, rfl, .inl ⟨hn.ex e1, k.ex e1⟩⟩
    · exact q_callX (ea_cons (ev_var rfl) ea_nil) fun H1 e1 => ⟨.ref p, rfl, .inr ⟨⟨p, S, W, rfl, hD.ex e1⟩, fun H2 e2 => q_callX (ea_cons (ev_var rfl) ea_nil) fun H3 e3 => ⟨y, rfl, .inl ⟨hn.ex ((e1.trans e2).trans e3), k.ex ((e1.trans e2).trans e3)⟩⟩⟩⟩
  refine q_callX (ea_cons (ev_var rfl) ea_nil) fun H1 e1 => ⟨.ref p, rfl, .inr ⟨⟨p, S, W, rfl, hD.ex e1⟩, fun H2 e2 => q_callX (ea_cons (ev_var rfl) ea_nil) fun H3 e3 => ⟨.ref q, rfl, .inr ⟨⟨q, S', W', rfl, hD'.ex ((e1.trans e2).trans e3)⟩, fun H4 e4 => ?_⟩⟩⟩⟩
  have e04 := ((e1.trans e2).trans e3).trans e4
  have eW : Ev _ (L2.start N_is_fall_paper [V.ref p, V.ref q, z]) H4 _ := ev_lenD (ek_prop (K := K) (C := A.Disk) (E := E0) (ek_ev (ev_var (σ := L2.start N_is_fall_paper [V.ref p, V.ref q, z]) (i := 0) rfl) (hD.ex e04)) (sp := sp_Disk_waiting K A) (d' := .tup (W.map prD)) fun p H1 e d Q q => ⟨p, S, W, rfl, d, q⟩)
  rw [List.length_map] at eW
  rcases hh with hbad | ⟨rfl, hW⟩
  · refine s_ret (ev_is (ev_andV (a := false) (b := false) (ev_call (ea_cons (ev_var rfl) (ea_cons eW ea_nil)) (by rw [← hbad]; exact sv_indices (hz.ex e04) hsm)) (fun z => by cases z)) rfl) fun H5 e5 => k H5 (e04.trans e5)
  · refine s_ret (ev_is (ev_andV (a := true) (b := false) (ev_call (ea_cons (ev_var rfl) (ea_cons eW ea_nil)) (by have := sv_indices (m := (W.length : Int)) (hz.ex e04) hsm; exact this)) fun _ => ?_) rfl) fun H5 e5 => k H5 (e04.trans e5)
    have hq : eqD (rd S (pickW W [])) S' [] W' = false := by
      cases W' with
      | nil => exact absurd rfl hW
      | cons a W' =>
        unfold eqD
        exact Bool.and_eq_false_iff.mpr (.inr rfl)
    rw [← hq]
    exact ev_eqO (ek_methA (ek_ev (ev_var rfl) (hD.ex e04)) (look_m rfl rfl) (eda_cons (ed_ev (ev_var rfl) (hz.ex e04)) eda_nil) fun p' vs H1 e d r Q q => by
      cases r with
      | cons r1 r =>
        cases r
        exact ⟨p', S, W, _, _, rfl, d, r1, hsm, .inr ⟨[], rfl, Nat.zero_le _, (fun i hi => by cases hi), rfl, q⟩⟩) (ek_ev (ev_var rfl) (hD'.ex e04))
end
end K0

namespace K0
open PySem L2 Evl LamX
/-! ### _law_fault of k14 -/
def numW (d : D) : Str := "number " ++ d.rep
def manyW (d : D) : Str := "many " ++ d.rep
def EK14 (K : PySem.W.Frag) (A : Ad) : EKT := fun r cls dd H => (cls = .ref A.EInvalidDisk ∧ r = wordsD "refused" "disk") ∨ (cls = .ref A.EInvalidBlock ∧ r = wordsD "refused" "block") ∨ (cls = .ref A.EInvalidOperation ∧ r = wordsD "refused" "operation") ∨
  (cls = .ref A.EInvalidNumber ∧ ∃ b v d, dd = some b ∧ H b = some (.xd [("given", v)]) ∧ Rp K H v d ∧ d.repOk = true ∧ d.rep.length ≤ 20000 ∧ r = wordsD "refused" (numW d)) ∨
  (cls = .ref A.ETooMany ∧ ∃ b v d, dd = some b ∧ H b = some (.xd [("limit", v)]) ∧ Rp K H v d ∧ d.repOk = true ∧ d.rep.length ≤ 20000 ∧ r = wordsD "refused" (manyW d))
abbrev fineF : K0.D := wordsD "let" ""
def TFF : Hp → VK → Prop := fun H Q => tTup (tCons (tC (.str "let")) (tCons (tC (.str "")) tNil)) ([] : L2.St) H Q
theorem tff {K : PySem.W.Frag} (H : Hp) (Q : VK) (k : RetR K fineF H Q) : TFF H Q := (ed_tup (K := K) (ds := [.str "let", .str ""]) (eda_cons (ed_ev ev_c (.str _)) (eda_cons (ed_ev ev_c (.str _)) eda_nil)) (by simp)) H (Ex.refl _) Q k
abbrev tWordR (z : Str) : TS := tRet (tTup (tCons (tC (.str "refused")) (tCons (tC (.str z)) tNil)))
def rAddSt : R2 := fun x y H Q => ∃ i j, x = .str i ∧ y = .str j ∧ i.length + j.length ≤ sizeLine ∧ Q (.str (i ++ j)) H
abbrev tRepR (K : PySem.W.Frag) (z : Str) (C : Addr) (f : Str) (a : Addr) (cls : Value) (d : Option Addr) : TS := tRet (tTup (tCons (tC (.str "refused")) (tCons (tOp rAddSt (tC (.str z)) (tCB (rReprD K) (tCons (tXf a cls d C f (tVar 1)) tNil))) tNil)))
section
variable {K : PySem.W.Frag} {σ : L2.St} {H : Hp}
theorem s_word {z : Str} {D : Ends} (k : RetR K (wordsD "refused" z) H D.rt) : tWordR z D σ H := (ed_tup (K := K) (ds := [.str "refused", .str z]) (eda_cons ed_str (eda_cons ed_str eda_nil)) (by simp)) H (Ex.refl _) _ k
theorem s_rep {z f : Str} {C a b : Addr} {v : V} {d : K0.D} {D : Ends} (h1 : σ[1]? = some (some (.ref a))) (hb : H b = some (.xd [(f, v)])) (hv : Rp K H v d) (ok : d.repOk = true) (l : d.rep.length ≤ 20000) (lz : z.length ≤ 100) (hf : (f == f) = true)
    (k : RetR K (wordsD "refused" (z ++ d.rep)) H D.rt) : tRepR K z C f a (.ref C) (some b) D σ H := by
  have hx : Ev (tCB (rReprD K) (tCons (tXf a (.ref C) (some b) C f (tVar 1)) tNil)) σ H (.str d.rep) := fun H1 e1 Q1 q1 =>
    n_cons (n_var h1 ⟨rfl, rfl, b, [(f, v)], v, rfl, e1 _ _ hb, by rw [List.lookup_cons, hf], n_nil ⟨v, d, rfl, hv.ex e1, ok, q1 H1 (Ex.refl _)⟩⟩)
  exact (ed_tup (K := K) (ds := [.str "refused", .str (z ++ d.rep)]) (eda_cons ed_str (eda_cons (ed_ev (v := .str (z ++ d.rep)) (ev_op ev_c hx (rv_addS (by omega))) (.str _)) eda_nil)) (by simp)) H (Ex.refl _) _ k
end
section
variable {A : Ad} {D : Fd} {X : Cx}
theorem met_gives (T : Txt X.K X.mg A D) (gd : X.A.guards = some []) {kk : Nat} (hr : Room kk X.A) {q : Str} {cdg : Value} : GivesTo X N_law_fault "_law_fault" (defScope s_law_fault) A.law_fault cdg (defBody s_law_fault) "call" q (TMG X.K (EK14 X.K A) TFF) := by
  intro f c' s H Q tl act hc h
  have hu := hr.un
  refine ⟨_, pss_cons (ps_clauses (X := (cxOf C8.CX0 X.prog X.w X.K X.mg X.base N_law_fault "_law_fault" (defScope s_law_fault) A.law_fault cdg X.A X.stack s H C8.E0).nox) (Wz := fun _ _ _ _ => False)
      (l := [⟨.ref A.EInvalidDisk, none, fun _ _ _ => tWordR "disk"⟩, ⟨.ref A.EInvalidBlock, none, fun _ _ _ => tWordR "block"⟩, ⟨.ref A.EInvalidOperation, none, fun _ _ _ => tWordR "operation"⟩, ⟨.ref A.EInvalidNumber, some 1, fun a cls d => tRepR X.K "number " A.EInvalidNumber "given" a cls d⟩, ⟨.ref A.ETooMany, some 1, fun a cls d => tRepR X.K "many " A.ETooMany "limit" a cls d⟩])
      (tb := fun W D σ H => ∃ Ech : XK, (∀ cls d σ' H', Ech cls d H' → W cls d σ' H') ∧ σ[0]? = some (some (.ref f)) ∧ H c' = some (CodeO c' q) ∧ tl Ech H (fun _ H' => D.nx σ H'))
      rfl rfl LamX.takes0 (fun W pn xe tk _ => ?_)
      (.bare ⟨rfl, rfl, .inl T.e_InvalidDisk.g⟩ (fun _ _ _ _ _ _ _ => pss_one (ps_ret (pe_tup (pa_cons pe_str (pa_cons pe_str pa_nil)))))
        (.bare ⟨rfl, rfl, .inl T.e_InvalidBlock.g⟩ (fun _ _ _ _ _ _ _ => pss_one (ps_ret (pe_tup (pa_cons pe_str (pa_cons pe_str pa_nil)))))
        (.bare ⟨rfl, rfl, .inl T.e_InvalidOperation.g⟩ (fun _ _ _ _ _ _ _ => pss_one (ps_ret (pe_tup (pa_cons pe_str (pa_cons pe_str pa_nil)))))
          (.named ⟨rfl, rfl, .inl T.e_InvalidNumber.g⟩ sc_law_fault.nd rfl rfl (fun a oe cls d pn hz hf => pss_one (ps_ret (pe_tup (pa_cons pe_str (pa_cons (pe_op op_add_str pe_str (pe_callB (cr_reprD gd (by show X.A.units + 3 + 64 < cLine; omega)) (by rfl) T.b_repr (by decide +kernel) (pa_cons (pe_xf T.e_InvalidNumber.x T.n_InvalidNumbergiven hz hf (pv 1)) pa_nil))) pa_nil)))))
            (.named ⟨rfl, rfl, .inl T.e_TooMany.g⟩ sc_law_fault.nd rfl rfl (fun a oe cls d pn hz hf => pss_one (ps_ret (pe_tup (pa_cons pe_str (pa_cons (pe_op op_add_str pe_str (pe_callB (cr_reprD gd (by show X.A.units + 3 + 64 < cLine; omega)) (by rfl) T.b_repr (by decide +kernel) (pa_cons (pe_xf T.e_TooMany.x T.n_TooManylimit hz hf (pv 1)) pa_nil))) pa_nil))))) .nil))))))
      (pss_one (ps_ret (pe_tup (pa_cons pe_str (pa_cons pe_str pa_nil))))), ?_⟩
  · refine pss_one ⟨fun pins s' σ H' D I h' => ?_⟩
    obtain ⟨Ech, hW, h1, h2, h3⟩ := h'
    exact (ps_expr (act W pn xe Ech _ _ tk hW)).run pins s' σ H' D I ⟨h1, h2, h3⟩
  · refine ⟨fun cls dd H' => ∃ r, EK14 X.K A r cls dd H' ∧ RetR X.K r H' Q, fun cls d σ' H' z => ?_, rfl, hc, ?_⟩
    · obtain ⟨r, ek, k⟩ := z
      have at1 : ∀ {a : Addr} {τ : L2.St}, τ.length = N_law_fault.length → (τ.set 1 (some (V.ref a)))[1]? = some (some (V.ref a)) := fun hl => by
        rw [List.getElem?_set_self (by rw [hl]; exact (by decide : 1 < N_law_fault.length))]
      rcases ek with ⟨rfl, rfl⟩ | ⟨rfl, rfl⟩ | ⟨rfl, rfl⟩ | ⟨rfl, b, v, dv, rfl, hb, hv, ok, l, rfl⟩ | ⟨rfl, b, v, dv, rfl, hb, hv, ok, l, rfl⟩
      · exact ⟨true, T.m_InvalidDisk_InvalidDisk, fun _ a _ _ => s_word (σ := σ') k, fun z => by cases z⟩
      · exact ⟨false, T.m_InvalidBlock_InvalidDisk, (fun z => by cases z), fun _ => ⟨true, T.m_InvalidBlock_InvalidBlock, fun _ a _ _ => s_word (σ := σ') k, fun z => by cases z⟩⟩
      · exact ⟨false, T.m_InvalidOperation_InvalidDisk, (fun z => by cases z), fun _ => ⟨false, T.m_InvalidOperation_InvalidBlock, (fun z => by cases z), fun _ => ⟨true, T.m_InvalidOperation_InvalidOperation, fun _ a _ _ => s_word (σ := σ') k, fun z => by cases z⟩⟩⟩
      · exact ⟨false, T.m_InvalidNumber_InvalidDisk, (fun z => by cases z), fun _ => ⟨false, T.m_InvalidNumber_InvalidBlock, (fun z => by cases z), fun _ => ⟨false, T.m_InvalidNumber_InvalidOperation, (fun z => by cases z), fun _ => ⟨true, T.m_InvalidNumber_InvalidNumber, fun _ a na hl => s_rep (at1 hl) hb hv ok l (by decide) (by decide +kernel) k, fun z => by cases z⟩⟩⟩⟩
      · exact ⟨false, T.m_TooMany_InvalidDisk, (fun z => by cases z), fun _ => ⟨false, T.m_TooMany_InvalidBlock, (fun z => by cases z), fun _ => ⟨false, T.m_TooMany_InvalidOperation, (fun z => by cases z), fun _ => ⟨false, T.m_TooMany_InvalidNumber, (fun z => by cases z), fun _ => ⟨true, T.m_TooMany_TooMany, fun _ a na hl => s_rep (at1 hl) hb hv ok l (by decide) (by decide +kernel) k, fun z => by cases z⟩⟩⟩⟩⟩
    · exact h
end
end K0

namespace K0
open PySem PySem.Spec PyProof.Rows L2 Evl LamX
/-! ### k14: what is drawn, and its facts -/
def OddQ (f : D → Bool) (K : PySem.W.Frag) (H : Hp) (v : V) : Prop := ∃ d, Rp K H v d ∧ f d = true
theorem mOddQ {f : D → Bool} {K : PySem.W.Frag} : MonoN (OddQ f K) := ⟨fun e ⟨d, r, s⟩ => ⟨d, r.extN e, s⟩⟩
def numOk (lo hi : Int) (d : D) : Bool := !d.within lo hi && (d.repOk && (decide (d.rep.length ≤ 100) && (wordsD "refused" (numW d)).fine 2))
theorem numOk_ok {lo hi : Int} {d : D} (h : numOk lo hi d = true) : d.within lo hi = false ∧ d.repOk = true ∧ d.rep.length ≤ 100 ∧ (wordsD "refused" (numW d)).fine 2 = true := by
  unfold numOk at h
  simp only [Bool.and_eq_true, Bool.not_eq_true', decide_eq_true_eq] at h
  exact ⟨h.1, h.2.1, h.2.2.1, h.2.2.2⟩
theorem rep_sizeL (d : D) : ∀ n, D.sizeL (List.replicate n d) = n * d.size
  | 0 => by rw [Nat.zero_mul]; rfl
  | n + 1 => by
    rw [List.replicate_succ, Nat.succ_mul]
    show d.size + D.sizeL (List.replicate n d) = _
    rw [rep_sizeL d n]
    omega
section
variable {K : PySem.W.Frag} {σ : L2.St} {H H' : Hp} {ta tb te : TE} {tr : TA} {x y z v : V} {d e : K0.D} {ds es : List K0.D} {N : Hp → V → Prop} {a p : Addr} {o : Option Addr}
theorem rp_off (c : d.clean = true) (hd : DiceAt H a) (h : Rp K H v d) : RpO K (some a) d H v := h.exT c (exT_hid hd.hidL)
theorem h_of (c : d.clean = true) (hd : DiceAt H a) (h : EvD K te σ H d) : EvH K (some a) te σ H d := fun H1 e Q q => h H1 e Q fun v H2 e2 r => q v H2 e2 (rp_off c (hd.ex (e.trans e2)) r)
theorem hid_back {b : Addr} {xs : List V} (h : SqT K (hid o H) b xs) : SqT K H b xs := ex_t hid_le h
/-- list(t) of a tuple -/
theorem h_listOf (al : Al o H) (h : EvD K te σ H (.tup ds)) : EvH K o (tCB (rListS K) (tCons te tNil)) σ H .oth := fun H1 e Q q => n_cons (h H1 e _ fun v H2 e2 hv => by
  obtain ⟨p, xs, rfl, hp, _⟩ := hv.tupI
  exact n_nil ⟨p, xs, rfl, .inr hp, fun l hl => q (.ref l) _ (e2.trans (Ex.new hl)) (.lst (hidO_at upd_same ((al.ex (e.trans e2)).ne hl)))⟩)
/-- [x], x any value -/
theorem h_lstV (al : Al o H) (h : Ev te σ H v) : EvH K o (tLst (tCons te tNil)) σ H .oth := fun H1 e Q q => n_cons (h H1 e _ fun H2 e2 => n_nil ⟨sz_of (by simp), fun p hp => q (.ref p) _ (e2.trans (Ex.new hp)) (.lst (hidO_at upd_same ((al.ex (e.trans e2)).ne hp)))⟩)
theorem h_cat (al : Al o H) (h1 : EvH K o ta σ H (.tup ds)) (h2 : EvH K o tb σ H (.tup es)) (l : ds.length + es.length ≤ 100000) : EvH K o (tOp (rCatA K) ta tb) σ H (.tup (ds ++ es)) := fun H1 e Q q =>
  h1 H1 e _ fun v H2 b hv => h2 H2 (e.trans b) _ fun w H3 c hw => by
    obtain ⟨p, xs, rfl, sp, rp⟩ := (hv.ex (hid_ex c)).tupI
    obtain ⟨r, ys, rfl, sr, rr⟩ := hw.tupI
    refine ⟨p, r, xs, ys, rfl, rfl, hid_back sp, hid_back sr, by rw [rp.len, rr.len]; exact sz_of l, fun h => ?_, fun _ h => ?_, fun _ _ n hn => ?_⟩
    · subst h
      cases rp
      exact q _ _ (b.trans c) (.tup sr rr)
    · subst h
      cases rr
      rw [List.append_nil] at q
      exact q _ _ (b.trans c) (.tup sp rp)
    · exact q _ _ ((b.trans c).trans (Ex.new hn)) (.tup (st_of (hidO_at upd_same ((al.ex (e.trans (b.trans c))).ne hn))) ((rp.app rr).ex (hid_ex (Ex.new hn))))
theorem rpAll_rep {G : Hp} (r : Rp K G v d) : ∀ n, RpAll K G (List.replicate n v) (List.replicate n d)
  | 0 => .nil
  | n + 1 => .cons r (rpAll_rep r n)
theorem flat_rep (v : V) : ∀ n, (List.replicate n [v]).flatten = List.replicate n v
  | 0 => rfl
  | n + 1 => by rw [List.replicate_succ, List.flatten_cons, flat_rep v n, List.replicate_succ]; rfl
/-- (x,) * n -/
theorem h_rep {n : Nat} (al : Al o H) (h : EvH K o te σ H (.tup [d])) (n2 : 2 ≤ n) (nh : n ≤ 1000) : EvH K o (tOp (rRepT K) te (tC (.int (n : Int)))) σ H (.tup (List.replicate n d)) := fun H1 e Q q =>
  h H1 e _ fun v H2 e2 hv => by
    obtain ⟨p, xs, rfl, hp, rp⟩ := hv.tupI
    cases rp with
    | cons r0 r1 =>
      cases r1
      rename_i u
      refine ev_c (v := .int (n : Int)) (σ := σ) H2 (Ex.refl _) _ fun H3 e3 => ⟨p, (n : Int), [u], rfl, rfl, hid_back (ex_t (hid_ex e3) hp), by simp, by omega, by omega, by simp, fun t ht => q (.ref t) _ ((e2.trans e3).trans (Ex.new ht)) ?_⟩
      rw [Int.toNat_natCast, flat_rep]
      exact .tup (st_of (hidO_at upd_same ((al.ex ((e.trans e2).trans e3)).ne ht))) (rpAll_rep ((r0.ex (hid_ex e3)).ex (hid_ex (Ex.new ht))) n)
theorem oq {f : K0.D → Bool} (h : EvH K o te σ H d) (p : f d = true) : EvQ (Off o (OddQ f K)) te σ H := h_q h fun _ _ r => ⟨d, r, p⟩
/-- _law_pick(dice, some), the list standing -/
theorem c_pickV {E : XK} {Q : VK} {j : Nat} {xs : List V} (mo : MonoN N) (hv : σ[0]? = some (some (.ref a))) (hj : σ[j]? = some (some (.ref p))) (hd : DiceAt H a) (hl : H p = some (.lst xs)) (np : p ≠ a) (ms : ∀ v ∈ xs, Off (some a) N H v) (n0 : xs ≠ []) (hn : xs.length ≤ 1000)
    (k : ∀ x H2, Bt a H H2 → DiceAt H2 a → Off (some a) N H2 x → Q x H2) : tCall (sp_law_pick K) [] E (tCons (tVar 0) (tCons (tVar j) tNil)) σ H Q :=
  d_raw (n_cons (n_var hv (n_cons (n_var hj (n_nil ⟨a, p, xs, rfl, hd, np, sq_of hl, n0, by omega, fun x H3 hx b3 d3 => k x H3 b3 d3 (mo.m (ExtN.of b3) (ms x hx))⟩)))))
end
/-- a disk beside the dice list -/
def DiskN (K : PySem.W.Frag) (C : Addr) (S : List D) (W : List (Nat × D)) : Hp → V → Prop := fun H v => ∃ p, v = .ref p ∧ DiskAt K C H p S W
theorem mDiskN {K : PySem.W.Frag} {C : Addr} {S : List D} {W : List (Nat × D)} : MonoN (DiskN K C S W) := ⟨fun e ⟨p, r, ⟨dx, a, b, h1, h2, h3⟩, ok⟩ => ⟨p, r, ⟨dx, a, b, e _ _ h1 (fun ps z => by cases z), h2.extN e, h3.extN e⟩, ok⟩⟩
theorem mNoI {K : PySem.W.Frag} : MonoN (NoIns K) := ⟨fun e h => by
  rcases h with ⟨d, r, o⟩ | ⟨p, xs, rfl, g⟩ | ⟨p, xs, rfl, g⟩
  · exact .inl ⟨d, r.extN e, o⟩
  · exact .inr (.inl ⟨p, xs, rfl, e _ _ g (fun ps z => by cases z)⟩)
  · exact .inr (.inr ⟨p, xs, rfl, e _ _ g (fun ps z => by cases z)⟩)⟩
def blkBad (d : D) : Bool := decide (d.size ≤ 100) && !d.block
theorem blkBad_ok {d : D} (h : blkBad d = true) : d.size ≤ 100 ∧ d.block = false := by
  unfold blkBad at h
  simp only [Bool.and_eq_true, Bool.not_eq_true', decide_eq_true_eq] at h
  exact h
def blksBad (d : D) : Bool := decide (d.size ≤ 1000) && !d.blocks 1
theorem blksBad_ok {d : D} (h : blksBad d = true) : d.size ≤ 1000 ∧ d.blocks 1 = false := by
  unfold blksBad at h
  simp only [Bool.and_eq_true, Bool.not_eq_true', decide_eq_true_eq] at h
  exact h
def smallB : D → Bool
  | .tup ds => decide (ds.length ≤ 40000)
  | _ => true
theorem smallB_ok {d : D} (h : smallB d = true) : d.small := by
  cases d with
  | tup ds =>
    show ds.length ≤ 40000
    exact of_decide_eq_true (p := ds.length ≤ 40000) h
  | _ => trivial
def keptBad (d : D) : Bool := smallB d && !d.indices 2
theorem keptBad_ok {d : D} (h : keptBad d = true) : d.small ∧ d.indices 2 = false := by
  unfold keptBad at h
  simp only [Bool.and_eq_true, Bool.not_eq_true'] at h
  exact ⟨smallB_ok h.1, h.2⟩
/-- a bad block is no good list of blocks, alone and behind None -/
theorem blksBad_pair {d : D} (h : blkBad d = true) : blksBad (.tup [.non, d]) = true := by
  obtain ⟨h1, h2⟩ := blkBad_ok h
  unfold blksBad
  have hs : (D.tup [.non, d]).size ≤ 1000 := by
    simp only [D.size, D.sizeL]
    omega
  have hb : (D.tup [.non, d]).blocks 1 = false := by
    simp [K0.D.blocks, h2]
  rw [decide_eq_true hs, hb]
  rfl
/-- what no block is and no tuple is no list of blocks -/
def blkMenu : List D := [.int 0, .str "a", .oth, .tup [.bl true], .tup [.str "A"], .tup [.oth], .tup [.oth], .tup [.int (10 ^ 60)], .bl true, .oth, .tup [.str "a_b"], .tup [.oth]]
def blk2 (d : D) : Bool := blkBad d && blksBad d
theorem blk2_ok {d : D} (h : blk2 d = true) : blkBad d = true ∧ blksBad d = true := Bool.and_eq_true_iff.mp h
theorem blkMenu_ok : blkMenu.all blk2 = true := by decide +kernel
def twoS : List D := [.non, .tup [.str "a"]]
def twoW : List (Nat × D) := [(0, .tup [.int 1]), (1, .tup [.int 2])]
end K0

namespace K0
open PySem PySem.Spec PyProof.Rows L2 Evl LamX
/-! ### no exception, whatever the def's promise says of exceptions -/
class Never (C : CXT) : Prop where
  no : ∀ outer H s e s', C outer H s E0 e s' → False
instance : Never CX0 := ⟨fun _ _ _ _ _ h => h.elim⟩
instance {P : Program} {w : World} : Never (L2.CX P w) := ⟨fun _ _ _ _ _ ⟨_, _, _, _, _, _, _, _, _, _, _, _, h⟩ => h.elim⟩
theorem pass0 {X : Cx} {C : CXT} [n : Never C] : Passes C X E0 := fun _ _ _ _ _ _ _ h => (n.no _ _ _ _ _ h).elim
/-! ### list(g), g a generator that may raise own exceptions -/
abbrev NSE (K : PySem.W.Frag) (E : XK) : XK := fun cls dd H => PySem.W.subIn K cls (.type "StopIteration") = some false ∧ E cls dd H
section
variable {P : Program} {w : World} {K : PySem.W.Frag} {mg : Str → Option Value} {base : Heap} {A : Ad} {D : Fd}
theorem insDisk (T : Txt K mg A D) : InsC K A.Disk := ⟨T.cl_Disk, T.ob_Disk, T.rint_Disk, T.rbool_Disk, T.rstr_Disk, T.rtuple_Disk⟩
end
section
variable {K : PySem.W.Frag} {σ : L2.St} {H H' : Hp} {ta tb te : TE} {tr : TA} {x y z v : V} {d e : K0.D} {ds es : List K0.D} {a p C : Addr} {o : Option Addr} {S : List K0.D} {W : List (Nat × K0.D)} {A : Ad} {Q : VK} {E : XK}
/-- Disk(blocks) -/
theorem ek_make (h : EvD K te σ H (.tup S)) (ok : DOk S []) (hs : (D.tup S).size ≤ 30000) (hb : (D.tup S).blocks 1 = true) : EvK K A.Disk (tMake A.Disk (sp_Disk_initX K A) [] E (tCons te tNil)) σ H S [] := fun H1 e1 Q q =>
  n_cons (h H1 e1 _ fun v H2 e2 hv => n_nil fun x dx hx hdx hne => by
    have e3 : Ex H2 (upd (upd H2 dx (.own x)) x (.ins A.Disk dx [])) := fun c o hc => by
      rw [upd_ne (ne_of_none hc hx), upd_ne (ne_of_none hc hdx)]
      exact hc
    obtain ⟨va, xs, rfl, _⟩ := id hv.tupI
    refine ⟨x, dx, .ref va, .tup S, rfl, upd_same, hv.ex e3, hs, (fun z => by rw [hb] at z; cases z), fun _ u H3 k3 hq3 hu => ⟨rfl, ?_⟩⟩
    have e4 : Ex H2 H3 := fun c o hc => k3 c o (e3 c o hc) (ne_of_none hc hx)
    exact q x H3 (e2.trans e4) ⟨⟨dx, va, u, hq3, hv.ex e4, .tup hu .nil⟩, ok⟩)
/-- Disk(blocks), the blocks wrong -/
theorem c_makeX {Q : VK} (h : EvD K te σ H d) (hs : d.size ≤ 30000) (hb : d.blocks 1 = false) (k : Rai A.EInvalidBlock H E) : tMake A.Disk (sp_Disk_initX K A) [] E (tCons te tNil) σ H Q :=
  n_cons (h H (Ex.refl _) _ fun v H2 e2 hv => n_nil fun x dx hx hdx hne => by
    have e3 : Ex H2 (upd (upd H2 dx (.own x)) x (.ins A.Disk dx [])) := fun c o hc => by
      rw [upd_ne (ne_of_none hc hx), upd_ne (ne_of_none hc hdx)]
      exact hc
    exact ⟨x, dx, v, d, rfl, upd_same, hv.ex e3, hs, fun _ => k.ex (e2.trans e3), fun z => by rw [hb] at z; cases z⟩)
theorem nq (h : EvH K o te σ H d) (p : d.isOth = false) : EvQ (Off o (NoIns K)) te σ H := h_q h fun _ _ r => .inl ⟨d, r, p⟩
theorem nq_lst (al : Al o H) (h : Ev te σ H v) : EvQ (Off o (NoIns K)) (tLst (tCons te tNil)) σ H := fun H1 e Q q => n_cons (h H1 e _ fun H2 e2 => n_nil ⟨sz_of (by simp), fun p hp => q (.ref p) _ (e2.trans (Ex.new hp)) (.inr (.inl ⟨p, _, rfl, hidO_at upd_same ((al.ex (e.trans e2)).ne hp)⟩))⟩)
theorem nq_dict (al : Al o H) : EvQ (Off o (NoIns K)) tDNewK σ H := fun H1 e Q q p hp => q (.ref p) _ (Ex.new hp) (.inr (.inr ⟨p, _, rfl, hidO_at upd_same ((al.ex e).ne hp)⟩))
/-- a disk as a value that is no data -/
theorem rp_disk (I : InsC K C) (hd : DiceAt H a) (h : DiskAt K C H p S W) : RpO K (some a) .oth H (.ref p) := by
  obtain ⟨⟨dx, x, y, hp, _⟩, _⟩ := h
  refine .ins (hidO_at hp fun b hb z => ?_) I
  cases hb
  obtain ⟨_, _, _, hz⟩ := hd
  rw [z, hz] at hp
  cases hp
theorem off_disk (hd : DiceAt H a) (cS : (K0.D.tup S).clean = true) (cW : (K0.D.tup (W.map prD)).clean = true) (h : DiskAt K C H p S W) : Off (some a) (DiskN K C S W) H (.ref p) := by
  obtain ⟨⟨dx, x, y, hp, hx, hy⟩, ok⟩ := h
  refine ⟨p, rfl, ⟨dx, x, y, hidO_at hp fun b hb z => ?_, hx.exT cS (exT_hid hd.hidL), hy.exT cW (exT_hid hd.hidL)⟩, ok⟩
  cases hb
  obtain ⟨_, _, _, hz⟩ := hd
  rw [z, hz] at hp
  cases hp
end
end K0

namespace K0
open PySem L2 Evl LamX
section
variable {P : Program} {w : World} {K : PySem.W.Frag} {mg : Str → Option Value} {base : Heap} {A : Ad} {D : Fd} {ca : Ca}
theorem bk_i (i : Nat) (h : i < 10) : BkOk (.tup [.int (i : Int)]) := by
  match i, h with
  | 0, _ | 1, _ | 2, _ | 3, _ | 4, _ | 5, _ | 6, _ | 7, _ | 8, _ | 9, _ => exact ⟨by decide +kernel, by decide +kernel, by decide⟩
theorem bk_a : BkOk (.tup [.str "a"]) := ⟨by decide +kernel, by decide +kernel, by decide⟩
theorem two_ok0 : DOk twoS [] := ⟨by decide, by decide, Nat.zero_le _, (fun d hd => by
  rcases List.mem_cons.mp hd with rfl | hd
  · exact bk_non
  · rcases List.mem_cons.mp hd with rfl | hd
    · exact bk_a
    · cases hd), fun q hq => by cases hq⟩
theorem within_nat {n : Nat} {hi : Int} (h : (n : Int) ≤ hi) (l : n ≤ 1000) : K0.D.within 0 hi (.int (n : Int)) = true := by
  show (numB (n : Int) && (decide (0 ≤ (n : Int)) && decide ((n : Int) ≤ hi))) = true
  have hb : (1000 : Int) ≤ big := by decide
  have n1 : numB (n : Int) = true := by
    unfold numB
    rw [decide_eq_true (by omega : -big ≤ (n : Int)), decide_eq_true (by omega : (n : Int) ≤ big)]
    rfl
  rw [n1, decide_eq_true (by omega : 0 ≤ (n : Int)), decide_eq_true h]
  rfl
theorem fnr_of {P : Program} {w : World} {K : PySem.W.Frag} {mg : Str → Option Value} {base : Heap} {CX : CXT} {k : Nat} {f : Addr} {fd : FuncData} {ps : List Str} {sp : Sp} (F : FnOk P w K mg base CX k f fd ps sp) (hb : Binds K fd ps []) :
    FnR P w K mg base CX k f sp := (F.raw hb .nil).imp fun vs H Q E h => by
  rw [List.append_nil]
  exact h
theorem c_put1 {p : Addr} {S : List K0.D} {W : List (Nat × K0.D)} {n : Nat} {e : K0.D} {vs : List V} {H : Hp} {Q : VK} {E : XK} (hD : DiskAt K A.Disk H p S W) (r : RpAll K H vs [.int (n : Int), e]) (hn : n < S.length) (hb : BkOk e) (hw : W.length < 400) (hl : S.length ≤ 200) (k : RetDisk K A.Disk S (W ++ [(n, e)]) H Q) : sp_Disk_putX K A (.ref p :: vs) H Q E := by
  cases r with
  | cons r1 r =>
    cases r with
    | cons r2 r =>
      cases r
      refine ⟨p, S, W, _, _, .int (n : Int), e, rfl, hD, r1, r2, Nat.le_trans hb.size (by decide), fun z => ?_, fun m hm _ => ?_⟩
      · have : K0.D.within 0 ((S.length : Int) - 1) (.int (n : Int)) = true := within_nat (by omega) (by omega)
        rw [this] at z
        cases z
      · injection hm with hm
        obtain rfl : n = m := by omega
        exact ⟨(fun z => by rw [hb.blk] at z; cases z), fun _ => ⟨(fun z => absurd z (by omega)), fun _ => ⟨hb, k⟩⟩⟩
theorem n_listG {σ : L2.St} {H : Hp} {Q : VK} {sp : SpG} {dvs : List V} {E : XK} {t : TA} (h : t σ H fun vs H1 => sp (vs ++ dvs) H1 (fun out H2 => ∀ p, H2 p = none → Q (.ref p) (L2.upd H2 p (.lst out))) E) : tListG (tCallG sp dvs E t) σ H Q := h
theorem within_nat1 {n : Nat} {d : K0.D} (hn : d = .int (n : Int)) (l1 : 1 ≤ n) (l2 : n ≤ 200) : K0.D.within 1 200 d = true := by
  subst hn
  show (numB (n : Int) && (decide (1 ≤ (n : Int)) && decide ((n : Int) ≤ 200))) = true
  have hb : (1000 : Int) ≤ big := by decide
  have n1 : numB (n : Int) = true := by
    unfold numB
    rw [decide_eq_true (by omega : -big ≤ (n : Int)), decide_eq_true (by omega : (n : Int) ≤ big)]
    rfl
  rw [n1, decide_eq_true (by omega : 1 ≤ (n : Int)), decide_eq_true (by omega : (n : Int) ≤ 200)]
  rfl
def due14 (dm dp : K0.D) : List Str := ["block", numW dm, numW dp, "block", numW dp, "operation"]
section
variable {σ : L2.St} {H : Hp} {ta tb te tl : TE} {p : Addr} {xs : List V} {ds es : List K0.D}
theorem edl_catV (hv : Ev ta σ H (.ref p)) (hp : H p = some (.lst xs)) (rx : RpAll K H xs ds) (h2 : EvDL K tb σ H es) (l : ds.length + es.length ≤ 100000) : EvDL K (tOp rCat ta tb) σ H (ds ++ es) := fun H1 e Q q =>
  hv H1 e _ fun H2 e2 => h2 H2 (e.trans e2) _ fun p' ys H3 hp' e3 h4 r4 => ⟨p, p', xs, ys, rfl, rfl, ((e.trans e2).trans e3) _ _ hp, h4, by rw [rx.len, r4.len]; exact sz_of l, fun q' hq => q q' _ _ (fresh_back (e2.trans e3) hq) ((e2.trans e3).trans (Ex.new hq)) upd_same (((rx.ex ((e.trans e2).trans e3)).app r4).ex (Ex.new hq))⟩
/-- [.. for z in a new list of texts] -/
theorem edl_listN {ws : List Str} {j : Nat} {vs : List Nat} {gg : Str → K0.D} (h : EvDL K tl σ H (ws.map K0.D.str)) (hz : ws.length ≤ 40000) (hw : ∀ x, wipe ((wipe σ vs).set j (some x)) vs = wipe σ vs)
    (he : ∀ z H', Ex H H' → EvD K te ((wipe σ vs).set j (some (.str z))) H' (gg z)) : EvDL K (tLc (iList K tl) (gName j) tYes te vs) σ H (ws.map gg) := fun H0 e Q q => h H0 e _ fun p xs H1 hp e1 h1 r1 => by
  have hxs := G.strs_of (ws := ws) r1
  subst hxs
  have wk := walk_list (K := K) (a := p) (xs := ws.map V.str)
  rw [List.length_map] at wk
  exact ⟨p, rfl, ⟨_, sq_of h1⟩, G.lc_dataF (Pk := fun _ => true) wk (fun H' e' => sq_of (e' _ _ h1)) hz hw (fun y H' hy e' => et_yes) (fun y H' hy _ e' => he y H' ((e.trans e1).trans e')) fun p' xs' H2 hp' e2 h2 r => q p' xs' H2 (fresh_back e1 hp') (e1.trans e2) h2 (by
    have ef : ws.filter (fun _ => true) = ws := List.filter_eq_self.mpr fun _ _ => rfl
    rw [ef] at r
    exact r)⟩
theorem ev_neDL {a : Addr} {n : Nat} (h1 : Ev ta σ H (.ref a)) (hx : H a = some (.lst xs)) (rx : RpAll K H xs ds) (h2 : EvDL K tb σ H es) (fd : ∀ d ∈ ds, d.fine n = true) (fe : ∀ d ∈ es, d.fine n = true) (hn : n + 1 ≤ 64) :
    Ev (tOp (rNeD K) ta tb) σ H (.bl (!PyData.eqvAll (K0.D.pyL ds) (K0.D.pyL es))) := fun H1 e Q q => h1 H1 e _ fun H2 e2 => h2 H2 (e.trans e2) _ fun p ys H3 hp e3 h3 ry =>
  ⟨.list (K0.D.pyL ds), .list (K0.D.pyL es), dpL (((e.trans e2).trans e3) _ _ hx) (rx.ex ((e.trans e2).trans e3)) (fine_all ds fd).1, dpL h3 ry (fine_all es fe).1, shapedL_of fd hn, shapedL_of fe hn, q H3 (e2.trans e3)⟩
end
def sp_law_right (K : PySem.W.Frag) (A : Ad) (ca : Ca) : Sp := fun vs H Q _ => ∃ a, vs = [.ref a] ∧ DiceAt H a ∧ Tabs ca.tabs H ∧ ∀ H', BtO (some a) H H' → DiceAt H' a → Tabs ca.tabs H' → Q (.bl true) H'
theorem ed_num {σ : L2.St} {H : Hp} {te : TE} {v : V} {d : K0.D} (h : Ev te σ H v) (r : Rp K H v d) (ok : d.repOk = true) (l : d.rep.length ≤ 100) : EvD K (tOp rAddSt (tC (.str "number ")) (tCB (rReprD K) (tCons te tNil))) σ H (.str (numW d)) :=
  ed_ev (ev_op ev_c (y := .str d.rep) (ev_cb (ea_cons h ea_nil) fun H1 e Q q => ⟨v, d, rfl, r.ex e, ok, q H1 (Ex.refl _)⟩) (rv_addS (by show 7 + _ ≤ _; omega))) (.str _)
theorem ok_law_right (T : Txt K mg A D) (HL : LamH base mg D ca) : FnG P w K mg base CX0 52 A.law_right D.law_right ["dice"] (sp_law_right K A ca) := by
  have G_law_pick : FnOk P w K mg base CX0 2 A.law_pick D.law_pick ["dice", "items"] (sp_law_pick K) := ok_law_pick T
  have G_is_block := ok_is_block (P := P) (w := w) (base := base) T
  have G_Disk_init := ok_Disk_initX (P := P) (w := w) (base := base) T
  have G_Disk_empty := ok_Disk_emptyX (P := P) (w := w) (base := base) T
  have G_Disk_put := ok_Disk_putX (P := P) (w := w) (base := base) T
  have G_Disk_read := ok_Disk_readX (P := P) (w := w) (base := base) T
  have G_Disk_fallen := ok_Disk_fallenX (P := P) (w := w) (base := base) T
  have G_Disk_synced := ok_Disk_synced (P := P) (w := w) (base := base) T
  have G_Disk_sure := ok_Disk_sure (P := P) (w := w) (base := base) T
  have G_Disk_waiting := ok_Disk_waiting (P := P) (w := w) (base := base) T
  have G_falls_count := ok_falls_countX (P := P) (w := w) (base := base) T
  have G_each_fall := ok_each_fall (P := P) (w := w) (base := base) T
  have G_fall_paper := ok_fall_paperX (P := P) (w := w) (base := base) T
  have G_is_fall_paper := ok_is_fall_paperX (P := P) (w := w) (base := base) T
  obtain ⟨_, hc_Disk_empty⟩ := T.cm_Disk_empty
  obtain ⟨_, hp_Disk_sure⟩ := T.p_Disk_sure
  obtain ⟨_, hp_Disk_waiting⟩ := T.p_Disk_waiting
  refine okG T.F_law_right sc_law_right (fun vs H Q E h => by obtain ⟨a, rfl, _⟩ := h; rfl) (fun cdv A0 outer s H vs Q E hcdv gd hr h => ?_)
  obtain rfl : cdv = .ref ca.c0 := hcdv.symm.trans HL.c_law_right
  refine ⟨_, PSs.nox (pss_cons (ps_set (i := 1) sc_law_right.nd rfl (Or.inr rfl) (pe_meth (pe_meth (pe_make T.mk_Disk G_Disk_init (hr.mono (by decide)) (by rfl) T.g_Disk T.b_Disk_init .nil pass0 (pa_cons (pe_tup (pa_cons pe_non (pa_cons (pe_tup (pa_cons pe_str pa_nil)) pa_nil))) pa_nil)) T.cl_Disk T.m_Disk_put G_Disk_put (hr.mono (by decide)) T.b_Disk_put .nil pass0 (pa_cons pe_int (pa_cons (pe_tup (pa_cons pe_int pa_nil)) pa_nil))) T.cl_Disk T.m_Disk_put G_Disk_put (hr.mono (by decide)) T.b_Disk_put .nil pass0 (pa_cons pe_int (pa_cons (pe_tup (pa_cons pe_int pa_nil)) pa_nil))))
  (pss_cons (ps_set (i := 2) sc_law_right.nd rfl (Or.inr rfl) (pe_call G_law_pick (hr.mono (by decide)) rfl T.g_law_pick T.F_law_pick.kp T.b_law_pick .nil pass0 (pa_cons (pv 0) (pa_cons (pe_lst (pa_cons pe_non (pa_cons pe_int (pa_cons (pe_tup (pa_cons pe_non (pa_cons (pe_tup (pa_cons pe_str pa_nil)) pa_nil))) (pa_cons pe_str (pa_cons (pe_lst (pa_cons (pv 1) pa_nil)) (pa_cons pe_dnewK (pa_cons pe_bl pa_nil)))))))) pa_nil))))
  (pss_cons (ps_set (i := 3) sc_law_right.nd rfl (Or.inr rfl) (pe_call G_law_pick (hr.mono (by decide)) rfl T.g_law_pick T.F_law_pick.kp T.b_law_pick .nil pass0 (pa_cons (pv 0) (pa_cons (pe_lst (pa_cons pe_int (pa_cons pe_str (pa_cons (pe_lst (pa_cons pe_str pa_nil)) (pa_cons (pe_tup (pa_cons pe_bl pa_nil)) (pa_cons (pe_tup (pa_cons pe_str pa_nil)) (pa_cons (pe_tup (pa_cons (pe_lst (pa_cons pe_int pa_nil)) pa_nil)) (pa_cons (pe_tup (pa_cons pe_dnewK pa_nil)) (pa_cons (pe_tup (pa_cons (pe_op op_pow pe_int pe_int) pa_nil)) (pa_cons pe_bl (pa_cons pe_dnewK (pa_cons (pe_tup (pa_cons pe_str pa_nil)) (pa_cons (pe_tup (pa_cons (pv 1) pa_nil)) pa_nil))))))))))))) pa_nil))))
  (pss_cons (ps_set (i := 4) sc_law_right.nd rfl (Or.inr rfl) (pe_call G_law_pick (hr.mono (by decide)) rfl T.g_law_pick T.F_law_pick.kp T.b_law_pick .nil pass0 (pa_cons (pv 0) (pa_cons (pe_lst (pa_cons pe_non (pa_cons (pe_tup pa_nil) (pa_cons (pe_lst (pa_cons pe_non pa_nil)) (pa_cons (pe_tup (pa_cons pe_non (pa_cons (pv 3) pa_nil))) (pa_cons pe_str (pa_cons (pe_op op_repT (pe_tup (pa_cons pe_non pa_nil)) pe_int) (pa_cons pe_dnewK (pa_cons (pv 3) pa_nil))))))))) pa_nil))))
  (pss_cons (ps_set (i := 5) sc_law_right.nd rfl (Or.inr rfl) (pe_call G_law_pick (hr.mono (by decide)) rfl T.g_law_pick T.F_law_pick.kp T.b_law_pick .nil pass0 (pa_cons (pv 0) (pa_cons (pe_lst (pa_cons pe_non (pa_cons (pe_un un_neg pe_int) (pa_cons pe_int (pa_cons pe_bl (pa_cons pe_str (pa_cons (pe_tup (pa_cons pe_int pa_nil)) (pa_cons (pe_op op_pow pe_int pe_int) pa_nil)))))))) pa_nil))))
  (pss_cons (ps_set (i := 6) sc_law_right.nd rfl (Or.inr rfl) (pe_call G_law_pick (hr.mono (by decide)) rfl T.g_law_pick T.F_law_pick.kp T.b_law_pick .nil pass0 (pa_cons (pv 0) (pa_cons (pe_lst (pa_cons pe_non (pa_cons pe_int (pa_cons pe_int (pa_cons (pe_un un_neg pe_int) (pa_cons pe_bl (pa_cons pe_str (pa_cons (pe_tup (pa_cons pe_int pa_nil)) (pa_cons (pe_op op_pow pe_int pe_int) pa_nil))))))))) pa_nil))))
  (pss_cons (ps_set (i := 7) sc_law_right.nd rfl (Or.inr rfl) (pe_call G_law_pick (hr.mono (by decide)) rfl T.g_law_pick T.F_law_pick.kp T.b_law_pick .nil pass0 (pa_cons (pv 0) (pa_cons (pe_lst (pa_cons pe_non (pa_cons (pe_lst (pa_cons pe_int pa_nil)) (pa_cons (pe_tup (pa_cons pe_int (pa_cons pe_int pa_nil))) (pa_cons (pe_tup (pa_cons pe_int (pa_cons pe_int pa_nil))) (pa_cons (pe_tup (pa_cons pe_int pa_nil)) (pa_cons (pe_tup (pa_cons (pe_un un_neg pe_int) pa_nil)) (pa_cons (pe_tup (pa_cons pe_bl pa_nil)) (pa_cons (pe_tup (pa_cons pe_str pa_nil)) (pa_cons pe_int (pa_cons pe_dnewK (pa_cons (pe_tup (pa_cons pe_int (pa_cons pe_int (pa_cons pe_int pa_nil)))) (pa_cons (pe_tup (pa_cons pe_non pa_nil)) pa_nil))))))))))))) pa_nil))))
  (pss_cons (ps_set (i := 8) sc_law_right.nd rfl (Or.inl rfl) (pe_lst (pa_cons (pe_lmG (TT := ca.tabs) (k := 46) T.g_law_fault T.F_law_fault T.b_law_fault sc_law_fault rfl (Or.inl rfl) (met_gives T gd hr) HL.t_law_right rfl HL.m_law_right HL.u_law_right (hr.mono (by decide)) (show LamX.lamSB (defScope s_law_right) _ = true by decide +kernel) rfl rfl (fun _ _ _ _ _ => rfl) (fun A1 o1 s1 H1 E1 f1 c1 hr => (pe_make T.mk_Disk G_Disk_init (hr.mono (by decide)) (by rfl) T.g_Disk T.b_Disk_init .nil (passes_call (takes_of rfl rfl rfl rfl) (fun _ _ _ _ z => z)) (pa_cons (pv 4) pa_nil)))) pa_nil)))
  (pss_cons (ps_expr (pe_bm PySem.F.plainAttrs_list PySem.F.slot_list_append PySem.F.type_list_append mt_append (pv 8) (pa_cons (pe_lmG (TT := ca.tabs) (k := 46) T.g_law_fault T.F_law_fault T.b_law_fault sc_law_fault rfl (Or.inl rfl) (met_gives T gd hr) HL.t_law_right rfl HL.m_law_right HL.u_law_right (hr.mono (by decide)) (show LamX.lamSB (defScope s_law_right) _ = true by decide +kernel) rfl rfl (fun _ _ _ _ _ => rfl) (fun A1 o1 s1 H1 E1 f1 c1 hr => (ClX.pe_cmeth (pe_glob (v := .ref A.Disk) rfl T.g_Disk rfl) T.rd_Disk hc_Disk_empty (fnr_of G_Disk_empty T.b_Disk_empty) (hr.mono (by decide)) (passes_call (takes_of rfl rfl rfl rfl) (fun _ _ _ _ z => z)) (pa_cons (pv 6) pa_nil)))) pa_nil)))
  (pss_cons (ps_expr (pe_bm PySem.F.plainAttrs_list PySem.F.slot_list_append PySem.F.type_list_append mt_append (pv 8) (pa_cons (pe_lmG (TT := ca.tabs) (k := 46) T.g_law_fault T.F_law_fault T.b_law_fault sc_law_fault rfl (Or.inl rfl) (met_gives T gd hr) HL.t_law_right rfl HL.m_law_right HL.u_law_right (hr.mono (by decide)) (show LamX.lamSB (defScope s_law_right) _ = true by decide +kernel) rfl rfl (fun _ _ _ _ _ => rfl) (fun A1 o1 s1 H1 E1 f1 c1 hr => (pe_meth (pv 1) T.cl_Disk T.m_Disk_put G_Disk_put (hr.mono (by decide)) T.b_Disk_put .nil (passes_call (takes_of rfl rfl rfl rfl) (fun _ _ _ _ z => z)) (pa_cons (pv 5) (pa_cons (pv 3) pa_nil))))) pa_nil)))
  (pss_cons (ps_expr (pe_bm PySem.F.plainAttrs_list PySem.F.slot_list_append PySem.F.type_list_append mt_append (pv 8) (pa_cons (pe_lmG (TT := ca.tabs) (k := 46) T.g_law_fault T.F_law_fault T.b_law_fault sc_law_fault rfl (Or.inl rfl) (met_gives T gd hr) HL.t_law_right rfl HL.m_law_right HL.u_law_right (hr.mono (by decide)) (show LamX.lamSB (defScope s_law_right) _ = true by decide +kernel) rfl rfl (fun _ _ _ _ _ => rfl) (fun A1 o1 s1 H1 E1 f1 c1 hr => (pe_meth (pv 1) T.cl_Disk T.m_Disk_put G_Disk_put (hr.mono (by decide)) T.b_Disk_put .nil (passes_call (takes_of rfl rfl rfl rfl) (fun _ _ _ _ z => z)) (pa_cons pe_int (pa_cons (pv 3) pa_nil))))) pa_nil)))
  (pss_cons (ps_expr (pe_bm PySem.F.plainAttrs_list PySem.F.slot_list_append PySem.F.type_list_append mt_append (pv 8) (pa_cons (pe_lmG (TT := ca.tabs) (k := 46) T.g_law_fault T.F_law_fault T.b_law_fault sc_law_fault rfl (Or.inl rfl) (met_gives T gd hr) HL.t_law_right rfl HL.m_law_right HL.u_law_right (hr.mono (by decide)) (show LamX.lamSB (defScope s_law_right) _ = true by decide +kernel) rfl rfl (fun _ _ _ _ _ => rfl) (fun A1 o1 s1 H1 E1 f1 c1 hr => (pe_meth (pv 1) T.cl_Disk T.m_Disk_read G_Disk_read (hr.mono (by decide)) T.b_Disk_read .nil (passes_call (takes_of rfl rfl rfl rfl) (fun _ _ _ _ z => z)) (pa_cons (pv 5) pa_nil)))) pa_nil)))
  (pss_cons (ps_expr (pe_bm PySem.F.plainAttrs_list PySem.F.slot_list_append PySem.F.type_list_append mt_append (pv 8) (pa_cons (pe_lmG (TT := ca.tabs) (k := 46) T.g_law_fault T.F_law_fault T.b_law_fault sc_law_fault rfl (Or.inl rfl) (met_gives T gd hr) HL.t_law_right rfl HL.m_law_right HL.u_law_right (hr.mono (by decide)) (show LamX.lamSB (defScope s_law_right) _ = true by decide +kernel) rfl rfl (fun _ _ _ _ _ => rfl) (fun A1 o1 s1 H1 E1 f1 c1 hr => (pe_meth (pv 1) T.cl_Disk T.m_Disk_fallen G_Disk_fallen (hr.mono (by decide)) T.b_Disk_fallen .nil (passes_call (takes_of rfl rfl rfl rfl) (fun _ _ _ _ z => z)) (pa_cons (pv 7) pa_nil)))) pa_nil)))
  (pss_cons (ps_expr (pe_bm PySem.F.plainAttrs_list PySem.F.slot_list_append PySem.F.type_list_append mt_append (pv 8) (pa_cons (pe_lmG (TT := ca.tabs) (k := 46) T.g_law_fault T.F_law_fault T.b_law_fault sc_law_fault rfl (Or.inl rfl) (met_gives T gd hr) HL.t_law_right rfl HL.m_law_right HL.u_law_right (hr.mono (by decide)) (show LamX.lamSB (defScope s_law_right) _ = true by decide +kernel) rfl rfl (fun _ _ _ _ _ => rfl) (fun A1 o1 s1 H1 E1 f1 c1 hr => (pe_call G_falls_count (hr.mono (by decide)) rfl T.g_falls_count T.F_falls_count.kp T.b_falls_count .nil (passes_call (takes_of rfl rfl rfl rfl) (fun _ _ _ _ z => z)) (pa_cons (pv 2) pa_nil)))) pa_nil)))
  (pss_cons (ps_expr (pe_bm PySem.F.plainAttrs_list PySem.F.slot_list_append PySem.F.type_list_append mt_append (pv 8) (pa_cons (pe_lmG (TT := ca.tabs) (k := 46) T.g_law_fault T.F_law_fault T.b_law_fault sc_law_fault rfl (Or.inl rfl) (met_gives T gd hr) HL.t_law_right rfl HL.m_law_right HL.u_law_right (hr.mono (by decide)) (show LamX.lamSB (defScope s_law_right) _ = true by decide +kernel) rfl rfl (fun _ _ _ _ _ => rfl) (fun A1 o1 s1 H1 E1 f1 c1 hr => (pe_listG (E := NSE _ E1) (pgen_call G_each_fall (hr.mono (by decide)) rfl T.g_each_fall T.F_each_fall.kp T.b_each_fall .nil (pa_cons (pv 2) pa_nil)) (passes_call (takes_of rfl rfl rfl rfl) (fun _ _ _ _ z => z.2)) (fun _ _ _ z => z.1) (hr.mono (by decide)) (by rfl) T.b_list (by decide +kernel)))) pa_nil)))
  (pss_cons (ps_expr (pe_bm PySem.F.plainAttrs_list PySem.F.slot_list_append PySem.F.type_list_append mt_append (pv 8) (pa_cons (pe_lmG (TT := ca.tabs) (k := 46) T.g_law_fault T.F_law_fault T.b_law_fault sc_law_fault rfl (Or.inl rfl) (met_gives T gd hr) HL.t_law_right rfl HL.m_law_right HL.u_law_right (hr.mono (by decide)) (show LamX.lamSB (defScope s_law_right) _ = true by decide +kernel) rfl rfl (fun _ _ _ _ _ => rfl) (fun A1 o1 s1 H1 E1 f1 c1 hr => (pe_call G_fall_paper (hr.mono (by decide)) rfl T.g_fall_paper T.F_fall_paper.kp T.b_fall_paper .nil (passes_call (takes_of rfl rfl rfl rfl) (fun _ _ _ _ z => z)) (pa_cons (pv 2) (pa_cons (pv 2) pa_nil))))) pa_nil)))
  (pss_cons (ps_expr (pe_bm PySem.F.plainAttrs_list PySem.F.slot_list_append PySem.F.type_list_append mt_append (pv 8) (pa_cons (pe_lmG (TT := ca.tabs) (k := 46) T.g_law_fault T.F_law_fault T.b_law_fault sc_law_fault rfl (Or.inl rfl) (met_gives T gd hr) HL.t_law_right rfl HL.m_law_right HL.u_law_right (hr.mono (by decide)) (show LamX.lamSB (defScope s_law_right) _ = true by decide +kernel) rfl rfl (fun _ _ _ _ _ => rfl) (fun A1 o1 s1 H1 E1 f1 c1 hr => (pe_call G_fall_paper (hr.mono (by decide)) rfl T.g_fall_paper T.F_fall_paper.kp T.b_fall_paper .nil (passes_call (takes_of rfl rfl rfl rfl) (fun _ _ _ _ z => z)) (pa_cons (pv 1) (pa_cons (pv 2) pa_nil))))) pa_nil)))
  (pss_cons (ps_expr (pe_bm PySem.F.plainAttrs_list PySem.F.slot_list_append PySem.F.type_list_append mt_append (pv 8) (pa_cons (pe_lmG (TT := ca.tabs) (k := 46) T.g_law_fault T.F_law_fault T.b_law_fault sc_law_fault rfl (Or.inl rfl) (met_gives T gd hr) HL.t_law_right rfl HL.m_law_right HL.u_law_right (hr.mono (by decide)) (show LamX.lamSB (defScope s_law_right) _ = true by decide +kernel) rfl rfl (fun _ _ _ _ _ => rfl) (fun A1 o1 s1 H1 E1 f1 c1 hr => (pe_call G_is_fall_paper (hr.mono (by decide)) rfl T.g_is_fall_paper T.F_is_fall_paper.kp T.b_is_fall_paper .nil (passes_call (takes_of rfl rfl rfl rfl) (fun _ _ _ _ z => z)) (pa_cons (pv 2) (pa_cons (pv 1) (pa_cons (pv 7) pa_nil)))))) pa_nil)))
  (pss_cons (ps_expr (pe_bm PySem.F.plainAttrs_list PySem.F.slot_list_append PySem.F.type_list_append mt_append (pv 8) (pa_cons (pe_lmG (TT := ca.tabs) (k := 46) T.g_law_fault T.F_law_fault T.b_law_fault sc_law_fault rfl (Or.inl rfl) (met_gives T gd hr) HL.t_law_right rfl HL.m_law_right HL.u_law_right (hr.mono (by decide)) (show LamX.lamSB (defScope s_law_right) _ = true by decide +kernel) rfl rfl (fun _ _ _ _ _ => rfl) (fun A1 o1 s1 H1 E1 f1 c1 hr => (pe_call G_is_fall_paper (hr.mono (by decide)) rfl T.g_is_fall_paper T.F_is_fall_paper.kp T.b_is_fall_paper .nil (passes_call (takes_of rfl rfl rfl rfl) (fun _ _ _ _ z => z)) (pa_cons (pv 1) (pa_cons (pv 2) (pa_cons (pv 7) pa_nil)))))) pa_nil)))
  (pss_cons (ps_set (i := 9) sc_law_right.nd rfl (Or.inl rfl) (pe_lst (pa_cons pe_str (pa_cons (pe_op op_add_str pe_str (pe_callB (cr_reprD gd hr.units) (by rfl) T.b_repr (by decide +kernel) (pa_cons (pv 6) pa_nil))) (pa_cons (pe_op op_add_str pe_str (pe_callB (cr_reprD gd hr.units) (by rfl) T.b_repr (by decide +kernel) (pa_cons (pv 5) pa_nil))) (pa_cons pe_str (pa_cons (pe_op op_add_str pe_str (pe_callB (cr_reprD gd hr.units) (by rfl) T.b_repr (by decide +kernel) (pa_cons (pv 5) pa_nil))) (pa_cons pe_str pa_nil))))))))
  (pss_cons (ps_if (pt_cmpR (op_neD hr.units) (pv 8) (pe_lc (own := [("word", 10)]) (g := gName 10) (tt := tYes) rfl sc_law_right.nd (pi_list (pe_op op_cat (pv 9) (pe_op op_rep (pe_lst (pa_cons pe_str pa_nil)) pe_int))) (blkOk_by (own := [("word", 10)]) (N := N_law_right) (sc := defScope s_law_right) (by decide +kernel)) (fun _ _ _ _ _ => by exact pg_name (i := 10) sc_law_right.nd rfl (Or.inl rfl)) (fun _ _ _ _ _ => by exact pts_nil) (fun _ _ _ _ _ => by exact (pe_tup (pa_cons pe_str (pa_cons (pv 10) pa_nil))))) (nomark _)) (pss_one (ps_ret pe_bl)) pss_nil)
  (pss_cons (ps_if (PW.pt (pw_or (pt_val (pe_call G_is_block (hr.mono (by decide)) rfl T.g_is_block T.F_is_block.kp T.b_is_block .nil pass0 (pa_cons (pv 3) pa_nil))) (pw_or (pt_val (pe_call G_is_fall_paper (hr.mono (by decide)) rfl T.g_is_fall_paper T.F_is_fall_paper.kp T.b_is_fall_paper .nil pass0 (pa_cons (pv 1) (pa_cons (pe_meth0 (pv 1) T.cl_Disk T.m_Disk_synced G_Disk_synced (hr.mono (by decide)) T.b_Disk_synced .nil pass0 ) (pa_cons (pv 7) pa_nil))))) (pw_or1 (pt_val (pe_call G_is_fall_paper (hr.mono (by decide)) rfl T.g_is_fall_paper T.F_is_fall_paper.kp T.b_is_fall_paper .nil pass0 (pa_cons (pv 1) (pa_cons (pv 1) (pa_cons (pe_tup pa_nil) pa_nil))))))))) (pss_one (ps_ret pe_bl)) pss_nil)
  (pss_one (ps_ret (pe_and (pe_cmpR (op_eqD hr.units) (pe_prop (pv 1) T.cl_Disk hp_Disk_sure G_Disk_sure (hr.mono (by decide)) T.b_Disk_sure .nil pass0 (by rfl)) (pe_tup (pa_cons pe_non (pa_cons (pe_tup (pa_cons pe_str pa_nil)) pa_nil))) (nomark _)) (pe_one (pe_cmpR (op_eqD hr.units) (pe_prop (pv 1) T.cl_Disk hp_Disk_waiting G_Disk_waiting (hr.mono (by decide)) T.b_Disk_waiting .nil pass0 (by rfl)) (pe_tup (pa_cons (pe_tup (pa_cons pe_int (pa_cons (pe_tup (pa_cons pe_int pa_nil)) pa_nil))) (pa_cons (pe_tup (pa_cons pe_int (pa_cons (pe_tup (pa_cons pe_int pa_nil)) pa_nil))) pa_nil))) (nomark _)))))))))))))))))))))))))))), ?_⟩
  obtain ⟨a, rfl, hd, ht, k⟩ := h
  have iD := insDisk T
  refine q_asgX (ek_methA (sp := sp_Disk_putX K A) (S' := twoS) (W' := twoW) (ek_methA (sp := sp_Disk_putX K A) (S' := twoS) (W' := [(0, .tup [.int 1])]) (ek_make (ed_tup (eda_cons (ed_ev ev_c .non) (eda_cons (ed_tup (eda_cons ed_str eda_nil) (by simp)) eda_nil)) (by simp)) two_ok0 (by decide) (by decide +kernel)) (look_m rfl rfl)
    (eda_cons (ed_ev ev_c (.int _)) (eda_cons (ed_tup (eda_cons (ed_ev ev_c (.int _)) eda_nil) (by simp)) eda_nil)) fun p vs H1 e d r Q q => c_put1 (n := 0) d r (by decide) (bk_i 1 (by decide)) (by decide) (by decide) q) (look_m rfl rfl)
    (eda_cons (ed_ev ev_c (.int _)) (eda_cons (ed_tup (eda_cons (ed_ev ev_c (.int _)) eda_nil) (by simp)) eda_nil)) (fun p vs H1 e d r Q q => c_put1 (n := 1) d r (by decide) (bk_i 2 (by decide)) (by decide) (by decide) q) H (Ex.refl _) _ fun p H1 e1 hD1 => ?_)
  have d1 := hd.ex e1
  have al1 := Al.of d1
  have hoff : Off (some a) (DiskN K A.Disk twoS twoW) H1 (.ref p) := off_disk d1 (by decide +kernel) (by decide +kernel) hD1
  have gD : ∀ {G : Hp}, BtO (some a) H1 G → DiskAt K A.Disk G p twoS twoW := fun e => by
    obtain ⟨p', r, h1⟩ := Off.get mDiskN e hoff
    cases r
    exact h1
  have mI := (mNoI (K := K)).off (o := some a)
  have mB := (mOddQ (f := blk2) (K := K)).off (o := some a)
  have mS := (mOddQ (f := blksBad) (K := K)).off (o := some a)
  have mP := (mOddQ (f := numOk 0 1) (K := K)).off (o := some a)
  have mM := (mOddQ (f := numOk 1 200) (K := K)).off (o := some a)
  have mK := (mOddQ (f := keptBad) (K := K)).off (o := some a)
  refine q_pick (N := NoIns K) mNoI rfl d1 (ql_lst mI (qa_cons mI (nq h_non rfl) (qa_cons mI (nq h_int rfl) (qa_cons mI (nq (h_tup al1 (ha_cons h_non (ha_cons (h_tup al1 (ha_cons h_str ha_nil) (by simp)) ha_nil)) (by simp)) rfl) (qa_cons mI (nq h_str rfl) (qa_cons mI (nq_lst al1 (ev_var rfl)) (qa_cons mI (nq_dict al1) (qa_cons mI (nq h_bl rfl) qa_nil))))))) (by decide)) (by omega) (by omega) fun xn H2 b2 d2 mn => ?_
  have al2 := Al.of d2
  have rd2 := rp_disk iD d2 (gD (BtO.ofB b2))
  refine q_pick (N := OddQ blk2 K) mOddQ rfl d2 (ql_lst mB (qa_cons mB (oq h_int (by decide +kernel)) (qa_cons mB (oq h_str (by decide +kernel)) (qa_cons mB (oq (h_lst al2 (ha_cons h_str ha_nil) (by simp)) (by decide +kernel)) (qa_cons mB (oq (h_tup al2 (ha_cons h_bl ha_nil) (by simp)) (by decide +kernel)) (qa_cons mB (oq (h_tup al2 (ha_cons h_str ha_nil) (by simp)) (by decide +kernel)) (qa_cons mB (oq (h_tup al2 (ha_cons (h_lst al2 (ha_cons h_int ha_nil) (by simp)) ha_nil) (by simp)) (by decide +kernel)) (qa_cons mB (oq (h_tup al2 (ha_cons (h_dict0 al2) ha_nil) (by simp)) (by decide +kernel)) (qa_cons mB (oq (h_tup al2 (ha_cons (h_ev (ev_op ev_c ev_c (rv_pow (n := 60) (by decide) (by decide))) fun _ => .int _) ha_nil) (by simp)) (by decide +kernel)) (qa_cons mB (oq h_bl (by decide +kernel)) (qa_cons mB (oq (h_dict0 al2) (by decide +kernel)) (qa_cons mB (oq (h_tup al2 (ha_cons h_str ha_nil) (by simp)) (by decide +kernel)) (qa_cons mB (oq (h_tup al2 (ha_cons (h_var rfl rd2) ha_nil) (by simp)) (by decide +kernel)) qa_nil)))))))))))) (by decide)) (by omega) (by omega) fun xb H3 b3 d3 mb => ?_
  have al3 := Al.of d3
  obtain ⟨db, rb, hb⟩ := id mb
  obtain ⟨hb1, hb2⟩ := blk2_ok hb
  refine q_pick (N := OddQ blksBad K) mOddQ rfl d3 (ql_lst mS (qa_cons mS (oq h_non (by decide +kernel)) (qa_cons mS (oq (h_tup al3 ha_nil (by simp)) (by decide +kernel)) (qa_cons mS (oq (h_lst al3 (ha_cons h_non ha_nil) (by simp)) (by decide +kernel)) (qa_cons mS (oq (h_tup al3 (ha_cons h_non (ha_cons (h_var rfl rb) ha_nil)) (by simp)) (blksBad_pair hb1)) (qa_cons mS (oq h_str (by decide +kernel)) (qa_cons mS (oq (h_rep (n := 201) al3 (h_tup al3 (ha_cons h_non ha_nil) (by simp)) (by decide) (by decide)) (by decide +kernel)) (qa_cons mS (oq (h_dict0 al3) (by decide +kernel)) (qa_cons mS (oq (h_var rfl rb) hb2) qa_nil)))))))) (by decide)) (by omega) (by omega) fun xs H4 b4 d4 ms => ?_
  have al4 := Al.of d4
  refine q_pick (N := OddQ (numOk 0 1) K) mOddQ rfl d4 (ql_lst mP (qa_cons mP (oq h_non (by decide +kernel)) (qa_cons mP (oq h_neg (by decide +kernel)) (qa_cons mP (oq h_int (by decide +kernel)) (qa_cons mP (oq h_bl (by decide +kernel)) (qa_cons mP (oq h_str (by decide +kernel)) (qa_cons mP (oq (h_tup al4 (ha_cons h_int ha_nil) (by simp)) (by decide +kernel)) (qa_cons mP (oq (h_ev (ev_op ev_c ev_c (rv_pow (n := 60) (by decide) (by decide))) fun _ => .int _) (by decide +kernel)) qa_nil))))))) (by decide)) (by omega) (by omega) fun xp H5 b5 d5 mp => ?_
  have al5 := Al.of d5
  refine q_pick (N := OddQ (numOk 1 200) K) mOddQ rfl d5 (ql_lst mM (qa_cons mM (oq h_non (by decide +kernel)) (qa_cons mM (oq h_int (by decide +kernel)) (qa_cons mM (oq h_int (by decide +kernel)) (qa_cons mM (oq h_neg (by decide +kernel)) (qa_cons mM (oq h_bl (by decide +kernel)) (qa_cons mM (oq h_str (by decide +kernel)) (qa_cons mM (oq (h_tup al5 (ha_cons h_int ha_nil) (by simp)) (by decide +kernel)) (qa_cons mM (oq (h_ev (ev_op ev_c ev_c (rv_pow (n := 60) (by decide) (by decide))) fun _ => .int _) (by decide +kernel)) qa_nil)))))))) (by decide)) (by omega) (by omega) fun xm H6 b6 d6 mm => ?_
  have al6 := Al.of d6
  refine q_pick (N := OddQ keptBad K) mOddQ rfl d6 (ql_lst mK (qa_cons mK (oq h_non (by decide +kernel)) (qa_cons mK (oq (h_lst al6 (ha_cons h_int ha_nil) (by simp)) (by decide +kernel)) (qa_cons mK (oq (h_tup al6 (ha_cons h_int (ha_cons h_int ha_nil)) (by simp)) (by decide +kernel)) (qa_cons mK (oq (h_tup al6 (ha_cons h_int (ha_cons h_int ha_nil)) (by simp)) (by decide +kernel)) (qa_cons mK (oq (h_tup al6 (ha_cons h_int ha_nil) (by simp)) (by decide +kernel)) (qa_cons mK (oq (h_tup al6 (ha_cons h_neg ha_nil) (by simp)) (by decide +kernel)) (qa_cons mK (oq (h_tup al6 (ha_cons h_bl ha_nil) (by simp)) (by decide +kernel)) (qa_cons mK (oq (h_tup al6 (ha_cons h_str ha_nil) (by simp)) (by decide +kernel)) (qa_cons mK (oq h_int (by decide +kernel)) (qa_cons mK (oq (h_dict0 al6) (by decide +kernel)) (qa_cons mK (oq (h_tup al6 (ha_cons h_int (ha_cons h_int (ha_cons h_int ha_nil))) (by simp)) (by decide +kernel)) (qa_cons mK (oq (h_tup al6 (ha_cons h_non ha_nil) (by simp)) (by decide +kernel)) qa_nil)))))))))))) (by decide)) (by omega) (by omega) fun xk H7 b7 d7 mk => ?_
  have t7 : Tabs ca.tabs H7 := tabs_bt d6 b7 (tabs_bt d5 b6 (tabs_bt d4 b5 (tabs_bt d3 b4 (tabs_bt d2 b3 (tabs_bt d1 b2 (ht.ext e1))))))
  have b67 : BtO (some a) H6 H7 := BtO.ofB b7
  have b57 := (BtO.ofB b6).trans b67
  have b47 := (BtO.ofB b5).trans b57
  have b37 := (BtO.ofB b4).trans b47
  have b27 := (BtO.ofB b3).trans b37
  have b17 : BtO (some a) H1 H7 := (BtO.ofB b2).trans b27
  have b07 : BtO (some a) H H7 := (BtO.ofE e1).trans b17
  have mn7 := Off.bt mNoI b27 mn
  have mb7 := Off.bt mOddQ b37 mb
  have ms7 := Off.bt mOddQ b47 ms
  have mp7 := Off.bt mOddQ b57 mp
  have mm7 := Off.bt mOddQ b67 mm
  have gN : ∀ {G : Hp}, BtO (some a) H7 G → NoIns K G xn := fun e => Off.get mNoI e mn7
  have gB : ∀ {G : Hp}, BtO (some a) H7 G → OddQ blk2 K G xb := fun e => Off.get mOddQ e mb7
  have gS : ∀ {G : Hp}, BtO (some a) H7 G → OddQ blksBad K G xs := fun e => Off.get mOddQ e ms7
  have gK : ∀ {G : Hp}, BtO (some a) H7 G → OddQ keptBad K G xk := fun e => Off.get mOddQ e mk
  obtain ⟨dp, rp, op⟩ := mp7
  obtain ⟨dm, rm, om⟩ := mm7
  have gP : ∀ {G : Hp}, BtO (some a) H7 G → Rp K G xp dp := fun e => Off.get (N := fun H v => Rp K H v dp) rpN e rp
  have gM : ∀ {G : Hp}, BtO (some a) H7 G → Rp K G xm dm := fun e => Off.get (N := fun H v => Rp K H v dm) rpN e rm
  obtain ⟨p1, p2, p3, p4⟩ := numOk_ok op
  obtain ⟨m1, m2, m3, m4⟩ := numOk_ok om
  have hDk : ∀ {G : Hp} {E : XK}, DiceO (some a) G → Tabs ca.tabs G → (∀ cls dd H2, BtO (some a) G H2 → DiceO (some a) H2 → Tabs ca.tabs H2 → EK14 K A (wordsD "refused" "disk") cls dd H2 → E cls dd H2) → Rai A.EInvalidDisk G E :=
    fun dG tG hE G2 e => hE _ _ G2 (BtO.ofE e) (dG.ex e) (tG.ext e) (.inl ⟨rfl, rfl⟩)
  have hBlk : ∀ {G : Hp} {E : XK}, DiceO (some a) G → Tabs ca.tabs G → (∀ cls dd H2, BtO (some a) G H2 → DiceO (some a) H2 → Tabs ca.tabs H2 → EK14 K A (wordsD "refused" "block") cls dd H2 → E cls dd H2) → Rai A.EInvalidBlock G E :=
    fun dG tG hE G2 e => hE _ _ G2 (BtO.ofE e) (dG.ex e) (tG.ext e) (.inr (.inl ⟨rfl, rfl⟩))
  have hOp : ∀ {G : Hp} {E : XK}, DiceO (some a) G → Tabs ca.tabs G → (∀ cls dd H2, BtO (some a) G H2 → DiceO (some a) H2 → Tabs ca.tabs H2 → EK14 K A (wordsD "refused" "operation") cls dd H2 → E cls dd H2) → Rai A.EInvalidOperation G E :=
    fun dG tG hE G2 e => hE _ _ G2 (BtO.ofE e) (dG.ex e) (tG.ext e) (.inr (.inr (.inl ⟨rfl, rfl⟩)))
  have hNum : ∀ {G : Hp} {E : XK} {v : V} {d : K0.D}, Rp K G v d → d.repOk = true → d.rep.length ≤ 100 → DiceO (some a) G → Tabs ca.tabs G → (∀ cls dd H2, BtO (some a) G H2 → DiceO (some a) H2 → Tabs ca.tabs H2 → EK14 K A (wordsD "refused" (numW d)) cls dd H2 → E cls dd H2) → RaF A.EInvalidNumber "given" v G E :=
    fun r ok l dG tG hE dd G2 e h2 => hE _ _ G2 (BtO.ofE e) (dG.ex e) (tG.ext e) (.inr (.inr (.inr (.inl ⟨rfl, dd, _, _, rfl, h2, r.ex e, ok, by omega, rfl⟩))))
  refine q_told0 (K := K) (fine := fineF) (r := (wordsD "refused" "block")) tff (DiceO.of d7) t7 (fun G E b dG tG hE Q _ => ?_) fun l H10 I10 => ?_
  · obtain ⟨d, r, s⟩ := gS b
    obtain ⟨s1, s2⟩ := blksBad_ok s
    exact c_makeX (ed_ev (ev_var rfl) r) (by omega) s2 (hBlk dG tG hE)
  refine q_toldA (K := K) (fine := fineF) (r := (wordsD "refused" (numW dm))) tff rfl (by simp) rfl rfl I10 (fun G E b dG tG hE Q _ => ?_) fun H11 I11 => ?_
  · exact ⟨rfl, n_cons (n_var rfl (n_nil ⟨xm, dm, rfl, gM b, fun _ => hNum (gM b) m2 m3 dG tG hE, fun n hn l1 l2 => absurd (within_nat1 hn l1 l2) (by rw [m1]; decide)⟩))⟩
  refine q_toldA (K := K) (fine := fineF) (r := (wordsD "refused" (numW dp))) tff rfl (by simp) rfl rfl I11 (fun G E b dG tG hE Q _ => ?_) fun H12 I12 => ?_
  · have hD := gD (b17.trans b)
    obtain ⟨⟨dx, va, vb, hp, _⟩, _⟩ := id hD
    obtain ⟨db', rb', hb'⟩ := gB b
    have := (blkBad_ok (blk2_ok hb').1).1
    exact c_meth (ev_var rfl) hp (look_m rfl rfl _ _) (fun G1 e1 => ea_cons (ev_var rfl) (ea_cons (ev_var rfl) ea_nil)) fun G1 e1 => ⟨p, twoS, twoW, xp, xb, dp, db', rfl, hD.ex e1, (gP b).ex e1, rb'.ex e1, by omega, fun _ => (hNum (gP b) p2 p3 dG tG hE).ex e1, fun n hn hl => absurd p1 (by
      rw [hn, within_nat (by have : n < 2 := hl; omega) (by have : n < 2 := hl; omega)]
      decide)⟩
  refine q_toldA (K := K) (fine := fineF) (r := (wordsD "refused" "block")) tff rfl (by simp) rfl rfl I12 (fun G E b dG tG hE Q _ => ?_) fun H13 I13 => ?_
  · have hD := gD (b17.trans b)
    obtain ⟨⟨dx, va, vb, hp, _⟩, _⟩ := id hD
    obtain ⟨db', rb', hb'⟩ := gB b
    obtain ⟨s1, s2⟩ := blkBad_ok (blk2_ok hb').1
    exact c_meth (ev_var rfl) hp (look_m rfl rfl _ _) (fun G1 e1 => ea_cons ev_c (ea_cons (ev_var rfl) ea_nil)) fun G1 e1 => ⟨p, twoS, twoW, .int 0, xb, .int 0, db', rfl, hD.ex e1, .int _, rb'.ex e1, by omega, (fun z => absurd z (by decide +kernel)), fun n hn hl => ⟨fun _ => (hBlk dG tG hE).ex e1, fun z => by rw [s2] at z; cases z⟩⟩
  refine q_toldA (K := K) (fine := fineF) (r := (wordsD "refused" (numW dp))) tff rfl (by simp) rfl rfl I13 (fun G E b dG tG hE Q _ => ?_) fun H14 I14 => ?_
  · have hD := gD (b17.trans b)
    obtain ⟨⟨dx, va, vb, hp, _⟩, _⟩ := id hD
    exact c_meth (ev_var rfl) hp (look_m rfl rfl _ _) (fun G1 e1 => ea_cons (ev_var rfl) ea_nil) fun G1 e1 => ⟨p, twoS, twoW, xp, dp, rfl, hD.ex e1, (gP b).ex e1, p1, (hNum (gP b) p2 p3 dG tG hE).ex e1⟩
  refine q_toldA (K := K) (fine := fineF) (r := (wordsD "refused" "operation")) tff rfl (by simp) rfl rfl I14 (fun G E b dG tG hE Q _ => ?_) fun H15 I15 => ?_
  · have hD := gD (b17.trans b)
    obtain ⟨⟨dx, va, vb, hp, _⟩, _⟩ := id hD
    obtain ⟨dk, rk, hk⟩ := gK b
    obtain ⟨k1, k2⟩ := keptBad_ok hk
    exact c_meth (ev_var rfl) hp (look_m rfl rfl _ _) (fun G1 e1 => ea_cons (ev_var rfl) ea_nil) fun G1 e1 => ⟨p, twoS, twoW, xk, dk, rfl, hD.ex e1, rk.ex e1, k1, .inl ⟨k2, (hOp dG tG hE).ex e1⟩⟩
  refine q_toldA (K := K) (fine := fineF) (r := (wordsD "refused" "disk")) tff rfl (by simp) rfl rfl I15 (fun G E b dG tG hE Q _ => ?_) fun H16 I16 => ?_
  · exact c_call (ea_cons (ev_var rfl) ea_nil) fun G1 e1 => ⟨xn, rfl, .inl ⟨(gN b).ex e1, (hDk dG tG hE).ex e1⟩⟩
  refine q_toldA (K := K) (fine := fineF) (r := (wordsD "refused" "disk")) tff rfl (by simp) rfl rfl I16 (fun G E b dG tG hE Q _ => ?_) fun H17 I17 => ?_
  · exact n_listG (n_cons (n_var rfl (n_nil ⟨xn, rfl, .inl ⟨gN b, fun G1 e1 => ⟨T.nst_InvalidDisk, hDk dG tG hE G1 e1⟩⟩⟩)))
  refine q_toldA (K := K) (fine := fineF) (r := (wordsD "refused" "disk")) tff rfl (by simp) rfl rfl I17 (fun G E b dG tG hE Q _ => ?_) fun H18 I18 => ?_
  · exact c_call (ea_cons (ev_var rfl) (ea_cons (ev_var rfl) ea_nil)) fun G1 e1 => ⟨xn, xn, rfl, .inl ((gN b).ex e1), (hDk dG tG hE).ex e1⟩
  refine q_toldA (K := K) (fine := fineF) (r := (wordsD "refused" "disk")) tff rfl (by simp) rfl rfl I18 (fun G E b dG tG hE Q _ => ?_) fun H19 I19 => ?_
  · exact c_call (ea_cons (ev_var rfl) (ea_cons (ev_var rfl) ea_nil)) fun G1 e1 => ⟨.ref p, xn, rfl, .inr ⟨⟨p, twoS, twoW, rfl, (gD (b17.trans b)).ex e1⟩, (gN b).ex e1⟩, (hDk dG tG hE).ex e1⟩
  refine q_toldA (K := K) (fine := fineF) (r := (wordsD "refused" "disk")) tff rfl (by simp) rfl rfl I19 (fun G E b dG tG hE Q _ => ?_) fun H20 I20 => ?_
  · obtain ⟨dk, rk, hk⟩ := gK b
    exact c_call (ea_cons (ev_var rfl) (ea_cons (ev_var rfl) (ea_cons (ev_var rfl) ea_nil))) fun G1 e1 => ⟨xn, .ref p, xk, dk, rfl, rk.ex e1, (keptBad_ok hk).1, .inl ⟨.inl ((gN b).ex e1), (hDk dG tG hE).ex e1⟩⟩
  refine q_toldA (K := K) (fine := fineF) (r := (wordsD "refused" "disk")) tff rfl (by simp) rfl rfl I20 (fun G E b dG tG hE Q _ => ?_) fun H21 I21 => ?_
  · obtain ⟨dk, rk, hk⟩ := gK b
    exact c_call (ea_cons (ev_var rfl) (ea_cons (ev_var rfl) (ea_cons (ev_var rfl) ea_nil))) fun G1 e1 => ⟨.ref p, xn, xk, dk, rfl, rk.ex e1, (keptBad_ok hk).1, .inl ⟨.inr ⟨⟨p, twoS, twoW, rfl, (gD (b17.trans b)).ex e1⟩, (gN b).ex e1⟩, (hDk dG tG hE).ex e1⟩⟩
  have bt21 := I21.bt
  refine G.q_asgDL (K := K) (ds := (due14 dm dp).map K0.D.str) (G.edl_lst (eda_cons ed_str (eda_cons (ed_num (ev_var rfl) (gM bt21) m2 m3) (eda_cons (ed_num (ev_var rfl) (gP bt21) p2 p3) (eda_cons ed_str (eda_cons (ed_num (ev_var rfl) (gP bt21) p2 p3) (eda_cons ed_str eda_nil)))))) (by show 6 ≤ 1000; decide)) fun pd xd H22 hpd e22 h22 r22 => ?_
  have hxd := G.strs_of (ws := due14 dm dp) r22
  subst hxd
  have I22 := I21.ex e22
  have bt22 := I22.bt
  obtain ⟨vs, hl, rl⟩ := I22.lst
  have fin : ∀ d ∈ ((due14 dm dp ++ List.replicate 6 ("disk" : Str)).map (wordsD "refused")), K0.D.fine 2 d = true := fun d hd => by
    obtain ⟨z, hz, rfl⟩ := List.mem_map.mp hd
    unfold due14 at hz
    simp only [List.mem_append, List.mem_replicate, List.mem_cons, List.not_mem_nil, or_false] at hz
    rcases hz with (rfl | rfl | rfl | rfl | rfl | rfl) | ⟨_, rfl⟩
    · decide +kernel
    · exact m4
    · exact p4
    · decide +kernel
    · exact p4
    · decide +kernel
    · decide +kernel
  refine q_when (b := false) (et_is (et_test (ev_neDL (n := 2) (ds := (due14 dm dp ++ List.replicate 6 ("disk" : Str)).map (wordsD "refused")) (es := (due14 dm dp ++ List.replicate 6 ("disk" : Str)).map (wordsD "refused")) (ev_var rfl) hl rl
    (edl_listN (ws := due14 dm dp ++ List.replicate 6 ("disk" : Str)) (gg := wordsD "refused") (by
      rw [List.map_append]
      exact edl_catV (ev_var rfl) h22 r22 (by
        rw [List.map_replicate]
        exact G.edl_rep (k := 6) (ed_ev ev_c (.str _)) (by decide)) (by simp [due14])) (by simp [due14]) (fun _ => rfl) (fun z H' _ => ed_tup (eda_cons (ed_ev ev_c (.str _)) (eda_cons (ed_ev (ev_var rfl) (.str z)) eda_nil)) (by simp))) fin fin (by decide))) (by rw [eqvAll_self _ (fine_all _ fin).1]; rfl)) (fun z => by cases z) fun _ H23 e23 => ?_
  have bt23 := bt22.trans (BtO.ofE e23)
  have hD := gD (b17.trans bt23)
  obtain ⟨dk, rk, hk⟩ := gK bt23
  obtain ⟨k1, k2⟩ := keptBad_ok hk
  obtain ⟨db', rb', hb'⟩ := gB bt23
  obtain ⟨s1, s2⟩ := blkBad_ok (blk2_ok hb').1
  have hS : ∀ {σ : L2.St}, σ[1]? = some (some (.ref p)) → EvK K A.Disk (tMeth A.Disk "synced" (sp_Disk_synced K A) [] E0 (tVar 1) tNil) σ H23 (rd twoS twoW) [] := fun h1 => ek_methA (ek_ev (ev_var h1) hD) (look_m rfl rfl) eda_nil fun p vs H1 e d r Q q => by
    cases r
    exact ⟨p, _, _, rfl, d, q⟩
  refine q_when (b := false) (et_is (et_or (a := false) (b := false) (et_is (et_B (ev_call (ea_cons (ev_var rfl) ea_nil) (svS rb' (by omega)))) s2) fun _ => et_is (et_or (a := false) (b := false) (et_B (fun H1 e Q q => d_raw (n_cons (n_var rfl (n_cons (hS rfl H1 e _ fun q' H2 e2 d2 => n_cons (n_var rfl (n_nil
    ⟨.ref p, .ref q', xk, dk, rfl, rk.ex (e.trans e2), k1, .inr ⟨p, twoS, twoW, q', _, _, rfl, rfl, hD.ex (e.trans e2), d2, .inl k2, fun H3 e3 => q H3 (e2.trans e3)⟩⟩)))))))) fun _ =>
    et_B (fun H1 e Q q => d_raw (n_cons (n_var rfl (n_cons (n_var rfl (n_cons (ed_tup (K := K) (ds := []) eda_nil (by simp) H1 (Ex.refl _) _ fun v H2 e2 rv => n_nil
    ⟨.ref p, .ref p, v, .tup [], rfl, rv, Nat.zero_le _, .inr ⟨p, twoS, twoW, p, twoS, twoW, rfl, rfl, hD.ex (e.trans e2), hD.ex (e.trans e2), .inr ⟨rfl, List.cons_ne_nil _ _⟩, fun H3 e3 => q H3 (e2.trans e3)⟩⟩)))))))) rfl) rfl) (fun z => by cases z) fun _ H24 e24 => ?_
  have hD4 := hD.ex e24
  refine s_ret (ev_andV (a := true) (b := true) ?_ fun _ => ?_) fun H25 e25 => ?_
  · exact ev_is (ev_eqD (n := 8) (ek_prop (sp := sp_Disk_sure K A) (d' := .tup twoS) (ek_ev (ev_var rfl) hD4) fun p H1 e d Q q => ⟨p, _, _, rfl, d, q⟩)
      (ed_tup (eda_cons (ed_ev ev_c .non) (eda_cons (ed_tup (eda_cons ed_str eda_nil) (by simp)) eda_nil)) (by simp)) (by decide +kernel) (by decide +kernel) (by decide)) (congrArg V.bl (by decide +kernel))
  · exact ev_is (ev_eqD (n := 8) (ek_prop (sp := sp_Disk_waiting K A) (d' := .tup (twoW.map prD)) (ek_ev (ev_var rfl) hD4) fun p H1 e d Q q => ⟨p, _, _, rfl, d, q⟩)
      (ed_tup (eda_cons (ed_tup (eda_cons (ed_ev ev_c (.int _)) (eda_cons (ed_tup (eda_cons (ed_ev ev_c (.int _)) eda_nil) (by simp)) eda_nil)) (by simp)) (eda_cons (ed_tup (eda_cons (ed_ev ev_c (.int _)) (eda_cons (ed_tup (eda_cons (ed_ev ev_c (.int _)) eda_nil) (by simp)) eda_nil)) (by simp)) eda_nil)) (by simp)) (by decide +kernel) (by decide +kernel) (by decide)) (congrArg V.bl (by decide +kernel))
  · have I25 := I22.ex ((e23.trans e24).trans e25)
    exact k H25 (b07.trans I25.bt) I25.dice.get I25.tabs
end
end K0

namespace K0
open PySem PySem.Spec PyProof.Rows L2 Evl
/-! ### tuples in one another -/
def deepD : Nat → K0.D
  | 0 => .tup []
  | n + 1 => .tup [deepD n]
section
variable {P : Program} {w : World} {K : PySem.W.Frag} {mg : Str → Option Value} {base : Heap} {A : Ad} {D : Fd}
def sp_law_deep (K : PySem.W.Frag) : Sp := fun vs H Q _ => ∃ n : Nat, vs = [.int ((n : Int) + 1)] ∧ n ≤ 100 ∧ RetR K (deepD n) H Q
theorem len_law_deep {vs : List V} {H : Hp} {Q : VK} {E : XK} (h : sp_law_deep K vs H Q E) : vs.length = 1 := by
  obtain ⟨n, rfl, _⟩ := h
  rfl
theorem ok_law_deep (T : Txt K mg A D) : FnOk P w K mg base CX0 1 A.law_deep D.law_deep ["many"] (sp_law_deep K) := by
  refine T.F_law_deep.ok sc_law_deep (fun vs H Q E h => len_law_deep h) (fun cdv A0 outer s H vs Q E hr h => ?_)
  refine ⟨_, (pss_cons (ps_set (i := 1) sc_law_deep.nd rfl (Or.inl rfl) (pe_tup pa_nil))
  (pss_cons (ps_for PassesOwn.never rfl (pi_range1 rfl T.b_range (pa_cons (pe_op op_sub (pv 0) pe_int) pa_nil)) (pg_name (i := 2) sc_law_deep.nd rfl (Or.inl rfl)) (pss_one (ps_set (i := 1) sc_law_deep.nd rfl (Or.inl rfl) (pe_tup (pa_cons (pv 1) pa_nil)))))
  (pss_one (ps_ret (pv 1))))), ?_⟩
  obtain ⟨n, rfl, hn, k⟩ := h
  refine q_asgX (ed_tup (K := K) (ds := []) eda_nil (by simp) H (Ex.refl _) _ fun v1 H1 e1 r1 => ?_)
  refine q_forR1 (n := (n : Int)) (ea_cons (ev_is (ev_op (ev_var rfl) ev_c rv_I0) (congrArg V.int (by omega))) ea_nil) (by omega) (fun i σ' H' => ∃ v v2, σ' = [some (.int ((n : Int) + 1)), some v, v2] ∧ Rp K H' v (deepD i) ∧ Ex H H') (fun H3 e3 => ⟨_, none, rfl, r1.ex e3, e1.trans e3⟩) (fun i σ' H' hi g => ?_) (fun σ' H' g => ?_)
  · obtain ⟨v, v2, rfl, rv, e⟩ := g
    exact ed_tup (K := K) (ds := [deepD i]) (eda_cons (ed_ev (ev_var rfl) rv) eda_nil) (by simp) _ (Ex.refl _) _ fun v' H4 e4 r4 => ⟨v', _, rfl, r4, e.trans e4⟩
  · obtain ⟨v, v2, rfl, rv, e⟩ := g
    rw [Int.toNat_natCast] at rv
    exact s_ret (ev_var rfl) fun H4 e4 => k _ H4 (e.trans e4) (rv.ex e4)
end
end K0

namespace K0
open PySem PySem.Spec PyProof.Rows L2 Evl
section
variable {X : Cx}
/-- a text times a number, exactly -/
def strRep (a : Str) (n : Nat) : Str := ⟨(List.replicate n a.cps).foldl (· ++ ·) #[]⟩
def rMulX : R2 := fun x y H Q => ∃ (s : Str) (n : Nat), x = V.str s ∧ y = V.int (n : Int) ∧ 1 < n ∧ n ≤ 5000 ∧ s.length = 1 ∧ ((strRep s n).length = n → Q (.str (strRep s n)) H)
theorem op_mulX : OpR X (binaryOp .Mult) rMulX := by
  intro pins s σ H x y v u Q I rx ry h
  obtain ⟨a, n, rfl, rfl, h1, h2, hl, q⟩ := h
  obtain ⟨t, rfl⟩ := rx
  obtain ⟨t', rfl⟩ := ry
  have hs : sizeLine = 16777216 := sizeLine_eq
  have hn : ¬ ((n : Int) < 1) := by omega
  have hb : ((n : Int) == 1 || a.length == 0) = false := by
    rw [hl]
    simp
    omega
  have e : (⟨(List.replicate ((n : Int)).toNat a.cps).foldl (· ++ ·) #[]⟩ : Str).length = n := by
    show ((List.replicate ((n : Int)).toNat a.cps).foldl (· ++ ·) #[]).size = n
    rw [fold_size]
    show 0 + ((n : Int)).toNat * a.length = n
    rw [hl]
    omega
  refine PySem.P.mul_str ?_ (fun _ _ => ?_) (fun _ _ => ?_) ?_
  · have c1 : ¬ ((n : Int) < -(2 ^ 63 : Int)) := by omega
    have c2 : ¬ ((n : Int) ≥ 2 ^ 63) := by omega
    rw [decide_eq_false c1, decide_eq_false c2]
    rfl
  · rw [hl]
    have h3 : 1 ≤ (2 ^ 63 - 1 : Int) / (n : Int) := by
      rw [Int.le_ediv_iff_mul_le (by omega)]
      omega
    omega
  · rw [hl]
    unfold Builtin.Str.tooLong
    exact decide_eq_false (by omega)
  · rw [if_neg hn, if_neg (by rw [hb]; decide)]
    exact ⟨by rw [e, hs]; omega, ⟨.str _, H, I.tok _, ⟨_, rfl⟩, (by
    have q' := q (by unfold strRep; rw [Int.toNat_natCast] at e; exact e)
    unfold strRep at q'
    rw [Int.toNat_natCast]
    exact q')⟩⟩
end
section
variable {σ : L2.St} {H : Hp} {K : PySem.W.Frag} {te tt : TE} {ds : List K0.D}
theorem ev_mulX {s : Str} {n : Nat} (h1 : 1 < n) (h2 : n ≤ 5000) (hs : s.length = 1) : Ev (tOp rMulX (tC (.str s)) (tC (.int (n : Int)))) σ H (.str (strRep s n)) := ev_op ev_c ev_c fun H1 e Q q => ⟨s, n, rfl, rfl, h1, h2, hs, fun _ => q H1 (Ex.refl _)⟩
theorem rp_zip : ∀ {xs : List V} {ds : List K0.D}, RpAll K H xs ds → ∀ q ∈ xs.zip ds, Rp K H q.1 q.2 ∧ q.2 ∈ ds
  | _, _, .nil, q, hq => by cases hq
  | _, _, .cons h r, q, hq => by
    rw [List.zip_cons_cons] at hq
    rcases List.mem_cons.mp hq with rfl | hq
    · exact ⟨h, List.mem_cons_self ..⟩
    · exact ⟨(rp_zip r q hq).1, List.mem_cons_of_mem _ (rp_zip r q hq).2⟩
/-- [.. for x in a tuple of data] -/
theorem edl_tupD {j : Nat} {vs : List Nat} {gg : K0.D → K0.D} (h : EvD K tt σ H (.tup ds)) (hz : ds.length ≤ 1000) (hw : ∀ x, wipe ((wipe σ vs).set j (some x)) vs = wipe σ vs)
    (he : ∀ x d H', Rp K H' x d → d ∈ ds → Ex H H' → EvD K te ((wipe σ vs).set j (some x)) H' (gg d)) : EvDL K (tLc (iTup K tt) (gName j) tYes te vs) σ H (ds.map gg) := fun H0 e Q q => h H0 e _ fun v H1 e1 hv => by
  obtain ⟨a, xs, rfl, ha, hr⟩ := hv.tupI
  have hl := hr.len
  have ef : (xs.zip ds).map Prod.fst = xs := List.map_fst_zip (by omega)
  have eg : (xs.zip ds).map (fun p => gg p.2) = ds.map gg := by
    have : (xs.zip ds).map Prod.snd = ds := List.map_snd_zip (by omega)
    show (xs.zip ds).map (gg ∘ Prod.snd) = ds.map gg
    rw [← List.map_map, this]
  have wk := walk_tup (K := K) (a := a) (xs := (xs.zip ds).map Prod.fst)
  rw [List.length_map] at wk
  have ha' : SqT K H1 a ((xs.zip ds).map Prod.fst) := by rw [ef]; exact ha
  refine ⟨a, rfl, ⟨_, ha'⟩, G.lc_dataF (ys := xs.zip ds) (f := Prod.fst) (Pk := fun _ => true) (G := fun p => gg p.2) wk (fun H' e' => ex_t e' ha') (by rw [List.length_zip]; omega) hw (fun y H' _ _ => et_yes) (fun y H' hy _ e' => he y.1 y.2 H' ((rp_zip hr y hy).1.ex e') (rp_zip hr y hy).2 ((e.trans e1).trans e')) fun p xs' H2 hp e2 h2 r => ?_⟩
  have ex : (xs.zip ds).filter (fun _ => true) = xs.zip ds := List.filter_eq_self.mpr fun _ _ => rfl
  rw [ex, eg] at r
  exact q p xs' H2 (fresh_back e1 hp) (e1.trans e2) h2 r
end
/-! ### what is asked of is_block in the end -/
def someDs : List K0.D := [.non, .tup [], .tup [.str "a b9", .non, .int (-5)], deepD 11, deepD 12, .tup [.str (strRep "x" 3000)], .tup [.str (strRep "x" 3001)]]
theorem some_size : ∀ d ∈ someDs, d.size ≤ 30000 := fun d hd => of_decide_eq_true ((List.all_eq_true (p := fun d => decide (K0.D.size d ≤ 30000))).mp (by decide +kernel) d hd)
theorem some_bl : someDs.map (fun d => K0.D.bl d.block) = [.bl true, .bl true, .bl true, .bl true, .bl false, .bl true, .bl false] := by
  have h : someDs.map K0.D.block = [true, true, true, true, false, true, false] := by decide +kernel
  have e : someDs.map (fun d => K0.D.bl d.block) = (someDs.map K0.D.block).map K0.D.bl := by rw [List.map_map]; rfl
  rw [e, h]
  rfl
end K0

namespace K0
open PySem L2 Evl LamX
section
variable {P : Program} {w : World} {K : PySem.W.Frag} {mg : Str → Option Value} {base : Heap} {A : Ad} {D : Fd} {ca : Ca}
theorem bk_int {t : Nat} (h : t < 400) : BkOk (.tup [.int (t : Int)]) := by
  have a : ((List.range 400).all fun t : Nat => K0.D.block (.tup [.int (t : Int)]) && K0.D.fine 5 (.tup [.int (t : Int)])) = true := by decide +kernel
  have b := (Bool.and_eq_true_iff.mp (List.all_eq_true.mp a t (List.mem_range.mpr h)))
  exact ⟨b.1, b.2, by simp only [K0.D.size, K0.D.sizeL]; omega⟩
def wF (i : Nat) : List (Nat × K0.D) := (List.range i).map fun t : Nat => (0, .tup [.int (t : Int)])
def wM (i : Nat) : List (Nat × K0.D) := (List.range i).map fun t : Nat => (t, .tup [.int 1])
theorem wF_s (i : Nat) : wF (i + 1) = wF i ++ [(0, .tup [.int (i : Int)])] := by
  unfold wF
  rw [List.range_succ, List.map_append]
  rfl
theorem wM_s (i : Nat) : wM (i + 1) = wM i ++ [(i, .tup [.int 1])] := by
  unfold wM
  rw [List.range_succ, List.map_append]
  rfl
theorem wF_l (i : Nat) : (wF i).length = i := by unfold wF; rw [List.length_map, List.length_range]
theorem wM_l (i : Nat) : (wM i).length = i := by unfold wM; rw [List.length_map, List.length_range]
abbrev nS (n : Nat) : List K0.D := List.replicate n .non
theorem ek_empty {σ : L2.St} {H : Hp} {E : XK} (n : Nat) (h1 : 1 ≤ n) (h2 : n ≤ 200) : EvK K A.Disk (ClX.tCMeth A.Disk (sp_Disk_emptyX K A) E (tC (.ref A.Disk)) (tCons (tC (.int (n : Int))) tNil)) σ H (nS n) [] := fun H1 e Q q =>
  ⟨rfl, n_cons (ev_c (σ := σ) H1 (Ex.refl _) _ fun H2 e2 => n_nil ⟨_, .int (n : Int), rfl, .int _, (fun z => by rw [within_nat1 rfl h1 h2] at z; cases z), fun m hm _ _ => by
    injection hm with hm
    obtain rfl : n = m := by omega
    exact fun q' H3 e3 d => q q' H3 (e2.trans e3) d⟩)⟩
theorem ek_put {σ : L2.St} {H : Hp} {ta t1 t2 : TE} {S : List K0.D} {W : List (Nat × K0.D)} {n : Nat} {d : K0.D} (h : EvK K A.Disk ta σ H S W) (h1 : Ev t1 σ H (.int (n : Int))) (h2 : EvD K t2 σ H d) (hn : n < S.length) (hb : BkOk d) (hw : W.length < 400) (hl : S.length ≤ 200) {E : XK} :
    EvK K A.Disk (tMeth A.Disk "put" (sp_Disk_putX K A) [] E ta (tCons t1 (tCons t2 tNil))) σ H S (W ++ [(n, d)]) :=
  ek_methA (sp := sp_Disk_putX K A) h (look_m rfl rfl) (eda_cons (ed_ev h1 (.int _)) (eda_cons h2 eda_nil)) fun p vs H1 e d r Q q => c_put1 (n := n) d r hn hb hw hl q
theorem ed_1 {σ : L2.St} {H : Hp} {i : Int} : EvD K (tTup (tCons (tC (.int i)) tNil)) σ H (.tup [.int i]) := ed_tup (eda_cons (ed_ev ev_c (.int _)) eda_nil) (by simp)
theorem c_methL {σ : L2.St} {H : Hp} {ta : TE} {tr : TA} {C p dx : Addr} {fs : List (Str × V)} {m : Str} {sp : Sp} {E : XK} {Q : VK} {ds : List K0.D} (h : Ev ta σ H (.ref p)) (hp : H p = some (.ins C dx fs)) (l : fs.lookup m = none) (ha : EvDA K tr σ H ds)
    (k : ∀ vs H1, Ex H H1 → RpAll K H1 vs ds → sp (.ref p :: vs) H1 Q E) : tMeth C m sp [] E ta tr σ H Q := h H (Ex.refl _) _ fun H1 e1 => ⟨p, dx, fs, rfl, e1 _ _ hp, l, ha H1 e1 _ fun vs H2 e2 r => by
  show sp (.ref p :: (vs ++ [])) H2 Q E
  rw [List.append_nil]
  exact k vs H2 (e1.trans e2) r⟩
theorem disk_none {C p : Addr} {S : List K0.D} {W : List (Nat × K0.D)} {H G : Hp} (h : DiskAt K C H p S W) (e : BtO none H G) : DiskAt K C G p S W := by
  have og : Off none (DiskN K C S W) H (.ref p) := ⟨p, rfl, by rw [hid_none]; exact h⟩
  obtain ⟨p', r, h1⟩ := Off.get mDiskN e og
  cases r
  exact h1
def wQ : List (Nat × K0.D) := (wM 11 ++ [(0, .tup [.int 2])]) ++ [(1, .tup [.int 2])]
theorem many_all : prodL (vers (nS 11) (wM 11)) = 2048 := by decide +kernel
theorem more_all : prodL (vers (nS 11) wQ) = 4608 := by decide +kernel
def toldL : List K0.D := [wordsD "refused" "many 400", wordsD "refused" "number 1", wordsD "let" "", wordsD "refused" "many 4000"]
theorem toldL_fine : ∀ d ∈ toldL, K0.D.fine 2 d = true := fun d hd => (List.all_eq_true (p := fun d => K0.D.fine 2 d)).mp (by decide +kernel) d hd
theorem ok2 : BkOk (.tup [.int 2]) := bk_i 2 (by decide)
theorem ok1 : BkOk (.tup [.int 1]) := bk_i 1 (by decide)
theorem bls_fine : ∀ d ∈ ([.bl true, .bl true, .bl true, .bl true, .bl false, .bl true, .bl false] : List K0.D), K0.D.fine 1 d = true := fun d hd => (List.all_eq_true (p := fun d => K0.D.fine 1 d)).mp (by decide +kernel) d hd
theorem c3_fine : ∀ d ∈ ([.int 200, .int 400, .int 4000] : List K0.D), K0.D.fine 1 d = true := fun d hd => (List.all_eq_true (p := fun d => K0.D.fine 1 d)).mp (by decide +kernel) d hd
theorem n_call1 {σ : L2.St} {H : Hp} {sp : Sp} {E : XK} {te : TE} {Q : VK} (h : te σ H fun v H1 => sp [v] H1 Q E) : tCall sp [] E (tCons te tNil) σ H Q := h
theorem ed_deep {σ : L2.St} {H : Hp} (n : Nat) (hn : n ≤ 100) {E : XK} : EvD K (tCall (sp_law_deep K) [] E (tCons (tC (.int ((n : Int) + 1))) tNil)) σ H (deepD n) := fun H1 e Q q => n_call1 (ev_c H1 (Ex.refl _) _ fun H2 e2 => ⟨n, rfl, hn, fun v H3 e3 r => q v H3 (e2.trans e3) r⟩)
theorem ev_eqLN {σ : L2.St} {H : Hp} {ta tb : TE} {ds es : List K0.D} {n : Nat} (h1 : EvDL K ta σ H ds) (h2 : EvDL K tb σ H es) (fd : ∀ d ∈ ds, d.fine n = true) (fe : ∀ d ∈ es, d.fine n = true) (hn : n + 1 ≤ 64) :
    Ev (tOp (rEqD K) ta tb) σ H (.bl (PyData.eqvAll (K0.D.pyL ds) (K0.D.pyL es))) := fun H1 e Q q => h1 H1 e _ fun p0 xs H2 hp0 e2 hx rx => h2 H2 (e.trans e2) _ fun p ys H3 hp e3 h3 ry =>
  ⟨.list (K0.D.pyL ds), .list (K0.D.pyL es), dpL (e3 _ _ hx) (rx.ex e3) (fine_all ds fd).1, dpL h3 ry (fine_all es fe).1, shapedL_of fd hn, shapedL_of fe hn, q H3 (e2.trans e3)⟩
theorem ok0 : BkOk (.tup [.int 0]) := bk_i 0 (by decide)
def sp_law (K : PySem.W.Frag) (ca : Ca) : Sp := fun vs H Q _ => ∃ (a : Addr) (ns : List Int), vs = [.ref a] ∧ SqL K H a (ns.map V.int) ∧ ns.length ≤ 63 ∧ Tabs ca.tabs H ∧ ∀ H', Q (.bl true) H'
theorem ok_law (T : Txt K mg A D) (HL : LamH base mg D ca) : FnG P w K mg base CX0 56 A.law D.law ["script"] (sp_law K ca) := by
  have G_law_dice : FnOk P w K mg base CX0 1 A.law_dice D.law_dice ["script", "spot"] (sp_law_dice K) := ok_law_dice T
  have G_law_deep := ok_law_deep (P := P) (w := w) (base := base) T
  have G_law_right := ok_law_right (P := P) (w := w) (base := base) T HL
  have G_is_block := ok_is_block (P := P) (w := w) (base := base) T
  have G_Disk_empty := ok_Disk_emptyX (P := P) (w := w) (base := base) T
  have G_Disk_put := ok_Disk_putX (P := P) (w := w) (base := base) T
  have G_Disk_len := ok_Disk_len (P := P) (w := w) (base := base) T
  have G_Disk_waiting := ok_Disk_waiting (P := P) (w := w) (base := base) T
  have G_falls_count := ok_falls_countX (P := P) (w := w) (base := base) T
  have G_each_fall := ok_each_fall (P := P) (w := w) (base := base) T
  obtain ⟨_, hc_Disk_empty⟩ := T.cm_Disk_empty
  obtain ⟨_, hp_Disk_waiting⟩ := T.p_Disk_waiting
  obtain ⟨t_MAX_BLOCKS, c_MAX_BLOCKS⟩ := T.c_MAX_BLOCKS
  obtain ⟨t_MAX_WAITING, c_MAX_WAITING⟩ := T.c_MAX_WAITING
  obtain ⟨t_MOST_FALLS, c_MOST_FALLS⟩ := T.c_MOST_FALLS
  refine okG T.F_law sc_law (fun vs H Q E h => by obtain ⟨a, ns, rfl, _⟩ := h; rfl) (fun cdv A0 outer s H vs Q E hcdv gd hr h => ?_)
  obtain rfl : cdv = .ref ca.c1 := hcdv.symm.trans HL.c_law
  refine ⟨_, PSs.nox (pss_cons (ps_for PassesOwn.never rfl (pi_range1 rfl T.b_range (pa_cons (pe_callB (call_max2 rfl) (by rfl) T.b_max (by decide +kernel) (pa_cons pe_int (pa_cons (pe_callB (call_min2 rfl) (by rfl) T.b_min (by decide +kernel) (pa_cons pe_int (pa_cons (pe_callB call_len (by rfl) T.b_len (by decide +kernel) (pa_cons (pv 0) pa_nil)) pa_nil))) pa_nil))) pa_nil)) (pg_name (i := 1) sc_law.nd rfl (Or.inl rfl)) (pss_one (ps_if (pt_not (pt_val (pe_callG G_law_right gd (hr.mono (by decide)) rfl T.g_law_right T.F_law_right.kp T.b_law_right pass0 (pa_cons (pe_call G_law_dice (hr.mono (by decide)) rfl T.g_law_dice T.F_law_dice.kp T.b_law_dice .nil pass0 (pa_cons (pv 0) (pa_cons (pv 1) pa_nil))) pa_nil)))) (pss_one (ps_ret pe_bl)) pss_nil)))
  (pss_cons (ps_asg (pe_tup (pa_cons (ClX.pe_cmeth (pe_glob (v := .ref A.Disk) rfl T.g_Disk rfl) T.rd_Disk hc_Disk_empty (fnr_of G_Disk_empty T.b_Disk_empty) (hr.mono (by decide)) pass0 (pa_cons pe_int pa_nil)) (pa_cons (ClX.pe_cmeth (pe_glob (v := .ref A.Disk) rfl T.g_Disk rfl) T.rd_Disk hc_Disk_empty (fnr_of G_Disk_empty T.b_Disk_empty) (hr.mono (by decide)) pass0 (pa_cons pe_int pa_nil)) (pa_cons (ClX.pe_cmeth (pe_glob (v := .ref A.Disk) rfl T.g_Disk rfl) T.rd_Disk hc_Disk_empty (fnr_of G_Disk_empty T.b_Disk_empty) (hr.mono (by decide)) pass0 (pa_cons pe_int pa_nil)) pa_nil)))) (pg_tup rfl (pgs_cons (pg_name (i := 2) sc_law.nd rfl (Or.inl rfl)) (pgs_cons (pg_name (i := 3) sc_law.nd rfl (Or.inr rfl)) (pgs_cons (pg_name (i := 4) sc_law.nd rfl (Or.inr rfl)) pgs_nil)))))
  (pss_cons (ps_for PassesOwn.never rfl (pi_range1 rfl T.b_range (pa_cons pe_int pa_nil)) (pg_name (i := 5) sc_law.nd rfl (Or.inl rfl)) (pss_one (ps_set (i := 3) sc_law.nd rfl (Or.inr rfl) (pe_meth (pv 3) T.cl_Disk T.m_Disk_put G_Disk_put (hr.mono (by decide)) T.b_Disk_put .nil pass0 (pa_cons pe_int (pa_cons (pe_tup (pa_cons (pv 5) pa_nil)) pa_nil))))))
  (pss_cons (ps_for PassesOwn.never rfl (pi_range1 rfl T.b_range (pa_cons pe_int pa_nil)) (pg_name (i := 6) sc_law.nd rfl (Or.inl rfl)) (pss_one (ps_set (i := 4) sc_law.nd rfl (Or.inr rfl) (pe_meth (pv 4) T.cl_Disk T.m_Disk_put G_Disk_put (hr.mono (by decide)) T.b_Disk_put .nil pass0 (pa_cons (pv 6) (pa_cons (pe_tup (pa_cons pe_int pa_nil)) pa_nil))))))
  (pss_cons (ps_set (i := 7) sc_law.nd rfl (Or.inr rfl) (pe_meth (pe_meth (pv 4) T.cl_Disk T.m_Disk_put G_Disk_put (hr.mono (by decide)) T.b_Disk_put .nil pass0 (pa_cons pe_int (pa_cons (pe_tup (pa_cons pe_int pa_nil)) pa_nil))) T.cl_Disk T.m_Disk_put G_Disk_put (hr.mono (by decide)) T.b_Disk_put .nil pass0 (pa_cons pe_int (pa_cons (pe_tup (pa_cons pe_int pa_nil)) pa_nil))))
  (pss_cons (ps_set (i := 8) sc_law.nd rfl (Or.inl rfl) (pe_lst (pa_cons (pe_lmG (TT := ca.tabs) (k := 46) T.g_law_fault T.F_law_fault T.b_law_fault sc_law_fault rfl (Or.inl rfl) (met_gives T gd hr) HL.t_law rfl HL.m_law HL.u_law (hr.mono (by decide)) (show LamX.lamSB (defScope s_law) _ = true by decide +kernel) rfl rfl (fun _ _ _ _ _ => rfl) (fun A1 o1 s1 H1 E1 f1 c1 hr => (pe_meth (pv 3) T.cl_Disk T.m_Disk_put G_Disk_put (hr.mono (by decide)) T.b_Disk_put .nil (passes_call (takes_of rfl rfl rfl rfl) (fun _ _ _ _ z => z)) (pa_cons pe_int (pa_cons (pe_tup (pa_cons pe_int pa_nil)) pa_nil))))) pa_nil)))
  (pss_cons (ps_expr (pe_bm PySem.F.plainAttrs_list PySem.F.slot_list_append PySem.F.type_list_append mt_append (pv 8) (pa_cons (pe_lmG (TT := ca.tabs) (k := 46) T.g_law_fault T.F_law_fault T.b_law_fault sc_law_fault rfl (Or.inl rfl) (met_gives T gd hr) HL.t_law rfl HL.m_law HL.u_law (hr.mono (by decide)) (show LamX.lamSB (defScope s_law) _ = true by decide +kernel) rfl rfl (fun _ _ _ _ _ => rfl) (fun A1 o1 s1 H1 E1 f1 c1 hr => (pe_meth (pv 3) T.cl_Disk T.m_Disk_put G_Disk_put (hr.mono (by decide)) T.b_Disk_put .nil (passes_call (takes_of rfl rfl rfl rfl) (fun _ _ _ _ z => z)) (pa_cons pe_int (pa_cons (pe_tup (pa_cons pe_int pa_nil)) pa_nil))))) pa_nil)))
  (pss_cons (ps_expr (pe_bm PySem.F.plainAttrs_list PySem.F.slot_list_append PySem.F.type_list_append mt_append (pv 8) (pa_cons (pe_lmG (TT := ca.tabs) (k := 46) T.g_law_fault T.F_law_fault T.b_law_fault sc_law_fault rfl (Or.inl rfl) (met_gives T gd hr) HL.t_law rfl HL.m_law HL.u_law (hr.mono (by decide)) (show LamX.lamSB (defScope s_law) _ = true by decide +kernel) rfl rfl (fun _ _ _ _ _ => rfl) (fun A1 o1 s1 H1 E1 f1 c1 hr => (pe_listG (E := NSE _ E1) (pgen_call G_each_fall (hr.mono (by decide)) rfl T.g_each_fall T.F_each_fall.kp T.b_each_fall .nil (pa_cons (pv 4) pa_nil)) (passes_call (takes_of rfl rfl rfl rfl) (fun _ _ _ _ z => z.2)) (fun _ _ _ z => z.1) (hr.mono (by decide)) (by rfl) T.b_list (by decide +kernel)))) pa_nil)))
  (pss_cons (ps_expr (pe_bm PySem.F.plainAttrs_list PySem.F.slot_list_append PySem.F.type_list_append mt_append (pv 8) (pa_cons (pe_lmG (TT := ca.tabs) (k := 46) T.g_law_fault T.F_law_fault T.b_law_fault sc_law_fault rfl (Or.inl rfl) (met_gives T gd hr) HL.t_law rfl HL.m_law HL.u_law (hr.mono (by decide)) (show LamX.lamSB (defScope s_law) _ = true by decide +kernel) rfl rfl (fun _ _ _ _ _ => rfl) (fun A1 o1 s1 H1 E1 f1 c1 hr => (pe_listG (E := NSE _ E1) (pgen_call G_each_fall (hr.mono (by decide)) rfl T.g_each_fall T.F_each_fall.kp T.b_each_fall .nil (pa_cons (pv 7) pa_nil)) (passes_call (takes_of rfl rfl rfl rfl) (fun _ _ _ _ z => z.2)) (fun _ _ _ z => z.1) (hr.mono (by decide)) (by rfl) T.b_list (by decide +kernel)))) pa_nil)))
  (pss_cons (ps_if (PW.pt (pw_or (pt_cmpR (op_neD hr.units) (pv 8) (pe_lst (pa_cons (pe_tup (pa_cons pe_str (pa_cons pe_str pa_nil))) (pa_cons (pe_tup (pa_cons pe_str (pa_cons pe_str pa_nil))) (pa_cons (pe_tup (pa_cons pe_str (pa_cons pe_str pa_nil))) (pa_cons (pe_tup (pa_cons pe_str (pa_cons pe_str pa_nil))) pa_nil))))) (nomark _)) (pw_or1 (pt_cmpR op_ne (pe_call G_falls_count (hr.mono (by decide)) rfl T.g_falls_count T.F_falls_count.kp T.b_falls_count .nil pass0 (pa_cons (pv 7) pa_nil)) pe_int (nomark _))))) (pss_one (ps_ret pe_bl)) pss_nil)
  (pss_cons (ps_setLc (i := 9) (own := [("value", 10)]) (g := gName 10) (tt := tYes) rfl sc_law.nd rfl rfl (sw_true rfl rfl rfl (by decide +kernel)) (pi_tup (pe_tup (pa_cons pe_non (pa_cons (pe_tup pa_nil) (pa_cons (pe_tup (pa_cons pe_str (pa_cons pe_non (pa_cons (pe_un un_neg pe_int) pa_nil)))) (pa_cons (pe_call G_law_deep (hr.mono (by decide)) rfl T.g_law_deep T.F_law_deep.kp T.b_law_deep .nil pass0 (pa_cons pe_int pa_nil)) (pa_cons (pe_call G_law_deep (hr.mono (by decide)) rfl T.g_law_deep T.F_law_deep.kp T.b_law_deep .nil pass0 (pa_cons pe_int pa_nil)) (pa_cons (pe_tup (pa_cons (pe_op op_mulX pe_str pe_int) pa_nil)) (pa_cons (pe_tup (pa_cons (pe_op op_mulX pe_str pe_int) pa_nil)) pa_nil))))))))) (blkOk_by (own := [("value", 10)]) (N := N_law) (sc := defScope s_law) (by decide +kernel)) (fun _ _ _ _ _ => by exact pg_name (i := 10) sc_law.nd rfl (Or.inl rfl)) (fun _ _ _ _ _ => by exact pts_nil) (fun _ _ _ _ _ => by exact (pe_call G_is_block (hr.mono (by decide)) rfl T.g_is_block T.F_is_block.kp T.b_is_block .nil pass0 (pa_cons (pv 10) pa_nil))))
  (pss_cons (ps_if (PW.pt (pw_or (pt_cmpR (op_neD hr.units) (pv 9) (pe_lst (pa_cons pe_bl (pa_cons pe_bl (pa_cons pe_bl (pa_cons pe_bl (pa_cons pe_bl (pa_cons pe_bl (pa_cons pe_bl pa_nil)))))))) (nomark _)) (pw_or (pt_cmpR op_ne (pe_callB (cr_lenO G_Disk_len (hr.mono (by decide)) T.b_Disk_len pass0 T.m_Disk_len.at_ T.m_Disk_len.fn) (by rfl) T.b_len (by decide +kernel) (pa_cons (pv 2) pa_nil)) pe_int (nomark _)) (pw_or1 (pt_cmpR op_ne (pe_callB call_len (by rfl) T.b_len (by decide +kernel) (pa_cons (pe_prop (pv 3) T.cl_Disk hp_Disk_waiting G_Disk_waiting (hr.mono (by decide)) T.b_Disk_waiting .nil pass0 (by rfl)) pa_nil)) pe_int (nomark _)))))) (pss_one (ps_ret pe_bl)) pss_nil)
  (pss_one (ps_ret (pe_cmpR (op_eqD hr.units) (pe_lst (pa_cons (pe_glob (v := .int (200)) rfl c_MAX_BLOCKS ⟨_, rfl⟩) (pa_cons (pe_glob (v := .int (400)) rfl c_MAX_WAITING ⟨_, rfl⟩) (pa_cons (pe_glob (v := .int (4000)) rfl c_MOST_FALLS ⟨_, rfl⟩) pa_nil)))) (pe_lst (pa_cons pe_int (pa_cons pe_int (pa_cons pe_int pa_nil)))) (nomark _)))))))))))))))), ?_⟩
  obtain ⟨a, ns, rfl, hS, hlen, ht, k⟩ := h
  have hz : (ns.map V.int).length = ns.length := List.length_map ..
  refine q_forR1 (n := if (if ((ns.map V.int).length : Int) < 4 then ((ns.map V.int).length : Int) else 4) > 1 then (if ((ns.map V.int).length : Int) < 4 then ((ns.map V.int).length : Int) else 4) else 1) (ea_cons (ev_cb (ea_cons ev_c (ea_cons (ev_cb (ea_cons ev_c (ea_cons (ev_cb (ea_cons (ev_var rfl) ea_nil) (rc_lenL hS)) ea_nil)) rc_min2) ea_nil)) rc_max2) ea_nil)
    (by split <;> split <;> omega) (fun i σ' H' => ∃ v1, σ' = [some (.ref a), v1, none, none, none, none, none, none, none, none, none] ∧ SqL K H' a (ns.map V.int) ∧ Tabs ca.tabs H') (fun H3 e3 => ⟨none, rfl, ex_l e3 hS, ht.ext e3⟩) (fun i σ' H' hi g => ?_) (fun σ' H' g => ?_)
  · obtain ⟨v1, rfl, hS', t1⟩ := g
    refine n_ifS (n_not (n_B (d_raw (n_cons (d_raw (n_cons (n_var rfl (n_cons (n_var rfl (n_nil ⟨a, ns, i, rfl, hS', fun d H4 hd e4 dd => n_nil ⟨d, rfl, dd, t1.ext e4, fun H6 b6 d6 t6 => ⟨true, rfl, ?_⟩⟩⟩))))))))))
    rw [if_neg (by decide)]
    exact n_next ⟨_, rfl, sq_btO hd hS' e4 b6, t6⟩
  · obtain ⟨v1, rfl, hS', t1⟩ := g
    clear hS hS'
    refine q_asgG (n_tup (n_cons (ek_empty 200 (by decide) (by decide) H' (Ex.refl _) _ fun pw H1 e1 d1 => n_cons (ek_empty 1 (by decide) (by decide) H1 (Ex.refl _) _ fun pf H2 e2 d2 => n_cons (ek_empty 11 (by decide) (by decide) H2 (Ex.refl _) _ fun pm H3 e3 d3 => n_nil ⟨sz_of (by simp), fun pt hpt => ?_⟩)))))
    have e4 : Ex H3 (upd H3 pt (.tup [.ref pw, .ref pf, .ref pm])) := Ex.new hpt
    refine ⟨pt, _, rfl, st_of upd_same, rfl, _, _, rfl, _, _, rfl, _, _, rfl, rfl, ?_⟩
    have hW := d1.ex ((e2.trans e3).trans e4)
    have hF := d2.ex (e3.trans e4)
    have hM := d3.ex e4
    have t4 := t1.ext (((e1.trans e2).trans e3).trans e4)
    generalize (upd H3 pt (.tup [.ref pw, .ref pf, .ref pm])) = H4 at hW hF hM t4
    clear e4 hpt e3 e2 e1
    refine q_forR1 (n := (400 : Int)) (ea_cons ev_c ea_nil) (by decide) (fun i σ' H' => ∃ p v5, σ' = [some (.ref a), v1, some (.ref pw), some (.ref p), some (.ref pm), v5, none, none, none, none, none] ∧ DiskAt K A.Disk H' pw (nS 200) [] ∧ DiskAt K A.Disk H' p (nS 1) (wF i) ∧ DiskAt K A.Disk H' pm (nS 11) [] ∧ Tabs ca.tabs H') (fun H5 e5 => ⟨pf, none, rfl, hW.ex e5, hF.ex e5, hM.ex e5, t4.ext e5⟩) (fun i σ' H' hi g => ?_) (fun σ' H' g => ?_)
    · obtain ⟨p, v5, rfl, hW', hF', hM', t5⟩ := g
      have hi' : i < 400 := by omega
      refine ek_put (ek_ev (ev_var rfl) hF') ev_c (ed_tup (eda_cons (ed_ev (ev_var rfl) (.int _)) eda_nil) (by simp)) (by decide) (bk_int hi') (by rw [wF_l]; omega) (by decide) H' (Ex.refl _) _ fun p' H6 e6 d6 => ⟨p', _, rfl, hW'.ex e6, ?_, hM'.ex e6, t5.ext e6⟩
      rw [wF_s]
      exact d6
    obtain ⟨p, v5, rfl, hW', hF', hM', t5⟩ := g
    refine q_forR1 (n := (11 : Int)) (ea_cons ev_c ea_nil) (by decide) (fun i σ' H' => ∃ pm v6, σ' = [some (.ref a), v1, some (.ref pw), some (.ref p), some (.ref pm), v5, v6, none, none, none, none] ∧ DiskAt K A.Disk H' pw (nS 200) [] ∧ DiskAt K A.Disk H' p (nS 1) (wF 400) ∧ DiskAt K A.Disk H' pm (nS 11) (wM i) ∧ Tabs ca.tabs H') (fun H5 e5 => ⟨pm, none, rfl, hW'.ex e5, hF'.ex e5, hM'.ex e5, t5.ext e5⟩) (fun i σ' H' hi g => ?_) (fun σ' H' g => ?_)
    · obtain ⟨pm, v6, rfl, hW', hF', hM', t5⟩ := g
      have hi' : i < 11 := by omega
      refine ek_put (n := i) (ek_ev (ev_var rfl) hM') (ev_var rfl) ed_1 (by show i < 11; exact hi') ok1 (by rw [wM_l]; omega) (by decide) H' (Ex.refl _) _ fun p' H6 e6 d6 => ⟨p', _, rfl, hW'.ex e6, hF'.ex e6, ?_, t5.ext e6⟩
      rw [wM_s]
      exact d6
    clear hW' hF' hM' t5 hW hF hM t4
    obtain ⟨pm, v6, rfl, hW', hF', hM', t5⟩ := g
    refine q_asgX (ek_put (n := 1) (ek_put (n := 0) (ek_ev (ev_var rfl) (show DiskAt K A.Disk H' pm (nS 11) (wM 11) from hM')) ev_c ed_1 (by decide) ok2 (by decide) (by decide)) ev_c ed_1 (by decide) ok2 (by decide) (by decide) H' (Ex.refl _) _ fun pq H7 e7 hQ7 => ?_)
    have gF : ∀ {G : Hp}, BtO none H7 G → DiskAt K A.Disk G p (nS 1) (wF 400) := fun e => disk_none (hF'.ex e7) e
    have gM : ∀ {G : Hp}, BtO none H7 G → DiskAt K A.Disk G pm (nS 11) (wM 11) := fun e => disk_none (hM'.ex e7) e
    have gQ : ∀ {G : Hp}, BtO none H7 G → DiskAt K A.Disk G pq (nS 11) wQ := fun e => disk_none hQ7 e
    have gW : ∀ {G : Hp}, BtO none H7 G → DiskAt K A.Disk G pw (nS 200) [] := fun e => disk_none (hW'.ex e7) e
    have t7 := t5.ext e7
    have w400 : wordsD "refused" "many 400" = wordsD "refused" (manyW (.int 400)) := congrArg (fun z => wordsD "refused" z) (show ("many 400" : Str) = manyW (.int 400) from by decide +kernel)
    have w4000 : wordsD "refused" "many 4000" = wordsD "refused" (manyW (.int 4000)) := congrArg (fun z => wordsD "refused" z) (show ("many 4000" : Str) = manyW (.int 4000) from by decide +kernel)
    have w1 : wordsD "refused" "number 1" = wordsD "refused" (numW (.int 1)) := congrArg (fun z => wordsD "refused" z) (show ("number 1" : Str) = numW (.int 1) from by decide +kernel)
    refine q_told0 (K := K) (fine := fineF) (r := wordsD "refused" "many 400") tff DiceO.none t7 (fun G E b dG tG hE Q _ => ?_) fun l H10 I10 => ?_
    · have hD := gF b
      obtain ⟨⟨dx, va, vb, hp, _⟩, _⟩ := id hD
      refine c_methL (K := K) (ds := [.int 0, .tup [.int 0]]) (ev_var rfl) hp (look_m rfl rfl _ _) (eda_cons (ed_ev ev_c (.int _)) (eda_cons ed_1 eda_nil)) fun vs G1 e1 r => ?_
      cases r with
      | cons r1 r =>
        cases r with
        | cons r2 r =>
          cases r
          refine ⟨p, nS 1, wF 400, _, _, .int 0, .tup [.int 0], rfl, hD.ex e1, r1, r2, by decide, (fun z => absurd z (by decide +kernel)), fun n hn hl => ⟨(fun z => absurd z (by decide +kernel)), fun _ => ⟨fun _ dd G2 e2 h2 => ?_, fun z => ?_⟩⟩⟩
          · exact hE _ _ G2 (BtO.ofE (e1.trans e2)) DiceO.none (tG.ext (e1.trans e2)) (.inr (.inr (.inr (.inr ⟨rfl, dd, _, .int 400, rfl, h2, .int _, by decide +kernel, by decide +kernel, w400⟩))))
          · rw [wF_l] at z
            exact absurd z (by decide)
    refine q_toldA (K := K) (fine := fineF) (r := wordsD "refused" "number 1") tff rfl (by simp) rfl rfl I10 (fun G E b dG tG hE Q _ => ?_) fun H11 I11 => ?_
    · have hD := gF b
      obtain ⟨⟨dx, va, vb, hp, _⟩, _⟩ := id hD
      refine c_methL (K := K) (ds := [.int 1, .tup [.int 0]]) (ev_var rfl) hp (look_m rfl rfl _ _) (eda_cons (ed_ev ev_c (.int _)) (eda_cons ed_1 eda_nil)) fun vs G1 e1 r => ?_
      cases r with
      | cons r1 r =>
        cases r with
        | cons r2 r =>
          cases r
          cases r1
          refine ⟨p, nS 1, wF 400, _, _, .int 1, .tup [.int 0], rfl, hD.ex e1, .int 1, r2, by decide, (fun _ dd G2 e2 h2 => ?_), fun n hn hl => ?_⟩
          · exact hE _ _ G2 (BtO.ofE (e1.trans e2)) DiceO.none (tG.ext (e1.trans e2)) (.inr (.inr (.inr (.inl ⟨rfl, dd, _, .int 1, rfl, h2, .int _, by decide +kernel, by decide +kernel, w1⟩))))
          · injection hn with hn
            have : n < 1 := hl
            omega
    refine q_toldA (K := K) (fine := fineF) (r := fineF) tff rfl (by simp) rfl rfl I11 (fun G E b dG tG hE Q hQ => ?_) fun H12 I12 => ?_
    · exact n_listG (n_cons (n_var rfl (n_nil ⟨.ref pm, rfl, .inr ⟨pm, nS 11, wM 11, rfl, gM b, (fun z => by rw [many_all] at z; exact absurd z (by decide)), fun _ out G2 e2 l hl => hQ _ _ (BtO.ofE (e2.trans (Ex.new hl))) DiceO.none (tG.ext (e2.trans (Ex.new hl))) rfl⟩⟩)))
    refine q_toldA (K := K) (fine := fineF) (r := wordsD "refused" "many 4000") tff rfl (by simp) rfl rfl I12 (fun G E b dG tG hE Q _ => ?_) fun H13 I13 => ?_
    · exact n_listG (n_cons (n_var rfl (n_nil ⟨.ref pq, rfl, .inr ⟨pq, nS 11, wQ, rfl, gQ b, (fun _ dd G2 e2 h2 => ⟨T.nst_TooMany, hE _ _ G2 (BtO.ofE e2) DiceO.none (tG.ext e2) (.inr (.inr (.inr (.inr ⟨rfl, dd, _, .int 4000, rfl, h2, .int _, by decide +kernel, by decide +kernel, w4000⟩))))⟩), fun z => by rw [more_all] at z; exact absurd z (by decide)⟩⟩)))
    have b13 := I13.bt
    obtain ⟨vs, hl, rl⟩ := I13.lst
    have evQ : ∀ {σ : L2.St} {te : TE}, Ev te σ H13 (.ref pq) → Ev (tCall (sp_falls_countX K A) [] E0 (tCons te tNil)) σ H13 (.int ((4608 : Nat) : Int)) := fun h H1 e Q q => n_call1 (h H1 e _ fun H2 e2 => ⟨.ref pq, rfl, .inr ⟨pq, nS 11, wQ, rfl, (gQ b13).ex (e.trans e2), fun H3 e3 => by rw [more_all]; exact q H3 (e2.trans e3)⟩⟩)
    refine q_when (b := false) (et_or (a := false) (b := false) (et_is (et_test (ev_neDL (n := 2) (ds := toldL) (es := toldL) (ev_var rfl) hl rl (G.edl_lst (eda_cons (ed_tup (eda_cons ed_str (eda_cons ed_str eda_nil)) (by simp)) (eda_cons (ed_tup (eda_cons ed_str (eda_cons ed_str eda_nil)) (by simp)) (eda_cons (ed_tup (eda_cons ed_str (eda_cons ed_str eda_nil)) (by simp)) (eda_cons (ed_tup (eda_cons ed_str (eda_cons ed_str eda_nil)) (by simp)) eda_nil)))) (by show 4 ≤ 1000; decide)) toldL_fine toldL_fine (by decide))) (by rw [eqvAll_self _ (fine_all _ toldL_fine).1]; rfl)) fun _ =>
      et_is (et_test (ev_op (evQ (ev_var rfl)) ev_c (rv_ne rfl))) (by decide +kernel)) (fun z => by cases z) fun _ H14 e14 => ?_
    refine G.q_asgDL (K := K) (ds := someDs.map fun d => K0.D.bl d.block) (edl_tupD (ds := someDs) (gg := fun d => .bl d.block) (ed_tup (ds := someDs) (eda_cons ed_non (eda_cons (ed_tup eda_nil (by simp)) (eda_cons (ed_tup (eda_cons ed_str (eda_cons ed_non (eda_cons (ed_ev (ev_un ev_c ru_neg) (.int _)) eda_nil))) (by simp)) (eda_cons (ed_deep 11 (by decide)) (eda_cons (ed_deep 12 (by decide)) (eda_cons (ed_tup (eda_cons (ed_ev (ev_mulX (n := 3000) (by decide) (by decide) (by decide)) (.str _)) eda_nil) (by simp)) (eda_cons (ed_tup (eda_cons (ed_ev (ev_mulX (n := 3001) (by decide) (by decide) (by decide)) (.str _)) eda_nil) (by simp)) eda_nil))))))) (by decide)) (by decide) (fun _ => rfl)
      (fun x d H' hx hd _ => ed_ev (ev_call (ea_cons (ev_var rfl) ea_nil) (svS hx (some_size d hd))) (.bl _))) fun ps xs H15 hps e15 h15 r15 => ?_
    rw [some_bl] at r15
    have hW5 := (gW b13).ex (e14.trans e15)
    have hF5 := (gF b13).ex (e14.trans e15)
    obtain ⟨⟨dx, va, vb, hp, _⟩, _⟩ := id hW5
    have eW : ∀ {σ : L2.St} {te : TE}, EvD K te σ H15 (.tup ((wF 400).map prD)) → Ev _ σ H15 (.int (((wF 400).map prD).length : Nat)) := fun h => ev_lenD h
    have hlen4 : ((wF 400).map prD).length = 400 := by rw [List.length_map, wF_l]
    refine q_when (b := false) (et_or (a := false) (b := false) (et_is (et_test (ev_neDL (n := 1) (es := [.bl true, .bl true, .bl true, .bl true, .bl false, .bl true, .bl false]) (ev_var rfl) h15 r15 (G.edl_lst (eda_cons (ed_ev ev_c (.bl _)) (eda_cons (ed_ev ev_c (.bl _)) (eda_cons (ed_ev ev_c (.bl _)) (eda_cons (ed_ev ev_c (.bl _)) (eda_cons (ed_ev ev_c (.bl _)) (eda_cons (ed_ev ev_c (.bl _)) (eda_cons (ed_ev ev_c (.bl _)) eda_nil))))))) (by show 7 ≤ 1000; decide)) bls_fine bls_fine (by decide))) (by decide +kernel)) fun _ =>
      et_or (a := false) (b := false) (et_is (et_test (ev_op (ev_cb (ea_cons (ev_var rfl) ea_nil) (z := .int ((200 : Nat) : Int)) fun H1 e Q q => ⟨pw, dx, _, rfl, e _ _ hp, pw, nS 200, [], rfl, hW5.ex e, fun H2 e2 => ⟨200, rfl, by decide, q H2 e2⟩⟩) ev_c (rv_ne rfl))) (by decide +kernel)) fun _ =>
      et_is (et_test (ev_op (ev_is (ev_lenD (ek_prop (sp := sp_Disk_waiting K A) (d' := .tup ((wF 400).map prD)) (ek_ev (ev_var rfl) hF5) fun p H1 e d Q q => ⟨p, _, _, rfl, d, q⟩)) (congrArg (fun n : Nat => V.int (n : Int)) hlen4)) ev_c (rv_ne rfl))) (by decide +kernel)) (fun z => by cases z) fun _ H16 e16 => ?_
    refine s_ret (ev_is (ev_eqLN (n := 1) (ds := [.int 200, .int 400, .int 4000]) (es := [.int 200, .int 400, .int 4000]) (G.edl_lst (eda_cons (ed_ev ev_c (.int _)) (eda_cons (ed_ev ev_c (.int _)) (eda_cons (ed_ev ev_c (.int _)) eda_nil))) (by show 3 ≤ 1000; decide)) (G.edl_lst (eda_cons (ed_ev ev_c (.int _)) (eda_cons (ed_ev ev_c (.int _)) (eda_cons (ed_ev ev_c (.int _)) eda_nil))) (by show 3 ≤ 1000; decide)) c3_fine c3_fine (by decide)) (congrArg V.bl (by decide +kernel))) fun H17 e17 => k H17
end
end K0

namespace K0
open PySem L2 Evl
theorem all_mk {l : PySem.W.OpenLaw} {w : World} {K : PySem.W.Frag} {h : Heap} {mg : Str → Option Value} {fa CDisk f0 f1 f2 f3 f4 f5 f6 f7 f8 f9 f10 f11 f12 f13 f14 f15 f16 f17 f18 f19 f20 f21 f22 f23 f24 f25 f26 f27 f28 f29 f30 f31 f32 f33 f34 f35 f36 f37 f38 f39 f40 EInvalidDisk EInvalidBlock EInvalidOperation EInvalidNumber ETooMany : Addr} (X : K.In h) (G : h.Ns mainGlobals mg) (hfa : mg "law" = some (.ref fa))
    {od0 an0 od1 an1 od2 an2 od3 an3 od4 an4 od5 an5 od6 an6 od7 an7 od8 an8 dr8 od9 an9 od10 an10 od11 an11 od12 an12 od13 an13 od14 an14 od15 an15 od16 an16 od17 an17 od18 an18 od19 an19 od20 an20 od21 an21 od22 an22 od23 an23 od24 an24 od25 an25 od26 an26 od27 an27 od28 an28 od29 an29 od30 an30 od31 an31 od32 an32 od33 an33 od34 an34 od35 an35 od36 an36 od37 an37 od38 an38 od39 an39 od40 an40 : Option Addr}
    {sl0 sl1 sl2 sl3 sl4 sl5 sl6 sl7 sl8 dl8 sl9 sl10 sl11 sl12 sl13 sl14 sl15 sl16 sl17 sl18 sl19 sl20 sl21 sl22 sl23 sl24 sl25 sl26 sl27 sl28 sl29 sl30 sl31 sl32 sl33 sl34 sl35 sl36 sl37 sl38 sl39 sl40 : Array (Option Value)}
    {oc0 kV0 dc0 pm0 cd0 ct0 oc1 kV1 dc1 pm1 cd1 ct1 oc2 kV2 dc2 pm2 cd2 ct2 oc3 kV3 dc3 pm3 cd3 ct3 oc4 kV4 dc4 pm4 cd4 ct4 oc5 kV5 dc5 pm5 cd5 ct5 oc6 kV6 dc6 pm6 cd6 ct6 oc7 kV7 dc7 pm7 cd7 ct7 oc8 kV8 dc8 pm8 cd8 ct8 dq8 oc9 kV9 dc9 pm9 cd9 ct9 oc10 kV10 dc10 pm10 cd10 ct10 oc11 kV11 dc11 pm11 cd11 ct11 oc12 kV12 dc12 pm12 cd12 ct12 oc13 kV13 dc13 pm13 cd13 ct13 oc14 kV14 dc14 pm14 cd14 ct14 oc15 kV15 dc15 pm15 cd15 ct15 oc16 kV16 dc16 pm16 cd16 ct16 oc17 kV17 dc17 pm17 cd17 ct17 oc18 kV18 dc18 pm18 cd18 ct18 oc19 kV19 dc19 pm19 cd19 ct19 oc20 kV20 dc20 pm20 cd20 ct20 oc21 kV21 dc21 pm21 cd21 ct21 oc22 kV22 dc22 pm22 cd22 ct22 oc23 kV23 dc23 pm23 cd23 ct23 oc24 kV24 dc24 pm24 cd24 ct24 oc25 kV25 dc25 pm25 cd25 ct25 oc26 kV26 dc26 pm26 cd26 ct26 oc27 kV27 dc27 pm27 cd27 ct27 oc28 kV28 dc28 pm28 cd28 ct28 oc29 kV29 dc29 pm29 cd29 ct29 oc30 kV30 dc30 pm30 cd30 ct30 oc31 kV31 dc31 pm31 cd31 ct31 oc32 kV32 dc32 pm32 cd32 ct32 oc33 kV33 dc33 pm33 cd33 ct33 oc34 kV34 dc34 pm34 cd34 ct34 oc35 kV35 dc35 pm35 cd35 ct35 oc36 kV36 dc36 pm36 ct36 oc37 kV37 dc37 pm37 cd37 ct37 oc38 kV38 dc38 pm38 ct38 oc39 kV39 dc39 pm39 cd39 ct39 oc40 kV40 dc40 pm40 cd40 ct40 : Value}
    {dt8 p12 p13 p14 cc36 pp36 cc38 pp38 : Addr}
    {dn8 : Nat}
    {dk8_0 tk0 tk1 tk2 tk3 tk4 tk5 tk6 : Tok}
    {rr12 rr13 rr14 : List Value}
    (aCDisk : PySem.W.nsIn K mainGlobals "Disk" = some (some (.ref CDisk)))
    (a0 : PySem.W.nsIn K mainGlobals "is_number" = some (some (.ref f0)))
    (l0 : K.lookup f0 = some ⟨oc0, od0, .func (PySem.W.fnOf "is_number" "is_number" (defArgs s_is_number) (defBody s_is_number) (defScope s_is_number) .none kV0 dc0 pm0 an0 cd0 ct0), sl0⟩)
    (c0 : PySem.W.codeIn K cd0 "is_number" = true)
    (k0 : PySem.W.keepIn K (.ref f0) = true)
    (a1 : PySem.W.nsIn K mainGlobals "is_within" = some (some (.ref f1)))
    (l1 : K.lookup f1 = some ⟨oc1, od1, .func (PySem.W.fnOf "is_within" "is_within" (defArgs s_is_within) (defBody s_is_within) (defScope s_is_within) .none kV1 dc1 pm1 an1 cd1 ct1), sl1⟩)
    (c1 : PySem.W.codeIn K cd1 "is_within" = true)
    (k1 : PySem.W.keepIn K (.ref f1) = true)
    (a2 : PySem.W.nsIn K mainGlobals "are_indices" = some (some (.ref f2)))
    (l2 : K.lookup f2 = some ⟨oc2, od2, .func (PySem.W.fnOf "are_indices" "are_indices" (defArgs s_are_indices) (defBody s_are_indices) (defScope s_are_indices) .none kV2 dc2 pm2 an2 cd2 ct2), sl2⟩)
    (c2 : PySem.W.codeIn K cd2 "are_indices" = true)
    (k2 : PySem.W.keepIn K (.ref f2) = true)
    (a3 : PySem.W.nsIn K mainGlobals "are_ascending" = some (some (.ref f3)))
    (l3 : K.lookup f3 = some ⟨oc3, od3, .func (PySem.W.fnOf "are_ascending" "are_ascending" (defArgs s_are_ascending) (defBody s_are_ascending) (defScope s_are_ascending) .none kV3 dc3 pm3 an3 cd3 ct3), sl3⟩)
    (c3 : PySem.W.codeIn K cd3 "are_ascending" = true)
    (k3 : PySem.W.keepIn K (.ref f3) = true)
    (a4 : PySem.W.nsIn K mainGlobals "is_made_of" = some (some (.ref f4)))
    (l4 : K.lookup f4 = some ⟨oc4, od4, .func (PySem.W.fnOf "is_made_of" "is_made_of" (defArgs s_is_made_of) (defBody s_is_made_of) (defScope s_is_made_of) .none kV4 dc4 pm4 an4 cd4 ct4), sl4⟩)
    (c4 : PySem.W.codeIn K cd4 "is_made_of" = true)
    (k4 : PySem.W.keepIn K (.ref f4) = true)
    (a5 : PySem.W.nsIn K mainGlobals "is_plain" = some (some (.ref f5)))
    (l5 : K.lookup f5 = some ⟨oc5, od5, .func (PySem.W.fnOf "is_plain" "is_plain" (defArgs s_is_plain) (defBody s_is_plain) (defScope s_is_plain) .none kV5 dc5 pm5 an5 cd5 ct5), sl5⟩)
    (c5 : PySem.W.codeIn K cd5 "is_plain" = true)
    (k5 : PySem.W.keepIn K (.ref f5) = true)
    (a6 : PySem.W.nsIn K mainGlobals "is_plain_within" = some (some (.ref f6)))
    (l6 : K.lookup f6 = some ⟨oc6, od6, .func (PySem.W.fnOf "is_plain_within" "is_plain_within" (defArgs s_is_plain_within) (defBody s_is_plain_within) (defScope s_is_plain_within) .none kV6 dc6 pm6 an6 cd6 ct6), sl6⟩)
    (c6 : PySem.W.codeIn K cd6 "is_plain_within" = true)
    (k6 : PySem.W.keepIn K (.ref f6) = true)
    (a7 : PySem.W.nsIn K mainGlobals "_is_single" = some (some (.ref f7)))
    (l7 : K.lookup f7 = some ⟨oc7, od7, .func (PySem.W.fnOf "_is_single" "_is_single" (defArgs s_is_single) (defBody s_is_single) (defScope s_is_single) .none kV7 dc7 pm7 an7 cd7 ct7), sl7⟩)
    (c7 : PySem.W.codeIn K cd7 "_is_single" = true)
    (k7 : PySem.W.keepIn K (.ref f7) = true)
    (a8 : PySem.W.nsIn K mainGlobals "check_number" = some (some (.ref f8)))
    (l8 : K.lookup f8 = some ⟨oc8, od8, .func (PySem.W.fnOf "check_number" "check_number" (defArgs s_check_number) (defBody s_check_number) (defScope s_check_number) (.ref dt8) kV8 dc8 pm8 an8 cd8 ct8), sl8⟩)
    (c8 : PySem.W.codeIn K cd8 "check_number" = true)
    (k8 : PySem.W.keepIn K (.ref f8) = true)
    (d8 : K.lookup dt8 = some ⟨dq8, dr8, .seq (List.toArray [.int (999999999999999999999999999999999999999999999999999999999999) dk8_0]) dn8, dl8⟩)
    (a9 : PySem.W.nsIn K mainGlobals "is_block" = some (some (.ref f9)))
    (l9 : K.lookup f9 = some ⟨oc9, od9, .func (PySem.W.fnOf "is_block" "is_block" (defArgs s_is_block) (defBody s_is_block) (defScope s_is_block) .none kV9 dc9 pm9 an9 cd9 ct9), sl9⟩)
    (c9 : PySem.W.codeIn K cd9 "is_block" = true)
    (k9 : PySem.W.keepIn K (.ref f9) = true)
    (a10 : PySem.W.nsIn K mainGlobals "are_blocks" = some (some (.ref f10)))
    (l10 : K.lookup f10 = some ⟨oc10, od10, .func (PySem.W.fnOf "are_blocks" "are_blocks" (defArgs s_are_blocks) (defBody s_are_blocks) (defScope s_are_blocks) .none kV10 dc10 pm10 an10 cd10 ct10), sl10⟩)
    (c10 : PySem.W.codeIn K cd10 "are_blocks" = true)
    (k10 : PySem.W.keepIn K (.ref f10) = true)
    (a11 : PySem.W.findIn K (.ref CDisk) "__init__" = some (some (.ref f11)))
    (i11 : PySem.W.isFn K (.ref f11) = true)
    (l11 : K.lookup f11 = some ⟨oc11, od11, .func (PySem.W.fnOf "__init__" "Disk.__init__" (defArgs s_Disk_init) (defBody s_Disk_init) (defScope s_Disk_init) .none kV11 dc11 pm11 an11 cd11 ct11), sl11⟩)
    (c11 : PySem.W.codeIn K cd11 "Disk.__init__" = true)
    (k11 : PySem.W.keepIn K (.ref f11) = true)
    (a12 : PySem.W.findCls K (.ref CDisk) (.type "type") "empty" = some (.get (.builtin "classmethod.__get__") (.ref p12) .none (.ref CDisk)))
    (r12 : PySem.W.recIn K p12 "classmethod" = some (.ref f12 :: rr12))
    (g12 : PySem.W.fnIn K f12 = true)
    (l12 : K.lookup f12 = some ⟨oc12, od12, .func (PySem.W.fnOf "empty" "Disk.empty" (defArgs s_Disk_empty) (defBody s_Disk_empty) (defScope s_Disk_empty) .none kV12 dc12 pm12 an12 cd12 ct12), sl12⟩)
    (c12 : PySem.W.codeIn K cd12 "Disk.empty" = true)
    (k12 : PySem.W.keepIn K (.ref f12) = true)
    (a13 : PySem.W.findIn K (.ref CDisk) "sure" = some (some (.ref p13)))
    (g13 : PySem.W.specialIn K (.ref p13) "__get__" = some (some (.builtin "property.__get__")))
    (t13 : PySem.W.takesIn K (.ref p13) = some true)
    (r13 : PySem.W.recIn K p13 "property" = some (.ref f13 :: rr13))
    (l13 : K.lookup f13 = some ⟨oc13, od13, .func (PySem.W.fnOf "sure" "Disk.sure" (defArgs s_Disk_sure) (defBody s_Disk_sure) (defScope s_Disk_sure) .none kV13 dc13 pm13 an13 cd13 ct13), sl13⟩)
    (c13 : PySem.W.codeIn K cd13 "Disk.sure" = true)
    (k13 : PySem.W.keepIn K (.ref f13) = true)
    (a14 : PySem.W.findIn K (.ref CDisk) "waiting" = some (some (.ref p14)))
    (g14 : PySem.W.specialIn K (.ref p14) "__get__" = some (some (.builtin "property.__get__")))
    (t14 : PySem.W.takesIn K (.ref p14) = some true)
    (r14 : PySem.W.recIn K p14 "property" = some (.ref f14 :: rr14))
    (l14 : K.lookup f14 = some ⟨oc14, od14, .func (PySem.W.fnOf "waiting" "Disk.waiting" (defArgs s_Disk_waiting) (defBody s_Disk_waiting) (defScope s_Disk_waiting) .none kV14 dc14 pm14 an14 cd14 ct14), sl14⟩)
    (c14 : PySem.W.codeIn K cd14 "Disk.waiting" = true)
    (k14 : PySem.W.keepIn K (.ref f14) = true)
    (a15 : PySem.W.findIn K (.ref CDisk) "put" = some (some (.ref f15)))
    (i15 : PySem.W.isFn K (.ref f15) = true)
    (l15 : K.lookup f15 = some ⟨oc15, od15, .func (PySem.W.fnOf "put" "Disk.put" (defArgs s_Disk_put) (defBody s_Disk_put) (defScope s_Disk_put) .none kV15 dc15 pm15 an15 cd15 ct15), sl15⟩)
    (c15 : PySem.W.codeIn K cd15 "Disk.put" = true)
    (k15 : PySem.W.keepIn K (.ref f15) = true)
    (a16 : PySem.W.findIn K (.ref CDisk) "read" = some (some (.ref f16)))
    (i16 : PySem.W.isFn K (.ref f16) = true)
    (l16 : K.lookup f16 = some ⟨oc16, od16, .func (PySem.W.fnOf "read" "Disk.read" (defArgs s_Disk_read) (defBody s_Disk_read) (defScope s_Disk_read) .none kV16 dc16 pm16 an16 cd16 ct16), sl16⟩)
    (c16 : PySem.W.codeIn K cd16 "Disk.read" = true)
    (k16 : PySem.W.keepIn K (.ref f16) = true)
    (a17 : PySem.W.findIn K (.ref CDisk) "blocks" = some (some (.ref f17)))
    (i17 : PySem.W.isFn K (.ref f17) = true)
    (l17 : K.lookup f17 = some ⟨oc17, od17, .func (PySem.W.fnOf "blocks" "Disk.blocks" (defArgs s_Disk_blocks) (defBody s_Disk_blocks) (defScope s_Disk_blocks) .none kV17 dc17 pm17 an17 cd17 ct17), sl17⟩)
    (c17 : PySem.W.codeIn K cd17 "Disk.blocks" = true)
    (k17 : PySem.W.keepIn K (.ref f17) = true)
    (a18 : PySem.W.findIn K (.ref CDisk) "synced" = some (some (.ref f18)))
    (i18 : PySem.W.isFn K (.ref f18) = true)
    (l18 : K.lookup f18 = some ⟨oc18, od18, .func (PySem.W.fnOf "synced" "Disk.synced" (defArgs s_Disk_synced) (defBody s_Disk_synced) (defScope s_Disk_synced) .none kV18 dc18 pm18 an18 cd18 ct18), sl18⟩)
    (c18 : PySem.W.codeIn K cd18 "Disk.synced" = true)
    (k18 : PySem.W.keepIn K (.ref f18) = true)
    (a19 : PySem.W.findIn K (.ref CDisk) "fallen" = some (some (.ref f19)))
    (i19 : PySem.W.isFn K (.ref f19) = true)
    (l19 : K.lookup f19 = some ⟨oc19, od19, .func (PySem.W.fnOf "fallen" "Disk.fallen" (defArgs s_Disk_fallen) (defBody s_Disk_fallen) (defScope s_Disk_fallen) .none kV19 dc19 pm19 an19 cd19 ct19), sl19⟩)
    (c19 : PySem.W.codeIn K cd19 "Disk.fallen" = true)
    (k19 : PySem.W.keepIn K (.ref f19) = true)
    (a20 : PySem.W.findIn K (.ref CDisk) "__len__" = some (some (.ref f20)))
    (i20 : PySem.W.isFn K (.ref f20) = true)
    (l20 : K.lookup f20 = some ⟨oc20, od20, .func (PySem.W.fnOf "__len__" "Disk.__len__" (defArgs s_Disk_len) (defBody s_Disk_len) (defScope s_Disk_len) .none kV20 dc20 pm20 an20 cd20 ct20), sl20⟩)
    (c20 : PySem.W.codeIn K cd20 "Disk.__len__" = true)
    (k20 : PySem.W.keepIn K (.ref f20) = true)
    (a21 : PySem.W.findIn K (.ref CDisk) "__eq__" = some (some (.ref f21)))
    (i21 : PySem.W.isFn K (.ref f21) = true)
    (l21 : K.lookup f21 = some ⟨oc21, od21, .func (PySem.W.fnOf "__eq__" "Disk.__eq__" (defArgs s_Disk_eq) (defBody s_Disk_eq) (defScope s_Disk_eq) .none kV21 dc21 pm21 an21 cd21 ct21), sl21⟩)
    (c21 : PySem.W.codeIn K cd21 "Disk.__eq__" = true)
    (k21 : PySem.W.keepIn K (.ref f21) = true)
    (a22 : PySem.W.findIn K (.ref CDisk) "__str__" = some (some (.ref f22)))
    (i22 : PySem.W.isFn K (.ref f22) = true)
    (l22 : K.lookup f22 = some ⟨oc22, od22, .func (PySem.W.fnOf "__str__" "Disk.__str__" (defArgs s_Disk_str) (defBody s_Disk_str) (defScope s_Disk_str) .none kV22 dc22 pm22 an22 cd22 ct22), sl22⟩)
    (c22 : PySem.W.codeIn K cd22 "Disk.__str__" = true)
    (k22 : PySem.W.keepIn K (.ref f22) = true)
    (a23 : PySem.W.nsIn K mainGlobals "_made" = some (some (.ref f23)))
    (l23 : K.lookup f23 = some ⟨oc23, od23, .func (PySem.W.fnOf "_made" "_made" (defArgs s_made) (defBody s_made) (defScope s_made) .none kV23 dc23 pm23 an23 cd23 ct23), sl23⟩)
    (c23 : PySem.W.codeIn K cd23 "_made" = true)
    (k23 : PySem.W.keepIn K (.ref f23) = true)
    (a24 : PySem.W.nsIn K mainGlobals "_behind" = some (some (.ref f24)))
    (l24 : K.lookup f24 = some ⟨oc24, od24, .func (PySem.W.fnOf "_behind" "_behind" (defArgs s_behind) (defBody s_behind) (defScope s_behind) .none kV24 dc24 pm24 an24 cd24 ct24), sl24⟩)
    (c24 : PySem.W.codeIn K cd24 "_behind" = true)
    (k24 : PySem.W.keepIn K (.ref f24) = true)
    (a25 : PySem.W.nsIn K mainGlobals "check_disk" = some (some (.ref f25)))
    (l25 : K.lookup f25 = some ⟨oc25, od25, .func (PySem.W.fnOf "check_disk" "check_disk" (defArgs s_check_disk) (defBody s_check_disk) (defScope s_check_disk) .none kV25 dc25 pm25 an25 cd25 ct25), sl25⟩)
    (c25 : PySem.W.codeIn K cd25 "check_disk" = true)
    (k25 : PySem.W.keepIn K (.ref f25) = true)
    (a26 : PySem.W.nsIn K mainGlobals "_versions_of" = some (some (.ref f26)))
    (l26 : K.lookup f26 = some ⟨oc26, od26, .func (PySem.W.fnOf "_versions_of" "_versions_of" (defArgs s_versions_of) (defBody s_versions_of) (defScope s_versions_of) .none kV26 dc26 pm26 an26 cd26 ct26), sl26⟩)
    (c26 : PySem.W.codeIn K cd26 "_versions_of" = true)
    (k26 : PySem.W.keepIn K (.ref f26) = true)
    (a27 : PySem.W.nsIn K mainGlobals "falls_count" = some (some (.ref f27)))
    (l27 : K.lookup f27 = some ⟨oc27, od27, .func (PySem.W.fnOf "falls_count" "falls_count" (defArgs s_falls_count) (defBody s_falls_count) (defScope s_falls_count) .none kV27 dc27 pm27 an27 cd27 ct27), sl27⟩)
    (c27 : PySem.W.codeIn K cd27 "falls_count" = true)
    (k27 : PySem.W.keepIn K (.ref f27) = true)
    (a28 : PySem.W.nsIn K mainGlobals "each_fall" = some (some (.ref f28)))
    (l28 : K.lookup f28 = some ⟨oc28, od28, .func (PySem.W.fnOf "each_fall" "each_fall" (defArgs s_each_fall) (defBody s_each_fall) (defScope s_each_fall) .none kV28 dc28 pm28 an28 cd28 ct28), sl28⟩)
    (c28 : PySem.W.codeIn K cd28 "each_fall" = true)
    (k28 : PySem.W.keepIn K (.ref f28) = true)
    (a29 : PySem.W.nsIn K mainGlobals "_picked" = some (some (.ref f29)))
    (l29 : K.lookup f29 = some ⟨oc29, od29, .func (PySem.W.fnOf "_picked" "_picked" (defArgs s_picked) (defBody s_picked) (defScope s_picked) .none kV29 dc29 pm29 an29 cd29 ct29), sl29⟩)
    (c29 : PySem.W.codeIn K cd29 "_picked" = true)
    (k29 : PySem.W.keepIn K (.ref f29) = true)
    (a30 : PySem.W.nsIn K mainGlobals "fall_paper" = some (some (.ref f30)))
    (l30 : K.lookup f30 = some ⟨oc30, od30, .func (PySem.W.fnOf "fall_paper" "fall_paper" (defArgs s_fall_paper) (defBody s_fall_paper) (defScope s_fall_paper) .none kV30 dc30 pm30 an30 cd30 ct30), sl30⟩)
    (c30 : PySem.W.codeIn K cd30 "fall_paper" = true)
    (k30 : PySem.W.keepIn K (.ref f30) = true)
    (a31 : PySem.W.nsIn K mainGlobals "is_fall_paper" = some (some (.ref f31)))
    (l31 : K.lookup f31 = some ⟨oc31, od31, .func (PySem.W.fnOf "is_fall_paper" "is_fall_paper" (defArgs s_is_fall_paper) (defBody s_is_fall_paper) (defScope s_is_fall_paper) .none kV31 dc31 pm31 an31 cd31 ct31), sl31⟩)
    (c31 : PySem.W.codeIn K cd31 "is_fall_paper" = true)
    (k31 : PySem.W.keepIn K (.ref f31) = true)
    (a32 : PySem.W.nsIn K mainGlobals "_law_dice" = some (some (.ref f32)))
    (l32 : K.lookup f32 = some ⟨oc32, od32, .func (PySem.W.fnOf "_law_dice" "_law_dice" (defArgs s_law_dice) (defBody s_law_dice) (defScope s_law_dice) .none kV32 dc32 pm32 an32 cd32 ct32), sl32⟩)
    (c32 : PySem.W.codeIn K cd32 "_law_dice" = true)
    (k32 : PySem.W.keepIn K (.ref f32) = true)
    (a33 : PySem.W.nsIn K mainGlobals "_law_roll" = some (some (.ref f33)))
    (l33 : K.lookup f33 = some ⟨oc33, od33, .func (PySem.W.fnOf "_law_roll" "_law_roll" (defArgs s_law_roll) (defBody s_law_roll) (defScope s_law_roll) .none kV33 dc33 pm33 an33 cd33 ct33), sl33⟩)
    (c33 : PySem.W.codeIn K cd33 "_law_roll" = true)
    (k33 : PySem.W.keepIn K (.ref f33) = true)
    (a34 : PySem.W.nsIn K mainGlobals "_law_pick" = some (some (.ref f34)))
    (l34 : K.lookup f34 = some ⟨oc34, od34, .func (PySem.W.fnOf "_law_pick" "_law_pick" (defArgs s_law_pick) (defBody s_law_pick) (defScope s_law_pick) .none kV34 dc34 pm34 an34 cd34 ct34), sl34⟩)
    (c34 : PySem.W.codeIn K cd34 "_law_pick" = true)
    (k34 : PySem.W.keepIn K (.ref f34) = true)
    (a35 : PySem.W.nsIn K mainGlobals "_law_fault" = some (some (.ref f35)))
    (l35 : K.lookup f35 = some ⟨oc35, od35, .func (PySem.W.fnOf "_law_fault" "_law_fault" (defArgs s_law_fault) (defBody s_law_fault) (defScope s_law_fault) .none kV35 dc35 pm35 an35 cd35 ct35), sl35⟩)
    (c35 : PySem.W.codeIn K cd35 "_law_fault" = true)
    (k35 : PySem.W.keepIn K (.ref f35) = true)
    (a36 : PySem.W.nsIn K mainGlobals "_law_right" = some (some (.ref f36)))
    (l36 : K.lookup f36 = some ⟨oc36, od36, .func (PySem.W.fnOf "_law_right" "_law_right" (defArgs s_law_right) (defBody s_law_right) (defScope s_law_right) .none kV36 dc36 pm36 an36 (.ref cc36) ct36), sl36⟩)
    (c36 : PySem.W.codeIn K (.ref cc36) "_law_right" = true)
    (k36 : PySem.W.keepIn K (.ref f36) = true)
    (lq36 : PySem.W.codeHdIn K cc36 pp36 = true)
    (ln36 : K.lookup pp36 = none)
    (lt36 : h.get? pp36 = some { cls := .none, data := .fields #[] })
    (a37 : PySem.W.nsIn K mainGlobals "_law_deep" = some (some (.ref f37)))
    (l37 : K.lookup f37 = some ⟨oc37, od37, .func (PySem.W.fnOf "_law_deep" "_law_deep" (defArgs s_law_deep) (defBody s_law_deep) (defScope s_law_deep) .none kV37 dc37 pm37 an37 cd37 ct37), sl37⟩)
    (c37 : PySem.W.codeIn K cd37 "_law_deep" = true)
    (k37 : PySem.W.keepIn K (.ref f37) = true)
    (a38 : PySem.W.nsIn K mainGlobals "law" = some (some (.ref f38)))
    (l38 : K.lookup f38 = some ⟨oc38, od38, .func (PySem.W.fnOf "law" "law" (defArgs s_law) (defBody s_law) (defScope s_law) .none kV38 dc38 pm38 an38 (.ref cc38) ct38), sl38⟩)
    (c38 : PySem.W.codeIn K (.ref cc38) "law" = true)
    (k38 : PySem.W.keepIn K (.ref f38) = true)
    (lq38 : PySem.W.codeHdIn K cc38 pp38 = true)
    (ln38 : K.lookup pp38 = none)
    (lt38 : h.get? pp38 = some { cls := .none, data := .fields #[] })
    (aEInvalidNumber : PySem.W.nsIn K mainGlobals "InvalidNumber" = some (some (.ref EInvalidNumber)))
    (zEInvalidNumberini : PySem.W.findIn K (.ref EInvalidNumber) "__init__" = some (some (.ref f39)))
    (l39 : K.lookup f39 = some ⟨oc39, od39, .func (PySem.W.fnOf "__init__" "InvalidNumber.__init__" (defArgs s_InvalidNumber_init) (defBody s_InvalidNumber_init) (defScope s_InvalidNumber_init) .none kV39 dc39 pm39 an39 cd39 ct39), sl39⟩)
    (c39 : PySem.W.codeIn K cd39 "InvalidNumber.__init__" = true)
    (k39 : PySem.W.keepIn K (.ref f39) = true)
    (aETooMany : PySem.W.nsIn K mainGlobals "TooMany" = some (some (.ref ETooMany)))
    (zETooManyini : PySem.W.findIn K (.ref ETooMany) "__init__" = some (some (.ref f40)))
    (l40 : K.lookup f40 = some ⟨oc40, od40, .func (PySem.W.fnOf "__init__" "TooMany.__init__" (defArgs s_TooMany_init) (defBody s_TooMany_init) (defScope s_TooMany_init) .none kV40 dc40 pm40 an40 cd40 ct40), sl40⟩)
    (c40 : PySem.W.codeIn K cd40 "TooMany.__init__" = true)
    (k40 : PySem.W.keepIn K (.ref f40) = true)
    (zDiskpg : PySem.W.plainGet K CDisk Str.empty = true)
    (zDiskhd : PySem.W.hasDictIn K CDisk = true)
    (zDiskpo : PySem.W.plainOver K CDisk = true)
    (zDisksa : PySem.W.findIn K (.ref CDisk) "__setattr__" = some (some (.builtin "object.__setattr__")))
    (zDiskmk : PySem.W.makesIn K CDisk = true)
    (zDiskkc : PySem.W.keepIn K (.ref CDisk) = true)
    (zDiskca : PySem.W.findIn K (.ref CDisk) "__class__" = some (some (.builtin "object.__class__")))
    (zDiskcg : PySem.W.specialIn K (.builtin "object.__class__") "__get__" = some (some (.builtin "getset_descriptor.__get__")))
    (zDiskct : PySem.W.takesIn K (.builtin "object.__class__") = some true)
    (zDiskco : PySem.W.mroIn K CDisk (.type "object") = some true)
    (zDiskrd : PySem.W.readsIn K CDisk (.type "type") = true)
    (zDiskga : PySem.W.specialIn K (.ref CDisk) "__getattribute__" = some (some (.builtin "type.__getattribute__")))
    (zDiskkNoneType : PySem.W.kitOne K (.type "NoneType") (.ref CDisk) = some false)
    (zDiskfNoneType : PySem.W.notFirst K CDisk (.type "NoneType") = true)
    (zDiskktuple : PySem.W.kitOne K (.type "tuple") (.ref CDisk) = some false)
    (zDiskftuple : PySem.W.notFirst K CDisk (.type "tuple") = true)
    (zDiskkint : PySem.W.kitOne K (.type "int") (.ref CDisk) = some false)
    (zDiskfint : PySem.W.notFirst K CDisk (.type "int") = true)
    (zDiskkstr : PySem.W.kitOne K (.type "str") (.ref CDisk) = some false)
    (zDiskfstr : PySem.W.notFirst K CDisk (.type "str") = true)
    (zDiskklist : PySem.W.kitOne K (.type "list") (.ref CDisk) = some false)
    (zDiskflist : PySem.W.notFirst K CDisk (.type "list") = true)
    (zDiskkbool : PySem.W.kitOne K (.type "bool") (.ref CDisk) = some false)
    (zDiskfbool : PySem.W.notFirst K CDisk (.type "bool") = true)
    (zDiskkdict : PySem.W.kitOne K (.type "dict") (.ref CDisk) = some false)
    (zDiskfdict : PySem.W.notFirst K CDisk (.type "dict") = true)
    (zDiskrint : PySem.W.kitOne K (.ref CDisk) (.type "int") = some false)
    (zDiskrbool : PySem.W.kitOne K (.ref CDisk) (.type "bool") = some false)
    (zDiskrstr : PySem.W.kitOne K (.ref CDisk) (.type "str") = some false)
    (zDiskrtuple : PySem.W.kitOne K (.ref CDisk) (.type "tuple") = some false)
    (zDiskne : PySem.W.findIn K (.ref CDisk) "__ne__" = some (some (.builtin "object.__ne__")))
    (zDiskno_sure : PySem.W.findIn K (.ref CDisk) "_sure" = some none)
    (zDiskno_waiting : PySem.W.findIn K (.ref CDisk) "_waiting" = some none)
    (aEInvalidDisk : PySem.W.nsIn K mainGlobals "InvalidDisk" = some (some (.ref EInvalidDisk)))
    (qEInvalidDisk : PySem.W.excIn K EInvalidDisk bmVE "ValueError.__new__" = true)
    (zEInvalidDiskkc : PySem.W.keepIn K (.ref EInvalidDisk) = true)
    (zEInvalidDisksb : PySem.W.subIn K (.ref EInvalidDisk) (.type "BaseException") = some true)
    (zEInvalidDiskty : PySem.W.typeIn K (.ref EInvalidDisk) = some (.type "type"))
    (aEInvalidBlock : PySem.W.nsIn K mainGlobals "InvalidBlock" = some (some (.ref EInvalidBlock)))
    (qEInvalidBlock : PySem.W.excIn K EInvalidBlock bmVE "ValueError.__new__" = true)
    (zEInvalidBlockkc : PySem.W.keepIn K (.ref EInvalidBlock) = true)
    (zEInvalidBlocksb : PySem.W.subIn K (.ref EInvalidBlock) (.type "BaseException") = some true)
    (zEInvalidBlockty : PySem.W.typeIn K (.ref EInvalidBlock) = some (.type "type"))
    (aEInvalidOperation : PySem.W.nsIn K mainGlobals "InvalidOperation" = some (some (.ref EInvalidOperation)))
    (qEInvalidOperation : PySem.W.excIn K EInvalidOperation bmVE "ValueError.__new__" = true)
    (zEInvalidOperationkc : PySem.W.keepIn K (.ref EInvalidOperation) = true)
    (zEInvalidOperationsb : PySem.W.subIn K (.ref EInvalidOperation) (.type "BaseException") = some true)
    (zEInvalidOperationty : PySem.W.typeIn K (.ref EInvalidOperation) = some (.type "type"))
    (zEInvalidNumberoi : oexInT "IndexError.__new__" tailIndex K EInvalidNumber = true)
    (zEInvalidNumberxf : xfB K EInvalidNumber = true)
    (zEInvalidNumberkc : PySem.W.keepIn K (.ref EInvalidNumber) = true)
    (zEInvalidNumbersb : PySem.W.subIn K (.ref EInvalidNumber) (.type "BaseException") = some true)
    (zEInvalidNumberty : PySem.W.typeIn K (.ref EInvalidNumber) = some (.type "type"))
    (zEInvalidNumbersa : PySem.W.findIn K (.ref EInvalidNumber) "__setattr__" = some (some (.builtin "object.__setattr__")))
    (zEInvalidNumberfn : PySem.W.typeIn K (.ref f39) = some (.type "function"))
    (zEInvalidNumbernogiven : PySem.W.findIn K (.ref EInvalidNumber) "given" = some none)
    (zETooManyoi : oexInT "OverflowError.__new__" tailOver K ETooMany = true)
    (zETooManyxf : xfB K ETooMany = true)
    (zETooManykc : PySem.W.keepIn K (.ref ETooMany) = true)
    (zETooManysb : PySem.W.subIn K (.ref ETooMany) (.type "BaseException") = some true)
    (zETooManyty : PySem.W.typeIn K (.ref ETooMany) = some (.type "type"))
    (zETooManysa : PySem.W.findIn K (.ref ETooMany) "__setattr__" = some (some (.builtin "object.__setattr__")))
    (zETooManyfn : PySem.W.typeIn K (.ref f40) = some (.type "function"))
    (zETooManynolimit : PySem.W.findIn K (.ref ETooMany) "limit" = some none)
    (zEInvalidDiskInvalidBlock : PySem.W.exmOne K (.ref EInvalidDisk) (.ref EInvalidBlock) = some false)
    (zEInvalidDiskInvalidDisk : PySem.W.exmOne K (.ref EInvalidDisk) (.ref EInvalidDisk) = some true)
    (zEInvalidDiskInvalidNumber : PySem.W.exmOne K (.ref EInvalidDisk) (.ref EInvalidNumber) = some false)
    (zEInvalidDiskInvalidOperation : PySem.W.exmOne K (.ref EInvalidDisk) (.ref EInvalidOperation) = some false)
    (zEInvalidDiskTooMany : PySem.W.exmOne K (.ref EInvalidDisk) (.ref ETooMany) = some false)
    (zEInvalidBlockInvalidBlock : PySem.W.exmOne K (.ref EInvalidBlock) (.ref EInvalidBlock) = some true)
    (zEInvalidBlockInvalidDisk : PySem.W.exmOne K (.ref EInvalidBlock) (.ref EInvalidDisk) = some false)
    (zEInvalidBlockInvalidNumber : PySem.W.exmOne K (.ref EInvalidBlock) (.ref EInvalidNumber) = some false)
    (zEInvalidBlockInvalidOperation : PySem.W.exmOne K (.ref EInvalidBlock) (.ref EInvalidOperation) = some false)
    (zEInvalidBlockTooMany : PySem.W.exmOne K (.ref EInvalidBlock) (.ref ETooMany) = some false)
    (zEInvalidOperationInvalidBlock : PySem.W.exmOne K (.ref EInvalidOperation) (.ref EInvalidBlock) = some false)
    (zEInvalidOperationInvalidDisk : PySem.W.exmOne K (.ref EInvalidOperation) (.ref EInvalidDisk) = some false)
    (zEInvalidOperationInvalidNumber : PySem.W.exmOne K (.ref EInvalidOperation) (.ref EInvalidNumber) = some false)
    (zEInvalidOperationInvalidOperation : PySem.W.exmOne K (.ref EInvalidOperation) (.ref EInvalidOperation) = some true)
    (zEInvalidOperationTooMany : PySem.W.exmOne K (.ref EInvalidOperation) (.ref ETooMany) = some false)
    (zEInvalidNumberInvalidBlock : PySem.W.exmOne K (.ref EInvalidNumber) (.ref EInvalidBlock) = some false)
    (zEInvalidNumberInvalidDisk : PySem.W.exmOne K (.ref EInvalidNumber) (.ref EInvalidDisk) = some false)
    (zEInvalidNumberInvalidNumber : PySem.W.exmOne K (.ref EInvalidNumber) (.ref EInvalidNumber) = some true)
    (zEInvalidNumberInvalidOperation : PySem.W.exmOne K (.ref EInvalidNumber) (.ref EInvalidOperation) = some false)
    (zEInvalidNumberTooMany : PySem.W.exmOne K (.ref EInvalidNumber) (.ref ETooMany) = some false)
    (zETooManyInvalidBlock : PySem.W.exmOne K (.ref ETooMany) (.ref EInvalidBlock) = some false)
    (zETooManyInvalidDisk : PySem.W.exmOne K (.ref ETooMany) (.ref EInvalidDisk) = some false)
    (zETooManyInvalidNumber : PySem.W.exmOne K (.ref ETooMany) (.ref EInvalidNumber) = some false)
    (zETooManyInvalidOperation : PySem.W.exmOne K (.ref ETooMany) (.ref EInvalidOperation) = some false)
    (zETooManyTooMany : PySem.W.exmOne K (.ref ETooMany) (.ref ETooMany) = some true)
    (zEInvalidDisknst : PySem.W.subIn K (.ref EInvalidDisk) (.type "StopIteration") = some false)
    (zEInvalidBlocknst : PySem.W.subIn K (.ref EInvalidBlock) (.type "StopIteration") = some false)
    (zEInvalidOperationnst : PySem.W.subIn K (.ref EInvalidOperation) (.type "StopIteration") = some false)
    (zEInvalidNumbernst : PySem.W.subIn K (.ref EInvalidNumber) (.type "StopIteration") = some false)
    (zETooManynst : PySem.W.subIn K (.ref ETooMany) (.type "StopIteration") = some false)
    (x0 : PySem.W.nsIn K mainGlobals "MAX_NEST" = some (some (.int (12) tk0)))
    (x1 : PySem.W.nsIn K mainGlobals "MAX_STRING" = some (some (.int (3000) tk1)))
    (x2 : PySem.W.nsIn K mainGlobals "MAX_NUMBER" = some (some (.int (999999999999999999999999999999999999999999999999999999999999) tk2)))
    (x3 : PySem.W.nsIn K mainGlobals "SIGNS" = some (some (.str "abcdefghijklmnopqrstuvwxyz0123456789 " tk3)))
    (x4 : PySem.W.nsIn K mainGlobals "MAX_BLOCKS" = some (some (.int (200) tk4)))
    (x5 : PySem.W.nsIn K mainGlobals "MAX_WAITING" = some (some (.int (400) tk5)))
    (x6 : PySem.W.nsIn K mainGlobals "MOST_FALLS" = some (some (.int (4000) tk6)))
    (y0 : PySem.W.nsIn K mainGlobals "abs" = some none)
    (y1 : PySem.W.nsIn K mainGlobals "all" = some none)
    (y2 : PySem.W.nsIn K mainGlobals "bool" = some none)
    (y3 : PySem.W.nsIn K mainGlobals "enumerate" = some none)
    (y4 : PySem.W.nsIn K mainGlobals "int" = some none)
    (y5 : PySem.W.nsIn K mainGlobals "isinstance" = some none)
    (y6 : PySem.W.nsIn K mainGlobals "len" = some none)
    (y7 : PySem.W.nsIn K mainGlobals "list" = some none)
    (y8 : PySem.W.nsIn K mainGlobals "max" = some none)
    (y9 : PySem.W.nsIn K mainGlobals "min" = some none)
    (y10 : PySem.W.nsIn K mainGlobals "range" = some none)
    (y11 : PySem.W.nsIn K mainGlobals "repr" = some none)
    (y12 : PySem.W.nsIn K mainGlobals "reversed" = some none)
    (y13 : PySem.W.nsIn K mainGlobals "sorted" = some none)
    (y14 : PySem.W.nsIn K mainGlobals "str" = some none)
    (y15 : PySem.W.nsIn K mainGlobals "tuple" = some none)
    (y16 : PySem.W.nsIn K mainGlobals "zip" = some none)
    (lne0_1 : pp36 ≠ pp38)
    : LawG l w K CX0 56 63 "script" mg fa h := by
  have e := hfa.symm.trans (PySem.W.mg_of X G a38)
  cases e
  have F0 := fun_mk (st := s_is_number) l0 c0 k0
  have b0 := F0.binds (ps := ["value"]) fun _ _ _ _ _ _ us hl => match us, hl with | [_], _ => rfl
  have F1 := fun_mk (st := s_is_within) l1 c1 k1
  have b1 := F1.binds (ps := ["value", "least", "most"]) fun _ _ _ _ _ _ us hl => match us, hl with | [_, _, _], _ => rfl
  have F2 := fun_mk (st := s_are_indices) l2 c2 k2
  have b2 := F2.binds (ps := ["value", "many"]) fun _ _ _ _ _ _ us hl => match us, hl with | [_, _], _ => rfl
  have F3 := fun_mk (st := s_are_ascending) l3 c3 k3
  have b3 := F3.binds (ps := ["row"]) fun _ _ _ _ _ _ us hl => match us, hl with | [_], _ => rfl
  have F4 := fun_mk (st := s_is_made_of) l4 c4 k4
  have b4 := F4.binds (ps := ["value", "signs", "most"]) fun _ _ _ _ _ _ us hl => match us, hl with | [_, _, _], _ => rfl
  have F5 := fun_mk (st := s_is_plain) l5 c5 k5
  have b5 := F5.binds (ps := ["value"]) fun _ _ _ _ _ _ us hl => match us, hl with | [_], _ => rfl
  have F6 := fun_mk (st := s_is_plain_within) l6 c6 k6
  have b6 := F6.binds (ps := ["value", "most"]) fun _ _ _ _ _ _ us hl => match us, hl with | [_, _], _ => rfl
  have F7 := fun_mk (st := s_is_single) l7 c7 k7
  have b7 := F7.binds (ps := ["value"]) fun _ _ _ _ _ _ us hl => match us, hl with | [_], _ => rfl
  have F8 : FunD K "check_number" "check_number" (defArgs s_check_number) (defBody s_check_number) (defScope s_check_number) [.int (999999999999999999999999999999999999999999999999999999999999)] [] f8 _ := ⟨⟨oc8, od8, .ref dt8, kV8, dc8, pm8, an8, cd8, ct8, sl8, rfl, l8, c8, .inr ⟨by simp, dt8, _, [.int (999999999999999999999999999999999999999999999999999999999999) dk8_0], dn8, rfl, d8, rfl, (.cons ⟨_, rfl⟩ .nil)⟩, .inl rfl⟩, k8⟩
  obtain ⟨ds8, hv8, b8⟩ := F8.binds1 (ps := ["given", "least", "most"]) 3 1 (by simp) rfl fun _ _ _ _ _ _ _ us its hu hi => match us, hu, its, hi with | [_, _, _], _, [_], _ => ⟨_, rfl, rfl⟩
  cases hv8
  have dd8 := F8.binds1 (ps := ["given", "least", "most"]) 2 0 (by simp) rfl fun _ _ _ _ _ _ _ us its hu hi => match us, hu, its, hi with | [_, _], _, [_], _ => ⟨_, rfl, rfl⟩
  have F9 := fun_mk (st := s_is_block) l9 c9 k9
  have b9 := F9.binds (ps := ["value"]) fun _ _ _ _ _ _ us hl => match us, hl with | [_], _ => rfl
  have F10 := fun_mk (st := s_are_blocks) l10 c10 k10
  have b10 := F10.binds (ps := ["value", "least"]) fun _ _ _ _ _ _ us hl => match us, hl with | [_, _], _ => rfl
  have F11 := fun_mk (st := s_Disk_init) l11 c11 k11
  have b11 := F11.binds (ps := ["self", "blocks"]) fun _ _ _ _ _ _ us hl => match us, hl with | [_, _], _ => rfl
  have F12 := fun_mk (st := s_Disk_empty) l12 c12 k12
  have b12 := F12.binds (ps := ["cls", "many"]) fun _ _ _ _ _ _ us hl => match us, hl with | [_, _], _ => rfl
  have F13 := fun_mk (st := s_Disk_sure) l13 c13 k13
  have b13 := F13.binds (ps := ["self"]) fun _ _ _ _ _ _ us hl => match us, hl with | [_], _ => rfl
  have F14 := fun_mk (st := s_Disk_waiting) l14 c14 k14
  have b14 := F14.binds (ps := ["self"]) fun _ _ _ _ _ _ us hl => match us, hl with | [_], _ => rfl
  have F15 := fun_mk (st := s_Disk_put) l15 c15 k15
  have b15 := F15.binds (ps := ["self", "place", "block"]) fun _ _ _ _ _ _ us hl => match us, hl with | [_, _, _], _ => rfl
  have F16 := fun_mk (st := s_Disk_read) l16 c16 k16
  have b16 := F16.binds (ps := ["self", "place"]) fun _ _ _ _ _ _ us hl => match us, hl with | [_, _], _ => rfl
  have F17 := fun_mk (st := s_Disk_blocks) l17 c17 k17
  have b17 := F17.binds (ps := ["self"]) fun _ _ _ _ _ _ us hl => match us, hl with | [_], _ => rfl
  have F18 := fun_mk (st := s_Disk_synced) l18 c18 k18
  have b18 := F18.binds (ps := ["self"]) fun _ _ _ _ _ _ us hl => match us, hl with | [_], _ => rfl
  have F19 := fun_mk (st := s_Disk_fallen) l19 c19 k19
  have b19 := F19.binds (ps := ["self", "kept"]) fun _ _ _ _ _ _ us hl => match us, hl with | [_, _], _ => rfl
  have F20 := fun_mk (st := s_Disk_len) l20 c20 k20
  have b20 := F20.binds (ps := ["self"]) fun _ _ _ _ _ _ us hl => match us, hl with | [_], _ => rfl
  have F21 := fun_mk (st := s_Disk_eq) l21 c21 k21
  have b21 := F21.binds (ps := ["self", "other"]) fun _ _ _ _ _ _ us hl => match us, hl with | [_, _], _ => rfl
  have F22 := fun_mk (st := s_Disk_str) l22 c22 k22
  have b22 := F22.binds (ps := ["self"]) fun _ _ _ _ _ _ us hl => match us, hl with | [_], _ => rfl
  have F23 := fun_mk (st := s_made) l23 c23 k23
  have b23 := F23.binds (ps := ["sure", "waiting"]) fun _ _ _ _ _ _ us hl => match us, hl with | [_, _], _ => rfl
  have F24 := fun_mk (st := s_behind) l24 c24 k24
  have b24 := F24.binds (ps := ["sure", "puts"]) fun _ _ _ _ _ _ us hl => match us, hl with | [_, _], _ => rfl
  have F25 := fun_mk (st := s_check_disk) l25 c25 k25
  have b25 := F25.binds (ps := ["value"]) fun _ _ _ _ _ _ us hl => match us, hl with | [_], _ => rfl
  have F26 := fun_mk (st := s_versions_of) l26 c26 k26
  have b26 := F26.binds (ps := ["disk"]) fun _ _ _ _ _ _ us hl => match us, hl with | [_], _ => rfl
  have F27 := fun_mk (st := s_falls_count) l27 c27 k27
  have b27 := F27.binds (ps := ["disk"]) fun _ _ _ _ _ _ us hl => match us, hl with | [_], _ => rfl
  have F28 := fun_mk (st := s_each_fall) l28 c28 k28
  have b28 := F28.binds (ps := ["disk"]) fun _ _ _ _ _ _ us hl => match us, hl with | [_], _ => rfl
  have F29 := fun_mk (st := s_picked) l29 c29 k29
  have b29 := F29.binds (ps := ["versions", "number"]) fun _ _ _ _ _ _ us hl => match us, hl with | [_, _], _ => rfl
  have F30 := fun_mk (st := s_fall_paper) l30 c30 k30
  have b30 := F30.binds (ps := ["disk", "other"]) fun _ _ _ _ _ _ us hl => match us, hl with | [_, _], _ => rfl
  have F31 := fun_mk (st := s_is_fall_paper) l31 c31 k31
  have b31 := F31.binds (ps := ["disk", "other", "value"]) fun _ _ _ _ _ _ us hl => match us, hl with | [_, _, _], _ => rfl
  have F32 := fun_mk (st := s_law_dice) l32 c32 k32
  have b32 := F32.binds (ps := ["script", "spot"]) fun _ _ _ _ _ _ us hl => match us, hl with | [_, _], _ => rfl
  have F33 := fun_mk (st := s_law_roll) l33 c33 k33
  have b33 := F33.binds (ps := ["dice", "most"]) fun _ _ _ _ _ _ us hl => match us, hl with | [_, _], _ => rfl
  have F34 := fun_mk (st := s_law_pick) l34 c34 k34
  have b34 := F34.binds (ps := ["dice", "items"]) fun _ _ _ _ _ _ us hl => match us, hl with | [_, _], _ => rfl
  have F35 := fun_mk (st := s_law_fault) l35 c35 k35
  have b35 := F35.binds (ps := ["call"]) fun _ _ _ _ _ _ us hl => match us, hl with | [_], _ => rfl
  have F36 := fun_mk (st := s_law_right) l36 c36 k36
  have b36 := F36.binds (ps := ["dice"]) fun _ _ _ _ _ _ us hl => match us, hl with | [_], _ => rfl
  have F37 := fun_mk (st := s_law_deep) l37 c37 k37
  have b37 := F37.binds (ps := ["many"]) fun _ _ _ _ _ _ us hl => match us, hl with | [_], _ => rfl
  have F38 := fun_mk (st := s_law) l38 c38 k38
  have b38 := F38.binds (ps := ["script"]) fun _ _ _ _ _ _ us hl => match us, hl with | [_], _ => rfl
  have F39 := fun_mk (st := s_InvalidNumber_init) l39 c39 k39
  have b39 := F39.binds (ps := ["self", "given"]) fun _ _ _ _ _ _ us hl => match us, hl with | [_, _], _ => rfl
  have F40 := fun_mk (st := s_TooMany_init) l40 c40 k40
  have b40 := F40.binds (ps := ["self", "limit"]) fun _ _ _ _ _ _ us hl => match us, hl with | [_, _], _ => rfl
  have T : Txt K mg ⟨CDisk, f0, f1, f2, f3, f4, f5, f6, f7, f8, f9, f10, f11, f12, f13, f14, f15, f16, f17, f18, f19, f20, f21, f22, f23, f24, f25, f26, f27, f28, f29, f30, f31, f32, f33, f34, f35, f36, f37, fa, f39, f40, EInvalidDisk, EInvalidBlock, EInvalidOperation, EInvalidNumber, ETooMany⟩ ⟨_, _, _, _, _, _, _, _, _, _, _, _, _, _, _, _, _, _, _, _, _, _, _, _, _, _, _, _, _, _, _, _, _, _, _, _, _, _, _, _, _⟩ :=
    ⟨PySem.W.mg_of X G a0,
     F0,
     b0,
     PySem.W.mg_of X G a1,
     F1,
     b1,
     PySem.W.mg_of X G a2,
     F2,
     b2,
     PySem.W.mg_of X G a3,
     F3,
     b3,
     PySem.W.mg_of X G a4,
     F4,
     b4,
     PySem.W.mg_of X G a5,
     F5,
     b5,
     PySem.W.mg_of X G a6,
     F6,
     b6,
     PySem.W.mg_of X G a7,
     F7,
     b7,
     PySem.W.mg_of X G a8,
     F8,
     dd8,
     b8,
     PySem.W.mg_of X G a9,
     F9,
     b9,
     PySem.W.mg_of X G a10,
     F10,
     b10,
     F11,
     b11,
     F12,
     b12,
     F13,
     b13,
     F14,
     b14,
     F15,
     b15,
     F16,
     b16,
     F17,
     b17,
     F18,
     b18,
     F19,
     b19,
     F20,
     b20,
     F21,
     b21,
     F22,
     b22,
     PySem.W.mg_of X G a23,
     F23,
     b23,
     PySem.W.mg_of X G a24,
     F24,
     b24,
     PySem.W.mg_of X G a25,
     F25,
     b25,
     PySem.W.mg_of X G a26,
     F26,
     b26,
     PySem.W.mg_of X G a27,
     F27,
     b27,
     PySem.W.mg_of X G a28,
     F28,
     b28,
     PySem.W.mg_of X G a29,
     F29,
     b29,
     PySem.W.mg_of X G a30,
     F30,
     b30,
     PySem.W.mg_of X G a31,
     F31,
     b31,
     PySem.W.mg_of X G a32,
     F32,
     b32,
     PySem.W.mg_of X G a33,
     F33,
     b33,
     PySem.W.mg_of X G a34,
     F34,
     b34,
     PySem.W.mg_of X G a35,
     F35,
     b35,
     PySem.W.mg_of X G a36,
     F36,
     b36,
     PySem.W.mg_of X G a37,
     F37,
     b37,
     PySem.W.mg_of X G a38,
     F38,
     b38,
     F39,
     b39,
     F40,
     b40,
     PySem.W.mg_of X G aCDisk,
     ⟨zDiskpg, zDiskhd, zDiskpo, zDisksa⟩,
     ⟨zDiskmk, a11, i11, zDiskkc⟩,
     ⟨zDiskca, zDiskcg, zDiskct, zDiskco⟩,
     ⟨zDiskrd, zDiskga⟩,
     zDiskkNoneType,
     zDiskfNoneType,
     zDiskktuple,
     zDiskftuple,
     zDiskkint,
     zDiskfint,
     zDiskkstr,
     zDiskfstr,
     zDiskklist,
     zDiskflist,
     zDiskkbool,
     zDiskfbool,
     zDiskkdict,
     zDiskfdict,
     zDiskrint,
     zDiskrbool,
     zDiskrstr,
     zDiskrtuple,
     zDiskne,
     zDiskno_sure,
     zDiskno_waiting,
     ⟨a11, i11, k11⟩,
     ⟨_, a12, ⟨_, r12⟩, g12⟩,
     ⟨_, a13, g13, t13, _, r13⟩,
     ⟨_, a14, g14, t14, _, r14⟩,
     ⟨a15, i15, k15⟩,
     ⟨a16, i16, k16⟩,
     ⟨a17, i17, k17⟩,
     ⟨a18, i18, k18⟩,
     ⟨a19, i19, k19⟩,
     ⟨a20, i20, k20⟩,
     ⟨a21, i21, k21⟩,
     ⟨a22, i22, k22⟩,
     ⟨_, PySem.W.mg_of X G x0⟩,
     ⟨_, PySem.W.mg_of X G x1⟩,
     ⟨_, PySem.W.mg_of X G x2⟩,
     ⟨_, PySem.W.mg_of X G x3⟩,
     ⟨_, PySem.W.mg_of X G x4⟩,
     ⟨_, PySem.W.mg_of X G x5⟩,
     ⟨_, PySem.W.mg_of X G x6⟩,
     PySem.W.mg_none_of X G y0,
     PySem.W.mg_none_of X G y1,
     PySem.W.mg_none_of X G y2,
     PySem.W.mg_none_of X G y3,
     PySem.W.mg_none_of X G y4,
     PySem.W.mg_none_of X G y5,
     PySem.W.mg_none_of X G y6,
     PySem.W.mg_none_of X G y7,
     PySem.W.mg_none_of X G y8,
     PySem.W.mg_none_of X G y9,
     PySem.W.mg_none_of X G y10,
     PySem.W.mg_none_of X G y11,
     PySem.W.mg_none_of X G y12,
     PySem.W.mg_none_of X G y13,
     PySem.W.mg_none_of X G y14,
     PySem.W.mg_none_of X G y15,
     PySem.W.mg_none_of X G y16,
     ⟨PySem.W.mg_of X G aEInvalidDisk, qEInvalidDisk, zEInvalidDiskkc, zEInvalidDisksb, zEInvalidDiskty⟩,
     ⟨PySem.W.mg_of X G aEInvalidBlock, qEInvalidBlock, zEInvalidBlockkc, zEInvalidBlocksb, zEInvalidBlockty⟩,
     ⟨PySem.W.mg_of X G aEInvalidOperation, qEInvalidOperation, zEInvalidOperationkc, zEInvalidOperationsb, zEInvalidOperationty⟩,
     ⟨PySem.W.mg_of X G aEInvalidNumber, oexCT exT_index zEInvalidNumberoi zEInvalidNumbersa zEInvalidNumbersb zEInvalidNumberty zEInvalidNumberkc, xfB_ok zEInvalidNumberxf, zEInvalidNumberini, zEInvalidNumberfn⟩,
     zEInvalidNumbernogiven,
     ⟨PySem.W.mg_of X G aETooMany, oexCT exT_over zETooManyoi zETooManysa zETooManysb zETooManyty zETooManykc, xfB_ok zETooManyxf, zETooManyini, zETooManyfn⟩,
     zETooManynolimit,
     zEInvalidDiskInvalidBlock,
     zEInvalidDiskInvalidDisk,
     zEInvalidDiskInvalidNumber,
     zEInvalidDiskInvalidOperation,
     zEInvalidDiskTooMany,
     zEInvalidBlockInvalidBlock,
     zEInvalidBlockInvalidDisk,
     zEInvalidBlockInvalidNumber,
     zEInvalidBlockInvalidOperation,
     zEInvalidBlockTooMany,
     zEInvalidOperationInvalidBlock,
     zEInvalidOperationInvalidDisk,
     zEInvalidOperationInvalidNumber,
     zEInvalidOperationInvalidOperation,
     zEInvalidOperationTooMany,
     zEInvalidNumberInvalidBlock,
     zEInvalidNumberInvalidDisk,
     zEInvalidNumberInvalidNumber,
     zEInvalidNumberInvalidOperation,
     zEInvalidNumberTooMany,
     zETooManyInvalidBlock,
     zETooManyInvalidDisk,
     zETooManyInvalidNumber,
     zETooManyInvalidOperation,
     zETooManyTooMany,
     zEInvalidDisknst,
     zEInvalidBlocknst,
     zEInvalidOperationnst,
     zEInvalidNumbernst,
     zETooManynst⟩
  have tA : ∀ p ∈ [(cc36, pp36), (cc38, pp38)], h.get? p.2 = some { cls := .none, data := .fields #[] } := fun p hp => by
    rcases List.mem_cons.mp hp with rfl | hp
    · exact lt36
    rw [List.mem_singleton.mp hp]
    exact lt38
  have tN : ∀ p ∈ [(cc36, pp36), (cc38, pp38)], K.lookup p.2 = none := fun p hp => by
    rcases List.mem_cons.mp hp with rfl | hp
    · exact ln36
    rw [List.mem_singleton.mp hp]
    exact ln38
  have tC : ∀ p ∈ [(cc36, pp36), (cc38, pp38)], PySem.W.CodeHd h p.1 p.2 := fun p hp => by
    rcases List.mem_cons.mp hp with rfl | hp
    · exact PySem.W.codeHd_of_K X lq36
    rw [List.mem_singleton.mp hp]
    exact PySem.W.codeHd_of_K X lq38
  refine ⟨PySem.W.fnOf "law" "law" (defArgs s_law) (defBody s_law) (defScope s_law) .none kV38 dc38 pm38 an38 (.ref cc38) ct38, [(cc36, pp36), (cc38, pp38)], sp_law K ⟨cc36, pp36, cc38, pp38⟩, tA, tN, tC, fun s v => .of_eq rfl, fun H a ns hl hT hS => ⟨a, ns, rfl, hS, hl, fun p hp => ?_, fun _ => rfl⟩, fun base _ _ TB => ok_law T ⟨rfl, TB _ List.mem_cons_self, rfl, TB _ (List.mem_cons_of_mem _ List.mem_cons_self), lne0_1⟩⟩
  rcases List.mem_cons.mp hp with rfl | hp
  · exact LamX.TabS.nil (hT (cc36, pp36) List.mem_cons_self)
  rw [List.mem_singleton.mp hp]
  exact LamX.TabS.nil (hT (cc38, pp38) (List.mem_cons_of_mem _ List.mem_cons_self))
theorem walk {l : PySem.W.OpenLaw} {q : Program} {loose : List Str} {XP : (Str → Option Value) → Heap → Prop} {YP : World → Heap → Prop} {d : DefRec} {K : Params → PySem.W.Frag} (hn : l.most = some 63) (hdf : d.params.defaults = [])
    (hY : ∀ (w : World) (h : Heap), YP w h → (K w.params).In h)
    (F : ∀ (w : World) (mg : Str → Option Value) (fa : Addr) (h : Heap), YP w h → (K w.params).In h → h.Ns mainGlobals mg → mg d.name = some (.ref fa) →
      LawG l w (K w.params) CX0 56 63 "script" mg fa h) :
    PySem.W.WalkO q loose XP YP l.row.toRowW d [] (fun f vs => PySem.call f vs) :=
  walk_ofG (n := 63) (k := 56) (x := "script") (CXr := fun _ => CX0) hn (by rw [sizeLine_eq]; decide) hdf ⟨rfl, by decide, by decide⟩ hY F fun _ _ _ _ _ z => z
section
open PySem.W PySem.Calls
def KX (P : Params) : PySem.W.Frag :=
(nat_lit 2, ⟨.none, none, (.dict (List.toArray [⟨PyData.keyHash P (PySem.Str.ofString "type.__subclasses__.IndexError.0"), (.str (PySem.Str.ofString "type.__subclasses__.IndexError.0") 280), (.int (80) 0)⟩, ⟨PyData.keyHash P (PySem.Str.ofString "type.__subclasses__.IndexError.n"), (.str (PySem.Str.ofString "type.__subclasses__.IndexError.n") 281), (.int (1) 0)⟩, ⟨PyData.keyHash P (PySem.Str.ofString "type.__subclasses__.OverflowError.0"), (.str (PySem.Str.ofString "type.__subclasses__.OverflowError.0") 309), (.int (100) 0)⟩, ⟨PyData.keyHash P (PySem.Str.ofString "type.__subclasses__.OverflowError.n"), (.str (PySem.Str.ofString "type.__subclasses__.OverflowError.n") 310), (.int (1) 0)⟩]) 4), (List.toArray [])⟩) ::
(nat_lit 3, ⟨(.type "dict"), none, (.dict (List.toArray [⟨PyData.keyHash P (PySem.Str.ofString "__name__"), (.str (PySem.Str.ofString "__name__") 165), (.str (PySem.Str.ofString "law_halvesmeet_k14_errors_of_disks") 626)⟩, ⟨PyData.keyHash P (PySem.Str.ofString "__doc__"), (.str (PySem.Str.ofString "__doc__") 166), .none⟩, ⟨PyData.keyHash P (PySem.Str.ofString "__package__"), (.str (PySem.Str.ofString "__package__") 167), .none⟩, ⟨PyData.keyHash P (PySem.Str.ofString "__loader__"), (.str (PySem.Str.ofString "__loader__") 168), (.builtin "__main__.__loader__#opaque")⟩, ⟨PyData.keyHash P (PySem.Str.ofString "__spec__"), (.str (PySem.Str.ofString "__spec__") 169), .none⟩, ⟨PyData.keyHash P (PySem.Str.ofString "__annotations__"), (.str (PySem.Str.ofString "__annotations__") 170), (.ref 6)⟩, ⟨PyData.keyHash P (PySem.Str.ofString "__builtins__"), (.str (PySem.Str.ofString "__builtins__") 171), (.ref 4)⟩, ⟨PyData.keyHash P (PySem.Str.ofString "__file__"), (.str (PySem.Str.ofString "__file__") 173), (.str (PySem.Str.ofString "/claim/cut.py") 172)⟩, ⟨PyData.keyHash P (PySem.Str.ofString "__cached__"), (.str (PySem.Str.ofString "__cached__") 174), .none⟩, ⟨PyData.keyHash P (PySem.Str.ofString "HouseError"), (.str (PySem.Str.ofString "HouseError") 206), (.ref 24)⟩, ⟨PyData.keyHash P (PySem.Str.ofString "InvalidDisk"), (.str (PySem.Str.ofString "InvalidDisk") 222), (.ref 37)⟩, ⟨PyData.keyHash P (PySem.Str.ofString "InvalidBlock"), (.str (PySem.Str.ofString "InvalidBlock") 238), (.ref 49)⟩, ⟨PyData.keyHash P (PySem.Str.ofString "InvalidOperation"), (.str (PySem.Str.ofString "InvalidOperation") 254), (.ref 61)⟩, ⟨PyData.keyHash P (PySem.Str.ofString "InvalidNumber"), (.str (PySem.Str.ofString "InvalidNumber") 283), (.ref 80)⟩, ⟨PyData.keyHash P (PySem.Str.ofString "TooMany"), (.str (PySem.Str.ofString "TooMany") 312), (.ref 100)⟩, ⟨PyData.keyHash P (PySem.Str.ofString "MAX_NEST"), (.str (PySem.Str.ofString "MAX_NEST") 316), (.int (12) 315)⟩, ⟨PyData.keyHash P (PySem.Str.ofString "MAX_STRING"), (.str (PySem.Str.ofString "MAX_STRING") 318), (.int (3000) 317)⟩, ⟨PyData.keyHash P (PySem.Str.ofString "MAX_NUMBER"), (.str (PySem.Str.ofString "MAX_NUMBER") 324), (.int (999999999999999999999999999999999999999999999999999999999999) 323)⟩, ⟨PyData.keyHash P (PySem.Str.ofString "SIGNS"), (.str (PySem.Str.ofString "SIGNS") 326), (.str (PySem.Str.ofString "abcdefghijklmnopqrstuvwxyz0123456789 ") 325)⟩, ⟨PyData.keyHash P (PySem.Str.ofString "is_number"), (.str (PySem.Str.ofString "is_number") 333), (.ref 110)⟩, ⟨PyData.keyHash P (PySem.Str.ofString "is_within"), (.str (PySem.Str.ofString "is_within") 342), (.ref 117)⟩, ⟨PyData.keyHash P (PySem.Str.ofString "are_indices"), (.str (PySem.Str.ofString "are_indices") 348), (.ref 122)⟩, ⟨PyData.keyHash P (PySem.Str.ofString "are_ascending"), (.str (PySem.Str.ofString "are_ascending") 354), (.ref 127)⟩, ⟨PyData.keyHash P (PySem.Str.ofString "is_made_of"), (.str (PySem.Str.ofString "is_made_of") 363), (.ref 134)⟩, ⟨PyData.keyHash P (PySem.Str.ofString "is_plain"), (.str (PySem.Str.ofString "is_plain") 370), (.ref 141)⟩, ⟨PyData.keyHash P (PySem.Str.ofString "is_plain_within"), (.str (PySem.Str.ofString "is_plain_within") 376), (.ref 146)⟩, ⟨PyData.keyHash P (PySem.Str.ofString "_is_single"), (.str (PySem.Str.ofString "_is_single") 383), (.ref 153)⟩, ⟨PyData.keyHash P (PySem.Str.ofString "check_number"), (.str (PySem.Str.ofString "check_number") 394), (.ref 161)⟩, ⟨PyData.keyHash P (PySem.Str.ofString "MAX_BLOCKS"), (.str (PySem.Str.ofString "MAX_BLOCKS") 398), (.int (200) 397)⟩, ⟨PyData.keyHash P (PySem.Str.ofString "MAX_WAITING"), (.str (PySem.Str.ofString "MAX_WAITING") 400), (.int (400) 399)⟩, ⟨PyData.keyHash P (PySem.Str.ofString "MOST_FALLS"), (.str (PySem.Str.ofString "MOST_FALLS") 402), (.int (4000) 401)⟩, ⟨PyData.keyHash P (PySem.Str.ofString "is_block"), (.str (PySem.Str.ofString "is_block") 409), (.ref 168)⟩, ⟨PyData.keyHash P (PySem.Str.ofString "are_blocks"), (.str (PySem.Str.ofString "are_blocks") 415), (.ref 173)⟩, ⟨PyData.keyHash P (PySem.Str.ofString "Disk"), (.str (PySem.Str.ofString "Disk") 541), (.ref 270)⟩, ⟨PyData.keyHash P (PySem.Str.ofString "_made"), (.str (PySem.Str.ofString "_made") 550), (.ref 281)⟩, ⟨PyData.keyHash P (PySem.Str.ofString "_behind"), (.str (PySem.Str.ofString "_behind") 561), (.ref 288)⟩, ⟨PyData.keyHash P (PySem.Str.ofString "check_disk"), (.str (PySem.Str.ofString "check_disk") 568), (.ref 295)⟩, ⟨PyData.keyHash P (PySem.Str.ofString "_versions_of"), (.str (PySem.Str.ofString "_versions_of") 574), (.ref 300)⟩, ⟨PyData.keyHash P (PySem.Str.ofString "falls_count"), (.str (PySem.Str.ofString "falls_count") 583), (.ref 307)⟩, ⟨PyData.keyHash P (PySem.Str.ofString "each_fall"), (.str (PySem.Str.ofString "each_fall") 593), (.ref 314)⟩, ⟨PyData.keyHash P (PySem.Str.ofString "_picked"), (.str (PySem.Str.ofString "_picked") 603), (.ref 321)⟩, ⟨PyData.keyHash P (PySem.Str.ofString "fall_paper"), (.str (PySem.Str.ofString "fall_paper") 616), (.ref 328)⟩, ⟨PyData.keyHash P (PySem.Str.ofString "is_fall_paper"), (.str (PySem.Str.ofString "is_fall_paper") 625), (.ref 335)⟩, ⟨PyData.keyHash P (PySem.Str.ofString "_law_dice"), (.str (PySem.Str.ofString "_law_dice") 637), (.ref 342)⟩, ⟨PyData.keyHash P (PySem.Str.ofString "_law_roll"), (.str (PySem.Str.ofString "_law_roll") 648), (.ref 349)⟩, ⟨PyData.keyHash P (PySem.Str.ofString "_law_pick"), (.str (PySem.Str.ofString "_law_pick") 656), (.ref 356)⟩, ⟨PyData.keyHash P (PySem.Str.ofString "_law_fault"), (.str (PySem.Str.ofString "_law_fault") 664), (.ref 363)⟩, ⟨PyData.keyHash P (PySem.Str.ofString "_law_right"), (.str (PySem.Str.ofString "_law_right") 670), (.ref 368)⟩, ⟨PyData.keyHash P (PySem.Str.ofString "_law_deep"), (.str (PySem.Str.ofString "_law_deep") 679), (.ref 375)⟩, ⟨PyData.keyHash P (PySem.Str.ofString "law"), (.str (PySem.Str.ofString "law") 685), (.ref 380)⟩]) 50), (List.toArray [])⟩) ::
(nat_lit 15, ⟨(.type "tuple"), none, (.seq (List.toArray [(.type "ValueError")]) 0), (List.toArray [])⟩) ::
(nat_lit 22, ⟨(.type "tuple"), none, (.seq (List.toArray []) 0), (List.toArray [])⟩) ::
(nat_lit 23, ⟨(.type "dict"), none, (.dict (List.toArray [⟨PyData.keyHash P (PySem.Str.ofString "__module__"), (.str (PySem.Str.ofString "__module__") 196), (.str (PySem.Str.ofString "halvesmeet.errors") 187)⟩, ⟨PyData.keyHash P (PySem.Str.ofString "__firstlineno__"), (.str (PySem.Str.ofString "__firstlineno__") 200), (.int (2) 199)⟩, ⟨PyData.keyHash P (PySem.Str.ofString "__static_attributes__"), (.str (PySem.Str.ofString "__static_attributes__") 201), (.ref 22)⟩, ⟨PyData.keyHash P (PySem.Str.ofString "__weakref__"), (.str (PySem.Str.ofString "__weakref__") 203), (.ref 25)⟩, ⟨PyData.keyHash P (PySem.Str.ofString "__doc__"), (.str (PySem.Str.ofString "__doc__") 204), .none⟩]) 3), (List.toArray [])⟩) ::
(nat_lit 24, ⟨(.type "type"), none, (.cls ⟨(PySem.Str.ofString "HouseError"), [(.type "ValueError")], [(.ref 24), (.type "ValueError"), (.type "Exception"), (.type "BaseException"), (.type "object")], 23, (PySem.Str.ofString "HouseError"), true, [], [(.ref 37), (.ref 49), (.ref 61)], false, none, false⟩), (List.toArray [(some (.ref 15)), none, (some (.str (PySem.Str.ofString "HouseError") 189)), (some (.str (PySem.Str.ofString "HouseError") 197)), (some (.builtin "ValueError.__new__")), (some (.bool true))])⟩) ::
(nat_lit 25, ⟨(.type "getset_descriptor"), none, (.fields (List.toArray [(.str (PySem.Str.ofString "__weakref__") 202), (.ref 24), (.builtin "ExceptionGroup.__weakref__"), .none])), (List.toArray [])⟩) ::
(nat_lit 28, ⟨(.type "tuple"), none, (.seq (List.toArray [(.ref 24)]) 0), (List.toArray [])⟩) ::
(nat_lit 35, ⟨(.type "tuple"), none, (.seq (List.toArray []) 0), (List.toArray [])⟩) ::
(nat_lit 36, ⟨(.type "dict"), none, (.dict (List.toArray [⟨PyData.keyHash P (PySem.Str.ofString "__module__"), (.str (PySem.Str.ofString "__module__") 214), (.str (PySem.Str.ofString "halvesmeet.errors") 187)⟩, ⟨PyData.keyHash P (PySem.Str.ofString "__firstlineno__"), (.str (PySem.Str.ofString "__firstlineno__") 218), (.int (4) 217)⟩, ⟨PyData.keyHash P (PySem.Str.ofString "__static_attributes__"), (.str (PySem.Str.ofString "__static_attributes__") 219), (.ref 35)⟩, ⟨PyData.keyHash P (PySem.Str.ofString "__doc__"), (.str (PySem.Str.ofString "__doc__") 220), .none⟩]) 2), (List.toArray [])⟩) ::
(nat_lit 37, ⟨(.type "type"), none, (.cls ⟨(PySem.Str.ofString "InvalidDisk"), [(.ref 24)], [(.ref 37), (.ref 24), (.type "ValueError"), (.type "Exception"), (.type "BaseException"), (.type "object")], 36, (PySem.Str.ofString "InvalidDisk"), true, [], [], false, none, false⟩), (List.toArray [(some (.ref 28)), none, (some (.str (PySem.Str.ofString "InvalidDisk") 207)), (some (.str (PySem.Str.ofString "InvalidDisk") 215)), (some (.builtin "ValueError.__new__")), (some (.bool true))])⟩) ::
(nat_lit 40, ⟨(.type "tuple"), none, (.seq (List.toArray [(.ref 24)]) 0), (List.toArray [])⟩) ::
(nat_lit 47, ⟨(.type "tuple"), none, (.seq (List.toArray []) 0), (List.toArray [])⟩) ::
(nat_lit 48, ⟨(.type "dict"), none, (.dict (List.toArray [⟨PyData.keyHash P (PySem.Str.ofString "__module__"), (.str (PySem.Str.ofString "__module__") 230), (.str (PySem.Str.ofString "halvesmeet.errors") 187)⟩, ⟨PyData.keyHash P (PySem.Str.ofString "__firstlineno__"), (.str (PySem.Str.ofString "__firstlineno__") 234), (.int (6) 233)⟩, ⟨PyData.keyHash P (PySem.Str.ofString "__static_attributes__"), (.str (PySem.Str.ofString "__static_attributes__") 235), (.ref 47)⟩, ⟨PyData.keyHash P (PySem.Str.ofString "__doc__"), (.str (PySem.Str.ofString "__doc__") 236), .none⟩]) 2), (List.toArray [])⟩) ::
(nat_lit 49, ⟨(.type "type"), none, (.cls ⟨(PySem.Str.ofString "InvalidBlock"), [(.ref 24)], [(.ref 49), (.ref 24), (.type "ValueError"), (.type "Exception"), (.type "BaseException"), (.type "object")], 48, (PySem.Str.ofString "InvalidBlock"), true, [], [], false, none, false⟩), (List.toArray [(some (.ref 40)), none, (some (.str (PySem.Str.ofString "InvalidBlock") 223)), (some (.str (PySem.Str.ofString "InvalidBlock") 231)), (some (.builtin "ValueError.__new__")), (some (.bool true))])⟩) ::
(nat_lit 52, ⟨(.type "tuple"), none, (.seq (List.toArray [(.ref 24)]) 0), (List.toArray [])⟩) ::
(nat_lit 59, ⟨(.type "tuple"), none, (.seq (List.toArray []) 0), (List.toArray [])⟩) ::
(nat_lit 60, ⟨(.type "dict"), none, (.dict (List.toArray [⟨PyData.keyHash P (PySem.Str.ofString "__module__"), (.str (PySem.Str.ofString "__module__") 246), (.str (PySem.Str.ofString "halvesmeet.errors") 187)⟩, ⟨PyData.keyHash P (PySem.Str.ofString "__firstlineno__"), (.str (PySem.Str.ofString "__firstlineno__") 250), (.int (8) 249)⟩, ⟨PyData.keyHash P (PySem.Str.ofString "__static_attributes__"), (.str (PySem.Str.ofString "__static_attributes__") 251), (.ref 59)⟩, ⟨PyData.keyHash P (PySem.Str.ofString "__doc__"), (.str (PySem.Str.ofString "__doc__") 252), .none⟩]) 2), (List.toArray [])⟩) ::
(nat_lit 61, ⟨(.type "type"), none, (.cls ⟨(PySem.Str.ofString "InvalidOperation"), [(.ref 24)], [(.ref 61), (.ref 24), (.type "ValueError"), (.type "Exception"), (.type "BaseException"), (.type "object")], 60, (PySem.Str.ofString "InvalidOperation"), true, [], [], false, none, false⟩), (List.toArray [(some (.ref 52)), none, (some (.str (PySem.Str.ofString "InvalidOperation") 239)), (some (.str (PySem.Str.ofString "InvalidOperation") 247)), (some (.builtin "ValueError.__new__")), (some (.bool true))])⟩) ::
(nat_lit 64, ⟨(.type "tuple"), none, (.seq (List.toArray [(.type "IndexError")]) 0), (List.toArray [])⟩) ::
(nat_lit 71, ⟨(.type "tuple"), none, (.seq (List.toArray []) 0), (List.toArray [])⟩) ::
(nat_lit 73, ⟨(.type "tuple"), none, (.seq (List.toArray [(.str (PySem.Str.ofString "self") 270), (.str (PySem.Str.ofString "given") 271)]) 0), (List.toArray [])⟩) ::
(nat_lit 74, ⟨(.type "tuple"), none, (.seq (List.toArray []) 0), (List.toArray [])⟩) ::
(nat_lit 76, ⟨(.type "code"), none, (.fields (List.toArray [(.str (PySem.Str.ofString "__init__") 267), (.str (PySem.Str.ofString "InvalidNumber.__init__") 268), (.str (PySem.Str.ofString "/claim/cut.py") 269), (.int (12) 0), (.int (2) 0), (.int (0) 0), (.int (0) 0), (.int (3) 0), (.ref 71), (.bool true), (.int (181) 0), (.ref 72), .none, (.ref 73), (.ref 74), (.ref 75), (.int (272) 0), (.int (12) 0), (.str (PySem.Str.ofString "/claim/cut.py") 273)])), (List.toArray [])⟩) ::
(nat_lit 77, ⟨(.type "function"), none, (.func (PySem.W.fnOf (PySem.Str.ofString "__init__") (PySem.Str.ofString "InvalidNumber.__init__") (defArgs s_InvalidNumber_init) (defBody s_InvalidNumber_init) (defScope s_InvalidNumber_init) .none .none .none (.str (PySem.Str.ofString "halvesmeet.errors") 187) none (.ref 76) .none)), (List.toArray [])⟩) ::
(nat_lit 78, ⟨(.type "tuple"), none, (.seq (List.toArray [(.str (PySem.Str.ofString "given") 275)]) 0), (List.toArray [])⟩) ::
(nat_lit 79, ⟨(.type "dict"), none, (.dict (List.toArray [⟨PyData.keyHash P (PySem.Str.ofString "__module__"), (.str (PySem.Str.ofString "__module__") 262), (.str (PySem.Str.ofString "halvesmeet.errors") 187)⟩, ⟨PyData.keyHash P (PySem.Str.ofString "__firstlineno__"), (.str (PySem.Str.ofString "__firstlineno__") 266), (.int (10) 265)⟩, ⟨PyData.keyHash P (PySem.Str.ofString "__init__"), (.str (PySem.Str.ofString "__init__") 274), (.ref 77)⟩, ⟨PyData.keyHash P (PySem.Str.ofString "__static_attributes__"), (.str (PySem.Str.ofString "__static_attributes__") 276), (.ref 78)⟩, ⟨PyData.keyHash P (PySem.Str.ofString "__weakref__"), (.str (PySem.Str.ofString "__weakref__") 278), (.ref 81)⟩, ⟨PyData.keyHash P (PySem.Str.ofString "__doc__"), (.str (PySem.Str.ofString "__doc__") 279), .none⟩]) 3), (List.toArray [])⟩) ::
(nat_lit 80, ⟨(.type "type"), none, (.cls ⟨(PySem.Str.ofString "InvalidNumber"), [(.type "IndexError")], [(.ref 80), (.type "IndexError"), (.type "LookupError"), (.type "Exception"), (.type "BaseException"), (.type "object")], 79, (PySem.Str.ofString "InvalidNumber"), true, [], [], false, none, false⟩), (List.toArray [(some (.ref 64)), none, (some (.str (PySem.Str.ofString "InvalidNumber") 255)), (some (.str (PySem.Str.ofString "InvalidNumber") 263)), (some (.builtin "IndexError.__new__")), (some (.bool true))])⟩) ::
(nat_lit 81, ⟨(.type "getset_descriptor"), none, (.fields (List.toArray [(.str (PySem.Str.ofString "__weakref__") 277), (.ref 80), (.builtin "ExceptionGroup.__weakref__"), .none])), (List.toArray [])⟩) ::
(nat_lit 84, ⟨(.type "tuple"), none, (.seq (List.toArray [(.type "OverflowError")]) 0), (List.toArray [])⟩) ::
(nat_lit 91, ⟨(.type "tuple"), none, (.seq (List.toArray []) 0), (List.toArray [])⟩) ::
(nat_lit 93, ⟨(.type "tuple"), none, (.seq (List.toArray [(.str (PySem.Str.ofString "self") 299), (.str (PySem.Str.ofString "limit") 300)]) 0), (List.toArray [])⟩) ::
(nat_lit 94, ⟨(.type "tuple"), none, (.seq (List.toArray []) 0), (List.toArray [])⟩) ::
(nat_lit 96, ⟨(.type "code"), none, (.fields (List.toArray [(.str (PySem.Str.ofString "__init__") 296), (.str (PySem.Str.ofString "TooMany.__init__") 297), (.str (PySem.Str.ofString "/claim/cut.py") 298), (.int (16) 0), (.int (2) 0), (.int (0) 0), (.int (0) 0), (.int (3) 0), (.ref 91), (.bool true), (.int (181) 0), (.ref 92), .none, (.ref 93), (.ref 94), (.ref 95), (.int (301) 0), (.int (16) 0), (.str (PySem.Str.ofString "/claim/cut.py") 302)])), (List.toArray [])⟩) ::
(nat_lit 97, ⟨(.type "function"), none, (.func (PySem.W.fnOf (PySem.Str.ofString "__init__") (PySem.Str.ofString "TooMany.__init__") (defArgs s_TooMany_init) (defBody s_TooMany_init) (defScope s_TooMany_init) .none .none .none (.str (PySem.Str.ofString "halvesmeet.errors") 187) none (.ref 96) .none)), (List.toArray [])⟩) ::
(nat_lit 98, ⟨(.type "tuple"), none, (.seq (List.toArray [(.str (PySem.Str.ofString "limit") 304)]) 0), (List.toArray [])⟩) ::
(nat_lit 99, ⟨(.type "dict"), none, (.dict (List.toArray [⟨PyData.keyHash P (PySem.Str.ofString "__module__"), (.str (PySem.Str.ofString "__module__") 291), (.str (PySem.Str.ofString "halvesmeet.errors") 187)⟩, ⟨PyData.keyHash P (PySem.Str.ofString "__firstlineno__"), (.str (PySem.Str.ofString "__firstlineno__") 295), (.int (14) 294)⟩, ⟨PyData.keyHash P (PySem.Str.ofString "__init__"), (.str (PySem.Str.ofString "__init__") 303), (.ref 97)⟩, ⟨PyData.keyHash P (PySem.Str.ofString "__static_attributes__"), (.str (PySem.Str.ofString "__static_attributes__") 305), (.ref 98)⟩, ⟨PyData.keyHash P (PySem.Str.ofString "__weakref__"), (.str (PySem.Str.ofString "__weakref__") 307), (.ref 101)⟩, ⟨PyData.keyHash P (PySem.Str.ofString "__doc__"), (.str (PySem.Str.ofString "__doc__") 308), .none⟩]) 3), (List.toArray [])⟩) ::
(nat_lit 100, ⟨(.type "type"), none, (.cls ⟨(PySem.Str.ofString "TooMany"), [(.type "OverflowError")], [(.ref 100), (.type "OverflowError"), (.type "ArithmeticError"), (.type "Exception"), (.type "BaseException"), (.type "object")], 99, (PySem.Str.ofString "TooMany"), true, [], [], false, none, false⟩), (List.toArray [(some (.ref 84)), none, (some (.str (PySem.Str.ofString "TooMany") 284)), (some (.str (PySem.Str.ofString "TooMany") 292)), (some (.builtin "OverflowError.__new__")), (some (.bool true))])⟩) ::
(nat_lit 101, ⟨(.type "getset_descriptor"), none, (.fields (List.toArray [(.str (PySem.Str.ofString "__weakref__") 306), (.ref 100), (.builtin "ExceptionGroup.__weakref__"), .none])), (List.toArray [])⟩) ::
(nat_lit 104, ⟨(.type "tuple"), none, (.seq (List.toArray []) 0), (List.toArray [])⟩) ::
(nat_lit 106, ⟨(.type "tuple"), none, (.seq (List.toArray [(.str (PySem.Str.ofString "value") 330)]) 0), (List.toArray [])⟩) ::
(nat_lit 107, ⟨(.type "tuple"), none, (.seq (List.toArray []) 0), (List.toArray [])⟩) ::
(nat_lit 109, ⟨(.type "code"), none, (.fields (List.toArray [(.str (PySem.Str.ofString "is_number") 327), (.str (PySem.Str.ofString "is_number") 328), (.str (PySem.Str.ofString "/claim/cut.py") 329), (.int (23) 0), (.int (1) 0), (.int (0) 0), (.int (0) 0), (.int (3) 0), (.ref 104), (.bool true), (.int (181) 0), (.ref 105), .none, (.ref 106), (.ref 107), (.ref 108), (.int (331) 0), (.int (23) 0), (.str (PySem.Str.ofString "/claim/cut.py") 332)])), (List.toArray [])⟩) ::
(nat_lit 110, ⟨(.type "function"), none, (.func (PySem.W.fnOf (PySem.Str.ofString "is_number") (PySem.Str.ofString "is_number") (defArgs s_is_number) (defBody s_is_number) (defScope s_is_number) .none .none .none (.str (PySem.Str.ofString "halvesmeet.base.values") 313) none (.ref 109) .none)), (List.toArray [])⟩) ::
(nat_lit 111, ⟨(.type "tuple"), none, (.seq (List.toArray []) 0), (List.toArray [])⟩) ::
(nat_lit 113, ⟨(.type "tuple"), none, (.seq (List.toArray [(.str (PySem.Str.ofString "value") 337), (.str (PySem.Str.ofString "least") 338), (.str (PySem.Str.ofString "most") 339)]) 0), (List.toArray [])⟩) ::
(nat_lit 114, ⟨(.type "tuple"), none, (.seq (List.toArray []) 0), (List.toArray [])⟩) ::
(nat_lit 116, ⟨(.type "code"), none, (.fields (List.toArray [(.str (PySem.Str.ofString "is_within") 334), (.str (PySem.Str.ofString "is_within") 335), (.str (PySem.Str.ofString "/claim/cut.py") 336), (.int (27) 0), (.int (3) 0), (.int (0) 0), (.int (0) 0), (.int (3) 0), (.ref 111), (.bool true), (.int (181) 0), (.ref 112), .none, (.ref 113), (.ref 114), (.ref 115), (.int (340) 0), (.int (27) 0), (.str (PySem.Str.ofString "/claim/cut.py") 341)])), (List.toArray [])⟩) ::
(nat_lit 117, ⟨(.type "function"), none, (.func (PySem.W.fnOf (PySem.Str.ofString "is_within") (PySem.Str.ofString "is_within") (defArgs s_is_within) (defBody s_is_within) (defScope s_is_within) .none .none .none (.str (PySem.Str.ofString "halvesmeet.base.values") 313) none (.ref 116) .none)), (List.toArray [])⟩) ::
(nat_lit 118, ⟨(.type "tuple"), none, (.seq (List.toArray []) 0), (List.toArray [])⟩) ::
(nat_lit 121, ⟨(.type "code"), none, (.fields (List.toArray [(.str (PySem.Str.ofString "are_indices") 343), (.str (PySem.Str.ofString "are_indices") 344), (.str (PySem.Str.ofString "/claim/cut.py") 345), (.int (29) 0), (.int (2) 0), (.int (0) 0), (.int (0) 0), (.int (3) 0), (.ref 118), (.bool true), (.int (181) 0), (.ref 119), .none, .none, .none, (.ref 120), (.int (346) 0), (.int (29) 0), (.str (PySem.Str.ofString "/claim/cut.py") 347)])), (List.toArray [])⟩) ::
(nat_lit 122, ⟨(.type "function"), none, (.func (PySem.W.fnOf (PySem.Str.ofString "are_indices") (PySem.Str.ofString "are_indices") (defArgs s_are_indices) (defBody s_are_indices) (defScope s_are_indices) .none .none .none (.str (PySem.Str.ofString "halvesmeet.base.values") 313) none (.ref 121) .none)), (List.toArray [])⟩) ::
(nat_lit 123, ⟨(.type "tuple"), none, (.seq (List.toArray []) 0), (List.toArray [])⟩) ::
(nat_lit 126, ⟨(.type "code"), none, (.fields (List.toArray [(.str (PySem.Str.ofString "are_ascending") 349), (.str (PySem.Str.ofString "are_ascending") 350), (.str (PySem.Str.ofString "/claim/cut.py") 351), (.int (35) 0), (.int (1) 0), (.int (0) 0), (.int (0) 0), (.int (3) 0), (.ref 123), (.bool true), (.int (181) 0), (.ref 124), .none, .none, .none, (.ref 125), (.int (352) 0), (.int (35) 0), (.str (PySem.Str.ofString "/claim/cut.py") 353)])), (List.toArray [])⟩) ::
(nat_lit 127, ⟨(.type "function"), none, (.func (PySem.W.fnOf (PySem.Str.ofString "are_ascending") (PySem.Str.ofString "are_ascending") (defArgs s_are_ascending) (defBody s_are_ascending) (defScope s_are_ascending) .none .none .none (.str (PySem.Str.ofString "halvesmeet.base.values") 313) none (.ref 126) .none)), (List.toArray [])⟩) ::
(nat_lit 128, ⟨(.type "tuple"), none, (.seq (List.toArray []) 0), (List.toArray [])⟩) ::
(nat_lit 130, ⟨(.type "tuple"), none, (.seq (List.toArray [(.str (PySem.Str.ofString "value") 358), (.str (PySem.Str.ofString "signs") 359), (.str (PySem.Str.ofString "most") 360)]) 0), (List.toArray [])⟩) ::
(nat_lit 131, ⟨(.type "tuple"), none, (.seq (List.toArray []) 0), (List.toArray [])⟩) ::
(nat_lit 133, ⟨(.type "code"), none, (.fields (List.toArray [(.str (PySem.Str.ofString "is_made_of") 355), (.str (PySem.Str.ofString "is_made_of") 356), (.str (PySem.Str.ofString "/claim/cut.py") 357), (.int (37) 0), (.int (3) 0), (.int (0) 0), (.int (0) 0), (.int (3) 0), (.ref 128), (.bool true), (.int (181) 0), (.ref 129), .none, (.ref 130), (.ref 131), (.ref 132), (.int (361) 0), (.int (37) 0), (.str (PySem.Str.ofString "/claim/cut.py") 362)])), (List.toArray [])⟩) ::
(nat_lit 134, ⟨(.type "function"), none, (.func (PySem.W.fnOf (PySem.Str.ofString "is_made_of") (PySem.Str.ofString "is_made_of") (defArgs s_is_made_of) (defBody s_is_made_of) (defScope s_is_made_of) .none .none .none (.str (PySem.Str.ofString "halvesmeet.base.values") 313) none (.ref 133) .none)), (List.toArray [])⟩) ::
(nat_lit 135, ⟨(.type "tuple"), none, (.seq (List.toArray []) 0), (List.toArray [])⟩) ::
(nat_lit 137, ⟨(.type "tuple"), none, (.seq (List.toArray [(.str (PySem.Str.ofString "value") 367)]) 0), (List.toArray [])⟩) ::
(nat_lit 138, ⟨(.type "tuple"), none, (.seq (List.toArray []) 0), (List.toArray [])⟩) ::
(nat_lit 140, ⟨(.type "code"), none, (.fields (List.toArray [(.str (PySem.Str.ofString "is_plain") 364), (.str (PySem.Str.ofString "is_plain") 365), (.str (PySem.Str.ofString "/claim/cut.py") 366), (.int (39) 0), (.int (1) 0), (.int (0) 0), (.int (0) 0), (.int (3) 0), (.ref 135), (.bool true), (.int (181) 0), (.ref 136), .none, (.ref 137), (.ref 138), (.ref 139), (.int (368) 0), (.int (39) 0), (.str (PySem.Str.ofString "/claim/cut.py") 369)])), (List.toArray [])⟩) ::
(nat_lit 141, ⟨(.type "function"), none, (.func (PySem.W.fnOf (PySem.Str.ofString "is_plain") (PySem.Str.ofString "is_plain") (defArgs s_is_plain) (defBody s_is_plain) (defScope s_is_plain) .none .none .none (.str (PySem.Str.ofString "halvesmeet.base.values") 313) none (.ref 140) .none)), (List.toArray [])⟩) ::
(nat_lit 142, ⟨(.type "tuple"), none, (.seq (List.toArray []) 0), (List.toArray [])⟩) ::
(nat_lit 145, ⟨(.type "code"), none, (.fields (List.toArray [(.str (PySem.Str.ofString "is_plain_within") 371), (.str (PySem.Str.ofString "is_plain_within") 372), (.str (PySem.Str.ofString "/claim/cut.py") 373), (.int (41) 0), (.int (2) 0), (.int (0) 0), (.int (0) 0), (.int (3) 0), (.ref 142), (.bool true), (.int (181) 0), (.ref 143), .none, .none, .none, (.ref 144), (.int (374) 0), (.int (41) 0), (.str (PySem.Str.ofString "/claim/cut.py") 375)])), (List.toArray [])⟩) ::
(nat_lit 146, ⟨(.type "function"), none, (.func (PySem.W.fnOf (PySem.Str.ofString "is_plain_within") (PySem.Str.ofString "is_plain_within") (defArgs s_is_plain_within) (defBody s_is_plain_within) (defScope s_is_plain_within) .none .none .none (.str (PySem.Str.ofString "halvesmeet.base.values") 313) none (.ref 145) .none)), (List.toArray [])⟩) ::
(nat_lit 147, ⟨(.type "tuple"), none, (.seq (List.toArray []) 0), (List.toArray [])⟩) ::
(nat_lit 149, ⟨(.type "tuple"), none, (.seq (List.toArray [(.str (PySem.Str.ofString "value") 380)]) 0), (List.toArray [])⟩) ::
(nat_lit 150, ⟨(.type "tuple"), none, (.seq (List.toArray []) 0), (List.toArray [])⟩) ::
(nat_lit 152, ⟨(.type "code"), none, (.fields (List.toArray [(.str (PySem.Str.ofString "_is_single") 377), (.str (PySem.Str.ofString "_is_single") 378), (.str (PySem.Str.ofString "/claim/cut.py") 379), (.int (57) 0), (.int (1) 0), (.int (0) 0), (.int (0) 0), (.int (3) 0), (.ref 147), (.bool true), (.int (181) 0), (.ref 148), .none, (.ref 149), (.ref 150), (.ref 151), (.int (381) 0), (.int (57) 0), (.str (PySem.Str.ofString "/claim/cut.py") 382)])), (List.toArray [])⟩) ::
(nat_lit 153, ⟨(.type "function"), none, (.func (PySem.W.fnOf (PySem.Str.ofString "_is_single") (PySem.Str.ofString "_is_single") (defArgs s_is_single) (defBody s_is_single) (defScope s_is_single) .none .none .none (.str (PySem.Str.ofString "halvesmeet.base.values") 313) none (.ref 152) .none)), (List.toArray [])⟩) ::
(nat_lit 154, ⟨(.type "tuple"), none, (.seq (List.toArray [(.int (999999999999999999999999999999999999999999999999999999999999) 323)]) 0), (List.toArray [])⟩) ::
(nat_lit 155, ⟨(.type "tuple"), none, (.seq (List.toArray []) 0), (List.toArray [])⟩) ::
(nat_lit 157, ⟨(.type "tuple"), none, (.seq (List.toArray [(.str (PySem.Str.ofString "given") 389), (.str (PySem.Str.ofString "least") 390), (.str (PySem.Str.ofString "most") 391)]) 0), (List.toArray [])⟩) ::
(nat_lit 158, ⟨(.type "tuple"), none, (.seq (List.toArray []) 0), (List.toArray [])⟩) ::
(nat_lit 160, ⟨(.type "code"), none, (.fields (List.toArray [(.str (PySem.Str.ofString "check_number") 386), (.str (PySem.Str.ofString "check_number") 387), (.str (PySem.Str.ofString "/claim/cut.py") 388), (.int (60) 0), (.int (3) 0), (.int (0) 0), (.int (0) 0), (.int (3) 0), (.ref 155), (.bool true), (.int (181) 0), (.ref 156), .none, (.ref 157), (.ref 158), (.ref 159), (.int (392) 0), (.int (60) 0), (.str (PySem.Str.ofString "/claim/cut.py") 393)])), (List.toArray [])⟩) ::
(nat_lit 161, ⟨(.type "function"), none, (.func (PySem.W.fnOf (PySem.Str.ofString "check_number") (PySem.Str.ofString "check_number") (defArgs s_check_number) (defBody s_check_number) (defScope s_check_number) (.ref 154) .none .none (.str (PySem.Str.ofString "halvesmeet.base.checks") 384) none (.ref 160) .none)), (List.toArray [])⟩) ::
(nat_lit 162, ⟨(.type "tuple"), none, (.seq (List.toArray []) 0), (List.toArray [])⟩) ::
(nat_lit 164, ⟨(.type "tuple"), none, (.seq (List.toArray [(.str (PySem.Str.ofString "value") 406)]) 0), (List.toArray [])⟩) ::
(nat_lit 165, ⟨(.type "tuple"), none, (.seq (List.toArray []) 0), (List.toArray [])⟩) ::
(nat_lit 167, ⟨(.type "code"), none, (.fields (List.toArray [(.str (PySem.Str.ofString "is_block") 403), (.str (PySem.Str.ofString "is_block") 404), (.str (PySem.Str.ofString "/claim/cut.py") 405), (.int (67) 0), (.int (1) 0), (.int (0) 0), (.int (0) 0), (.int (3) 0), (.ref 162), (.bool true), (.int (181) 0), (.ref 163), .none, (.ref 164), (.ref 165), (.ref 166), (.int (407) 0), (.int (67) 0), (.str (PySem.Str.ofString "/claim/cut.py") 408)])), (List.toArray [])⟩) ::
(nat_lit 168, ⟨(.type "function"), none, (.func (PySem.W.fnOf (PySem.Str.ofString "is_block") (PySem.Str.ofString "is_block") (defArgs s_is_block) (defBody s_is_block) (defScope s_is_block) .none .none .none (.str (PySem.Str.ofString "halvesmeet.disk.blocks") 395) none (.ref 167) .none)), (List.toArray [])⟩) ::
(nat_lit 169, ⟨(.type "tuple"), none, (.seq (List.toArray []) 0), (List.toArray [])⟩) ::
(nat_lit 172, ⟨(.type "code"), none, (.fields (List.toArray [(.str (PySem.Str.ofString "are_blocks") 410), (.str (PySem.Str.ofString "are_blocks") 411), (.str (PySem.Str.ofString "/claim/cut.py") 412), (.int (69) 0), (.int (2) 0), (.int (0) 0), (.int (0) 0), (.int (3) 0), (.ref 169), (.bool true), (.int (181) 0), (.ref 170), .none, .none, .none, (.ref 171), (.int (413) 0), (.int (69) 0), (.str (PySem.Str.ofString "/claim/cut.py") 414)])), (List.toArray [])⟩) ::
(nat_lit 173, ⟨(.type "function"), none, (.func (PySem.W.fnOf (PySem.Str.ofString "are_blocks") (PySem.Str.ofString "are_blocks") (defArgs s_are_blocks) (defBody s_are_blocks) (defScope s_are_blocks) .none .none .none (.str (PySem.Str.ofString "halvesmeet.disk.blocks") 395) none (.ref 172) .none)), (List.toArray [])⟩) ::
(nat_lit 181, ⟨(.type "tuple"), none, (.seq (List.toArray []) 0), (List.toArray [])⟩) ::
(nat_lit 183, ⟨(.type "tuple"), none, (.seq (List.toArray [(.str (PySem.Str.ofString "self") 431), (.str (PySem.Str.ofString "blocks") 432)]) 0), (List.toArray [])⟩) ::
(nat_lit 184, ⟨(.type "tuple"), none, (.seq (List.toArray []) 0), (List.toArray [])⟩) ::
(nat_lit 186, ⟨(.type "code"), none, (.fields (List.toArray [(.str (PySem.Str.ofString "__init__") 428), (.str (PySem.Str.ofString "Disk.__init__") 429), (.str (PySem.Str.ofString "/claim/cut.py") 430), (.int (75) 0), (.int (2) 0), (.int (0) 0), (.int (0) 0), (.int (3) 0), (.ref 181), (.bool true), (.int (181) 0), (.ref 182), .none, (.ref 183), (.ref 184), (.ref 185), (.int (433) 0), (.int (75) 0), (.str (PySem.Str.ofString "/claim/cut.py") 434)])), (List.toArray [])⟩) ::
(nat_lit 187, ⟨(.type "function"), none, (.func (PySem.W.fnOf (PySem.Str.ofString "__init__") (PySem.Str.ofString "Disk.__init__") (defArgs s_Disk_init) (defBody s_Disk_init) (defScope s_Disk_init) .none .none .none (.str (PySem.Str.ofString "halvesmeet.disk.blocks") 395) none (.ref 186) .none)), (List.toArray [])⟩) ::
(nat_lit 188, ⟨(.type "tuple"), none, (.seq (List.toArray []) 0), (List.toArray [])⟩) ::
(nat_lit 190, ⟨(.type "tuple"), none, (.seq (List.toArray [(.str (PySem.Str.ofString "cls") 439), (.str (PySem.Str.ofString "many") 440)]) 0), (List.toArray [])⟩) ::
(nat_lit 191, ⟨(.type "tuple"), none, (.seq (List.toArray []) 0), (List.toArray [])⟩) ::
(nat_lit 193, ⟨(.type "code"), none, (.fields (List.toArray [(.str (PySem.Str.ofString "empty") 436), (.str (PySem.Str.ofString "Disk.empty") 437), (.str (PySem.Str.ofString "/claim/cut.py") 438), (.int (81) 0), (.int (2) 0), (.int (0) 0), (.int (0) 0), (.int (3) 0), (.ref 188), (.bool true), (.int (181) 0), (.ref 189), .none, (.ref 190), (.ref 191), (.ref 192), (.int (441) 0), (.int (81) 0), (.str (PySem.Str.ofString "/claim/cut.py") 442)])), (List.toArray [])⟩) ::
(nat_lit 194, ⟨(.type "function"), none, (.func (PySem.W.fnOf (PySem.Str.ofString "empty") (PySem.Str.ofString "Disk.empty") (defArgs s_Disk_empty) (defBody s_Disk_empty) (defScope s_Disk_empty) .none .none .none (.str (PySem.Str.ofString "halvesmeet.disk.blocks") 395) (some 197) (.ref 193) .none)), (List.toArray [])⟩) ::
(nat_lit 195, ⟨(.type "dict"), none, (.dict (List.toArray [⟨PyData.keyHash P (PySem.Str.ofString "__module__"), (.str (PySem.Str.ofString "__module__") 444), (.str (PySem.Str.ofString "halvesmeet.disk.blocks") 395)⟩, ⟨PyData.keyHash P (PySem.Str.ofString "__name__"), (.str (PySem.Str.ofString "__name__") 447), (.str (PySem.Str.ofString "empty") 446)⟩, ⟨PyData.keyHash P (PySem.Str.ofString "__qualname__"), (.str (PySem.Str.ofString "__qualname__") 450), (.str (PySem.Str.ofString "Disk.empty") 449)⟩, ⟨PyData.keyHash P (PySem.Str.ofString "__doc__"), (.str (PySem.Str.ofString "__doc__") 452), .none⟩, ⟨PyData.keyHash P (PySem.Str.ofString "__annotations__"), (.str (PySem.Str.ofString "__annotations__") 454), (.ref 197)⟩]) 5), (List.toArray [])⟩) ::
(nat_lit 196, ⟨(.type "classmethod"), (some 195), (.fields (List.toArray [(.ref 194), (.bool false)])), (List.toArray [])⟩) ::
(nat_lit 197, ⟨(.type "dict"), none, (.dict (List.toArray []) 0), (List.toArray [])⟩) ::
(nat_lit 198, ⟨(.type "tuple"), none, (.seq (List.toArray []) 0), (List.toArray [])⟩) ::
(nat_lit 200, ⟨(.type "tuple"), none, (.seq (List.toArray [(.str (PySem.Str.ofString "self") 459)]) 0), (List.toArray [])⟩) ::
(nat_lit 201, ⟨(.type "tuple"), none, (.seq (List.toArray []) 0), (List.toArray [])⟩) ::
(nat_lit 203, ⟨(.type "code"), none, (.fields (List.toArray [(.str (PySem.Str.ofString "sure") 456), (.str (PySem.Str.ofString "Disk.sure") 457), (.str (PySem.Str.ofString "/claim/cut.py") 458), (.int (86) 0), (.int (1) 0), (.int (0) 0), (.int (0) 0), (.int (3) 0), (.ref 198), (.bool true), (.int (181) 0), (.ref 199), .none, (.ref 200), (.ref 201), (.ref 202), (.int (460) 0), (.int (86) 0), (.str (PySem.Str.ofString "/claim/cut.py") 461)])), (List.toArray [])⟩) ::
(nat_lit 204, ⟨(.type "function"), none, (.func (PySem.W.fnOf (PySem.Str.ofString "sure") (PySem.Str.ofString "Disk.sure") (defArgs s_Disk_sure) (defBody s_Disk_sure) (defScope s_Disk_sure) .none .none .none (.str (PySem.Str.ofString "halvesmeet.disk.blocks") 395) none (.ref 203) .none)), (List.toArray [])⟩) ::
(nat_lit 205, ⟨(.type "property"), none, (.fields (List.toArray [(.ref 204), .none, .none, .none, (.str (PySem.Str.ofString "sure") 463), (.bool false)])), (List.toArray [])⟩) ::
(nat_lit 206, ⟨(.type "tuple"), none, (.seq (List.toArray []) 0), (List.toArray [])⟩) ::
(nat_lit 208, ⟨(.type "tuple"), none, (.seq (List.toArray [(.str (PySem.Str.ofString "self") 467)]) 0), (List.toArray [])⟩) ::
(nat_lit 209, ⟨(.type "tuple"), none, (.seq (List.toArray []) 0), (List.toArray [])⟩) ::
(nat_lit 211, ⟨(.type "code"), none, (.fields (List.toArray [(.str (PySem.Str.ofString "waiting") 464), (.str (PySem.Str.ofString "Disk.waiting") 465), (.str (PySem.Str.ofString "/claim/cut.py") 466), (.int (90) 0), (.int (1) 0), (.int (0) 0), (.int (0) 0), (.int (3) 0), (.ref 206), (.bool true), (.int (181) 0), (.ref 207), .none, (.ref 208), (.ref 209), (.ref 210), (.int (468) 0), (.int (90) 0), (.str (PySem.Str.ofString "/claim/cut.py") 469)])), (List.toArray [])⟩) ::
(nat_lit 212, ⟨(.type "function"), none, (.func (PySem.W.fnOf (PySem.Str.ofString "waiting") (PySem.Str.ofString "Disk.waiting") (defArgs s_Disk_waiting) (defBody s_Disk_waiting) (defScope s_Disk_waiting) .none .none .none (.str (PySem.Str.ofString "halvesmeet.disk.blocks") 395) none (.ref 211) .none)), (List.toArray [])⟩) ::
(nat_lit 213, ⟨(.type "property"), none, (.fields (List.toArray [(.ref 212), .none, .none, .none, (.str (PySem.Str.ofString "waiting") 471), (.bool false)])), (List.toArray [])⟩) ::
(nat_lit 214, ⟨(.type "tuple"), none, (.seq (List.toArray []) 0), (List.toArray [])⟩) ::
(nat_lit 216, ⟨(.type "tuple"), none, (.seq (List.toArray [(.str (PySem.Str.ofString "self") 475), (.str (PySem.Str.ofString "place") 476), (.str (PySem.Str.ofString "block") 477)]) 0), (List.toArray [])⟩) ::
(nat_lit 217, ⟨(.type "tuple"), none, (.seq (List.toArray []) 0), (List.toArray [])⟩) ::
(nat_lit 219, ⟨(.type "code"), none, (.fields (List.toArray [(.str (PySem.Str.ofString "put") 472), (.str (PySem.Str.ofString "Disk.put") 473), (.str (PySem.Str.ofString "/claim/cut.py") 474), (.int (94) 0), (.int (3) 0), (.int (0) 0), (.int (0) 0), (.int (3) 0), (.ref 214), (.bool true), (.int (181) 0), (.ref 215), .none, (.ref 216), (.ref 217), (.ref 218), (.int (478) 0), (.int (94) 0), (.str (PySem.Str.ofString "/claim/cut.py") 479)])), (List.toArray [])⟩) ::
(nat_lit 220, ⟨(.type "function"), none, (.func (PySem.W.fnOf (PySem.Str.ofString "put") (PySem.Str.ofString "Disk.put") (defArgs s_Disk_put) (defBody s_Disk_put) (defScope s_Disk_put) .none .none .none (.str (PySem.Str.ofString "halvesmeet.disk.blocks") 395) none (.ref 219) .none)), (List.toArray [])⟩) ::
(nat_lit 221, ⟨(.type "tuple"), none, (.seq (List.toArray []) 0), (List.toArray [])⟩) ::
(nat_lit 223, ⟨(.type "tuple"), none, (.seq (List.toArray [(.str (PySem.Str.ofString "self") 484), (.str (PySem.Str.ofString "place") 485)]) 0), (List.toArray [])⟩) ::
(nat_lit 224, ⟨(.type "tuple"), none, (.seq (List.toArray []) 0), (List.toArray [])⟩) ::
(nat_lit 226, ⟨(.type "code"), none, (.fields (List.toArray [(.str (PySem.Str.ofString "read") 481), (.str (PySem.Str.ofString "Disk.read") 482), (.str (PySem.Str.ofString "/claim/cut.py") 483), (.int (102) 0), (.int (2) 0), (.int (0) 0), (.int (0) 0), (.int (3) 0), (.ref 221), (.bool true), (.int (181) 0), (.ref 222), .none, (.ref 223), (.ref 224), (.ref 225), (.int (486) 0), (.int (102) 0), (.str (PySem.Str.ofString "/claim/cut.py") 487)])), (List.toArray [])⟩) ::
(nat_lit 227, ⟨(.type "function"), none, (.func (PySem.W.fnOf (PySem.Str.ofString "read") (PySem.Str.ofString "Disk.read") (defArgs s_Disk_read) (defBody s_Disk_read) (defScope s_Disk_read) .none .none .none (.str (PySem.Str.ofString "halvesmeet.disk.blocks") 395) none (.ref 226) .none)), (List.toArray [])⟩) ::
(nat_lit 228, ⟨(.type "tuple"), none, (.seq (List.toArray []) 0), (List.toArray [])⟩) ::
(nat_lit 230, ⟨(.type "tuple"), none, (.seq (List.toArray [(.str (PySem.Str.ofString "self") 492)]) 0), (List.toArray [])⟩) ::
(nat_lit 231, ⟨(.type "tuple"), none, (.seq (List.toArray []) 0), (List.toArray [])⟩) ::
(nat_lit 233, ⟨(.type "code"), none, (.fields (List.toArray [(.str (PySem.Str.ofString "blocks") 489), (.str (PySem.Str.ofString "Disk.blocks") 490), (.str (PySem.Str.ofString "/claim/cut.py") 491), (.int (106) 0), (.int (1) 0), (.int (0) 0), (.int (0) 0), (.int (3) 0), (.ref 228), (.bool true), (.int (181) 0), (.ref 229), .none, (.ref 230), (.ref 231), (.ref 232), (.int (493) 0), (.int (106) 0), (.str (PySem.Str.ofString "/claim/cut.py") 494)])), (List.toArray [])⟩) ::
(nat_lit 234, ⟨(.type "function"), none, (.func (PySem.W.fnOf (PySem.Str.ofString "blocks") (PySem.Str.ofString "Disk.blocks") (defArgs s_Disk_blocks) (defBody s_Disk_blocks) (defScope s_Disk_blocks) .none .none .none (.str (PySem.Str.ofString "halvesmeet.disk.blocks") 395) none (.ref 233) .none)), (List.toArray [])⟩) ::
(nat_lit 235, ⟨(.type "tuple"), none, (.seq (List.toArray []) 0), (List.toArray [])⟩) ::
(nat_lit 237, ⟨(.type "tuple"), none, (.seq (List.toArray [(.str (PySem.Str.ofString "self") 499)]) 0), (List.toArray [])⟩) ::
(nat_lit 238, ⟨(.type "tuple"), none, (.seq (List.toArray []) 0), (List.toArray [])⟩) ::
(nat_lit 240, ⟨(.type "code"), none, (.fields (List.toArray [(.str (PySem.Str.ofString "synced") 496), (.str (PySem.Str.ofString "Disk.synced") 497), (.str (PySem.Str.ofString "/claim/cut.py") 498), (.int (109) 0), (.int (1) 0), (.int (0) 0), (.int (0) 0), (.int (3) 0), (.ref 235), (.bool true), (.int (181) 0), (.ref 236), .none, (.ref 237), (.ref 238), (.ref 239), (.int (500) 0), (.int (109) 0), (.str (PySem.Str.ofString "/claim/cut.py") 501)])), (List.toArray [])⟩) ::
(nat_lit 241, ⟨(.type "function"), none, (.func (PySem.W.fnOf (PySem.Str.ofString "synced") (PySem.Str.ofString "Disk.synced") (defArgs s_Disk_synced) (defBody s_Disk_synced) (defScope s_Disk_synced) .none .none .none (.str (PySem.Str.ofString "halvesmeet.disk.blocks") 395) none (.ref 240) .none)), (List.toArray [])⟩) ::
(nat_lit 242, ⟨(.type "tuple"), none, (.seq (List.toArray []) 0), (List.toArray [])⟩) ::
(nat_lit 245, ⟨(.type "code"), none, (.fields (List.toArray [(.str (PySem.Str.ofString "fallen") 503), (.str (PySem.Str.ofString "Disk.fallen") 504), (.str (PySem.Str.ofString "/claim/cut.py") 505), (.int (112) 0), (.int (2) 0), (.int (0) 0), (.int (0) 0), (.int (3) 0), (.ref 242), (.bool true), (.int (181) 0), (.ref 243), .none, .none, .none, (.ref 244), (.int (506) 0), (.int (112) 0), (.str (PySem.Str.ofString "/claim/cut.py") 507)])), (List.toArray [])⟩) ::
(nat_lit 246, ⟨(.type "function"), none, (.func (PySem.W.fnOf (PySem.Str.ofString "fallen") (PySem.Str.ofString "Disk.fallen") (defArgs s_Disk_fallen) (defBody s_Disk_fallen) (defScope s_Disk_fallen) .none .none .none (.str (PySem.Str.ofString "halvesmeet.disk.blocks") 395) none (.ref 245) .none)), (List.toArray [])⟩) ::
(nat_lit 247, ⟨(.type "tuple"), none, (.seq (List.toArray []) 0), (List.toArray [])⟩) ::
(nat_lit 249, ⟨(.type "tuple"), none, (.seq (List.toArray [(.str (PySem.Str.ofString "self") 512)]) 0), (List.toArray [])⟩) ::
(nat_lit 250, ⟨(.type "tuple"), none, (.seq (List.toArray []) 0), (List.toArray [])⟩) ::
(nat_lit 252, ⟨(.type "code"), none, (.fields (List.toArray [(.str (PySem.Str.ofString "__len__") 509), (.str (PySem.Str.ofString "Disk.__len__") 510), (.str (PySem.Str.ofString "/claim/cut.py") 511), (.int (117) 0), (.int (1) 0), (.int (0) 0), (.int (0) 0), (.int (3) 0), (.ref 247), (.bool true), (.int (181) 0), (.ref 248), .none, (.ref 249), (.ref 250), (.ref 251), (.int (513) 0), (.int (117) 0), (.str (PySem.Str.ofString "/claim/cut.py") 514)])), (List.toArray [])⟩) ::
(nat_lit 253, ⟨(.type "function"), none, (.func (PySem.W.fnOf (PySem.Str.ofString "__len__") (PySem.Str.ofString "Disk.__len__") (defArgs s_Disk_len) (defBody s_Disk_len) (defScope s_Disk_len) .none .none .none (.str (PySem.Str.ofString "halvesmeet.disk.blocks") 395) none (.ref 252) .none)), (List.toArray [])⟩) ::
(nat_lit 254, ⟨(.type "tuple"), none, (.seq (List.toArray []) 0), (List.toArray [])⟩) ::
(nat_lit 256, ⟨(.type "tuple"), none, (.seq (List.toArray [(.str (PySem.Str.ofString "self") 519), (.str (PySem.Str.ofString "other") 520)]) 0), (List.toArray [])⟩) ::
(nat_lit 257, ⟨(.type "tuple"), none, (.seq (List.toArray []) 0), (List.toArray [])⟩) ::
(nat_lit 259, ⟨(.type "code"), none, (.fields (List.toArray [(.str (PySem.Str.ofString "__eq__") 516), (.str (PySem.Str.ofString "Disk.__eq__") 517), (.str (PySem.Str.ofString "/claim/cut.py") 518), (.int (120) 0), (.int (2) 0), (.int (0) 0), (.int (0) 0), (.int (3) 0), (.ref 254), (.bool true), (.int (181) 0), (.ref 255), .none, (.ref 256), (.ref 257), (.ref 258), (.int (521) 0), (.int (120) 0), (.str (PySem.Str.ofString "/claim/cut.py") 522)])), (List.toArray [])⟩) ::
(nat_lit 260, ⟨(.type "function"), none, (.func (PySem.W.fnOf (PySem.Str.ofString "__eq__") (PySem.Str.ofString "Disk.__eq__") (defArgs s_Disk_eq) (defBody s_Disk_eq) (defScope s_Disk_eq) .none .none .none (.str (PySem.Str.ofString "halvesmeet.disk.blocks") 395) none (.ref 259) .none)), (List.toArray [])⟩) ::
(nat_lit 261, ⟨(.type "tuple"), none, (.seq (List.toArray []) 0), (List.toArray [])⟩) ::
(nat_lit 263, ⟨(.type "tuple"), none, (.seq (List.toArray [(.str (PySem.Str.ofString "self") 527)]) 0), (List.toArray [])⟩) ::
(nat_lit 264, ⟨(.type "tuple"), none, (.seq (List.toArray []) 0), (List.toArray [])⟩) ::
(nat_lit 266, ⟨(.type "code"), none, (.fields (List.toArray [(.str (PySem.Str.ofString "__str__") 524), (.str (PySem.Str.ofString "Disk.__str__") 525), (.str (PySem.Str.ofString "/claim/cut.py") 526), (.int (123) 0), (.int (1) 0), (.int (0) 0), (.int (0) 0), (.int (3) 0), (.ref 261), (.bool true), (.int (181) 0), (.ref 262), .none, (.ref 263), (.ref 264), (.ref 265), (.int (528) 0), (.int (123) 0), (.str (PySem.Str.ofString "/claim/cut.py") 529)])), (List.toArray [])⟩) ::
(nat_lit 267, ⟨(.type "function"), none, (.func (PySem.W.fnOf (PySem.Str.ofString "__str__") (PySem.Str.ofString "Disk.__str__") (defArgs s_Disk_str) (defBody s_Disk_str) (defScope s_Disk_str) .none .none .none (.str (PySem.Str.ofString "halvesmeet.disk.blocks") 395) none (.ref 266) .none)), (List.toArray [])⟩) ::
(nat_lit 268, ⟨(.type "tuple"), none, (.seq (List.toArray [(.str (PySem.Str.ofString "_sure") 531), (.str (PySem.Str.ofString "_waiting") 532)]) 0), (List.toArray [])⟩) ::
(nat_lit 269, ⟨(.type "dict"), none, (.dict (List.toArray [⟨PyData.keyHash P (PySem.Str.ofString "__module__"), (.str (PySem.Str.ofString "__module__") 423), (.str (PySem.Str.ofString "halvesmeet.disk.blocks") 395)⟩, ⟨PyData.keyHash P (PySem.Str.ofString "__firstlineno__"), (.str (PySem.Str.ofString "__firstlineno__") 427), (.int (73) 426)⟩, ⟨PyData.keyHash P (PySem.Str.ofString "__init__"), (.str (PySem.Str.ofString "__init__") 435), (.ref 187)⟩, ⟨PyData.keyHash P (PySem.Str.ofString "empty"), (.str (PySem.Str.ofString "empty") 455), (.ref 196)⟩, ⟨PyData.keyHash P (PySem.Str.ofString "sure"), (.str (PySem.Str.ofString "sure") 463), (.ref 205)⟩, ⟨PyData.keyHash P (PySem.Str.ofString "waiting"), (.str (PySem.Str.ofString "waiting") 471), (.ref 213)⟩, ⟨PyData.keyHash P (PySem.Str.ofString "put"), (.str (PySem.Str.ofString "put") 480), (.ref 220)⟩, ⟨PyData.keyHash P (PySem.Str.ofString "read"), (.str (PySem.Str.ofString "read") 488), (.ref 227)⟩, ⟨PyData.keyHash P (PySem.Str.ofString "blocks"), (.str (PySem.Str.ofString "blocks") 495), (.ref 234)⟩, ⟨PyData.keyHash P (PySem.Str.ofString "synced"), (.str (PySem.Str.ofString "synced") 502), (.ref 241)⟩, ⟨PyData.keyHash P (PySem.Str.ofString "fallen"), (.str (PySem.Str.ofString "fallen") 508), (.ref 246)⟩, ⟨PyData.keyHash P (PySem.Str.ofString "__len__"), (.str (PySem.Str.ofString "__len__") 515), (.ref 253)⟩, ⟨PyData.keyHash P (PySem.Str.ofString "__eq__"), (.str (PySem.Str.ofString "__eq__") 523), (.ref 260)⟩, ⟨PyData.keyHash P (PySem.Str.ofString "__str__"), (.str (PySem.Str.ofString "__str__") 530), (.ref 267)⟩, ⟨PyData.keyHash P (PySem.Str.ofString "__static_attributes__"), (.str (PySem.Str.ofString "__static_attributes__") 533), (.ref 268)⟩, ⟨PyData.keyHash P (PySem.Str.ofString "__dict__"), (.str (PySem.Str.ofString "__dict__") 535), (.ref 271)⟩, ⟨PyData.keyHash P (PySem.Str.ofString "__weakref__"), (.str (PySem.Str.ofString "__weakref__") 537), (.ref 272)⟩, ⟨PyData.keyHash P (PySem.Str.ofString "__doc__"), (.str (PySem.Str.ofString "__doc__") 538), .none⟩, ⟨PyData.keyHash P (PySem.Str.ofString "__hash__"), (.str (PySem.Str.ofString "__hash__") 539), .none⟩]) 5), (List.toArray [])⟩) ::
(nat_lit 270, ⟨(.type "type"), none, (.cls ⟨(PySem.Str.ofString "Disk"), [(.type "object")], [(.ref 270), (.type "object")], 269, (PySem.Str.ofString "Disk"), true, [], [], false, none, false⟩), (List.toArray [none, none, (some (.str (PySem.Str.ofString "Disk") 416)), (some (.str (PySem.Str.ofString "Disk") 424)), (some (.builtin "object.__new__")), (some (.bool true))])⟩) ::
(nat_lit 271, ⟨(.type "getset_descriptor"), none, (.fields (List.toArray [(.str (PySem.Str.ofString "__dict__") 534), (.ref 270), (.builtin "function.__dict__"), (.builtin "function.__dict__#set")])), (List.toArray [])⟩) ::
(nat_lit 272, ⟨(.type "getset_descriptor"), none, (.fields (List.toArray [(.str (PySem.Str.ofString "__weakref__") 536), (.ref 270), (.builtin "ExceptionGroup.__weakref__"), .none])), (List.toArray [])⟩) ::
(nat_lit 275, ⟨(.type "tuple"), none, (.seq (List.toArray []) 0), (List.toArray [])⟩) ::
(nat_lit 277, ⟨(.type "tuple"), none, (.seq (List.toArray [(.str (PySem.Str.ofString "sure") 545), (.str (PySem.Str.ofString "waiting") 546), (.str (PySem.Str.ofString "disk") 547)]) 0), (List.toArray [])⟩) ::
(nat_lit 278, ⟨(.type "tuple"), none, (.seq (List.toArray []) 0), (List.toArray [])⟩) ::
(nat_lit 280, ⟨(.type "code"), none, (.fields (List.toArray [(.str (PySem.Str.ofString "_made") 542), (.str (PySem.Str.ofString "_made") 543), (.str (PySem.Str.ofString "/claim/cut.py") 544), (.int (125) 0), (.int (2) 0), (.int (0) 0), (.int (0) 0), (.int (3) 0), (.ref 275), (.bool true), (.int (181) 0), (.ref 276), .none, (.ref 277), (.ref 278), (.ref 279), (.int (548) 0), (.int (125) 0), (.str (PySem.Str.ofString "/claim/cut.py") 549)])), (List.toArray [])⟩) ::
(nat_lit 281, ⟨(.type "function"), none, (.func (PySem.W.fnOf (PySem.Str.ofString "_made") (PySem.Str.ofString "_made") (defArgs s_made) (defBody s_made) (defScope s_made) .none .none .none (.str (PySem.Str.ofString "halvesmeet.disk.blocks") 395) none (.ref 280) .none)), (List.toArray [])⟩) ::
(nat_lit 282, ⟨(.type "tuple"), none, (.seq (List.toArray []) 0), (List.toArray [])⟩) ::
(nat_lit 284, ⟨(.type "tuple"), none, (.seq (List.toArray [(.str (PySem.Str.ofString "sure") 554), (.str (PySem.Str.ofString "puts") 555), (.str (PySem.Str.ofString "blocks") 556), (.str (PySem.Str.ofString "place") 557), (.str (PySem.Str.ofString "block") 558)]) 0), (List.toArray [])⟩) ::
(nat_lit 285, ⟨(.type "tuple"), none, (.seq (List.toArray []) 0), (List.toArray [])⟩) ::
(nat_lit 287, ⟨(.type "code"), none, (.fields (List.toArray [(.str (PySem.Str.ofString "_behind") 551), (.str (PySem.Str.ofString "_behind") 552), (.str (PySem.Str.ofString "/claim/cut.py") 553), (.int (130) 0), (.int (2) 0), (.int (0) 0), (.int (0) 0), (.int (3) 0), (.ref 282), (.bool true), (.int (181) 0), (.ref 283), .none, (.ref 284), (.ref 285), (.ref 286), (.int (559) 0), (.int (130) 0), (.str (PySem.Str.ofString "/claim/cut.py") 560)])), (List.toArray [])⟩) ::
(nat_lit 288, ⟨(.type "function"), none, (.func (PySem.W.fnOf (PySem.Str.ofString "_behind") (PySem.Str.ofString "_behind") (defArgs s_behind) (defBody s_behind) (defScope s_behind) .none .none .none (.str (PySem.Str.ofString "halvesmeet.disk.blocks") 395) none (.ref 287) .none)), (List.toArray [])⟩) ::
(nat_lit 289, ⟨(.type "tuple"), none, (.seq (List.toArray []) 0), (List.toArray [])⟩) ::
(nat_lit 291, ⟨(.type "tuple"), none, (.seq (List.toArray [(.str (PySem.Str.ofString "value") 565)]) 0), (List.toArray [])⟩) ::
(nat_lit 292, ⟨(.type "tuple"), none, (.seq (List.toArray []) 0), (List.toArray [])⟩) ::
(nat_lit 294, ⟨(.type "code"), none, (.fields (List.toArray [(.str (PySem.Str.ofString "check_disk") 562), (.str (PySem.Str.ofString "check_disk") 563), (.str (PySem.Str.ofString "/claim/cut.py") 564), (.int (135) 0), (.int (1) 0), (.int (0) 0), (.int (0) 0), (.int (3) 0), (.ref 289), (.bool true), (.int (181) 0), (.ref 290), .none, (.ref 291), (.ref 292), (.ref 293), (.int (566) 0), (.int (135) 0), (.str (PySem.Str.ofString "/claim/cut.py") 567)])), (List.toArray [])⟩) ::
(nat_lit 295, ⟨(.type "function"), none, (.func (PySem.W.fnOf (PySem.Str.ofString "check_disk") (PySem.Str.ofString "check_disk") (defArgs s_check_disk) (defBody s_check_disk) (defScope s_check_disk) .none .none .none (.str (PySem.Str.ofString "halvesmeet.disk.blocks") 395) none (.ref 294) .none)), (List.toArray [])⟩) ::
(nat_lit 296, ⟨(.type "tuple"), none, (.seq (List.toArray []) 0), (List.toArray [])⟩) ::
(nat_lit 299, ⟨(.type "code"), none, (.fields (List.toArray [(.str (PySem.Str.ofString "_versions_of") 569), (.str (PySem.Str.ofString "_versions_of") 570), (.str (PySem.Str.ofString "/claim/cut.py") 571), (.int (138) 0), (.int (1) 0), (.int (0) 0), (.int (0) 0), (.int (3) 0), (.ref 296), (.bool true), (.int (181) 0), (.ref 297), .none, .none, .none, (.ref 298), (.int (572) 0), (.int (138) 0), (.str (PySem.Str.ofString "/claim/cut.py") 573)])), (List.toArray [])⟩) ::
(nat_lit 300, ⟨(.type "function"), none, (.func (PySem.W.fnOf (PySem.Str.ofString "_versions_of") (PySem.Str.ofString "_versions_of") (defArgs s_versions_of) (defBody s_versions_of) (defScope s_versions_of) .none .none .none (.str (PySem.Str.ofString "halvesmeet.disk.blocks") 395) none (.ref 299) .none)), (List.toArray [])⟩) ::
(nat_lit 301, ⟨(.type "tuple"), none, (.seq (List.toArray []) 0), (List.toArray [])⟩) ::
(nat_lit 303, ⟨(.type "tuple"), none, (.seq (List.toArray [(.str (PySem.Str.ofString "disk") 578), (.str (PySem.Str.ofString "many") 579), (.str (PySem.Str.ofString "choices") 580)]) 0), (List.toArray [])⟩) ::
(nat_lit 304, ⟨(.type "tuple"), none, (.seq (List.toArray []) 0), (List.toArray [])⟩) ::
(nat_lit 306, ⟨(.type "code"), none, (.fields (List.toArray [(.str (PySem.Str.ofString "falls_count") 575), (.str (PySem.Str.ofString "falls_count") 576), (.str (PySem.Str.ofString "/claim/cut.py") 577), (.int (144) 0), (.int (1) 0), (.int (0) 0), (.int (0) 0), (.int (3) 0), (.ref 301), (.bool true), (.int (181) 0), (.ref 302), .none, (.ref 303), (.ref 304), (.ref 305), (.int (581) 0), (.int (144) 0), (.str (PySem.Str.ofString "/claim/cut.py") 582)])), (List.toArray [])⟩) ::
(nat_lit 307, ⟨(.type "function"), none, (.func (PySem.W.fnOf (PySem.Str.ofString "falls_count") (PySem.Str.ofString "falls_count") (defArgs s_falls_count) (defBody s_falls_count) (defScope s_falls_count) .none .none .none (.str (PySem.Str.ofString "halvesmeet.disk.blocks") 395) none (.ref 306) .none)), (List.toArray [])⟩) ::
(nat_lit 308, ⟨(.type "tuple"), none, (.seq (List.toArray []) 0), (List.toArray [])⟩) ::
(nat_lit 310, ⟨(.type "tuple"), none, (.seq (List.toArray [(.str (PySem.Str.ofString "disk") 587), (.str (PySem.Str.ofString "many") 588), (.str (PySem.Str.ofString "versions") 589), (.str (PySem.Str.ofString "number") 590)]) 0), (List.toArray [])⟩) ::
(nat_lit 311, ⟨(.type "tuple"), none, (.seq (List.toArray []) 0), (List.toArray [])⟩) ::
(nat_lit 313, ⟨(.type "code"), none, (.fields (List.toArray [(.str (PySem.Str.ofString "each_fall") 584), (.str (PySem.Str.ofString "each_fall") 585), (.str (PySem.Str.ofString "/claim/cut.py") 586), (.int (150) 0), (.int (1) 0), (.int (0) 0), (.int (0) 0), (.int (35) 0), (.ref 308), (.bool true), (.int (181) 0), (.ref 309), .none, (.ref 310), (.ref 311), (.ref 312), (.int (591) 0), (.int (150) 0), (.str (PySem.Str.ofString "/claim/cut.py") 592)])), (List.toArray [])⟩) ::
(nat_lit 314, ⟨(.type "function"), none, (.func (PySem.W.fnOf (PySem.Str.ofString "each_fall") (PySem.Str.ofString "each_fall") (defArgs s_each_fall) (defBody s_each_fall) (defScope s_each_fall) .none .none .none (.str (PySem.Str.ofString "halvesmeet.disk.blocks") 395) none (.ref 313) .none)), (List.toArray [])⟩) ::
(nat_lit 315, ⟨(.type "tuple"), none, (.seq (List.toArray []) 0), (List.toArray [])⟩) ::
(nat_lit 317, ⟨(.type "tuple"), none, (.seq (List.toArray [(.str (PySem.Str.ofString "versions") 597), (.str (PySem.Str.ofString "number") 598), (.str (PySem.Str.ofString "blocks") 599), (.str (PySem.Str.ofString "choices") 600)]) 0), (List.toArray [])⟩) ::
(nat_lit 318, ⟨(.type "tuple"), none, (.seq (List.toArray []) 0), (List.toArray [])⟩) ::
(nat_lit 320, ⟨(.type "code"), none, (.fields (List.toArray [(.str (PySem.Str.ofString "_picked") 594), (.str (PySem.Str.ofString "_picked") 595), (.str (PySem.Str.ofString "/claim/cut.py") 596), (.int (157) 0), (.int (2) 0), (.int (0) 0), (.int (0) 0), (.int (3) 0), (.ref 315), (.bool true), (.int (181) 0), (.ref 316), .none, (.ref 317), (.ref 318), (.ref 319), (.int (601) 0), (.int (157) 0), (.str (PySem.Str.ofString "/claim/cut.py") 602)])), (List.toArray [])⟩) ::
(nat_lit 321, ⟨(.type "function"), none, (.func (PySem.W.fnOf (PySem.Str.ofString "_picked") (PySem.Str.ofString "_picked") (defArgs s_picked) (defBody s_picked) (defScope s_picked) .none .none .none (.str (PySem.Str.ofString "halvesmeet.disk.blocks") 395) none (.ref 320) .none)), (List.toArray [])⟩) ::
(nat_lit 322, ⟨(.type "tuple"), none, (.seq (List.toArray []) 0), (List.toArray [])⟩) ::
(nat_lit 324, ⟨(.type "tuple"), none, (.seq (List.toArray [(.str (PySem.Str.ofString "disk") 607), (.str (PySem.Str.ofString "other") 608), (.str (PySem.Str.ofString "kept") 609), (.str (PySem.Str.ofString "index") 610), (.str (PySem.Str.ofString "place") 611), (.str (PySem.Str.ofString "block") 612), (.str (PySem.Str.ofString "paper") 613)]) 0), (List.toArray [])⟩) ::
(nat_lit 325, ⟨(.type "tuple"), none, (.seq (List.toArray []) 0), (List.toArray [])⟩) ::
(nat_lit 327, ⟨(.type "code"), none, (.fields (List.toArray [(.str (PySem.Str.ofString "fall_paper") 604), (.str (PySem.Str.ofString "fall_paper") 605), (.str (PySem.Str.ofString "/claim/cut.py") 606), (.int (163) 0), (.int (2) 0), (.int (0) 0), (.int (0) 0), (.int (3) 0), (.ref 322), (.bool true), (.int (181) 0), (.ref 323), .none, (.ref 324), (.ref 325), (.ref 326), (.int (614) 0), (.int (163) 0), (.str (PySem.Str.ofString "/claim/cut.py") 615)])), (List.toArray [])⟩) ::
(nat_lit 328, ⟨(.type "function"), none, (.func (PySem.W.fnOf (PySem.Str.ofString "fall_paper") (PySem.Str.ofString "fall_paper") (defArgs s_fall_paper) (defBody s_fall_paper) (defScope s_fall_paper) .none .none .none (.str (PySem.Str.ofString "halvesmeet.disk.blocks") 395) none (.ref 327) .none)), (List.toArray [])⟩) ::
(nat_lit 329, ⟨(.type "tuple"), none, (.seq (List.toArray []) 0), (List.toArray [])⟩) ::
(nat_lit 331, ⟨(.type "tuple"), none, (.seq (List.toArray [(.str (PySem.Str.ofString "disk") 620), (.str (PySem.Str.ofString "other") 621), (.str (PySem.Str.ofString "value") 622)]) 0), (List.toArray [])⟩) ::
(nat_lit 332, ⟨(.type "tuple"), none, (.seq (List.toArray []) 0), (List.toArray [])⟩) ::
(nat_lit 334, ⟨(.type "code"), none, (.fields (List.toArray [(.str (PySem.Str.ofString "is_fall_paper") 617), (.str (PySem.Str.ofString "is_fall_paper") 618), (.str (PySem.Str.ofString "/claim/cut.py") 619), (.int (172) 0), (.int (3) 0), (.int (0) 0), (.int (0) 0), (.int (3) 0), (.ref 329), (.bool true), (.int (181) 0), (.ref 330), .none, (.ref 331), (.ref 332), (.ref 333), (.int (623) 0), (.int (172) 0), (.str (PySem.Str.ofString "/claim/cut.py") 624)])), (List.toArray [])⟩) ::
(nat_lit 335, ⟨(.type "function"), none, (.func (PySem.W.fnOf (PySem.Str.ofString "is_fall_paper") (PySem.Str.ofString "is_fall_paper") (defArgs s_is_fall_paper) (defBody s_is_fall_paper) (defScope s_is_fall_paper) .none .none .none (.str (PySem.Str.ofString "halvesmeet.disk.blocks") 395) none (.ref 334) .none)), (List.toArray [])⟩) ::
(nat_lit 336, ⟨(.type "tuple"), none, (.seq (List.toArray []) 0), (List.toArray [])⟩) ::
(nat_lit 338, ⟨(.type "tuple"), none, (.seq (List.toArray [(.str (PySem.Str.ofString "script") 631), (.str (PySem.Str.ofString "spot") 632), (.str (PySem.Str.ofString "cell") 633), (.str (PySem.Str.ofString "left") 634)]) 0), (List.toArray [])⟩) ::
(nat_lit 339, ⟨(.type "tuple"), none, (.seq (List.toArray []) 0), (List.toArray [])⟩) ::
(nat_lit 341, ⟨(.type "code"), none, (.fields (List.toArray [(.str (PySem.Str.ofString "_law_dice") 628), (.str (PySem.Str.ofString "_law_dice") 629), (.str (PySem.Str.ofString "/claim/cut.py") 630), (.int (177) 0), (.int (2) 0), (.int (0) 0), (.int (0) 0), (.int (3) 0), (.ref 336), (.bool true), (.int (181) 0), (.ref 337), .none, (.ref 338), (.ref 339), (.ref 340), (.int (635) 0), (.int (177) 0), (.str (PySem.Str.ofString "/claim/cut.py") 636)])), (List.toArray [])⟩) ::
(nat_lit 342, ⟨(.type "function"), none, (.func (PySem.W.fnOf (PySem.Str.ofString "_law_dice") (PySem.Str.ofString "_law_dice") (defArgs s_law_dice) (defBody s_law_dice) (defScope s_law_dice) .none .none .none (.str (PySem.Str.ofString "law_halvesmeet_k14_errors_of_disks") 626) none (.ref 341) .none)), (List.toArray [])⟩) ::
(nat_lit 343, ⟨(.type "tuple"), none, (.seq (List.toArray []) 0), (List.toArray [])⟩) ::
(nat_lit 345, ⟨(.type "tuple"), none, (.seq (List.toArray [(.str (PySem.Str.ofString "dice") 641), (.str (PySem.Str.ofString "most") 642), (.str (PySem.Str.ofString "found") 643), (.str (PySem.Str.ofString "one") 644), (.str (PySem.Str.ofString "two") 645)]) 0), (List.toArray [])⟩) ::
(nat_lit 346, ⟨(.type "tuple"), none, (.seq (List.toArray []) 0), (List.toArray [])⟩) ::
(nat_lit 348, ⟨(.type "code"), none, (.fields (List.toArray [(.str (PySem.Str.ofString "_law_roll") 638), (.str (PySem.Str.ofString "_law_roll") 639), (.str (PySem.Str.ofString "/claim/cut.py") 640), (.int (181) 0), (.int (2) 0), (.int (0) 0), (.int (0) 0), (.int (3) 0), (.ref 343), (.bool true), (.int (181) 0), (.ref 344), .none, (.ref 345), (.ref 346), (.ref 347), (.int (646) 0), (.int (181) 0), (.str (PySem.Str.ofString "/claim/cut.py") 647)])), (List.toArray [])⟩) ::
(nat_lit 349, ⟨(.type "function"), none, (.func (PySem.W.fnOf (PySem.Str.ofString "_law_roll") (PySem.Str.ofString "_law_roll") (defArgs s_law_roll) (defBody s_law_roll) (defScope s_law_roll) .none .none .none (.str (PySem.Str.ofString "law_halvesmeet_k14_errors_of_disks") 626) none (.ref 348) .none)), (List.toArray [])⟩) ::
(nat_lit 350, ⟨(.type "tuple"), none, (.seq (List.toArray []) 0), (List.toArray [])⟩) ::
(nat_lit 352, ⟨(.type "tuple"), none, (.seq (List.toArray [(.str (PySem.Str.ofString "dice") 652), (.str (PySem.Str.ofString "items") 653)]) 0), (List.toArray [])⟩) ::
(nat_lit 353, ⟨(.type "tuple"), none, (.seq (List.toArray []) 0), (List.toArray [])⟩) ::
(nat_lit 355, ⟨(.type "code"), none, (.fields (List.toArray [(.str (PySem.Str.ofString "_law_pick") 649), (.str (PySem.Str.ofString "_law_pick") 650), (.str (PySem.Str.ofString "/claim/cut.py") 651), (.int (190) 0), (.int (2) 0), (.int (0) 0), (.int (0) 0), (.int (3) 0), (.ref 350), (.bool true), (.int (181) 0), (.ref 351), .none, (.ref 352), (.ref 353), (.ref 354), (.int (654) 0), (.int (190) 0), (.str (PySem.Str.ofString "/claim/cut.py") 655)])), (List.toArray [])⟩) ::
(nat_lit 356, ⟨(.type "function"), none, (.func (PySem.W.fnOf (PySem.Str.ofString "_law_pick") (PySem.Str.ofString "_law_pick") (defArgs s_law_pick) (defBody s_law_pick) (defScope s_law_pick) .none .none .none (.str (PySem.Str.ofString "law_halvesmeet_k14_errors_of_disks") 626) none (.ref 355) .none)), (List.toArray [])⟩) ::
(nat_lit 357, ⟨(.type "tuple"), none, (.seq (List.toArray []) 0), (List.toArray [])⟩) ::
(nat_lit 359, ⟨(.type "tuple"), none, (.seq (List.toArray [(.str (PySem.Str.ofString "call") 660), (.str (PySem.Str.ofString "error") 661)]) 0), (List.toArray [])⟩) ::
(nat_lit 360, ⟨(.type "tuple"), none, (.seq (List.toArray []) 0), (List.toArray [])⟩) ::
(nat_lit 362, ⟨(.type "code"), none, (.fields (List.toArray [(.str (PySem.Str.ofString "_law_fault") 657), (.str (PySem.Str.ofString "_law_fault") 658), (.str (PySem.Str.ofString "/claim/cut.py") 659), (.int (192) 0), (.int (1) 0), (.int (0) 0), (.int (0) 0), (.int (3) 0), (.ref 357), (.bool true), (.int (181) 0), (.ref 358), .none, (.ref 359), (.ref 360), (.ref 361), (.int (662) 0), (.int (192) 0), (.str (PySem.Str.ofString "/claim/cut.py") 663)])), (List.toArray [])⟩) ::
(nat_lit 363, ⟨(.type "function"), none, (.func (PySem.W.fnOf (PySem.Str.ofString "_law_fault") (PySem.Str.ofString "_law_fault") (defArgs s_law_fault) (defBody s_law_fault) (defScope s_law_fault) .none .none .none (.str (PySem.Str.ofString "law_halvesmeet_k14_errors_of_disks") 626) none (.ref 362) .none)), (List.toArray [])⟩) ::
(nat_lit 364, ⟨(.type "tuple"), none, (.seq (List.toArray []) 0), (List.toArray [])⟩) ::
(nat_lit 367, ⟨(.type "code"), none, (.fields (List.toArray [(.str (PySem.Str.ofString "_law_right") 665), (.str (PySem.Str.ofString "_law_right") 666), (.str (PySem.Str.ofString "/claim/cut.py") 667), (.int (206) 0), (.int (1) 0), (.int (0) 0), (.int (0) 0), (.int (3) 0), (.ref 364), (.bool true), (.int (181) 0), (.ref 365), .none, .none, .none, (.ref 366), (.int (668) 0), (.int (206) 0), (.str (PySem.Str.ofString "/claim/cut.py") 669)])), (List.toArray [])⟩) ::
(nat_lit 368, ⟨(.type "function"), none, (.func (PySem.W.fnOf (PySem.Str.ofString "_law_right") (PySem.Str.ofString "_law_right") (defArgs s_law_right) (defBody s_law_right) (defScope s_law_right) .none .none .none (.str (PySem.Str.ofString "law_halvesmeet_k14_errors_of_disks") 626) none (.ref 367) .none)), (List.toArray [])⟩) ::
(nat_lit 369, ⟨(.type "tuple"), none, (.seq (List.toArray []) 0), (List.toArray [])⟩) ::
(nat_lit 371, ⟨(.type "tuple"), none, (.seq (List.toArray [(.str (PySem.Str.ofString "many") 674), (.str (PySem.Str.ofString "found") 675), (.str (PySem.Str.ofString "turn") 676)]) 0), (List.toArray [])⟩) ::
(nat_lit 372, ⟨(.type "tuple"), none, (.seq (List.toArray []) 0), (List.toArray [])⟩) ::
(nat_lit 374, ⟨(.type "code"), none, (.fields (List.toArray [(.str (PySem.Str.ofString "_law_deep") 671), (.str (PySem.Str.ofString "_law_deep") 672), (.str (PySem.Str.ofString "/claim/cut.py") 673), (.int (232) 0), (.int (1) 0), (.int (0) 0), (.int (0) 0), (.int (3) 0), (.ref 369), (.bool true), (.int (181) 0), (.ref 370), .none, (.ref 371), (.ref 372), (.ref 373), (.int (677) 0), (.int (232) 0), (.str (PySem.Str.ofString "/claim/cut.py") 678)])), (List.toArray [])⟩) ::
(nat_lit 375, ⟨(.type "function"), none, (.func (PySem.W.fnOf (PySem.Str.ofString "_law_deep") (PySem.Str.ofString "_law_deep") (defArgs s_law_deep) (defBody s_law_deep) (defScope s_law_deep) .none .none .none (.str (PySem.Str.ofString "law_halvesmeet_k14_errors_of_disks") 626) none (.ref 374) .none)), (List.toArray [])⟩) ::
(nat_lit 376, ⟨(.type "tuple"), none, (.seq (List.toArray []) 0), (List.toArray [])⟩) ::
(nat_lit 379, ⟨(.type "code"), none, (.fields (List.toArray [(.str (PySem.Str.ofString "law") 680), (.str (PySem.Str.ofString "law") 681), (.str (PySem.Str.ofString "/claim/cut.py") 682), (.int (237) 0), (.int (1) 0), (.int (0) 0), (.int (0) 0), (.int (3) 0), (.ref 376), (.bool true), (.int (181) 0), (.ref 377), .none, .none, .none, (.ref 378), (.int (683) 0), (.int (237) 0), (.str (PySem.Str.ofString "/claim/cut.py") 684)])), (List.toArray [])⟩) ::
(nat_lit 380, ⟨(.type "function"), none, (.func (PySem.W.fnOf (PySem.Str.ofString "law") (PySem.Str.ofString "law") (defArgs s_law) (defBody s_law) (defScope s_law) .none .none .none (.str (PySem.Str.ofString "law_halvesmeet_k14_errors_of_disks") 626) none (.ref 379) .none)), (List.toArray [])⟩) :: []
def asX : List Addr := 2 :: 3 :: 15 :: 22 :: 23 :: 24 :: 25 :: 28 :: 35 :: 36 :: 37 :: 40 :: 47 :: 48 :: 49 :: 52 :: 59 :: 60 :: 61 :: 64 :: 71 :: 73 :: 74 :: 76 :: 77 :: 78 :: 79 :: 80 :: 81 :: 84 :: 91 :: 93 :: 94 :: 96 :: 97 :: 98 :: 99 :: 100 :: 101 :: 104 :: 106 :: 107 :: 109 :: 110 :: 111 :: 113 :: 114 :: 116 :: 117 :: 118 :: 121 :: 122 :: 123 :: 126 :: 127 :: 128 :: 130 :: 131 :: 133 :: 134 :: 135 :: 137 :: 138 :: 140 :: 141 :: 142 :: 145 :: 146 :: 147 :: 149 :: 150 :: 152 :: 153 :: 154 :: 155 :: 157 :: 158 :: 160 :: 161 :: 162 :: 164 :: 165 :: 167 :: 168 :: 169 :: 172 :: 173 :: 181 :: 183 :: 184 :: 186 :: 187 :: 188 :: 190 :: 191 :: 193 :: 194 :: 195 :: 196 :: 197 :: 198 :: 200 :: 201 :: 203 :: 204 :: 205 :: 206 :: 208 :: 209 :: 211 :: 212 :: 213 :: 214 :: 216 :: 217 :: 219 :: 220 :: 221 :: 223 :: 224 :: 226 :: 227 :: 228 :: 230 :: 231 :: 233 :: 234 :: 235 :: 237 :: 238 :: 240 :: 241 :: 242 :: 245 :: 246 :: 247 :: 249 :: 250 :: 252 :: 253 :: 254 :: 256 :: 257 :: 259 :: 260 :: 261 :: 263 :: 264 :: 266 :: 267 :: 268 :: 269 :: 270 :: 271 :: 272 :: 275 :: 277 :: 278 :: 280 :: 281 :: 282 :: 284 :: 285 :: 287 :: 288 :: 289 :: 291 :: 292 :: 294 :: 295 :: 296 :: 299 :: 300 :: 301 :: 303 :: 304 :: 306 :: 307 :: 308 :: 310 :: 311 :: 313 :: 314 :: 315 :: 317 :: 318 :: 320 :: 321 :: 322 :: 324 :: 325 :: 327 :: 328 :: 329 :: 331 :: 332 :: 334 :: 335 :: 336 :: 338 :: 339 :: 341 :: 342 :: 343 :: 345 :: 346 :: 348 :: 349 :: 350 :: 352 :: 353 :: 355 :: 356 :: 357 :: 359 :: 360 :: 362 :: 363 :: 364 :: 367 :: 368 :: 369 :: 371 :: 372 :: 374 :: 375 :: 376 :: 379 :: 380 :: []
theorem asX_eq : ∀ P, asX = (KX P).map (·.1) := fun _ => by kernel_rfl
def loose0 : List PySem.Str := [PySem.Str.ofString "HouseError", PySem.Str.ofString "InvalidDisk", PySem.Str.ofString "InvalidBlock", PySem.Str.ofString "InvalidOperation", PySem.Str.ofString "InvalidNumber", PySem.Str.ofString "TooMany", PySem.Str.ofString "MAX_NEST", PySem.Str.ofString "MAX_STRING", PySem.Str.ofString "MAX_NUMBER", PySem.Str.ofString "SIGNS", PySem.Str.ofString "is_number", PySem.Str.ofString "is_within", PySem.Str.ofString "are_indices", PySem.Str.ofString "are_ascending", PySem.Str.ofString "is_made_of", PySem.Str.ofString "is_plain", PySem.Str.ofString "is_plain_within", PySem.Str.ofString "_is_single", PySem.Str.ofString "check_number", PySem.Str.ofString "MAX_BLOCKS", PySem.Str.ofString "MAX_WAITING", PySem.Str.ofString "MOST_FALLS", PySem.Str.ofString "is_block", PySem.Str.ofString "are_blocks", PySem.Str.ofString "Disk", PySem.Str.ofString "_made", PySem.Str.ofString "_behind", PySem.Str.ofString "check_disk", PySem.Str.ofString "_versions_of", PySem.Str.ofString "falls_count", PySem.Str.ofString "each_fall", PySem.Str.ofString "_picked", PySem.Str.ofString "fall_paper", PySem.Str.ofString "is_fall_paper", PySem.Str.ofString "_law_dice", PySem.Str.ofString "_law_roll", PySem.Str.ofString "_law_pick", PySem.Str.ofString "_law_fault", PySem.Str.ofString "_law_right", PySem.Str.ofString "_law_deep"]
def looseX : List PySem.Str := loose0
abbrev RXh : PySem.W.OpenRow := PySem.W.OpenLaw.row PySem.Challenge.rw_halvesmeet_k14_errors_of_disks
def qX : Program := PySem.W.view RXh.prog [45]
abbrev hkX : PySem.W.Hook := (PySem.W.kmHook KX asX asX_eq [365, 377])
def obX (s : PySem.W.SharedT) : hkX.α := (asX.map (HandSHeadRun.getT s), [365, 377].map (HandSHeadRun.getT s))
theorem obX_eq (s : PySem.W.SharedT) : obX s = hkX.obs s.abs := by
  have e : HandSHeadRun.getT s = s.abs.heap.get? := funext (HandSHeadRun.getT_eq s)
  unfold obX
  rw [e]
  rfl
theorem runX0 (w : World) : HandSHeadRun.RunEq RXh qX hkX obX 5000 looseX (w.withFollow "special-get-raises" false) := by
  intro os
  kernel_rfl
theorem runX1 (w : World) : HandSHeadRun.RunEq RXh qX hkX obX 5000 looseX (w.withFollow "special-get-raises" true) := by
  intro os
  kernel_rfl
theorem runX (w : World) : HandSHeadRun.RunEq RXh qX hkX obX 5000 looseX w := PySem.W.byRow2 "special-get-raises" (P := fun w => HandSHeadRun.RunEq RXh qX hkX obX 5000 looseX w) runX0 runX1 w
end
end K0
open PySem PySem.W PyProof.Rows
set_option maxRecDepth 100000 in
set_option maxHeartbeats 0 in
theorem PySem.Challenge.cw_halvesmeet_k14_errors_of_disks_holds : PySem.Challenge.rw_halvesmeet_k14_errors_of_disks.Holds := by
  w_on; o_law
  refine HandSHeadRun.head_any (r := OpenLaw.row PySem.Challenge.rw_halvesmeet_k14_errors_of_disks) (q := K0.qX) (H := (PySem.W.kmHook K0.KX K0.asX K0.asX_eq [365, 377])) (ob := K0.obX) (M := 5000) (loose := K0.looseX) (d := (HandSHeadRun.topDef (OpenLaw.row PySem.Challenge.rw_halvesmeet_k14_errors_of_disks).prog 45)) (kwd := []) K0.obX_eq (by kernel_rfl) (fun s => by kernel_rfl) K0.runX (by kernel_rfl) (by kernel_rfl) (by kernel_rfl) (by rfl) (by first | assumption | decide +kernel) (by decide +kernel) ⟨rfl, rfl, rfl, rfl, rfl, by decide +kernel⟩ ?hw ?hc
  case hw => w_witness2
  case hc =>
  k_fill
  refine K0.walk (l := PySem.Challenge.rw_halvesmeet_k14_errors_of_disks) rfl (by kernel_rfl) (fun w h Y => PySem.W.km_in_of Y) ?F
  case F =>
    intro w mg fa h Y KX G hmg0
    have hmg : mg ("law" : PySem.Str) = some (.ref fa) := by
      have e : (HandSHeadRun.topDef (OpenLaw.row PySem.Challenge.rw_halvesmeet_k14_errors_of_disks).prog 45).name = ("law" : PySem.Str) := by kernel_rfl
      rw [← e]
      exact hmg0
    have Y2 := PySem.W.km_tabs_of Y
    refine' K0.all_mk (pp36 := 365) (pp38 := 377) KX G hmg ?aCDisk ?a0 ?l0 ?c0 ?k0 ?a1 ?l1 ?c1 ?k1 ?a2 ?l2 ?c2 ?k2 ?a3 ?l3 ?c3 ?k3 ?a4 ?l4 ?c4 ?k4 ?a5 ?l5 ?c5 ?k5 ?a6 ?l6 ?c6 ?k6 ?a7 ?l7 ?c7 ?k7 ?a8 ?l8 ?c8 ?k8 ?d8 ?a9 ?l9 ?c9 ?k9 ?a10 ?l10 ?c10 ?k10 ?a11 ?i11 ?l11 ?c11 ?k11 ?a12 ?r12 ?g12 ?l12 ?c12 ?k12 ?a13 ?g13 ?t13 ?r13 ?l13 ?c13 ?k13 ?a14 ?g14 ?t14 ?r14 ?l14 ?c14 ?k14 ?a15 ?i15 ?l15 ?c15 ?k15 ?a16 ?i16 ?l16 ?c16 ?k16 ?a17 ?i17 ?l17 ?c17 ?k17 ?a18 ?i18 ?l18 ?c18 ?k18 ?a19 ?i19 ?l19 ?c19 ?k19 ?a20 ?i20 ?l20 ?c20 ?k20 ?a21 ?i21 ?l21 ?c21 ?k21 ?a22 ?i22 ?l22 ?c22 ?k22 ?a23 ?l23 ?c23 ?k23 ?a24 ?l24 ?c24 ?k24 ?a25 ?l25 ?c25 ?k25 ?a26 ?l26 ?c26 ?k26 ?a27 ?l27 ?c27 ?k27 ?a28 ?l28 ?c28 ?k28 ?a29 ?l29 ?c29 ?k29 ?a30 ?l30 ?c30 ?k30 ?a31 ?l31 ?c31 ?k31 ?a32 ?l32 ?c32 ?k32 ?a33 ?l33 ?c33 ?k33 ?a34 ?l34 ?c34 ?k34 ?a35 ?l35 ?c35 ?k35 ?a36 ?l36 ?c36 ?k36 ?lq36 ?ln36 ?lt36 ?a37 ?l37 ?c37 ?k37 ?a38 ?l38 ?c38 ?k38 ?lq38 ?ln38 ?lt38 ?aEInvalidNumber ?zEInvalidNumberini ?l39 ?c39 ?k39 ?aETooMany ?zETooManyini ?l40 ?c40 ?k40 ?zDiskpg ?zDiskhd ?zDiskpo ?zDisksa ?zDiskmk ?zDiskkc ?zDiskca ?zDiskcg ?zDiskct ?zDiskco ?zDiskrd ?zDiskga ?zDiskkNoneType ?zDiskfNoneType ?zDiskktuple ?zDiskftuple ?zDiskkint ?zDiskfint ?zDiskkstr ?zDiskfstr ?zDiskklist ?zDiskflist ?zDiskkbool ?zDiskfbool ?zDiskkdict ?zDiskfdict ?zDiskrint ?zDiskrbool ?zDiskrstr ?zDiskrtuple ?zDiskne ?zDiskno_sure ?zDiskno_waiting ?aEInvalidDisk ?qEInvalidDisk ?zEInvalidDiskkc ?zEInvalidDisksb ?zEInvalidDiskty ?aEInvalidBlock ?qEInvalidBlock ?zEInvalidBlockkc ?zEInvalidBlocksb ?zEInvalidBlockty ?aEInvalidOperation ?qEInvalidOperation ?zEInvalidOperationkc ?zEInvalidOperationsb ?zEInvalidOperationty ?zEInvalidNumberoi ?zEInvalidNumberxf ?zEInvalidNumberkc ?zEInvalidNumbersb ?zEInvalidNumberty ?zEInvalidNumbersa ?zEInvalidNumberfn ?zEInvalidNumbernogiven ?zETooManyoi ?zETooManyxf ?zETooManykc ?zETooManysb ?zETooManyty ?zETooManysa ?zETooManyfn ?zETooManynolimit ?zEInvalidDiskInvalidBlock ?zEInvalidDiskInvalidDisk ?zEInvalidDiskInvalidNumber ?zEInvalidDiskInvalidOperation ?zEInvalidDiskTooMany ?zEInvalidBlockInvalidBlock ?zEInvalidBlockInvalidDisk ?zEInvalidBlockInvalidNumber ?zEInvalidBlockInvalidOperation ?zEInvalidBlockTooMany ?zEInvalidOperationInvalidBlock ?zEInvalidOperationInvalidDisk ?zEInvalidOperationInvalidNumber ?zEInvalidOperationInvalidOperation ?zEInvalidOperationTooMany ?zEInvalidNumberInvalidBlock ?zEInvalidNumberInvalidDisk ?zEInvalidNumberInvalidNumber ?zEInvalidNumberInvalidOperation ?zEInvalidNumberTooMany ?zETooManyInvalidBlock ?zETooManyInvalidDisk ?zETooManyInvalidNumber ?zETooManyInvalidOperation ?zETooManyTooMany ?zEInvalidDisknst ?zEInvalidBlocknst ?zEInvalidOperationnst ?zEInvalidNumbernst ?zETooManynst ?x0 ?x1 ?x2 ?x3 ?x4 ?x5 ?x6 ?y0 ?y1 ?y2 ?y3 ?y4 ?y5 ?y6 ?y7 ?y8 ?y9 ?y10 ?y11 ?y12 ?y13 ?y14 ?y15 ?y16 ?lne0_1
    (case aCDisk => k_is)
    (case a0 => k_is)
    (case l0 => k_is)
    (case c0 => k_is)
    (case k0 => k_is)
    (case a1 => k_is)
    (case l1 => k_is)
    (case c1 => k_is)
    (case k1 => k_is)
    (case a2 => k_is)
    (case l2 => k_is)
    (case c2 => k_is)
    (case k2 => k_is)
    (case a3 => k_is)
    (case l3 => k_is)
    (case c3 => k_is)
    (case k3 => k_is)
    (case a4 => k_is)
    (case l4 => k_is)
    (case c4 => k_is)
    (case k4 => k_is)
    (case a5 => k_is)
    (case l5 => k_is)
    (case c5 => k_is)
    (case k5 => k_is)
    (case a6 => k_is)
    (case l6 => k_is)
    (case c6 => k_is)
    (case k6 => k_is)
    (case a7 => k_is)
    (case l7 => k_is)
    (case c7 => k_is)
    (case k7 => k_is)
    (case a8 => k_is)
    (case l8 => k_is)
    (case c8 => k_is)
    (case k8 => k_is)
    (case d8 => k_is)
    (case a9 => k_is)
    (case l9 => k_is)
    (case c9 => k_is)
    (case k9 => k_is)
    (case a10 => k_is)
    (case l10 => k_is)
    (case c10 => k_is)
    (case k10 => k_is)
    (case a11 => k_is)
    (case i11 => k_is)
    (case l11 => k_is)
    (case c11 => k_is)
    (case k11 => k_is)
    (case a12 => k_is)
    (case r12 => k_is)
    (case g12 => k_is)
    (case l12 => k_is)
    (case c12 => k_is)
    (case k12 => k_is)
    (case a13 => k_is)
    (case g13 => k_is)
    (case t13 => k_is)
    (case r13 => k_is)
    (case l13 => k_is)
    (case c13 => k_is)
    (case k13 => k_is)
    (case a14 => k_is)
    (case g14 => k_is)
    (case t14 => k_is)
    (case r14 => k_is)
    (case l14 => k_is)
    (case c14 => k_is)
    (case k14 => k_is)
    (case a15 => k_is)
    (case i15 => k_is)
    (case l15 => k_is)
    (case c15 => k_is)
    (case k15 => k_is)
    (case a16 => k_is)
    (case i16 => k_is)
    (case l16 => k_is)
    (case c16 => k_is)
    (case k16 => k_is)
    (case a17 => k_is)
    (case i17 => k_is)
    (case l17 => k_is)
    (case c17 => k_is)
    (case k17 => k_is)
    (case a18 => k_is)
    (case i18 => k_is)
    (case l18 => k_is)
    (case c18 => k_is)
    (case k18 => k_is)
    (case a19 => k_is)
    (case i19 => k_is)
    (case l19 => k_is)
    (case c19 => k_is)
    (case k19 => k_is)
    (case a20 => k_is)
    (case i20 => k_is)
    (case l20 => k_is)
    (case c20 => k_is)
    (case k20 => k_is)
    (case a21 => k_is)
    (case i21 => k_is)
    (case l21 => k_is)
    (case c21 => k_is)
    (case k21 => k_is)
    (case a22 => k_is)
    (case i22 => k_is)
    (case l22 => k_is)
    (case c22 => k_is)
    (case k22 => k_is)
    (case a23 => k_is)
    (case l23 => k_is)
    (case c23 => k_is)
    (case k23 => k_is)
    (case a24 => k_is)
    (case l24 => k_is)
    (case c24 => k_is)
    (case k24 => k_is)
    (case a25 => k_is)
    (case l25 => k_is)
    (case c25 => k_is)
    (case k25 => k_is)
    (case a26 => k_is)
    (case l26 => k_is)
    (case c26 => k_is)
    (case k26 => k_is)
    (case a27 => k_is)
    (case l27 => k_is)
    (case c27 => k_is)
    (case k27 => k_is)
    (case a28 => k_is)
    (case l28 => k_is)
    (case c28 => k_is)
    (case k28 => k_is)
    (case a29 => k_is)
    (case l29 => k_is)
    (case c29 => k_is)
    (case k29 => k_is)
    (case a30 => k_is)
    (case l30 => k_is)
    (case c30 => k_is)
    (case k30 => k_is)
    (case a31 => k_is)
    (case l31 => k_is)
    (case c31 => k_is)
    (case k31 => k_is)
    (case a32 => k_is)
    (case l32 => k_is)
    (case c32 => k_is)
    (case k32 => k_is)
    (case a33 => k_is)
    (case l33 => k_is)
    (case c33 => k_is)
    (case k33 => k_is)
    (case a34 => k_is)
    (case l34 => k_is)
    (case c34 => k_is)
    (case k34 => k_is)
    (case a35 => k_is)
    (case l35 => k_is)
    (case c35 => k_is)
    (case k35 => k_is)
    (case a36 => k_is)
    (case l36 => k_is)
    (case c36 => k_is)
    (case k36 => k_is)
    (case lq36 => first | kernel_rfl | rfl | decide +kernel)
    (case ln36 => first | kernel_rfl | rfl | decide +kernel)
    (case lt36 => exact Y2 _ (by decide))
    (case a37 => k_is)
    (case l37 => k_is)
    (case c37 => k_is)
    (case k37 => k_is)
    (case a38 => k_is)
    (case l38 => k_is)
    (case c38 => k_is)
    (case k38 => k_is)
    (case lq38 => first | kernel_rfl | rfl | decide +kernel)
    (case ln38 => first | kernel_rfl | rfl | decide +kernel)
    (case lt38 => exact Y2 _ (by decide))
    (case aEInvalidNumber => k_is)
    (case zEInvalidNumberini => k_is)
    (case l39 => k_is)
    (case c39 => k_is)
    (case k39 => k_is)
    (case aETooMany => k_is)
    (case zETooManyini => k_is)
    (case l40 => k_is)
    (case c40 => k_is)
    (case k40 => k_is)
    (case zDiskpg => first | k_is | kit_is)
    (case zDiskhd => first | k_is | kit_is)
    (case zDiskpo => first | k_is | kit_is)
    (case zDisksa => first | k_is | kit_is)
    (case zDiskmk => first | k_is | kit_is)
    (case zDiskkc => first | k_is | kit_is)
    (case zDiskca => first | k_is | kit_is)
    (case zDiskcg => first | k_is | kit_is)
    (case zDiskct => first | k_is | kit_is)
    (case zDiskco => first | k_is | kit_is)
    (case zDiskrd => first | k_is | kit_is)
    (case zDiskga => first | k_is | kit_is)
    (case zDiskkNoneType => first | k_is | kit_is)
    (case zDiskfNoneType => first | k_is | kit_is)
    (case zDiskktuple => first | k_is | kit_is)
    (case zDiskftuple => first | k_is | kit_is)
    (case zDiskkint => first | k_is | kit_is)
    (case zDiskfint => first | k_is | kit_is)
    (case zDiskkstr => first | k_is | kit_is)
    (case zDiskfstr => first | k_is | kit_is)
    (case zDiskklist => first | k_is | kit_is)
    (case zDiskflist => first | k_is | kit_is)
    (case zDiskkbool => first | k_is | kit_is)
    (case zDiskfbool => first | k_is | kit_is)
    (case zDiskkdict => first | k_is | kit_is)
    (case zDiskfdict => first | k_is | kit_is)
    (case zDiskrint => first | k_is | kit_is)
    (case zDiskrbool => first | k_is | kit_is)
    (case zDiskrstr => first | k_is | kit_is)
    (case zDiskrtuple => first | k_is | kit_is)
    (case zDiskne => first | k_is | kit_is)
    (case zDiskno_sure => first | k_is | kit_is)
    (case zDiskno_waiting => first | k_is | kit_is)
    (case aEInvalidDisk => k_is)
    (case qEInvalidDisk => k_exc)
    (case zEInvalidDiskkc => first | k_is | kit_is)
    (case zEInvalidDisksb => first | k_is | kit_is)
    (case zEInvalidDiskty => first | k_is | kit_is)
    (case aEInvalidBlock => k_is)
    (case qEInvalidBlock => k_exc)
    (case zEInvalidBlockkc => first | k_is | kit_is)
    (case zEInvalidBlocksb => first | k_is | kit_is)
    (case zEInvalidBlockty => first | k_is | kit_is)
    (case aEInvalidOperation => k_is)
    (case qEInvalidOperation => k_exc)
    (case zEInvalidOperationkc => first | k_is | kit_is)
    (case zEInvalidOperationsb => k_is)
    (case zEInvalidOperationty => k_is)
    (case zEInvalidNumberoi => first | kernel_rfl | rfl | decide +kernel)
    (case zEInvalidNumberxf => first | kernel_rfl | rfl | decide +kernel)
    (case zEInvalidNumberkc => first | k_is | kit_is)
    (case zEInvalidNumbersb => k_is)
    (case zEInvalidNumberty => k_is)
    (case zEInvalidNumbersa => k_is)
    (case zEInvalidNumberfn => k_is)
    (case zEInvalidNumbernogiven => k_is)
    (case zETooManyoi => first | kernel_rfl | rfl | decide +kernel)
    (case zETooManyxf => first | kernel_rfl | rfl | decide +kernel)
    (case zETooManykc => first | k_is | kit_is)
    (case zETooManysb => k_is)
    (case zETooManyty => k_is)
    (case zETooManysa => k_is)
    (case zETooManyfn => k_is)
    (case zETooManynolimit => k_is)
    (case zEInvalidDiskInvalidBlock => first | kernel_rfl | rfl | decide +kernel)
    (case zEInvalidDiskInvalidDisk => first | kernel_rfl | rfl | decide +kernel)
    (case zEInvalidDiskInvalidNumber => first | kernel_rfl | rfl | decide +kernel)
    (case zEInvalidDiskInvalidOperation => first | kernel_rfl | rfl | decide +kernel)
    (case zEInvalidDiskTooMany => first | kernel_rfl | rfl | decide +kernel)
    (case zEInvalidBlockInvalidBlock => first | kernel_rfl | rfl | decide +kernel)
    (case zEInvalidBlockInvalidDisk => first | kernel_rfl | rfl | decide +kernel)
    (case zEInvalidBlockInvalidNumber => first | kernel_rfl | rfl | decide +kernel)
    (case zEInvalidBlockInvalidOperation => first | kernel_rfl | rfl | decide +kernel)
    (case zEInvalidBlockTooMany => first | kernel_rfl | rfl | decide +kernel)
    (case zEInvalidOperationInvalidBlock => first | kernel_rfl | rfl | decide +kernel)
    (case zEInvalidOperationInvalidDisk => first | kernel_rfl | rfl | decide +kernel)
    (case zEInvalidOperationInvalidNumber => first | kernel_rfl | rfl | decide +kernel)
    (case zEInvalidOperationInvalidOperation => first | kernel_rfl | rfl | decide +kernel)
    (case zEInvalidOperationTooMany => first | kernel_rfl | rfl | decide +kernel)
    (case zEInvalidNumberInvalidBlock => first | kernel_rfl | rfl | decide +kernel)
    (case zEInvalidNumberInvalidDisk => first | kernel_rfl | rfl | decide +kernel)
    (case zEInvalidNumberInvalidNumber => first | kernel_rfl | rfl | decide +kernel)
    (case zEInvalidNumberInvalidOperation => first | kernel_rfl | rfl | decide +kernel)
    (case zEInvalidNumberTooMany => first | kernel_rfl | rfl | decide +kernel)
    (case zETooManyInvalidBlock => first | kernel_rfl | rfl | decide +kernel)
    (case zETooManyInvalidDisk => first | kernel_rfl | rfl | decide +kernel)
    (case zETooManyInvalidNumber => first | kernel_rfl | rfl | decide +kernel)
    (case zETooManyInvalidOperation => first | kernel_rfl | rfl | decide +kernel)
    (case zETooManyTooMany => first | kernel_rfl | rfl | decide +kernel)
    (case zEInvalidDisknst => first | k_is | kit_is)
    (case zEInvalidBlocknst => first | k_is | kit_is)
    (case zEInvalidOperationnst => k_is)
    (case zEInvalidNumbernst => k_is)
    (case zETooManynst => k_is)
    (case x0 => k_is)
    (case x1 => k_is)
    (case x2 => k_is)
    (case x3 => k_is)
    (case x4 => k_is)
    (case x5 => k_is)
    (case x6 => k_is)
    (case y0 => k_is)
    (case y1 => k_is)
    (case y2 => k_is)
    (case y3 => k_is)
    (case y4 => k_is)
    (case y5 => k_is)
    (case y6 => k_is)
    (case y7 => k_is)
    (case y8 => k_is)
    (case y9 => k_is)
    (case y10 => k_is)
    (case y11 => k_is)
    (case y12 => k_is)
    (case y13 => k_is)
    (case y14 => k_is)
    (case y15 => k_is)
    (case y16 => k_is)
    (case lne0_1 => decide)

