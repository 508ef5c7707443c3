import PyProof.Rows.All
import Wide.All
import OpenK.AllK
import Wide.FinOn
import HandS.ForMost
import HandS.Wide
import HandS.Exc
import HandS.ExcInit
import HandS.IsInst
import KE.KExcInit
import KE.KExcIs
import KE.KIsAll
import PyProof.ReprRoads
import HandS.Walk
import PySem.Challenge.RW_slackcache_k24_exceptions
set_option Elab.async false
set_option linter.all false
set_option maxRecDepth 100000
set_option maxHeartbeats 4000000
namespace EX
open PySem L2 PySem.Spec PyProof.Rows
abbrev exT : List Value := [.type "Exception", .type "BaseException", .type "object"]
/-- what the written part says of an own exception class below Exception -/
structure EcC (K : PySem.W.Frag) (C : Addr) : Prop where
  ini : PySem.W.excInitIn K C exT "Exception.__new__" = true
  ovr : PySem.W.excOver K C exT = true
  sa : PySem.W.findIn K (.ref C) "__setattr__" = some (some (.builtin "object.__setattr__"))
  ga : PySem.W.findIn K (.ref C) "__getattribute__" = some (some (.builtin "BaseException.__getattribute__"))
  gg : PySem.W.findIn K (.ref C) "__getattr__" = some none
  exC : PySem.W.subIn K (.ref C) (.type "BaseException") = some true
  hdC : PySem.W.hasDictIn K C = true
  kC : PySem.W.keepIn K (.ref C) = true
  cl : (PySem.W.clsIn K C).isSome = true
  cA : PySem.W.findIn K (.ref C) "__class__" = some (some (.builtin "object.__class__"))
  mo : PySem.W.mroIn K C (.type "object") = some true
  sp : PySem.W.specialIn K (.builtin "object.__class__") "__get__" = some (some (.builtin "getset_descriptor.__get__"))
  tk : PySem.W.takesIn K (.builtin "object.__class__") = some true
theorem upd_comm {H : Hp} {a b : Addr} {o u : HO} (h : a ≠ b) : upd (upd H a o) b u = upd (upd H b u) a o := by
  funext c
  by_cases hb : c = b
  · subst hb
    rw [upd_same, upd_ne (Ne.symm h), upd_same]
  · rw [upd_ne hb]
    by_cases ha : c = a
    · subst ha
      rw [upd_same, upd_same]
    · rw [upd_ne ha, upd_ne ha, upd_ne hb]
theorem upd_upd {H : Hp} {a : Addr} {o u : HO} : upd (upd H a o) a u = upd H a u := by
  funext c
  by_cases ha : c = a
  · subst ha
    rw [upd_same, upd_same]
  · rw [upd_ne ha, upd_ne ha, upd_ne ha]
section
variable {X : Cx} {pins : List (Addr × Obj)} {σ : L2.St} {H : Hp} {s : Shared} {a C dx : Addr} {f : Str} {y : V} {u : Value} {fs : List (Str × V)} {Q : Unit → Shared → Prop} {E : Value → Shared → Prop} {A : Around}
/-- the first field of a new exception -/
theorem est_new (T : EcC X.K C) (I : Inv X pins σ H s) (e : H a = some (exo a C none)) (htk : PySem.W.takerIn X.K C f = some none) (ry : RelV y u)
    (h : ∀ dx s', H dx = none → dx ≠ a → Inv X pins σ (upd (upd H dx (exd dx [(f, y)])) a (exo a C (some dx))) s' → Q () s') :
    wpAny (model X.prog X.w) A (setAttr (.ref a) f u) Q E s := by
  obtain ⟨t1, ho⟩ := exo_at I.hok e
  obtain ⟨cd, hc, hd'⟩ := PySem.W.any_some T.hdC
  obtain ⟨hp, g, d, t, os⟩ := s
  have hlt : a < hp.objs.size := Heap.lt_size ho
  refine PySem.W.set_plain I.kIn (od := none) ⟨ho, rfl, rfl, trivial⟩ T.sa ?_
  refine PySem.W.osa_openX (od := none) PySem.F.store_Exception I.kIn ⟨ho, rfl, rfl, trivial⟩ T.ovr htk fun b => ?_
  refine wpAny_bind (wpAny_pure (wpAny_bind (PySem.W.instanceDict_exc ho (PySem.W.looks_clsIn I.kIn hc) hd' ?_)))
  show wpAny _ _ (Builtin.ObjectAttr.storeInDict hp.objs.size (.str f _) f u) _ _ _
  have hn0 : H hp.objs.size = none := I.hok.fresh (Nat.le_refl _)
  have hne : hp.objs.size ≠ a := Nat.ne_of_gt hlt
  -- the new dict is laid
  have J1 := I.laid (t' := t) (a := hp.objs.size) (o := exd hp.objs.size []) (h' := hp.push (PySem.W.dictOf [] 0)) (fun b o q => Heap.get?_push_of_some _ q) (Nat.le_refl _)
    (exd_ok (mA := fun _ => none) (Heap.Ns1.of_empty ⟨_, #[], _, Heap.get?_push_at rfl rfl, rfl, fun x hx => absurd hx (by simp), fun _ => rfl⟩) fun _ => True.intro)
  have e1 : upd H hp.objs.size (exd hp.objs.size []) a = some (exo a C none) := by rw [upd_ne (Ne.symm hne)]; exact e
  have ho1 : (hp.push (PySem.W.dictOf [] 0)).get? a = some { cls := .ref C, dict := none, data := .fields #[.ref t1, .none, .none, .none, .bool false, .none] } := Heap.get?_push_of_some _ ho
  -- the object gets it
  have ho2 : ((hp.push (PySem.W.dictOf [] 0)).update a fun o => { o with dict := some hp.objs.size }).get? a = some { cls := .ref C, dict := some hp.objs.size, data := .fields #[.ref t1, .none, .none, .none, .bool false, .none] } :=
    Heap.get?_update_self _ ho1 rfl
  have J2 := J1.write (t' := t) (x := a) (e := a) (o := exo a C (some hp.objs.size)) (h' := (hp.push (PySem.W.dictOf [] 0)).update a fun o => { o with dict := some hp.objs.size })
    (by rw [e1]; exact True.intro) (.inl rfl) (fun b o hb q => (Heap.get?_update_ne _ _ _ _ hb).trans q) ⟨_, ho2⟩ (exo_ok ho2)
  have hD : ((hp.push (PySem.W.dictOf [] 0)).update a fun o => { o with dict := some hp.objs.size }).get? hp.objs.size = some (PySem.W.dictOf [] 0) :=
    (Heap.get?_update_ne _ _ _ _ hne).trans (Heap.get?_push_at rfl rfl)
  refine PySem.HandSPX.store_in_new ⟨_, #[], _, hD, rfl, fun x hx => absurd hx (by simp), fun _ => rfl⟩ fun h' tk' hn' hs => ?_
  have hd2 : ∃ o, h'.get? hp.objs.size = some o := by
    obtain ⟨o, _, _, q, _⟩ := hn'
    exact ⟨o, q⟩
  have e2 : upd (upd H hp.objs.size (exd hp.objs.size [])) a (exo a C (some hp.objs.size)) hp.objs.size = some (exd hp.objs.size []) := by rw [upd_ne hne, upd_same]
  have J3 := J2.write (t' := tk') (x := hp.objs.size) (e := hp.objs.size) (o := exd hp.objs.size [(f, y)]) (h' := h') (by rw [e2]; exact True.intro) (.inl rfl)
    (fun b o hb q => (hs.2 b hb).trans q) hd2 (exd_ok hn' (relO_put (fs := []) ry fun _ => True.intro))
  have eH : upd (upd (upd H hp.objs.size (exd hp.objs.size [])) a (exo a C (some hp.objs.size))) hp.objs.size (exd hp.objs.size [(f, y)]) =
      upd (upd H hp.objs.size (exd hp.objs.size [(f, y)])) a (exo a C (some hp.objs.size)) := by
    rw [upd_comm (Ne.symm hne), upd_upd]
  rw [eH] at J3
  exact h _ _ hn0 hne J3
/-- a further field of an exception -/
theorem est_old (T : EcC X.K C) (I : Inv X pins σ H s) (e : H a = some (exo a C (some dx))) (ed : H dx = some (exd dx fs)) (hl : fs.length ≤ 900) (htk : PySem.W.takerIn X.K C f = some none) (ry : RelV y u)
    (h : ∀ s', Inv X pins σ (upd H dx (exd dx ((f, y) :: fs))) s' → Q () s') : wpAny (model X.prog X.w) A (setAttr (.ref a) f u) Q E s := by
  obtain ⟨t1, ho⟩ := exo_at I.hok e
  obtain ⟨mA, hns, rel⟩ := exd_at I.hok ed
  have hw := within_of rel
  obtain ⟨cd, hc, hd'⟩ := PySem.W.any_some T.hdC
  obtain ⟨hp, g, d, t, os⟩ := s
  obtain ⟨oD, es, ep, hoD, hdD, hcD⟩ := hns.count hw
  refine PySem.W.set_plain I.kIn (od := some oD) ⟨ho, rfl, rfl, hoD⟩ T.sa ?_
  refine PySem.W.osa_openX (od := some oD) PySem.F.store_Exception I.kIn ⟨ho, rfl, rfl, hoD⟩ T.ovr htk fun b => ?_
  refine wpAny_bind (wpAny_pure (wpAny_bind (wpAny_bind (wpAny_loadPart ho (wpAny_bind ((PySem.W.looks_clsIn I.kIn hc).at ?_))))))
  rw [hd']
  refine wpAny_pure (a := some dx) ?_
  show wpAny _ _ (Builtin.ObjectAttr.storeInDict dx (.str f _) f u) _ _ _
  refine PySem.OEX.store_in_old hns hw (by rw [List.length_map]; omega) fun h' tk' hn' hs => ?_
  have hd2 : ∃ o, h'.get? dx = some o := by
    obtain ⟨o, _, _, q, _⟩ := hn'
    exact ⟨o, q⟩
  exact h _ (I.write (t' := tk') (x := dx) (e := dx) (o := exd dx ((f, y) :: fs)) (h' := h') (by rw [ed]; exact True.intro) (.inl rfl) (fun b o hb q => (hs.2 b hb).trans q) hd2 (exd_ok hn' (relO_put ry rel)))
end

/-! ### readings and rules -/
/-- self.f = e, self an exception -/
def tEst (K : PySem.W.Frag) (f : Str) (to te : TE) : TS := fun D σ H => te σ H fun y H1 => to σ H1 fun x H2 => ∃ a C : Addr, x = .ref a ∧ EcC K C ∧ PySem.W.takerIn K C f = some none ∧
  ((H2 a = some (exo a C none) ∧ ∀ dx, H2 dx = none → dx ≠ a → D.nx σ (upd (upd H2 dx (exd dx [(f, y)])) a (exo a C (some dx)))) ∨
    ∃ (dx : Addr) (fs : List (Str × V)), H2 a = some (exo a C (some dx)) ∧ H2 dx = some (exd dx fs) ∧ fs.length ≤ 900 ∧ D.nx σ (upd H2 dx (exd dx ((f, y) :: fs))))
/-- C(e, ..), an exception as a value -/
def tMkE (C : Addr) (sp : Sp) (dvs : List V) (ta : TA) : TE := fun σ H Q => ta σ H fun vs H1 => vs.length ≤ 1000 ∧ ∀ a, H1 a = none →
  sp (.ref a :: (vs ++ dvs)) (upd H1 a (exo a C none)) (fun v H2 => v = .non ∧ Q (.ref a) H2) (fun _ _ _ => False)
/-- e.f, e an exception -/
def tEf (K : PySem.W.Frag) (f : Str) (te : TE) : TE := fun σ H Q => te σ H fun x H1 => ∃ (a C dx : Addr) (fs : List (Str × V)) (v : V), x = .ref a ∧ EcC K C ∧ PySem.W.findIn K (.ref C) f = some none ∧
  H1 a = some (exo a C (some dx)) ∧ H1 dx = some (exd dx fs) ∧ fs.lookup f = some v ∧ Q v H1
section
variable {X : Cx} {o e : Expr} {es : List Expr} {to te : TE} {ta : TA} {f : Str} {p p' pos : Pos}
theorem ps_est (ho : PE X o to) (he : PE X e te) (hs : swapsWith e (some (.Attribute o f p')) pos.line X.env = pure false := by rfl) : PS X (.Assign [.Attribute o f p'] e pos) (tEst X.K f to te) := by
  refine ⟨fun pins s σ H D I h => plainObj_wpAny_Assign_Attribute (thn (he.run pins s σ H _ I h) ?_) hs⟩
  intro v s1 ⟨y, H1, I1, r1, q1⟩
  refine thn (ho.run pins s1 σ H1 _ I1 q1) ?_
  intro u s2 ⟨x, H2, I2, r2, a, C, ex, T, hno, q⟩
  subst ex
  obtain rfl : u = Value.ref a := r2
  rcases q with ⟨ea, q⟩ | ⟨dx, fs, ea, ed, hl, q⟩
  · exact est_new T I2 ea hno r1 fun dx s' n ne J => ⟨σ, _, J, q dx n ne⟩
  · exact est_old T I2 ea ed hl hno r1 fun s' J => ⟨σ, _, J, q⟩
theorem pe_ef (he : PE X e te) (hb : attributeBase e f X.env (eval e X.env) = eval e X.env := by rfl) : PE X (.Attribute e f pos) (tEf X.K f te) := by
  refine ⟨fun pins s σ H Q I h => attr_of hb (thn (he.run pins s σ H _ I h) ?_)⟩
  intro u s1 ⟨x, H1, I1, rx, a, C, dx, fs, v, ex, T, hno, ea, ed, l, q⟩
  subst ex
  obtain rfl : u = Value.ref a := rx
  obtain ⟨t1, ho⟩ := exo_at I1.hok ea
  obtain ⟨mA, hns, rel⟩ := exd_at I1.hok ed
  obtain ⟨od, hod, hl⟩ := lookIn_ns hns
  obtain ⟨w0, hu, ru⟩ := RelO.some_of (v := v) (o := mA f) (by rw [← l]; exact rel f)
  have J : PySem.W.InstAt s1.heap a _ C (some od) := ⟨ho, rfl, rfl, hod⟩
  exact HandSPX.exc_get I1.kIn J T.ga T.gg T.exC (PySem.W.findObj_own T.hdC hno rfl (by rw [hl, hu])) (handed_of ru) ⟨v, H1, I1.tok _, ru, q⟩
theorem pe_mkE {CX : CXT} {x : Str} {C fI : Addr} {k : Nat} {fd : FuncData} {ps : List Str} {sp : Sp} {ds : List Value} {dvs : List V} (T : EcC X.K C) (iC : PySem.W.findIn X.K (.ref C) "__init__" = some (some (.ref fI)))
    (tI : PySem.W.typeIn X.K (.ref fI) = some (.type "function")) (F1 : FnOk X.prog X.w X.K X.mg X.base CX k fI fd ps sp) (hr : Room (k + 1) X.A) (hb : Binds X.K fd ps ds) (hd : Vals dvs ds) (hx : Passes CX X (fun _ _ _ => False))
    (hg : Gl X x) (hm : X.mg x = some (.ref C)) (ha : PA X (e :: es) ta)
    (hdb : (x == ("__debug__" : Str)) = false := by decide) (he : starEach (e :: es) X.env = (false, eval e X.env) :: starEach es X.env := by rfl) (hpl : (backTo pos (starEach es X.env)).any (·.1) = false := by rfl) :
    PE X (.Call (.Name x p) (e :: es) [] pos) (tMkE C sp dvs ta) := by
  refine ⟨fun pins s σ H Q I h => wpAny_Call_Name_kw (ld_glob I hg hm ?_ hdb)⟩
  refine PySem.W.callWith_K (h₀ := X.base) I.ok.mod.kin T.kC (thn (ha.run pos pins s σ H _ I h) ?_) he hpl
  intro us s1 ⟨vs, H1, I1, r1, hz, q1⟩
  refine ⟨I1.kIn, ?_⟩
  show wpAny _ _ (call (.ref C) us) _ _ _
  obtain ⟨nm, N', qn, bs, bm, hdct, sn, sub, ab, col, dd, k0, k1, k2, k3, k5, hC, hT⟩ := PySem.W.excInit_of I1.kIn T.ini
  obtain ⟨hp, g, dr, tk, os⟩ := s1
  have hsz : hp.objs.size ≤ hp.objs.size + 1 := Nat.le_succ _
  have hn : H1 (hp.objs.size + 1) = none := I1.hok.fresh hsz
  have hq := q1 _ hn
  have hget : ((hp.push (PySem.W.kdv_tup us)).push (PySem.HandSPX.excO C hp.objs.size)).get? (hp.objs.size + 1) = some (PySem.HandSPX.excO C hp.objs.size) := by heap_get
  have I2 := I1.laid (t' := tk) (a := hp.objs.size + 1) (o := exo (hp.objs.size + 1) C none) (h' := (hp.push (PySem.W.kdv_tup us)).push (PySem.HandSPX.excO C hp.objs.size))
    (fun b o z => Heap.get?_push_of_some _ (Heap.get?_push_of_some _ z)) hsz (exo_ok hget)
  have r2 : Vals (V.ref (hp.objs.size + 1) :: (vs ++ dvs)) (Value.ref (hp.objs.size + 1) :: (us ++ ds)) := .cons rfl (r1.append hd)
  have hl : (Value.ref (hp.objs.size + 1) :: us ++ ds).length = ps.length := r2.length.symm.trans (F1.len _ _ _ _ hq)
  have hus : us.length ≤ sizeLine := by
    have := Paired.length r1
    rw [sizeLine_eq]
    omega
  refine wpAny_call (PySem.HandSPX.call_own PySem.F.excBase_Exception hT hC (PySem.W.looks_findIn I1.kIn iC) (fun self => PySem.W.bind_fn I1.kIn self tI) hus (codeAny_mono
    (F1.run _ X.stack _ _ ⟨Value.ref (hp.objs.size + 1) :: us, []⟩ (Value.ref (hp.objs.size + 1) :: (us ++ ds)) _ _ (fun _ _ _ => False) (hr.make C us []) (I2.env0.make C us []) (hb _ (Value.ref (hp.objs.size + 1) :: us) I2.kIn hl) r2 hq) ?_))
  intro r s' hq'
  cases r with
  | error er => exact hx pins σ _ _ er s' I2 hq'
  | ok fl =>
    cases fl with
    | ret u =>
      obtain ⟨v, H2, os2, bare2, un2, hok2, rv, ev, q2⟩ := hq'
      subst ev
      obtain ⟨h2, g2, d2, t2, os'⟩ := s'
      refine ⟨rv, V.ref (hp.objs.size + 1), H2, I2.call' (ch := []) os2 un2 hok2 bare2 (fun b z => absurd z (by simp)), rfl, q2⟩
    | next => exact False.elim hq'
    | brk => exact False.elim hq'
    | cont => exact False.elim hq'
/-- isinstance(e, c), e an exception, one class -/
def rIsiE (K : PySem.W.Frag) : List V → Hp → VK → Prop := fun xs H Q => ∃ (a C dx : Addr) (fs : List (Str × V)) (c : V) (u : Value) (b : Bool), xs = [.ref a, c] ∧ H a = some (exo a C (some dx)) ∧ H dx = some (exd dx fs) ∧ EcC K C ∧ ClsV c u ∧
  PySem.W.kitOne K (.ref C) u = some b ∧ Q (.bl b) H
/-- isinstance(e, (c1, c2, ..)), the tuple just laid -/
def rIsiET (K : PySem.W.Frag) : List V → Hp → VK → Prop := fun xs H Q => ∃ (a C dx tp : Addr) (fs : List (Str × V)) (cs : List V) (us : List Value) (b : Bool), xs = [.ref a, .ref tp] ∧ H a = some (exo a C (some dx)) ∧ H dx = some (exd dx fs) ∧ EcC K C ∧
  H tp = some (.tup cs) ∧ Paired ClsV cs us ∧ PySem.W.kitAny K (.ref C) us = some b ∧ Q (.bl b) H
theorem kit_exc {K : PySem.W.Frag} {C : Addr} (T : EcC K C) {x : Addr} {ox : Obj} {od : Option Obj} : PySem.W.KitX K (.ref x) (.ref C) (fun h => PySem.W.InstAt h x ox C od) :=
  PySem.W.kitx_exc T.cl T.ga T.gg T.exC T.cA T.sp T.tk T.mo
theorem call_isiE : CallR X (.builtin "isinstance") (rIsiE X.K) := by
  intro pins s σ H xs us Q I r h
  obtain ⟨a, C, dx, fs, c, u, b, rfl, ea, ed, T, k, e, q⟩ := h
  obtain ⟨u1, u2, rfl, r1, r2⟩ := vals2 r
  obtain rfl := k.eq r2
  obtain rfl : u1 = Value.ref a := r1
  obtain ⟨t1, ho⟩ := exo_at I.hok ea
  obtain ⟨mA, hns, rel⟩ := exd_at I.hok ed
  obtain ⟨od, hod, _⟩ := lookIn_ns hns
  exact PySem.W.kia_one (kit_exc T (od := some od)) I.kIn ⟨ho, rfl, rfl, hod⟩ e (fun z => nomatch z) fun tk => ⟨.bl b, H, I.tok tk, rfl, q⟩
theorem call_isiET : CallR X (.builtin "isinstance") (rIsiET X.K) := by
  intro pins s σ H xs us Q I r h
  obtain ⟨a, C, dx, tp, fs, cs, vs, b, rfl, ea, ed, T, et, pr, e, q⟩ := h
  obtain ⟨u1, u2, rfl, r1, r2⟩ := vals2 r
  obtain rfl : u1 = Value.ref a := r1
  obtain rfl : u2 = Value.ref tp := r2
  obtain ⟨t1, ho⟩ := exo_at I.hok ea
  obtain ⟨mA, hns, rel⟩ := exd_at I.hok ed
  obtain ⟨od, hod, _⟩ := lookIn_ns hns
  have z : ObjOk X.prog X.w H s.heap tp (.tup cs) := I.hok tp _ et
  obtain ⟨_, its, rv, o, h1, h2, n, h3⟩ := z
  obtain rfl := ClsV.all pr rv
  obtain ⟨oc, od', dt, sl⟩ := o
  dsimp only at h2 h3
  subst h2 h3
  exact PySem.W.kia_tup (kit_exc T (od := some od)) I.kIn ⟨ho, rfl, rfl, hod⟩ h1 e (fun z => nomatch z) fun tk => ⟨.bl b, H, I.tok tk, rfl, q⟩
end
/-- plain data, or a dict of one int -/
inductive Rp (K : PySem.W.Frag) (H : Hp) : V → PyData → Prop where
  | dp {v : V} {d : PyData} : Dp K H v d → d.hasDict = false → Rp K H v d
  | dic {a : Addr} {k n : Int} : H a = some (.dK [(Sum.inl k, .int n)]) → Rp K H (.ref a) (.dict [(.int k, .int n)])
def rRepr (K : PySem.W.Frag) : List V → Hp → VK → Prop := fun xs H Q => ∃ (x : V) (d : PyData), xs = [x] ∧ Rp K H x d ∧ d.showable = true ∧ d.depth ≤ 60 ∧ d.shown.length ≤ sizeLine ∧ Q (.str d.shown) H
section
variable {X : Cx} {pins : List (Addr × Obj)} {σ : L2.St} {H : Hp} {s : Shared}
theorem Rp.reads (I : Inv X pins σ H s) {v : V} {d : PyData} {u : Value} (h : Rp X.K H v d) (r : RelV v u) : ∃ as, Reads s.heap u d as ∧ (d.hasDict = true → sysModules ∉ as) := by
  cases h with
  | dp h nd =>
    obtain ⟨as, q⟩ := Dp.reads I d v u h r
    exact ⟨as, q, fun z => by rw [nd] at z; cases z⟩
  | @dic a k n e =>
    obtain rfl : u = Value.ref a := r
    have z : ObjOk X.prog X.w H s.heap a (.dK [(Sum.inl k, .int n)]) := I.hok a _ e
    obtain ⟨_, hsm, vs, kv, o, es, ep, ho, hx, hd, _, hp, _⟩ := z
    cases kv with
    | @cons _ q0 _ qs k1 kr =>
      cases kr
      obtain ⟨ek, rv⟩ := k1
      obtain ⟨kk, vv⟩ := q0
      dsimp only at ek rv
      subst ek
      obtain ⟨t, rfl⟩ : ∃ t, vv = Value.int n t := rv
      generalize el : es.toList = l at hp
      cases hp with
      | @cons e1 kv1 es1 kvs1 p1 p2 p3 =>
        cases p3
        obtain ⟨hsh, key, val⟩ := e1
        dsimp only at p1 p2
        subst p2
        have p1 : Value.isInt k key = true := p1
        obtain ⟨t2, rfl⟩ : ∃ t2, key = Value.int k t2 := by
          cases key <;> simp_all [Value.isInt]
        refine ⟨a :: [] ++ [], Reads.dict ho hx.1 hd (as := []) (bs := []) ?_ ?_, fun _ z => ?_⟩
        · rw [el]
          exact ReadsAll.cons (bs := []) (Reads.int k t2) ReadsAll.nil
        · rw [el]
          exact ReadsAll.cons (bs := []) (Reads.int n t) ReadsAll.nil
        · rw [List.append_nil, List.mem_singleton] at z
          rw [z] at hsm
          simp at hsm
theorem call_reprD (hg : X.A.guards = some []) (hu : X.A.units + 70 < cLine) : CallR X (.builtin "repr") (rRepr X.K) := by
  intro pins s σ H xs us Q I r h
  obtain ⟨x, d, rfl, hR, hs, hdp, hz, q⟩ := h
  obtain ⟨u, rfl, ru⟩ := vals1 r
  obtain ⟨as, hr, hsm⟩ := hR.reads I ru
  have sc : ∀ (b : Str), d.shown = b → ∀ tk, EP X pins σ Q (.str b tk) { s with toks := s.toks + 1 } := fun b e tk => ⟨.str b, H, I.tok _, ⟨_, rfl⟩, e ▸ q⟩
  cases hr with
  | none => exact PySem.P.repr_of_none (sc _ rfl _)
  | bool b => exact PySem.P.repr_of_bool (sc _ (by cases b <;> rfl) _)
  | int i t => exact PySem.P.repr_of_int (of_decide_eq_true hs) (sc _ rfl _)
  | str y t => exact PySem.P.repr_of_str (sc _ rfl _) hz
  | list h1 h2 h3 h4 =>
    refine repr_of_reads' (Reads.list h1 h2 h3 h4) hs hsm hg (by omega) (fun _ _ e => e) (fun h' u tk k => ?_) hz
    exact ⟨.str _, H, I.kept k, ⟨_, rfl⟩, q⟩
  | tuple h1 h2 h3 h4 =>
    refine repr_of_reads' (Reads.tuple h1 h2 h3 h4) hs hsm hg (by omega) (fun _ _ e => e) (fun h' u tk k => ?_) hz
    exact ⟨.str _, H, I.kept k, ⟨_, rfl⟩, q⟩
  | dict h1 h2 h3 h4 h5 =>
    refine repr_of_reads' (Reads.dict h1 h2 h3 h4 h5) hs hsm hg (by omega) (fun _ _ e => e) (fun h' u tk k => ?_) hz
    exact ⟨.str _, H, I.kept k, ⟨_, rfl⟩, q⟩
end

/-! ### a def at one call, what runs around it known (so repr of what holds other things may be said) -/
theorem fn_at {P : Program} {w : World} {K : PySem.W.Frag} {mg : Str → Option Value} {base : Heap} {k : Nat} {x qual : Str} {st : Stmt} {f : Addr} {fd : FuncData} {N ps : List Str} (F : Fun K x qual st f fd) (S : FnScope N ps (defScope st))
    {A : Around} {outer : List Env} {s : Shared} {H : Hp} {args : Args} {us : List Value} {vs : List V} {Q : VK} {E : XK} (hr : Room (k + 1) A) (e0 : Env0 P w K mg base A outer s H) (hb : BindsTo s fd args (ps.zip us)) (rv : Vals vs us) (hl : vs.length = ps.length)
    (body : ∀ cdv : Value, Room k (A.deeper (envOfC qual (defScope st) s.heap.objs.size f cdv)) → ∃ t, PSs (cxOf CX0 P w K mg base N qual (defScope st) f cdv A outer s H E) (defBody st) t ∧ t { nx := fun _ H' => Q .non H', rt := Q } (start N vs) H) :
    codeAny (model P w) A (.call (.ref f) args) (CR CX0 outer P w H s Q E) s := by
  obtain ⟨oc, od, kV, doc, pm, an, cdv, ct, osl, rfl, lk, hcd⟩ := F.ex
  have kin : K.In s.heap := e0.mod.kin.keeps fun b o z => (e0.bs b o z).1
  have lim : s.heap.NoLimit := e0.mod.nolimit.keeps fun b o z => (e0.bs b o z).1
  have par : ∀ y ∈ ps.zip us, (defScope st).names.lookup y.1 = some .local ∨ ((defScope st).names.lookup y.1 = some .cell ∧ ((cellsFrom (s.heap.objs.size + 1) (defScope st).names []).lookup y.1).isSome = true) := by
    rintro ⟨n, v⟩ hy
    cases S.par n (List.of_mem_zip hy).1 with
    | inl q => exact .inl q
    | inr q => exact .inr ⟨q, PySem.W.cellsFrom_some _ _ _ (.inl q)⟩
  refine codeAny_call_function hr.depth (kin _ _ lk) rfl S.co S.gen rfl (PySem.W.codeRec_of kin hcd) (hb _ _ _ _ (wpAny_newFunctionEnv_cells S.kind par ?_))
  rintro env he s1 hin
  subst he
  refine ⟨lim.keeps hin.toInCall.keep, codeAny_func ?_⟩
  obtain ⟨t, ht, hq⟩ := body cdv (hr.deeper _)
  refine wpAny_mono (ht.run [] s1 (start N vs) H _ (inv_start S hr.hd e0 hl rv hin) hq) ?_ fun _ _ z => z
  rintro fl s' hs
  cases fl with
  | next =>
    obtain ⟨σ', H', J, q⟩ := hs
    exact ⟨V.non, H', J.os, J.bare, J.base, J.hok, rfl, q⟩
  | ret u =>
    obtain ⟨v, σ', H', J, r, q⟩ := hs
    exact ⟨v, H', J.os, J.bare, J.base, J.hok, r, q⟩
  | brk =>
    obtain ⟨_, _, _, q⟩ := hs
    exact q.elim
  | cont =>
    obtain ⟨_, _, _, q⟩ := hs
    exact q.elim
/-- the law's end, the law's own call met at callerA -/
theorem walkG {l : PySem.W.OpenLaw} {n : Nat} {q : Program} {loose : List Str} {XP : (Str → Option Value) → Heap → Prop} {YP : World → Heap → Prop} {d : DefRec} {K : Params → PySem.W.Frag}
    (hn : l.most = some n) (hn2 : n ≤ sizeLine) (hdf : d.params.defaults = []) (hY : ∀ (w : World) (h : Heap), YP w h → (K w.params).In h)
    (F : ∀ (w : World) (mg : Str → Option Value) (fa : Addr) (h : Heap), (K w.params).In h → h.Ns mainGlobals mg → mg d.name = some (.ref fa) →
      ∀ base : Heap, (K w.params).In base → base.Ns mainGlobals mg → ∀ (s : Shared) (H : Hp) (a : Addr) (ns : List Int), ns.length ≤ n → SqL (K w.params) H a (ns.map V.int) → Env0 l.prog w (K w.params) mg base callerA [] s H →
        codeAny (model l.prog w) callerA (.call (.ref fa) ⟨[.ref a], []⟩) (CR CX0 [] l.prog w H s (fun v _ => v = .bl true) E0) s) :
    PySem.W.WalkO q loose XP YP l.row.toRowW d [] (fun f vs => PySem.call f vs) := by
  refine Att.attach_call hn hdf ?_
  intro w s₀ s₁ mg mb fa o pm cd doc a vs ns G Y ho hd hcd hmg hobj hints hlen hg
  have kin := hY w _ Y
  have rv := vals_ints hints
  have lv := hints.length
  have key : ∀ H : Hp, Only H → SqL (K w.params) H a (ns.map V.int) → HOk l.prog w H s₁.heap → (∀ b, H b ≠ none → b = a) → (H a ≠ none → (K w.params).lookup a = none) →
      codeAny (model l.prog w) callerA (.call (.ref fa) ⟨[.ref a], []⟩) (fun r s' => r = .ok (.ret (.bool true)) ∧ OldK s₁.heap s'.heap ∧ s'.os = s₁.os ∧ AllBare s'.gens) s₁ := by
    intro H only sq hok onlyA notK
    have freeD : ∀ {b : Addr} {o : Obj} {es : Array DictEntry} {ep : Nat}, s₁.heap.get? b = some o → o.data = .dict es ep → H b = none := by
      intro b o es ep e1 e2
      cases h : H b with
      | none => rfl
      | some u =>
        have e3 : b = a := onlyA b (by rw [h]; exact fun z => nomatch z)
        rw [e3, hobj] at e1
        cases e1
        cases e2
    have nsB : ∀ {b : Addr} {m : Str → Option Value}, s₁.heap.Ns b m → (hidT s₁.heap H).Ns b m := by
      rintro b m ⟨o, es, ep, e1, e2, r⟩
      exact ⟨o, es, ep, hidT_get e1 (freeD e1 e2), e2, r⟩
    have kinB : (K w.params).In (hidT s₁.heap H) := by
      intro b o e
      refine hidT_get (kin b o e) ?_
      cases h : H b with
      | none => rfl
      | some u =>
        have e3 : b = a := onlyA b (by rw [h]; exact fun z => nomatch z)
        rw [e3, notK (by rw [← e3, h]; exact fun z => nomatch z)] at e
        cases e
    have e0 : Env0 l.prog w (K w.params) mg (hidT s₁.heap H) callerA [] s₁ H := by
      refine ⟨rfl, ⟨kinB, nsB G.T.g, ⟨mb, nsB G.T.b, G.T.builtins⟩, ?_⟩, fun b o e => of_hidT e, Nat.le_of_eq (hidT_size _ _), trivial, (fun b hb => absurd hb (List.not_mem_nil)), hok, .of_eq hg⟩
      obtain ⟨mc, h1, h2⟩ := G.T.nolimit
      exact ⟨mc, nsB h1, h2⟩
    refine codeAny_mono (F w mg fa _ kin G.T.g hmg _ kinB (nsB G.T.g) s₁ H a ns hlen sq e0) ?_
    intro r s' z
    cases r with
    | error e => exact z.elim
    | ok fl =>
      cases fl with
      | next => exact z.elim
      | brk => exact z.elim
      | cont => exact z.elim
      | ret u =>
        obtain ⟨v, H', os, bare, un, hok', rr, qq⟩ := z
        subst qq
        obtain rfl : u = Value.bool true := rr
        refine ⟨rfl, OldK.of_keep ?_, os, bare⟩
        intro b o e
        rcases only b with h | ⟨ob, xs, h⟩
        · exact un.keep b o e h (fun z => nomatch z) (fun z => nomatch z)
        · have h1 := (hok b _ h).1
          have h2 := (hok' b _ (un.frzs b ob _ h)).1
          rw [e] at h1
          cases h1
          exact h2
  have hz : ns.length ≤ sizeLine := Nat.le_trans hlen hn2
  cases hk : (K w.params).lookup a with
  | some o =>
    have e := kin a o hk
    rw [hobj] at e
    cases e
    refine key (fun _ => none) (fun _ => .inl rfl) (.inr ⟨_, vs.toArray, _, hk, rfl, rfl, rfl, ?_, ?_⟩) (fun _ _ z => nomatch z) (fun _ z => absurd rfl z) fun z => absurd rfl z
    · rw [List.size_toArray, lv]
      exact hz
    · simpa using rv
  | none =>
    have hs : ∀ b u, (if b = a then some (HO.frz { cls := .type "list", data := .seq vs.toArray } (.lst (ns.map V.int))) else none) = some u → b = a ∧ u = HO.frz { cls := .type "list", data := .seq vs.toArray } (.lst (ns.map V.int)) := by
      intro b u z
      by_cases hb : b = a
      · rw [if_pos hb] at z
        exact ⟨hb, (Option.some.inj z).symm⟩
      · rw [if_neg hb] at z
        cases z
    refine key (fun b => if b = a then some (.frz { cls := .type "list", data := .seq vs.toArray } (.lst (ns.map V.int))) else none) ?_ (.inl (.inr ⟨_, if_pos rfl⟩)) ?_ ?_ fun _ => hk
    · intro b
      by_cases hb : b = a
      · exact .inr ⟨_, _, if_pos hb⟩
      · exact .inl (if_neg hb)
    · intro b u z
      obtain ⟨rfl, rfl⟩ := hs b u z
      exact ⟨hobj, by rw [List.length_map]; exact hz, vs, _, rv, hobj⟩
    · intro b z
      cases h : (if b = a then some (HO.frz { cls := .type "list", data := .seq vs.toArray } (.lst (ns.map V.int))) else none) with
      | none => exact absurd h z
      | some u => exact (hs b u h).1

/-! ### defs and exception classes of the text, each as one fact -/
structure DefAt (P : Program) (w : World) (K : PySem.W.Frag) (mg : Str → Option Value) (base : Heap) (k : Nat) (x : Str) (ps : List Str) (sp : Sp) : Prop where
  ex : ∃ (f : Addr) (fd : FuncData), FnOk P w K mg base CX0 k f fd ps sp ∧ mg x = some (.ref f) ∧ PySem.W.keepIn K (.ref f) = true ∧ Binds K fd ps []
structure XcAt (P : Program) (w : World) (K : PySem.W.Frag) (mg : Str → Option Value) (base : Heap) (x : Str) (ps : List Str) (C : Addr) (sp : Sp) : Prop where
  T : EcC K C
  m : mg x = some (.ref C)
  ex : ∃ (fI : Addr) (fd : FuncData), PySem.W.findIn K (.ref C) "__init__" = some (some (.ref fI)) ∧ PySem.W.typeIn K (.ref fI) = some (.type "function") ∧ FnOk P w K mg base CX0 1 fI fd ps sp ∧ Binds K fd ps []
section
variable {X : Cx} {e : Expr} {es : List Expr} {ta : TA} {p pos : Pos} {x : Str} {k : Nat} {ps : List Str} {sp : Sp} {C : Addr}
theorem pe_callD (D : DefAt X.prog X.w X.K X.mg X.base k x ps sp) (hr : Room k X.A) (ha : PA X (e :: es) ta) (hg : Gl X x := by rfl) (hdb : (x == ("__debug__" : Str)) = false := by decide)
    (he : starEach (e :: es) X.env = (false, eval e X.env) :: starEach es X.env := by rfl) (hpl : (backTo pos (starEach es X.env)).any (·.1) = false := by rfl) : PE X (.Call (.Name x p) (e :: es) [] pos) (tCall sp [] E0 ta) := by
  obtain ⟨f, fd, F, m, kp, b⟩ := D.ex
  exact pe_call F hr hg m kp b .nil pass0 ha hdb he hpl
theorem pe_mkD (D : XcAt X.prog X.w X.K X.mg X.base x ps C sp) (hr : Room 2 X.A) (ha : PA X (e :: es) ta) (hg : Gl X x := by rfl) (hdb : (x == ("__debug__" : Str)) = false := by decide)
    (he : starEach (e :: es) X.env = (false, eval e X.env) :: starEach es X.env := by rfl) (hpl : (backTo pos (starEach es X.env)).any (·.1) = false := by rfl) : PE X (.Call (.Name x p) (e :: es) [] pos) (tMkE C sp [] ta) := by
  obtain ⟨fI, fd, iC, tI, F, b⟩ := D.ex
  exact pe_mkE D.T iC tI F hr b .nil (fun _ _ _ _ _ _ _ h => h.elim) hg D.m ha hdb he hpl
theorem pe_cls (D : XcAt X.prog X.w X.K X.mg X.base x ps C sp) (hg : Gl X x := by rfl) (hd : (x == ("__debug__" : Str)) = false := by decide) : PE X (.Name x pos) (tC (.ref C)) := pe_glob hg D.m rfl hd
end
/-- __init__(self, f): self.f = f -/
def spI1 (K : PySem.W.Frag) (C : Addr) (f : Str) : Sp := fun vs H Q _ => ∃ (a : Addr) (v : V), vs = [.ref a, v] ∧ H a = some (exo a C none) ∧ ∀ dx, H dx = none → dx ≠ a → Q .non (upd (upd H dx (exd dx [(f, v)])) a (exo a C (some dx)))
/-- __init__(self, f, g): self.f = f; self.g = g -/
def spI2 (K : PySem.W.Frag) (C : Addr) (f g : Str) : Sp := fun vs H Q _ => ∃ (a : Addr) (v u : V), vs = [.ref a, v, u] ∧ H a = some (exo a C none) ∧
  ∀ dx, H dx = none → dx ≠ a → Q .non (upd (upd (upd H dx (exd dx [(f, v)])) a (exo a C (some dx))) dx (exd dx [(g, u), (f, v)]))
theorem Same.upd {H : Hp} {p : Addr} {o : HO} (h : H p = none) : Same H (L2.upd H p o) := fun b u e => by
  rw [upd_ne (ne_of_none e h)]
  exact e
theorem mk1 {K : PySem.W.Frag} {C : Addr} {f : Str} {v : V} {H : Hp} {Q : V → Hp → Prop} (h : ∀ a d H', Same H H' → H' a = some (exo a C (some d)) → H' d = some (exd d [(f, v)]) → Q (.ref a) H') :
    [v].length ≤ 1000 ∧ ∀ a, H a = none → spI1 K C f (.ref a :: ([v] ++ [])) (upd H a (exo a C none)) (fun x H2 => x = .non ∧ Q (.ref a) H2) (fun _ _ _ => False) := by
  refine ⟨by show 1 ≤ 1000; decide, fun a ha => ⟨a, v, rfl, upd_same, fun d hd hne => ⟨rfl, h a d _ ?_ upd_same ?_⟩⟩⟩
  · have hd0 : H d = none := by rw [upd_ne hne] at hd; exact hd
    intro b o e
    rw [upd_ne (ne_of_none e ha), upd_ne (ne_of_none e hd0), upd_ne (ne_of_none e ha)]
    exact e
  · rw [upd_ne hne, upd_same]
theorem mk2 {K : PySem.W.Frag} {C : Addr} {f g : Str} {v u : V} {H : Hp} {Q : V → Hp → Prop} (h : ∀ a d H', Same H H' → H' a = some (exo a C (some d)) → H' d = some (exd d [(g, u), (f, v)]) → Q (.ref a) H') :
    [v, u].length ≤ 1000 ∧ ∀ a, H a = none → spI2 K C f g (.ref a :: ([v, u] ++ [])) (upd H a (exo a C none)) (fun x H2 => x = .non ∧ Q (.ref a) H2) (fun _ _ _ => False) := by
  refine ⟨by show 2 ≤ 1000; decide, fun a ha => ⟨a, v, u, rfl, upd_same, fun d hd hne => ⟨rfl, h a d _ ?_ ?_ upd_same⟩⟩⟩
  · have hd0 : H d = none := by rw [upd_ne hne] at hd; exact hd
    intro b o e
    rw [upd_ne (ne_of_none e hd0), upd_ne (ne_of_none e ha), upd_ne (ne_of_none e hd0), upd_ne (ne_of_none e ha)]
    exact e
  · rw [upd_ne (Ne.symm hne), upd_same]
/-- a new object, the heap from then on a letter -/
theorem new1 {o : HO} {H : Hp} {Q : V → Hp → Prop} (h : ∀ p H', Same H H' → H' p = some o → Q (.ref p) H') : ∀ p, H p = none → Q (.ref p) (upd H p o) := fun p hp => h p _ (Same.upd hp) upd_same
/-- exceptions that stand: their classes and fields -/
def AllX (H : Hp) (cs : List (Addr × List (Str × V))) (as : List (Addr × Addr)) : Prop := Paired (fun (c : Addr × List (Str × V)) (x : Addr × Addr) => H x.1 = some (exo x.1 c.1 (some x.2)) ∧ H x.2 = some (exd x.2 c.2)) cs as
theorem AllX.mono {H H' : Hp} (s : Same H H') : ∀ {cs : List (Addr × List (Str × V))} {as : List (Addr × Addr)}, AllX H cs as → AllX H' cs as
  | _, _, .nil => .nil
  | _, _, .cons h t => .cons ⟨s _ _ h.1, s _ _ h.2⟩ (AllX.mono s t)
theorem AllX.snoc {H : Hp} {c : Addr × List (Str × V)} {a d : Addr} (h1 : H a = some (exo a c.1 (some d))) (h2 : H d = some (exd d c.2)) : ∀ {cs : List (Addr × List (Str × V))} {as : List (Addr × Addr)}, AllX H cs as → AllX H (cs ++ [c]) (as ++ [(a, d)])
  | _, _, .nil => .cons ⟨h1, h2⟩ .nil
  | _, _, .cons h t => .cons h (AllX.snoc h1 h2 t)
theorem rd_mk1 {K : PySem.W.Frag} {C : Addr} {f : Str} {σ : L2.St} {i : Nat} {v : V} {H : Hp} {Q : V → Hp → Prop} (hv : σ[i]? = some (some v)) (h : ∀ a d H', Same H H' → H' a = some (exo a C (some d)) → H' d = some (exd d [(f, v)]) → Q (.ref a) H') :
    tMkE C (spI1 K C f) [] (tCons (tVar i) tNil) σ H Q := ⟨v, hv, mk1 h⟩
theorem rd_mk2 {K : PySem.W.Frag} {C : Addr} {f g : Str} {σ : L2.St} {i : Nat} {v u : V} {H : Hp} {Q : V → Hp → Prop} (hv : σ[i]? = some (some v)) (h : ∀ a d H', Same H H' → H' a = some (exo a C (some d)) → H' d = some (exd d [(g, u), (f, v)]) → Q (.ref a) H') :
    tMkE C (spI2 K C f g) [] (tCons (tVar i) (tCons (tC u) tNil)) σ H Q := ⟨v, hv, mk2 h⟩
theorem rd_mk2' {K : PySem.W.Frag} {C : Addr} {f g : Str} {σ : L2.St} {i : Nat} {v u : V} {H : Hp} {Q : V → Hp → Prop} (hv : σ[i]? = some (some v)) (h : ∀ a d H', Same H H' → H' a = some (exo a C (some d)) → H' d = some (exd d [(g, v), (f, u)]) → Q (.ref a) H') :
    tMkE C (spI2 K C f g) [] (tCons (tC u) (tCons (tVar i) tNil)) σ H Q := ⟨v, hv, mk2 h⟩
theorem rd_lst {ta : TA} {σ : L2.St} {H : Hp} {Q : V → Hp → Prop} (h : ta σ H fun xs H1 => xs.length ≤ sizeLine ∧ ∀ p H', Same H1 H' → H' p = some (.lst xs) → Q (.ref p) H') (mono : ∀ σ H (R R' : List V → Hp → Prop), (∀ xs H1, R xs H1 → R' xs H1) → ta σ H R → ta σ H R') : tLst ta σ H Q :=
  mono _ _ _ _ (fun xs H1 z => ⟨z.1, new1 z.2⟩) h
/-! ### a reading opened by one combinator -/
section
variable {D : Ends} {σ : L2.St} {H : Hp} {Q : V → Hp → Prop} {QL : List V → Hp → Prop} {t u : TS} {te to' tb : TE} {ta tl : TA} {g : TG} {r : R2}
theorem rd_seq (h : t { D with nx := u D } σ H) : tSeq t u D σ H := h
theorem rd_asg (h : te σ H fun x H1 => g x σ H1 D.nx) : tAsg te g D σ H := h
theorem rd_ret (h : te σ H D.rt) : tRet te D σ H := h
theorem rd_disp (h : ta σ H fun xs H1 => xs.length ≤ sizeLine ∧ ∀ p, H1 p = none → Q (.ref p) (upd H1 p (.lst xs))) : tLst ta σ H Q := h
theorem rd_cons (h : te σ H fun x H1 => tl σ H1 fun xs H2 => QL (x :: xs) H2) : tCons te tl σ H QL := h
theorem rd_nil (h : QL [] H) : tNil σ H QL := h
theorem rd_op (h : te σ H fun x H1 => tb σ H1 fun y H2 => r x y H2 Q) : tOp r te tb σ H Q := h
theorem rd_var {i : Nat} {v : V} (hv : σ[i]? = some (some v)) (h : Q v H) : tVar i σ H Q := ⟨v, hv, h⟩
theorem rd_c {v : V} (h : Q v H) : tC v σ H Q := h
end
section
variable {D : Ends} {σ : L2.St} {H : Hp} {Q : V → Hp → Prop} {QB : Bool → Hp → Prop} {te : TE} {ta : TA} {tc : TT} {t u : TS} {r : List V → Hp → VK → Prop} {K : PySem.W.Frag} {f : Str}
theorem rd_if (h : tc σ H fun b H1 => if b = true then t D σ H1 else u D σ H1) : tIfS tc t u D σ H := h
theorem rd_test (h : te σ H fun x H' => ∃ k, x = .bl k ∧ QB k H') : tTest te σ H QB := h
theorem rd_cb (h : ta σ H fun vs H1 => r vs H1 Q) : tCB r ta σ H Q := h
theorem rd_ef (h : te σ H fun x H1 => ∃ (a C dx : Addr) (fs : List (Str × V)) (v : V), x = .ref a ∧ EcC K C ∧ PySem.W.findIn K (.ref C) f = some none ∧ H1 a = some (exo a C (some dx)) ∧ H1 dx = some (exd dx fs) ∧ fs.lookup f = some v ∧ Q v H1) : tEf K f te σ H Q := h
end
end EX
set_option Elab.async false
set_option linter.all false
set_option maxRecDepth 100000
set_option maxHeartbeats 4000000
namespace EX
open PySem L2 PyProof.Rows
/-- the eight objects, n the drawn number, each with what it is as plain data -/
inductive ItemOk (H : Hp) (n : Int) : V → PyData → Prop where
  | int : ItemOk H n (.int n) (.int n)
  | non : ItemOk H n .non .none
  | bl : ItemOk H n (.bl true) (.bool true)
  | str : ItemOk H n (.str "text") (.str "text")
  | tup {t : Addr} (h : H t = some (.tup [.int 1, .int 2])) : ItemOk H n (.ref t) (.tuple [.int 1, .int 2])
  | lst {t : Addr} (h : H t = some (.lst [.int n])) : ItemOk H n (.ref t) (.list [.int n])
  | dic {t : Addr} (h : H t = some (.dK [(Sum.inl 1, .int n)])) : ItemOk H n (.ref t) (.dict [(.int 1, .int n)])
  | nil {t : Addr} (h : H t = some (.tup [])) : ItemOk H n (.ref t) (.tuple [])
theorem ItemOk.mono {H H' : Hp} {n : Int} {v : V} {d : PyData} (s : Same H H') (h : ItemOk H n v d) : ItemOk H' n v d := by
  cases h with
  | int => exact .int
  | non => exact .non
  | bl => exact .bl
  | str => exact .str
  | tup h => exact .tup (s _ _ h)
  | lst h => exact .lst (s _ _ h)
  | dic h => exact .dic (s _ _ h)
  | nil h => exact .nil (s _ _ h)
theorem ItemOk.rp {K : PySem.W.Frag} {H : Hp} {n : Int} {v : V} {d : PyData} (h : ItemOk H n v d) : Rp K H v d := by
  cases h with
  | int => exact .dp (.int n) rfl
  | non => exact .dp .non rfl
  | bl => exact .dp (.bl true) rfl
  | str => exact .dp (.str _) rfl
  | tup h => exact .dp (.tup (SqT.of h) (.cons (.int 1) (.cons (.int 2) .nil))) (by decide)
  | lst h => exact .dp (.lst (SqL.of h) (.cons (.int n) .nil)) rfl
  | dic h => exact .dic h
  | nil h => exact .dp (.tup (SqT.of h) .nil) rfl
theorem ItemOk.small {H : Hp} {n : Int} {v : V} {d : PyData} (h : ItemOk H n v d) (h0 : -500 ≤ n) (h1 : n < 1000000) : d.showable = true ∧ d.depth ≤ 60 ∧ d.shown.length ≤ sizeLine := by
  have hn : (toString n).length ≤ 8 := int_text_length_le10 (k := 7) (by decide) (by omega)
  have hl : n.natAbs.log2 < 1920 := Nat.lt_of_lt_of_le (PySem.Flt.log2_lt_of (k := 20) (by decide) (by omega)) (by decide)
  have hs : PyData.showable (.int n) = true := by
    show decide (n.natAbs.log2 < 1920) = true
    exact decide_eq_true hl
  have hz : (PyData.shown (.int n)).length ≤ 8 := by
    show (Str.ofString (toString n)).length ≤ 8
    rw [PySem.ofString_length]
    exact hn
  cases h with
  | int => exact ⟨hs, (show 0 ≤ 60 by decide), Nat.le_trans hz (by decide)⟩
  | non => exact ⟨rfl, by decide, by decide +kernel⟩
  | bl => exact ⟨rfl, by decide, by decide +kernel⟩
  | str => exact ⟨rfl, by decide, by decide +kernel⟩
  | tup h => exact ⟨by decide +kernel, by decide, by decide +kernel⟩
  | lst h =>
    refine ⟨by show (PyData.showable (.int n) && true) = true; rw [hs]; rfl, (show 0 + 1 ≤ 60 by decide), ?_⟩
    show (listText [PyData.shown (.int n)]).length ≤ sizeLine
    show ((((("[" : Str) ++ ("" : String)) ++ PyData.shown (.int n)) ++ "]" : Str)).length ≤ sizeLine
    rw [strLen_append, strLen_append, strLen_append]
    have e1 : ("[" : Str).length = 1 := rfl
    have e2 : ((("" : String) : Str)).length = 0 := rfl
    have e3 : ((("]" : String) : Str)).length = 1 := rfl
    rw [sizeLine_eq]
    omega
  | dic h =>
    refine ⟨by show (PyData.showable (.int 1) && PyData.showable (.int n) && true) = true; rw [hs]; rfl, (show 0 + 1 ≤ 60 by decide), ?_⟩
    show (dictText [PyData.shown (.int 1) ++ ": " ++ PyData.shown (.int n)]).length ≤ sizeLine
    show (((("{" : Str) ++ (PyData.shown (.int 1) ++ ": " ++ PyData.shown (.int n))) ++ "}" : Str)).length ≤ sizeLine
    rw [strLen_append, strLen_append, strLen_append, strLen_append]
    have e1 : ("{" : Str).length = 1 := rfl
    have e2 : (PyData.shown (.int 1)).length = 1 := by decide +kernel
    have e3 : (((": " : String) : Str)).length = 2 := rfl
    have e4 : ((("}" : String) : Str)).length = 1 := rfl
    rw [sizeLine_eq]
    omega
  | nil h => exact ⟨rfl, by decide, by decide +kernel⟩
/-- lists of bools as data -/
theorem canB : ∀ bs : List Bool, PyData.canLayAll0 (bs.map PyData.bool) = true
  | [] => rfl
  | b :: r => by
    show (PyData.canLay0 (.bool b) && PyData.canLayAll0 (r.map PyData.bool)) = true
    rw [canB r]
    rfl
theorem depB : ∀ bs : List Bool, PyData.depthAll (bs.map PyData.bool) = 0
  | [] => rfl
  | b :: r => by
    show max (PyData.depth (.bool b)) (PyData.depthAll (r.map PyData.bool)) = 0
    rw [depB r]
    rfl
theorem shapedB (bs : List Bool) : SeqAt.shaped (.list (bs.map PyData.bool)) = true := by
  show (PyData.canLayAll0 (bs.map PyData.bool) && decide (PyData.depthAll (bs.map PyData.bool) + 1 ≤ 64)) = true
  rw [canB, depB]
  rfl
theorem eqvB (bs : List Bool) : PyData.eqv (.list (bs.map PyData.bool)) (.list (bs.map PyData.bool)) = true := SeqAt.eqv_refl _ (canB bs)
theorem dpB {K : PySem.W.Frag} {H : Hp} : ∀ bs : List Bool, DpAll K H (bs.map V.bl) (bs.map PyData.bool)
  | [] => .nil
  | b :: r => .cons (.bl b) (dpB r)
theorem Same.updN {H H1 : Hp} {p : Addr} {o : HO} (s : Same H H1) (h : H p = none) : Same H (L2.upd H1 p o) := fun b u e => by
  rw [upd_ne (ne_of_none e h)]
  exact s b u e
theorem AllX.get {H : Hp} : ∀ {cs : List (Addr × List (Str × V))} {as : List (Addr × Addr)} {i : Nat} {a d : Addr}, AllX H cs as → as[i]? = some (a, d) → ∃ C fs, cs[i]? = some (C, fs) ∧ H a = some (exo a C (some d)) ∧ H d = some (exd d fs)
  | _, _, 0, _, _, .cons h _, e => by
    cases e
    exact ⟨_, _, rfl, h.1, h.2⟩
  | _, _, i + 1, _, _, .cons _ t, e => AllX.get (i := i) t e
end EX
set_option Elab.async false
set_option linter.all false
set_option maxRecDepth 100000
set_option maxHeartbeats 4000000
namespace K24
open PySem L2 EX PyProof.Rows
def top (i : Nat) : Stmt := PySem.Challenge.pw_slackcache_k24_exceptions.main.body.getD i (.Pass ⟨0, 0, 0, 0⟩)

section
variable {P : Program} {w : World} {K : PySem.W.Frag} {mg : Str → Option Value} {base : Heap}
abbrev sI0 : Stmt := inClass (top 2) 0
theorem scI0 : FnScope ["self", "given"] ["self", "given"] (defScope sI0) := ⟨rfl, rfl, rfl, by decide +kernel, rfl, by decide +kernel, by decide +kernel⟩
theorem okI0 {C f : Addr} {fd : FuncData} (F : Fun K "__init__" "InvalidKeys.__init__" sI0 f fd) (T : EcC K C) (tk : PySem.W.takerIn K C "given" = some none) : FnOk P w K mg base CX0 1 f fd ["self", "given"] (spI1 K C "given") := by
  refine F.ok scI0 (fun vs H Q E h => ?_) (fun cdv A outer s H vs Q E hr h => ?_)
  · obtain ⟨a, v, rfl, _⟩ := h
    rfl
  · obtain ⟨a, v, rfl, e, q⟩ := h
    exact ⟨_, pss_one (ps_est (pv 0) (pv 1)), _, rfl, _, rfl, a, C, rfl, T, tk, .inl ⟨e, q⟩⟩
abbrev sI1 : Stmt := inClass (top 3) 0
theorem scI1 : FnScope ["self", "given"] ["self", "given"] (defScope sI1) := ⟨rfl, rfl, rfl, by decide +kernel, rfl, by decide +kernel, by decide +kernel⟩
theorem okI1 {C f : Addr} {fd : FuncData} (F : Fun K "__init__" "InvalidName.__init__" sI1 f fd) (T : EcC K C) (tk : PySem.W.takerIn K C "given" = some none) : FnOk P w K mg base CX0 1 f fd ["self", "given"] (spI1 K C "given") := by
  refine F.ok scI1 (fun vs H Q E h => ?_) (fun cdv A outer s H vs Q E hr h => ?_)
  · obtain ⟨a, v, rfl, _⟩ := h
    rfl
  · obtain ⟨a, v, rfl, e, q⟩ := h
    exact ⟨_, pss_one (ps_est (pv 0) (pv 1)), _, rfl, _, rfl, a, C, rfl, T, tk, .inl ⟨e, q⟩⟩
abbrev sI2 : Stmt := inClass (top 4) 0
theorem scI2 : FnScope ["self", "given"] ["self", "given"] (defScope sI2) := ⟨rfl, rfl, rfl, by decide +kernel, rfl, by decide +kernel, by decide +kernel⟩
theorem okI2 {C f : Addr} {fd : FuncData} (F : Fun K "__init__" "InvalidValue.__init__" sI2 f fd) (T : EcC K C) (tk : PySem.W.takerIn K C "given" = some none) : FnOk P w K mg base CX0 1 f fd ["self", "given"] (spI1 K C "given") := by
  refine F.ok scI2 (fun vs H Q E h => ?_) (fun cdv A outer s H vs Q E hr h => ?_)
  · obtain ⟨a, v, rfl, _⟩ := h
    rfl
  · obtain ⟨a, v, rfl, e, q⟩ := h
    exact ⟨_, pss_one (ps_est (pv 0) (pv 1)), _, rfl, _, rfl, a, C, rfl, T, tk, .inl ⟨e, q⟩⟩
abbrev sI3 : Stmt := inClass (top 5) 0
theorem scI3 : FnScope ["self", "given"] ["self", "given"] (defScope sI3) := ⟨rfl, rfl, rfl, by decide +kernel, rfl, by decide +kernel, by decide +kernel⟩
theorem okI3 {C f : Addr} {fd : FuncData} (F : Fun K "__init__" "InvalidNeed.__init__" sI3 f fd) (T : EcC K C) (tk : PySem.W.takerIn K C "given" = some none) : FnOk P w K mg base CX0 1 f fd ["self", "given"] (spI1 K C "given") := by
  refine F.ok scI3 (fun vs H Q E h => ?_) (fun cdv A outer s H vs Q E hr h => ?_)
  · obtain ⟨a, v, rfl, _⟩ := h
    rfl
  · obtain ⟨a, v, rfl, e, q⟩ := h
    exact ⟨_, pss_one (ps_est (pv 0) (pv 1)), _, rfl, _, rfl, a, C, rfl, T, tk, .inl ⟨e, q⟩⟩
abbrev sI4 : Stmt := inClass (top 6) 0
theorem scI4 : FnScope ["self", "given"] ["self", "given"] (defScope sI4) := ⟨rfl, rfl, rfl, by decide +kernel, rfl, by decide +kernel, by decide +kernel⟩
theorem okI4 {C f : Addr} {fd : FuncData} (F : Fun K "__init__" "InvalidAllowance.__init__" sI4 f fd) (T : EcC K C) (tk : PySem.W.takerIn K C "given" = some none) : FnOk P w K mg base CX0 1 f fd ["self", "given"] (spI1 K C "given") := by
  refine F.ok scI4 (fun vs H Q E h => ?_) (fun cdv A outer s H vs Q E hr h => ?_)
  · obtain ⟨a, v, rfl, _⟩ := h
    rfl
  · obtain ⟨a, v, rfl, e, q⟩ := h
    exact ⟨_, pss_one (ps_est (pv 0) (pv 1)), _, rfl, _, rfl, a, C, rfl, T, tk, .inl ⟨e, q⟩⟩
abbrev sI5 : Stmt := inClass (top 8) 0
theorem scI5 : FnScope ["self", "given"] ["self", "given"] (defScope sI5) := ⟨rfl, rfl, rfl, by decide +kernel, rfl, by decide +kernel, by decide +kernel⟩
theorem okI5 {C f : Addr} {fd : FuncData} (F : Fun K "__init__" "InvalidDeed.__init__" sI5 f fd) (T : EcC K C) (tk : PySem.W.takerIn K C "given" = some none) : FnOk P w K mg base CX0 1 f fd ["self", "given"] (spI1 K C "given") := by
  refine F.ok scI5 (fun vs H Q E h => ?_) (fun cdv A outer s H vs Q E hr h => ?_)
  · obtain ⟨a, v, rfl, _⟩ := h
    rfl
  · obtain ⟨a, v, rfl, e, q⟩ := h
    exact ⟨_, pss_one (ps_est (pv 0) (pv 1)), _, rfl, _, rfl, a, C, rfl, T, tk, .inl ⟨e, q⟩⟩
abbrev sI6 : Stmt := inClass (top 7) 0
theorem scI6 : FnScope ["self", "index"] ["self", "index"] (defScope sI6) := ⟨rfl, rfl, rfl, by decide +kernel, rfl, by decide +kernel, by decide +kernel⟩
theorem okI6 {C f : Addr} {fd : FuncData} (F : Fun K "__init__" "InvalidHistory.__init__" sI6 f fd) (T : EcC K C) (tk : PySem.W.takerIn K C "index" = some none) : FnOk P w K mg base CX0 1 f fd ["self", "index"] (spI1 K C "index") := by
  refine F.ok scI6 (fun vs H Q E h => ?_) (fun cdv A outer s H vs Q E hr h => ?_)
  · obtain ⟨a, v, rfl, _⟩ := h
    rfl
  · obtain ⟨a, v, rfl, e, q⟩ := h
    exact ⟨_, pss_one (ps_est (pv 0) (pv 1)), _, rfl, _, rfl, a, C, rfl, T, tk, .inl ⟨e, q⟩⟩
abbrev sI7 : Stmt := inClass (top 9) 0
theorem scI7 : FnScope ["self", "node"] ["self", "node"] (defScope sI7) := ⟨rfl, rfl, rfl, by decide +kernel, rfl, by decide +kernel, by decide +kernel⟩
theorem okI7 {C f : Addr} {fd : FuncData} (F : Fun K "__init__" "UnknownNode.__init__" sI7 f fd) (T : EcC K C) (tk : PySem.W.takerIn K C "node" = some none) : FnOk P w K mg base CX0 1 f fd ["self", "node"] (spI1 K C "node") := by
  refine F.ok scI7 (fun vs H Q E h => ?_) (fun cdv A outer s H vs Q E hr h => ?_)
  · obtain ⟨a, v, rfl, _⟩ := h
    rfl
  · obtain ⟨a, v, rfl, e, q⟩ := h
    exact ⟨_, pss_one (ps_est (pv 0) (pv 1)), _, rfl, _, rfl, a, C, rfl, T, tk, .inl ⟨e, q⟩⟩
abbrev sI8 : Stmt := inClass (top 10) 0
theorem scI8 : FnScope ["self", "word"] ["self", "word"] (defScope sI8) := ⟨rfl, rfl, rfl, by decide +kernel, rfl, by decide +kernel, by decide +kernel⟩
theorem okI8 {C f : Addr} {fd : FuncData} (F : Fun K "__init__" "UnknownKey.__init__" sI8 f fd) (T : EcC K C) (tk : PySem.W.takerIn K C "word" = some none) : FnOk P w K mg base CX0 1 f fd ["self", "word"] (spI1 K C "word") := by
  refine F.ok scI8 (fun vs H Q E h => ?_) (fun cdv A outer s H vs Q E hr h => ?_)
  · obtain ⟨a, v, rfl, _⟩ := h
    rfl
  · obtain ⟨a, v, rfl, e, q⟩ := h
    exact ⟨_, pss_one (ps_est (pv 0) (pv 1)), _, rfl, _, rfl, a, C, rfl, T, tk, .inl ⟨e, q⟩⟩
abbrev sI9 : Stmt := inClass (top 11) 0
theorem scI9 : FnScope ["self", "question"] ["self", "question"] (defScope sI9) := ⟨rfl, rfl, rfl, by decide +kernel, rfl, by decide +kernel, by decide +kernel⟩
theorem okI9 {C f : Addr} {fd : FuncData} (F : Fun K "__init__" "UnknownQuestion.__init__" sI9 f fd) (T : EcC K C) (tk : PySem.W.takerIn K C "question" = some none) : FnOk P w K mg base CX0 1 f fd ["self", "question"] (spI1 K C "question") := by
  refine F.ok scI9 (fun vs H Q E h => ?_) (fun cdv A outer s H vs Q E hr h => ?_)
  · obtain ⟨a, v, rfl, _⟩ := h
    rfl
  · obtain ⟨a, v, rfl, e, q⟩ := h
    exact ⟨_, pss_one (ps_est (pv 0) (pv 1)), _, rfl, _, rfl, a, C, rfl, T, tk, .inl ⟨e, q⟩⟩
abbrev sI10 : Stmt := inClass (top 12) 0
theorem scI10 : FnScope ["self", "word"] ["self", "word"] (defScope sI10) := ⟨rfl, rfl, rfl, by decide +kernel, rfl, by decide +kernel, by decide +kernel⟩
theorem okI10 {C f : Addr} {fd : FuncData} (F : Fun K "__init__" "NoCopy.__init__" sI10 f fd) (T : EcC K C) (tk : PySem.W.takerIn K C "word" = some none) : FnOk P w K mg base CX0 1 f fd ["self", "word"] (spI1 K C "word") := by
  refine F.ok scI10 (fun vs H Q E h => ?_) (fun cdv A outer s H vs Q E hr h => ?_)
  · obtain ⟨a, v, rfl, _⟩ := h
    rfl
  · obtain ⟨a, v, rfl, e, q⟩ := h
    exact ⟨_, pss_one (ps_est (pv 0) (pv 1)), _, rfl, _, rfl, a, C, rfl, T, tk, .inl ⟨e, q⟩⟩
abbrev sI11 : Stmt := inClass (top 14) 0
theorem scI11 : FnScope ["self", "node"] ["self", "node"] (defScope sI11) := ⟨rfl, rfl, rfl, by decide +kernel, rfl, by decide +kernel, by decide +kernel⟩
theorem okI11 {C f : Addr} {fd : FuncData} (F : Fun K "__init__" "NameTaken.__init__" sI11 f fd) (T : EcC K C) (tk : PySem.W.takerIn K C "node" = some none) : FnOk P w K mg base CX0 1 f fd ["self", "node"] (spI1 K C "node") := by
  refine F.ok scI11 (fun vs H Q E h => ?_) (fun cdv A outer s H vs Q E hr h => ?_)
  · obtain ⟨a, v, rfl, _⟩ := h
    rfl
  · obtain ⟨a, v, rfl, e, q⟩ := h
    exact ⟨_, pss_one (ps_est (pv 0) (pv 1)), _, rfl, _, rfl, a, C, rfl, T, tk, .inl ⟨e, q⟩⟩
abbrev sI12 : Stmt := inClass (top 15) 0
theorem scI12 : FnScope ["self", "node"] ["self", "node"] (defScope sI12) := ⟨rfl, rfl, rfl, by decide +kernel, rfl, by decide +kernel, by decide +kernel⟩
theorem okI12 {C f : Addr} {fd : FuncData} (F : Fun K "__init__" "NotReady.__init__" sI12 f fd) (T : EcC K C) (tk : PySem.W.takerIn K C "node" = some none) : FnOk P w K mg base CX0 1 f fd ["self", "node"] (spI1 K C "node") := by
  refine F.ok scI12 (fun vs H Q E h => ?_) (fun cdv A outer s H vs Q E hr h => ?_)
  · obtain ⟨a, v, rfl, _⟩ := h
    rfl
  · obtain ⟨a, v, rfl, e, q⟩ := h
    exact ⟨_, pss_one (ps_est (pv 0) (pv 1)), _, rfl, _, rfl, a, C, rfl, T, tk, .inl ⟨e, q⟩⟩
abbrev sI13 : Stmt := inClass (top 16) 0
theorem scI13 : FnScope ["self", "node"] ["self", "node"] (defScope sI13) := ⟨rfl, rfl, rfl, by decide +kernel, rfl, by decide +kernel, by decide +kernel⟩
theorem okI13 {C f : Addr} {fd : FuncData} (F : Fun K "__init__" "HasChildren.__init__" sI13 f fd) (T : EcC K C) (tk : PySem.W.takerIn K C "node" = some none) : FnOk P w K mg base CX0 1 f fd ["self", "node"] (spI1 K C "node") := by
  refine F.ok scI13 (fun vs H Q E h => ?_) (fun cdv A outer s H vs Q E hr h => ?_)
  · obtain ⟨a, v, rfl, _⟩ := h
    rfl
  · obtain ⟨a, v, rfl, e, q⟩ := h
    exact ⟨_, pss_one (ps_est (pv 0) (pv 1)), _, rfl, _, rfl, a, C, rfl, T, tk, .inl ⟨e, q⟩⟩
abbrev sI14 : Stmt := inClass (top 17) 0
theorem scI14 : FnScope ["self", "node"] ["self", "node"] (defScope sI14) := ⟨rfl, rfl, rfl, by decide +kernel, rfl, by decide +kernel, by decide +kernel⟩
theorem okI14 {C f : Addr} {fd : FuncData} (F : Fun K "__init__" "NotCrashed.__init__" sI14 f fd) (T : EcC K C) (tk : PySem.W.takerIn K C "node" = some none) : FnOk P w K mg base CX0 1 f fd ["self", "node"] (spI1 K C "node") := by
  refine F.ok scI14 (fun vs H Q E h => ?_) (fun cdv A outer s H vs Q E hr h => ?_)
  · obtain ⟨a, v, rfl, _⟩ := h
    rfl
  · obtain ⟨a, v, rfl, e, q⟩ := h
    exact ⟨_, pss_one (ps_est (pv 0) (pv 1)), _, rfl, _, rfl, a, C, rfl, T, tk, .inl ⟨e, q⟩⟩
abbrev sI15 : Stmt := inClass (top 18) 0
theorem scI15 : FnScope ["self", "node"] ["self", "node"] (defScope sI15) := ⟨rfl, rfl, rfl, by decide +kernel, rfl, by decide +kernel, by decide +kernel⟩
theorem okI15 {C f : Addr} {fd : FuncData} (F : Fun K "__init__" "Busy.__init__" sI15 f fd) (T : EcC K C) (tk : PySem.W.takerIn K C "node" = some none) : FnOk P w K mg base CX0 1 f fd ["self", "node"] (spI1 K C "node") := by
  refine F.ok scI15 (fun vs H Q E h => ?_) (fun cdv A outer s H vs Q E hr h => ?_)
  · obtain ⟨a, v, rfl, _⟩ := h
    rfl
  · obtain ⟨a, v, rfl, e, q⟩ := h
    exact ⟨_, pss_one (ps_est (pv 0) (pv 1)), _, rfl, _, rfl, a, C, rfl, T, tk, .inl ⟨e, q⟩⟩
abbrev sI16 : Stmt := inClass (top 19) 0
theorem scI16 : FnScope ["self", "least"] ["self", "least"] (defScope sI16) := ⟨rfl, rfl, rfl, by decide +kernel, rfl, by decide +kernel, by decide +kernel⟩
theorem okI16 {C f : Addr} {fd : FuncData} (F : Fun K "__init__" "TooLow.__init__" sI16 f fd) (T : EcC K C) (tk : PySem.W.takerIn K C "least" = some none) : FnOk P w K mg base CX0 1 f fd ["self", "least"] (spI1 K C "least") := by
  refine F.ok scI16 (fun vs H Q E h => ?_) (fun cdv A outer s H vs Q E hr h => ?_)
  · obtain ⟨a, v, rfl, _⟩ := h
    rfl
  · obtain ⟨a, v, rfl, e, q⟩ := h
    exact ⟨_, pss_one (ps_est (pv 0) (pv 1)), _, rfl, _, rfl, a, C, rfl, T, tk, .inl ⟨e, q⟩⟩
abbrev sI17 : Stmt := inClass (top 20) 0
theorem scI17 : FnScope ["self", "limit"] ["self", "limit"] (defScope sI17) := ⟨rfl, rfl, rfl, by decide +kernel, rfl, by decide +kernel, by decide +kernel⟩
theorem okI17 {C f : Addr} {fd : FuncData} (F : Fun K "__init__" "LimitExceeded.__init__" sI17 f fd) (T : EcC K C) (tk : PySem.W.takerIn K C "limit" = some none) : FnOk P w K mg base CX0 1 f fd ["self", "limit"] (spI1 K C "limit") := by
  refine F.ok scI17 (fun vs H Q E h => ?_) (fun cdv A outer s H vs Q E hr h => ?_)
  · obtain ⟨a, v, rfl, _⟩ := h
    rfl
  · obtain ⟨a, v, rfl, e, q⟩ := h
    exact ⟨_, pss_one (ps_est (pv 0) (pv 1)), _, rfl, _, rfl, a, C, rfl, T, tk, .inl ⟨e, q⟩⟩
abbrev sI18 : Stmt := inClass (top 13) 0
theorem scI18 : FnScope ["self", "sender", "receiver"] ["self", "sender", "receiver"] (defScope sI18) := ⟨rfl, rfl, rfl, by decide +kernel, rfl, by decide +kernel, by decide +kernel⟩
theorem okI18 {C f : Addr} {fd : FuncData} (F : Fun K "__init__" "NoMessage.__init__" sI18 f fd) (T : EcC K C) (tk : PySem.W.takerIn K C "sender" = some none) (tk2 : PySem.W.takerIn K C "receiver" = some none) : FnOk P w K mg base CX0 1 f fd ["self", "sender", "receiver"] (spI2 K C "sender" "receiver") := by
  refine F.ok scI18 (fun vs H Q E h => ?_) (fun cdv A outer s H vs Q E hr h => ?_)
  · obtain ⟨a, v, u, rfl, _⟩ := h
    rfl
  · obtain ⟨a, v, u, rfl, e, q⟩ := h
    refine ⟨_, pss_cons (ps_est (pv 0) (pv 1)) (pss_one (ps_est (pv 0) (pv 2))), _, rfl, _, rfl, a, C, rfl, T, tk, .inl ⟨e, fun dx n1 n2 => ?_⟩⟩
    exact ⟨_, rfl, _, rfl, a, C, rfl, T, tk2, .inr ⟨dx, _, upd_same, by rw [upd_ne n2, upd_same], by show 1 ≤ 900; decide, q dx n1 n2⟩⟩
end
/-- what stands at the classes' names -/
structure Xs (P : Program) (w : World) (K : PySem.W.Frag) (mg : Str → Option Value) (base : Heap) (c0 c1 c2 c3 c4 c5 c6 c7 c8 c9 c10 c11 c12 c13 c14 c15 c16 c17 c18 : Addr) : Prop where
  x0 : XcAt P w K mg base "InvalidKeys" ["self", "given"] c0 (spI1 K c0 "given")
  x1 : XcAt P w K mg base "InvalidName" ["self", "given"] c1 (spI1 K c1 "given")
  x2 : XcAt P w K mg base "InvalidValue" ["self", "given"] c2 (spI1 K c2 "given")
  x3 : XcAt P w K mg base "InvalidNeed" ["self", "given"] c3 (spI1 K c3 "given")
  x4 : XcAt P w K mg base "InvalidAllowance" ["self", "given"] c4 (spI1 K c4 "given")
  x5 : XcAt P w K mg base "InvalidDeed" ["self", "given"] c5 (spI1 K c5 "given")
  x6 : XcAt P w K mg base "InvalidHistory" ["self", "index"] c6 (spI1 K c6 "index")
  x7 : XcAt P w K mg base "UnknownNode" ["self", "node"] c7 (spI1 K c7 "node")
  x8 : XcAt P w K mg base "UnknownKey" ["self", "word"] c8 (spI1 K c8 "word")
  x9 : XcAt P w K mg base "UnknownQuestion" ["self", "question"] c9 (spI1 K c9 "question")
  x10 : XcAt P w K mg base "NoCopy" ["self", "word"] c10 (spI1 K c10 "word")
  x11 : XcAt P w K mg base "NameTaken" ["self", "node"] c11 (spI1 K c11 "node")
  x12 : XcAt P w K mg base "NotReady" ["self", "node"] c12 (spI1 K c12 "node")
  x13 : XcAt P w K mg base "HasChildren" ["self", "node"] c13 (spI1 K c13 "node")
  x14 : XcAt P w K mg base "NotCrashed" ["self", "node"] c14 (spI1 K c14 "node")
  x15 : XcAt P w K mg base "Busy" ["self", "node"] c15 (spI1 K c15 "node")
  x16 : XcAt P w K mg base "TooLow" ["self", "least"] c16 (spI1 K c16 "least")
  x17 : XcAt P w K mg base "LimitExceeded" ["self", "limit"] c17 (spI1 K c17 "limit")
  x18 : XcAt P w K mg base "NoMessage" ["self", "sender", "receiver"] c18 (spI2 K c18 "sender" "receiver")
def tab (c0 c1 c2 c3 c4 c5 c6 c7 c8 c9 c10 c11 c12 c13 c14 c15 c16 c17 c18 : Addr) (v : V) : List (Addr × List (Str × V)) := [(c0, [("given", v)]), (c1, [("given", v)]), (c2, [("given", v)]), (c3, [("given", v)]), (c4, [("given", v)]), (c5, [("given", v)]), (c6, [("index", v)]), (c7, [("node", v)]), (c8, [("word", v)]), (c9, [("question", v)]), (c10, [("word", v)]), (c11, [("node", v)]), (c12, [("node", v)]), (c13, [("node", v)]), (c14, [("node", v)]), (c15, [("node", v)]), (c16, [("least", v)]), (c17, [("limit", v)]), (c18, [("receiver", V.int 5), ("sender", v)])]
abbrev sAll : Stmt := top 24
theorem scA : FnScope ["_law_item", "_law_result"] ["_law_item"] (defScope sAll) := ⟨rfl, rfl, rfl, by decide +kernel, rfl, by decide +kernel, by decide +kernel⟩
def spAll (cs : V → List (Addr × List (Str × V))) : Sp := fun vs H Q _ => ∃ v : V, vs = [v] ∧ ∀ (p : Addr) (as : List (Addr × Addr)) (H' : Hp), Same H H' → AllX H' (cs v) as → H' p = some (.lst (as.map fun x => V.ref x.1)) → Q (.ref p) H'
section
variable {P : Program} {w : World} {K : PySem.W.Frag} {mg : Str → Option Value} {base : Heap}
theorem ok_all {f : Addr} {fd : FuncData} {c0 c1 c2 c3 c4 c5 c6 c7 c8 c9 c10 c11 c12 c13 c14 c15 c16 c17 c18 : Addr} (F : Fun K "_law_all" "_law_all" sAll f fd) (X : Xs P w K mg base c0 c1 c2 c3 c4 c5 c6 c7 c8 c9 c10 c11 c12 c13 c14 c15 c16 c17 c18) : FnOk P w K mg base CX0 3 f fd ["_law_item"] (spAll (tab c0 c1 c2 c3 c4 c5 c6 c7 c8 c9 c10 c11 c12 c13 c14 c15 c16 c17 c18)) := by
  refine F.ok scA (fun vs H Q E h => ?_) (fun cdv A outer s H vs Q E hr h => ?_)
  · obtain ⟨v, rfl, _⟩ := h
    rfl
  · obtain ⟨v, rfl, k⟩ := h
    have hr2 : Room 2 _ := hr
    refine ⟨_, (pss_cons (ps_set (i := 1) scA.nd rfl (Or.inl rfl) (pe_lst (pa_cons (pe_mkD X.x0 hr2 (pa_cons (pv 0) pa_nil)) (pa_cons (pe_mkD X.x1 hr2 (pa_cons (pv 0) pa_nil)) (pa_cons (pe_mkD X.x2 hr2 (pa_cons (pv 0) pa_nil)) (pa_cons (pe_mkD X.x3 hr2 (pa_cons (pv 0) pa_nil)) (pa_cons (pe_mkD X.x4 hr2 (pa_cons (pv 0) pa_nil)) pa_nil)))))))
        (pss_cons (ps_set (i := 1) scA.nd rfl (Or.inl rfl) (pe_op op_cat (pv 1) (pe_lst (pa_cons (pe_mkD X.x5 hr2 (pa_cons (pv 0) pa_nil)) (pa_cons (pe_mkD X.x6 hr2 (pa_cons (pv 0) pa_nil)) (pa_cons (pe_mkD X.x7 hr2 (pa_cons (pv 0) pa_nil)) (pa_cons (pe_mkD X.x8 hr2 (pa_cons (pv 0) pa_nil)) pa_nil)))))))
        (pss_cons (ps_set (i := 1) scA.nd rfl (Or.inl rfl) (pe_op op_cat (pv 1) (pe_lst (pa_cons (pe_mkD X.x9 hr2 (pa_cons (pv 0) pa_nil)) (pa_cons (pe_mkD X.x10 hr2 (pa_cons (pv 0) pa_nil)) (pa_cons (pe_mkD X.x11 hr2 (pa_cons (pv 0) pa_nil)) (pa_cons (pe_mkD X.x12 hr2 (pa_cons (pv 0) pa_nil)) (pa_cons (pe_mkD X.x13 hr2 (pa_cons (pv 0) pa_nil)) pa_nil))))))))
        (pss_one (ps_ret (pe_op op_cat (pv 1) (pe_lst (pa_cons (pe_mkD X.x14 hr2 (pa_cons (pv 0) pa_nil)) (pa_cons (pe_mkD X.x15 hr2 (pa_cons (pv 0) pa_nil)) (pa_cons (pe_mkD X.x16 hr2 (pa_cons (pv 0) pa_nil)) (pa_cons (pe_mkD X.x17 hr2 (pa_cons (pv 0) pa_nil)) (pa_cons (pe_mkD X.x18 hr2 (pa_cons (pv 0) (pa_cons pe_int pa_nil))) pa_nil)))))))))))), ?_⟩
    have E : AllX H [] [] := .nil
    refine rd_seq (rd_asg (rd_disp (rd_cons (rd_mk1 (v := v) rfl fun a0 d0 H0 s e1 e2 => ?_))))
    replace E := (E.mono s).snoc (c := (c0, [("given", v)])) e1 e2
    have S0 := s
    clear s e1 e2
    refine (rd_cons (rd_mk1 (v := v) rfl fun a1 d1 H1 s e1 e2 => ?_))
    replace E := (E.mono s).snoc (c := (c1, [("given", v)])) e1 e2
    have S1 := Same.trans S0 s
    clear s e1 e2
    refine (rd_cons (rd_mk1 (v := v) rfl fun a2 d2 H2 s e1 e2 => ?_))
    replace E := (E.mono s).snoc (c := (c2, [("given", v)])) e1 e2
    have S2 := Same.trans S1 s
    clear s e1 e2
    refine (rd_cons (rd_mk1 (v := v) rfl fun a3 d3 H3 s e1 e2 => ?_))
    replace E := (E.mono s).snoc (c := (c3, [("given", v)])) e1 e2
    have S3 := Same.trans S2 s
    clear s e1 e2
    refine (rd_cons (rd_mk1 (v := v) rfl fun a4 d4 H4 s e1 e2 => ?_))
    replace E := (E.mono s).snoc (c := (c4, [("given", v)])) e1 e2
    have S4 := Same.trans S3 s
    clear s e1 e2
    refine ⟨by show 5 ≤ sizeLine; decide, fun q0 hq => ?_⟩
    have s := Same.upd (o := HO.lst [V.ref a0, V.ref a1, V.ref a2, V.ref a3, V.ref a4]) hq
    have lq : upd H4 q0 (HO.lst [V.ref a0, V.ref a1, V.ref a2, V.ref a3, V.ref a4]) q0 = some (HO.lst [V.ref a0, V.ref a1, V.ref a2, V.ref a3, V.ref a4]) := upd_same
    generalize upd H4 q0 (HO.lst [V.ref a0, V.ref a1, V.ref a2, V.ref a3, V.ref a4]) = G0 at s lq ⊢
    replace E := E.mono s
    replace S4 := Same.trans S4 s
    have lp := lq
    clear s lq
    refine ⟨_, rfl, ?_⟩
    refine rd_disp (rd_cons (rd_mk1 (v := v) rfl fun a5 d5 H5 s e1 e2 => ?_))
    replace E := (E.mono s).snoc (c := (c5, [("given", v)])) e1 e2
    replace lp := s _ _ lp
    have S5 := Same.trans S4 s
    clear s e1 e2
    refine (rd_cons (rd_mk1 (v := v) rfl fun a6 d6 H6 s e1 e2 => ?_))
    replace E := (E.mono s).snoc (c := (c6, [("index", v)])) e1 e2
    replace lp := s _ _ lp
    have S6 := Same.trans S5 s
    clear s e1 e2
    refine (rd_cons (rd_mk1 (v := v) rfl fun a7 d7 H7 s e1 e2 => ?_))
    replace E := (E.mono s).snoc (c := (c7, [("node", v)])) e1 e2
    replace lp := s _ _ lp
    have S7 := Same.trans S6 s
    clear s e1 e2
    refine (rd_cons (rd_mk1 (v := v) rfl fun a8 d8 H8 s e1 e2 => ?_))
    replace E := (E.mono s).snoc (c := (c8, [("word", v)])) e1 e2
    replace lp := s _ _ lp
    have S8 := Same.trans S7 s
    clear s e1 e2
    refine ⟨by show 4 ≤ sizeLine; decide, fun q1 hq => ?_⟩
    have s := Same.upd (o := HO.lst [V.ref a5, V.ref a6, V.ref a7, V.ref a8]) hq
    have lq : upd H8 q1 (HO.lst [V.ref a5, V.ref a6, V.ref a7, V.ref a8]) q1 = some (HO.lst [V.ref a5, V.ref a6, V.ref a7, V.ref a8]) := upd_same
    generalize upd H8 q1 (HO.lst [V.ref a5, V.ref a6, V.ref a7, V.ref a8]) = G1 at s lq ⊢
    replace E := E.mono s
    replace S8 := Same.trans S8 s
    replace lp := s _ _ lp
    clear s
    refine ⟨_, _, _, _, rfl, rfl, lp, lq, by show 5 + 4 ≤ sizeLine; decide, fun r1 hq => ?_⟩
    have s := Same.upd (o := HO.lst ([V.ref a0, V.ref a1, V.ref a2, V.ref a3, V.ref a4] ++ [V.ref a5, V.ref a6, V.ref a7, V.ref a8])) hq
    have lr : upd G1 r1 (HO.lst ([V.ref a0, V.ref a1, V.ref a2, V.ref a3, V.ref a4] ++ [V.ref a5, V.ref a6, V.ref a7, V.ref a8])) r1 = some (HO.lst ([V.ref a0, V.ref a1, V.ref a2, V.ref a3, V.ref a4] ++ [V.ref a5, V.ref a6, V.ref a7, V.ref a8])) := upd_same
    generalize upd G1 r1 (HO.lst ([V.ref a0, V.ref a1, V.ref a2, V.ref a3, V.ref a4] ++ [V.ref a5, V.ref a6, V.ref a7, V.ref a8])) = R1 at s lr ⊢
    replace E := E.mono s
    replace S8 := Same.trans S8 s
    clear s lp lq
    have lp := lr
    clear lr
    refine ⟨_, rfl, ?_⟩
    refine rd_disp (rd_cons (rd_mk1 (v := v) rfl fun a9 d9 H9 s e1 e2 => ?_))
    replace E := (E.mono s).snoc (c := (c9, [("question", v)])) e1 e2
    replace lp := s _ _ lp
    have S9 := Same.trans S8 s
    clear s e1 e2
    refine (rd_cons (rd_mk1 (v := v) rfl fun a10 d10 H10 s e1 e2 => ?_))
    replace E := (E.mono s).snoc (c := (c10, [("word", v)])) e1 e2
    replace lp := s _ _ lp
    have S10 := Same.trans S9 s
    clear s e1 e2
    refine (rd_cons (rd_mk1 (v := v) rfl fun a11 d11 H11 s e1 e2 => ?_))
    replace E := (E.mono s).snoc (c := (c11, [("node", v)])) e1 e2
    replace lp := s _ _ lp
    have S11 := Same.trans S10 s
    clear s e1 e2
    refine (rd_cons (rd_mk1 (v := v) rfl fun a12 d12 H12 s e1 e2 => ?_))
    replace E := (E.mono s).snoc (c := (c12, [("node", v)])) e1 e2
    replace lp := s _ _ lp
    have S12 := Same.trans S11 s
    clear s e1 e2
    refine (rd_cons (rd_mk1 (v := v) rfl fun a13 d13 H13 s e1 e2 => ?_))
    replace E := (E.mono s).snoc (c := (c13, [("node", v)])) e1 e2
    replace lp := s _ _ lp
    have S13 := Same.trans S12 s
    clear s e1 e2
    refine ⟨by show 5 ≤ sizeLine; decide, fun q2 hq => ?_⟩
    have s := Same.upd (o := HO.lst [V.ref a9, V.ref a10, V.ref a11, V.ref a12, V.ref a13]) hq
    have lq : upd H13 q2 (HO.lst [V.ref a9, V.ref a10, V.ref a11, V.ref a12, V.ref a13]) q2 = some (HO.lst [V.ref a9, V.ref a10, V.ref a11, V.ref a12, V.ref a13]) := upd_same
    generalize upd H13 q2 (HO.lst [V.ref a9, V.ref a10, V.ref a11, V.ref a12, V.ref a13]) = G2 at s lq ⊢
    replace E := E.mono s
    replace S13 := Same.trans S13 s
    replace lp := s _ _ lp
    clear s
    refine ⟨_, _, _, _, rfl, rfl, lp, lq, by show 9 + 5 ≤ sizeLine; decide, fun r2 hq => ?_⟩
    have s := Same.upd (o := HO.lst (([V.ref a0, V.ref a1, V.ref a2, V.ref a3, V.ref a4] ++ [V.ref a5, V.ref a6, V.ref a7, V.ref a8]) ++ [V.ref a9, V.ref a10, V.ref a11, V.ref a12, V.ref a13])) hq
    have lr : upd G2 r2 (HO.lst (([V.ref a0, V.ref a1, V.ref a2, V.ref a3, V.ref a4] ++ [V.ref a5, V.ref a6, V.ref a7, V.ref a8]) ++ [V.ref a9, V.ref a10, V.ref a11, V.ref a12, V.ref a13])) r2 = some (HO.lst (([V.ref a0, V.ref a1, V.ref a2, V.ref a3, V.ref a4] ++ [V.ref a5, V.ref a6, V.ref a7, V.ref a8]) ++ [V.ref a9, V.ref a10, V.ref a11, V.ref a12, V.ref a13])) := upd_same
    generalize upd G2 r2 (HO.lst (([V.ref a0, V.ref a1, V.ref a2, V.ref a3, V.ref a4] ++ [V.ref a5, V.ref a6, V.ref a7, V.ref a8]) ++ [V.ref a9, V.ref a10, V.ref a11, V.ref a12, V.ref a13])) = R2 at s lr ⊢
    replace E := E.mono s
    replace S13 := Same.trans S13 s
    clear s lp lq
    have lp := lr
    clear lr
    refine ⟨_, rfl, ?_⟩
    refine rd_disp (rd_cons (rd_mk1 (v := v) rfl fun a14 d14 H14 s e1 e2 => ?_))
    replace E := (E.mono s).snoc (c := (c14, [("node", v)])) e1 e2
    replace lp := s _ _ lp
    have S14 := Same.trans S13 s
    clear s e1 e2
    refine (rd_cons (rd_mk1 (v := v) rfl fun a15 d15 H15 s e1 e2 => ?_))
    replace E := (E.mono s).snoc (c := (c15, [("node", v)])) e1 e2
    replace lp := s _ _ lp
    have S15 := Same.trans S14 s
    clear s e1 e2
    refine (rd_cons (rd_mk1 (v := v) rfl fun a16 d16 H16 s e1 e2 => ?_))
    replace E := (E.mono s).snoc (c := (c16, [("least", v)])) e1 e2
    replace lp := s _ _ lp
    have S16 := Same.trans S15 s
    clear s e1 e2
    refine (rd_cons (rd_mk1 (v := v) rfl fun a17 d17 H17 s e1 e2 => ?_))
    replace E := (E.mono s).snoc (c := (c17, [("limit", v)])) e1 e2
    replace lp := s _ _ lp
    have S17 := Same.trans S16 s
    clear s e1 e2
    refine (rd_cons (rd_mk2 (v := v) rfl fun a18 d18 H18 s e1 e2 => ?_))
    replace E := (E.mono s).snoc (c := (c18, [("receiver", V.int 5), ("sender", v)])) e1 e2
    replace lp := s _ _ lp
    have S18 := Same.trans S17 s
    clear s e1 e2
    refine ⟨by show 5 ≤ sizeLine; decide, fun q3 hq => ?_⟩
    have s := Same.upd (o := HO.lst [V.ref a14, V.ref a15, V.ref a16, V.ref a17, V.ref a18]) hq
    have lq : upd H18 q3 (HO.lst [V.ref a14, V.ref a15, V.ref a16, V.ref a17, V.ref a18]) q3 = some (HO.lst [V.ref a14, V.ref a15, V.ref a16, V.ref a17, V.ref a18]) := upd_same
    generalize upd H18 q3 (HO.lst [V.ref a14, V.ref a15, V.ref a16, V.ref a17, V.ref a18]) = G3 at s lq ⊢
    replace E := E.mono s
    replace S18 := Same.trans S18 s
    replace lp := s _ _ lp
    clear s
    refine ⟨_, _, _, _, rfl, rfl, lp, lq, by show 14 + 5 ≤ sizeLine; decide, fun r3 hq => ?_⟩
    have s := Same.upd (o := HO.lst ((([V.ref a0, V.ref a1, V.ref a2, V.ref a3, V.ref a4] ++ [V.ref a5, V.ref a6, V.ref a7, V.ref a8]) ++ [V.ref a9, V.ref a10, V.ref a11, V.ref a12, V.ref a13]) ++ [V.ref a14, V.ref a15, V.ref a16, V.ref a17, V.ref a18])) hq
    have lr : upd G3 r3 (HO.lst ((([V.ref a0, V.ref a1, V.ref a2, V.ref a3, V.ref a4] ++ [V.ref a5, V.ref a6, V.ref a7, V.ref a8]) ++ [V.ref a9, V.ref a10, V.ref a11, V.ref a12, V.ref a13]) ++ [V.ref a14, V.ref a15, V.ref a16, V.ref a17, V.ref a18])) r3 = some (HO.lst ((([V.ref a0, V.ref a1, V.ref a2, V.ref a3, V.ref a4] ++ [V.ref a5, V.ref a6, V.ref a7, V.ref a8]) ++ [V.ref a9, V.ref a10, V.ref a11, V.ref a12, V.ref a13]) ++ [V.ref a14, V.ref a15, V.ref a16, V.ref a17, V.ref a18])) := upd_same
    generalize upd G3 r3 (HO.lst ((([V.ref a0, V.ref a1, V.ref a2, V.ref a3, V.ref a4] ++ [V.ref a5, V.ref a6, V.ref a7, V.ref a8]) ++ [V.ref a9, V.ref a10, V.ref a11, V.ref a12, V.ref a13]) ++ [V.ref a14, V.ref a15, V.ref a16, V.ref a17, V.ref a18])) = R3 at s lr ⊢
    replace E := E.mono s
    replace S18 := Same.trans S18 s
    clear s lp lq
    have lp := lr
    clear lr
    exact k _ _ _ S18 E lp
end
abbrev sKinds : Stmt := top 25
theorem scK : FnScope ["_law_error", "_law_result"] ["_law_error"] (defScope sKinds) := ⟨rfl, rfl, rfl, by decide +kernel, rfl, by decide +kernel, by decide +kernel⟩
def spKinds (K : PySem.W.Frag) (cs : List Addr) : Sp := fun vs H Q _ => ∃ (a C d : Addr) (fs : List (Str × V)) (bs : List Bool), vs = [.ref a] ∧ EcC K C ∧ H a = some (exo a C (some d)) ∧ H d = some (exd d fs) ∧
  Paired (fun (c : Addr) (b : Bool) => PySem.W.kitOne K (.ref C) (.ref c) = some b) cs bs ∧ ∀ (p : Addr) (H' : Hp), Same H H' → H' p = some (.lst (bs.map V.bl)) → Q (.ref p) H'
section
variable {P : Program} {w : World} {K : PySem.W.Frag} {mg : Str → Option Value} {base : Heap}
theorem ok_kinds {f : Addr} {fd : FuncData} {c0 c1 c2 c3 c4 c5 c6 c7 c8 c9 c10 c11 c12 c13 c14 c15 c16 c17 c18 : Addr} (F : Fun K "_law_kinds" "_law_kinds" sKinds f fd) (X : Xs P w K mg base c0 c1 c2 c3 c4 c5 c6 c7 c8 c9 c10 c11 c12 c13 c14 c15 c16 c17 c18) (mI : mg "isinstance" = none) : FnOk P w K mg base CX0 1 f fd ["_law_error"] (spKinds K [c0, c1, c2, c3, c4, c5, c6, c7, c8, c9, c10, c11, c12, c13, c14, c15, c16, c17, c18]) := by
  refine F.ok scK (fun vs H Q E h => ?_) (fun cdv A outer s H vs Q E hr h => ?_)
  · obtain ⟨a, C, d, fs, bs, rfl, _⟩ := h
    rfl
  · obtain ⟨a, C, d, fs, bs, rfl, T, ea, ed, pr, k⟩ := h
    obtain ⟨b0, r0, rfl, k0, pr⟩ : ∃ b r, bs = b :: r ∧ PySem.W.kitOne K (.ref C) (.ref c0) = some b ∧ Paired _ _ r := by cases pr with | cons h t => exact ⟨_, _, rfl, h, t⟩
    obtain ⟨b1, r1, rfl, k1, pr⟩ : ∃ b r, r0 = b :: r ∧ PySem.W.kitOne K (.ref C) (.ref c1) = some b ∧ Paired _ _ r := by cases pr with | cons h t => exact ⟨_, _, rfl, h, t⟩
    obtain ⟨b2, r2, rfl, k2, pr⟩ : ∃ b r, r1 = b :: r ∧ PySem.W.kitOne K (.ref C) (.ref c2) = some b ∧ Paired _ _ r := by cases pr with | cons h t => exact ⟨_, _, rfl, h, t⟩
    obtain ⟨b3, r3, rfl, k3, pr⟩ : ∃ b r, r2 = b :: r ∧ PySem.W.kitOne K (.ref C) (.ref c3) = some b ∧ Paired _ _ r := by cases pr with | cons h t => exact ⟨_, _, rfl, h, t⟩
    obtain ⟨b4, r4, rfl, k4, pr⟩ : ∃ b r, r3 = b :: r ∧ PySem.W.kitOne K (.ref C) (.ref c4) = some b ∧ Paired _ _ r := by cases pr with | cons h t => exact ⟨_, _, rfl, h, t⟩
    obtain ⟨b5, r5, rfl, k5, pr⟩ : ∃ b r, r4 = b :: r ∧ PySem.W.kitOne K (.ref C) (.ref c5) = some b ∧ Paired _ _ r := by cases pr with | cons h t => exact ⟨_, _, rfl, h, t⟩
    obtain ⟨b6, r6, rfl, k6, pr⟩ : ∃ b r, r5 = b :: r ∧ PySem.W.kitOne K (.ref C) (.ref c6) = some b ∧ Paired _ _ r := by cases pr with | cons h t => exact ⟨_, _, rfl, h, t⟩
    obtain ⟨b7, r7, rfl, k7, pr⟩ : ∃ b r, r6 = b :: r ∧ PySem.W.kitOne K (.ref C) (.ref c7) = some b ∧ Paired _ _ r := by cases pr with | cons h t => exact ⟨_, _, rfl, h, t⟩
    obtain ⟨b8, r8, rfl, k8, pr⟩ : ∃ b r, r7 = b :: r ∧ PySem.W.kitOne K (.ref C) (.ref c8) = some b ∧ Paired _ _ r := by cases pr with | cons h t => exact ⟨_, _, rfl, h, t⟩
    obtain ⟨b9, r9, rfl, k9, pr⟩ : ∃ b r, r8 = b :: r ∧ PySem.W.kitOne K (.ref C) (.ref c9) = some b ∧ Paired _ _ r := by cases pr with | cons h t => exact ⟨_, _, rfl, h, t⟩
    obtain ⟨b10, r10, rfl, k10, pr⟩ : ∃ b r, r9 = b :: r ∧ PySem.W.kitOne K (.ref C) (.ref c10) = some b ∧ Paired _ _ r := by cases pr with | cons h t => exact ⟨_, _, rfl, h, t⟩
    obtain ⟨b11, r11, rfl, k11, pr⟩ : ∃ b r, r10 = b :: r ∧ PySem.W.kitOne K (.ref C) (.ref c11) = some b ∧ Paired _ _ r := by cases pr with | cons h t => exact ⟨_, _, rfl, h, t⟩
    obtain ⟨b12, r12, rfl, k12, pr⟩ : ∃ b r, r11 = b :: r ∧ PySem.W.kitOne K (.ref C) (.ref c12) = some b ∧ Paired _ _ r := by cases pr with | cons h t => exact ⟨_, _, rfl, h, t⟩
    obtain ⟨b13, r13, rfl, k13, pr⟩ : ∃ b r, r12 = b :: r ∧ PySem.W.kitOne K (.ref C) (.ref c13) = some b ∧ Paired _ _ r := by cases pr with | cons h t => exact ⟨_, _, rfl, h, t⟩
    obtain ⟨b14, r14, rfl, k14, pr⟩ : ∃ b r, r13 = b :: r ∧ PySem.W.kitOne K (.ref C) (.ref c14) = some b ∧ Paired _ _ r := by cases pr with | cons h t => exact ⟨_, _, rfl, h, t⟩
    obtain ⟨b15, r15, rfl, k15, pr⟩ : ∃ b r, r14 = b :: r ∧ PySem.W.kitOne K (.ref C) (.ref c15) = some b ∧ Paired _ _ r := by cases pr with | cons h t => exact ⟨_, _, rfl, h, t⟩
    obtain ⟨b16, r16, rfl, k16, pr⟩ : ∃ b r, r15 = b :: r ∧ PySem.W.kitOne K (.ref C) (.ref c16) = some b ∧ Paired _ _ r := by cases pr with | cons h t => exact ⟨_, _, rfl, h, t⟩
    obtain ⟨b17, r17, rfl, k17, pr⟩ : ∃ b r, r16 = b :: r ∧ PySem.W.kitOne K (.ref C) (.ref c17) = some b ∧ Paired _ _ r := by cases pr with | cons h t => exact ⟨_, _, rfl, h, t⟩
    obtain ⟨b18, r18, rfl, k18, pr⟩ : ∃ b r, r17 = b :: r ∧ PySem.W.kitOne K (.ref C) (.ref c18) = some b ∧ Paired _ _ r := by cases pr with | cons h t => exact ⟨_, _, rfl, h, t⟩
    cases pr
    refine ⟨_, (pss_cons (ps_set (i := 1) scK.nd rfl (Or.inl rfl) (pe_lst (pa_cons (pe_callB call_isiE (by rfl) mI PyProof.Rows.boot_isinstance (pa_cons (pv 0) (pa_cons (pe_cls X.x0) pa_nil))) (pa_cons (pe_callB call_isiE (by rfl) mI PyProof.Rows.boot_isinstance (pa_cons (pv 0) (pa_cons (pe_cls X.x1) pa_nil))) (pa_cons (pe_callB call_isiE (by rfl) mI PyProof.Rows.boot_isinstance (pa_cons (pv 0) (pa_cons (pe_cls X.x2) pa_nil))) pa_nil)))))
        (pss_cons (ps_set (i := 1) scK.nd rfl (Or.inl rfl) (pe_op op_cat (pv 1) (pe_lst (pa_cons (pe_callB call_isiE (by rfl) mI PyProof.Rows.boot_isinstance (pa_cons (pv 0) (pa_cons (pe_cls X.x3) pa_nil))) (pa_cons (pe_callB call_isiE (by rfl) mI PyProof.Rows.boot_isinstance (pa_cons (pv 0) (pa_cons (pe_cls X.x4) pa_nil))) pa_nil)))))
        (pss_cons (ps_set (i := 1) scK.nd rfl (Or.inl rfl) (pe_op op_cat (pv 1) (pe_lst (pa_cons (pe_callB call_isiE (by rfl) mI PyProof.Rows.boot_isinstance (pa_cons (pv 0) (pa_cons (pe_cls X.x5) pa_nil))) (pa_cons (pe_callB call_isiE (by rfl) mI PyProof.Rows.boot_isinstance (pa_cons (pv 0) (pa_cons (pe_cls X.x6) pa_nil))) pa_nil)))))
        (pss_cons (ps_set (i := 1) scK.nd rfl (Or.inl rfl) (pe_op op_cat (pv 1) (pe_lst (pa_cons (pe_callB call_isiE (by rfl) mI PyProof.Rows.boot_isinstance (pa_cons (pv 0) (pa_cons (pe_cls X.x7) pa_nil))) (pa_cons (pe_callB call_isiE (by rfl) mI PyProof.Rows.boot_isinstance (pa_cons (pv 0) (pa_cons (pe_cls X.x8) pa_nil))) pa_nil)))))
        (pss_cons (ps_set (i := 1) scK.nd rfl (Or.inl rfl) (pe_op op_cat (pv 1) (pe_lst (pa_cons (pe_callB call_isiE (by rfl) mI PyProof.Rows.boot_isinstance (pa_cons (pv 0) (pa_cons (pe_cls X.x9) pa_nil))) (pa_cons (pe_callB call_isiE (by rfl) mI PyProof.Rows.boot_isinstance (pa_cons (pv 0) (pa_cons (pe_cls X.x10) pa_nil))) (pa_cons (pe_callB call_isiE (by rfl) mI PyProof.Rows.boot_isinstance (pa_cons (pv 0) (pa_cons (pe_cls X.x11) pa_nil))) pa_nil))))))
        (pss_cons (ps_set (i := 1) scK.nd rfl (Or.inl rfl) (pe_op op_cat (pv 1) (pe_lst (pa_cons (pe_callB call_isiE (by rfl) mI PyProof.Rows.boot_isinstance (pa_cons (pv 0) (pa_cons (pe_cls X.x12) pa_nil))) (pa_cons (pe_callB call_isiE (by rfl) mI PyProof.Rows.boot_isinstance (pa_cons (pv 0) (pa_cons (pe_cls X.x13) pa_nil))) (pa_cons (pe_callB call_isiE (by rfl) mI PyProof.Rows.boot_isinstance (pa_cons (pv 0) (pa_cons (pe_cls X.x14) pa_nil))) pa_nil))))))
        (pss_cons (ps_set (i := 1) scK.nd rfl (Or.inl rfl) (pe_op op_cat (pv 1) (pe_lst (pa_cons (pe_callB call_isiE (by rfl) mI PyProof.Rows.boot_isinstance (pa_cons (pv 0) (pa_cons (pe_cls X.x15) pa_nil))) (pa_cons (pe_callB call_isiE (by rfl) mI PyProof.Rows.boot_isinstance (pa_cons (pv 0) (pa_cons (pe_cls X.x16) pa_nil))) (pa_cons (pe_callB call_isiE (by rfl) mI PyProof.Rows.boot_isinstance (pa_cons (pv 0) (pa_cons (pe_cls X.x17) pa_nil))) pa_nil))))))
        (pss_one (ps_ret (pe_op op_cat (pv 1) (pe_lst (pa_cons (pe_callB call_isiE (by rfl) mI PyProof.Rows.boot_isinstance (pa_cons (pv 0) (pa_cons (pe_cls X.x18) pa_nil))) pa_nil)))))))))))), ?_⟩
    have S : Same H H := Same.refl H
    refine ⟨_, rfl, a, C, d, fs, _, _, _, rfl, ea, ed, T, .own _, k0, ?_⟩
    refine ⟨_, rfl, a, C, d, fs, _, _, _, rfl, ea, ed, T, .own _, k1, ?_⟩
    refine ⟨_, rfl, a, C, d, fs, _, _, _, rfl, ea, ed, T, .own _, k2, ?_⟩
    refine ⟨by show 3 ≤ sizeLine; decide, fun q0 hq => ?_⟩
    have s := Same.upd (o := HO.lst [V.bl b0, V.bl b1, V.bl b2]) hq
    have lq : upd H q0 (HO.lst [V.bl b0, V.bl b1, V.bl b2]) q0 = some (HO.lst [V.bl b0, V.bl b1, V.bl b2]) := upd_same
    generalize upd H q0 (HO.lst [V.bl b0, V.bl b1, V.bl b2]) = G0 at s lq ⊢
    replace S := Same.trans S s; replace ea := s _ _ ea; replace ed := s _ _ ed
    have lp := lq
    clear s lq
    refine ⟨_, rfl, ?_⟩
    refine ⟨_, rfl, a, C, d, fs, _, _, _, rfl, ea, ed, T, .own _, k3, ?_⟩
    refine ⟨_, rfl, a, C, d, fs, _, _, _, rfl, ea, ed, T, .own _, k4, ?_⟩
    refine ⟨by show 2 ≤ sizeLine; decide, fun q1 hq => ?_⟩
    have s := Same.upd (o := HO.lst [V.bl b3, V.bl b4]) hq
    have lq : upd G0 q1 (HO.lst [V.bl b3, V.bl b4]) q1 = some (HO.lst [V.bl b3, V.bl b4]) := upd_same
    generalize upd G0 q1 (HO.lst [V.bl b3, V.bl b4]) = G1 at s lq ⊢
    replace S := Same.trans S s; replace ea := s _ _ ea; replace ed := s _ _ ed
    replace lp := s _ _ lp
    clear s
    refine ⟨_, _, _, _, rfl, rfl, lp, lq, by show 3 + 2 ≤ sizeLine; decide, fun rr1 hq => ?_⟩
    have s := Same.upd (o := HO.lst ([V.bl b0, V.bl b1, V.bl b2] ++ [V.bl b3, V.bl b4])) hq
    have lr : upd G1 rr1 (HO.lst ([V.bl b0, V.bl b1, V.bl b2] ++ [V.bl b3, V.bl b4])) rr1 = some (HO.lst ([V.bl b0, V.bl b1, V.bl b2] ++ [V.bl b3, V.bl b4])) := upd_same
    generalize upd G1 rr1 (HO.lst ([V.bl b0, V.bl b1, V.bl b2] ++ [V.bl b3, V.bl b4])) = R1 at s lr ⊢
    replace S := Same.trans S s; replace ea := s _ _ ea; replace ed := s _ _ ed
    clear s lp lq
    have lp := lr
    clear lr
    refine ⟨_, rfl, ?_⟩
    refine ⟨_, rfl, a, C, d, fs, _, _, _, rfl, ea, ed, T, .own _, k5, ?_⟩
    refine ⟨_, rfl, a, C, d, fs, _, _, _, rfl, ea, ed, T, .own _, k6, ?_⟩
    refine ⟨by show 2 ≤ sizeLine; decide, fun q2 hq => ?_⟩
    have s := Same.upd (o := HO.lst [V.bl b5, V.bl b6]) hq
    have lq : upd R1 q2 (HO.lst [V.bl b5, V.bl b6]) q2 = some (HO.lst [V.bl b5, V.bl b6]) := upd_same
    generalize upd R1 q2 (HO.lst [V.bl b5, V.bl b6]) = G2 at s lq ⊢
    replace S := Same.trans S s; replace ea := s _ _ ea; replace ed := s _ _ ed
    replace lp := s _ _ lp
    clear s
    refine ⟨_, _, _, _, rfl, rfl, lp, lq, by show 5 + 2 ≤ sizeLine; decide, fun rr2 hq => ?_⟩
    have s := Same.upd (o := HO.lst (([V.bl b0, V.bl b1, V.bl b2] ++ [V.bl b3, V.bl b4]) ++ [V.bl b5, V.bl b6])) hq
    have lr : upd G2 rr2 (HO.lst (([V.bl b0, V.bl b1, V.bl b2] ++ [V.bl b3, V.bl b4]) ++ [V.bl b5, V.bl b6])) rr2 = some (HO.lst (([V.bl b0, V.bl b1, V.bl b2] ++ [V.bl b3, V.bl b4]) ++ [V.bl b5, V.bl b6])) := upd_same
    generalize upd G2 rr2 (HO.lst (([V.bl b0, V.bl b1, V.bl b2] ++ [V.bl b3, V.bl b4]) ++ [V.bl b5, V.bl b6])) = R2 at s lr ⊢
    replace S := Same.trans S s; replace ea := s _ _ ea; replace ed := s _ _ ed
    clear s lp lq
    have lp := lr
    clear lr
    refine ⟨_, rfl, ?_⟩
    refine ⟨_, rfl, a, C, d, fs, _, _, _, rfl, ea, ed, T, .own _, k7, ?_⟩
    refine ⟨_, rfl, a, C, d, fs, _, _, _, rfl, ea, ed, T, .own _, k8, ?_⟩
    refine ⟨by show 2 ≤ sizeLine; decide, fun q3 hq => ?_⟩
    have s := Same.upd (o := HO.lst [V.bl b7, V.bl b8]) hq
    have lq : upd R2 q3 (HO.lst [V.bl b7, V.bl b8]) q3 = some (HO.lst [V.bl b7, V.bl b8]) := upd_same
    generalize upd R2 q3 (HO.lst [V.bl b7, V.bl b8]) = G3 at s lq ⊢
    replace S := Same.trans S s; replace ea := s _ _ ea; replace ed := s _ _ ed
    replace lp := s _ _ lp
    clear s
    refine ⟨_, _, _, _, rfl, rfl, lp, lq, by show 7 + 2 ≤ sizeLine; decide, fun rr3 hq => ?_⟩
    have s := Same.upd (o := HO.lst ((([V.bl b0, V.bl b1, V.bl b2] ++ [V.bl b3, V.bl b4]) ++ [V.bl b5, V.bl b6]) ++ [V.bl b7, V.bl b8])) hq
    have lr : upd G3 rr3 (HO.lst ((([V.bl b0, V.bl b1, V.bl b2] ++ [V.bl b3, V.bl b4]) ++ [V.bl b5, V.bl b6]) ++ [V.bl b7, V.bl b8])) rr3 = some (HO.lst ((([V.bl b0, V.bl b1, V.bl b2] ++ [V.bl b3, V.bl b4]) ++ [V.bl b5, V.bl b6]) ++ [V.bl b7, V.bl b8])) := upd_same
    generalize upd G3 rr3 (HO.lst ((([V.bl b0, V.bl b1, V.bl b2] ++ [V.bl b3, V.bl b4]) ++ [V.bl b5, V.bl b6]) ++ [V.bl b7, V.bl b8])) = R3 at s lr ⊢
    replace S := Same.trans S s; replace ea := s _ _ ea; replace ed := s _ _ ed
    clear s lp lq
    have lp := lr
    clear lr
    refine ⟨_, rfl, ?_⟩
    refine ⟨_, rfl, a, C, d, fs, _, _, _, rfl, ea, ed, T, .own _, k9, ?_⟩
    refine ⟨_, rfl, a, C, d, fs, _, _, _, rfl, ea, ed, T, .own _, k10, ?_⟩
    refine ⟨_, rfl, a, C, d, fs, _, _, _, rfl, ea, ed, T, .own _, k11, ?_⟩
    refine ⟨by show 3 ≤ sizeLine; decide, fun q4 hq => ?_⟩
    have s := Same.upd (o := HO.lst [V.bl b9, V.bl b10, V.bl b11]) hq
    have lq : upd R3 q4 (HO.lst [V.bl b9, V.bl b10, V.bl b11]) q4 = some (HO.lst [V.bl b9, V.bl b10, V.bl b11]) := upd_same
    generalize upd R3 q4 (HO.lst [V.bl b9, V.bl b10, V.bl b11]) = G4 at s lq ⊢
    replace S := Same.trans S s; replace ea := s _ _ ea; replace ed := s _ _ ed
    replace lp := s _ _ lp
    clear s
    refine ⟨_, _, _, _, rfl, rfl, lp, lq, by show 9 + 3 ≤ sizeLine; decide, fun rr4 hq => ?_⟩
    have s := Same.upd (o := HO.lst (((([V.bl b0, V.bl b1, V.bl b2] ++ [V.bl b3, V.bl b4]) ++ [V.bl b5, V.bl b6]) ++ [V.bl b7, V.bl b8]) ++ [V.bl b9, V.bl b10, V.bl b11])) hq
    have lr : upd G4 rr4 (HO.lst (((([V.bl b0, V.bl b1, V.bl b2] ++ [V.bl b3, V.bl b4]) ++ [V.bl b5, V.bl b6]) ++ [V.bl b7, V.bl b8]) ++ [V.bl b9, V.bl b10, V.bl b11])) rr4 = some (HO.lst (((([V.bl b0, V.bl b1, V.bl b2] ++ [V.bl b3, V.bl b4]) ++ [V.bl b5, V.bl b6]) ++ [V.bl b7, V.bl b8]) ++ [V.bl b9, V.bl b10, V.bl b11])) := upd_same
    generalize upd G4 rr4 (HO.lst (((([V.bl b0, V.bl b1, V.bl b2] ++ [V.bl b3, V.bl b4]) ++ [V.bl b5, V.bl b6]) ++ [V.bl b7, V.bl b8]) ++ [V.bl b9, V.bl b10, V.bl b11])) = R4 at s lr ⊢
    replace S := Same.trans S s; replace ea := s _ _ ea; replace ed := s _ _ ed
    clear s lp lq
    have lp := lr
    clear lr
    refine ⟨_, rfl, ?_⟩
    refine ⟨_, rfl, a, C, d, fs, _, _, _, rfl, ea, ed, T, .own _, k12, ?_⟩
    refine ⟨_, rfl, a, C, d, fs, _, _, _, rfl, ea, ed, T, .own _, k13, ?_⟩
    refine ⟨_, rfl, a, C, d, fs, _, _, _, rfl, ea, ed, T, .own _, k14, ?_⟩
    refine ⟨by show 3 ≤ sizeLine; decide, fun q5 hq => ?_⟩
    have s := Same.upd (o := HO.lst [V.bl b12, V.bl b13, V.bl b14]) hq
    have lq : upd R4 q5 (HO.lst [V.bl b12, V.bl b13, V.bl b14]) q5 = some (HO.lst [V.bl b12, V.bl b13, V.bl b14]) := upd_same
    generalize upd R4 q5 (HO.lst [V.bl b12, V.bl b13, V.bl b14]) = G5 at s lq ⊢
    replace S := Same.trans S s; replace ea := s _ _ ea; replace ed := s _ _ ed
    replace lp := s _ _ lp
    clear s
    refine ⟨_, _, _, _, rfl, rfl, lp, lq, by show 12 + 3 ≤ sizeLine; decide, fun rr5 hq => ?_⟩
    have s := Same.upd (o := HO.lst ((((([V.bl b0, V.bl b1, V.bl b2] ++ [V.bl b3, V.bl b4]) ++ [V.bl b5, V.bl b6]) ++ [V.bl b7, V.bl b8]) ++ [V.bl b9, V.bl b10, V.bl b11]) ++ [V.bl b12, V.bl b13, V.bl b14])) hq
    have lr : upd G5 rr5 (HO.lst ((((([V.bl b0, V.bl b1, V.bl b2] ++ [V.bl b3, V.bl b4]) ++ [V.bl b5, V.bl b6]) ++ [V.bl b7, V.bl b8]) ++ [V.bl b9, V.bl b10, V.bl b11]) ++ [V.bl b12, V.bl b13, V.bl b14])) rr5 = some (HO.lst ((((([V.bl b0, V.bl b1, V.bl b2] ++ [V.bl b3, V.bl b4]) ++ [V.bl b5, V.bl b6]) ++ [V.bl b7, V.bl b8]) ++ [V.bl b9, V.bl b10, V.bl b11]) ++ [V.bl b12, V.bl b13, V.bl b14])) := upd_same
    generalize upd G5 rr5 (HO.lst ((((([V.bl b0, V.bl b1, V.bl b2] ++ [V.bl b3, V.bl b4]) ++ [V.bl b5, V.bl b6]) ++ [V.bl b7, V.bl b8]) ++ [V.bl b9, V.bl b10, V.bl b11]) ++ [V.bl b12, V.bl b13, V.bl b14])) = R5 at s lr ⊢
    replace S := Same.trans S s; replace ea := s _ _ ea; replace ed := s _ _ ed
    clear s lp lq
    have lp := lr
    clear lr
    refine ⟨_, rfl, ?_⟩
    refine ⟨_, rfl, a, C, d, fs, _, _, _, rfl, ea, ed, T, .own _, k15, ?_⟩
    refine ⟨_, rfl, a, C, d, fs, _, _, _, rfl, ea, ed, T, .own _, k16, ?_⟩
    refine ⟨_, rfl, a, C, d, fs, _, _, _, rfl, ea, ed, T, .own _, k17, ?_⟩
    refine ⟨by show 3 ≤ sizeLine; decide, fun q6 hq => ?_⟩
    have s := Same.upd (o := HO.lst [V.bl b15, V.bl b16, V.bl b17]) hq
    have lq : upd R5 q6 (HO.lst [V.bl b15, V.bl b16, V.bl b17]) q6 = some (HO.lst [V.bl b15, V.bl b16, V.bl b17]) := upd_same
    generalize upd R5 q6 (HO.lst [V.bl b15, V.bl b16, V.bl b17]) = G6 at s lq ⊢
    replace S := Same.trans S s; replace ea := s _ _ ea; replace ed := s _ _ ed
    replace lp := s _ _ lp
    clear s
    refine ⟨_, _, _, _, rfl, rfl, lp, lq, by show 15 + 3 ≤ sizeLine; decide, fun rr6 hq => ?_⟩
    have s := Same.upd (o := HO.lst (((((([V.bl b0, V.bl b1, V.bl b2] ++ [V.bl b3, V.bl b4]) ++ [V.bl b5, V.bl b6]) ++ [V.bl b7, V.bl b8]) ++ [V.bl b9, V.bl b10, V.bl b11]) ++ [V.bl b12, V.bl b13, V.bl b14]) ++ [V.bl b15, V.bl b16, V.bl b17])) hq
    have lr : upd G6 rr6 (HO.lst (((((([V.bl b0, V.bl b1, V.bl b2] ++ [V.bl b3, V.bl b4]) ++ [V.bl b5, V.bl b6]) ++ [V.bl b7, V.bl b8]) ++ [V.bl b9, V.bl b10, V.bl b11]) ++ [V.bl b12, V.bl b13, V.bl b14]) ++ [V.bl b15, V.bl b16, V.bl b17])) rr6 = some (HO.lst (((((([V.bl b0, V.bl b1, V.bl b2] ++ [V.bl b3, V.bl b4]) ++ [V.bl b5, V.bl b6]) ++ [V.bl b7, V.bl b8]) ++ [V.bl b9, V.bl b10, V.bl b11]) ++ [V.bl b12, V.bl b13, V.bl b14]) ++ [V.bl b15, V.bl b16, V.bl b17])) := upd_same
    generalize upd G6 rr6 (HO.lst (((((([V.bl b0, V.bl b1, V.bl b2] ++ [V.bl b3, V.bl b4]) ++ [V.bl b5, V.bl b6]) ++ [V.bl b7, V.bl b8]) ++ [V.bl b9, V.bl b10, V.bl b11]) ++ [V.bl b12, V.bl b13, V.bl b14]) ++ [V.bl b15, V.bl b16, V.bl b17])) = R6 at s lr ⊢
    replace S := Same.trans S s; replace ea := s _ _ ea; replace ed := s _ _ ed
    clear s lp lq
    have lp := lr
    clear lr
    refine ⟨_, rfl, ?_⟩
    refine ⟨_, rfl, a, C, d, fs, _, _, _, rfl, ea, ed, T, .own _, k18, ?_⟩
    refine ⟨by show 1 ≤ sizeLine; decide, fun q7 hq => ?_⟩
    have s := Same.upd (o := HO.lst [V.bl b18]) hq
    have lq : upd R6 q7 (HO.lst [V.bl b18]) q7 = some (HO.lst [V.bl b18]) := upd_same
    generalize upd R6 q7 (HO.lst [V.bl b18]) = G7 at s lq ⊢
    replace S := Same.trans S s; replace ea := s _ _ ea; replace ed := s _ _ ed
    replace lp := s _ _ lp
    clear s
    refine ⟨_, _, _, _, rfl, rfl, lp, lq, by show 18 + 1 ≤ sizeLine; decide, fun rr7 hq => ?_⟩
    have s := Same.upd (o := HO.lst ((((((([V.bl b0, V.bl b1, V.bl b2] ++ [V.bl b3, V.bl b4]) ++ [V.bl b5, V.bl b6]) ++ [V.bl b7, V.bl b8]) ++ [V.bl b9, V.bl b10, V.bl b11]) ++ [V.bl b12, V.bl b13, V.bl b14]) ++ [V.bl b15, V.bl b16, V.bl b17]) ++ [V.bl b18])) hq
    have lr : upd G7 rr7 (HO.lst ((((((([V.bl b0, V.bl b1, V.bl b2] ++ [V.bl b3, V.bl b4]) ++ [V.bl b5, V.bl b6]) ++ [V.bl b7, V.bl b8]) ++ [V.bl b9, V.bl b10, V.bl b11]) ++ [V.bl b12, V.bl b13, V.bl b14]) ++ [V.bl b15, V.bl b16, V.bl b17]) ++ [V.bl b18])) rr7 = some (HO.lst ((((((([V.bl b0, V.bl b1, V.bl b2] ++ [V.bl b3, V.bl b4]) ++ [V.bl b5, V.bl b6]) ++ [V.bl b7, V.bl b8]) ++ [V.bl b9, V.bl b10, V.bl b11]) ++ [V.bl b12, V.bl b13, V.bl b14]) ++ [V.bl b15, V.bl b16, V.bl b17]) ++ [V.bl b18])) := upd_same
    generalize upd G7 rr7 (HO.lst ((((((([V.bl b0, V.bl b1, V.bl b2] ++ [V.bl b3, V.bl b4]) ++ [V.bl b5, V.bl b6]) ++ [V.bl b7, V.bl b8]) ++ [V.bl b9, V.bl b10, V.bl b11]) ++ [V.bl b12, V.bl b13, V.bl b14]) ++ [V.bl b15, V.bl b16, V.bl b17]) ++ [V.bl b18])) = R7 at s lr ⊢
    replace S := Same.trans S s; replace ea := s _ _ ea; replace ed := s _ _ ed
    clear s lp lq
    have lp := lr
    clear lr
    exact k _ _ S lp
end
end K24
set_option Elab.async false
set_option linter.all false
set_option maxRecDepth 100000
set_option maxHeartbeats 4000000
namespace K24
open PySem L2 EX PyProof.Rows
abbrev sHeld : Stmt := top 26
theorem scH : FnScope ["_law_at", "_law_error"] ["_law_at", "_law_error"] (defScope sHeld) := ⟨rfl, rfl, rfl, by decide +kernel, rfl, by decide +kernel, by decide +kernel⟩
/-- the name of the field of the i-th exception -/
def fName : Nat → Option Str
  | 0 | 1 | 2 | 3 | 4 | 5 => some "given"
  | 6 => some "index"
  | 7 | 11 | 12 | 13 | 14 | 15 => some "node"
  | 8 | 10 => some "word"
  | 9 => some "question"
  | 16 => some "least"
  | 17 => some "limit"
  | 18 => some "sender"
  | _ => none
def spHeld (K : PySem.W.Frag) : Sp := fun vs H Q _ => ∃ (i : Nat) (a C d : Addr) (fs : List (Str × V)) (v : V) (f : Str), vs = [.int (i : Int), .ref a] ∧ EcC K C ∧ H a = some (exo a C (some d)) ∧ H d = some (exd d fs) ∧
  fName i = some f ∧ PySem.W.findIn K (.ref C) f = some none ∧ fs.lookup f = some v ∧ ∀ H', Same H H' → Q v H'
theorem inT {K : PySem.W.Frag} {x : V} {xs : List V} {H : Hp} {Q : Bool → Hp → Prop} {b : Bool} (hz : xs.length ≤ sizeLine) (f1 : flatV x = true) (f2 : xs.all flatV = true) (e : inV x xs = b) (h : ∀ H', Same H H' → Q b H') :
    xs.length ≤ sizeLine ∧ ∀ p, H p = none → rIn K false x (.ref p) (upd H p (.lst xs)) fun y H2 => ∃ k, y = .bl k ∧ Q k H2 :=
  ⟨hz, fun p hp => ⟨p, xs, rfl, .inl (SqL.of upd_same), f1, f2, _, rfl, e ▸ h _ (Same.upd hp)⟩⟩
section
variable {P : Program} {w : World} {K : PySem.W.Frag} {mg : Str → Option Value} {base : Heap}
theorem ok_held {f : Addr} {fd : FuncData} (F : Fun K "_law_held" "_law_held" sHeld f fd) : FnOk P w K mg base CX0 1 f fd ["_law_at", "_law_error"] (spHeld K) := by
  refine F.ok scH (fun vs H Q E h => ?_) (fun cdv A outer s H vs Q E hr h => ?_)
  · obtain ⟨i, a, C, d, fs, v, n, rfl, _⟩ := h
    rfl
  · obtain ⟨i, a, C, d, fs, v, n, rfl, T, ea, ed, hn, hno, hl, k⟩ := h
    refine ⟨_, (pss_cons (ps_if (pt_cmpR op_lt (pv 0) pe_int (nomark _)) (pss_one (ps_ret (pe_ef (pv 1)))) pss_nil)
        (pss_cons (ps_if (pt_cmpR op_eq (pv 0) pe_int (nomark _)) (pss_one (ps_ret (pe_ef (pv 1)))) pss_nil)
        (pss_cons (ps_if (pt_cmpR op_in_seq (pv 0) (pe_lst (pa_cons pe_int (pa_cons pe_int (pa_cons pe_int (pa_cons pe_int (pa_cons pe_int (pa_cons pe_int pa_nil))))))) rfl) (pss_one (ps_ret (pe_ef (pv 1)))) pss_nil)
        (pss_cons (ps_if (pt_cmpR op_in_seq (pv 0) (pe_lst (pa_cons pe_int (pa_cons pe_int pa_nil))) rfl) (pss_one (ps_ret (pe_ef (pv 1)))) pss_nil)
        (pss_cons (ps_if (pt_cmpR op_eq (pv 0) pe_int (nomark _)) (pss_one (ps_ret (pe_ef (pv 1)))) pss_nil)
        (pss_cons (ps_if (pt_cmpR op_eq (pv 0) pe_int (nomark _)) (pss_one (ps_ret (pe_ef (pv 1)))) pss_nil)
        (pss_one (ps_ret (pe_ifExp (pt_cmpR op_eq (pv 0) pe_int (nomark _)) (pe_ef (pv 1)) (pe_ef (pv 1))))))))))), ?_⟩
    have hi : i < 19 := by
      cases Nat.lt_or_ge i 19 with
      | inl h => exact h
      | inr h =>
        exfalso
        obtain ⟨j, rfl⟩ : ∃ j, i = j + 19 := ⟨i - 19, by omega⟩
        cases hn
    have fin : ∀ H1 : Hp, Same H H1 → ∀ σ : L2.St, σ[1]? = some (some (.ref a)) → tEf K n (tVar 1) σ H1 Q := fun H1 s σ hσ => ⟨_, hσ, a, C, d, fs, v, rfl, T, hno, s _ _ ea, s _ _ ed, hl, k _ s⟩
    obtain rfl | rfl | rfl | rfl | rfl | rfl | rfl | rfl | rfl | rfl | rfl | rfl | rfl | rfl | rfl | rfl | rfl | rfl | rfl : i = 0 ∨ i = 1 ∨ i = 2 ∨ i = 3 ∨ i = 4 ∨ i = 5 ∨ i = 6 ∨ i = 7 ∨ i = 8 ∨ i = 9 ∨ i = 10 ∨ i = 11 ∨ i = 12 ∨ i = 13 ∨ i = 14 ∨ i = 15 ∨ i = 16 ∨ i = 17 ∨ i = 18 := by omega
    · cases hn
      refine ⟨_, rfl, _, _, rfl, rfl, _, rfl, iteT ?_⟩
      exact fin _ (Same.refl H) _ rfl
    · cases hn
      refine ⟨_, rfl, _, _, rfl, rfl, _, rfl, iteT ?_⟩
      exact fin _ (Same.refl H) _ rfl
    · cases hn
      refine ⟨_, rfl, _, _, rfl, rfl, _, rfl, iteT ?_⟩
      exact fin _ (Same.refl H) _ rfl
    · cases hn
      refine ⟨_, rfl, _, _, rfl, rfl, _, rfl, iteT ?_⟩
      exact fin _ (Same.refl H) _ rfl
    · cases hn
      refine ⟨_, rfl, _, _, rfl, rfl, _, rfl, iteT ?_⟩
      exact fin _ (Same.refl H) _ rfl
    · cases hn
      refine ⟨_, rfl, _, _, rfl, rfl, _, rfl, iteT ?_⟩
      exact fin _ (Same.refl H) _ rfl
    · cases hn
      refine ⟨_, rfl, _, _, rfl, rfl, _, rfl, iteF ?_⟩
      refine ⟨_, rfl, rfl, _, rfl, iteT ?_⟩
      exact fin _ (Same.refl H) _ rfl
    · cases hn
      refine ⟨_, rfl, _, _, rfl, rfl, _, rfl, iteF ?_⟩
      refine ⟨_, rfl, rfl, _, rfl, iteF ?_⟩
      refine ⟨_, rfl, inT (by show 6 ≤ sizeLine; decide) rfl rfl (b := true) rfl fun H1 sH1 => iteT ?_⟩
      exact fin _ sH1 _ rfl
    · cases hn
      refine ⟨_, rfl, _, _, rfl, rfl, _, rfl, iteF ?_⟩
      refine ⟨_, rfl, rfl, _, rfl, iteF ?_⟩
      refine ⟨_, rfl, inT (by show 6 ≤ sizeLine; decide) rfl rfl (b := false) rfl fun H1 sH1 => iteF ?_⟩
      refine ⟨_, rfl, inT (by show 2 ≤ sizeLine; decide) rfl rfl (b := true) rfl fun H2 sH2 => iteT ?_⟩
      exact fin _ (Same.trans sH1 sH2) _ rfl
    · cases hn
      refine ⟨_, rfl, _, _, rfl, rfl, _, rfl, iteF ?_⟩
      refine ⟨_, rfl, rfl, _, rfl, iteF ?_⟩
      refine ⟨_, rfl, inT (by show 6 ≤ sizeLine; decide) rfl rfl (b := false) rfl fun H1 sH1 => iteF ?_⟩
      refine ⟨_, rfl, inT (by show 2 ≤ sizeLine; decide) rfl rfl (b := false) rfl fun H2 sH2 => iteF ?_⟩
      refine ⟨_, rfl, rfl, _, rfl, iteT ?_⟩
      exact fin _ (Same.trans sH1 sH2) _ rfl
    · cases hn
      refine ⟨_, rfl, _, _, rfl, rfl, _, rfl, iteF ?_⟩
      refine ⟨_, rfl, rfl, _, rfl, iteF ?_⟩
      refine ⟨_, rfl, inT (by show 6 ≤ sizeLine; decide) rfl rfl (b := false) rfl fun H1 sH1 => iteF ?_⟩
      refine ⟨_, rfl, inT (by show 2 ≤ sizeLine; decide) rfl rfl (b := true) rfl fun H2 sH2 => iteT ?_⟩
      exact fin _ (Same.trans sH1 sH2) _ rfl
    · cases hn
      refine ⟨_, rfl, _, _, rfl, rfl, _, rfl, iteF ?_⟩
      refine ⟨_, rfl, rfl, _, rfl, iteF ?_⟩
      refine ⟨_, rfl, inT (by show 6 ≤ sizeLine; decide) rfl rfl (b := true) rfl fun H1 sH1 => iteT ?_⟩
      exact fin _ sH1 _ rfl
    · cases hn
      refine ⟨_, rfl, _, _, rfl, rfl, _, rfl, iteF ?_⟩
      refine ⟨_, rfl, rfl, _, rfl, iteF ?_⟩
      refine ⟨_, rfl, inT (by show 6 ≤ sizeLine; decide) rfl rfl (b := true) rfl fun H1 sH1 => iteT ?_⟩
      exact fin _ sH1 _ rfl
    · cases hn
      refine ⟨_, rfl, _, _, rfl, rfl, _, rfl, iteF ?_⟩
      refine ⟨_, rfl, rfl, _, rfl, iteF ?_⟩
      refine ⟨_, rfl, inT (by show 6 ≤ sizeLine; decide) rfl rfl (b := true) rfl fun H1 sH1 => iteT ?_⟩
      exact fin _ sH1 _ rfl
    · cases hn
      refine ⟨_, rfl, _, _, rfl, rfl, _, rfl, iteF ?_⟩
      refine ⟨_, rfl, rfl, _, rfl, iteF ?_⟩
      refine ⟨_, rfl, inT (by show 6 ≤ sizeLine; decide) rfl rfl (b := true) rfl fun H1 sH1 => iteT ?_⟩
      exact fin _ sH1 _ rfl
    · cases hn
      refine ⟨_, rfl, _, _, rfl, rfl, _, rfl, iteF ?_⟩
      refine ⟨_, rfl, rfl, _, rfl, iteF ?_⟩
      refine ⟨_, rfl, inT (by show 6 ≤ sizeLine; decide) rfl rfl (b := true) rfl fun H1 sH1 => iteT ?_⟩
      exact fin _ sH1 _ rfl
    · cases hn
      refine ⟨_, rfl, _, _, rfl, rfl, _, rfl, iteF ?_⟩
      refine ⟨_, rfl, rfl, _, rfl, iteF ?_⟩
      refine ⟨_, rfl, inT (by show 6 ≤ sizeLine; decide) rfl rfl (b := false) rfl fun H1 sH1 => iteF ?_⟩
      refine ⟨_, rfl, inT (by show 2 ≤ sizeLine; decide) rfl rfl (b := false) rfl fun H2 sH2 => iteF ?_⟩
      refine ⟨_, rfl, rfl, _, rfl, iteF ?_⟩
      refine ⟨_, rfl, rfl, _, rfl, iteT ?_⟩
      exact fin _ (Same.trans sH1 sH2) _ rfl
    · cases hn
      refine ⟨_, rfl, _, _, rfl, rfl, _, rfl, iteF ?_⟩
      refine ⟨_, rfl, rfl, _, rfl, iteF ?_⟩
      refine ⟨_, rfl, inT (by show 6 ≤ sizeLine; decide) rfl rfl (b := false) rfl fun H1 sH1 => iteF ?_⟩
      refine ⟨_, rfl, inT (by show 2 ≤ sizeLine; decide) rfl rfl (b := false) rfl fun H2 sH2 => iteF ?_⟩
      refine ⟨_, rfl, rfl, _, rfl, iteF ?_⟩
      refine ⟨_, rfl, rfl, _, rfl, iteF ?_⟩
      refine ⟨_, rfl, rfl, _, rfl, iteT ?_⟩
      exact fin _ (Same.trans sH1 sH2) _ rfl
    · cases hn
      refine ⟨_, rfl, _, _, rfl, rfl, _, rfl, iteF ?_⟩
      refine ⟨_, rfl, rfl, _, rfl, iteF ?_⟩
      refine ⟨_, rfl, inT (by show 6 ≤ sizeLine; decide) rfl rfl (b := false) rfl fun H1 sH1 => iteF ?_⟩
      refine ⟨_, rfl, inT (by show 2 ≤ sizeLine; decide) rfl rfl (b := false) rfl fun H2 sH2 => iteF ?_⟩
      refine ⟨_, rfl, rfl, _, rfl, iteF ?_⟩
      refine ⟨_, rfl, rfl, _, rfl, iteF ?_⟩
      refine ⟨_, rfl, rfl, _, rfl, iteF ?_⟩
      exact fin _ (Same.trans sH1 sH2) _ rfl
end
end K24
set_option Elab.async false
set_option linter.all false
set_option maxRecDepth 100000
set_option maxHeartbeats 4000000
namespace K24
open PySem L2 EX PyProof.Rows
abbrev sSource : Stmt := top 22
abbrev sDraw : Stmt := top 23
def M : Int := 2147483647
/-- what a source may hold -/
def SrcOk (x y : Int) : Prop := 0 ≤ x ∧ 0 ≤ y ∧ y < 2147483647
structure TxtC (mg : Str → Option Value) : Prop where
  len : mg "len" = none
  max : mg "max" = none
def spSource (K : PySem.W.Frag) : Sp := fun vs H Q _ => ∃ (a : Addr) (ns : List Int) (j : Nat), vs = [.ref a, .int (j : Int)] ∧ SqL K H a (ns.map V.int) ∧ j ≤ 1000 ∧
  ∀ p x y, H p = none → SrcOk x y → Q (.ref p) (upd H p (.lst [.int x, .int y]))
def spDraw : Sp := fun vs H Q _ => ∃ (p : Addr) (x y n : Int), vs = [.ref p, .int n] ∧ H p = some (.lst [.int x, .int y]) ∧ SrcOk x y ∧ 0 < n ∧ n < 2 ^ 100 ∧
  ∀ x' y' d, SrcOk x' y' → 0 ≤ d → d < n → Q (.int d) (upd H p (.lst [.int x', .int y']))
section
variable {P : Program} {w : World} {K : PySem.W.Frag} {mg : Str → Option Value} {base : Heap}
theorem scS : FnScope ["_law_script", "_law_turn", "_law_cell", "_law_number", "_law_seed"] ["_law_script", "_law_turn"] (defScope sSource) := ⟨rfl, rfl, rfl, by decide +kernel, rfl, by decide +kernel, by decide +kernel⟩
theorem scD : FnScope ["_law_source_here", "_law_amount", "_law_digit"] ["_law_source_here", "_law_amount"] (defScope sDraw) := ⟨rfl, rfl, rfl, by decide +kernel, rfl, by decide +kernel, by decide +kernel⟩
local macro_rules | `(tactic| walk_at "rd") => `(tactic| simp only [tSeq, tAsg, tOp, tC, tVar, tCB, tCons, tNil, tUn, tIfS, tTest, tNext, tRet, tLst, gName, gSub, rI0, rI, rU, L2.start, List.map_cons, List.map_nil, List.length_cons, List.length_nil, Nat.reduceAdd, Nat.reduceSub, List.replicate_succ, List.replicate_zero, List.cons_append, List.nil_append, List.set_cons_zero, List.set_cons_succ, List.getElem?_cons_zero, List.getElem?_cons_succ, Option.some.injEq, exists_eq_left', exists_eq_left, V.int.injEq, V.bl.injEq, V.ref.injEq, List.cons.injEq, and_true, true_and, and_assoc, exists_and_left, exists_eq', exists_const, decide_eq_true_eq, Cx.nox, Cx.wish])
set_option linter.all false
theorem ok_source {f : Addr} {fd : FuncData} (F : Fun K "_law_source" "_law_source" sSource f fd) (T : TxtC mg) : FnOk P w K mg base CX0 1 f fd ["_law_script", "_law_turn"] (spSource K) := by
  refine F.ok scS (fun vs H Q E h => ?_) (fun cdv A outer s H vs Q E hr h => ?_)
  · obtain ⟨a, ns, j, rfl, _⟩ := h
    rfl
  · obtain ⟨a, ns, j, rfl, hS, hj, k⟩ := h
    have hu := hu_of hr
    refine ⟨_, pss_cons (ps_set (i := 2) scS.nd rfl (Or.inl rfl) pe_int)
      (pss_cons (ps_if (pt_cmpR op_lt (pv 1) (pe_callB call_len_seq (by rfl) T.len PySem.boot_len (pa_cons (pv 0) pa_nil)) (nomark _))
         (pss_one (ps_set (i := 2) scS.nd rfl (Or.inl rfl) (pe_ix ix_list (pv 0) (pv 1) (fun _ _ => rfl)))) pss_nil)
      (pss_cons (ps_set (i := 3) scS.nd rfl (Or.inl rfl) (pe_callB (call_max2 rfl) (by rfl) T.max PyProof.Rows.boot_max (pa_cons (pv 2) (pa_cons (pe_op op_sub (pe_un un_neg pe_int) (pv 2)) pa_nil))))
      (pss_cons (ps_set (i := 4) scS.nd rfl (Or.inl rfl) (pe_op op_mod (pe_op op_add (pe_op op_add (pe_op op_mul (pe_op op_mod (pv 3) pe_int) pe_int) (pe_op op_mul pe_int (pv 1))) pe_int) pe_int))
      (pss_cons (ps_if (pt_cmpR op_lt (pv 3) (pe_op op_pow pe_int pe_int) (nomark _)) (pss_one (ps_set (i := 3) scS.nd rfl (Or.inl rfl) pe_int)) pss_nil)
      (pss_one (ps_ret (pe_lst (pa_cons (pv 3) (pa_cons (pv 4) pa_nil))))))))), ?_⟩
    walk_at "rd"
    have fin : ∀ (c : Int) (H1 : Hp), H1 = H →
        0 < (2147483629 : Int) ∧ CMul ((if -1 - c > c then -1 - c else c) % 2147483629) 16807 ∧ CMul 104729 (j : Int) ∧ (0 : Int) < 2147483647 ∧ CPow 10 18 ∧
        if (if -1 - c > c then -1 - c else c) < 10 ^ Int.toNat 18 then
          2 ≤ sizeLine ∧ ∀ p, H1 p = none → Q (V.ref p) (upd H1 p (HO.lst [V.int 0, V.int (((if -1 - c > c then -1 - c else c) % 2147483629 * 16807 + 104729 * (j : Int) + 11) % 2147483647)]))
        else 2 ≤ sizeLine ∧ ∀ p, H1 p = none → Q (V.ref p) (upd H1 p (HO.lst [V.int (if -1 - c > c then -1 - c else c), V.int (((if -1 - c > c then -1 - c else c) % 2147483629 * 16807 + 104729 * (j : Int) + 11) % 2147483647)])) := by
      rintro c H1 rfl
      have hm : 0 ≤ (if -1 - c > c then -1 - c else c) := by split <;> omega
      generalize (if -1 - c > c then -1 - c else c) = m at hm
      refine ⟨by decide, Or.inr ⟨by decide, by decide⟩, Or.inl ⟨by decide, by decide⟩, by decide, ⟨by decide, by decide, by decide⟩, ?_⟩
      have hs0 := Int.emod_nonneg (m % 2147483629 * 16807 + 104729 * (j : Int) + 11) (show (2147483647 : Int) ≠ 0 by decide)
      have hs1 := Int.emod_lt_of_pos (m % 2147483629 * 16807 + 104729 * (j : Int) + 11) (show (0 : Int) < 2147483647 by decide)
      split
      · exact ⟨by decide, fun p hp => k p _ _ hp ⟨by decide, hs0, hs1⟩⟩
      · exact ⟨by decide, fun p hp => k p _ _ hp ⟨hm, hs0, hs1⟩⟩
    refine ⟨_, .inl hS, ?_⟩
    split
    · rename_i hlt
      have hlt' : j < (ns.map V.int).length := by omega
      refine ⟨a, _, _, _, rfl, rfl, hS, atI_nat (List.getElem?_eq_getElem hlt'), ?_⟩
      have e : (ns.map V.int)[j] = V.int (ns[j]'(by simpa using hlt')) := by simp
      rw [e]
      walk_at "rd"
      exact fin _ _ rfl
    · exact fin 0 _ rfl
theorem ok_draw {f : Addr} {fd : FuncData} (F : Fun K "_law_draw" "_law_draw" sDraw f fd) : FnOk P w K mg base CX0 1 f fd ["_law_source_here", "_law_amount"] spDraw := by
  refine F.ok scD (fun vs H Q E h => ?_) (fun cdv A outer s H vs Q E hr h => ?_)
  · obtain ⟨p, x, y, n, rfl, _⟩ := h
    rfl
  · obtain ⟨p, x, y, n, rfl, hL, ⟨hx, hy, hy2⟩, hn, hn2, k⟩ := h
    have hu := hu_of hr
    refine ⟨_, pss_cons (ps_if (pt_cmpR op_gt (pe_ix ix_list (pv 0) pe_int (fun _ _ => rfl)) pe_int (nomark _))
        (pss_cons (ps_set (i := 2) scD.nd rfl (Or.inl rfl) (pe_op op_mod (pe_ix ix_list (pv 0) pe_int (fun _ _ => rfl)) (pv 1)))
        (pss_cons (ps_asg (pe_op op_fdivW (pe_ix ix_list (pv 0) pe_int (fun _ _ => rfl)) (pv 1)) (pg_sub (pv 0) pe_int set_list))
        (pss_one (ps_ret (pv 2))))) pss_nil)
      (pss_cons (ps_asg (pe_op op_mod (pe_op op_add (pe_op op_mul (pe_ix ix_list (pv 0) pe_int (fun _ _ => rfl)) pe_int) pe_int) pe_int) (pg_sub (pv 0) pe_int set_list))
      (pss_one (ps_ret (pe_op op_mod (pe_op op_fdivW (pe_op op_mod (pe_op op_mul (pe_ix ix_list (pv 0) pe_int (fun _ _ => rfl)) (pe_ix ix_list (pv 0) pe_int (fun _ _ => rfl))) pe_int) pe_int) (pv 1))))), ?_⟩
    have hS : SqL K H p [.int x, .int y] := SqL.of hL
    have r0 : ∀ (H' : Hp) (x y : Int) (Q' : V → Hp → Prop), H' p = some (.lst [.int x, .int y]) → Q' (.int x) H' → rIxL K (V.ref p) (V.int 0) H' Q' := fun H' x y Q' h q =>
      ⟨p, _, _, _, rfl, rfl, SqL.of h, atI_nat (j := 0) rfl, q⟩
    have r1 : ∀ (H' : Hp) (x y : Int) (Q' : V → Hp → Prop), H' p = some (.lst [.int x, .int y]) → Q' (.int y) H' → rIxL K (V.ref p) (V.int 1) H' Q' := fun H' x y Q' h q =>
      ⟨p, _, _, _, rfl, rfl, SqL.of h, atI_nat (j := 1) rfl, q⟩
    have w0 : ∀ (H' : Hp) (x y : Int) (v : V) (Q' : Hp → Prop), H' p = some (.lst [.int x, .int y]) → Q' (upd H' p (.lst [v, .int y])) → rSetL (V.ref p) (V.int 0) v H' Q' := fun H' x y v Q' h q =>
      ⟨p, _, _, _, rfl, rfl, h, rfl, q⟩
    have w1 : ∀ (H' : Hp) (x y : Int) (v : V) (Q' : Hp → Prop), H' p = some (.lst [.int x, .int y]) → Q' (upd H' p (.lst [.int x, v])) → rSetL (V.ref p) (V.int 1) v H' Q' := fun H' x y v Q' h q =>
      ⟨p, _, _, _, rfl, rfl, h, rfl, q⟩
    have hb : n.natAbs < 2 ^ 100 := by omega
    walk_at "rd"
    refine r0 _ _ _ _ hL ?_
    walk_at "rd"
    split
    · rename_i hpos
      refine r0 _ _ _ _ hL ?_
      walk_at "rd"
      refine ⟨hn, r0 _ _ _ _ hL ?_⟩
      walk_at "rd"
      refine ⟨wide_div hn hb (by decide) (by decide), w0 _ _ _ _ _ hL ?_⟩
      exact k _ _ _ ⟨Int.ediv_nonneg hx (by omega), hy, hy2⟩ (Int.emod_nonneg _ (by omega)) (Int.emod_lt_of_pos _ hn)
    · refine r1 _ _ _ _ hL ?_
      walk_at "rd"
      refine ⟨Or.inr ⟨by decide, by decide⟩, by decide, w1 _ _ _ _ _ hL ?_⟩
      have hs0 := Int.emod_nonneg (y * 48271 + 11) (show (2147483647 : Int) ≠ 0 by decide)
      have hs1 := Int.emod_lt_of_pos (y * 48271 + 11) (show (0 : Int) < 2147483647 by decide)
      generalize (y * 48271 + 11) % 2147483647 = z at hs0 hs1
      refine r1 _ x z _ upd_same (r1 _ x z _ upd_same ?_)
      walk_at "rd"
      refine ⟨Or.inr ⟨by omega, by omega⟩, by decide, ⟨by decide, by decide⟩, hn, ?_⟩
      exact k _ _ _ ⟨hx, hs0, hs1⟩ (Int.emod_nonneg _ (by omega)) (Int.emod_lt_of_pos _ hn)
end

abbrev sLaw : Stmt := top 27
def lawN : List Str := ["_law_script", "_law_turn", "_law_source_here", "_law_number", "_law_item", "_law_at", "_law_error", "_law_place"]
theorem scL : FnScope ["_law_script", "_law_turn", "_law_source_here", "_law_number", "_law_item", "_law_at", "_law_error", "_law_place"] ["_law_script"] (defScope sLaw) := ⟨rfl, rfl, rfl, by decide +kernel, rfl, by decide +kernel, by decide +kernel⟩
structure Bn (mg : Str → Option Value) (cb : Addr) : Prop where
  range : mg "range" = none
  max : mg "max" = none
  min : mg "min" = none
  len : mg "len" = none
  enum : mg "enumerate" = none
  repr : mg "repr" = none
  isi : mg "isinstance" = none
  ve : mg "ValueError" = none
  le : mg "LookupError" = none
  re : mg "RuntimeError" = none
  ex : mg "Exception" = none
  cb : mg "CacheError" = some (.ref cb)
section
variable {P : Program} {w : World} {K : PySem.W.Frag} {mg : Str → Option Value} {base : Heap}
abbrev cl (c0 c1 c2 c3 c4 c5 c6 c7 c8 c9 c10 c11 c12 c13 c14 c15 c16 c17 c18 : Addr) : List Addr := [c0, c1, c2, c3, c4, c5, c6, c7, c8, c9, c10, c11, c12, c13, c14, c15, c16, c17, c18]
/-- what the written part tells of the i-th class among the classes cs -/
structure CF (K : PySem.W.Frag) (cs : List Addr) (cb C : Addr) (i : Nat) : Prop where
  T : EcC K C
  one : Paired (fun (c : Addr) (b : Bool) => PySem.W.kitOne K (.ref C) (.ref c) = some b) cs ((List.range 19).map fun j => decide (j = i))
  cbT : PySem.W.kitOne K (.ref C) (.ref cb) = some true
  anyF : PySem.W.kitAny K (.ref C) [.type "ValueError", .type "LookupError", .type "RuntimeError"] = some false
  exT : PySem.W.kitOne K (.ref C) (.type "Exception") = some true
  no : ∀ f, fName i = some f → PySem.W.findIn K (.ref C) f = some none
theorem tab_get {c0 c1 c2 c3 c4 c5 c6 c7 c8 c9 c10 c11 c12 c13 c14 c15 c16 c17 c18 : Addr} {v : V} {i : Nat} {C : Addr} {fs : List (Str × V)} (h : (tab c0 c1 c2 c3 c4 c5 c6 c7 c8 c9 c10 c11 c12 c13 c14 c15 c16 c17 c18 v)[i]? = some (C, fs)) : (cl c0 c1 c2 c3 c4 c5 c6 c7 c8 c9 c10 c11 c12 c13 c14 c15 c16 c17 c18)[i]? = some C ∧ ∃ f, fName i = some f ∧ fs.lookup f = some v := by
  have hi : i < 19 := (List.getElem?_eq_some_iff.mp h).1
  obtain rfl | rfl | rfl | rfl | rfl | rfl | rfl | rfl | rfl | rfl | rfl | rfl | rfl | rfl | rfl | rfl | rfl | rfl | rfl : i = 0 ∨ i = 1 ∨ i = 2 ∨ i = 3 ∨ i = 4 ∨ i = 5 ∨ i = 6 ∨ i = 7 ∨ i = 8 ∨ i = 9 ∨ i = 10 ∨ i = 11 ∨ i = 12 ∨ i = 13 ∨ i = 14 ∨ i = 15 ∨ i = 16 ∨ i = 17 ∨ i = 18 := by omega
  all_goals (cases h; exact ⟨rfl, _, rfl, rfl⟩)
theorem run_law {f a cb : Addr} {fd : FuncData} {c0 c1 c2 c3 c4 c5 c6 c7 c8 c9 c10 c11 c12 c13 c14 c15 c16 c17 c18 : Addr} {s : Shared} {H : Hp} {ns : List Int} (F : Fun K "law" "law" sLaw f fd) (X : Xs P w K mg base c0 c1 c2 c3 c4 c5 c6 c7 c8 c9 c10 c11 c12 c13 c14 c15 c16 c17 c18) (B : Bn mg cb)
    (GS : DefAt P w K mg base 1 "_law_source" ["_law_script", "_law_turn"] (spSource K)) (GD : DefAt P w K mg base 1 "_law_draw" ["_law_source_here", "_law_amount"] spDraw) (GA : DefAt P w K mg base 3 "_law_all" ["_law_item"] (spAll (tab c0 c1 c2 c3 c4 c5 c6 c7 c8 c9 c10 c11 c12 c13 c14 c15 c16 c17 c18)))
    (GK : DefAt P w K mg base 1 "_law_kinds" ["_law_error"] (spKinds K (cl c0 c1 c2 c3 c4 c5 c6 c7 c8 c9 c10 c11 c12 c13 c14 c15 c16 c17 c18))) (GH : DefAt P w K mg base 1 "_law_held" ["_law_at", "_law_error"] (spHeld K))
    (hb : ∀ (s : Shared) (u : Value), BindsTo s fd ⟨[u], []⟩ [("_law_script", u)]) (e0 : Env0 P w K mg base callerA [] s H) (hS : SqL K H a (ns.map V.int)) (hns : ns.length ≤ 63) (CFs : ∀ i C, (cl c0 c1 c2 c3 c4 c5 c6 c7 c8 c9 c10 c11 c12 c13 c14 c15 c16 c17 c18)[i]? = some C → CF K (cl c0 c1 c2 c3 c4 c5 c6 c7 c8 c9 c10 c11 c12 c13 c14 c15 c16 c17 c18) cb C i) (noR : PySem.W.findIn K (.ref c18) "receiver" = some none) :
    codeAny (model P w) callerA (.call (.ref f) ⟨[.ref a], []⟩) (CR CX0 [] P w H s (fun v _ => v = .bl true) E0) s := by
  have hroom : Room 4 callerA := ⟨rfl, by decide, by decide⟩
  refine fn_at (us := [Value.ref a]) (vs := [V.ref a]) F scL hroom e0 (hb s (.ref a)) (.cons rfl .nil) rfl fun cdv hr => ?_
  have hr2 : Room 2 _ := hr.mono (by decide)
  have hr1 : Room 1 _ := hr.mono (by decide)
  have hg : (callerA.deeper (envOfC "law" (defScope sLaw) s.heap.objs.size f cdv)).guards = some [] := rfl
  have hu : (callerA.deeper (envOfC "law" (defScope sLaw) s.heap.objs.size f cdv)).units + 70 < cLine := by have := hr.un; omega
  have hu64 : (callerA.deeper (envOfC "law" (defScope sLaw) s.heap.objs.size f cdv)).units + 64 < cLine := by omega
  refine ⟨_, PSs.nox (pss_cons (ps_for PassesOwn.never rfl (pi_range1 (by rfl) B.range (pa_cons (pe_callB (call_max2 rfl) (by rfl) B.max PyProof.Rows.boot_max (pa_cons pe_int (pa_cons (pe_callB (call_min2 rfl) (by rfl) B.min PyProof.Rows.boot_min (pa_cons (pe_callB call_len_seq (by rfl) B.len PySem.boot_len (pa_cons (pv 0) pa_nil)) (pa_cons pe_int pa_nil))) pa_nil))) pa_nil)) (pg_name (i := 1) scL.nd rfl (Or.inl rfl)) (pss_cons (ps_set (i := 2) scL.nd rfl (Or.inl rfl) (pe_callD GS hr1 (pa_cons (pv 0) (pa_cons (pv 1) pa_nil))))
        (pss_cons (ps_set (i := 3) scL.nd rfl (Or.inl rfl) (pe_op op_sub (pe_callD GD hr1 (pa_cons (pv 2) (pa_cons (pe_op op_pow pe_int pe_int) pa_nil))) pe_int))
        (pss_cons (ps_set (i := 4) scL.nd rfl (Or.inl rfl) (pe_ix ix_list (pe_lst (pa_cons (pv 3) (pa_cons pe_non (pa_cons pe_bl (pa_cons pe_str (pa_cons (pe_tup (pa_cons pe_int (pa_cons pe_int pa_nil))) (pa_cons (pe_lst (pa_cons (pv 3) pa_nil)) (pa_cons (pe_disp (pps_cons pe_int (pv 3) pps_nil) rfl rfl (by simp) (by show 1 ≤ 15; decide)) (pa_cons (pe_tup pa_nil) pa_nil))))))))) (pe_callD GD hr1 (pa_cons (pv 2) (pa_cons pe_int pa_nil))) (fun _ _ => rfl)))
        (pss_cons (ps_for PassesOwn.never rfl (pi_enum (by rfl) B.enum (pa_cons (pe_callD GA hr (pa_cons (pv 4) pa_nil)) pa_nil)) (pg_tup rfl (pgs_cons (pg_name (i := 5) scL.nd rfl (Or.inr rfl)) (pgs_cons (pg_name (i := 6) scL.nd rfl (Or.inl rfl)) pgs_nil))) (pss_cons (ps_if (pt_cmpR (op_neD hu64) (pe_callD GK hr1 (pa_cons (pv 6) pa_nil)) (pe_lc (own := [("_law_place", 7)]) (g := gName 7) (tt := tYes) rfl scL.nd (pi_range1 (by rfl) B.range (pa_cons pe_int pa_nil)) (blkOk_by (N := lawN) (sc := defScope sLaw) (by decide +kernel)) (fun _ _ _ _ _ => pg_name (i := 7) scL.nd rfl (Or.inl rfl)) (fun _ _ _ _ _ => pts_nil) (fun _ _ _ _ _ => pe_cmpR op_eq (pv 7) (pv 5) (nomark _))) (nomark _)) (pss_one (ps_ret pe_bl)) pss_nil)
        (pss_cons (ps_if (pw_or (pt_cmpR op_ne (pe_callB (call_reprD hg hu) (by rfl) B.repr PyProof.Rows.boot_repr (pa_cons (pe_callD GH hr1 (pa_cons (pv 5) (pa_cons (pv 6) pa_nil))) pa_nil)) (pe_callB (call_reprD hg hu) (by rfl) B.repr PyProof.Rows.boot_repr (pa_cons (pv 4) pa_nil)) (nomark _)) (pw_or1 (pt_not (pt_val (pe_callB call_isiE (by rfl) B.isi PyProof.Rows.boot_isinstance (pa_cons (pv 6) (pa_cons (pe_glob (v := .ref cb) (by rfl) B.cb rfl) pa_nil))))))).pt (pss_one (ps_ret pe_bl)) pss_nil)
        (pss_one (ps_if (pw_or (pt_val (pe_callB call_isiET (by rfl) B.isi PyProof.Rows.boot_isinstance (pa_cons (pv 6) (pa_cons (pe_tup (pa_cons (pe_bltn (v := .ty "ValueError") (by rfl) B.ve (by decide +kernel) rfl) (pa_cons (pe_bltn (v := .ty "LookupError") (by rfl) B.le (by decide +kernel) rfl) (pa_cons (pe_bltn (v := .ty "RuntimeError") (by rfl) B.re (by decide +kernel) rfl) pa_nil)))) pa_nil)))) (pw_or1 (pt_not (pt_val (pe_callB call_isiE (by rfl) B.isi PyProof.Rows.boot_isinstance (pa_cons (pv 6) (pa_cons (pe_bltn (v := .ty "Exception") (by rfl) B.ex (by decide +kernel) rfl) pa_nil))))))).pt (pss_one (ps_ret pe_bl)) pss_nil)))))
        (pss_one (ps_if (pt_cmpR op_ne (pe_callB (call_reprD hg hu) (by rfl) B.repr PyProof.Rows.boot_repr (pa_cons (pe_ef (pe_mkD X.x18 hr2 (pa_cons pe_int (pa_cons (pv 4) pa_nil)))) pa_nil)) (pe_callB (call_reprD hg hu) (by rfl) B.repr PyProof.Rows.boot_repr (pa_cons (pv 4) pa_nil)) (nomark _)) (pss_one (ps_ret pe_bl)) pss_nil)))))))
        (pss_one (ps_ret pe_bl))), ?_⟩
  -- the turns
  refine ⟨_, rfl, a, _, rfl, .inl hS, _, _, rfl, _, _, rfl, _, rfl, ?_, ?_, ?_⟩
  · rw [List.length_map]; split <;> split <;> omega
  · rw [List.length_map]; split <;> split <;> omega
  refine for_range (fun i σ H' => ∃ v1 v2 v3 v4 v5 v6 v7, σ = [some (V.ref a), v1, v2, v3, v4, v5, v6, v7] ∧ Same H H') ⟨_, _, _, _, _, _, _, rfl, Same.refl H⟩ ?_ (fun σ H' _ => rfl)
  rintro i σ H' hi ⟨v1, v2, v3, v4, v5, v6, v7, rfl, S⟩
  have hi63 : i ≤ 1000 := by
    rw [List.length_map] at hi
    split at hi <;> split at hi <;> omega
  -- the source
  refine ⟨_, rfl, _, rfl, a, ns, i, by rw [Int.zero_add]; rfl, S.seq hS, hi63, fun p x0 y0 hp hsrc => ?_⟩
  have np : H p = none := S.free hp
  replace S := Same.updN (o := HO.lst [.int x0, .int y0]) S np
  have lp : upd H' p (HO.lst [.int x0, .int y0]) p = some (.lst [.int x0, .int y0]) := upd_same
  generalize upd H' p (HO.lst [.int x0, .int y0]) = H1 at S lp ⊢
  -- the number
  refine ⟨_, rfl, _, _, rfl, rfl, ⟨by decide, by decide, by decide⟩, p, x0, y0, _, rfl, lp, hsrc, by decide, by decide, fun x1 y1 d1 hsrc1 d10 d11 => ?_⟩
  replace d11 : d1 < 1000000 := d11
  replace S := Same.updN (o := HO.lst [.int x1, .int y1]) S np
  replace lp : upd H1 p (HO.lst [.int x1, .int y1]) p = some (.lst [.int x1, .int y1]) := upd_same
  generalize upd H1 p (HO.lst [.int x1, .int y1]) = H2 at S lp ⊢
  refine ⟨_, _, rfl, rfl, ?_⟩
  -- the eight objects
  refine ⟨_, rfl, by show 2 ≤ sizeLine; decide, fun t1 n1 => ?_⟩
  have m1 := S.free n1
  replace S := Same.updN (o := HO.tup [.int 1, .int 2]) S m1
  have g1 : upd H2 t1 (HO.tup [.int 1, .int 2]) t1 = some (.tup [.int 1, .int 2]) := upd_same
  replace lp := Same.upd (o := HO.tup [.int 1, .int 2]) n1 _ _ lp
  generalize upd H2 t1 (HO.tup [.int 1, .int 2]) = H3 at S lp g1 ⊢
  refine ⟨_, rfl, by show 1 ≤ sizeLine; decide, fun t2 n2 => ?_⟩
  have m2 := S.free n2
  replace S := Same.updN (o := HO.lst [.int (d1 - 500)]) S m2
  have g2 : upd H3 t2 (HO.lst [.int (d1 - 500)]) t2 = some (.lst [.int (d1 - 500)]) := upd_same
  replace lp := Same.upd (o := HO.lst [.int (d1 - 500)]) n2 _ _ lp
  replace g1 := Same.upd (o := HO.lst [.int (d1 - 500)]) n2 _ _ g1
  generalize upd H3 t2 (HO.lst [.int (d1 - 500)]) = H4 at S lp g1 g2 ⊢
  intro t3 n3
  refine ⟨_, rfl, upd_same, [(Sum.inl 1, V.int (d1 - 500))], rfl, by show 1 ≤ 15; decide, ?_⟩
  have em : mergeK [] [(Sum.inl (1 : Int), V.int (d1 - 500))] = ([(Sum.inl 1, V.int (d1 - 500))] : List (Key × V)) := rfl
  rw [em, EX.upd_upd]
  have m3 := S.free n3
  replace S := Same.updN (o := HO.dK [(Sum.inl 1, V.int (d1 - 500))]) S m3
  have g3 : upd H4 t3 (HO.dK [(Sum.inl 1, V.int (d1 - 500))]) t3 = some (.dK [(Sum.inl 1, V.int (d1 - 500))]) := upd_same
  have s3 := Same.upd (o := HO.dK [(Sum.inl 1, V.int (d1 - 500))]) n3
  replace lp := s3 _ _ lp; replace g1 := s3 _ _ g1; replace g2 := s3 _ _ g2
  generalize upd H4 t3 (HO.dK [(Sum.inl 1, V.int (d1 - 500))]) = H5 at S lp g1 g2 g3 ⊢
  clear s3 em
  refine ⟨by show 0 ≤ sizeLine; decide, fun t4 n4 => ?_⟩
  have m4 := S.free n4
  have s4 := Same.upd (o := HO.tup []) n4
  replace S := Same.updN (o := HO.tup []) S m4
  have g4 : upd H5 t4 (HO.tup []) t4 = some (.tup []) := upd_same
  replace lp := s4 _ _ lp; replace g1 := s4 _ _ g1; replace g2 := s4 _ _ g2; replace g3 := s4 _ _ g3
  generalize upd H5 t4 (HO.tup []) = H6 at S lp g1 g2 g3 g4 ⊢
  clear s4
  refine ⟨by show 8 ≤ sizeLine; decide, fun t5 n5 => ?_⟩
  have m5 := S.free n5
  have s5 := Same.upd (o := HO.lst [V.int (d1 - 500), .non, .bl true, .str "text", .ref t1, .ref t2, .ref t3, .ref t4]) n5
  replace S := Same.updN (o := HO.lst [V.int (d1 - 500), .non, .bl true, .str "text", .ref t1, .ref t2, .ref t3, .ref t4]) S m5
  have g5 : upd H6 t5 (HO.lst [V.int (d1 - 500), .non, .bl true, .str "text", .ref t1, .ref t2, .ref t3, .ref t4]) t5 = some (.lst [V.int (d1 - 500), .non, .bl true, .str "text", .ref t1, .ref t2, .ref t3, .ref t4]) := upd_same
  replace lp := s5 _ _ lp; replace g1 := s5 _ _ g1; replace g2 := s5 _ _ g2; replace g3 := s5 _ _ g3; replace g4 := s5 _ _ g4
  generalize upd H6 t5 (HO.lst [V.int (d1 - 500), .non, .bl true, .str "text", .ref t1, .ref t2, .ref t3, .ref t4]) = H7 at S lp g1 g2 g3 g4 g5 ⊢
  clear s5
  refine ⟨_, rfl, p, x1, y1, 8, rfl, lp, hsrc1, by decide, by decide, fun x2 y2 d2 hsrc2 d20 d21 => ?_⟩
  have ne : ∀ {q : Addr} {o : HO}, H7 q = some o → o ≠ HO.lst [V.int x1, V.int y1] → upd H7 p (HO.lst [.int x2, .int y2]) q = some o := fun {q o} e no => by
    rw [upd_ne (fun z => by rw [z, lp] at e; exact no (Option.some.inj e).symm)]
    exact e
  replace S := Same.updN (o := HO.lst [.int x2, .int y2]) S np
  have k1 := ne g1 (fun z => by cases z)
  have k2 := ne g2 (fun z => by cases z)
  have k3 := ne g3 (fun z => by cases z)
  have k4 := ne g4 (fun z => by cases z)
  have k5 := ne g5 (fun z => by cases z)
  clear ne g1 g2 g3 g4 g5 lp
  generalize upd H7 p (HO.lst [.int x2, .int y2]) = H8 at S k1 k2 k3 k4 k5 ⊢
  obtain ⟨v, dd, hat, hit⟩ : ∃ v dd, atI [V.int (d1 - 500), .non, .bl true, .str "text", .ref t1, .ref t2, .ref t3, .ref t4] d2 = some v ∧ ItemOk H8 (d1 - 500) v dd := by
    obtain rfl | rfl | rfl | rfl | rfl | rfl | rfl | rfl : d2 = 0 ∨ d2 = 1 ∨ d2 = 2 ∨ d2 = 3 ∨ d2 = 4 ∨ d2 = 5 ∨ d2 = 6 ∨ d2 = 7 := by omega
    · exact ⟨_, _, rfl, .int⟩
    · exact ⟨_, _, rfl, .non⟩
    · exact ⟨_, _, rfl, .bl⟩
    · exact ⟨_, _, rfl, .str⟩
    · exact ⟨_, _, rfl, .tup k1⟩
    · exact ⟨_, _, rfl, .lst k2⟩
    · exact ⟨_, _, rfl, .dic k3⟩
    · exact ⟨_, _, rfl, .nil k4⟩
  refine ⟨t5, _, d2, v, rfl, rfl, SqL.of k5, hat, ?_⟩
  clear hat k1 k2 k3 k4 k5
  obtain ⟨hsh, hdp, hsz⟩ := hit.small (by omega) (by omega)
  -- the exceptions, one by one
  refine ⟨_, rfl, v, rfl, fun pl al H9 s9 E9 l9 => ?_⟩
  replace hit := hit.mono s9
  replace S := Same.trans S s9
  clear s9
  refine ⟨pl, _, rfl, SqL.of l9, ?_⟩
  have hal : al.length = 19 := (Paired.length E9).symm
  refine for_it (walk_enum (K := K) (a := pl) (xs := al.map fun x => V.ref x.1)) (fun i' σ H' => ∃ w5 w6 w7, σ = [some (V.ref a), some (V.int (0 + (i : Int))), some (V.ref p), some (V.int (d1 - 500)), some v, w5, w6, w7] ∧ Same H9 H') ⟨_, _, _, rfl, Same.refl _⟩
    (fun i' σ H' _ ⟨_, _, _, _, z⟩ => z.seq (SqL.of l9)) ?_ ?_
  · rintro n x σ H' H'' hn ⟨w5, w6, w7, rfl, S9⟩ ⟨tq, x1', y1', rfl, ntq, rfl, q1, q2⟩
    obtain rfl := Option.some.inj q1
    obtain ⟨⟨ai, di⟩, hx, rfl⟩ : ∃ x, al[n]? = some x ∧ V.ref x.1 = y1' := by
      replace q2 : (al.map fun x => V.ref x.1)[n]? = some y1' := q2
      rw [List.getElem?_map] at q2
      cases h : al[n]? with
      | none =>
        rw [h] at q2
        cases q2
      | some x =>
        rw [h] at q2
        exact ⟨x, rfl, Option.some.inj q2⟩
    obtain ⟨C, fs, hcs, e1, e2⟩ := E9.get hx
    obtain ⟨hC, fn, hfn, hlk⟩ := tab_get hcs
    have G := CFs n C hC
    have s10 := Same.upd (o := HO.tup [V.int (n : Nat), V.ref ai]) ntq
    have lt : upd H' tq (HO.tup [V.int (n : Nat), V.ref ai]) tq = some (.tup [V.int (n : Nat), V.ref ai]) := upd_same
    replace S9 := Same.trans S9 s10
    generalize upd H' tq (HO.tup [V.int (n : Nat), V.ref ai]) = H10 at S9 lt ⊢
    clear s10 ntq
    replace e1 := S9 _ _ e1
    replace e2 := S9 _ _ e2
    replace hit := hit.mono S9
    refine ⟨tq, _, rfl, SqT.of lt, rfl, _, _, rfl, _, _, rfl, rfl, ?_⟩
    clear lt
    -- kinds
    refine ⟨_, rfl, ai, C, di, fs, _, rfl, G.T, e1, e2, G.one, fun pk H11 s11 lk => ?_⟩
    replace e1 := s11 _ _ e1
    replace e2 := s11 _ _ e2
    replace hit := hit.mono s11
    replace S9 := Same.trans S9 s11
    clear s11
    refine ⟨19, rfl, by decide, by decide, fun Dl hD => ?_⟩
    refine lc_range (lo := 0) (n := 19) (fun j H' => H' Dl = some (.lst (((List.range j).map fun q => decide (q = n)).map V.bl)) ∧ Same H11 H') ⟨upd_same, Same.upd hD⟩ ?_ ?_
    · rintro j H12 hj ⟨lD, sD⟩
      refine ⟨rfl, ?_⟩
      refine ⟨_, rfl, _, rfl, rfl, _, lD, ?_, ?_, ?_⟩
      · rw [List.length_map, List.length_map, List.length_range]
        exact Nat.lt_of_lt_of_le hj (by decide)
      · rw [upd_same, List.range_succ, List.map_append, List.map_append]
        have eb : decide (V.int (0 + (j : Int)) = V.int (n : Int)) = decide (j = n) := by
          rw [dec_int, Int.zero_add]
          by_cases h : j = n
          · subst h
            simp
          · rw [decide_eq_false h]
            simp only [beq_eq_false_iff_ne, ne_eq]
            omega
        rw [eb]
        rfl
      · exact Same.updN sD hD
    · rintro H12 ⟨lD, sD⟩
      replace lk := sD _ _ lk
      replace e1 := sD _ _ e1
      replace e2 := sD _ _ e2
      replace hit := hit.mono sD
      replace S9 := Same.trans S9 sD
      clear sD
      refine ⟨_, _, .lst (SqL.of lk) (dpB _), .lst (SqL.of lD) (dpB _), shapedB _, shapedB _, _, rfl, ?_⟩
      rw [eqvB]
      refine iteF ?_
      clear lk lD
      -- repr, CacheError
      refine ⟨_, rfl, _, rfl, n, ai, C, di, fs, v, fn, rfl, G.T, e1, e2, hfn, G.no fn hfn, hlk, fun H13 s13 => ?_⟩
      replace e1 := s13 _ _ e1
      replace e2 := s13 _ _ e2
      replace hit := hit.mono s13
      replace S9 := Same.trans S9 s13
      clear s13
      refine ⟨v, dd, rfl, hit.rp, hsh, hdp, hsz, _, rfl, v, dd, rfl, hit.rp, hsh, hdp, hsz, rfl, _, rfl, iteNS rfl ?_⟩
      refine ⟨_, rfl, ai, C, di, fs, _, _, true, rfl, e1, e2, G.T, .own cb, G.cbT, true, rfl, iteF ?_⟩
      -- the built-in classes
      refine ⟨_, rfl, by show 3 ≤ sizeLine; decide, fun tt ntt => ?_⟩
      have s14 := Same.upd (o := HO.tup [.ty "ValueError", .ty "LookupError", .ty "RuntimeError"]) ntt
      have l14 : upd H13 tt (HO.tup [.ty "ValueError", .ty "LookupError", .ty "RuntimeError"]) tt = some (.tup [.ty "ValueError", .ty "LookupError", .ty "RuntimeError"]) := upd_same
      generalize upd H13 tt (HO.tup [.ty "ValueError", .ty "LookupError", .ty "RuntimeError"]) = H14 at s14 l14 ⊢
      replace e1 := s14 _ _ e1
      replace e2 := s14 _ _ e2
      replace S9 := Same.trans S9 s14
      clear s14 ntt
      refine ⟨ai, C, di, tt, fs, _, _, false, rfl, e1, e2, G.T, l14, .cons (.ty "ValueError") (.cons (.ty "LookupError") (.cons (.ty "RuntimeError") .nil)), G.anyF, false, rfl, iteF ?_⟩
      refine ⟨_, rfl, ai, C, di, fs, _, _, true, rfl, e1, e2, G.T, .ty "Exception", G.exT, true, rfl, iteF ?_⟩
      exact ⟨_, _, _, rfl, S9⟩
  · rintro σ H' ⟨w5, w6, w7, rfl, S9⟩
    replace hit := hit.mono S9
    refine rd_seq (rd_if (rd_test (rd_op (rd_cb (rd_cons (rd_ef (rd_mk2' (i := 4) (v := v) rfl fun a18 d18 H20 s20 e1 e2 => ?_)))))))
    replace hit := hit.mono s20
    replace S9 := Same.trans S9 s20
    refine ⟨a18, c18, d18, _, v, rfl, X.x18.T, noR, e1, e2, rfl, ?_⟩
    refine ⟨v, dd, rfl, hit.rp, hsh, hdp, hsz, _, rfl, v, dd, rfl, hit.rp, hsh, hdp, hsz, rfl, _, rfl, iteNS rfl ?_⟩
    exact ⟨_, _, _, _, _, _, _, rfl, Same.trans S S9⟩
end
end K24
set_option Elab.async false
set_option linter.all false
set_option maxRecDepth 100000
set_option maxHeartbeats 4000000
namespace K24
open PySem L2 EX PyProof.Rows
/-- the facts of a class, reckoned over the written part -/
def ecB (K : PySem.W.Frag) (C : Addr) : Bool :=
  PySem.W.excInitIn K C exT "Exception.__new__" && (PySem.W.excOver K C exT && (decide (PySem.W.findIn K (.ref C) "__setattr__" = some (some (.builtin "object.__setattr__"))) &&
  (decide (PySem.W.findIn K (.ref C) "__getattribute__" = some (some (.builtin "BaseException.__getattribute__"))) && (decide (PySem.W.findIn K (.ref C) "__getattr__" = some none) && (decide (PySem.W.subIn K (.ref C) (.type "BaseException") = some true) &&
  (PySem.W.hasDictIn K C && (PySem.W.keepIn K (.ref C) && ((PySem.W.clsIn K C).isSome && (decide (PySem.W.findIn K (.ref C) "__class__" = some (some (.builtin "object.__class__"))) && (decide (PySem.W.mroIn K C (.type "object") = some true) &&
  (decide (PySem.W.specialIn K (.builtin "object.__class__") "__get__" = some (some (.builtin "getset_descriptor.__get__"))) && decide (PySem.W.takesIn K (.builtin "object.__class__") = some true))))))))))))
theorem ecB_ok {K : PySem.W.Frag} {C : Addr} (h : ecB K C = true) : EcC K C := by
  simp only [ecB, Bool.and_eq_true, decide_eq_true_eq] at h
  obtain ⟨h1, h2, h3, h4, h5, h6, h7, h8, h9, h10, h11, h12, h13⟩ := h
  exact ⟨h1, h2, h3, h4, h5, h6, h7, h8, h9, h10, h11, h12, h13⟩
def onesB (K : PySem.W.Frag) (C : Addr) : List Addr → List Bool → Bool
  | [], [] => true
  | c :: cs, b :: bs => decide (PySem.W.kitOne K (.ref C) (.ref c) = some b) && onesB K C cs bs
  | _, _ => false
theorem onesB_ok {K : PySem.W.Frag} {C : Addr} : ∀ {cs : List Addr} {bs : List Bool}, onesB K C cs bs = true → Paired (fun (c : Addr) (b : Bool) => PySem.W.kitOne K (.ref C) (.ref c) = some b) cs bs
  | [], [], _ => .nil
  | c :: cs, b :: bs, h => by
    simp only [onesB, Bool.and_eq_true, decide_eq_true_eq] at h
    exact .cons h.1 (onesB_ok h.2)
  | [], _ :: _, h => by cases h
  | _ :: _, [], h => by cases h
def cfB (K : PySem.W.Frag) (cs : List Addr) (cb C : Addr) (i : Nat) : Bool :=
  ecB K C && (onesB K C cs ((List.range 19).map fun j => decide (j = i)) && (decide (PySem.W.kitOne K (.ref C) (.ref cb) = some true) &&
  (decide (PySem.W.kitAny K (.ref C) [.type "ValueError", .type "LookupError", .type "RuntimeError"] = some false) && (decide (PySem.W.kitOne K (.ref C) (.type "Exception") = some true) &&
  match fName i with
    | some f => decide (PySem.W.findIn K (.ref C) f = some none) && decide (PySem.W.takerIn K C f = some none)
    | none => false))))
theorem cfB_ok {K : PySem.W.Frag} {cs : List Addr} {cb C : Addr} {i : Nat} (h : cfB K cs cb C i = true) : CF K cs cb C i := by
  simp only [cfB, Bool.and_eq_true, decide_eq_true_eq] at h
  obtain ⟨h1, h2, h3, h4, h5, h6⟩ := h
  refine ⟨ecB_ok h1, onesB_ok h2, h3, h4, h5, fun f e => ?_⟩
  rw [e] at h6
  simp only [Bool.and_eq_true, decide_eq_true_eq] at h6
  exact h6.1
theorem cfB_tk {K : PySem.W.Frag} {cs : List Addr} {cb C : Addr} {i : Nat} {f : Str} (h : cfB K cs cb C i = true) (e : fName i = some f) : PySem.W.takerIn K C f = some none := by
  simp only [cfB, Bool.and_eq_true, decide_eq_true_eq] at h
  obtain ⟨h1, h2, h3, h4, h5, h6⟩ := h
  rw [e] at h6
  simp only [Bool.and_eq_true, decide_eq_true_eq] at h6
  exact h6.2
/-- a def that stands in the written part -/
structure FnAt (K : PySem.W.Frag) (x qual : Str) (st : Stmt) (f : Addr) : Prop where
  ex : ∃ fd, Fun K x qual st f fd
theorem fnAt {K : PySem.W.Frag} {x qual : Str} {st : Stmt} {f : Addr} {oc : Value} {od an : Option Addr} {osl : Array (Option Value)} {kV doc pm cdv ct : Value} (l : K.lookup f = some ⟨oc, od, .func (PySem.W.fnOf x qual (defArgs st) (defBody st) (defScope st) .none kV doc pm an cdv ct), osl⟩)
    (c : PySem.W.codeIn K cdv qual = true) (k : PySem.W.keepIn K (.ref f) = true) : FnAt K x qual st f := ⟨_, fun_mk (st := st) l c k⟩

theorem all_mk {l : PySem.W.OpenLaw} {w : World} {K : PySem.W.Frag} {h : Heap} {mg : Str → Option Value} {fa : Addr} {c0 c1 c2 c3 c4 c5 c6 c7 c8 c9 c10 c11 c12 c13 c14 c15 c16 c17 c18 f0 f1 f2 f3 f4 f5 f6 f7 f8 f9 f10 f11 f12 f13 f14 f15 f16 f17 f18 cb fL fSource fDraw fAll fKinds fHeld : Addr} (KX : K.In h) (G : h.Ns mainGlobals mg) (hfa : mg "law" = some (.ref fa))
    (a0 : PySem.W.nsIn K mainGlobals "InvalidKeys" = some (some (.ref c0)))
    (i0 : PySem.W.findIn K (.ref c0) "__init__" = some (some (.ref f0)))
    (t0 : PySem.W.typeIn K (.ref f0) = some (.type "function"))
    (F0 : FnAt K "__init__" "InvalidKeys.__init__" sI0 f0)
    (a1 : PySem.W.nsIn K mainGlobals "InvalidName" = some (some (.ref c1)))
    (i1 : PySem.W.findIn K (.ref c1) "__init__" = some (some (.ref f1)))
    (t1 : PySem.W.typeIn K (.ref f1) = some (.type "function"))
    (F1 : FnAt K "__init__" "InvalidName.__init__" sI1 f1)
    (a2 : PySem.W.nsIn K mainGlobals "InvalidValue" = some (some (.ref c2)))
    (i2 : PySem.W.findIn K (.ref c2) "__init__" = some (some (.ref f2)))
    (t2 : PySem.W.typeIn K (.ref f2) = some (.type "function"))
    (F2 : FnAt K "__init__" "InvalidValue.__init__" sI2 f2)
    (a3 : PySem.W.nsIn K mainGlobals "InvalidNeed" = some (some (.ref c3)))
    (i3 : PySem.W.findIn K (.ref c3) "__init__" = some (some (.ref f3)))
    (t3 : PySem.W.typeIn K (.ref f3) = some (.type "function"))
    (F3 : FnAt K "__init__" "InvalidNeed.__init__" sI3 f3)
    (a4 : PySem.W.nsIn K mainGlobals "InvalidAllowance" = some (some (.ref c4)))
    (i4 : PySem.W.findIn K (.ref c4) "__init__" = some (some (.ref f4)))
    (t4 : PySem.W.typeIn K (.ref f4) = some (.type "function"))
    (F4 : FnAt K "__init__" "InvalidAllowance.__init__" sI4 f4)
    (a5 : PySem.W.nsIn K mainGlobals "InvalidDeed" = some (some (.ref c5)))
    (i5 : PySem.W.findIn K (.ref c5) "__init__" = some (some (.ref f5)))
    (t5 : PySem.W.typeIn K (.ref f5) = some (.type "function"))
    (F5 : FnAt K "__init__" "InvalidDeed.__init__" sI5 f5)
    (a6 : PySem.W.nsIn K mainGlobals "InvalidHistory" = some (some (.ref c6)))
    (i6 : PySem.W.findIn K (.ref c6) "__init__" = some (some (.ref f6)))
    (t6 : PySem.W.typeIn K (.ref f6) = some (.type "function"))
    (F6 : FnAt K "__init__" "InvalidHistory.__init__" sI6 f6)
    (a7 : PySem.W.nsIn K mainGlobals "UnknownNode" = some (some (.ref c7)))
    (i7 : PySem.W.findIn K (.ref c7) "__init__" = some (some (.ref f7)))
    (t7 : PySem.W.typeIn K (.ref f7) = some (.type "function"))
    (F7 : FnAt K "__init__" "UnknownNode.__init__" sI7 f7)
    (a8 : PySem.W.nsIn K mainGlobals "UnknownKey" = some (some (.ref c8)))
    (i8 : PySem.W.findIn K (.ref c8) "__init__" = some (some (.ref f8)))
    (t8 : PySem.W.typeIn K (.ref f8) = some (.type "function"))
    (F8 : FnAt K "__init__" "UnknownKey.__init__" sI8 f8)
    (a9 : PySem.W.nsIn K mainGlobals "UnknownQuestion" = some (some (.ref c9)))
    (i9 : PySem.W.findIn K (.ref c9) "__init__" = some (some (.ref f9)))
    (t9 : PySem.W.typeIn K (.ref f9) = some (.type "function"))
    (F9 : FnAt K "__init__" "UnknownQuestion.__init__" sI9 f9)
    (a10 : PySem.W.nsIn K mainGlobals "NoCopy" = some (some (.ref c10)))
    (i10 : PySem.W.findIn K (.ref c10) "__init__" = some (some (.ref f10)))
    (t10 : PySem.W.typeIn K (.ref f10) = some (.type "function"))
    (F10 : FnAt K "__init__" "NoCopy.__init__" sI10 f10)
    (a11 : PySem.W.nsIn K mainGlobals "NameTaken" = some (some (.ref c11)))
    (i11 : PySem.W.findIn K (.ref c11) "__init__" = some (some (.ref f11)))
    (t11 : PySem.W.typeIn K (.ref f11) = some (.type "function"))
    (F11 : FnAt K "__init__" "NameTaken.__init__" sI11 f11)
    (a12 : PySem.W.nsIn K mainGlobals "NotReady" = some (some (.ref c12)))
    (i12 : PySem.W.findIn K (.ref c12) "__init__" = some (some (.ref f12)))
    (t12 : PySem.W.typeIn K (.ref f12) = some (.type "function"))
    (F12 : FnAt K "__init__" "NotReady.__init__" sI12 f12)
    (a13 : PySem.W.nsIn K mainGlobals "HasChildren" = some (some (.ref c13)))
    (i13 : PySem.W.findIn K (.ref c13) "__init__" = some (some (.ref f13)))
    (t13 : PySem.W.typeIn K (.ref f13) = some (.type "function"))
    (F13 : FnAt K "__init__" "HasChildren.__init__" sI13 f13)
    (a14 : PySem.W.nsIn K mainGlobals "NotCrashed" = some (some (.ref c14)))
    (i14 : PySem.W.findIn K (.ref c14) "__init__" = some (some (.ref f14)))
    (t14 : PySem.W.typeIn K (.ref f14) = some (.type "function"))
    (F14 : FnAt K "__init__" "NotCrashed.__init__" sI14 f14)
    (a15 : PySem.W.nsIn K mainGlobals "Busy" = some (some (.ref c15)))
    (i15 : PySem.W.findIn K (.ref c15) "__init__" = some (some (.ref f15)))
    (t15 : PySem.W.typeIn K (.ref f15) = some (.type "function"))
    (F15 : FnAt K "__init__" "Busy.__init__" sI15 f15)
    (a16 : PySem.W.nsIn K mainGlobals "TooLow" = some (some (.ref c16)))
    (i16 : PySem.W.findIn K (.ref c16) "__init__" = some (some (.ref f16)))
    (t16 : PySem.W.typeIn K (.ref f16) = some (.type "function"))
    (F16 : FnAt K "__init__" "TooLow.__init__" sI16 f16)
    (a17 : PySem.W.nsIn K mainGlobals "LimitExceeded" = some (some (.ref c17)))
    (i17 : PySem.W.findIn K (.ref c17) "__init__" = some (some (.ref f17)))
    (t17 : PySem.W.typeIn K (.ref f17) = some (.type "function"))
    (F17 : FnAt K "__init__" "LimitExceeded.__init__" sI17 f17)
    (a18 : PySem.W.nsIn K mainGlobals "NoMessage" = some (some (.ref c18)))
    (i18 : PySem.W.findIn K (.ref c18) "__init__" = some (some (.ref f18)))
    (t18 : PySem.W.typeIn K (.ref f18) = some (.type "function"))
    (F18 : FnAt K "__init__" "NoMessage.__init__" sI18 f18)
    (aCB : PySem.W.nsIn K mainGlobals "CacheError" = some (some (.ref cb)))
    (aL : PySem.W.nsIn K mainGlobals "law" = some (some (.ref fL)))
    (FL : FnAt K "law" "law" sLaw fL)
    (aSource : PySem.W.nsIn K mainGlobals "_law_source" = some (some (.ref fSource)))
    (FSource : FnAt K "_law_source" "_law_source" sSource fSource)
    (aDraw : PySem.W.nsIn K mainGlobals "_law_draw" = some (some (.ref fDraw)))
    (FDraw : FnAt K "_law_draw" "_law_draw" sDraw fDraw)
    (aAll : PySem.W.nsIn K mainGlobals "_law_all" = some (some (.ref fAll)))
    (FAll : FnAt K "_law_all" "_law_all" sAll fAll)
    (aKinds : PySem.W.nsIn K mainGlobals "_law_kinds" = some (some (.ref fKinds)))
    (FKinds : FnAt K "_law_kinds" "_law_kinds" sKinds fKinds)
    (aHeld : PySem.W.nsIn K mainGlobals "_law_held" = some (some (.ref fHeld)))
    (FHeld : FnAt K "_law_held" "_law_held" sHeld fHeld)
    (z_range : PySem.W.nsIn K mainGlobals "range" = some none)
    (z_max : PySem.W.nsIn K mainGlobals "max" = some none)
    (z_min : PySem.W.nsIn K mainGlobals "min" = some none)
    (z_len : PySem.W.nsIn K mainGlobals "len" = some none)
    (z_enumerate : PySem.W.nsIn K mainGlobals "enumerate" = some none)
    (z_repr : PySem.W.nsIn K mainGlobals "repr" = some none)
    (z_isinstance : PySem.W.nsIn K mainGlobals "isinstance" = some none)
    (z_ValueError : PySem.W.nsIn K mainGlobals "ValueError" = some none)
    (z_LookupError : PySem.W.nsIn K mainGlobals "LookupError" = some none)
    (z_RuntimeError : PySem.W.nsIn K mainGlobals "RuntimeError" = some none)
    (z_Exception : PySem.W.nsIn K mainGlobals "Exception" = some none)
    (tbl : ((cfB K (cl c0 c1 c2 c3 c4 c5 c6 c7 c8 c9 c10 c11 c12 c13 c14 c15 c16 c17 c18) cb c0 0 && cfB K (cl c0 c1 c2 c3 c4 c5 c6 c7 c8 c9 c10 c11 c12 c13 c14 c15 c16 c17 c18) cb c1 1 && cfB K (cl c0 c1 c2 c3 c4 c5 c6 c7 c8 c9 c10 c11 c12 c13 c14 c15 c16 c17 c18) cb c2 2 && cfB K (cl c0 c1 c2 c3 c4 c5 c6 c7 c8 c9 c10 c11 c12 c13 c14 c15 c16 c17 c18) cb c3 3 && cfB K (cl c0 c1 c2 c3 c4 c5 c6 c7 c8 c9 c10 c11 c12 c13 c14 c15 c16 c17 c18) cb c4 4 && cfB K (cl c0 c1 c2 c3 c4 c5 c6 c7 c8 c9 c10 c11 c12 c13 c14 c15 c16 c17 c18) cb c5 5 && cfB K (cl c0 c1 c2 c3 c4 c5 c6 c7 c8 c9 c10 c11 c12 c13 c14 c15 c16 c17 c18) cb c6 6 && cfB K (cl c0 c1 c2 c3 c4 c5 c6 c7 c8 c9 c10 c11 c12 c13 c14 c15 c16 c17 c18) cb c7 7 && cfB K (cl c0 c1 c2 c3 c4 c5 c6 c7 c8 c9 c10 c11 c12 c13 c14 c15 c16 c17 c18) cb c8 8 && cfB K (cl c0 c1 c2 c3 c4 c5 c6 c7 c8 c9 c10 c11 c12 c13 c14 c15 c16 c17 c18) cb c9 9 && cfB K (cl c0 c1 c2 c3 c4 c5 c6 c7 c8 c9 c10 c11 c12 c13 c14 c15 c16 c17 c18) cb c10 10 && cfB K (cl c0 c1 c2 c3 c4 c5 c6 c7 c8 c9 c10 c11 c12 c13 c14 c15 c16 c17 c18) cb c11 11 && cfB K (cl c0 c1 c2 c3 c4 c5 c6 c7 c8 c9 c10 c11 c12 c13 c14 c15 c16 c17 c18) cb c12 12 && cfB K (cl c0 c1 c2 c3 c4 c5 c6 c7 c8 c9 c10 c11 c12 c13 c14 c15 c16 c17 c18) cb c13 13 && cfB K (cl c0 c1 c2 c3 c4 c5 c6 c7 c8 c9 c10 c11 c12 c13 c14 c15 c16 c17 c18) cb c14 14 && cfB K (cl c0 c1 c2 c3 c4 c5 c6 c7 c8 c9 c10 c11 c12 c13 c14 c15 c16 c17 c18) cb c15 15 && cfB K (cl c0 c1 c2 c3 c4 c5 c6 c7 c8 c9 c10 c11 c12 c13 c14 c15 c16 c17 c18) cb c16 16 && cfB K (cl c0 c1 c2 c3 c4 c5 c6 c7 c8 c9 c10 c11 c12 c13 c14 c15 c16 c17 c18) cb c17 17 && cfB K (cl c0 c1 c2 c3 c4 c5 c6 c7 c8 c9 c10 c11 c12 c13 c14 c15 c16 c17 c18) cb c18 18) && (decide (PySem.W.findIn K (.ref c18) "receiver" = some none) && decide (PySem.W.takerIn K c18 "receiver" = some none))) = true)
    : ∀ base : Heap, K.In base → base.Ns mainGlobals mg → ∀ (s : Shared) (H : Hp) (a : Addr) (ns : List Int), ns.length ≤ 63 → SqL K H a (ns.map V.int) → Env0 l.prog w K mg base callerA [] s H →
      codeAny (model l.prog w) callerA (.call (.ref fa) ⟨[.ref a], []⟩) (CR CX0 [] l.prog w H s (fun v _ => v = .bl true) E0) s := by
  intro base KB GB s H a ns hns hS e0
  have e := hfa.symm.trans (PySem.W.mg_of KX G aL)
  cases e
  simp only [Bool.and_eq_true, decide_eq_true_eq] at tbl
  obtain ⟨⟨⟨⟨⟨⟨⟨⟨⟨⟨⟨⟨⟨⟨⟨⟨⟨⟨⟨k0, k1⟩, k2⟩, k3⟩, k4⟩, k5⟩, k6⟩, k7⟩, k8⟩, k9⟩, k10⟩, k11⟩, k12⟩, k13⟩, k14⟩, k15⟩, k16⟩, k17⟩, k18⟩, noR, tkR⟩ := tbl
  have CFs : ∀ i C, (cl c0 c1 c2 c3 c4 c5 c6 c7 c8 c9 c10 c11 c12 c13 c14 c15 c16 c17 c18)[i]? = some C → CF K (cl c0 c1 c2 c3 c4 c5 c6 c7 c8 c9 c10 c11 c12 c13 c14 c15 c16 c17 c18) cb C i := by
    intro i C hC
    have hi : i < 19 := (List.getElem?_eq_some_iff.mp hC).1
    obtain rfl | rfl | rfl | rfl | rfl | rfl | rfl | rfl | rfl | rfl | rfl | rfl | rfl | rfl | rfl | rfl | rfl | rfl | rfl : i = 0 ∨ i = 1 ∨ i = 2 ∨ i = 3 ∨ i = 4 ∨ i = 5 ∨ i = 6 ∨ i = 7 ∨ i = 8 ∨ i = 9 ∨ i = 10 ∨ i = 11 ∨ i = 12 ∨ i = 13 ∨ i = 14 ∨ i = 15 ∨ i = 16 ∨ i = 17 ∨ i = 18 := by omega
    · obtain rfl := Option.some.inj (show some c0 = some C from hC); exact cfB_ok k0
    · obtain rfl := Option.some.inj (show some c1 = some C from hC); exact cfB_ok k1
    · obtain rfl := Option.some.inj (show some c2 = some C from hC); exact cfB_ok k2
    · obtain rfl := Option.some.inj (show some c3 = some C from hC); exact cfB_ok k3
    · obtain rfl := Option.some.inj (show some c4 = some C from hC); exact cfB_ok k4
    · obtain rfl := Option.some.inj (show some c5 = some C from hC); exact cfB_ok k5
    · obtain rfl := Option.some.inj (show some c6 = some C from hC); exact cfB_ok k6
    · obtain rfl := Option.some.inj (show some c7 = some C from hC); exact cfB_ok k7
    · obtain rfl := Option.some.inj (show some c8 = some C from hC); exact cfB_ok k8
    · obtain rfl := Option.some.inj (show some c9 = some C from hC); exact cfB_ok k9
    · obtain rfl := Option.some.inj (show some c10 = some C from hC); exact cfB_ok k10
    · obtain rfl := Option.some.inj (show some c11 = some C from hC); exact cfB_ok k11
    · obtain rfl := Option.some.inj (show some c12 = some C from hC); exact cfB_ok k12
    · obtain rfl := Option.some.inj (show some c13 = some C from hC); exact cfB_ok k13
    · obtain rfl := Option.some.inj (show some c14 = some C from hC); exact cfB_ok k14
    · obtain rfl := Option.some.inj (show some c15 = some C from hC); exact cfB_ok k15
    · obtain rfl := Option.some.inj (show some c16 = some C from hC); exact cfB_ok k16
    · obtain rfl := Option.some.inj (show some c17 = some C from hC); exact cfB_ok k17
    · obtain rfl := Option.some.inj (show some c18 = some C from hC); exact cfB_ok k18
  obtain ⟨d0, G0⟩ := F0.ex
  have X0 : XcAt l.prog w K mg base "InvalidKeys" ["self", "given"] c0 (spI1 K c0 "given") := ⟨(cfB_ok k0).T, PySem.W.mg_of KX G a0, f0, d0, i0, t0, okI0 G0 (cfB_ok k0).T (cfB_tk k0 rfl), G0.binds fun _ _ _ _ _ _ us hl => match us, hl with | [_, _], _ => rfl⟩
  obtain ⟨d1, G1⟩ := F1.ex
  have X1 : XcAt l.prog w K mg base "InvalidName" ["self", "given"] c1 (spI1 K c1 "given") := ⟨(cfB_ok k1).T, PySem.W.mg_of KX G a1, f1, d1, i1, t1, okI1 G1 (cfB_ok k1).T (cfB_tk k1 rfl), G1.binds fun _ _ _ _ _ _ us hl => match us, hl with | [_, _], _ => rfl⟩
  obtain ⟨d2, G2⟩ := F2.ex
  have X2 : XcAt l.prog w K mg base "InvalidValue" ["self", "given"] c2 (spI1 K c2 "given") := ⟨(cfB_ok k2).T, PySem.W.mg_of KX G a2, f2, d2, i2, t2, okI2 G2 (cfB_ok k2).T (cfB_tk k2 rfl), G2.binds fun _ _ _ _ _ _ us hl => match us, hl with | [_, _], _ => rfl⟩
  obtain ⟨d3, G3⟩ := F3.ex
  have X3 : XcAt l.prog w K mg base "InvalidNeed" ["self", "given"] c3 (spI1 K c3 "given") := ⟨(cfB_ok k3).T, PySem.W.mg_of KX G a3, f3, d3, i3, t3, okI3 G3 (cfB_ok k3).T (cfB_tk k3 rfl), G3.binds fun _ _ _ _ _ _ us hl => match us, hl with | [_, _], _ => rfl⟩
  obtain ⟨d4, G4⟩ := F4.ex
  have X4 : XcAt l.prog w K mg base "InvalidAllowance" ["self", "given"] c4 (spI1 K c4 "given") := ⟨(cfB_ok k4).T, PySem.W.mg_of KX G a4, f4, d4, i4, t4, okI4 G4 (cfB_ok k4).T (cfB_tk k4 rfl), G4.binds fun _ _ _ _ _ _ us hl => match us, hl with | [_, _], _ => rfl⟩
  obtain ⟨d5, G5⟩ := F5.ex
  have X5 : XcAt l.prog w K mg base "InvalidDeed" ["self", "given"] c5 (spI1 K c5 "given") := ⟨(cfB_ok k5).T, PySem.W.mg_of KX G a5, f5, d5, i5, t5, okI5 G5 (cfB_ok k5).T (cfB_tk k5 rfl), G5.binds fun _ _ _ _ _ _ us hl => match us, hl with | [_, _], _ => rfl⟩
  obtain ⟨d6, G6⟩ := F6.ex
  have X6 : XcAt l.prog w K mg base "InvalidHistory" ["self", "index"] c6 (spI1 K c6 "index") := ⟨(cfB_ok k6).T, PySem.W.mg_of KX G a6, f6, d6, i6, t6, okI6 G6 (cfB_ok k6).T (cfB_tk k6 rfl), G6.binds fun _ _ _ _ _ _ us hl => match us, hl with | [_, _], _ => rfl⟩
  obtain ⟨d7, G7⟩ := F7.ex
  have X7 : XcAt l.prog w K mg base "UnknownNode" ["self", "node"] c7 (spI1 K c7 "node") := ⟨(cfB_ok k7).T, PySem.W.mg_of KX G a7, f7, d7, i7, t7, okI7 G7 (cfB_ok k7).T (cfB_tk k7 rfl), G7.binds fun _ _ _ _ _ _ us hl => match us, hl with | [_, _], _ => rfl⟩
  obtain ⟨d8, G8⟩ := F8.ex
  have X8 : XcAt l.prog w K mg base "UnknownKey" ["self", "word"] c8 (spI1 K c8 "word") := ⟨(cfB_ok k8).T, PySem.W.mg_of KX G a8, f8, d8, i8, t8, okI8 G8 (cfB_ok k8).T (cfB_tk k8 rfl), G8.binds fun _ _ _ _ _ _ us hl => match us, hl with | [_, _], _ => rfl⟩
  obtain ⟨d9, G9⟩ := F9.ex
  have X9 : XcAt l.prog w K mg base "UnknownQuestion" ["self", "question"] c9 (spI1 K c9 "question") := ⟨(cfB_ok k9).T, PySem.W.mg_of KX G a9, f9, d9, i9, t9, okI9 G9 (cfB_ok k9).T (cfB_tk k9 rfl), G9.binds fun _ _ _ _ _ _ us hl => match us, hl with | [_, _], _ => rfl⟩
  obtain ⟨d10, G10⟩ := F10.ex
  have X10 : XcAt l.prog w K mg base "NoCopy" ["self", "word"] c10 (spI1 K c10 "word") := ⟨(cfB_ok k10).T, PySem.W.mg_of KX G a10, f10, d10, i10, t10, okI10 G10 (cfB_ok k10).T (cfB_tk k10 rfl), G10.binds fun _ _ _ _ _ _ us hl => match us, hl with | [_, _], _ => rfl⟩
  obtain ⟨d11, G11⟩ := F11.ex
  have X11 : XcAt l.prog w K mg base "NameTaken" ["self", "node"] c11 (spI1 K c11 "node") := ⟨(cfB_ok k11).T, PySem.W.mg_of KX G a11, f11, d11, i11, t11, okI11 G11 (cfB_ok k11).T (cfB_tk k11 rfl), G11.binds fun _ _ _ _ _ _ us hl => match us, hl with | [_, _], _ => rfl⟩
  obtain ⟨d12, G12⟩ := F12.ex
  have X12 : XcAt l.prog w K mg base "NotReady" ["self", "node"] c12 (spI1 K c12 "node") := ⟨(cfB_ok k12).T, PySem.W.mg_of KX G a12, f12, d12, i12, t12, okI12 G12 (cfB_ok k12).T (cfB_tk k12 rfl), G12.binds fun _ _ _ _ _ _ us hl => match us, hl with | [_, _], _ => rfl⟩
  obtain ⟨d13, G13⟩ := F13.ex
  have X13 : XcAt l.prog w K mg base "HasChildren" ["self", "node"] c13 (spI1 K c13 "node") := ⟨(cfB_ok k13).T, PySem.W.mg_of KX G a13, f13, d13, i13, t13, okI13 G13 (cfB_ok k13).T (cfB_tk k13 rfl), G13.binds fun _ _ _ _ _ _ us hl => match us, hl with | [_, _], _ => rfl⟩
  obtain ⟨d14, G14⟩ := F14.ex
  have X14 : XcAt l.prog w K mg base "NotCrashed" ["self", "node"] c14 (spI1 K c14 "node") := ⟨(cfB_ok k14).T, PySem.W.mg_of KX G a14, f14, d14, i14, t14, okI14 G14 (cfB_ok k14).T (cfB_tk k14 rfl), G14.binds fun _ _ _ _ _ _ us hl => match us, hl with | [_, _], _ => rfl⟩
  obtain ⟨d15, G15⟩ := F15.ex
  have X15 : XcAt l.prog w K mg base "Busy" ["self", "node"] c15 (spI1 K c15 "node") := ⟨(cfB_ok k15).T, PySem.W.mg_of KX G a15, f15, d15, i15, t15, okI15 G15 (cfB_ok k15).T (cfB_tk k15 rfl), G15.binds fun _ _ _ _ _ _ us hl => match us, hl with | [_, _], _ => rfl⟩
  obtain ⟨d16, G16⟩ := F16.ex
  have X16 : XcAt l.prog w K mg base "TooLow" ["self", "least"] c16 (spI1 K c16 "least") := ⟨(cfB_ok k16).T, PySem.W.mg_of KX G a16, f16, d16, i16, t16, okI16 G16 (cfB_ok k16).T (cfB_tk k16 rfl), G16.binds fun _ _ _ _ _ _ us hl => match us, hl with | [_, _], _ => rfl⟩
  obtain ⟨d17, G17⟩ := F17.ex
  have X17 : XcAt l.prog w K mg base "LimitExceeded" ["self", "limit"] c17 (spI1 K c17 "limit") := ⟨(cfB_ok k17).T, PySem.W.mg_of KX G a17, f17, d17, i17, t17, okI17 G17 (cfB_ok k17).T (cfB_tk k17 rfl), G17.binds fun _ _ _ _ _ _ us hl => match us, hl with | [_, _], _ => rfl⟩
  obtain ⟨d18, G18⟩ := F18.ex
  have X18 : XcAt l.prog w K mg base "NoMessage" ["self", "sender", "receiver"] c18 (spI2 K c18 "sender" "receiver") := ⟨(cfB_ok k18).T, PySem.W.mg_of KX G a18, f18, d18, i18, t18, okI18 G18 (cfB_ok k18).T (cfB_tk k18 rfl) tkR, G18.binds fun _ _ _ _ _ _ us hl => match us, hl with | [_, _, _], _ => rfl⟩
  have X : Xs l.prog w K mg base c0 c1 c2 c3 c4 c5 c6 c7 c8 c9 c10 c11 c12 c13 c14 c15 c16 c17 c18 := ⟨X0, X1, X2, X3, X4, X5, X6, X7, X8, X9, X10, X11, X12, X13, X14, X15, X16, X17, X18⟩
  have hi := PySem.W.mg_none_of KX G z_isinstance
  have B : Bn mg cb := ⟨PySem.W.mg_none_of KX G z_range, PySem.W.mg_none_of KX G z_max, PySem.W.mg_none_of KX G z_min, PySem.W.mg_none_of KX G z_len, PySem.W.mg_none_of KX G z_enumerate, PySem.W.mg_none_of KX G z_repr, PySem.W.mg_none_of KX G z_isinstance, PySem.W.mg_none_of KX G z_ValueError, PySem.W.mg_none_of KX G z_LookupError, PySem.W.mg_none_of KX G z_RuntimeError, PySem.W.mg_none_of KX G z_Exception, PySem.W.mg_of KX G aCB⟩
  obtain ⟨dL, GL⟩ := FL.ex
  obtain ⟨dSource, GSource⟩ := FSource.ex
  obtain ⟨dDraw, GDraw⟩ := FDraw.ex
  obtain ⟨dAll, GAll⟩ := FAll.ex
  obtain ⟨dKinds, GKinds⟩ := FKinds.ex
  obtain ⟨dHeld, GHeld⟩ := FHeld.ex
  have bS := GSource.binds (ps := ["_law_script", "_law_turn"]) fun _ _ _ _ _ _ us hl => match us, hl with | [_, _], _ => rfl
  have bD := GDraw.binds (ps := ["_law_source_here", "_law_amount"]) fun _ _ _ _ _ _ us hl => match us, hl with | [_, _], _ => rfl
  have bA := GAll.binds (ps := ["_law_item"]) fun _ _ _ _ _ _ us hl => match us, hl with | [_], _ => rfl
  have bK := GKinds.binds (ps := ["_law_error"]) fun _ _ _ _ _ _ us hl => match us, hl with | [_], _ => rfl
  have bH := GHeld.binds (ps := ["_law_at", "_law_error"]) fun _ _ _ _ _ _ us hl => match us, hl with | [_, _], _ => rfl
  have bL : ∀ (s : Shared) (u : Value), BindsTo s dL ⟨[u], []⟩ [("_law_script", u)] := by
    obtain ⟨oc, od, kV, doc, pm, an, cdv, ct, osl, rfl, _⟩ := GL.ex
    exact fun s u => .of_eq rfl
  exact run_law GL X B ⟨_, _, ok_source GSource ⟨B.len, B.max⟩, PySem.W.mg_of KX G aSource, GSource.kp, bS⟩ ⟨_, _, ok_draw GDraw, PySem.W.mg_of KX G aDraw, GDraw.kp, bD⟩
    ⟨_, _, ok_all GAll X, PySem.W.mg_of KX G aAll, GAll.kp, bA⟩ ⟨_, _, ok_kinds GKinds X hi, PySem.W.mg_of KX G aKinds, GKinds.kp, bK⟩ ⟨_, _, ok_held GHeld, PySem.W.mg_of KX G aHeld, GHeld.kp, bH⟩ bL e0 hS hns CFs noR
end K24
set_option Elab.async false
set_option linter.all false
set_option maxRecDepth 100000

open PySem PySem.W PyProof.Rows in
set_option maxRecDepth 100000 in
set_option maxHeartbeats 0 in
theorem PySem.Challenge.cw_slackcache_k24_exceptions_holds : PySem.Challenge.rw_slackcache_k24_exceptions.Holds := by
  w_on; o_law; k_head; (case hw => w_witness2)
  k_fill
  refine EX.walkG (l := PySem.Challenge.rw_slackcache_k24_exceptions) (n := 63) rfl (by decide) rfl (fun w h Y => PySem.W.kIn_of Y) ?F
  case F =>
    intro w mg fa h KX G hmg
    refine' K24.all_mk KX G hmg ?h_a0 ?h_i0 ?h_t0 ?h_F0 ?h_a1 ?h_i1 ?h_t1 ?h_F1 ?h_a2 ?h_i2 ?h_t2 ?h_F2 ?h_a3 ?h_i3 ?h_t3 ?h_F3 ?h_a4 ?h_i4 ?h_t4 ?h_F4 ?h_a5 ?h_i5 ?h_t5 ?h_F5 ?h_a6 ?h_i6 ?h_t6 ?h_F6 ?h_a7 ?h_i7 ?h_t7 ?h_F7 ?h_a8 ?h_i8 ?h_t8 ?h_F8 ?h_a9 ?h_i9 ?h_t9 ?h_F9 ?h_a10 ?h_i10 ?h_t10 ?h_F10 ?h_a11 ?h_i11 ?h_t11 ?h_F11 ?h_a12 ?h_i12 ?h_t12 ?h_F12 ?h_a13 ?h_i13 ?h_t13 ?h_F13 ?h_a14 ?h_i14 ?h_t14 ?h_F14 ?h_a15 ?h_i15 ?h_t15 ?h_F15 ?h_a16 ?h_i16 ?h_t16 ?h_F16 ?h_a17 ?h_i17 ?h_t17 ?h_F17 ?h_a18 ?h_i18 ?h_t18 ?h_F18 ?h_aCB ?h_aL ?h_FL ?h_aSource ?h_FSource ?h_aDraw ?h_FDraw ?h_aAll ?h_FAll ?h_aKinds ?h_FKinds ?h_aHeld ?h_FHeld ?h_z_range ?h_z_max ?h_z_min ?h_z_len ?h_z_enumerate ?h_z_repr ?h_z_isinstance ?h_z_ValueError ?h_z_LookupError ?h_z_RuntimeError ?h_z_Exception ?h_tbl
    (case h_a0 => k_is)
    (case h_i0 => k_is)
    (case h_t0 => k_is)
    (case h_F0 => refine' K24.fnAt ?l ?c ?k; (case l => k_is); (case c => k_is); (case k => k_is))
    (case h_a1 => k_is)
    (case h_i1 => k_is)
    (case h_t1 => k_is)
    (case h_F1 => refine' K24.fnAt ?l ?c ?k; (case l => k_is); (case c => k_is); (case k => k_is))
    (case h_a2 => k_is)
    (case h_i2 => k_is)
    (case h_t2 => k_is)
    (case h_F2 => refine' K24.fnAt ?l ?c ?k; (case l => k_is); (case c => k_is); (case k => k_is))
    (case h_a3 => k_is)
    (case h_i3 => k_is)
    (case h_t3 => k_is)
    (case h_F3 => refine' K24.fnAt ?l ?c ?k; (case l => k_is); (case c => k_is); (case k => k_is))
    (case h_a4 => k_is)
    (case h_i4 => k_is)
    (case h_t4 => k_is)
    (case h_F4 => refine' K24.fnAt ?l ?c ?k; (case l => k_is); (case c => k_is); (case k => k_is))
    (case h_a5 => k_is)
    (case h_i5 => k_is)
    (case h_t5 => k_is)
    (case h_F5 => refine' K24.fnAt ?l ?c ?k; (case l => k_is); (case c => k_is); (case k => k_is))
    (case h_a6 => k_is)
    (case h_i6 => k_is)
    (case h_t6 => k_is)
    (case h_F6 => refine' K24.fnAt ?l ?c ?k; (case l => k_is); (case c => k_is); (case k => k_is))
    (case h_a7 => k_is)
    (case h_i7 => k_is)
    (case h_t7 => k_is)
    (case h_F7 => refine' K24.fnAt ?l ?c ?k; (case l => k_is); (case c => k_is); (case k => k_is))
    (case h_a8 => k_is)
    (case h_i8 => k_is)
    (case h_t8 => k_is)
    (case h_F8 => refine' K24.fnAt ?l ?c ?k; (case l => k_is); (case c => k_is); (case k => k_is))
    (case h_a9 => k_is)
    (case h_i9 => k_is)
    (case h_t9 => k_is)
    (case h_F9 => refine' K24.fnAt ?l ?c ?k; (case l => k_is); (case c => k_is); (case k => k_is))
    (case h_a10 => k_is)
    (case h_i10 => k_is)
    (case h_t10 => k_is)
    (case h_F10 => refine' K24.fnAt ?l ?c ?k; (case l => k_is); (case c => k_is); (case k => k_is))
    (case h_a11 => k_is)
    (case h_i11 => k_is)
    (case h_t11 => k_is)
    (case h_F11 => refine' K24.fnAt ?l ?c ?k; (case l => k_is); (case c => k_is); (case k => k_is))
    (case h_a12 => k_is)
    (case h_i12 => k_is)
    (case h_t12 => k_is)
    (case h_F12 => refine' K24.fnAt ?l ?c ?k; (case l => k_is); (case c => k_is); (case k => k_is))
    (case h_a13 => k_is)
    (case h_i13 => k_is)
    (case h_t13 => k_is)
    (case h_F13 => refine' K24.fnAt ?l ?c ?k; (case l => k_is); (case c => k_is); (case k => k_is))
    (case h_a14 => k_is)
    (case h_i14 => k_is)
    (case h_t14 => k_is)
    (case h_F14 => refine' K24.fnAt ?l ?c ?k; (case l => k_is); (case c => k_is); (case k => k_is))
    (case h_a15 => k_is)
    (case h_i15 => k_is)
    (case h_t15 => k_is)
    (case h_F15 => refine' K24.fnAt ?l ?c ?k; (case l => k_is); (case c => k_is); (case k => k_is))
    (case h_a16 => k_is)
    (case h_i16 => k_is)
    (case h_t16 => k_is)
    (case h_F16 => refine' K24.fnAt ?l ?c ?k; (case l => k_is); (case c => k_is); (case k => k_is))
    (case h_a17 => k_is)
    (case h_i17 => k_is)
    (case h_t17 => k_is)
    (case h_F17 => refine' K24.fnAt ?l ?c ?k; (case l => k_is); (case c => k_is); (case k => k_is))
    (case h_a18 => k_is)
    (case h_i18 => k_is)
    (case h_t18 => k_is)
    (case h_F18 => refine' K24.fnAt ?l ?c ?k; (case l => k_is); (case c => k_is); (case k => k_is))
    (case h_aCB => k_is)
    (case h_aL => k_is)
    (case h_FL => refine' K24.fnAt ?l ?c ?k; (case l => k_is); (case c => k_is); (case k => k_is))
    (case h_aSource => k_is)
    (case h_FSource => refine' K24.fnAt ?l ?c ?k; (case l => k_is); (case c => k_is); (case k => k_is))
    (case h_aDraw => k_is)
    (case h_FDraw => refine' K24.fnAt ?l ?c ?k; (case l => k_is); (case c => k_is); (case k => k_is))
    (case h_aAll => k_is)
    (case h_FAll => refine' K24.fnAt ?l ?c ?k; (case l => k_is); (case c => k_is); (case k => k_is))
    (case h_aKinds => k_is)
    (case h_FKinds => refine' K24.fnAt ?l ?c ?k; (case l => k_is); (case c => k_is); (case k => k_is))
    (case h_aHeld => k_is)
    (case h_FHeld => refine' K24.fnAt ?l ?c ?k; (case l => k_is); (case c => k_is); (case k => k_is))
    (case h_z_range => k_is)
    (case h_z_max => k_is)
    (case h_z_min => k_is)
    (case h_z_len => k_is)
    (case h_z_enumerate => k_is)
    (case h_z_repr => k_is)
    (case h_z_isinstance => k_is)
    (case h_z_ValueError => k_is)
    (case h_z_LookupError => k_is)
    (case h_z_RuntimeError => k_is)
    (case h_z_Exception => k_is)
    (case h_tbl => kernel_rfl)

