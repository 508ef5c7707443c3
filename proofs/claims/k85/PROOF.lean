import PyProof.Rows.All
import Wide.All
import OpenK.AllK
import Wide.FinOn
import HandS.ForMost
import HandS.Wide
import HandS.Exc
import HandS.ExcInit
import HandS.IsInst
import KE.KExcInit
import KE.KExcIs
import KE.KIsAll
import PyProof.ReprRoads
import HandS.MakeKw
import HandS.MakeKwOnly
import PySem.Challenge.RW_slackcache_k85_classes_of_later_errors
set_option Elab.async false
set_option linter.all false
set_option maxRecDepth 100000
set_option maxHeartbeats 4000000
namespace EX
open PySem L2 PySem.Spec PyProof.Rows
abbrev exT : List Value := [.type "Exception", .type "BaseException", .type "object"]
/-- what the written part says of an own exception class below Exception -/
structure EcC (K : PySem.W.Frag) (C : Addr) : Prop where
  ini : PySem.W.excInitIn K C exT "Exception.__new__" = true
  ovr : PySem.W.excOver K C exT = true
  sa : PySem.W.findIn K (.ref C) "__setattr__" = some (some (.builtin "object.__setattr__"))
  ga : PySem.W.findIn K (.ref C) "__getattribute__" = some (some (.builtin "BaseException.__getattribute__"))
  gg : PySem.W.findIn K (.ref C) "__getattr__" = some none
  exC : PySem.W.subIn K (.ref C) (.type "BaseException") = some true
  hdC : PySem.W.hasDictIn K C = true
  kC : PySem.W.keepIn K (.ref C) = true
  cl : (PySem.W.clsIn K C).isSome = true
  cA : PySem.W.findIn K (.ref C) "__class__" = some (some (.builtin "object.__class__"))
  mo : PySem.W.mroIn K C (.type "object") = some true
  sp : PySem.W.specialIn K (.builtin "object.__class__") "__get__" = some (some (.builtin "getset_descriptor.__get__"))
  tk : PySem.W.takesIn K (.builtin "object.__class__") = some true
theorem upd_comm {H : Hp} {a b : Addr} {o u : HO} (h : a ≠ b) : upd (upd H a o) b u = upd (upd H b u) a o := by
  funext c
  by_cases hb : c = b
  · subst hb
    rw [upd_same, upd_ne (Ne.symm h), upd_same]
  · rw [upd_ne hb]
    by_cases ha : c = a
    · subst ha
      rw [upd_same, upd_same]
    · rw [upd_ne ha, upd_ne ha, upd_ne hb]
theorem upd_upd {H : Hp} {a : Addr} {o u : HO} : upd (upd H a o) a u = upd H a u := by
  funext c
  by_cases ha : c = a
  · subst ha
    rw [upd_same, upd_same]
  · rw [upd_ne ha, upd_ne ha, upd_ne ha]
section
variable {X : Cx} {pins : List (Addr × Obj)} {σ : L2.St} {H : Hp} {s : Shared} {a C dx : Addr} {f : Str} {y : V} {u : Value} {fs : List (Str × V)} {Q : Unit → Shared → Prop} {E : Value → Shared → Prop} {A : Around}
/-- the first field of a new exception -/
theorem est_new (T : EcC X.K C) (I : Inv X pins σ H s) (e : H a = some (exo a C none)) (htk : PySem.W.takerIn X.K C f = some none) (ry : RelV y u)
    (h : ∀ dx s', H dx = none → dx ≠ a → Inv X pins σ (upd (upd H dx (exd dx [(f, y)])) a (exo a C (some dx))) s' → Q () s') :
    wpAny (model X.prog X.w) A (setAttr (.ref a) f u) Q E s := by
  obtain ⟨t1, ho⟩ := exo_at I.hok e
  obtain ⟨cd, hc, hd'⟩ := PySem.W.any_some T.hdC
  obtain ⟨hp, g, d, t, os⟩ := s
  have hlt : a < hp.objs.size := Heap.lt_size ho
  refine PySem.W.set_plain I.kIn (od := none) ⟨ho, rfl, rfl, trivial⟩ T.sa ?_
  refine PySem.W.osa_openX (od := none) PySem.F.store_Exception I.kIn ⟨ho, rfl, rfl, trivial⟩ T.ovr htk fun b => ?_
  refine wpAny_bind (wpAny_pure (wpAny_bind (PySem.W.instanceDict_exc ho (PySem.W.looks_clsIn I.kIn hc) hd' ?_)))
  show wpAny _ _ (Builtin.ObjectAttr.storeInDict hp.objs.size (.str f _) f u) _ _ _
  have hn0 : H hp.objs.size = none := I.hok.fresh (Nat.le_refl _)
  have hne : hp.objs.size ≠ a := Nat.ne_of_gt hlt
  -- the new dict is laid
  have J1 := I.laid (t' := t) (a := hp.objs.size) (o := exd hp.objs.size []) (h' := hp.push (PySem.W.dictOf [] 0)) (fun b o q => Heap.get?_push_of_some _ q) (Nat.le_refl _)
    (exd_ok (mA := fun _ => none) (Heap.Ns1.of_empty ⟨_, #[], _, Heap.get?_push_at rfl rfl, rfl, fun x hx => absurd hx (by simp), fun _ => rfl⟩) fun _ => True.intro)
  have e1 : upd H hp.objs.size (exd hp.objs.size []) a = some (exo a C none) := by rw [upd_ne (Ne.symm hne)]; exact e
  have ho1 : (hp.push (PySem.W.dictOf [] 0)).get? a = some { cls := .ref C, dict := none, data := .fields #[.ref t1, .none, .none, .none, .bool false, .none] } := Heap.get?_push_of_some _ ho
  -- the object gets it
  have ho2 : ((hp.push (PySem.W.dictOf [] 0)).update a fun o => { o with dict := some hp.objs.size }).get? a = some { cls := .ref C, dict := some hp.objs.size, data := .fields #[.ref t1, .none, .none, .none, .bool false, .none] } :=
    Heap.get?_update_self _ ho1 rfl
  have J2 := J1.write (t' := t) (x := a) (e := a) (o := exo a C (some hp.objs.size)) (h' := (hp.push (PySem.W.dictOf [] 0)).update a fun o => { o with dict := some hp.objs.size })
    (by rw [e1]; exact True.intro) (.inl rfl) (fun b o hb q => (Heap.get?_update_ne _ _ _ _ hb).trans q) ⟨_, ho2⟩ (exo_ok ho2)
  have hD : ((hp.push (PySem.W.dictOf [] 0)).update a fun o => { o with dict := some hp.objs.size }).get? hp.objs.size = some (PySem.W.dictOf [] 0) :=
    (Heap.get?_update_ne _ _ _ _ hne).trans (Heap.get?_push_at rfl rfl)
  refine PySem.HandSPX.store_in_new ⟨_, #[], _, hD, rfl, fun x hx => absurd hx (by simp), fun _ => rfl⟩ fun h' tk' hn' hs => ?_
  have hd2 : ∃ o, h'.get? hp.objs.size = some o := by
    obtain ⟨o, _, _, q, _⟩ := hn'
    exact ⟨o, q⟩
  have e2 : upd (upd H hp.objs.size (exd hp.objs.size [])) a (exo a C (some hp.objs.size)) hp.objs.size = some (exd hp.objs.size []) := by rw [upd_ne hne, upd_same]
  have J3 := J2.write (t' := tk') (x := hp.objs.size) (e := hp.objs.size) (o := exd hp.objs.size [(f, y)]) (h' := h') (by rw [e2]; exact True.intro) (.inl rfl)
    (fun b o hb q => (hs.2 b hb).trans q) hd2 (exd_ok hn' (relO_put (fs := []) ry fun _ => True.intro))
  have eH : upd (upd (upd H hp.objs.size (exd hp.objs.size [])) a (exo a C (some hp.objs.size))) hp.objs.size (exd hp.objs.size [(f, y)]) =
      upd (upd H hp.objs.size (exd hp.objs.size [(f, y)])) a (exo a C (some hp.objs.size)) := by
    rw [upd_comm (Ne.symm hne), upd_upd]
  rw [eH] at J3
  exact h _ _ hn0 hne J3
/-- a further field of an exception -/
theorem est_old (T : EcC X.K C) (I : Inv X pins σ H s) (e : H a = some (exo a C (some dx))) (ed : H dx = some (exd dx fs)) (hl : fs.length ≤ 900) (htk : PySem.W.takerIn X.K C f = some none) (ry : RelV y u)
    (h : ∀ s', Inv X pins σ (upd H dx (exd dx ((f, y) :: fs))) s' → Q () s') : wpAny (model X.prog X.w) A (setAttr (.ref a) f u) Q E s := by
  obtain ⟨t1, ho⟩ := exo_at I.hok e
  obtain ⟨mA, hns, rel⟩ := exd_at I.hok ed
  have hw := within_of rel
  obtain ⟨cd, hc, hd'⟩ := PySem.W.any_some T.hdC
  obtain ⟨hp, g, d, t, os⟩ := s
  obtain ⟨oD, es, ep, hoD, hdD, hcD⟩ := hns.count hw
  refine PySem.W.set_plain I.kIn (od := some oD) ⟨ho, rfl, rfl, hoD⟩ T.sa ?_
  refine PySem.W.osa_openX (od := some oD) PySem.F.store_Exception I.kIn ⟨ho, rfl, rfl, hoD⟩ T.ovr htk fun b => ?_
  refine wpAny_bind (wpAny_pure (wpAny_bind (wpAny_bind (wpAny_loadPart ho (wpAny_bind ((PySem.W.looks_clsIn I.kIn hc).at ?_))))))
  rw [hd']
  refine wpAny_pure (a := some dx) ?_
  show wpAny _ _ (Builtin.ObjectAttr.storeInDict dx (.str f _) f u) _ _ _
  refine PySem.OEX.store_in_old hns hw (by rw [List.length_map]; omega) fun h' tk' hn' hs => ?_
  have hd2 : ∃ o, h'.get? dx = some o := by
    obtain ⟨o, _, _, q, _⟩ := hn'
    exact ⟨o, q⟩
  exact h _ (I.write (t' := tk') (x := dx) (e := dx) (o := exd dx ((f, y) :: fs)) (h' := h') (by rw [ed]; exact True.intro) (.inl rfl) (fun b o hb q => (hs.2 b hb).trans q) hd2 (exd_ok hn' (relO_put ry rel)))
end

/-! ### readings and rules -/
/-- self.f = e, self an exception -/
def tEst (K : PySem.W.Frag) (f : Str) (to te : TE) : TS := fun D σ H => te σ H fun y H1 => to σ H1 fun x H2 => ∃ a C : Addr, x = .ref a ∧ EcC K C ∧ PySem.W.takerIn K C f = some none ∧
  ((H2 a = some (exo a C none) ∧ ∀ dx, H2 dx = none → dx ≠ a → D.nx σ (upd (upd H2 dx (exd dx [(f, y)])) a (exo a C (some dx)))) ∨
    ∃ (dx : Addr) (fs : List (Str × V)), H2 a = some (exo a C (some dx)) ∧ H2 dx = some (exd dx fs) ∧ fs.length ≤ 900 ∧ D.nx σ (upd H2 dx (exd dx ((f, y) :: fs))))
/-- C(e, ..), an exception as a value -/
def tMkE (C : Addr) (sp : Sp) (dvs : List V) (ta : TA) : TE := fun σ H Q => ta σ H fun vs H1 => vs.length ≤ 1000 ∧ ∀ a, H1 a = none →
  sp (.ref a :: (vs ++ dvs)) (upd H1 a (exo a C none)) (fun v H2 => v = .non ∧ Q (.ref a) H2) (fun _ _ _ => False)
/-- e.f, e an exception -/
def tEf (K : PySem.W.Frag) (f : Str) (te : TE) : TE := fun σ H Q => te σ H fun x H1 => ∃ (a C dx : Addr) (fs : List (Str × V)) (v : V), x = .ref a ∧ EcC K C ∧ PySem.W.findIn K (.ref C) f = some none ∧
  H1 a = some (exo a C (some dx)) ∧ H1 dx = some (exd dx fs) ∧ fs.lookup f = some v ∧ Q v H1
section
variable {X : Cx} {o e : Expr} {es : List Expr} {to te : TE} {ta : TA} {f : Str} {p p' pos : Pos}
theorem ps_est (ho : PE X o to) (he : PE X e te) (hs : swapsWith e (some (.Attribute o f p')) pos.line X.env = pure false := by rfl) : PS X (.Assign [.Attribute o f p'] e pos) (tEst X.K f to te) := by
  refine ⟨fun pins s σ H D I h => plainObj_wpAny_Assign_Attribute (thn (he.run pins s σ H _ I h) ?_) hs⟩
  intro v s1 ⟨y, H1, I1, r1, q1⟩
  refine thn (ho.run pins s1 σ H1 _ I1 q1) ?_
  intro u s2 ⟨x, H2, I2, r2, a, C, ex, T, hno, q⟩
  subst ex
  obtain rfl : u = Value.ref a := r2
  rcases q with ⟨ea, q⟩ | ⟨dx, fs, ea, ed, hl, q⟩
  · exact est_new T I2 ea hno r1 fun dx s' n ne J => ⟨σ, _, J, q dx n ne⟩
  · exact est_old T I2 ea ed hl hno r1 fun s' J => ⟨σ, _, J, q⟩
theorem pe_ef (he : PE X e te) (hb : attributeBase e f X.env (eval e X.env) = eval e X.env := by rfl) : PE X (.Attribute e f pos) (tEf X.K f te) := by
  refine ⟨fun pins s σ H Q I h => attr_of hb (thn (he.run pins s σ H _ I h) ?_)⟩
  intro u s1 ⟨x, H1, I1, rx, a, C, dx, fs, v, ex, T, hno, ea, ed, l, q⟩
  subst ex
  obtain rfl : u = Value.ref a := rx
  obtain ⟨t1, ho⟩ := exo_at I1.hok ea
  obtain ⟨mA, hns, rel⟩ := exd_at I1.hok ed
  obtain ⟨od, hod, hl⟩ := lookIn_ns hns
  obtain ⟨w0, hu, ru⟩ := RelO.some_of (v := v) (o := mA f) (by rw [← l]; exact rel f)
  have J : PySem.W.InstAt s1.heap a _ C (some od) := ⟨ho, rfl, rfl, hod⟩
  exact HandSPX.exc_get I1.kIn J T.ga T.gg T.exC (PySem.W.findObj_own T.hdC hno rfl (by rw [hl, hu])) (handed_of ru) ⟨v, H1, I1.tok _, ru, q⟩
theorem pe_mkE {CX : CXT} {x : Str} {C fI : Addr} {k : Nat} {fd : FuncData} {ps : List Str} {sp : Sp} {ds : List Value} {dvs : List V} (T : EcC X.K C) (iC : PySem.W.findIn X.K (.ref C) "__init__" = some (some (.ref fI)))
    (tI : PySem.W.typeIn X.K (.ref fI) = some (.type "function")) (F1 : FnOk X.prog X.w X.K X.mg X.base CX k fI fd ps sp) (hr : Room (k + 1) X.A) (hb : Binds X.K fd ps ds) (hd : Vals dvs ds) (hx : Passes CX X (fun _ _ _ => False))
    (hg : Gl X x) (hm : X.mg x = some (.ref C)) (ha : PA X (e :: es) ta)
    (hdb : (x == ("__debug__" : Str)) = false := by decide) (he : starEach (e :: es) X.env = (false, eval e X.env) :: starEach es X.env := by rfl) (hpl : (backTo pos (starEach es X.env)).any (·.1) = false := by rfl) :
    PE X (.Call (.Name x p) (e :: es) [] pos) (tMkE C sp dvs ta) := by
  refine ⟨fun pins s σ H Q I h => wpAny_Call_Name_kw (ld_glob I hg hm ?_ hdb)⟩
  refine PySem.W.callWith_K (h₀ := X.base) I.ok.mod.kin T.kC (thn (ha.run pos pins s σ H _ I h) ?_) he hpl
  intro us s1 ⟨vs, H1, I1, r1, hz, q1⟩
  refine ⟨I1.kIn, ?_⟩
  show wpAny _ _ (call (.ref C) us) _ _ _
  obtain ⟨nm, N', qn, bs, bm, hdct, sn, sub, ab, col, dd, k0, k1, k2, k3, k5, hC, hT⟩ := PySem.W.excInit_of I1.kIn T.ini
  obtain ⟨hp, g, dr, tk, os⟩ := s1
  have hsz : hp.objs.size ≤ hp.objs.size + 1 := Nat.le_succ _
  have hn : H1 (hp.objs.size + 1) = none := I1.hok.fresh hsz
  have hq := q1 _ hn
  have hget : ((hp.push (PySem.W.kdv_tup us)).push (PySem.HandSPX.excO C hp.objs.size)).get? (hp.objs.size + 1) = some (PySem.HandSPX.excO C hp.objs.size) := by heap_get
  have I2 := I1.laid (t' := tk) (a := hp.objs.size + 1) (o := exo (hp.objs.size + 1) C none) (h' := (hp.push (PySem.W.kdv_tup us)).push (PySem.HandSPX.excO C hp.objs.size))
    (fun b o z => Heap.get?_push_of_some _ (Heap.get?_push_of_some _ z)) hsz (exo_ok hget)
  have r2 : Vals (V.ref (hp.objs.size + 1) :: (vs ++ dvs)) (Value.ref (hp.objs.size + 1) :: (us ++ ds)) := .cons rfl (r1.append hd)
  have hl : (Value.ref (hp.objs.size + 1) :: us ++ ds).length = ps.length := r2.length.symm.trans (F1.len _ _ _ _ hq)
  have hus : us.length ≤ sizeLine := by
    have := Paired.length r1
    rw [sizeLine_eq]
    omega
  refine wpAny_call (PySem.HandSPX.call_own PySem.F.excBase_Exception hT hC (PySem.W.looks_findIn I1.kIn iC) (fun self => PySem.W.bind_fn I1.kIn self tI) hus (codeAny_mono
    (F1.run _ X.stack _ _ ⟨Value.ref (hp.objs.size + 1) :: us, []⟩ (Value.ref (hp.objs.size + 1) :: (us ++ ds)) _ _ (fun _ _ _ => False) (hr.make C us []) (I2.env0.make C us []) (hb _ (Value.ref (hp.objs.size + 1) :: us) I2.kIn hl) r2 hq) ?_))
  intro r s' hq'
  cases r with
  | error er => exact hx pins σ _ _ er s' I2 hq'
  | ok fl =>
    cases fl with
    | ret u =>
      obtain ⟨v, H2, os2, bare2, un2, hok2, rv, ev, q2⟩ := hq'
      subst ev
      obtain ⟨h2, g2, d2, t2, os'⟩ := s'
      refine ⟨rv, V.ref (hp.objs.size + 1), H2, I2.call' (ch := []) os2 un2 hok2 bare2 (fun b z => absurd z (by simp)), rfl, q2⟩
    | next => exact False.elim hq'
    | brk => exact False.elim hq'
    | cont => exact False.elim hq'
/-- isinstance(e, c), e an exception, one class -/
def rIsiE (K : PySem.W.Frag) : List V → Hp → VK → Prop := fun xs H Q => ∃ (a C dx : Addr) (fs : List (Str × V)) (c : V) (u : Value) (b : Bool), xs = [.ref a, c] ∧ H a = some (exo a C (some dx)) ∧ H dx = some (exd dx fs) ∧ EcC K C ∧ ClsV c u ∧
  PySem.W.kitOne K (.ref C) u = some b ∧ Q (.bl b) H
/-- isinstance(e, (c1, c2, ..)), the tuple just laid -/
def rIsiET (K : PySem.W.Frag) : List V → Hp → VK → Prop := fun xs H Q => ∃ (a C dx tp : Addr) (fs : List (Str × V)) (cs : List V) (us : List Value) (b : Bool), xs = [.ref a, .ref tp] ∧ H a = some (exo a C (some dx)) ∧ H dx = some (exd dx fs) ∧ EcC K C ∧
  H tp = some (.tup cs) ∧ Paired ClsV cs us ∧ PySem.W.kitAny K (.ref C) us = some b ∧ Q (.bl b) H
theorem kit_exc {K : PySem.W.Frag} {C : Addr} (T : EcC K C) {x : Addr} {ox : Obj} {od : Option Obj} : PySem.W.KitX K (.ref x) (.ref C) (fun h => PySem.W.InstAt h x ox C od) :=
  PySem.W.kitx_exc T.cl T.ga T.gg T.exC T.cA T.sp T.tk T.mo
theorem call_isiE : CallR X (.builtin "isinstance") (rIsiE X.K) := by
  intro pins s σ H xs us Q I r h
  obtain ⟨a, C, dx, fs, c, u, b, rfl, ea, ed, T, k, e, q⟩ := h
  obtain ⟨u1, u2, rfl, r1, r2⟩ := vals2 r
  obtain rfl := k.eq r2
  obtain rfl : u1 = Value.ref a := r1
  obtain ⟨t1, ho⟩ := exo_at I.hok ea
  obtain ⟨mA, hns, rel⟩ := exd_at I.hok ed
  obtain ⟨od, hod, _⟩ := lookIn_ns hns
  exact PySem.W.kia_one (kit_exc T (od := some od)) I.kIn ⟨ho, rfl, rfl, hod⟩ e (fun z => nomatch z) fun tk => ⟨.bl b, H, I.tok tk, rfl, q⟩
theorem call_isiET : CallR X (.builtin "isinstance") (rIsiET X.K) := by
  intro pins s σ H xs us Q I r h
  obtain ⟨a, C, dx, tp, fs, cs, vs, b, rfl, ea, ed, T, et, pr, e, q⟩ := h
  obtain ⟨u1, u2, rfl, r1, r2⟩ := vals2 r
  obtain rfl : u1 = Value.ref a := r1
  obtain rfl : u2 = Value.ref tp := r2
  obtain ⟨t1, ho⟩ := exo_at I.hok ea
  obtain ⟨mA, hns, rel⟩ := exd_at I.hok ed
  obtain ⟨od, hod, _⟩ := lookIn_ns hns
  have z : ObjOk X.prog X.w H s.heap tp (.tup cs) := I.hok tp _ et
  obtain ⟨_, its, rv, o, h1, h2, n, h3⟩ := z
  obtain rfl := ClsV.all pr rv
  obtain ⟨oc, od', dt, sl⟩ := o
  dsimp only at h2 h3
  subst h2 h3
  exact PySem.W.kia_tup (kit_exc T (od := some od)) I.kIn ⟨ho, rfl, rfl, hod⟩ h1 e (fun z => nomatch z) fun tk => ⟨.bl b, H, I.tok tk, rfl, q⟩
end
/-- plain data, or a dict of one int -/
inductive Rp (K : PySem.W.Frag) (H : Hp) : V → PyData → Prop where
  | dp {v : V} {d : PyData} : Dp K H v d → d.hasDict = false → Rp K H v d
  | dic {a : Addr} {k n : Int} : H a = some (.dK [(Sum.inl k, .int n)]) → Rp K H (.ref a) (.dict [(.int k, .int n)])
  | dis {a : Addr} {k : Str} {n : Int} : H a = some (.dK [(Sum.inr k, .int n)]) → Rp K H (.ref a) (.dict [(.str k, .int n)])
def rRepr (K : PySem.W.Frag) : List V → Hp → VK → Prop := fun xs H Q => ∃ (x : V) (d : PyData), xs = [x] ∧ Rp K H x d ∧ d.showable = true ∧ d.depth ≤ 60 ∧ d.shown.length ≤ sizeLine ∧ Q (.str d.shown) H
section
variable {X : Cx} {pins : List (Addr × Obj)} {σ : L2.St} {H : Hp} {s : Shared}
theorem Rp.reads (I : Inv X pins σ H s) {v : V} {d : PyData} {u : Value} (h : Rp X.K H v d) (r : RelV v u) : ∃ as, Reads s.heap u d as ∧ (d.hasDict = true → sysModules ∉ as) := by
  cases h with
  | dp h nd =>
    obtain ⟨as, q⟩ := Dp.reads I d v u h r
    exact ⟨as, q, fun z => by rw [nd] at z; cases z⟩
  | @dic a k n e =>
    obtain rfl : u = Value.ref a := r
    have z : ObjOk X.prog X.w H s.heap a (.dK [(Sum.inl k, .int n)]) := I.hok a _ e
    obtain ⟨_, hsm, vs, kv, o, es, ep, ho, hx, hd, _, hp, _⟩ := z
    cases kv with
    | @cons _ q0 _ qs k1 kr =>
      cases kr
      obtain ⟨ek, rv⟩ := k1
      obtain ⟨kk, vv⟩ := q0
      dsimp only at ek rv
      subst ek
      obtain ⟨t, rfl⟩ : ∃ t, vv = Value.int n t := rv
      generalize el : es.toList = l at hp
      cases hp with
      | @cons e1 kv1 es1 kvs1 p1 p2 p3 =>
        cases p3
        obtain ⟨hsh, key, val⟩ := e1
        dsimp only at p1 p2
        subst p2
        have p1 : Value.isInt k key = true := p1
        obtain ⟨t2, rfl⟩ : ∃ t2, key = Value.int k t2 := by
          cases key <;> simp_all [Value.isInt]
        refine ⟨a :: [] ++ [], Reads.dict ho hx.1 hd (as := []) (bs := []) ?_ ?_, fun _ z => ?_⟩
        · rw [el]
          exact ReadsAll.cons (bs := []) (Reads.int k t2) ReadsAll.nil
        · rw [el]
          exact ReadsAll.cons (bs := []) (Reads.int n t) ReadsAll.nil
        · rw [List.append_nil, List.mem_singleton] at z
          rw [z] at hsm
          simp at hsm
  | @dis a k n e =>
    obtain rfl : u = Value.ref a := r
    have z : ObjOk X.prog X.w H s.heap a (.dK [(Sum.inr k, .int n)]) := I.hok a _ e
    obtain ⟨_, hsm, vs, kv, o, es, ep, ho, hx, hd, _, hp, _⟩ := z
    cases kv with
    | @cons _ q0 _ qs k1 kr =>
      cases kr
      obtain ⟨ek, rv⟩ := k1
      obtain ⟨kk, vv⟩ := q0
      dsimp only at ek rv
      subst ek
      obtain ⟨t, rfl⟩ : ∃ t, vv = Value.int n t := rv
      generalize el : es.toList = l at hp
      cases hp with
      | @cons e1 kv1 es1 kvs1 p1 p2 p3 =>
        cases p3
        obtain ⟨hsh, key, val⟩ := e1
        dsimp only at p1 p2
        subst p2
        have p1 : Value.isStrOf k key = true := p1
        obtain ⟨t2, rfl⟩ := Value.isStrOf_shape p1
        refine ⟨a :: [] ++ [], Reads.dict ho hx.1 hd (as := []) (bs := []) ?_ ?_, fun _ z => ?_⟩
        · rw [el]
          exact ReadsAll.cons (bs := []) (Reads.str k t2) ReadsAll.nil
        · rw [el]
          exact ReadsAll.cons (bs := []) (Reads.int n t) ReadsAll.nil
        · rw [List.append_nil, List.mem_singleton] at z
          rw [z] at hsm
          simp at hsm
theorem call_reprD (hg : X.A.guards = some []) (hu : X.A.units + 70 < cLine) : CallR X (.builtin "repr") (rRepr X.K) := by
  intro pins s σ H xs us Q I r h
  obtain ⟨x, d, rfl, hR, hs, hdp, hz, q⟩ := h
  obtain ⟨u, rfl, ru⟩ := vals1 r
  obtain ⟨as, hr, hsm⟩ := hR.reads I ru
  have sc : ∀ (b : Str), d.shown = b → ∀ tk, EP X pins σ Q (.str b tk) { s with toks := s.toks + 1 } := fun b e tk => ⟨.str b, H, I.tok _, ⟨_, rfl⟩, e ▸ q⟩
  cases hr with
  | none => exact PySem.P.repr_of_none (sc _ rfl _)
  | bool b => exact PySem.P.repr_of_bool (sc _ (by cases b <;> rfl) _)
  | int i t => exact PySem.P.repr_of_int (of_decide_eq_true hs) (sc _ rfl _)
  | str y t => exact PySem.P.repr_of_str (sc _ rfl _) hz
  | list h1 h2 h3 h4 =>
    refine repr_of_reads' (Reads.list h1 h2 h3 h4) hs hsm hg (by omega) (fun _ _ e => e) (fun h' u tk k => ?_) hz
    exact ⟨.str _, H, I.kept k, ⟨_, rfl⟩, q⟩
  | tuple h1 h2 h3 h4 =>
    refine repr_of_reads' (Reads.tuple h1 h2 h3 h4) hs hsm hg (by omega) (fun _ _ e => e) (fun h' u tk k => ?_) hz
    exact ⟨.str _, H, I.kept k, ⟨_, rfl⟩, q⟩
  | dict h1 h2 h3 h4 h5 =>
    refine repr_of_reads' (Reads.dict h1 h2 h3 h4 h5) hs hsm hg (by omega) (fun _ _ e => e) (fun h' u tk k => ?_) hz
    exact ⟨.str _, H, I.kept k, ⟨_, rfl⟩, q⟩
end

/-! ### a def at one call, what runs around it known (so repr of what holds other things may be said) -/
theorem fn_at {P : Program} {w : World} {K : PySem.W.Frag} {mg : Str → Option Value} {base : Heap} {k : Nat} {x qual : Str} {st : Stmt} {f : Addr} {fd : FuncData} {N ps : List Str} (F : Fun K x qual st f fd) (S : FnScope N ps (defScope st))
    {A : Around} {outer : List Env} {s : Shared} {H : Hp} {args : Args} {us : List Value} {vs : List V} {Q : VK} {E : XK} (hr : Room (k + 1) A) (e0 : Env0 P w K mg base A outer s H) (hb : BindsTo s fd args (ps.zip us)) (rv : Vals vs us) (hl : vs.length = ps.length)
    (body : ∀ cdv : Value, Room k (A.deeper (envOfC qual (defScope st) s.heap.objs.size f cdv)) → ∃ t, PSs (cxOf CX0 P w K mg base N qual (defScope st) f cdv A outer s H E) (defBody st) t ∧ t { nx := fun _ H' => Q .non H', rt := Q } (start N vs) H) :
    codeAny (model P w) A (.call (.ref f) args) (CR CX0 outer P w H s Q E) s := by
  obtain ⟨oc, od, kV, doc, pm, an, cdv, ct, osl, rfl, lk, hcd⟩ := F.ex
  have kin : K.In s.heap := e0.mod.kin.keeps fun b o z => (e0.bs b o z).1
  have lim : s.heap.NoLimit := e0.mod.nolimit.keeps fun b o z => (e0.bs b o z).1
  have par : ∀ y ∈ ps.zip us, (defScope st).names.lookup y.1 = some .local ∨ ((defScope st).names.lookup y.1 = some .cell ∧ ((cellsFrom (s.heap.objs.size + 1) (defScope st).names []).lookup y.1).isSome = true) := by
    rintro ⟨n, v⟩ hy
    cases S.par n (List.of_mem_zip hy).1 with
    | inl q => exact .inl q
    | inr q => exact .inr ⟨q, PySem.W.cellsFrom_some _ _ _ (.inl q)⟩
  refine codeAny_call_function hr.depth (kin _ _ lk) rfl S.co S.gen rfl (PySem.W.codeRec_of kin hcd) (hb _ _ _ _ (wpAny_newFunctionEnv_cells S.kind par ?_))
  rintro env he s1 hin
  subst he
  refine ⟨lim.keeps hin.toInCall.keep, codeAny_func ?_⟩
  obtain ⟨t, ht, hq⟩ := body cdv (hr.deeper _)
  refine wpAny_mono (ht.run [] s1 (start N vs) H _ (inv_start S hr.hd e0 hl rv hin) hq) ?_ fun _ _ z => z
  rintro fl s' hs
  cases fl with
  | next =>
    obtain ⟨σ', H', J, q⟩ := hs
    exact ⟨V.non, H', J.os, J.bare, J.base, J.hok, rfl, q⟩
  | ret u =>
    obtain ⟨v, σ', H', J, r, q⟩ := hs
    exact ⟨v, H', J.os, J.bare, J.base, J.hok, r, q⟩
  | brk =>
    obtain ⟨_, _, _, q⟩ := hs
    exact q.elim
  | cont =>
    obtain ⟨_, _, _, q⟩ := hs
    exact q.elim
/-- the law's end, the law's own call met at callerA -/
theorem walkG {l : PySem.W.OpenLaw} {n : Nat} {q : Program} {loose : List Str} {XP : (Str → Option Value) → Heap → Prop} {YP : World → Heap → Prop} {d : DefRec} {K : Params → PySem.W.Frag}
    (hn : l.most = some n) (hn2 : n ≤ sizeLine) (hdf : d.params.defaults = []) (hY : ∀ (w : World) (h : Heap), YP w h → (K w.params).In h)
    (F : ∀ (w : World) (mg : Str → Option Value) (fa : Addr) (h : Heap), (K w.params).In h → h.Ns mainGlobals mg → mg d.name = some (.ref fa) →
      ∀ base : Heap, (K w.params).In base → base.Ns mainGlobals mg → ∀ (s : Shared) (H : Hp) (a : Addr) (ns : List Int), ns.length ≤ n → SqL (K w.params) H a (ns.map V.int) → Env0 l.prog w (K w.params) mg base callerA [] s H →
        codeAny (model l.prog w) callerA (.call (.ref fa) ⟨[.ref a], []⟩) (CR CX0 [] l.prog w H s (fun v _ => v = .bl true) E0) s) :
    PySem.W.WalkO q loose XP YP l.row.toRowW d [] (fun f vs => PySem.call f vs) := by
  refine Att.attach_call hn hdf ?_
  intro w s₀ s₁ mg mb fa o pm cd doc a vs ns G Y ho hd hcd hmg hobj hints hlen hg
  have kin := hY w _ Y
  have rv := vals_ints hints
  have lv := hints.length
  have key : ∀ H : Hp, Only H → SqL (K w.params) H a (ns.map V.int) → HOk l.prog w H s₁.heap → (∀ b, H b ≠ none → b = a) → (H a ≠ none → (K w.params).lookup a = none) →
      codeAny (model l.prog w) callerA (.call (.ref fa) ⟨[.ref a], []⟩) (fun r s' => r = .ok (.ret (.bool true)) ∧ OldK s₁.heap s'.heap ∧ s'.os = s₁.os ∧ AllBare s'.gens) s₁ := by
    intro H only sq hok onlyA notK
    have freeD : ∀ {b : Addr} {o : Obj} {es : Array DictEntry} {ep : Nat}, s₁.heap.get? b = some o → o.data = .dict es ep → H b = none := by
      intro b o es ep e1 e2
      cases h : H b with
      | none => rfl
      | some u =>
        have e3 : b = a := onlyA b (by rw [h]; exact fun z => nomatch z)
        rw [e3, hobj] at e1
        cases e1
        cases e2
    have nsB : ∀ {b : Addr} {m : Str → Option Value}, s₁.heap.Ns b m → (hidT s₁.heap H).Ns b m := by
      rintro b m ⟨o, es, ep, e1, e2, r⟩
      exact ⟨o, es, ep, hidT_get e1 (freeD e1 e2), e2, r⟩
    have kinB : (K w.params).In (hidT s₁.heap H) := by
      intro b o e
      refine hidT_get (kin b o e) ?_
      cases h : H b with
      | none => rfl
      | some u =>
        have e3 : b = a := onlyA b (by rw [h]; exact fun z => nomatch z)
        rw [e3, notK (by rw [← e3, h]; exact fun z => nomatch z)] at e
        cases e
    have e0 : Env0 l.prog w (K w.params) mg (hidT s₁.heap H) callerA [] s₁ H := by
      refine ⟨rfl, ⟨kinB, nsB G.T.g, ⟨mb, nsB G.T.b, G.T.builtins⟩, ?_⟩, fun b o e => of_hidT e, Nat.le_of_eq (hidT_size _ _), trivial, (fun b hb => absurd hb (List.not_mem_nil)), hok, .of_eq hg⟩
      obtain ⟨mc, h1, h2⟩ := G.T.nolimit
      exact ⟨mc, nsB h1, h2⟩
    refine codeAny_mono (F w mg fa _ kin G.T.g hmg _ kinB (nsB G.T.g) s₁ H a ns hlen sq e0) ?_
    intro r s' z
    cases r with
    | error e => exact z.elim
    | ok fl =>
      cases fl with
      | next => exact z.elim
      | brk => exact z.elim
      | cont => exact z.elim
      | ret u =>
        obtain ⟨v, H', os, bare, un, hok', rr, qq⟩ := z
        subst qq
        obtain rfl : u = Value.bool true := rr
        refine ⟨rfl, OldK.of_keep ?_, os, bare⟩
        intro b o e
        rcases only b with h | ⟨ob, xs, h⟩
        · exact un.keep b o e h (fun z => nomatch z) (fun z => nomatch z)
        · have h1 := (hok b _ h).1
          have h2 := (hok' b _ (un.frzs b ob _ h)).1
          rw [e] at h1
          cases h1
          exact h2
  have hz : ns.length ≤ sizeLine := Nat.le_trans hlen hn2
  cases hk : (K w.params).lookup a with
  | some o =>
    have e := kin a o hk
    rw [hobj] at e
    cases e
    refine key (fun _ => none) (fun _ => .inl rfl) (.inr ⟨_, vs.toArray, _, hk, rfl, rfl, rfl, ?_, ?_⟩) (fun _ _ z => nomatch z) (fun _ z => absurd rfl z) fun z => absurd rfl z
    · rw [List.size_toArray, lv]
      exact hz
    · simpa using rv
  | none =>
    have hs : ∀ b u, (if b = a then some (HO.frz { cls := .type "list", data := .seq vs.toArray } (.lst (ns.map V.int))) else none) = some u → b = a ∧ u = HO.frz { cls := .type "list", data := .seq vs.toArray } (.lst (ns.map V.int)) := by
      intro b u z
      by_cases hb : b = a
      · rw [if_pos hb] at z
        exact ⟨hb, (Option.some.inj z).symm⟩
      · rw [if_neg hb] at z
        cases z
    refine key (fun b => if b = a then some (.frz { cls := .type "list", data := .seq vs.toArray } (.lst (ns.map V.int))) else none) ?_ (.inl (.inr ⟨_, if_pos rfl⟩)) ?_ ?_ fun _ => hk
    · intro b
      by_cases hb : b = a
      · exact .inr ⟨_, _, if_pos hb⟩
      · exact .inl (if_neg hb)
    · intro b u z
      obtain ⟨rfl, rfl⟩ := hs b u z
      exact ⟨hobj, by rw [List.length_map]; exact hz, vs, _, rv, hobj⟩
    · intro b z
      cases h : (if b = a then some (HO.frz { cls := .type "list", data := .seq vs.toArray } (.lst (ns.map V.int))) else none) with
      | none => exact absurd h z
      | some u => exact (hs b u h).1

/-! ### defs and exception classes of the text, each as one fact -/
structure DefAt (P : Program) (w : World) (K : PySem.W.Frag) (mg : Str → Option Value) (base : Heap) (k : Nat) (x : Str) (ps : List Str) (sp : Sp) : Prop where
  ex : ∃ (f : Addr) (fd : FuncData), FnOk P w K mg base CX0 k f fd ps sp ∧ mg x = some (.ref f) ∧ PySem.W.keepIn K (.ref f) = true ∧ Binds K fd ps []
structure XcAt (P : Program) (w : World) (K : PySem.W.Frag) (mg : Str → Option Value) (base : Heap) (x : Str) (ps : List Str) (C : Addr) (sp : Sp) : Prop where
  T : EcC K C
  m : mg x = some (.ref C)
  ex : ∃ (fI : Addr) (fd : FuncData), PySem.W.findIn K (.ref C) "__init__" = some (some (.ref fI)) ∧ PySem.W.typeIn K (.ref fI) = some (.type "function") ∧ FnOk P w K mg base CX0 1 fI fd ps sp ∧ Binds K fd ps []
section
variable {X : Cx} {e : Expr} {es : List Expr} {ta : TA} {p pos : Pos} {x : Str} {k : Nat} {ps : List Str} {sp : Sp} {C : Addr}
theorem pe_callD (D : DefAt X.prog X.w X.K X.mg X.base k x ps sp) (hr : Room k X.A) (ha : PA X (e :: es) ta) (hg : Gl X x := by rfl) (hdb : (x == ("__debug__" : Str)) = false := by decide)
    (he : starEach (e :: es) X.env = (false, eval e X.env) :: starEach es X.env := by rfl) (hpl : (backTo pos (starEach es X.env)).any (·.1) = false := by rfl) : PE X (.Call (.Name x p) (e :: es) [] pos) (tCall sp [] E0 ta) := by
  obtain ⟨f, fd, F, m, kp, b⟩ := D.ex
  exact pe_call F hr hg m kp b .nil pass0 ha hdb he hpl
theorem pe_mkD (D : XcAt X.prog X.w X.K X.mg X.base x ps C sp) (hr : Room 2 X.A) (ha : PA X (e :: es) ta) (hg : Gl X x := by rfl) (hdb : (x == ("__debug__" : Str)) = false := by decide)
    (he : starEach (e :: es) X.env = (false, eval e X.env) :: starEach es X.env := by rfl) (hpl : (backTo pos (starEach es X.env)).any (·.1) = false := by rfl) : PE X (.Call (.Name x p) (e :: es) [] pos) (tMkE C sp [] ta) := by
  obtain ⟨fI, fd, iC, tI, F, b⟩ := D.ex
  exact pe_mkE D.T iC tI F hr b .nil (fun _ _ _ _ _ _ _ h => h.elim) hg D.m ha hdb he hpl
theorem pe_cls (D : XcAt X.prog X.w X.K X.mg X.base x ps C sp) (hg : Gl X x := by rfl) (hd : (x == ("__debug__" : Str)) = false := by decide) : PE X (.Name x pos) (tC (.ref C)) := pe_glob hg D.m rfl hd
end
/-- __init__(self, f): self.f = f -/
def spI1 (K : PySem.W.Frag) (C : Addr) (f : Str) : Sp := fun vs H Q _ => ∃ (a : Addr) (v : V), vs = [.ref a, v] ∧ H a = some (exo a C none) ∧ ∀ dx, H dx = none → dx ≠ a → Q .non (upd (upd H dx (exd dx [(f, v)])) a (exo a C (some dx)))
/-- __init__(self, f, g): self.f = f; self.g = g -/
def spI2 (K : PySem.W.Frag) (C : Addr) (f g : Str) : Sp := fun vs H Q _ => ∃ (a : Addr) (v u : V), vs = [.ref a, v, u] ∧ H a = some (exo a C none) ∧
  ∀ dx, H dx = none → dx ≠ a → Q .non (upd (upd (upd H dx (exd dx [(f, v)])) a (exo a C (some dx))) dx (exd dx [(g, u), (f, v)]))
theorem Same.upd {H : Hp} {p : Addr} {o : HO} (h : H p = none) : Same H (L2.upd H p o) := fun b u e => by
  rw [upd_ne (ne_of_none e h)]
  exact e
theorem mk1 {K : PySem.W.Frag} {C : Addr} {f : Str} {v : V} {H : Hp} {Q : V → Hp → Prop} (h : ∀ a d H', Same H H' → H' a = some (exo a C (some d)) → H' d = some (exd d [(f, v)]) → Q (.ref a) H') :
    [v].length ≤ 1000 ∧ ∀ a, H a = none → spI1 K C f (.ref a :: ([v] ++ [])) (upd H a (exo a C none)) (fun x H2 => x = .non ∧ Q (.ref a) H2) (fun _ _ _ => False) := by
  refine ⟨by show 1 ≤ 1000; decide, fun a ha => ⟨a, v, rfl, upd_same, fun d hd hne => ⟨rfl, h a d _ ?_ upd_same ?_⟩⟩⟩
  · have hd0 : H d = none := by rw [upd_ne hne] at hd; exact hd
    intro b o e
    rw [upd_ne (ne_of_none e ha), upd_ne (ne_of_none e hd0), upd_ne (ne_of_none e ha)]
    exact e
  · rw [upd_ne hne, upd_same]
theorem mk2 {K : PySem.W.Frag} {C : Addr} {f g : Str} {v u : V} {H : Hp} {Q : V → Hp → Prop} (h : ∀ a d H', Same H H' → H' a = some (exo a C (some d)) → H' d = some (exd d [(g, u), (f, v)]) → Q (.ref a) H') :
    [v, u].length ≤ 1000 ∧ ∀ a, H a = none → spI2 K C f g (.ref a :: ([v, u] ++ [])) (upd H a (exo a C none)) (fun x H2 => x = .non ∧ Q (.ref a) H2) (fun _ _ _ => False) := by
  refine ⟨by show 2 ≤ 1000; decide, fun a ha => ⟨a, v, u, rfl, upd_same, fun d hd hne => ⟨rfl, h a d _ ?_ ?_ upd_same⟩⟩⟩
  · have hd0 : H d = none := by rw [upd_ne hne] at hd; exact hd
    intro b o e
    rw [upd_ne (ne_of_none e hd0), upd_ne (ne_of_none e ha), upd_ne (ne_of_none e hd0), upd_ne (ne_of_none e ha)]
    exact e
  · rw [upd_ne (Ne.symm hne), upd_same]
/-- a new object, the heap from then on a letter -/
theorem new1 {o : HO} {H : Hp} {Q : V → Hp → Prop} (h : ∀ p H', Same H H' → H' p = some o → Q (.ref p) H') : ∀ p, H p = none → Q (.ref p) (upd H p o) := fun p hp => h p _ (Same.upd hp) upd_same
/-- exceptions that stand: their classes and fields -/
def AllX (H : Hp) (cs : List (Addr × List (Str × V))) (as : List (Addr × Addr)) : Prop := Paired (fun (c : Addr × List (Str × V)) (x : Addr × Addr) => H x.1 = some (exo x.1 c.1 (some x.2)) ∧ H x.2 = some (exd x.2 c.2)) cs as
theorem AllX.mono {H H' : Hp} (s : Same H H') : ∀ {cs : List (Addr × List (Str × V))} {as : List (Addr × Addr)}, AllX H cs as → AllX H' cs as
  | _, _, .nil => .nil
  | _, _, .cons h t => .cons ⟨s _ _ h.1, s _ _ h.2⟩ (AllX.mono s t)
theorem AllX.snoc {H : Hp} {c : Addr × List (Str × V)} {a d : Addr} (h1 : H a = some (exo a c.1 (some d))) (h2 : H d = some (exd d c.2)) : ∀ {cs : List (Addr × List (Str × V))} {as : List (Addr × Addr)}, AllX H cs as → AllX H (cs ++ [c]) (as ++ [(a, d)])
  | _, _, .nil => .cons ⟨h1, h2⟩ .nil
  | _, _, .cons h t => .cons h (AllX.snoc h1 h2 t)
theorem rd_mk1 {K : PySem.W.Frag} {C : Addr} {f : Str} {σ : L2.St} {i : Nat} {v : V} {H : Hp} {Q : V → Hp → Prop} (hv : σ[i]? = some (some v)) (h : ∀ a d H', Same H H' → H' a = some (exo a C (some d)) → H' d = some (exd d [(f, v)]) → Q (.ref a) H') :
    tMkE C (spI1 K C f) [] (tCons (tVar i) tNil) σ H Q := ⟨v, hv, mk1 h⟩
theorem rd_mk2 {K : PySem.W.Frag} {C : Addr} {f g : Str} {σ : L2.St} {i : Nat} {v u : V} {H : Hp} {Q : V → Hp → Prop} (hv : σ[i]? = some (some v)) (h : ∀ a d H', Same H H' → H' a = some (exo a C (some d)) → H' d = some (exd d [(g, u), (f, v)]) → Q (.ref a) H') :
    tMkE C (spI2 K C f g) [] (tCons (tVar i) (tCons (tC u) tNil)) σ H Q := ⟨v, hv, mk2 h⟩
theorem rd_mk2' {K : PySem.W.Frag} {C : Addr} {f g : Str} {σ : L2.St} {i : Nat} {v u : V} {H : Hp} {Q : V → Hp → Prop} (hv : σ[i]? = some (some v)) (h : ∀ a d H', Same H H' → H' a = some (exo a C (some d)) → H' d = some (exd d [(g, v), (f, u)]) → Q (.ref a) H') :
    tMkE C (spI2 K C f g) [] (tCons (tC u) (tCons (tVar i) tNil)) σ H Q := ⟨v, hv, mk2 h⟩
theorem rd_lst {ta : TA} {σ : L2.St} {H : Hp} {Q : V → Hp → Prop} (h : ta σ H fun xs H1 => xs.length ≤ sizeLine ∧ ∀ p H', Same H1 H' → H' p = some (.lst xs) → Q (.ref p) H') (mono : ∀ σ H (R R' : List V → Hp → Prop), (∀ xs H1, R xs H1 → R' xs H1) → ta σ H R → ta σ H R') : tLst ta σ H Q :=
  mono _ _ _ _ (fun xs H1 z => ⟨z.1, new1 z.2⟩) h
/-! ### a reading opened by one combinator -/
section
variable {D : Ends} {σ : L2.St} {H : Hp} {Q : V → Hp → Prop} {QL : List V → Hp → Prop} {t u : TS} {te to' tb : TE} {ta tl : TA} {g : TG} {r : R2}
theorem rd_seq (h : t { D with nx := u D } σ H) : tSeq t u D σ H := h
theorem rd_asg (h : te σ H fun x H1 => g x σ H1 D.nx) : tAsg te g D σ H := h
theorem rd_ret (h : te σ H D.rt) : tRet te D σ H := h
theorem rd_disp (h : ta σ H fun xs H1 => xs.length ≤ sizeLine ∧ ∀ p, H1 p = none → Q (.ref p) (upd H1 p (.lst xs))) : tLst ta σ H Q := h
theorem rd_cons (h : te σ H fun x H1 => tl σ H1 fun xs H2 => QL (x :: xs) H2) : tCons te tl σ H QL := h
theorem rd_nil (h : QL [] H) : tNil σ H QL := h
theorem rd_op (h : te σ H fun x H1 => tb σ H1 fun y H2 => r x y H2 Q) : tOp r te tb σ H Q := h
theorem rd_var {i : Nat} {v : V} (hv : σ[i]? = some (some v)) (h : Q v H) : tVar i σ H Q := ⟨v, hv, h⟩
theorem rd_c {v : V} (h : Q v H) : tC v σ H Q := h
end
section
variable {D : Ends} {σ : L2.St} {H : Hp} {Q : V → Hp → Prop} {QB : Bool → Hp → Prop} {te : TE} {ta : TA} {tc : TT} {t u : TS} {r : List V → Hp → VK → Prop} {K : PySem.W.Frag} {f : Str}
theorem rd_if (h : tc σ H fun b H1 => if b = true then t D σ H1 else u D σ H1) : tIfS tc t u D σ H := h
theorem rd_test (h : te σ H fun x H' => ∃ k, x = .bl k ∧ QB k H') : tTest te σ H QB := h
theorem rd_cb (h : ta σ H fun vs H1 => r vs H1 Q) : tCB r ta σ H Q := h
theorem rd_ef (h : te σ H fun x H1 => ∃ (a C dx : Addr) (fs : List (Str × V)) (v : V), x = .ref a ∧ EcC K C ∧ PySem.W.findIn K (.ref C) f = some none ∧ H1 a = some (exo a C (some dx)) ∧ H1 dx = some (exd dx fs) ∧ fs.lookup f = some v ∧ Q v H1) : tEf K f te σ H Q := h
end
end EX
set_option Elab.async false
set_option linter.all false
set_option maxRecDepth 100000
set_option maxHeartbeats 4000000
namespace EX
open PySem L2 PyProof.Rows
/-- the eight objects, n the drawn number, each with what it is as plain data -/
inductive ItemOk (H : Hp) (n : Int) : V → PyData → Prop where
  | int : ItemOk H n (.int n) (.int n)
  | non : ItemOk H n .non .none
  | bl : ItemOk H n (.bl true) (.bool true)
  | str : ItemOk H n (.str "text") (.str "text")
  | tup {t : Addr} (h : H t = some (.tup [.int 1, .int 2])) : ItemOk H n (.ref t) (.tuple [.int 1, .int 2])
  | lst {t : Addr} (h : H t = some (.lst [.int n])) : ItemOk H n (.ref t) (.list [.int n])
  | dic {t : Addr} (h : H t = some (.dK [(Sum.inl 1, .int n)])) : ItemOk H n (.ref t) (.dict [(.int 1, .int n)])
  | nil {t : Addr} (h : H t = some (.tup [])) : ItemOk H n (.ref t) (.tuple [])
theorem ItemOk.mono {H H' : Hp} {n : Int} {v : V} {d : PyData} (s : Same H H') (h : ItemOk H n v d) : ItemOk H' n v d := by
  cases h with
  | int => exact .int
  | non => exact .non
  | bl => exact .bl
  | str => exact .str
  | tup h => exact .tup (s _ _ h)
  | lst h => exact .lst (s _ _ h)
  | dic h => exact .dic (s _ _ h)
  | nil h => exact .nil (s _ _ h)
theorem ItemOk.rp {K : PySem.W.Frag} {H : Hp} {n : Int} {v : V} {d : PyData} (h : ItemOk H n v d) : Rp K H v d := by
  cases h with
  | int => exact .dp (.int n) rfl
  | non => exact .dp .non rfl
  | bl => exact .dp (.bl true) rfl
  | str => exact .dp (.str _) rfl
  | tup h => exact .dp (.tup (SqT.of h) (.cons (.int 1) (.cons (.int 2) .nil))) (by decide)
  | lst h => exact .dp (.lst (SqL.of h) (.cons (.int n) .nil)) rfl
  | dic h => exact .dic h
  | nil h => exact .dp (.tup (SqT.of h) .nil) rfl
theorem ItemOk.small {H : Hp} {n : Int} {v : V} {d : PyData} (h : ItemOk H n v d) (h0 : -500 ≤ n) (h1 : n < 1000000) : d.showable = true ∧ d.depth ≤ 60 ∧ d.shown.length ≤ sizeLine := by
  have hn : (toString n).length ≤ 8 := int_text_length_le10 (k := 7) (by decide) (by omega)
  have hl : n.natAbs.log2 < 1920 := Nat.lt_of_lt_of_le (PySem.Flt.log2_lt_of (k := 20) (by decide) (by omega)) (by decide)
  have hs : PyData.showable (.int n) = true := by
    show decide (n.natAbs.log2 < 1920) = true
    exact decide_eq_true hl
  have hz : (PyData.shown (.int n)).length ≤ 8 := by
    show (Str.ofString (toString n)).length ≤ 8
    rw [PySem.ofString_length]
    exact hn
  cases h with
  | int => exact ⟨hs, (show 0 ≤ 60 by decide), Nat.le_trans hz (by decide)⟩
  | non => exact ⟨rfl, by decide, by decide +kernel⟩
  | bl => exact ⟨rfl, by decide, by decide +kernel⟩
  | str => exact ⟨rfl, by decide, by decide +kernel⟩
  | tup h => exact ⟨by decide +kernel, by decide, by decide +kernel⟩
  | lst h =>
    refine ⟨by show (PyData.showable (.int n) && true) = true; rw [hs]; rfl, (show 0 + 1 ≤ 60 by decide), ?_⟩
    show (listText [PyData.shown (.int n)]).length ≤ sizeLine
    show ((((("[" : Str) ++ ("" : String)) ++ PyData.shown (.int n)) ++ "]" : Str)).length ≤ sizeLine
    rw [strLen_append, strLen_append, strLen_append]
    have e1 : ("[" : Str).length = 1 := rfl
    have e2 : ((("" : String) : Str)).length = 0 := rfl
    have e3 : ((("]" : String) : Str)).length = 1 := rfl
    rw [sizeLine_eq]
    omega
  | dic h =>
    refine ⟨by show (PyData.showable (.int 1) && PyData.showable (.int n) && true) = true; rw [hs]; rfl, (show 0 + 1 ≤ 60 by decide), ?_⟩
    show (dictText [PyData.shown (.int 1) ++ ": " ++ PyData.shown (.int n)]).length ≤ sizeLine
    show (((("{" : Str) ++ (PyData.shown (.int 1) ++ ": " ++ PyData.shown (.int n))) ++ "}" : Str)).length ≤ sizeLine
    rw [strLen_append, strLen_append, strLen_append, strLen_append]
    have e1 : ("{" : Str).length = 1 := rfl
    have e2 : (PyData.shown (.int 1)).length = 1 := by decide +kernel
    have e3 : (((": " : String) : Str)).length = 2 := rfl
    have e4 : ((("}" : String) : Str)).length = 1 := rfl
    rw [sizeLine_eq]
    omega
  | nil h => exact ⟨rfl, by decide, by decide +kernel⟩
/-- lists of bools as data -/
theorem canB : ∀ bs : List Bool, PyData.canLayAll0 (bs.map PyData.bool) = true
  | [] => rfl
  | b :: r => by
    show (PyData.canLay0 (.bool b) && PyData.canLayAll0 (r.map PyData.bool)) = true
    rw [canB r]
    rfl
theorem depB : ∀ bs : List Bool, PyData.depthAll (bs.map PyData.bool) = 0
  | [] => rfl
  | b :: r => by
    show max (PyData.depth (.bool b)) (PyData.depthAll (r.map PyData.bool)) = 0
    rw [depB r]
    rfl
theorem shapedB (bs : List Bool) : SeqAt.shaped (.list (bs.map PyData.bool)) = true := by
  show (PyData.canLayAll0 (bs.map PyData.bool) && decide (PyData.depthAll (bs.map PyData.bool) + 1 ≤ 64)) = true
  rw [canB, depB]
  rfl
theorem eqvB (bs : List Bool) : PyData.eqv (.list (bs.map PyData.bool)) (.list (bs.map PyData.bool)) = true := SeqAt.eqv_refl _ (canB bs)
theorem dpB {K : PySem.W.Frag} {H : Hp} : ∀ bs : List Bool, DpAll K H (bs.map V.bl) (bs.map PyData.bool)
  | [] => .nil
  | b :: r => .cons (.bl b) (dpB r)
theorem Same.updN {H H1 : Hp} {p : Addr} {o : HO} (s : Same H H1) (h : H p = none) : Same H (L2.upd H1 p o) := fun b u e => by
  rw [upd_ne (ne_of_none e h)]
  exact s b u e
theorem AllX.get {H : Hp} : ∀ {cs : List (Addr × List (Str × V))} {as : List (Addr × Addr)} {i : Nat} {a d : Addr}, AllX H cs as → as[i]? = some (a, d) → ∃ C fs, cs[i]? = some (C, fs) ∧ H a = some (exo a C (some d)) ∧ H d = some (exd d fs)
  | _, _, 0, _, _, .cons h _, e => by
    cases e
    exact ⟨_, _, rfl, h.1, h.2⟩
  | _, _, i + 1, _, _, .cons _ t, e => AllX.get (i := i) t e
end EX
set_option Elab.async false
set_option linter.all false
set_option maxRecDepth 100000
set_option maxHeartbeats 4000000
/-! An own exception class called by keywords: BaseException.__new__ looks at none of them, __init__ gets them. -/
namespace PySem
namespace EXK
open Builtin Builtin.ObjectAttr PySem.HandSPX
section
variable {prog : Program} {w : World} {A : Around} {E : Value → Shared → Prop} {R : Result → Shared → Prop} {h : Heap} {g : Array GenState} {d : Drawn} {t : Nat} {os : OsState}
variable {nm q : Str} {C N : Addr} {bs bm bmB : List Value} {hdct : Bool} {sn : List Str} {sub : List Value} {ab : Bool} {col : Option Bool} {dd : Option Addr} {k0 k1 k2 k3 k5 : Option Value} {B newId initId : String} {kw : List (Str × Value)}
theorem checkK {M : Model} (F : ExcBaseFacts B newId initId bmB) (hT : ∀ X : String, bm.contains (.type X) = bmB.contains (.type X)) {rest : List Value} {Q : Unit → Shared → Prop}
    (hC : h.get? C = some (excClassObj nm q C N bs bm hdct sn sub ab col dd k0 k1 k2 k3 k5 newId)) (hq : Q () ⟨h, g, d, t, os⟩) : wpAny M A (checkBuiltinCall newId ⟨.ref C :: rest, kw⟩) Q E ⟨h, g, d, t, os⟩ := by
  have c1 : (Value.ref C :: bm).contains (.type B) = true := by
    rw [List.contains_cons, hT, F.hasB, Bool.or_true]
  have c2 := F.noStar
  simp only [checkBuiltinCall, F.newKind, F.newSplit, F.newRow]
  repeat (first
    | refine wpAny_loadPart_at hC ?_
    | (refine wpAny_isSubtype_exc hC ?_; rw [c1])
    | refine wpAny_staticBase_exc hC ?_
    | refine wpAny_madeBy_exc hC ?_
    | simp only [bne_self_eq_false, Bool.false_eq_true, if_false]
    | wp_step)
  exact hq
theorem newK (F : ExcBaseFacts B newId initId bmB) (hT : ∀ X : String, bm.contains (.type X) = bmB.contains (.type X)) {rest : List Value} (hrest : rest.length ≤ sizeLine)
    (hC : h.get? C = some (excClassObj nm q C N bs bm hdct sn sub ab col dd k0 k1 k2 k3 k5 newId))
    (hq : R (.ok (.ret (.ref (h.objs.size + 1)))) ⟨(h.push (W.kdv_tup rest)).push (excO C h.objs.size), g, d, t, os⟩) : codeAny (model prog w) A (.builtin newId ⟨.ref C :: rest, kw⟩) R ⟨h, g, d, t, os⟩ := by
  have e0 := F.ends
  have c1 : (Value.ref C :: bm).contains (.type B) = true := by
    rw [List.contains_cons, hT, F.hasB, Bool.or_true]
  have c2 : (Value.ref C :: bm).contains (.type "AttributeError") = false := by
    rw [List.contains_cons, hT, F.noAttr]
    rfl
  have c3 : (Value.ref C :: bm).contains (.type "NameError") = false := by
    rw [List.contains_cons, hT, F.noName]
    rfl
  refine codeAny_builtinAt F.entry ?_
  unfold Builtin.«BaseException.__new__»
  refine wpAt_bind ?_
  show wpAt _ _ _ (stack >>= _) _ _ _
  refine wpAt_bind (wpAt_stack fun p below => wpAt_of_wpAny ?_)
  wp_walk
  refine wpAt_of_wpAny ?_
  rw [F.owner]
  repeat (first
    | with_reducible refine wpAny_madeHere_exc F.canon hC ?_
    | with_reducible refine wpAny_loadPart_at hC ?_
    | (with_reducible refine wpAny_isSubtype_exc hC ?_; first | rw [c1] | rw [c2] | rw [c3])
    | wp_step)
  show R _ _
  rw [Heap.size_push]
  exact hq
theorem typeK (F : ExcBaseFacts B newId initId bmB) (hT : ∀ X : String, bm.contains (.type X) = bmB.contains (.type X)) {rest : List Value} {fI : Addr} {Q : Fin → Shared → Prop} (hrest : rest.length ≤ sizeLine)
    (hC : h.get? C = some (excClassObj nm q C N bs bm hdct sn sub ab col dd k0 k1 k2 k3 k5 newId))
    (hi : W.Looks (model prog w) h (typeLookup (.ref C) "__init__") (some (.ref fI))) (hb : ∀ self, W.Looks (model prog w) h (bindSpecial (.ref fI) self) (.ref fI, [self]))
    (hq : codeAny (model prog w) A (.call (.ref fI) ⟨.ref (h.objs.size + 1) :: rest, kw⟩) (fun r s' => match r with
        | .ok (.ret v) => v = .none ∧ Q (.done (.ret (.ref (h.objs.size + 1)))) s'
        | .ok _ => False
        | .error e => E e s') ⟨(h.push (W.kdv_tup rest)).push (excO C h.objs.size), g, d, t, os⟩) :
    wpAny (model prog w) A (Builtin.«type.__call__» ⟨.ref C :: rest, kw⟩) Q E ⟨h, g, d, t, os⟩ := by
  repeat (first
    | with_reducible refine wpAny_loadPart_at hC ?_
    | with_reducible refine wpAny_madeBy_exc hC ?_
    | wp_step)
  refine codeAny_call_builtin_code (Code.quiet_builtin _ F.quiet) (checkK F hT hC (newK F hT hrest hC ?_))
  show wpAny _ _ _ _ _ _
  have keep : ∀ b o, h.get? b = some o → ((h.push (W.kdv_tup rest)).push (excO C h.objs.size)).get? b = some o := fun b o e => Heap.get?_push_of_some _ (Heap.get?_push_of_some _ e)
  have hC2 := keep _ _ hC
  have hobj : ((h.push (W.kdv_tup rest)).push (excO C h.objs.size)).get? (h.objs.size + 1) = some (excO C h.objs.size) := by heap_get
  have own : (Value.ref C :: bm).contains (.ref C) = true := by simp
  have hi2 := hi.keeps keep
  have hb2 := (hb (.ref (h.objs.size + 1))).keeps keep
  unfold isInstance
  repeat (first
    | with_reducible refine wpAny_loadPart_at hobj ?_
    | (with_reducible refine wpAny_isSubtype_exc hC2 ?_; rw [own])
    | wp_step)
  show wpAny _ _ (typeLookup (.ref C) _) _ _ _
  refine hi2.at (wpAny_holding (wpAny_bind (hb2.at (wpAny_bind (wpAny_call (codeAny_mono hq ?_))))))
  intro r s' z
  rcases r with e | (v | _ | _ | _) <;> first | exact z | exact z.elim | skip
  obtain ⟨rfl, z⟩ := z
  first
    | exact wpAny_pure (wpAny_pure z)
    | (wp_walk; exact z)
theorem callK (F : ExcBaseFacts B newId initId bmB) (hT : ∀ X : String, bm.contains (.type X) = bmB.contains (.type X)) {rest : List Value} {fI : Addr} (hrest : rest.length ≤ sizeLine)
    (hC : h.get? C = some (excClassObj nm q C N bs bm hdct sn sub ab col dd k0 k1 k2 k3 k5 newId))
    (hi : W.Looks (model prog w) h (typeLookup (.ref C) "__init__") (some (.ref fI))) (hb : ∀ self, W.Looks (model prog w) h (bindSpecial (.ref fI) self) (.ref fI, [self]))
    (hq : codeAny (model prog w) (A.under (.builtin "type.__call__" ⟨.ref C :: rest, kw⟩)) (.call (.ref fI) ⟨.ref (h.objs.size + 1) :: rest, kw⟩) (W.InitBack (h.objs.size + 1) R) ⟨(h.push (W.kdv_tup rest)).push (excO C h.objs.size), g, d, t, os⟩) :
    codeAny (model prog w) A (.call (.ref C) ⟨rest, kw⟩) R ⟨h, g, d, t, os⟩ := by
  have f1 := tc_lookup
  have f2 := tc_bind (.ref C)
  have ty : (⟨h, g, d, t, os⟩ : Shared).TypeIs (.ref C) "type" := ⟨_, hC, rfl⟩
  refine codeAny_of_tree ?_
  show wpAny _ _ (callAny (.ref C) _) _ _ _
  repeat (any_goals (first
    | assumption
    | with_reducible refine wpAny_loadPart_at hC ?_
    | wp_step))
  refine ⟨rfl, codeAny_call_builtin_at (Code.quiet_builtin _ (by decide +kernel)) entry_typeCall (wpAny_check_type_call_sub hC (typeK F hT hrest hC hi hb (codeAny_mono hq ?_)))⟩
  intro r s' z
  rcases r with e | (v | _ | _ | _) <;> exact z
end
end EXK
end PySem
namespace EX
open PySem L2 PySem.Spec PyProof.Rows
section
variable {X : Cx} {e : Expr} {te : TE} {p pos kp : Pos}
/-- C(k = e) -/
def tMkEK (C : Addr) (sp : Sp) (te : TE) : TE := fun σ H Q => te σ H fun v H1 => ∀ a, H1 a = none → sp [.ref a, v] (upd H1 a (exo a C none)) (fun x H2 => x = .non ∧ Q (.ref a) H2) (fun _ _ _ => False)
theorem pe_mkEK {x kn : Str} {C fI : Addr} {k : Nat} {fd : FuncData} {ps : List Str} {sp : Sp} (T : EcC X.K C) (iC : PySem.W.findIn X.K (.ref C) "__init__" = some (some (.ref fI)))
    (tI : PySem.W.typeIn X.K (.ref fI) = some (.type "function")) (F1 : FnOk X.prog X.w X.K X.mg X.base CX0 k fI fd ps sp) (hr : Room (k + 1) X.A) (hb : ∀ (s : Shared) (u v : Value), BindsTo s fd ⟨[u], [(kn, v)]⟩ (ps.zip [u, v]))
    (hg : Gl X x) (hm : X.mg x = some (.ref C)) (he : PE X e te)
    (hall : (backToKw pos (keywordEach [⟨some kn, e, kp⟩] X.env)).all (·.1.isSome) = true := by rfl) (hks : (backToKw pos (keywordEach [⟨some kn, e, kp⟩] X.env)).filterMap (·.1) = [kn] := by rfl) (hdb : (x == ("__debug__" : Str)) = false := by decide)
    (hpl : ((backTo pos (starEach [] X.env)).any (·.1) || (backToKw pos (keywordEach [⟨some kn, e, kp⟩] X.env)).any (·.1.isNone)) = false := by rfl) :
    PE X (.Call (.Name x p) [] [⟨some kn, e, kp⟩] pos) (tMkEK C sp te) := by
  have hkw : PK X [⟨some kn, e, kp⟩] (tCons te tNil) := pk_cons he pk_nil
  refine ⟨fun pins s σ H Q I h => wpAny_Call_Name_kw (ld_glob I hg hm ?_ hdb)⟩
  refine PySem.W.callWith_KW0 (h₀ := X.base) I.ok.mod.kin T.kC hall (thn (hkw.run pos pins s σ H (fun vs H1 => match vs with
      | [v] => ∀ a, H1 a = none → sp [.ref a, v] (upd H1 a (exo a C none)) (fun x H2 => x = .non ∧ Q (.ref a) H2) (fun _ _ _ => False)
      | _ => False) I h) ?_) hpl
  intro ws s1 ⟨vs, H1, I1, r1, q1⟩
  refine ⟨I1.kIn, ?_⟩
  rw [hks]
  obtain ⟨v, rfl⟩ : ∃ v, vs = [v] := by
    match vs, q1 with
    | [v], _ => exact ⟨v, rfl⟩
    | [], q => exact q.elim
    | _ :: _ :: _, q => exact q.elim
  replace q1 : ∀ a, H1 a = none → sp [.ref a, v] (upd H1 a (exo a C none)) (fun x H2 => x = .non ∧ Q (.ref a) H2) (fun _ _ _ => False) := q1
  obtain ⟨u, rfl, ru⟩ := vals1 r1
  show wpAny _ _ (call (.ref C) [] [(kn, u)]) _ _ _
  obtain ⟨nm, N', qn, bs, bm, hdct, sn, sub, ab, col, dd, k0, k1, k2, k3, k5, hC, hT⟩ := PySem.W.excInit_of I1.kIn T.ini
  obtain ⟨hp, g, dr, tk, os⟩ := s1
  have hsz : hp.objs.size ≤ hp.objs.size + 1 := Nat.le_succ _
  have hn : H1 (hp.objs.size + 1) = none := I1.hok.fresh hsz
  have hq := q1 _ hn
  have hget : ((hp.push (PySem.W.kdv_tup [])).push (PySem.HandSPX.excO C hp.objs.size)).get? (hp.objs.size + 1) = some (PySem.HandSPX.excO C hp.objs.size) := by heap_get
  have I2 := I1.laid (t' := tk) (a := hp.objs.size + 1) (o := exo (hp.objs.size + 1) C none) (h' := (hp.push (PySem.W.kdv_tup [])).push (PySem.HandSPX.excO C hp.objs.size))
    (fun b o z => Heap.get?_push_of_some _ (Heap.get?_push_of_some _ z)) hsz (exo_ok hget)
  have r2 : Vals [V.ref (hp.objs.size + 1), v] [Value.ref (hp.objs.size + 1), u] := .cons rfl (.cons ru .nil)
  refine wpAny_call (PySem.EXK.callK PySem.F.excBase_Exception hT (Nat.zero_le _) hC (PySem.W.looks_findIn I1.kIn iC) (fun self => PySem.W.bind_fn I1.kIn self tI) (codeAny_mono
    (F1.run _ X.stack _ _ ⟨[Value.ref (hp.objs.size + 1)], [(kn, u)]⟩ [Value.ref (hp.objs.size + 1), u] _ _ (fun _ _ _ => False) (hr.make C [] [(kn, u)]) (I2.env0.make C [] [(kn, u)]) (hb _ _ _) r2 hq) ?_))
  intro r s' hq'
  cases r with
  | error er => exact hq'.elim
  | ok fl =>
    cases fl with
    | ret u' =>
      obtain ⟨v', H2, os2, bare2, un2, hok2, rv, ev, q2⟩ := hq'
      subst ev
      obtain ⟨h2, g2, d2, t2, os'⟩ := s'
      exact ⟨rv, V.ref (hp.objs.size + 1), H2, I2.call' (ch := []) os2 un2 hok2 bare2 (fun b z => absurd z (by simp)), rfl, q2⟩
    | next => exact False.elim hq'
    | brk => exact False.elim hq'
    | cont => exact False.elim hq'
end
end EX
set_option Elab.async false
set_option linter.all false
set_option maxRecDepth 100000
set_option maxHeartbeats 4000000
namespace K85
open PySem L2 EX PyProof.Rows
def top (i : Nat) : Stmt := PySem.Challenge.pw_slackcache_k85_classes_of_later_errors.main.body.getD i (.Pass ⟨0, 0, 0, 0⟩)
structure XkAt (P : Program) (w : World) (K : PySem.W.Frag) (mg : Str → Option Value) (base : Heap) (x f : Str) (C : Addr) : Prop where
  T : EcC K C
  m : mg x = some (.ref C)
  no : PySem.W.findIn K (.ref C) f = some none
  ex : ∃ (fI : Addr) (fd : FuncData), PySem.W.findIn K (.ref C) "__init__" = some (some (.ref fI)) ∧ PySem.W.typeIn K (.ref fI) = some (.type "function") ∧ FnOk P w K mg base CX0 1 fI fd [("self" : Str), f] (spI1 K C f) ∧ Binds K fd [("self" : Str), f] [] ∧
    ∀ (s : Shared) (u v : Value), BindsTo s fd ⟨[u], [(f, v)]⟩ ([("self" : Str), f].zip [u, v])
section
variable {X : Cx} {e : Expr} {es : List Expr} {ta : TA} {te : TE} {p pos kp : Pos} {x f : Str} {C : Addr}
theorem pe_mkP (D : XkAt X.prog X.w X.K X.mg X.base x f C) (hr : Room 2 X.A) (ha : PA X (e :: es) ta) (hg : Gl X x := by rfl) (hdb : (x == ("__debug__" : Str)) = false := by decide)
    (he : starEach (e :: es) X.env = (false, eval e X.env) :: starEach es X.env := by rfl) (hpl : (backTo pos (starEach es X.env)).any (·.1) = false := by rfl) : PE X (.Call (.Name x p) (e :: es) [] pos) (tMkE C (spI1 X.K C f) [] ta) := by
  obtain ⟨fI, fd, iC, tI, F, b, _⟩ := D.ex
  exact pe_mkE D.T iC tI F hr b .nil (fun _ _ _ _ _ _ _ h => h.elim) hg D.m ha hdb he hpl
theorem pe_mkK (D : XkAt X.prog X.w X.K X.mg X.base x f C) (hr : Room 2 X.A) (he : PE X e te) (hg : Gl X x := by rfl)
    (hall : (backToKw pos (keywordEach [⟨some f, e, kp⟩] X.env)).all (·.1.isSome) = true := by rfl) (hks : (backToKw pos (keywordEach [⟨some f, e, kp⟩] X.env)).filterMap (·.1) = [f] := by rfl) (hdb : (x == ("__debug__" : Str)) = false := by decide)
    (hpl : ((backTo pos (starEach [] X.env)).any (·.1) || (backToKw pos (keywordEach [⟨some f, e, kp⟩] X.env)).any (·.1.isNone)) = false := by rfl) : PE X (.Call (.Name x p) [] [⟨some f, e, kp⟩] pos) (tMkEK C (spI1 X.K C f) te) := by
  obtain ⟨fI, fd, iC, tI, F, _, b⟩ := D.ex
  exact pe_mkEK D.T iC tI F hr b hg D.m he hall hks hdb hpl
theorem pe_clsK (D : XkAt X.prog X.w X.K X.mg X.base x f C) (hg : Gl X x := by rfl) (hd : (x == ("__debug__" : Str)) = false := by decide) : PE X (.Name x pos) (tC (.ref C)) := pe_glob hg D.m rfl hd
end
theorem rd_mkK {K : PySem.W.Frag} {C : Addr} {f : Str} {σ : L2.St} {i : Nat} {v : V} {H : Hp} {Q : V → Hp → Prop} (hv : σ[i]? = some (some v)) (h : ∀ a d H', Same H H' → H' a = some (exo a C (some d)) → H' d = some (exd d [(f, v)]) → Q (.ref a) H') :
    tMkEK C (spI1 K C f) (tVar i) σ H Q := ⟨v, hv, (mk1 (v := v) h).2⟩
section
variable {P : Program} {w : World} {K : PySem.W.Frag} {mg : Str → Option Value} {base : Heap}
abbrev sI0 : Stmt := inClass (top 24) 0
theorem scI0 : FnScope ["self", "given"] ["self", "given"] (defScope sI0) := ⟨rfl, rfl, rfl, by decide +kernel, rfl, by decide +kernel, by decide +kernel⟩
theorem okI0 {C f : Addr} {fd : FuncData} (F : Fun K "__init__" "InvalidCommand.__init__" sI0 f fd) (T : EcC K C) (tk : PySem.W.takerIn K C "given" = some none) : FnOk P w K mg base CX0 1 f fd ["self", "given"] (spI1 K C "given") := by
  refine F.ok scI0 (fun vs H Q E h => ?_) (fun cdv A outer s H vs Q E hr h => ?_)
  · obtain ⟨a, v, rfl, _⟩ := h
    rfl
  · obtain ⟨a, v, rfl, e, q⟩ := h
    exact ⟨_, pss_one (ps_est (pv 0) (pv 1)), _, rfl, _, rfl, a, C, rfl, T, tk, .inl ⟨e, q⟩⟩
abbrev sI1 : Stmt := inClass (top 12) 0
theorem scI1 : FnScope ["self", "given"] ["self", "given"] (defScope sI1) := ⟨rfl, rfl, rfl, by decide +kernel, rfl, by decide +kernel, by decide +kernel⟩
theorem okI1 {C f : Addr} {fd : FuncData} (F : Fun K "__init__" "InvalidCondition.__init__" sI1 f fd) (T : EcC K C) (tk : PySem.W.takerIn K C "given" = some none) : FnOk P w K mg base CX0 1 f fd ["self", "given"] (spI1 K C "given") := by
  refine F.ok scI1 (fun vs H Q E h => ?_) (fun cdv A outer s H vs Q E hr h => ?_)
  · obtain ⟨a, v, rfl, _⟩ := h
    rfl
  · obtain ⟨a, v, rfl, e, q⟩ := h
    exact ⟨_, pss_one (ps_est (pv 0) (pv 1)), _, rfl, _, rfl, a, C, rfl, T, tk, .inl ⟨e, q⟩⟩
abbrev sI2 : Stmt := inClass (top 3) 0
theorem scI2 : FnScope ["self", "given"] ["self", "given"] (defScope sI2) := ⟨rfl, rfl, rfl, by decide +kernel, rfl, by decide +kernel, by decide +kernel⟩
theorem okI2 {C f : Addr} {fd : FuncData} (F : Fun K "__init__" "InvalidCut.__init__" sI2 f fd) (T : EcC K C) (tk : PySem.W.takerIn K C "given" = some none) : FnOk P w K mg base CX0 1 f fd ["self", "given"] (spI1 K C "given") := by
  refine F.ok scI2 (fun vs H Q E h => ?_) (fun cdv A outer s H vs Q E hr h => ?_)
  · obtain ⟨a, v, rfl, _⟩ := h
    rfl
  · obtain ⟨a, v, rfl, e, q⟩ := h
    exact ⟨_, pss_one (ps_est (pv 0) (pv 1)), _, rfl, _, rfl, a, C, rfl, T, tk, .inl ⟨e, q⟩⟩
abbrev sI3 : Stmt := inClass (top 9) 0
theorem scI3 : FnScope ["self", "given"] ["self", "given"] (defScope sI3) := ⟨rfl, rfl, rfl, by decide +kernel, rfl, by decide +kernel, by decide +kernel⟩
theorem okI3 {C f : Addr} {fd : FuncData} (F : Fun K "__init__" "InvalidLog.__init__" sI3 f fd) (T : EcC K C) (tk : PySem.W.takerIn K C "given" = some none) : FnOk P w K mg base CX0 1 f fd ["self", "given"] (spI1 K C "given") := by
  refine F.ok scI3 (fun vs H Q E h => ?_) (fun cdv A outer s H vs Q E hr h => ?_)
  · obtain ⟨a, v, rfl, _⟩ := h
    rfl
  · obtain ⟨a, v, rfl, e, q⟩ := h
    exact ⟨_, pss_one (ps_est (pv 0) (pv 1)), _, rfl, _, rfl, a, C, rfl, T, tk, .inl ⟨e, q⟩⟩
abbrev sI4 : Stmt := inClass (top 4) 0
theorem scI4 : FnScope ["self", "given"] ["self", "given"] (defScope sI4) := ⟨rfl, rfl, rfl, by decide +kernel, rfl, by decide +kernel, by decide +kernel⟩
theorem okI4 {C f : Addr} {fd : FuncData} (F : Fun K "__init__" "InvalidMoment.__init__" sI4 f fd) (T : EcC K C) (tk : PySem.W.takerIn K C "given" = some none) : FnOk P w K mg base CX0 1 f fd ["self", "given"] (spI1 K C "given") := by
  refine F.ok scI4 (fun vs H Q E h => ?_) (fun cdv A outer s H vs Q E hr h => ?_)
  · obtain ⟨a, v, rfl, _⟩ := h
    rfl
  · obtain ⟨a, v, rfl, e, q⟩ := h
    exact ⟨_, pss_one (ps_est (pv 0) (pv 1)), _, rfl, _, rfl, a, C, rfl, T, tk, .inl ⟨e, q⟩⟩
abbrev sI5 : Stmt := inClass (top 13) 0
theorem scI5 : FnScope ["self", "given"] ["self", "given"] (defScope sI5) := ⟨rfl, rfl, rfl, by decide +kernel, rfl, by decide +kernel, by decide +kernel⟩
theorem okI5 {C f : Addr} {fd : FuncData} (F : Fun K "__init__" "InvalidMost.__init__" sI5 f fd) (T : EcC K C) (tk : PySem.W.takerIn K C "given" = some none) : FnOk P w K mg base CX0 1 f fd ["self", "given"] (spI1 K C "given") := by
  refine F.ok scI5 (fun vs H Q E h => ?_) (fun cdv A outer s H vs Q E hr h => ?_)
  · obtain ⟨a, v, rfl, _⟩ := h
    rfl
  · obtain ⟨a, v, rfl, e, q⟩ := h
    exact ⟨_, pss_one (ps_est (pv 0) (pv 1)), _, rfl, _, rfl, a, C, rfl, T, tk, .inl ⟨e, q⟩⟩
abbrev sI6 : Stmt := inClass (top 5) 0
theorem scI6 : FnScope ["self", "given"] ["self", "given"] (defScope sI6) := ⟨rfl, rfl, rfl, by decide +kernel, rfl, by decide +kernel, by decide +kernel⟩
theorem okI6 {C f : Addr} {fd : FuncData} (F : Fun K "__init__" "InvalidOperand.__init__" sI6 f fd) (T : EcC K C) (tk : PySem.W.takerIn K C "given" = some none) : FnOk P w K mg base CX0 1 f fd ["self", "given"] (spI1 K C "given") := by
  refine F.ok scI6 (fun vs H Q E h => ?_) (fun cdv A outer s H vs Q E hr h => ?_)
  · obtain ⟨a, v, rfl, _⟩ := h
    rfl
  · obtain ⟨a, v, rfl, e, q⟩ := h
    exact ⟨_, pss_one (ps_est (pv 0) (pv 1)), _, rfl, _, rfl, a, C, rfl, T, tk, .inl ⟨e, q⟩⟩
abbrev sI7 : Stmt := inClass (top 2) 0
theorem scI7 : FnScope ["self", "given"] ["self", "given"] (defScope sI7) := ⟨rfl, rfl, rfl, by decide +kernel, rfl, by decide +kernel, by decide +kernel⟩
theorem okI7 {C f : Addr} {fd : FuncData} (F : Fun K "__init__" "InvalidOrder.__init__" sI7 f fd) (T : EcC K C) (tk : PySem.W.takerIn K C "given" = some none) : FnOk P w K mg base CX0 1 f fd ["self", "given"] (spI1 K C "given") := by
  refine F.ok scI7 (fun vs H Q E h => ?_) (fun cdv A outer s H vs Q E hr h => ?_)
  · obtain ⟨a, v, rfl, _⟩ := h
    rfl
  · obtain ⟨a, v, rfl, e, q⟩ := h
    exact ⟨_, pss_one (ps_est (pv 0) (pv 1)), _, rfl, _, rfl, a, C, rfl, T, tk, .inl ⟨e, q⟩⟩
abbrev sI8 : Stmt := inClass (top 16) 0
theorem scI8 : FnScope ["self", "given"] ["self", "given"] (defScope sI8) := ⟨rfl, rfl, rfl, by decide +kernel, rfl, by decide +kernel, by decide +kernel⟩
theorem okI8 {C f : Addr} {fd : FuncData} (F : Fun K "__init__" "InvalidSequence.__init__" sI8 f fd) (T : EcC K C) (tk : PySem.W.takerIn K C "given" = some none) : FnOk P w K mg base CX0 1 f fd ["self", "given"] (spI1 K C "given") := by
  refine F.ok scI8 (fun vs H Q E h => ?_) (fun cdv A outer s H vs Q E hr h => ?_)
  · obtain ⟨a, v, rfl, _⟩ := h
    rfl
  · obtain ⟨a, v, rfl, e, q⟩ := h
    exact ⟨_, pss_one (ps_est (pv 0) (pv 1)), _, rfl, _, rfl, a, C, rfl, T, tk, .inl ⟨e, q⟩⟩
abbrev sI9 : Stmt := inClass (top 15) 0
theorem scI9 : FnScope ["self", "given"] ["self", "given"] (defScope sI9) := ⟨rfl, rfl, rfl, by decide +kernel, rfl, by decide +kernel, by decide +kernel⟩
theorem okI9 {C f : Addr} {fd : FuncData} (F : Fun K "__init__" "InvalidTarget.__init__" sI9 f fd) (T : EcC K C) (tk : PySem.W.takerIn K C "given" = some none) : FnOk P w K mg base CX0 1 f fd ["self", "given"] (spI1 K C "given") := by
  refine F.ok scI9 (fun vs H Q E h => ?_) (fun cdv A outer s H vs Q E hr h => ?_)
  · obtain ⟨a, v, rfl, _⟩ := h
    rfl
  · obtain ⟨a, v, rfl, e, q⟩ := h
    exact ⟨_, pss_one (ps_est (pv 0) (pv 1)), _, rfl, _, rfl, a, C, rfl, T, tk, .inl ⟨e, q⟩⟩
abbrev sI10 : Stmt := inClass (top 23) 0
theorem scI10 : FnScope ["self", "given"] ["self", "given"] (defScope sI10) := ⟨rfl, rfl, rfl, by decide +kernel, rfl, by decide +kernel, by decide +kernel⟩
theorem okI10 {C f : Addr} {fd : FuncData} (F : Fun K "__init__" "InvalidText.__init__" sI10 f fd) (T : EcC K C) (tk : PySem.W.takerIn K C "given" = some none) : FnOk P w K mg base CX0 1 f fd ["self", "given"] (spI1 K C "given") := by
  refine F.ok scI10 (fun vs H Q E h => ?_) (fun cdv A outer s H vs Q E hr h => ?_)
  · obtain ⟨a, v, rfl, _⟩ := h
    rfl
  · obtain ⟨a, v, rfl, e, q⟩ := h
    exact ⟨_, pss_one (ps_est (pv 0) (pv 1)), _, rfl, _, rfl, a, C, rfl, T, tk, .inl ⟨e, q⟩⟩
abbrev sI11 : Stmt := inClass (top 6) 0
theorem scI11 : FnScope ["self", "given"] ["self", "given"] (defScope sI11) := ⟨rfl, rfl, rfl, by decide +kernel, rfl, by decide +kernel, by decide +kernel⟩
theorem okI11 {C f : Addr} {fd : FuncData} (F : Fun K "__init__" "InvalidToken.__init__" sI11 f fd) (T : EcC K C) (tk : PySem.W.takerIn K C "given" = some none) : FnOk P w K mg base CX0 1 f fd ["self", "given"] (spI1 K C "given") := by
  refine F.ok scI11 (fun vs H Q E h => ?_) (fun cdv A outer s H vs Q E hr h => ?_)
  · obtain ⟨a, v, rfl, _⟩ := h
    rfl
  · obtain ⟨a, v, rfl, e, q⟩ := h
    exact ⟨_, pss_one (ps_est (pv 0) (pv 1)), _, rfl, _, rfl, a, C, rfl, T, tk, .inl ⟨e, q⟩⟩
abbrev sI12 : Stmt := inClass (top 14) 0
theorem scI12 : FnScope ["self", "given"] ["self", "given"] (defScope sI12) := ⟨rfl, rfl, rfl, by decide +kernel, rfl, by decide +kernel, by decide +kernel⟩
theorem okI12 {C f : Addr} {fd : FuncData} (F : Fun K "__init__" "InvalidTree.__init__" sI12 f fd) (T : EcC K C) (tk : PySem.W.takerIn K C "given" = some none) : FnOk P w K mg base CX0 1 f fd ["self", "given"] (spI1 K C "given") := by
  refine F.ok scI12 (fun vs H Q E h => ?_) (fun cdv A outer s H vs Q E hr h => ?_)
  · obtain ⟨a, v, rfl, _⟩ := h
    rfl
  · obtain ⟨a, v, rfl, e, q⟩ := h
    exact ⟨_, pss_one (ps_est (pv 0) (pv 1)), _, rfl, _, rfl, a, C, rfl, T, tk, .inl ⟨e, q⟩⟩
abbrev sI13 : Stmt := inClass (top 18) 0
theorem scI13 : FnScope ["self", "given"] ["self", "given"] (defScope sI13) := ⟨rfl, rfl, rfl, by decide +kernel, rfl, by decide +kernel, by decide +kernel⟩
theorem okI13 {C f : Addr} {fd : FuncData} (F : Fun K "__init__" "InvalidUser.__init__" sI13 f fd) (T : EcC K C) (tk : PySem.W.takerIn K C "given" = some none) : FnOk P w K mg base CX0 1 f fd ["self", "given"] (spI1 K C "given") := by
  refine F.ok scI13 (fun vs H Q E h => ?_) (fun cdv A outer s H vs Q E hr h => ?_)
  · obtain ⟨a, v, rfl, _⟩ := h
    rfl
  · obtain ⟨a, v, rfl, e, q⟩ := h
    exact ⟨_, pss_one (ps_est (pv 0) (pv 1)), _, rfl, _, rfl, a, C, rfl, T, tk, .inl ⟨e, q⟩⟩
abbrev sI14 : Stmt := inClass (top 17) 0
theorem scI14 : FnScope ["self", "line"] ["self", "line"] (defScope sI14) := ⟨rfl, rfl, rfl, by decide +kernel, rfl, by decide +kernel, by decide +kernel⟩
theorem okI14 {C f : Addr} {fd : FuncData} (F : Fun K "__init__" "InvalidScript.__init__" sI14 f fd) (T : EcC K C) (tk : PySem.W.takerIn K C "line" = some none) : FnOk P w K mg base CX0 1 f fd ["self", "line"] (spI1 K C "line") := by
  refine F.ok scI14 (fun vs H Q E h => ?_) (fun cdv A outer s H vs Q E hr h => ?_)
  · obtain ⟨a, v, rfl, _⟩ := h
    rfl
  · obtain ⟨a, v, rfl, e, q⟩ := h
    exact ⟨_, pss_one (ps_est (pv 0) (pv 1)), _, rfl, _, rfl, a, C, rfl, T, tk, .inl ⟨e, q⟩⟩
abbrev sI15 : Stmt := inClass (top 19) 0
theorem scI15 : FnScope ["self", "net"] ["self", "net"] (defScope sI15) := ⟨rfl, rfl, rfl, by decide +kernel, rfl, by decide +kernel, by decide +kernel⟩
theorem okI15 {C f : Addr} {fd : FuncData} (F : Fun K "__init__" "NetTaken.__init__" sI15 f fd) (T : EcC K C) (tk : PySem.W.takerIn K C "net" = some none) : FnOk P w K mg base CX0 1 f fd ["self", "net"] (spI1 K C "net") := by
  refine F.ok scI15 (fun vs H Q E h => ?_) (fun cdv A outer s H vs Q E hr h => ?_)
  · obtain ⟨a, v, rfl, _⟩ := h
    rfl
  · obtain ⟨a, v, rfl, e, q⟩ := h
    exact ⟨_, pss_one (ps_est (pv 0) (pv 1)), _, rfl, _, rfl, a, C, rfl, T, tk, .inl ⟨e, q⟩⟩
abbrev sI16 : Stmt := inClass (top 20) 0
theorem scI16 : FnScope ["self", "net"] ["self", "net"] (defScope sI16) := ⟨rfl, rfl, rfl, by decide +kernel, rfl, by decide +kernel, by decide +kernel⟩
theorem okI16 {C f : Addr} {fd : FuncData} (F : Fun K "__init__" "UnknownNet.__init__" sI16 f fd) (T : EcC K C) (tk : PySem.W.takerIn K C "net" = some none) : FnOk P w K mg base CX0 1 f fd ["self", "net"] (spI1 K C "net") := by
  refine F.ok scI16 (fun vs H Q E h => ?_) (fun cdv A outer s H vs Q E hr h => ?_)
  · obtain ⟨a, v, rfl, _⟩ := h
    rfl
  · obtain ⟨a, v, rfl, e, q⟩ := h
    exact ⟨_, pss_one (ps_est (pv 0) (pv 1)), _, rfl, _, rfl, a, C, rfl, T, tk, .inl ⟨e, q⟩⟩
abbrev sI17 : Stmt := inClass (top 21) 0
theorem scI17 : FnScope ["self", "net"] ["self", "net"] (defScope sI17) := ⟨rfl, rfl, rfl, by decide +kernel, rfl, by decide +kernel, by decide +kernel⟩
theorem okI17 {C f : Addr} {fd : FuncData} (F : Fun K "__init__" "NothingToUndo.__init__" sI17 f fd) (T : EcC K C) (tk : PySem.W.takerIn K C "net" = some none) : FnOk P w K mg base CX0 1 f fd ["self", "net"] (spI1 K C "net") := by
  refine F.ok scI17 (fun vs H Q E h => ?_) (fun cdv A outer s H vs Q E hr h => ?_)
  · obtain ⟨a, v, rfl, _⟩ := h
    rfl
  · obtain ⟨a, v, rfl, e, q⟩ := h
    exact ⟨_, pss_one (ps_est (pv 0) (pv 1)), _, rfl, _, rfl, a, C, rfl, T, tk, .inl ⟨e, q⟩⟩
abbrev sI18 : Stmt := inClass (top 22) 0
theorem scI18 : FnScope ["self", "user"] ["self", "user"] (defScope sI18) := ⟨rfl, rfl, rfl, by decide +kernel, rfl, by decide +kernel, by decide +kernel⟩
theorem okI18 {C f : Addr} {fd : FuncData} (F : Fun K "__init__" "NotYours.__init__" sI18 f fd) (T : EcC K C) (tk : PySem.W.takerIn K C "user" = some none) : FnOk P w K mg base CX0 1 f fd ["self", "user"] (spI1 K C "user") := by
  refine F.ok scI18 (fun vs H Q E h => ?_) (fun cdv A outer s H vs Q E hr h => ?_)
  · obtain ⟨a, v, rfl, _⟩ := h
    rfl
  · obtain ⟨a, v, rfl, e, q⟩ := h
    exact ⟨_, pss_one (ps_est (pv 0) (pv 1)), _, rfl, _, rfl, a, C, rfl, T, tk, .inl ⟨e, q⟩⟩
abbrev sI19 : Stmt := inClass (top 8) 0
theorem scI19 : FnScope ["self", "question"] ["self", "question"] (defScope sI19) := ⟨rfl, rfl, rfl, by decide +kernel, rfl, by decide +kernel, by decide +kernel⟩
theorem okI19 {C f : Addr} {fd : FuncData} (F : Fun K "__init__" "NoAnswer.__init__" sI19 f fd) (T : EcC K C) (tk : PySem.W.takerIn K C "question" = some none) : FnOk P w K mg base CX0 1 f fd ["self", "question"] (spI1 K C "question") := by
  refine F.ok scI19 (fun vs H Q E h => ?_) (fun cdv A outer s H vs Q E hr h => ?_)
  · obtain ⟨a, v, rfl, _⟩ := h
    rfl
  · obtain ⟨a, v, rfl, e, q⟩ := h
    exact ⟨_, pss_one (ps_est (pv 0) (pv 1)), _, rfl, _, rfl, a, C, rfl, T, tk, .inl ⟨e, q⟩⟩
abbrev sI20 : Stmt := inClass (top 7) 0
theorem scI20 : FnScope ["self", "question"] ["self", "question"] (defScope sI20) := ⟨rfl, rfl, rfl, by decide +kernel, rfl, by decide +kernel, by decide +kernel⟩
theorem okI20 {C f : Addr} {fd : FuncData} (F : Fun K "__init__" "Overtaken.__init__" sI20 f fd) (T : EcC K C) (tk : PySem.W.takerIn K C "question" = some none) : FnOk P w K mg base CX0 1 f fd ["self", "question"] (spI1 K C "question") := by
  refine F.ok scI20 (fun vs H Q E h => ?_) (fun cdv A outer s H vs Q E hr h => ?_)
  · obtain ⟨a, v, rfl, _⟩ := h
    rfl
  · obtain ⟨a, v, rfl, e, q⟩ := h
    exact ⟨_, pss_one (ps_est (pv 0) (pv 1)), _, rfl, _, rfl, a, C, rfl, T, tk, .inl ⟨e, q⟩⟩
abbrev sI21 : Stmt := inClass (top 10) 0
theorem scI21 : FnScope ["self", "word"] ["self", "word"] (defScope sI21) := ⟨rfl, rfl, rfl, by decide +kernel, rfl, by decide +kernel, by decide +kernel⟩
theorem okI21 {C f : Addr} {fd : FuncData} (F : Fun K "__init__" "NothingWaits.__init__" sI21 f fd) (T : EcC K C) (tk : PySem.W.takerIn K C "word" = some none) : FnOk P w K mg base CX0 1 f fd ["self", "word"] (spI1 K C "word") := by
  refine F.ok scI21 (fun vs H Q E h => ?_) (fun cdv A outer s H vs Q E hr h => ?_)
  · obtain ⟨a, v, rfl, _⟩ := h
    rfl
  · obtain ⟨a, v, rfl, e, q⟩ := h
    exact ⟨_, pss_one (ps_est (pv 0) (pv 1)), _, rfl, _, rfl, a, C, rfl, T, tk, .inl ⟨e, q⟩⟩
abbrev sI22 : Stmt := inClass (top 11) 0
theorem scI22 : FnScope ["self", "node"] ["self", "node"] (defScope sI22) := ⟨rfl, rfl, rfl, by decide +kernel, rfl, by decide +kernel, by decide +kernel⟩
theorem okI22 {C f : Addr} {fd : FuncData} (F : Fun K "__init__" "Unsettled.__init__" sI22 f fd) (T : EcC K C) (tk : PySem.W.takerIn K C "node" = some none) : FnOk P w K mg base CX0 1 f fd ["self", "node"] (spI1 K C "node") := by
  refine F.ok scI22 (fun vs H Q E h => ?_) (fun cdv A outer s H vs Q E hr h => ?_)
  · obtain ⟨a, v, rfl, _⟩ := h
    rfl
  · obtain ⟨a, v, rfl, e, q⟩ := h
    exact ⟨_, pss_one (ps_est (pv 0) (pv 1)), _, rfl, _, rfl, a, C, rfl, T, tk, .inl ⟨e, q⟩⟩
end
structure Xs (P : Program) (w : World) (K : PySem.W.Frag) (mg : Str → Option Value) (base : Heap) (c0 c1 c2 c3 c4 c5 c6 c7 c8 c9 c10 c11 c12 c13 c14 c15 c16 c17 c18 c19 c20 c21 c22 : Addr) : Prop where
  x0 : XkAt P w K mg base "InvalidCommand" "given" c0
  x1 : XkAt P w K mg base "InvalidCondition" "given" c1
  x2 : XkAt P w K mg base "InvalidCut" "given" c2
  x3 : XkAt P w K mg base "InvalidLog" "given" c3
  x4 : XkAt P w K mg base "InvalidMoment" "given" c4
  x5 : XkAt P w K mg base "InvalidMost" "given" c5
  x6 : XkAt P w K mg base "InvalidOperand" "given" c6
  x7 : XkAt P w K mg base "InvalidOrder" "given" c7
  x8 : XkAt P w K mg base "InvalidSequence" "given" c8
  x9 : XkAt P w K mg base "InvalidTarget" "given" c9
  x10 : XkAt P w K mg base "InvalidText" "given" c10
  x11 : XkAt P w K mg base "InvalidToken" "given" c11
  x12 : XkAt P w K mg base "InvalidTree" "given" c12
  x13 : XkAt P w K mg base "InvalidUser" "given" c13
  x14 : XkAt P w K mg base "InvalidScript" "line" c14
  x15 : XkAt P w K mg base "NetTaken" "net" c15
  x16 : XkAt P w K mg base "UnknownNet" "net" c16
  x17 : XkAt P w K mg base "NothingToUndo" "net" c17
  x18 : XkAt P w K mg base "NotYours" "user" c18
  x19 : XkAt P w K mg base "NoAnswer" "question" c19
  x20 : XkAt P w K mg base "Overtaken" "question" c20
  x21 : XkAt P w K mg base "NothingWaits" "word" c21
  x22 : XkAt P w K mg base "Unsettled" "node" c22
def tabG (c0 c1 c2 c3 c4 c5 c6 c7 c8 c9 c10 c11 c12 c13 c14 c15 c16 c17 c18 c19 c20 c21 c22 : Addr) (v : V) : List (Addr × List (Str × V)) := [(c0, [("given", v)]), (c1, [("given", v)]), (c2, [("given", v)]), (c3, [("given", v)]), (c4, [("given", v)]), (c5, [("given", v)]), (c6, [("given", v)]), (c7, [("given", v)]), (c8, [("given", v)]), (c9, [("given", v)]), (c10, [("given", v)]), (c11, [("given", v)]), (c12, [("given", v)]), (c13, [("given", v)])]
def tabO (c0 c1 c2 c3 c4 c5 c6 c7 c8 c9 c10 c11 c12 c13 c14 c15 c16 c17 c18 c19 c20 c21 c22 : Addr) (v : V) : List (Addr × List (Str × V)) := [(c14, [("line", v)]), (c15, [("net", v)]), (c16, [("net", v)]), (c17, [("net", v)]), (c18, [("user", v)]), (c19, [("question", v)]), (c20, [("question", v)]), (c21, [("word", v)]), (c22, [("node", v)])]
def spAll (cs : V → List (Addr × List (Str × V))) : Sp := fun vs H Q _ => ∃ v : V, vs = [v] ∧ ∀ (p : Addr) (as : List (Addr × Addr)) (H' : Hp), Same H H' → AllX H' (cs v) as → H' p = some (.lst (as.map fun x => V.ref x.1)) → Q (.ref p) H'
section
variable {P : Program} {w : World} {K : PySem.W.Frag} {mg : Str → Option Value} {base : Heap}
abbrev sGiven : Stmt := top 28
theorem scG : FnScope ["_law_thing", "_law_found"] ["_law_thing"] (defScope sGiven) := ⟨rfl, rfl, rfl, by decide +kernel, rfl, by decide +kernel, by decide +kernel⟩
theorem ok_law_given {f : Addr} {fd : FuncData} {c0 c1 c2 c3 c4 c5 c6 c7 c8 c9 c10 c11 c12 c13 c14 c15 c16 c17 c18 c19 c20 c21 c22 : Addr} (F : Fun K "_law_given" "_law_given" sGiven f fd) (X : Xs P w K mg base c0 c1 c2 c3 c4 c5 c6 c7 c8 c9 c10 c11 c12 c13 c14 c15 c16 c17 c18 c19 c20 c21 c22) : FnOk P w K mg base CX0 3 f fd ["_law_thing"] (spAll (tabG c0 c1 c2 c3 c4 c5 c6 c7 c8 c9 c10 c11 c12 c13 c14 c15 c16 c17 c18 c19 c20 c21 c22)) := by
  refine F.ok scG (fun vs H Q E h => ?_) (fun cdv A outer s H vs Q E hr h => ?_)
  · obtain ⟨v, rfl, _⟩ := h
    rfl
  · obtain ⟨v, rfl, k⟩ := h
    have hr2 : Room 2 _ := hr
    refine ⟨_, (pss_cons (ps_set (i := 1) scG.nd rfl (Or.inl rfl) (pe_lst (pa_cons (pe_mkP X.x0 hr2 (pa_cons (pv 0) pa_nil)) (pa_cons (pe_mkK X.x1 hr2 (pv 0)) (pa_cons (pe_mkP X.x2 hr2 (pa_cons (pv 0) pa_nil)) (pa_cons (pe_mkK X.x3 hr2 (pv 0)) pa_nil))))))
        (pss_cons (ps_set (i := 1) scG.nd rfl (Or.inl rfl) (pe_op op_cat (pv 1) (pe_lst (pa_cons (pe_mkP X.x4 hr2 (pa_cons (pv 0) pa_nil)) (pa_cons (pe_mkK X.x5 hr2 (pv 0)) (pa_cons (pe_mkP X.x6 hr2 (pa_cons (pv 0) pa_nil)) (pa_cons (pe_mkK X.x7 hr2 (pv 0)) pa_nil)))))))
        (pss_cons (ps_set (i := 1) scG.nd rfl (Or.inl rfl) (pe_op op_cat (pv 1) (pe_lst (pa_cons (pe_mkP X.x8 hr2 (pa_cons (pv 0) pa_nil)) (pa_cons (pe_mkK X.x9 hr2 (pv 0)) (pa_cons (pe_mkP X.x10 hr2 (pa_cons (pv 0) pa_nil)) (pa_cons (pe_mkK X.x11 hr2 (pv 0)) pa_nil)))))))
        (pss_one (ps_ret (pe_op op_cat (pv 1) (pe_lst (pa_cons (pe_mkP X.x12 hr2 (pa_cons (pv 0) pa_nil)) (pa_cons (pe_mkK X.x13 hr2 (pv 0)) pa_nil))))))))), ?_⟩
    have E : AllX H [] [] := .nil
    have S : Same H H := Same.refl H
    refine rd_seq (rd_asg (rd_disp (rd_cons (rd_mk1 (v := v) rfl fun a0 d0 H0 s e1 e2 => ?_))))
    replace E := (E.mono s).snoc (c := (c0, [("given", v)])) e1 e2
    replace S := Same.trans S s
    clear s e1 e2
    refine (rd_cons (rd_mkK (v := v) rfl fun a1 d1 H1 s e1 e2 => ?_))
    replace E := (E.mono s).snoc (c := (c1, [("given", v)])) e1 e2
    replace S := Same.trans S s
    clear s e1 e2
    refine (rd_cons (rd_mk1 (v := v) rfl fun a2 d2 H2 s e1 e2 => ?_))
    replace E := (E.mono s).snoc (c := (c2, [("given", v)])) e1 e2
    replace S := Same.trans S s
    clear s e1 e2
    refine (rd_cons (rd_mkK (v := v) rfl fun a3 d3 H3 s e1 e2 => ?_))
    replace E := (E.mono s).snoc (c := (c3, [("given", v)])) e1 e2
    replace S := Same.trans S s
    clear s e1 e2
    refine ⟨by show 4 ≤ sizeLine; decide, fun q0 hq => ?_⟩
    have s := Same.upd (o := HO.lst [V.ref a0, V.ref a1, V.ref a2, V.ref a3]) hq
    have lq : upd H3 q0 (HO.lst [V.ref a0, V.ref a1, V.ref a2, V.ref a3]) q0 = some (HO.lst [V.ref a0, V.ref a1, V.ref a2, V.ref a3]) := upd_same
    generalize upd H3 q0 (HO.lst [V.ref a0, V.ref a1, V.ref a2, V.ref a3]) = G0 at s lq ⊢
    replace E := E.mono s
    replace S := Same.trans S s
    have lp := lq
    clear s lq
    refine ⟨_, rfl, ?_⟩
    refine rd_disp (rd_cons (rd_mk1 (v := v) rfl fun a4 d4 H4 s e1 e2 => ?_))
    replace E := (E.mono s).snoc (c := (c4, [("given", v)])) e1 e2
    replace lp := s _ _ lp
    replace S := Same.trans S s
    clear s e1 e2
    refine (rd_cons (rd_mkK (v := v) rfl fun a5 d5 H5 s e1 e2 => ?_))
    replace E := (E.mono s).snoc (c := (c5, [("given", v)])) e1 e2
    replace lp := s _ _ lp
    replace S := Same.trans S s
    clear s e1 e2
    refine (rd_cons (rd_mk1 (v := v) rfl fun a6 d6 H6 s e1 e2 => ?_))
    replace E := (E.mono s).snoc (c := (c6, [("given", v)])) e1 e2
    replace lp := s _ _ lp
    replace S := Same.trans S s
    clear s e1 e2
    refine (rd_cons (rd_mkK (v := v) rfl fun a7 d7 H7 s e1 e2 => ?_))
    replace E := (E.mono s).snoc (c := (c7, [("given", v)])) e1 e2
    replace lp := s _ _ lp
    replace S := Same.trans S s
    clear s e1 e2
    refine ⟨by show 4 ≤ sizeLine; decide, fun q1 hq => ?_⟩
    have s := Same.upd (o := HO.lst [V.ref a4, V.ref a5, V.ref a6, V.ref a7]) hq
    have lq : upd H7 q1 (HO.lst [V.ref a4, V.ref a5, V.ref a6, V.ref a7]) q1 = some (HO.lst [V.ref a4, V.ref a5, V.ref a6, V.ref a7]) := upd_same
    generalize upd H7 q1 (HO.lst [V.ref a4, V.ref a5, V.ref a6, V.ref a7]) = G1 at s lq ⊢
    replace E := E.mono s
    replace S := Same.trans S s
    replace lp := s _ _ lp
    clear s
    refine ⟨_, _, _, _, rfl, rfl, lp, lq, by show 4 + 4 ≤ sizeLine; decide, fun r1 hq => ?_⟩
    have s := Same.upd (o := HO.lst ([V.ref a0, V.ref a1, V.ref a2, V.ref a3] ++ [V.ref a4, V.ref a5, V.ref a6, V.ref a7])) hq
    have lr : upd G1 r1 (HO.lst ([V.ref a0, V.ref a1, V.ref a2, V.ref a3] ++ [V.ref a4, V.ref a5, V.ref a6, V.ref a7])) r1 = some (HO.lst ([V.ref a0, V.ref a1, V.ref a2, V.ref a3] ++ [V.ref a4, V.ref a5, V.ref a6, V.ref a7])) := upd_same
    generalize upd G1 r1 (HO.lst ([V.ref a0, V.ref a1, V.ref a2, V.ref a3] ++ [V.ref a4, V.ref a5, V.ref a6, V.ref a7])) = R1 at s lr ⊢
    replace E := E.mono s
    replace S := Same.trans S s
    clear s lp lq
    have lp := lr
    clear lr
    refine ⟨_, rfl, ?_⟩
    refine rd_disp (rd_cons (rd_mk1 (v := v) rfl fun a8 d8 H8 s e1 e2 => ?_))
    replace E := (E.mono s).snoc (c := (c8, [("given", v)])) e1 e2
    replace lp := s _ _ lp
    replace S := Same.trans S s
    clear s e1 e2
    refine (rd_cons (rd_mkK (v := v) rfl fun a9 d9 H9 s e1 e2 => ?_))
    replace E := (E.mono s).snoc (c := (c9, [("given", v)])) e1 e2
    replace lp := s _ _ lp
    replace S := Same.trans S s
    clear s e1 e2
    refine (rd_cons (rd_mk1 (v := v) rfl fun a10 d10 H10 s e1 e2 => ?_))
    replace E := (E.mono s).snoc (c := (c10, [("given", v)])) e1 e2
    replace lp := s _ _ lp
    replace S := Same.trans S s
    clear s e1 e2
    refine (rd_cons (rd_mkK (v := v) rfl fun a11 d11 H11 s e1 e2 => ?_))
    replace E := (E.mono s).snoc (c := (c11, [("given", v)])) e1 e2
    replace lp := s _ _ lp
    replace S := Same.trans S s
    clear s e1 e2
    refine ⟨by show 4 ≤ sizeLine; decide, fun q2 hq => ?_⟩
    have s := Same.upd (o := HO.lst [V.ref a8, V.ref a9, V.ref a10, V.ref a11]) hq
    have lq : upd H11 q2 (HO.lst [V.ref a8, V.ref a9, V.ref a10, V.ref a11]) q2 = some (HO.lst [V.ref a8, V.ref a9, V.ref a10, V.ref a11]) := upd_same
    generalize upd H11 q2 (HO.lst [V.ref a8, V.ref a9, V.ref a10, V.ref a11]) = G2 at s lq ⊢
    replace E := E.mono s
    replace S := Same.trans S s
    replace lp := s _ _ lp
    clear s
    refine ⟨_, _, _, _, rfl, rfl, lp, lq, by show 8 + 4 ≤ sizeLine; decide, fun r2 hq => ?_⟩
    have s := Same.upd (o := HO.lst (([V.ref a0, V.ref a1, V.ref a2, V.ref a3] ++ [V.ref a4, V.ref a5, V.ref a6, V.ref a7]) ++ [V.ref a8, V.ref a9, V.ref a10, V.ref a11])) hq
    have lr : upd G2 r2 (HO.lst (([V.ref a0, V.ref a1, V.ref a2, V.ref a3] ++ [V.ref a4, V.ref a5, V.ref a6, V.ref a7]) ++ [V.ref a8, V.ref a9, V.ref a10, V.ref a11])) r2 = some (HO.lst (([V.ref a0, V.ref a1, V.ref a2, V.ref a3] ++ [V.ref a4, V.ref a5, V.ref a6, V.ref a7]) ++ [V.ref a8, V.ref a9, V.ref a10, V.ref a11])) := upd_same
    generalize upd G2 r2 (HO.lst (([V.ref a0, V.ref a1, V.ref a2, V.ref a3] ++ [V.ref a4, V.ref a5, V.ref a6, V.ref a7]) ++ [V.ref a8, V.ref a9, V.ref a10, V.ref a11])) = R2 at s lr ⊢
    replace E := E.mono s
    replace S := Same.trans S s
    clear s lp lq
    have lp := lr
    clear lr
    refine ⟨_, rfl, ?_⟩
    refine rd_disp (rd_cons (rd_mk1 (v := v) rfl fun a12 d12 H12 s e1 e2 => ?_))
    replace E := (E.mono s).snoc (c := (c12, [("given", v)])) e1 e2
    replace lp := s _ _ lp
    replace S := Same.trans S s
    clear s e1 e2
    refine (rd_cons (rd_mkK (v := v) rfl fun a13 d13 H13 s e1 e2 => ?_))
    replace E := (E.mono s).snoc (c := (c13, [("given", v)])) e1 e2
    replace lp := s _ _ lp
    replace S := Same.trans S s
    clear s e1 e2
    refine ⟨by show 2 ≤ sizeLine; decide, fun q3 hq => ?_⟩
    have s := Same.upd (o := HO.lst [V.ref a12, V.ref a13]) hq
    have lq : upd H13 q3 (HO.lst [V.ref a12, V.ref a13]) q3 = some (HO.lst [V.ref a12, V.ref a13]) := upd_same
    generalize upd H13 q3 (HO.lst [V.ref a12, V.ref a13]) = G3 at s lq ⊢
    replace E := E.mono s
    replace S := Same.trans S s
    replace lp := s _ _ lp
    clear s
    refine ⟨_, _, _, _, rfl, rfl, lp, lq, by show 12 + 2 ≤ sizeLine; decide, fun r3 hq => ?_⟩
    have s := Same.upd (o := HO.lst ((([V.ref a0, V.ref a1, V.ref a2, V.ref a3] ++ [V.ref a4, V.ref a5, V.ref a6, V.ref a7]) ++ [V.ref a8, V.ref a9, V.ref a10, V.ref a11]) ++ [V.ref a12, V.ref a13])) hq
    have lr : upd G3 r3 (HO.lst ((([V.ref a0, V.ref a1, V.ref a2, V.ref a3] ++ [V.ref a4, V.ref a5, V.ref a6, V.ref a7]) ++ [V.ref a8, V.ref a9, V.ref a10, V.ref a11]) ++ [V.ref a12, V.ref a13])) r3 = some (HO.lst ((([V.ref a0, V.ref a1, V.ref a2, V.ref a3] ++ [V.ref a4, V.ref a5, V.ref a6, V.ref a7]) ++ [V.ref a8, V.ref a9, V.ref a10, V.ref a11]) ++ [V.ref a12, V.ref a13])) := upd_same
    generalize upd G3 r3 (HO.lst ((([V.ref a0, V.ref a1, V.ref a2, V.ref a3] ++ [V.ref a4, V.ref a5, V.ref a6, V.ref a7]) ++ [V.ref a8, V.ref a9, V.ref a10, V.ref a11]) ++ [V.ref a12, V.ref a13])) = R3 at s lr ⊢
    replace E := E.mono s
    replace S := Same.trans S s
    clear s lp lq
    have lp := lr
    clear lr
    exact k _ _ _ S E lp
abbrev sOthers : Stmt := top 30
theorem scO : FnScope ["_law_thing", "_law_found"] ["_law_thing"] (defScope sOthers) := ⟨rfl, rfl, rfl, by decide +kernel, rfl, by decide +kernel, by decide +kernel⟩
theorem ok_law_others {f : Addr} {fd : FuncData} {c0 c1 c2 c3 c4 c5 c6 c7 c8 c9 c10 c11 c12 c13 c14 c15 c16 c17 c18 c19 c20 c21 c22 : Addr} (F : Fun K "_law_others" "_law_others" sOthers f fd) (X : Xs P w K mg base c0 c1 c2 c3 c4 c5 c6 c7 c8 c9 c10 c11 c12 c13 c14 c15 c16 c17 c18 c19 c20 c21 c22) : FnOk P w K mg base CX0 3 f fd ["_law_thing"] (spAll (tabO c0 c1 c2 c3 c4 c5 c6 c7 c8 c9 c10 c11 c12 c13 c14 c15 c16 c17 c18 c19 c20 c21 c22)) := by
  refine F.ok scO (fun vs H Q E h => ?_) (fun cdv A outer s H vs Q E hr h => ?_)
  · obtain ⟨v, rfl, _⟩ := h
    rfl
  · obtain ⟨v, rfl, k⟩ := h
    have hr2 : Room 2 _ := hr
    refine ⟨_, (pss_cons (ps_set (i := 1) scO.nd rfl (Or.inl rfl) (pe_lst (pa_cons (pe_mkK X.x14 hr2 (pv 0)) (pa_cons (pe_mkK X.x15 hr2 (pv 0)) (pa_cons (pe_mkP X.x16 hr2 (pa_cons (pv 0) pa_nil)) (pa_cons (pe_mkK X.x17 hr2 (pv 0)) pa_nil))))))
        (pss_cons (ps_set (i := 1) scO.nd rfl (Or.inl rfl) (pe_op op_cat (pv 1) (pe_lst (pa_cons (pe_mkK X.x18 hr2 (pv 0)) (pa_cons (pe_mkK X.x19 hr2 (pv 0)) (pa_cons (pe_mkP X.x20 hr2 (pa_cons (pv 0) pa_nil)) (pa_cons (pe_mkK X.x21 hr2 (pv 0)) pa_nil)))))))
        (pss_one (ps_ret (pe_op op_cat (pv 1) (pe_lst (pa_cons (pe_mkK X.x22 hr2 (pv 0)) pa_nil))))))), ?_⟩
    have E : AllX H [] [] := .nil
    have S : Same H H := Same.refl H
    refine rd_seq (rd_asg (rd_disp (rd_cons (rd_mkK (v := v) rfl fun a0 d0 H0 s e1 e2 => ?_))))
    replace E := (E.mono s).snoc (c := (c14, [("line", v)])) e1 e2
    replace S := Same.trans S s
    clear s e1 e2
    refine (rd_cons (rd_mkK (v := v) rfl fun a1 d1 H1 s e1 e2 => ?_))
    replace E := (E.mono s).snoc (c := (c15, [("net", v)])) e1 e2
    replace S := Same.trans S s
    clear s e1 e2
    refine (rd_cons (rd_mk1 (v := v) rfl fun a2 d2 H2 s e1 e2 => ?_))
    replace E := (E.mono s).snoc (c := (c16, [("net", v)])) e1 e2
    replace S := Same.trans S s
    clear s e1 e2
    refine (rd_cons (rd_mkK (v := v) rfl fun a3 d3 H3 s e1 e2 => ?_))
    replace E := (E.mono s).snoc (c := (c17, [("net", v)])) e1 e2
    replace S := Same.trans S s
    clear s e1 e2
    refine ⟨by show 4 ≤ sizeLine; decide, fun q0 hq => ?_⟩
    have s := Same.upd (o := HO.lst [V.ref a0, V.ref a1, V.ref a2, V.ref a3]) hq
    have lq : upd H3 q0 (HO.lst [V.ref a0, V.ref a1, V.ref a2, V.ref a3]) q0 = some (HO.lst [V.ref a0, V.ref a1, V.ref a2, V.ref a3]) := upd_same
    generalize upd H3 q0 (HO.lst [V.ref a0, V.ref a1, V.ref a2, V.ref a3]) = G0 at s lq ⊢
    replace E := E.mono s
    replace S := Same.trans S s
    have lp := lq
    clear s lq
    refine ⟨_, rfl, ?_⟩
    refine rd_disp (rd_cons (rd_mkK (v := v) rfl fun a4 d4 H4 s e1 e2 => ?_))
    replace E := (E.mono s).snoc (c := (c18, [("user", v)])) e1 e2
    replace lp := s _ _ lp
    replace S := Same.trans S s
    clear s e1 e2
    refine (rd_cons (rd_mkK (v := v) rfl fun a5 d5 H5 s e1 e2 => ?_))
    replace E := (E.mono s).snoc (c := (c19, [("question", v)])) e1 e2
    replace lp := s _ _ lp
    replace S := Same.trans S s
    clear s e1 e2
    refine (rd_cons (rd_mk1 (v := v) rfl fun a6 d6 H6 s e1 e2 => ?_))
    replace E := (E.mono s).snoc (c := (c20, [("question", v)])) e1 e2
    replace lp := s _ _ lp
    replace S := Same.trans S s
    clear s e1 e2
    refine (rd_cons (rd_mkK (v := v) rfl fun a7 d7 H7 s e1 e2 => ?_))
    replace E := (E.mono s).snoc (c := (c21, [("word", v)])) e1 e2
    replace lp := s _ _ lp
    replace S := Same.trans S s
    clear s e1 e2
    refine ⟨by show 4 ≤ sizeLine; decide, fun q1 hq => ?_⟩
    have s := Same.upd (o := HO.lst [V.ref a4, V.ref a5, V.ref a6, V.ref a7]) hq
    have lq : upd H7 q1 (HO.lst [V.ref a4, V.ref a5, V.ref a6, V.ref a7]) q1 = some (HO.lst [V.ref a4, V.ref a5, V.ref a6, V.ref a7]) := upd_same
    generalize upd H7 q1 (HO.lst [V.ref a4, V.ref a5, V.ref a6, V.ref a7]) = G1 at s lq ⊢
    replace E := E.mono s
    replace S := Same.trans S s
    replace lp := s _ _ lp
    clear s
    refine ⟨_, _, _, _, rfl, rfl, lp, lq, by show 4 + 4 ≤ sizeLine; decide, fun r1 hq => ?_⟩
    have s := Same.upd (o := HO.lst ([V.ref a0, V.ref a1, V.ref a2, V.ref a3] ++ [V.ref a4, V.ref a5, V.ref a6, V.ref a7])) hq
    have lr : upd G1 r1 (HO.lst ([V.ref a0, V.ref a1, V.ref a2, V.ref a3] ++ [V.ref a4, V.ref a5, V.ref a6, V.ref a7])) r1 = some (HO.lst ([V.ref a0, V.ref a1, V.ref a2, V.ref a3] ++ [V.ref a4, V.ref a5, V.ref a6, V.ref a7])) := upd_same
    generalize upd G1 r1 (HO.lst ([V.ref a0, V.ref a1, V.ref a2, V.ref a3] ++ [V.ref a4, V.ref a5, V.ref a6, V.ref a7])) = R1 at s lr ⊢
    replace E := E.mono s
    replace S := Same.trans S s
    clear s lp lq
    have lp := lr
    clear lr
    refine ⟨_, rfl, ?_⟩
    refine rd_disp (rd_cons (rd_mkK (v := v) rfl fun a8 d8 H8 s e1 e2 => ?_))
    replace E := (E.mono s).snoc (c := (c22, [("node", v)])) e1 e2
    replace lp := s _ _ lp
    replace S := Same.trans S s
    clear s e1 e2
    refine ⟨by show 1 ≤ sizeLine; decide, fun q2 hq => ?_⟩
    have s := Same.upd (o := HO.lst [V.ref a8]) hq
    have lq : upd H8 q2 (HO.lst [V.ref a8]) q2 = some (HO.lst [V.ref a8]) := upd_same
    generalize upd H8 q2 (HO.lst [V.ref a8]) = G2 at s lq ⊢
    replace E := E.mono s
    replace S := Same.trans S s
    replace lp := s _ _ lp
    clear s
    refine ⟨_, _, _, _, rfl, rfl, lp, lq, by show 8 + 1 ≤ sizeLine; decide, fun r2 hq => ?_⟩
    have s := Same.upd (o := HO.lst (([V.ref a0, V.ref a1, V.ref a2, V.ref a3] ++ [V.ref a4, V.ref a5, V.ref a6, V.ref a7]) ++ [V.ref a8])) hq
    have lr : upd G2 r2 (HO.lst (([V.ref a0, V.ref a1, V.ref a2, V.ref a3] ++ [V.ref a4, V.ref a5, V.ref a6, V.ref a7]) ++ [V.ref a8])) r2 = some (HO.lst (([V.ref a0, V.ref a1, V.ref a2, V.ref a3] ++ [V.ref a4, V.ref a5, V.ref a6, V.ref a7]) ++ [V.ref a8])) := upd_same
    generalize upd G2 r2 (HO.lst (([V.ref a0, V.ref a1, V.ref a2, V.ref a3] ++ [V.ref a4, V.ref a5, V.ref a6, V.ref a7]) ++ [V.ref a8])) = R2 at s lr ⊢
    replace E := E.mono s
    replace S := Same.trans S s
    clear s lp lq
    have lp := lr
    clear lr
    exact k _ _ _ S E lp
end
abbrev sKinds : Stmt := top 29
theorem scK : FnScope ["_law_e", "_law_found"] ["_law_e"] (defScope sKinds) := ⟨rfl, rfl, rfl, by decide +kernel, rfl, by decide +kernel, by decide +kernel⟩
def spKinds (K : PySem.W.Frag) (cs : List Addr) : Sp := fun vs H Q _ => ∃ (a C d : Addr) (fs : List (Str × V)) (bs : List Bool), vs = [.ref a] ∧ EcC K C ∧ H a = some (exo a C (some d)) ∧ H d = some (exd d fs) ∧
  Paired (fun (c : Addr) (b : Bool) => PySem.W.kitOne K (.ref C) (.ref c) = some b) cs bs ∧ ∀ (p : Addr) (H' : Hp), Same H H' → H' p = some (.lst (bs.map V.bl)) → Q (.ref p) H'
section
variable {P : Program} {w : World} {K : PySem.W.Frag} {mg : Str → Option Value} {base : Heap}
theorem ok_kinds {f : Addr} {fd : FuncData} {c0 c1 c2 c3 c4 c5 c6 c7 c8 c9 c10 c11 c12 c13 c14 c15 c16 c17 c18 c19 c20 c21 c22 cb : Addr} (F : Fun K "_law_kinds" "_law_kinds" sKinds f fd) (X : Xs P w K mg base c0 c1 c2 c3 c4 c5 c6 c7 c8 c9 c10 c11 c12 c13 c14 c15 c16 c17 c18 c19 c20 c21 c22) (mI : mg "isinstance" = none) (mC : mg "CacheError" = some (.ref cb)) : FnOk P w K mg base CX0 1 f fd ["_law_e"] (spKinds K [c0, c1, c2, c3, c4, c5, c6, c7, c8, c9, c10, c11, c12, c13, c14, c15, c16, c17, c18, c19, c20, c21, c22, cb]) := by
  refine F.ok scK (fun vs H Q E h => ?_) (fun cdv A outer s H vs Q E hr h => ?_)
  · obtain ⟨a, C, d, fs, bs, rfl, _⟩ := h
    rfl
  · obtain ⟨a, C, d, fs, bs, rfl, T, ea, ed, pr, k⟩ := h
    obtain ⟨b0, r0, rfl, k0, pr⟩ : ∃ b r, bs = b :: r ∧ PySem.W.kitOne K (.ref C) (.ref c0) = some b ∧ Paired _ _ r := by cases pr with | cons h t => exact ⟨_, _, rfl, h, t⟩
    obtain ⟨b1, r1, rfl, k1, pr⟩ : ∃ b r, r0 = b :: r ∧ PySem.W.kitOne K (.ref C) (.ref c1) = some b ∧ Paired _ _ r := by cases pr with | cons h t => exact ⟨_, _, rfl, h, t⟩
    obtain ⟨b2, r2, rfl, k2, pr⟩ : ∃ b r, r1 = b :: r ∧ PySem.W.kitOne K (.ref C) (.ref c2) = some b ∧ Paired _ _ r := by cases pr with | cons h t => exact ⟨_, _, rfl, h, t⟩
    obtain ⟨b3, r3, rfl, k3, pr⟩ : ∃ b r, r2 = b :: r ∧ PySem.W.kitOne K (.ref C) (.ref c3) = some b ∧ Paired _ _ r := by cases pr with | cons h t => exact ⟨_, _, rfl, h, t⟩
    obtain ⟨b4, r4, rfl, k4, pr⟩ : ∃ b r, r3 = b :: r ∧ PySem.W.kitOne K (.ref C) (.ref c4) = some b ∧ Paired _ _ r := by cases pr with | cons h t => exact ⟨_, _, rfl, h, t⟩
    obtain ⟨b5, r5, rfl, k5, pr⟩ : ∃ b r, r4 = b :: r ∧ PySem.W.kitOne K (.ref C) (.ref c5) = some b ∧ Paired _ _ r := by cases pr with | cons h t => exact ⟨_, _, rfl, h, t⟩
    obtain ⟨b6, r6, rfl, k6, pr⟩ : ∃ b r, r5 = b :: r ∧ PySem.W.kitOne K (.ref C) (.ref c6) = some b ∧ Paired _ _ r := by cases pr with | cons h t => exact ⟨_, _, rfl, h, t⟩
    obtain ⟨b7, r7, rfl, k7, pr⟩ : ∃ b r, r6 = b :: r ∧ PySem.W.kitOne K (.ref C) (.ref c7) = some b ∧ Paired _ _ r := by cases pr with | cons h t => exact ⟨_, _, rfl, h, t⟩
    obtain ⟨b8, r8, rfl, k8, pr⟩ : ∃ b r, r7 = b :: r ∧ PySem.W.kitOne K (.ref C) (.ref c8) = some b ∧ Paired _ _ r := by cases pr with | cons h t => exact ⟨_, _, rfl, h, t⟩
    obtain ⟨b9, r9, rfl, k9, pr⟩ : ∃ b r, r8 = b :: r ∧ PySem.W.kitOne K (.ref C) (.ref c9) = some b ∧ Paired _ _ r := by cases pr with | cons h t => exact ⟨_, _, rfl, h, t⟩
    obtain ⟨b10, r10, rfl, k10, pr⟩ : ∃ b r, r9 = b :: r ∧ PySem.W.kitOne K (.ref C) (.ref c10) = some b ∧ Paired _ _ r := by cases pr with | cons h t => exact ⟨_, _, rfl, h, t⟩
    obtain ⟨b11, r11, rfl, k11, pr⟩ : ∃ b r, r10 = b :: r ∧ PySem.W.kitOne K (.ref C) (.ref c11) = some b ∧ Paired _ _ r := by cases pr with | cons h t => exact ⟨_, _, rfl, h, t⟩
    obtain ⟨b12, r12, rfl, k12, pr⟩ : ∃ b r, r11 = b :: r ∧ PySem.W.kitOne K (.ref C) (.ref c12) = some b ∧ Paired _ _ r := by cases pr with | cons h t => exact ⟨_, _, rfl, h, t⟩
    obtain ⟨b13, r13, rfl, k13, pr⟩ : ∃ b r, r12 = b :: r ∧ PySem.W.kitOne K (.ref C) (.ref c13) = some b ∧ Paired _ _ r := by cases pr with | cons h t => exact ⟨_, _, rfl, h, t⟩
    obtain ⟨b14, r14, rfl, k14, pr⟩ : ∃ b r, r13 = b :: r ∧ PySem.W.kitOne K (.ref C) (.ref c14) = some b ∧ Paired _ _ r := by cases pr with | cons h t => exact ⟨_, _, rfl, h, t⟩
    obtain ⟨b15, r15, rfl, k15, pr⟩ : ∃ b r, r14 = b :: r ∧ PySem.W.kitOne K (.ref C) (.ref c15) = some b ∧ Paired _ _ r := by cases pr with | cons h t => exact ⟨_, _, rfl, h, t⟩
    obtain ⟨b16, r16, rfl, k16, pr⟩ : ∃ b r, r15 = b :: r ∧ PySem.W.kitOne K (.ref C) (.ref c16) = some b ∧ Paired _ _ r := by cases pr with | cons h t => exact ⟨_, _, rfl, h, t⟩
    obtain ⟨b17, r17, rfl, k17, pr⟩ : ∃ b r, r16 = b :: r ∧ PySem.W.kitOne K (.ref C) (.ref c17) = some b ∧ Paired _ _ r := by cases pr with | cons h t => exact ⟨_, _, rfl, h, t⟩
    obtain ⟨b18, r18, rfl, k18, pr⟩ : ∃ b r, r17 = b :: r ∧ PySem.W.kitOne K (.ref C) (.ref c18) = some b ∧ Paired _ _ r := by cases pr with | cons h t => exact ⟨_, _, rfl, h, t⟩
    obtain ⟨b19, r19, rfl, k19, pr⟩ : ∃ b r, r18 = b :: r ∧ PySem.W.kitOne K (.ref C) (.ref c19) = some b ∧ Paired _ _ r := by cases pr with | cons h t => exact ⟨_, _, rfl, h, t⟩
    obtain ⟨b20, r20, rfl, k20, pr⟩ : ∃ b r, r19 = b :: r ∧ PySem.W.kitOne K (.ref C) (.ref c20) = some b ∧ Paired _ _ r := by cases pr with | cons h t => exact ⟨_, _, rfl, h, t⟩
    obtain ⟨b21, r21, rfl, k21, pr⟩ : ∃ b r, r20 = b :: r ∧ PySem.W.kitOne K (.ref C) (.ref c21) = some b ∧ Paired _ _ r := by cases pr with | cons h t => exact ⟨_, _, rfl, h, t⟩
    obtain ⟨b22, r22, rfl, k22, pr⟩ : ∃ b r, r21 = b :: r ∧ PySem.W.kitOne K (.ref C) (.ref c22) = some b ∧ Paired _ _ r := by cases pr with | cons h t => exact ⟨_, _, rfl, h, t⟩
    obtain ⟨b23, r23, rfl, k23, pr⟩ : ∃ b r, r22 = b :: r ∧ PySem.W.kitOne K (.ref C) (.ref cb) = some b ∧ Paired _ _ r := by cases pr with | cons h t => exact ⟨_, _, rfl, h, t⟩
    cases pr
    refine ⟨_, (pss_cons (ps_set (i := 1) scK.nd rfl (Or.inl rfl) (pe_lst (pa_cons (pe_callB call_isiE (by rfl) mI PyProof.Rows.boot_isinstance (pa_cons (pv 0) (pa_cons (pe_clsK X.x0) pa_nil))) (pa_cons (pe_callB call_isiE (by rfl) mI PyProof.Rows.boot_isinstance (pa_cons (pv 0) (pa_cons (pe_clsK X.x1) pa_nil))) (pa_cons (pe_callB call_isiE (by rfl) mI PyProof.Rows.boot_isinstance (pa_cons (pv 0) (pa_cons (pe_clsK X.x2) pa_nil))) pa_nil)))))
        (pss_cons (ps_set (i := 1) scK.nd rfl (Or.inl rfl) (pe_op op_cat (pv 1) (pe_lst (pa_cons (pe_callB call_isiE (by rfl) mI PyProof.Rows.boot_isinstance (pa_cons (pv 0) (pa_cons (pe_clsK X.x3) pa_nil))) (pa_cons (pe_callB call_isiE (by rfl) mI PyProof.Rows.boot_isinstance (pa_cons (pv 0) (pa_cons (pe_clsK X.x4) pa_nil))) (pa_cons (pe_callB call_isiE (by rfl) mI PyProof.Rows.boot_isinstance (pa_cons (pv 0) (pa_cons (pe_clsK X.x5) pa_nil))) pa_nil))))))
        (pss_cons (ps_set (i := 1) scK.nd rfl (Or.inl rfl) (pe_op op_cat (pv 1) (pe_lst (pa_cons (pe_callB call_isiE (by rfl) mI PyProof.Rows.boot_isinstance (pa_cons (pv 0) (pa_cons (pe_clsK X.x6) pa_nil))) (pa_cons (pe_callB call_isiE (by rfl) mI PyProof.Rows.boot_isinstance (pa_cons (pv 0) (pa_cons (pe_clsK X.x7) pa_nil))) (pa_cons (pe_callB call_isiE (by rfl) mI PyProof.Rows.boot_isinstance (pa_cons (pv 0) (pa_cons (pe_clsK X.x8) pa_nil))) pa_nil))))))
        (pss_cons (ps_set (i := 1) scK.nd rfl (Or.inl rfl) (pe_op op_cat (pv 1) (pe_lst (pa_cons (pe_callB call_isiE (by rfl) mI PyProof.Rows.boot_isinstance (pa_cons (pv 0) (pa_cons (pe_clsK X.x9) pa_nil))) (pa_cons (pe_callB call_isiE (by rfl) mI PyProof.Rows.boot_isinstance (pa_cons (pv 0) (pa_cons (pe_clsK X.x10) pa_nil))) (pa_cons (pe_callB call_isiE (by rfl) mI PyProof.Rows.boot_isinstance (pa_cons (pv 0) (pa_cons (pe_clsK X.x11) pa_nil))) pa_nil))))))
        (pss_cons (ps_set (i := 1) scK.nd rfl (Or.inl rfl) (pe_op op_cat (pv 1) (pe_lst (pa_cons (pe_callB call_isiE (by rfl) mI PyProof.Rows.boot_isinstance (pa_cons (pv 0) (pa_cons (pe_clsK X.x12) pa_nil))) (pa_cons (pe_callB call_isiE (by rfl) mI PyProof.Rows.boot_isinstance (pa_cons (pv 0) (pa_cons (pe_clsK X.x13) pa_nil))) (pa_cons (pe_callB call_isiE (by rfl) mI PyProof.Rows.boot_isinstance (pa_cons (pv 0) (pa_cons (pe_clsK X.x14) pa_nil))) pa_nil))))))
        (pss_cons (ps_set (i := 1) scK.nd rfl (Or.inl rfl) (pe_op op_cat (pv 1) (pe_lst (pa_cons (pe_callB call_isiE (by rfl) mI PyProof.Rows.boot_isinstance (pa_cons (pv 0) (pa_cons (pe_clsK X.x15) pa_nil))) (pa_cons (pe_callB call_isiE (by rfl) mI PyProof.Rows.boot_isinstance (pa_cons (pv 0) (pa_cons (pe_clsK X.x16) pa_nil))) (pa_cons (pe_callB call_isiE (by rfl) mI PyProof.Rows.boot_isinstance (pa_cons (pv 0) (pa_cons (pe_clsK X.x17) pa_nil))) pa_nil))))))
        (pss_cons (ps_set (i := 1) scK.nd rfl (Or.inl rfl) (pe_op op_cat (pv 1) (pe_lst (pa_cons (pe_callB call_isiE (by rfl) mI PyProof.Rows.boot_isinstance (pa_cons (pv 0) (pa_cons (pe_clsK X.x18) pa_nil))) (pa_cons (pe_callB call_isiE (by rfl) mI PyProof.Rows.boot_isinstance (pa_cons (pv 0) (pa_cons (pe_clsK X.x19) pa_nil))) (pa_cons (pe_callB call_isiE (by rfl) mI PyProof.Rows.boot_isinstance (pa_cons (pv 0) (pa_cons (pe_clsK X.x20) pa_nil))) pa_nil))))))
        (pss_one (ps_ret (pe_op op_cat (pv 1) (pe_lst (pa_cons (pe_callB call_isiE (by rfl) mI PyProof.Rows.boot_isinstance (pa_cons (pv 0) (pa_cons (pe_clsK X.x21) pa_nil))) (pa_cons (pe_callB call_isiE (by rfl) mI PyProof.Rows.boot_isinstance (pa_cons (pv 0) (pa_cons (pe_clsK X.x22) pa_nil))) (pa_cons (pe_callB call_isiE (by rfl) mI PyProof.Rows.boot_isinstance (pa_cons (pv 0) (pa_cons (pe_glob (v := .ref cb) (by rfl) mC rfl) pa_nil))) pa_nil)))))))))))))), ?_⟩
    have S : Same H H := Same.refl H
    refine ⟨_, rfl, a, C, d, fs, _, _, _, rfl, ea, ed, T, .own _, k0, ?_⟩
    refine ⟨_, rfl, a, C, d, fs, _, _, _, rfl, ea, ed, T, .own _, k1, ?_⟩
    refine ⟨_, rfl, a, C, d, fs, _, _, _, rfl, ea, ed, T, .own _, k2, ?_⟩
    refine ⟨by show 3 ≤ sizeLine; decide, fun q0 hq => ?_⟩
    have s := Same.upd (o := HO.lst [V.bl b0, V.bl b1, V.bl b2]) hq
    have lq : upd H q0 (HO.lst [V.bl b0, V.bl b1, V.bl b2]) q0 = some (HO.lst [V.bl b0, V.bl b1, V.bl b2]) := upd_same
    generalize upd H q0 (HO.lst [V.bl b0, V.bl b1, V.bl b2]) = G0 at s lq ⊢
    replace S := Same.trans S s; replace ea := s _ _ ea; replace ed := s _ _ ed
    have lp := lq
    clear s lq
    refine ⟨_, rfl, ?_⟩
    refine ⟨_, rfl, a, C, d, fs, _, _, _, rfl, ea, ed, T, .own _, k3, ?_⟩
    refine ⟨_, rfl, a, C, d, fs, _, _, _, rfl, ea, ed, T, .own _, k4, ?_⟩
    refine ⟨_, rfl, a, C, d, fs, _, _, _, rfl, ea, ed, T, .own _, k5, ?_⟩
    refine ⟨by show 3 ≤ sizeLine; decide, fun q1 hq => ?_⟩
    have s := Same.upd (o := HO.lst [V.bl b3, V.bl b4, V.bl b5]) hq
    have lq : upd G0 q1 (HO.lst [V.bl b3, V.bl b4, V.bl b5]) q1 = some (HO.lst [V.bl b3, V.bl b4, V.bl b5]) := upd_same
    generalize upd G0 q1 (HO.lst [V.bl b3, V.bl b4, V.bl b5]) = G1 at s lq ⊢
    replace S := Same.trans S s; replace ea := s _ _ ea; replace ed := s _ _ ed
    replace lp := s _ _ lp
    clear s
    refine ⟨_, _, _, _, rfl, rfl, lp, lq, by show 3 + 3 ≤ sizeLine; decide, fun rr1 hq => ?_⟩
    have s := Same.upd (o := HO.lst ([V.bl b0, V.bl b1, V.bl b2] ++ [V.bl b3, V.bl b4, V.bl b5])) hq
    have lr : upd G1 rr1 (HO.lst ([V.bl b0, V.bl b1, V.bl b2] ++ [V.bl b3, V.bl b4, V.bl b5])) rr1 = some (HO.lst ([V.bl b0, V.bl b1, V.bl b2] ++ [V.bl b3, V.bl b4, V.bl b5])) := upd_same
    generalize upd G1 rr1 (HO.lst ([V.bl b0, V.bl b1, V.bl b2] ++ [V.bl b3, V.bl b4, V.bl b5])) = R1 at s lr ⊢
    replace S := Same.trans S s; replace ea := s _ _ ea; replace ed := s _ _ ed
    clear s lp lq
    have lp := lr
    clear lr
    refine ⟨_, rfl, ?_⟩
    refine ⟨_, rfl, a, C, d, fs, _, _, _, rfl, ea, ed, T, .own _, k6, ?_⟩
    refine ⟨_, rfl, a, C, d, fs, _, _, _, rfl, ea, ed, T, .own _, k7, ?_⟩
    refine ⟨_, rfl, a, C, d, fs, _, _, _, rfl, ea, ed, T, .own _, k8, ?_⟩
    refine ⟨by show 3 ≤ sizeLine; decide, fun q2 hq => ?_⟩
    have s := Same.upd (o := HO.lst [V.bl b6, V.bl b7, V.bl b8]) hq
    have lq : upd R1 q2 (HO.lst [V.bl b6, V.bl b7, V.bl b8]) q2 = some (HO.lst [V.bl b6, V.bl b7, V.bl b8]) := upd_same
    generalize upd R1 q2 (HO.lst [V.bl b6, V.bl b7, V.bl b8]) = G2 at s lq ⊢
    replace S := Same.trans S s; replace ea := s _ _ ea; replace ed := s _ _ ed
    replace lp := s _ _ lp
    clear s
    refine ⟨_, _, _, _, rfl, rfl, lp, lq, by show 6 + 3 ≤ sizeLine; decide, fun rr2 hq => ?_⟩
    have s := Same.upd (o := HO.lst (([V.bl b0, V.bl b1, V.bl b2] ++ [V.bl b3, V.bl b4, V.bl b5]) ++ [V.bl b6, V.bl b7, V.bl b8])) hq
    have lr : upd G2 rr2 (HO.lst (([V.bl b0, V.bl b1, V.bl b2] ++ [V.bl b3, V.bl b4, V.bl b5]) ++ [V.bl b6, V.bl b7, V.bl b8])) rr2 = some (HO.lst (([V.bl b0, V.bl b1, V.bl b2] ++ [V.bl b3, V.bl b4, V.bl b5]) ++ [V.bl b6, V.bl b7, V.bl b8])) := upd_same
    generalize upd G2 rr2 (HO.lst (([V.bl b0, V.bl b1, V.bl b2] ++ [V.bl b3, V.bl b4, V.bl b5]) ++ [V.bl b6, V.bl b7, V.bl b8])) = R2 at s lr ⊢
    replace S := Same.trans S s; replace ea := s _ _ ea; replace ed := s _ _ ed
    clear s lp lq
    have lp := lr
    clear lr
    refine ⟨_, rfl, ?_⟩
    refine ⟨_, rfl, a, C, d, fs, _, _, _, rfl, ea, ed, T, .own _, k9, ?_⟩
    refine ⟨_, rfl, a, C, d, fs, _, _, _, rfl, ea, ed, T, .own _, k10, ?_⟩
    refine ⟨_, rfl, a, C, d, fs, _, _, _, rfl, ea, ed, T, .own _, k11, ?_⟩
    refine ⟨by show 3 ≤ sizeLine; decide, fun q3 hq => ?_⟩
    have s := Same.upd (o := HO.lst [V.bl b9, V.bl b10, V.bl b11]) hq
    have lq : upd R2 q3 (HO.lst [V.bl b9, V.bl b10, V.bl b11]) q3 = some (HO.lst [V.bl b9, V.bl b10, V.bl b11]) := upd_same
    generalize upd R2 q3 (HO.lst [V.bl b9, V.bl b10, V.bl b11]) = G3 at s lq ⊢
    replace S := Same.trans S s; replace ea := s _ _ ea; replace ed := s _ _ ed
    replace lp := s _ _ lp
    clear s
    refine ⟨_, _, _, _, rfl, rfl, lp, lq, by show 9 + 3 ≤ sizeLine; decide, fun rr3 hq => ?_⟩
    have s := Same.upd (o := HO.lst ((([V.bl b0, V.bl b1, V.bl b2] ++ [V.bl b3, V.bl b4, V.bl b5]) ++ [V.bl b6, V.bl b7, V.bl b8]) ++ [V.bl b9, V.bl b10, V.bl b11])) hq
    have lr : upd G3 rr3 (HO.lst ((([V.bl b0, V.bl b1, V.bl b2] ++ [V.bl b3, V.bl b4, V.bl b5]) ++ [V.bl b6, V.bl b7, V.bl b8]) ++ [V.bl b9, V.bl b10, V.bl b11])) rr3 = some (HO.lst ((([V.bl b0, V.bl b1, V.bl b2] ++ [V.bl b3, V.bl b4, V.bl b5]) ++ [V.bl b6, V.bl b7, V.bl b8]) ++ [V.bl b9, V.bl b10, V.bl b11])) := upd_same
    generalize upd G3 rr3 (HO.lst ((([V.bl b0, V.bl b1, V.bl b2] ++ [V.bl b3, V.bl b4, V.bl b5]) ++ [V.bl b6, V.bl b7, V.bl b8]) ++ [V.bl b9, V.bl b10, V.bl b11])) = R3 at s lr ⊢
    replace S := Same.trans S s; replace ea := s _ _ ea; replace ed := s _ _ ed
    clear s lp lq
    have lp := lr
    clear lr
    refine ⟨_, rfl, ?_⟩
    refine ⟨_, rfl, a, C, d, fs, _, _, _, rfl, ea, ed, T, .own _, k12, ?_⟩
    refine ⟨_, rfl, a, C, d, fs, _, _, _, rfl, ea, ed, T, .own _, k13, ?_⟩
    refine ⟨_, rfl, a, C, d, fs, _, _, _, rfl, ea, ed, T, .own _, k14, ?_⟩
    refine ⟨by show 3 ≤ sizeLine; decide, fun q4 hq => ?_⟩
    have s := Same.upd (o := HO.lst [V.bl b12, V.bl b13, V.bl b14]) hq
    have lq : upd R3 q4 (HO.lst [V.bl b12, V.bl b13, V.bl b14]) q4 = some (HO.lst [V.bl b12, V.bl b13, V.bl b14]) := upd_same
    generalize upd R3 q4 (HO.lst [V.bl b12, V.bl b13, V.bl b14]) = G4 at s lq ⊢
    replace S := Same.trans S s; replace ea := s _ _ ea; replace ed := s _ _ ed
    replace lp := s _ _ lp
    clear s
    refine ⟨_, _, _, _, rfl, rfl, lp, lq, by show 12 + 3 ≤ sizeLine; decide, fun rr4 hq => ?_⟩
    have s := Same.upd (o := HO.lst (((([V.bl b0, V.bl b1, V.bl b2] ++ [V.bl b3, V.bl b4, V.bl b5]) ++ [V.bl b6, V.bl b7, V.bl b8]) ++ [V.bl b9, V.bl b10, V.bl b11]) ++ [V.bl b12, V.bl b13, V.bl b14])) hq
    have lr : upd G4 rr4 (HO.lst (((([V.bl b0, V.bl b1, V.bl b2] ++ [V.bl b3, V.bl b4, V.bl b5]) ++ [V.bl b6, V.bl b7, V.bl b8]) ++ [V.bl b9, V.bl b10, V.bl b11]) ++ [V.bl b12, V.bl b13, V.bl b14])) rr4 = some (HO.lst (((([V.bl b0, V.bl b1, V.bl b2] ++ [V.bl b3, V.bl b4, V.bl b5]) ++ [V.bl b6, V.bl b7, V.bl b8]) ++ [V.bl b9, V.bl b10, V.bl b11]) ++ [V.bl b12, V.bl b13, V.bl b14])) := upd_same
    generalize upd G4 rr4 (HO.lst (((([V.bl b0, V.bl b1, V.bl b2] ++ [V.bl b3, V.bl b4, V.bl b5]) ++ [V.bl b6, V.bl b7, V.bl b8]) ++ [V.bl b9, V.bl b10, V.bl b11]) ++ [V.bl b12, V.bl b13, V.bl b14])) = R4 at s lr ⊢
    replace S := Same.trans S s; replace ea := s _ _ ea; replace ed := s _ _ ed
    clear s lp lq
    have lp := lr
    clear lr
    refine ⟨_, rfl, ?_⟩
    refine ⟨_, rfl, a, C, d, fs, _, _, _, rfl, ea, ed, T, .own _, k15, ?_⟩
    refine ⟨_, rfl, a, C, d, fs, _, _, _, rfl, ea, ed, T, .own _, k16, ?_⟩
    refine ⟨_, rfl, a, C, d, fs, _, _, _, rfl, ea, ed, T, .own _, k17, ?_⟩
    refine ⟨by show 3 ≤ sizeLine; decide, fun q5 hq => ?_⟩
    have s := Same.upd (o := HO.lst [V.bl b15, V.bl b16, V.bl b17]) hq
    have lq : upd R4 q5 (HO.lst [V.bl b15, V.bl b16, V.bl b17]) q5 = some (HO.lst [V.bl b15, V.bl b16, V.bl b17]) := upd_same
    generalize upd R4 q5 (HO.lst [V.bl b15, V.bl b16, V.bl b17]) = G5 at s lq ⊢
    replace S := Same.trans S s; replace ea := s _ _ ea; replace ed := s _ _ ed
    replace lp := s _ _ lp
    clear s
    refine ⟨_, _, _, _, rfl, rfl, lp, lq, by show 15 + 3 ≤ sizeLine; decide, fun rr5 hq => ?_⟩
    have s := Same.upd (o := HO.lst ((((([V.bl b0, V.bl b1, V.bl b2] ++ [V.bl b3, V.bl b4, V.bl b5]) ++ [V.bl b6, V.bl b7, V.bl b8]) ++ [V.bl b9, V.bl b10, V.bl b11]) ++ [V.bl b12, V.bl b13, V.bl b14]) ++ [V.bl b15, V.bl b16, V.bl b17])) hq
    have lr : upd G5 rr5 (HO.lst ((((([V.bl b0, V.bl b1, V.bl b2] ++ [V.bl b3, V.bl b4, V.bl b5]) ++ [V.bl b6, V.bl b7, V.bl b8]) ++ [V.bl b9, V.bl b10, V.bl b11]) ++ [V.bl b12, V.bl b13, V.bl b14]) ++ [V.bl b15, V.bl b16, V.bl b17])) rr5 = some (HO.lst ((((([V.bl b0, V.bl b1, V.bl b2] ++ [V.bl b3, V.bl b4, V.bl b5]) ++ [V.bl b6, V.bl b7, V.bl b8]) ++ [V.bl b9, V.bl b10, V.bl b11]) ++ [V.bl b12, V.bl b13, V.bl b14]) ++ [V.bl b15, V.bl b16, V.bl b17])) := upd_same
    generalize upd G5 rr5 (HO.lst ((((([V.bl b0, V.bl b1, V.bl b2] ++ [V.bl b3, V.bl b4, V.bl b5]) ++ [V.bl b6, V.bl b7, V.bl b8]) ++ [V.bl b9, V.bl b10, V.bl b11]) ++ [V.bl b12, V.bl b13, V.bl b14]) ++ [V.bl b15, V.bl b16, V.bl b17])) = R5 at s lr ⊢
    replace S := Same.trans S s; replace ea := s _ _ ea; replace ed := s _ _ ed
    clear s lp lq
    have lp := lr
    clear lr
    refine ⟨_, rfl, ?_⟩
    refine ⟨_, rfl, a, C, d, fs, _, _, _, rfl, ea, ed, T, .own _, k18, ?_⟩
    refine ⟨_, rfl, a, C, d, fs, _, _, _, rfl, ea, ed, T, .own _, k19, ?_⟩
    refine ⟨_, rfl, a, C, d, fs, _, _, _, rfl, ea, ed, T, .own _, k20, ?_⟩
    refine ⟨by show 3 ≤ sizeLine; decide, fun q6 hq => ?_⟩
    have s := Same.upd (o := HO.lst [V.bl b18, V.bl b19, V.bl b20]) hq
    have lq : upd R5 q6 (HO.lst [V.bl b18, V.bl b19, V.bl b20]) q6 = some (HO.lst [V.bl b18, V.bl b19, V.bl b20]) := upd_same
    generalize upd R5 q6 (HO.lst [V.bl b18, V.bl b19, V.bl b20]) = G6 at s lq ⊢
    replace S := Same.trans S s; replace ea := s _ _ ea; replace ed := s _ _ ed
    replace lp := s _ _ lp
    clear s
    refine ⟨_, _, _, _, rfl, rfl, lp, lq, by show 18 + 3 ≤ sizeLine; decide, fun rr6 hq => ?_⟩
    have s := Same.upd (o := HO.lst (((((([V.bl b0, V.bl b1, V.bl b2] ++ [V.bl b3, V.bl b4, V.bl b5]) ++ [V.bl b6, V.bl b7, V.bl b8]) ++ [V.bl b9, V.bl b10, V.bl b11]) ++ [V.bl b12, V.bl b13, V.bl b14]) ++ [V.bl b15, V.bl b16, V.bl b17]) ++ [V.bl b18, V.bl b19, V.bl b20])) hq
    have lr : upd G6 rr6 (HO.lst (((((([V.bl b0, V.bl b1, V.bl b2] ++ [V.bl b3, V.bl b4, V.bl b5]) ++ [V.bl b6, V.bl b7, V.bl b8]) ++ [V.bl b9, V.bl b10, V.bl b11]) ++ [V.bl b12, V.bl b13, V.bl b14]) ++ [V.bl b15, V.bl b16, V.bl b17]) ++ [V.bl b18, V.bl b19, V.bl b20])) rr6 = some (HO.lst (((((([V.bl b0, V.bl b1, V.bl b2] ++ [V.bl b3, V.bl b4, V.bl b5]) ++ [V.bl b6, V.bl b7, V.bl b8]) ++ [V.bl b9, V.bl b10, V.bl b11]) ++ [V.bl b12, V.bl b13, V.bl b14]) ++ [V.bl b15, V.bl b16, V.bl b17]) ++ [V.bl b18, V.bl b19, V.bl b20])) := upd_same
    generalize upd G6 rr6 (HO.lst (((((([V.bl b0, V.bl b1, V.bl b2] ++ [V.bl b3, V.bl b4, V.bl b5]) ++ [V.bl b6, V.bl b7, V.bl b8]) ++ [V.bl b9, V.bl b10, V.bl b11]) ++ [V.bl b12, V.bl b13, V.bl b14]) ++ [V.bl b15, V.bl b16, V.bl b17]) ++ [V.bl b18, V.bl b19, V.bl b20])) = R6 at s lr ⊢
    replace S := Same.trans S s; replace ea := s _ _ ea; replace ed := s _ _ ed
    clear s lp lq
    have lp := lr
    clear lr
    refine ⟨_, rfl, ?_⟩
    refine ⟨_, rfl, a, C, d, fs, _, _, _, rfl, ea, ed, T, .own _, k21, ?_⟩
    refine ⟨_, rfl, a, C, d, fs, _, _, _, rfl, ea, ed, T, .own _, k22, ?_⟩
    refine ⟨_, rfl, a, C, d, fs, _, _, _, rfl, ea, ed, T, .own _, k23, ?_⟩
    refine ⟨by show 3 ≤ sizeLine; decide, fun q7 hq => ?_⟩
    have s := Same.upd (o := HO.lst [V.bl b21, V.bl b22, V.bl b23]) hq
    have lq : upd R6 q7 (HO.lst [V.bl b21, V.bl b22, V.bl b23]) q7 = some (HO.lst [V.bl b21, V.bl b22, V.bl b23]) := upd_same
    generalize upd R6 q7 (HO.lst [V.bl b21, V.bl b22, V.bl b23]) = G7 at s lq ⊢
    replace S := Same.trans S s; replace ea := s _ _ ea; replace ed := s _ _ ed
    replace lp := s _ _ lp
    clear s
    refine ⟨_, _, _, _, rfl, rfl, lp, lq, by show 21 + 3 ≤ sizeLine; decide, fun rr7 hq => ?_⟩
    have s := Same.upd (o := HO.lst ((((((([V.bl b0, V.bl b1, V.bl b2] ++ [V.bl b3, V.bl b4, V.bl b5]) ++ [V.bl b6, V.bl b7, V.bl b8]) ++ [V.bl b9, V.bl b10, V.bl b11]) ++ [V.bl b12, V.bl b13, V.bl b14]) ++ [V.bl b15, V.bl b16, V.bl b17]) ++ [V.bl b18, V.bl b19, V.bl b20]) ++ [V.bl b21, V.bl b22, V.bl b23])) hq
    have lr : upd G7 rr7 (HO.lst ((((((([V.bl b0, V.bl b1, V.bl b2] ++ [V.bl b3, V.bl b4, V.bl b5]) ++ [V.bl b6, V.bl b7, V.bl b8]) ++ [V.bl b9, V.bl b10, V.bl b11]) ++ [V.bl b12, V.bl b13, V.bl b14]) ++ [V.bl b15, V.bl b16, V.bl b17]) ++ [V.bl b18, V.bl b19, V.bl b20]) ++ [V.bl b21, V.bl b22, V.bl b23])) rr7 = some (HO.lst ((((((([V.bl b0, V.bl b1, V.bl b2] ++ [V.bl b3, V.bl b4, V.bl b5]) ++ [V.bl b6, V.bl b7, V.bl b8]) ++ [V.bl b9, V.bl b10, V.bl b11]) ++ [V.bl b12, V.bl b13, V.bl b14]) ++ [V.bl b15, V.bl b16, V.bl b17]) ++ [V.bl b18, V.bl b19, V.bl b20]) ++ [V.bl b21, V.bl b22, V.bl b23])) := upd_same
    generalize upd G7 rr7 (HO.lst ((((((([V.bl b0, V.bl b1, V.bl b2] ++ [V.bl b3, V.bl b4, V.bl b5]) ++ [V.bl b6, V.bl b7, V.bl b8]) ++ [V.bl b9, V.bl b10, V.bl b11]) ++ [V.bl b12, V.bl b13, V.bl b14]) ++ [V.bl b15, V.bl b16, V.bl b17]) ++ [V.bl b18, V.bl b19, V.bl b20]) ++ [V.bl b21, V.bl b22, V.bl b23])) = R7 at s lr ⊢
    replace S := Same.trans S s; replace ea := s _ _ ea; replace ed := s _ _ ed
    clear s lp lq
    have lp := lr
    clear lr
    exact k _ _ S lp
end
abbrev sFields : Stmt := top 31
theorem scF : FnScope ["_law_found", "_law_first"] ["_law_found"] (defScope sFields) := ⟨rfl, rfl, rfl, by decide +kernel, rfl, by decide +kernel, by decide +kernel⟩
def spFields (cs : V → List (Addr × List (Str × V))) : Sp := fun vs H Q _ => ∃ (p : Addr) (v : V) (as : List (Addr × Addr)), vs = [.ref p] ∧ H p = some (.lst (as.map fun x => V.ref x.1)) ∧ AllX H (cs v) as ∧ ∀ (q : Addr) (H' : Hp), Same H H' → H' q = some (.lst [v, v, v, v, v, v, v, v, v]) → Q (.ref q) H'
section
variable {P : Program} {w : World} {K : PySem.W.Frag} {mg : Str → Option Value} {base : Heap}
theorem ok_fields {f : Addr} {fd : FuncData} {c0 c1 c2 c3 c4 c5 c6 c7 c8 c9 c10 c11 c12 c13 c14 c15 c16 c17 c18 c19 c20 c21 c22 : Addr} (F : Fun K "_law_fields" "_law_fields" sFields f fd) (X : Xs P w K mg base c0 c1 c2 c3 c4 c5 c6 c7 c8 c9 c10 c11 c12 c13 c14 c15 c16 c17 c18 c19 c20 c21 c22) : FnOk P w K mg base CX0 1 f fd ["_law_found"] (spFields (tabO c0 c1 c2 c3 c4 c5 c6 c7 c8 c9 c10 c11 c12 c13 c14 c15 c16 c17 c18 c19 c20 c21 c22)) := by
  refine F.ok scF (fun vs H Q E h => ?_) (fun cdv A outer s H vs Q E hr h => ?_)
  · obtain ⟨p, v, as, rfl, _⟩ := h
    rfl
  · obtain ⟨p, v, as, rfl, lp, E, k⟩ := h
    obtain ⟨⟨a0, d0⟩, r0, rfl, ⟨e0, g0⟩, E⟩ : ∃ x r, as = x :: r ∧ (H x.1 = some (exo x.1 c14 (some x.2)) ∧ H x.2 = some (exd x.2 [("line", v)])) ∧ Paired _ _ r := by cases E with | cons h t => exact ⟨_, _, rfl, h, t⟩
    obtain ⟨⟨a1, d1⟩, r1, rfl, ⟨e1, g1⟩, E⟩ : ∃ x r, r0 = x :: r ∧ (H x.1 = some (exo x.1 c15 (some x.2)) ∧ H x.2 = some (exd x.2 [("net", v)])) ∧ Paired _ _ r := by cases E with | cons h t => exact ⟨_, _, rfl, h, t⟩
    obtain ⟨⟨a2, d2⟩, r2, rfl, ⟨e2, g2⟩, E⟩ : ∃ x r, r1 = x :: r ∧ (H x.1 = some (exo x.1 c16 (some x.2)) ∧ H x.2 = some (exd x.2 [("net", v)])) ∧ Paired _ _ r := by cases E with | cons h t => exact ⟨_, _, rfl, h, t⟩
    obtain ⟨⟨a3, d3⟩, r3, rfl, ⟨e3, g3⟩, E⟩ : ∃ x r, r2 = x :: r ∧ (H x.1 = some (exo x.1 c17 (some x.2)) ∧ H x.2 = some (exd x.2 [("net", v)])) ∧ Paired _ _ r := by cases E with | cons h t => exact ⟨_, _, rfl, h, t⟩
    obtain ⟨⟨a4, d4⟩, r4, rfl, ⟨e4, g4⟩, E⟩ : ∃ x r, r3 = x :: r ∧ (H x.1 = some (exo x.1 c18 (some x.2)) ∧ H x.2 = some (exd x.2 [("user", v)])) ∧ Paired _ _ r := by cases E with | cons h t => exact ⟨_, _, rfl, h, t⟩
    obtain ⟨⟨a5, d5⟩, r5, rfl, ⟨e5, g5⟩, E⟩ : ∃ x r, r4 = x :: r ∧ (H x.1 = some (exo x.1 c19 (some x.2)) ∧ H x.2 = some (exd x.2 [("question", v)])) ∧ Paired _ _ r := by cases E with | cons h t => exact ⟨_, _, rfl, h, t⟩
    obtain ⟨⟨a6, d6⟩, r6, rfl, ⟨e6, g6⟩, E⟩ : ∃ x r, r5 = x :: r ∧ (H x.1 = some (exo x.1 c20 (some x.2)) ∧ H x.2 = some (exd x.2 [("question", v)])) ∧ Paired _ _ r := by cases E with | cons h t => exact ⟨_, _, rfl, h, t⟩
    obtain ⟨⟨a7, d7⟩, r7, rfl, ⟨e7, g7⟩, E⟩ : ∃ x r, r6 = x :: r ∧ (H x.1 = some (exo x.1 c21 (some x.2)) ∧ H x.2 = some (exd x.2 [("word", v)])) ∧ Paired _ _ r := by cases E with | cons h t => exact ⟨_, _, rfl, h, t⟩
    obtain ⟨⟨a8, d8⟩, r8, rfl, ⟨e8, g8⟩, E⟩ : ∃ x r, r7 = x :: r ∧ (H x.1 = some (exo x.1 c22 (some x.2)) ∧ H x.2 = some (exd x.2 [("node", v)])) ∧ Paired _ _ r := by cases E with | cons h t => exact ⟨_, _, rfl, h, t⟩
    cases E
    have S : Same H H := Same.refl H
    refine ⟨_, (pss_cons (ps_set (i := 1) scF.nd rfl (Or.inl rfl) (pe_lst (pa_cons (pe_ef (pe_ix ix_list (pv 0) pe_int (fun _ _ => rfl))) (pa_cons (pe_ef (pe_ix ix_list (pv 0) pe_int (fun _ _ => rfl))) (pa_cons (pe_ef (pe_ix ix_list (pv 0) pe_int (fun _ _ => rfl))) (pa_cons (pe_ef (pe_ix ix_list (pv 0) pe_int (fun _ _ => rfl))) (pa_cons (pe_ef (pe_ix ix_list (pv 0) pe_int (fun _ _ => rfl))) pa_nil)))))))
        (pss_one (ps_ret (pe_op op_cat (pv 1) (pe_lst (pa_cons (pe_ef (pe_ix ix_list (pv 0) pe_int (fun _ _ => rfl))) (pa_cons (pe_ef (pe_ix ix_list (pv 0) pe_int (fun _ _ => rfl))) (pa_cons (pe_ef (pe_ix ix_list (pv 0) pe_int (fun _ _ => rfl))) (pa_cons (pe_ef (pe_ix ix_list (pv 0) pe_int (fun _ _ => rfl))) pa_nil))))))))), ?_⟩
    refine ⟨_, rfl, p, _, 0, _, rfl, rfl, SqL.of (S _ _ lp), rfl, a0, c14, d0, _, v, rfl, X.x14.T, X.x14.no, S _ _ e0, S _ _ g0, rfl, ?_⟩
    refine ⟨_, rfl, p, _, 1, _, rfl, rfl, SqL.of (S _ _ lp), rfl, a1, c15, d1, _, v, rfl, X.x15.T, X.x15.no, S _ _ e1, S _ _ g1, rfl, ?_⟩
    refine ⟨_, rfl, p, _, 2, _, rfl, rfl, SqL.of (S _ _ lp), rfl, a2, c16, d2, _, v, rfl, X.x16.T, X.x16.no, S _ _ e2, S _ _ g2, rfl, ?_⟩
    refine ⟨_, rfl, p, _, 3, _, rfl, rfl, SqL.of (S _ _ lp), rfl, a3, c17, d3, _, v, rfl, X.x17.T, X.x17.no, S _ _ e3, S _ _ g3, rfl, ?_⟩
    refine ⟨_, rfl, p, _, 4, _, rfl, rfl, SqL.of (S _ _ lp), rfl, a4, c18, d4, _, v, rfl, X.x18.T, X.x18.no, S _ _ e4, S _ _ g4, rfl, ?_⟩
    refine ⟨by show 5 ≤ sizeLine; decide, fun q0 hq => ?_⟩
    have s := Same.upd (o := HO.lst [v, v, v, v, v]) hq
    have l0 : upd H q0 (HO.lst [v, v, v, v, v]) q0 = some (HO.lst [v, v, v, v, v]) := upd_same
    generalize upd H q0 (HO.lst [v, v, v, v, v]) = G0 at s l0 ⊢
    replace S := Same.trans S s
    clear s
    refine ⟨_, rfl, ?_⟩
    refine ⟨_, rfl, p, _, 5, _, rfl, rfl, SqL.of (S _ _ lp), rfl, a5, c19, d5, _, v, rfl, X.x19.T, X.x19.no, S _ _ e5, S _ _ g5, rfl, ?_⟩
    refine ⟨_, rfl, p, _, 6, _, rfl, rfl, SqL.of (S _ _ lp), rfl, a6, c20, d6, _, v, rfl, X.x20.T, X.x20.no, S _ _ e6, S _ _ g6, rfl, ?_⟩
    refine ⟨_, rfl, p, _, 7, _, rfl, rfl, SqL.of (S _ _ lp), rfl, a7, c21, d7, _, v, rfl, X.x21.T, X.x21.no, S _ _ e7, S _ _ g7, rfl, ?_⟩
    refine ⟨_, rfl, p, _, 8, _, rfl, rfl, SqL.of (S _ _ lp), rfl, a8, c22, d8, _, v, rfl, X.x22.T, X.x22.no, S _ _ e8, S _ _ g8, rfl, ?_⟩
    refine ⟨by show 4 ≤ sizeLine; decide, fun q1 hq => ?_⟩
    have s := Same.upd (o := HO.lst [v, v, v, v]) hq
    have lq : upd G0 q1 (HO.lst [v, v, v, v]) q1 = some (HO.lst [v, v, v, v]) := upd_same
    generalize upd G0 q1 (HO.lst [v, v, v, v]) = G1 at s lq ⊢
    replace S := Same.trans S s
    replace l0 := s _ _ l0
    clear s
    refine ⟨_, _, _, _, rfl, rfl, l0, lq, by show 5 + 4 ≤ sizeLine; decide, fun qq hq => ?_⟩
    exact k _ _ (Same.trans S (Same.upd hq)) upd_same
end
end K85
set_option Elab.async false
set_option linter.all false
set_option maxRecDepth 100000
set_option maxHeartbeats 4000000
namespace K85
open PySem L2 EX PyProof.Rows
abbrev sSource : Stmt := top 26
abbrev sDraw : Stmt := top 27
def M : Int := 2147483647
/-- what a source may hold -/
def SrcOk (x y : Int) : Prop := 0 ≤ x ∧ 0 ≤ y ∧ y < 2147483647
structure TxtC (mg : Str → Option Value) : Prop where
  len : mg "len" = none
  max : mg "max" = none
def spSource (K : PySem.W.Frag) : Sp := fun vs H Q _ => ∃ (a : Addr) (ns : List Int) (j : Nat), vs = [.ref a, .int (j : Int)] ∧ SqL K H a (ns.map V.int) ∧ j ≤ 1000 ∧
  ∀ p x y, H p = none → SrcOk x y → Q (.ref p) (upd H p (.lst [.int x, .int y]))
def spDraw : Sp := fun vs H Q _ => ∃ (p : Addr) (x y n : Int), vs = [.ref p, .int n] ∧ H p = some (.lst [.int x, .int y]) ∧ SrcOk x y ∧ 0 < n ∧ n < 2 ^ 100 ∧
  ∀ x' y' d, SrcOk x' y' → 0 ≤ d → d < n → Q (.int d) (upd H p (.lst [.int x', .int y']))
section
variable {P : Program} {w : World} {K : PySem.W.Frag} {mg : Str → Option Value} {base : Heap}
theorem scS : FnScope ["_law_script", "_law_turn", "_law_cell", "_law_number", "_law_seed"] ["_law_script", "_law_turn"] (defScope sSource) := ⟨rfl, rfl, rfl, by decide +kernel, rfl, by decide +kernel, by decide +kernel⟩
theorem scD : FnScope ["_law_source_here", "_law_amount", "_law_digit"] ["_law_source_here", "_law_amount"] (defScope sDraw) := ⟨rfl, rfl, rfl, by decide +kernel, rfl, by decide +kernel, by decide +kernel⟩
local macro_rules | `(tactic| walk_at "rd") => `(tactic| simp only [tSeq, tAsg, tOp, tC, tVar, tCB, tCons, tNil, tUn, tIfS, tTest, tNext, tRet, tLst, gName, gSub, rI0, rI, rU, L2.start, List.map_cons, List.map_nil, List.length_cons, List.length_nil, Nat.reduceAdd, Nat.reduceSub, List.replicate_succ, List.replicate_zero, List.cons_append, List.nil_append, List.set_cons_zero, List.set_cons_succ, List.getElem?_cons_zero, List.getElem?_cons_succ, Option.some.injEq, exists_eq_left', exists_eq_left, V.int.injEq, V.bl.injEq, V.ref.injEq, List.cons.injEq, and_true, true_and, and_assoc, exists_and_left, exists_eq', exists_const, decide_eq_true_eq, Cx.nox, Cx.wish])
set_option linter.all false
theorem ok_source {f : Addr} {fd : FuncData} (F : Fun K "_law_source" "_law_source" sSource f fd) (T : TxtC mg) : FnOk P w K mg base CX0 1 f fd ["_law_script", "_law_turn"] (spSource K) := by
  refine F.ok scS (fun vs H Q E h => ?_) (fun cdv A outer s H vs Q E hr h => ?_)
  · obtain ⟨a, ns, j, rfl, _⟩ := h
    rfl
  · obtain ⟨a, ns, j, rfl, hS, hj, k⟩ := h
    have hu := hu_of hr
    refine ⟨_, pss_cons (ps_set (i := 2) scS.nd rfl (Or.inl rfl) pe_int)
      (pss_cons (ps_if (pt_cmpR op_lt (pv 1) (pe_callB call_len_seq (by rfl) T.len PySem.boot_len (pa_cons (pv 0) pa_nil)) (nomark _))
         (pss_one (ps_set (i := 2) scS.nd rfl (Or.inl rfl) (pe_ix ix_list (pv 0) (pv 1) (fun _ _ => rfl)))) pss_nil)
      (pss_cons (ps_set (i := 3) scS.nd rfl (Or.inl rfl) (pe_callB (call_max2 rfl) (by rfl) T.max PyProof.Rows.boot_max (pa_cons (pv 2) (pa_cons (pe_op op_sub (pe_un un_neg pe_int) (pv 2)) pa_nil))))
      (pss_cons (ps_set (i := 4) scS.nd rfl (Or.inl rfl) (pe_op op_mod (pe_op op_add (pe_op op_add (pe_op op_mul (pe_op op_mod (pv 3) pe_int) pe_int) (pe_op op_mul pe_int (pv 1))) pe_int) pe_int))
      (pss_cons (ps_if (pt_cmpR op_lt (pv 3) (pe_op op_pow pe_int pe_int) (nomark _)) (pss_one (ps_set (i := 3) scS.nd rfl (Or.inl rfl) pe_int)) pss_nil)
      (pss_one (ps_ret (pe_lst (pa_cons (pv 3) (pa_cons (pv 4) pa_nil))))))))), ?_⟩
    walk_at "rd"
    have fin : ∀ (c : Int) (H1 : Hp), H1 = H →
        0 < (2147483629 : Int) ∧ CMul ((if -1 - c > c then -1 - c else c) % 2147483629) 16807 ∧ CMul 104729 (j : Int) ∧ (0 : Int) < 2147483647 ∧ CPow 10 18 ∧
        if (if -1 - c > c then -1 - c else c) < 10 ^ Int.toNat 18 then
          2 ≤ sizeLine ∧ ∀ p, H1 p = none → Q (V.ref p) (upd H1 p (HO.lst [V.int 0, V.int (((if -1 - c > c then -1 - c else c) % 2147483629 * 16807 + 104729 * (j : Int) + 11) % 2147483647)]))
        else 2 ≤ sizeLine ∧ ∀ p, H1 p = none → Q (V.ref p) (upd H1 p (HO.lst [V.int (if -1 - c > c then -1 - c else c), V.int (((if -1 - c > c then -1 - c else c) % 2147483629 * 16807 + 104729 * (j : Int) + 11) % 2147483647)])) := by
      rintro c H1 rfl
      have hm : 0 ≤ (if -1 - c > c then -1 - c else c) := by split <;> omega
      generalize (if -1 - c > c then -1 - c else c) = m at hm
      refine ⟨by decide, Or.inr ⟨by decide, by decide⟩, Or.inl ⟨by decide, by decide⟩, by decide, ⟨by decide, by decide, by decide⟩, ?_⟩
      have hs0 := Int.emod_nonneg (m % 2147483629 * 16807 + 104729 * (j : Int) + 11) (show (2147483647 : Int) ≠ 0 by decide)
      have hs1 := Int.emod_lt_of_pos (m % 2147483629 * 16807 + 104729 * (j : Int) + 11) (show (0 : Int) < 2147483647 by decide)
      split
      · exact ⟨by decide, fun p hp => k p _ _ hp ⟨by decide, hs0, hs1⟩⟩
      · exact ⟨by decide, fun p hp => k p _ _ hp ⟨hm, hs0, hs1⟩⟩
    refine ⟨_, .inl hS, ?_⟩
    split
    · rename_i hlt
      have hlt' : j < (ns.map V.int).length := by omega
      refine ⟨a, _, _, _, rfl, rfl, hS, atI_nat (List.getElem?_eq_getElem hlt'), ?_⟩
      have e : (ns.map V.int)[j] = V.int (ns[j]'(by simpa using hlt')) := by simp
      rw [e]
      walk_at "rd"
      exact fin _ _ rfl
    · exact fin 0 _ rfl
theorem ok_draw {f : Addr} {fd : FuncData} (F : Fun K "_law_draw" "_law_draw" sDraw f fd) : FnOk P w K mg base CX0 1 f fd ["_law_source_here", "_law_amount"] spDraw := by
  refine F.ok scD (fun vs H Q E h => ?_) (fun cdv A outer s H vs Q E hr h => ?_)
  · obtain ⟨p, x, y, n, rfl, _⟩ := h
    rfl
  · obtain ⟨p, x, y, n, rfl, hL, ⟨hx, hy, hy2⟩, hn, hn2, k⟩ := h
    have hu := hu_of hr
    refine ⟨_, pss_cons (ps_if (pt_cmpR op_gt (pe_ix ix_list (pv 0) pe_int (fun _ _ => rfl)) pe_int (nomark _))
        (pss_cons (ps_set (i := 2) scD.nd rfl (Or.inl rfl) (pe_op op_mod (pe_ix ix_list (pv 0) pe_int (fun _ _ => rfl)) (pv 1)))
        (pss_cons (ps_asg (pe_op op_fdivW (pe_ix ix_list (pv 0) pe_int (fun _ _ => rfl)) (pv 1)) (pg_sub (pv 0) pe_int set_list))
        (pss_one (ps_ret (pv 2))))) pss_nil)
      (pss_cons (ps_asg (pe_op op_mod (pe_op op_add (pe_op op_mul (pe_ix ix_list (pv 0) pe_int (fun _ _ => rfl)) pe_int) pe_int) pe_int) (pg_sub (pv 0) pe_int set_list))
      (pss_one (ps_ret (pe_op op_mod (pe_op op_fdivW (pe_op op_mod (pe_op op_mul (pe_ix ix_list (pv 0) pe_int (fun _ _ => rfl)) (pe_ix ix_list (pv 0) pe_int (fun _ _ => rfl))) pe_int) pe_int) (pv 1))))), ?_⟩
    have hS : SqL K H p [.int x, .int y] := SqL.of hL
    have r0 : ∀ (H' : Hp) (x y : Int) (Q' : V → Hp → Prop), H' p = some (.lst [.int x, .int y]) → Q' (.int x) H' → rIxL K (V.ref p) (V.int 0) H' Q' := fun H' x y Q' h q =>
      ⟨p, _, _, _, rfl, rfl, SqL.of h, atI_nat (j := 0) rfl, q⟩
    have r1 : ∀ (H' : Hp) (x y : Int) (Q' : V → Hp → Prop), H' p = some (.lst [.int x, .int y]) → Q' (.int y) H' → rIxL K (V.ref p) (V.int 1) H' Q' := fun H' x y Q' h q =>
      ⟨p, _, _, _, rfl, rfl, SqL.of h, atI_nat (j := 1) rfl, q⟩
    have w0 : ∀ (H' : Hp) (x y : Int) (v : V) (Q' : Hp → Prop), H' p = some (.lst [.int x, .int y]) → Q' (upd H' p (.lst [v, .int y])) → rSetL (V.ref p) (V.int 0) v H' Q' := fun H' x y v Q' h q =>
      ⟨p, _, _, _, rfl, rfl, h, rfl, q⟩
    have w1 : ∀ (H' : Hp) (x y : Int) (v : V) (Q' : Hp → Prop), H' p = some (.lst [.int x, .int y]) → Q' (upd H' p (.lst [.int x, v])) → rSetL (V.ref p) (V.int 1) v H' Q' := fun H' x y v Q' h q =>
      ⟨p, _, _, _, rfl, rfl, h, rfl, q⟩
    have hb : n.natAbs < 2 ^ 100 := by omega
    walk_at "rd"
    refine r0 _ _ _ _ hL ?_
    walk_at "rd"
    split
    · rename_i hpos
      refine r0 _ _ _ _ hL ?_
      walk_at "rd"
      refine ⟨hn, r0 _ _ _ _ hL ?_⟩
      walk_at "rd"
      refine ⟨wide_div hn hb (by decide) (by decide), w0 _ _ _ _ _ hL ?_⟩
      exact k _ _ _ ⟨Int.ediv_nonneg hx (by omega), hy, hy2⟩ (Int.emod_nonneg _ (by omega)) (Int.emod_lt_of_pos _ hn)
    · refine r1 _ _ _ _ hL ?_
      walk_at "rd"
      refine ⟨Or.inr ⟨by decide, by decide⟩, by decide, w1 _ _ _ _ _ hL ?_⟩
      have hs0 := Int.emod_nonneg (y * 48271 + 11) (show (2147483647 : Int) ≠ 0 by decide)
      have hs1 := Int.emod_lt_of_pos (y * 48271 + 11) (show (0 : Int) < 2147483647 by decide)
      generalize (y * 48271 + 11) % 2147483647 = z at hs0 hs1
      refine r1 _ x z _ upd_same (r1 _ x z _ upd_same ?_)
      walk_at "rd"
      refine ⟨Or.inr ⟨by omega, by omega⟩, by decide, ⟨by decide, by decide⟩, hn, ?_⟩
      exact k _ _ _ ⟨hx, hs0, hs1⟩ (Int.emod_nonneg _ (by omega)) (Int.emod_lt_of_pos _ hn)
end

/-- the seven objects, n the drawn number -/
inductive ItOk (H : Hp) (n : Int) : V → PyData → Prop where
  | non : ItOk H n .non .none
  | int : ItOk H n (.int n) (.int n)
  | str : ItOk H n (.str "text") (.str "text")
  | lst {t : Addr} (h : H t = some (.lst [.int 1])) : ItOk H n (.ref t) (.list [.int 1])
  | dic {t : Addr} (h : H t = some (.dK [(Sum.inr "a", .int 1)])) : ItOk H n (.ref t) (.dict [(.str "a", .int 1)])
  | tup {t : Addr} (h : H t = some (.tup [.str "a", .non])) : ItOk H n (.ref t) (.tuple [.str "a", .none])
  | bl : ItOk H n (.bl true) (.bool true)
theorem ItOk.mono {H H' : Hp} {n : Int} {v : V} {d : PyData} (s : Same H H') (h : ItOk H n v d) : ItOk H' n v d := by
  cases h with
  | int => exact .int
  | non => exact .non
  | bl => exact .bl
  | str => exact .str
  | tup h => exact .tup (s _ _ h)
  | lst h => exact .lst (s _ _ h)
  | dic h => exact .dic (s _ _ h)
theorem ItOk.rp {K : PySem.W.Frag} {H : Hp} {n : Int} {v : V} {d : PyData} (h : ItOk H n v d) : Rp K H v d := by
  cases h with
  | int => exact .dp (.int n) rfl
  | non => exact .dp .non rfl
  | bl => exact .dp (.bl true) rfl
  | str => exact .dp (.str _) rfl
  | tup h => exact .dp (.tup (SqT.of h) (.cons (.str _) (.cons .non .nil))) (by decide)
  | lst h => exact .dp (.lst (SqL.of h) (.cons (.int 1) .nil)) rfl
  | dic h => exact .dis h
theorem strOk_ofString (s : String) : PyData.strOk (Str.ofString s) = true := by
  rw [show Str.ofString s = Str.ofStringByList s from congrFun Str.ofString_eq_byList s]
  unfold PyData.strOk Str.ofStringByList
  rw [Array.all_eq_true]
  intro i hi
  simp only [List.getElem_toArray, List.getElem_map, decide_eq_true_eq]
  have := (s.toList[i]'(by simpa using hi)).valid
  show (s.toList[i]'(by simpa using hi)).val.toNat < 1114112
  rcases this with h | ⟨_, h⟩
  · exact Nat.lt_trans h (by decide)
  · exact h
theorem ItOk.small {H : Hp} {n : Int} {v : V} {d : PyData} (h : ItOk H n v d) (h0 : 0 ≤ n) (h1 : n < 100000000000000000000) : d.showable = true ∧ d.depth ≤ 60 ∧ d.shown.length ≤ sizeLine ∧ PyData.strOk d.shown = true := by
  cases h with
  | int =>
    have hn : (toString n).length ≤ 21 := int_text_length_le10 (k := 20) (by decide) (by omega)
    have hl : n.natAbs.log2 < 1920 := Nat.lt_of_lt_of_le (PySem.Flt.log2_lt_of (k := 67) (by decide) (by omega)) (by decide)
    refine ⟨by show decide (n.natAbs.log2 < 1920) = true; exact decide_eq_true hl, (show 0 ≤ 60 by decide), ?_, ?_⟩
    · show (Str.ofString (toString n)).length ≤ sizeLine
      rw [PySem.ofString_length]
      exact Nat.le_trans hn (by decide)
    · show PyData.strOk (Str.ofString (toString n)) = true
      exact strOk_ofString _
  | non => exact ⟨rfl, by decide, by decide +kernel, by decide +kernel⟩
  | bl => exact ⟨rfl, by decide, by decide +kernel, by decide +kernel⟩
  | str => exact ⟨rfl, by decide, by decide +kernel, by decide +kernel⟩
  | tup h => exact ⟨by decide +kernel, by decide, by decide +kernel, by decide +kernel⟩
  | lst h => exact ⟨by decide +kernel, by decide, by decide +kernel, by decide +kernel⟩
  | dic h => exact ⟨by decide +kernel, by decide, by decide +kernel, by decide +kernel⟩
/-- lists of one text -/
theorem dpS {K : PySem.W.Frag} {H : Hp} {x : Str} : ∀ k : Nat, DpAll K H (List.replicate k (V.str x)) (List.replicate k (PyData.str x))
  | 0 => .nil
  | k + 1 => .cons (.str x) (dpS k)
theorem canS {x : Str} (h : PyData.strOk x = true) : ∀ k : Nat, PyData.canLayAll0 (List.replicate k (PyData.str x)) = true
  | 0 => rfl
  | k + 1 => by
    show (PyData.canLay0 (.str x) && PyData.canLayAll0 (List.replicate k (PyData.str x))) = true
    rw [canS h k]
    show (PyData.strOk x && true) = true
    rw [h]
    rfl
theorem depS {x : Str} : ∀ k : Nat, PyData.depthAll (List.replicate k (PyData.str x)) = 0
  | 0 => rfl
  | k + 1 => by
    show max (PyData.depth (.str x)) (PyData.depthAll (List.replicate k (PyData.str x))) = 0
    rw [depS k]
    rfl
theorem shapedS {x : Str} (h : PyData.strOk x = true) (k : Nat) : SeqAt.shaped (.list (List.replicate k (PyData.str x))) = true := by
  show (PyData.canLayAll0 (List.replicate k (PyData.str x)) && decide (PyData.depthAll (List.replicate k (PyData.str x)) + 1 ≤ 64)) = true
  rw [canS h, depS]
  rfl
theorem eqvS {x : Str} (h : PyData.strOk x = true) (k : Nat) : PyData.eqv (.list (List.replicate k (PyData.str x))) (.list (List.replicate k (PyData.str x))) = true := SeqAt.eqv_refl _ (canS h k)

abbrev sAlone : Stmt := top 32
def aloneN : List Str := ["_law_e", "_law_at", "_law_spot"]
theorem scA : FnScope ["_law_e", "_law_at", "_law_spot"] ["_law_e", "_law_at"] (defScope sAlone) := ⟨rfl, rfl, rfl, by decide +kernel, rfl, by decide +kernel, by decide +kernel⟩
def spAlone (K : PySem.W.Frag) (cs : List Addr) : Sp := fun vs H Q _ => ∃ (a C d : Addr) (fs : List (Str × V)) (n : Nat), vs = [.ref a, .int (n : Int)] ∧ EcC K C ∧ H a = some (exo a C (some d)) ∧ H d = some (exd d fs) ∧
  Paired (fun (c : Addr) (b : Bool) => PySem.W.kitOne K (.ref C) (.ref c) = some b) cs (((List.range 23).map fun j => decide (j = n)) ++ [true]) ∧ ∀ (H' : Hp), Same H H' → Q (.bl true) H'
section
variable {P : Program} {w : World} {K : PySem.W.Frag} {mg : Str → Option Value} {base : Heap}
abbrev cl (c0 c1 c2 c3 c4 c5 c6 c7 c8 c9 c10 c11 c12 c13 c14 c15 c16 c17 c18 c19 c20 c21 c22 : Addr) : List Addr := [c0, c1, c2, c3, c4, c5, c6, c7, c8, c9, c10, c11, c12, c13, c14, c15, c16, c17, c18, c19, c20, c21, c22]
abbrev clb (c0 c1 c2 c3 c4 c5 c6 c7 c8 c9 c10 c11 c12 c13 c14 c15 c16 c17 c18 c19 c20 c21 c22 cb : Addr) : List Addr := [c0, c1, c2, c3, c4, c5, c6, c7, c8, c9, c10, c11, c12, c13, c14, c15, c16, c17, c18, c19, c20, c21, c22, cb]
theorem ok_alone {f : Addr} {fd : FuncData} {cs : List Addr} (F : Fun K "_law_alone" "_law_alone" sAlone f fd) (GK : DefAt P w K mg base 1 "_law_kinds" ["_law_e"] (spKinds K cs)) (mR : mg "range" = none) : FnOk P w K mg base CX0 2 f fd ["_law_e", "_law_at"] (spAlone K cs) := by
  refine F.ok scA (fun vs H Q E h => ?_) (fun cdv A outer s H vs Q E hr h => ?_)
  · obtain ⟨a, C, d, fs, n, rfl, _⟩ := h
    rfl
  · obtain ⟨a, C, d, fs, n, rfl, T, ea, ed, pr, k⟩ := h
    have hr1 : Room 1 _ := hr
    have hu64 : _ + 64 < cLine := hr.units
    refine ⟨_, (pss_one (ps_ret (pe_cmpR (op_eqD hu64) (pe_callD GK hr1 (pa_cons (pv 0) pa_nil)) (pe_op op_cat (pe_lc (own := [("_law_spot", 2)]) (g := gName 2) (tt := tYes) rfl scA.nd (pi_range1 (by rfl) mR (pa_cons pe_int pa_nil)) (blkOk_by (N := aloneN) (sc := defScope sAlone) (by decide +kernel)) (fun _ _ _ _ _ => pg_name (i := 2) scA.nd rfl (Or.inl rfl)) (fun _ _ _ _ _ => pts_nil) (fun _ _ _ _ _ => pe_cmpR op_eq (pv 2) (pv 1) (nomark _))) (pe_lst (pa_cons pe_bl pa_nil))) (nomark _)))), ?_⟩
    refine ⟨_, rfl, a, C, d, fs, _, rfl, T, ea, ed, pr, fun pk H1 s1 lk => ?_⟩
    refine ⟨23, rfl, by decide, by decide, fun Dl hD => ?_⟩
    refine lc_range (lo := 0) (n := 23) (fun j H' => H' Dl = some (.lst (((List.range j).map fun q => decide (q = n)).map V.bl)) ∧ Same H1 H') ⟨upd_same, Same.upd hD⟩ ?_ ?_
    · rintro j H12 hj ⟨lD, sD⟩
      refine ⟨rfl, ?_⟩
      refine ⟨_, rfl, _, rfl, rfl, _, lD, ?_, ?_, ?_⟩
      · rw [List.length_map, List.length_map, List.length_range]
        exact Nat.lt_of_lt_of_le hj (by decide)
      · rw [upd_same, List.range_succ, List.map_append, List.map_append]
        have eb : decide (V.int (0 + (j : Int)) = V.int (n : Int)) = decide (j = n) := by
          rw [dec_int, Int.zero_add]
          by_cases h : j = n
          · subst h
            simp
          · rw [decide_eq_false h]
            simp only [beq_eq_false_iff_ne, ne_eq]
            omega
        rw [eb]
        rfl
      · exact Same.updN sD hD
    · rintro H12 ⟨lD, sD⟩
      replace lk := sD _ _ lk
      refine ⟨by show 1 ≤ sizeLine; decide, fun t ht => ?_⟩
      have s2 := Same.upd (o := HO.lst [.bl true]) ht
      have lt : upd H12 t (HO.lst [.bl true]) t = some (.lst [.bl true]) := upd_same
      generalize upd H12 t (HO.lst [.bl true]) = H13 at s2 lt ⊢
      refine ⟨Dl, t, _, _, rfl, rfl, s2 _ _ lD, lt, ?_, fun r hr' => ?_⟩
      · rw [List.length_map, List.length_map, List.length_range]
        decide
      have s3 := Same.upd (o := HO.lst ((((List.range 23).map fun q => decide (q = n)).map V.bl) ++ [.bl true])) hr'
      have lr : upd H13 r (HO.lst ((((List.range 23).map fun q => decide (q = n)).map V.bl) ++ [.bl true])) r = some (HO.lst ((((List.range 23).map fun q => decide (q = n)) ++ [true]).map V.bl)) := by
        rw [upd_same, List.map_append]
        rfl
      replace lk := s3 _ _ (s2 _ _ lk)
      refine ⟨_, _, .lst (SqL.of lk) (dpB _), .lst (SqL.of lr) (dpB _), shapedB _, shapedB _, ?_⟩
      rw [eqvB]
      exact k _ (Same.trans s1 (Same.trans sD (Same.trans s2 s3)))
end
end K85
set_option Elab.async false
set_option linter.all false
set_option maxRecDepth 100000
set_option maxHeartbeats 4000000
namespace K85
open PySem L2 EX PyProof.Rows
abbrev sLaw : Stmt := top 33
def lawN : List Str := ["_law_script", "_law_turn", "_law_source_here", "_law_thing", "_law_firsts", "_law_others_here", "_law_e", "_law_field", "_law_at"]
theorem scL : FnScope ["_law_script", "_law_turn", "_law_source_here", "_law_thing", "_law_firsts", "_law_others_here", "_law_e", "_law_field", "_law_at"] ["_law_script"] (defScope sLaw) := ⟨rfl, rfl, rfl, by decide +kernel, rfl, by decide +kernel, by decide +kernel⟩
structure Bn (mg : Str → Option Value) : Prop where
  range : mg "range" = none
  max : mg "max" = none
  min : mg "min" = none
  len : mg "len" = none
  repr : mg "repr" = none
  isi : mg "isinstance" = none
section
variable {P : Program} {w : World} {K : PySem.W.Frag} {mg : Str → Option Value} {base : Heap}
/-- what the written part tells of the i-th class among the classes cs, cb behind them -/
structure CF (K : PySem.W.Frag) (cs : List Addr) (C : Addr) (i : Nat) : Prop where
  T : EcC K C
  one : Paired (fun (c : Addr) (b : Bool) => PySem.W.kitOne K (.ref C) (.ref c) = some b) cs (((List.range 23).map fun j => decide (j = i)) ++ [true])
  no : i < 14 → PySem.W.findIn K (.ref C) "given" = some none
theorem getG {c0 c1 c2 c3 c4 c5 c6 c7 c8 c9 c10 c11 c12 c13 c14 c15 c16 c17 c18 c19 c20 c21 c22 : Addr} {v : V} {i : Nat} {C : Addr} {fs : List (Str × V)} (h : (tabG c0 c1 c2 c3 c4 c5 c6 c7 c8 c9 c10 c11 c12 c13 c14 c15 c16 c17 c18 c19 c20 c21 c22 v)[i]? = some (C, fs)) : i < 14 ∧ (cl c0 c1 c2 c3 c4 c5 c6 c7 c8 c9 c10 c11 c12 c13 c14 c15 c16 c17 c18 c19 c20 c21 c22)[i]? = some C ∧ fs = [(("given" : Str), v)] := by
  have hi : i < 14 := (List.getElem?_eq_some_iff.mp h).1
  refine ⟨hi, ?_⟩
  obtain rfl | rfl | rfl | rfl | rfl | rfl | rfl | rfl | rfl | rfl | rfl | rfl | rfl | rfl : i = 0 ∨ i = 1 ∨ i = 2 ∨ i = 3 ∨ i = 4 ∨ i = 5 ∨ i = 6 ∨ i = 7 ∨ i = 8 ∨ i = 9 ∨ i = 10 ∨ i = 11 ∨ i = 12 ∨ i = 13 := by omega
  all_goals (cases h; exact ⟨rfl, rfl⟩)
theorem getO {c0 c1 c2 c3 c4 c5 c6 c7 c8 c9 c10 c11 c12 c13 c14 c15 c16 c17 c18 c19 c20 c21 c22 : Addr} {v : V} {i : Nat} {C : Addr} {fs : List (Str × V)} (h : (tabO c0 c1 c2 c3 c4 c5 c6 c7 c8 c9 c10 c11 c12 c13 c14 c15 c16 c17 c18 c19 c20 c21 c22 v)[i]? = some (C, fs)) : (cl c0 c1 c2 c3 c4 c5 c6 c7 c8 c9 c10 c11 c12 c13 c14 c15 c16 c17 c18 c19 c20 c21 c22)[14 + i]? = some C := by
  have hi : i < 9 := (List.getElem?_eq_some_iff.mp h).1
  obtain rfl | rfl | rfl | rfl | rfl | rfl | rfl | rfl | rfl : i = 0 ∨ i = 1 ∨ i = 2 ∨ i = 3 ∨ i = 4 ∨ i = 5 ∨ i = 6 ∨ i = 7 ∨ i = 8 := by omega
  all_goals (cases h; rfl)
theorem getA {H : Hp} {cs : List (Addr × List (Str × V))} {al : List (Addr × Addr)} {i : Nat} {x : V} (E : AllX H cs al) (hx : (al.map fun x => V.ref x.1)[i]? = some x) : ∃ ai di C fs, x = .ref ai ∧ cs[i]? = some (C, fs) ∧ H ai = some (exo ai C (some di)) ∧ H di = some (exd di fs) := by
  rw [List.getElem?_map] at hx
  cases h : al[i]? with
  | none =>
    rw [h] at hx
    cases hx
  | some y =>
    rw [h] at hx
    obtain ⟨ai, di⟩ := y
    obtain ⟨C, fs, q1, q2, q3⟩ := E.get h
    exact ⟨ai, di, C, fs, (Option.some.inj hx).symm, q1, q2, q3⟩
theorem run_law {f a : Addr} {fd : FuncData} {c0 c1 c2 c3 c4 c5 c6 c7 c8 c9 c10 c11 c12 c13 c14 c15 c16 c17 c18 c19 c20 c21 c22 cb : Addr} {s : Shared} {H : Hp} {ns : List Int} (F : Fun K "law" "law" sLaw f fd) (B : Bn mg)
    (GS : DefAt P w K mg base 1 "_law_source" ["_law_script", "_law_turn"] (spSource K)) (GD : DefAt P w K mg base 1 "_law_draw" ["_law_source_here", "_law_amount"] spDraw)
    (GG : DefAt P w K mg base 3 "_law_given" ["_law_thing"] (spAll (tabG c0 c1 c2 c3 c4 c5 c6 c7 c8 c9 c10 c11 c12 c13 c14 c15 c16 c17 c18 c19 c20 c21 c22))) (GO : DefAt P w K mg base 3 "_law_others" ["_law_thing"] (spAll (tabO c0 c1 c2 c3 c4 c5 c6 c7 c8 c9 c10 c11 c12 c13 c14 c15 c16 c17 c18 c19 c20 c21 c22))) (GF : DefAt P w K mg base 1 "_law_fields" ["_law_found"] (spFields (tabO c0 c1 c2 c3 c4 c5 c6 c7 c8 c9 c10 c11 c12 c13 c14 c15 c16 c17 c18 c19 c20 c21 c22)))
    (GA : DefAt P w K mg base 2 "_law_alone" ["_law_e", "_law_at"] (spAlone K (clb c0 c1 c2 c3 c4 c5 c6 c7 c8 c9 c10 c11 c12 c13 c14 c15 c16 c17 c18 c19 c20 c21 c22 cb)))
    (hb : ∀ (s : Shared) (u : Value), BindsTo s fd ⟨[u], []⟩ [("_law_script", u)]) (e0 : Env0 P w K mg base callerA [] s H) (hS : SqL K H a (ns.map V.int)) (hns : ns.length ≤ 63) (CFs : ∀ i C, (cl c0 c1 c2 c3 c4 c5 c6 c7 c8 c9 c10 c11 c12 c13 c14 c15 c16 c17 c18 c19 c20 c21 c22)[i]? = some C → CF K (clb c0 c1 c2 c3 c4 c5 c6 c7 c8 c9 c10 c11 c12 c13 c14 c15 c16 c17 c18 c19 c20 c21 c22 cb) C i) :
    codeAny (model P w) callerA (.call (.ref f) ⟨[.ref a], []⟩) (CR CX0 [] P w H s (fun v _ => v = .bl true) E0) s := by
  have hroom : Room 4 callerA := ⟨rfl, by decide, by decide⟩
  refine fn_at (us := [Value.ref a]) (vs := [V.ref a]) F scL hroom e0 (hb s (.ref a)) (.cons rfl .nil) rfl fun cdv hr => ?_
  have hr2 : Room 2 _ := hr.mono (by decide)
  have hr1 : Room 1 _ := hr.mono (by decide)
  have hg : (callerA.deeper (envOfC "law" (defScope sLaw) s.heap.objs.size f cdv)).guards = some [] := rfl
  have hu : (callerA.deeper (envOfC "law" (defScope sLaw) s.heap.objs.size f cdv)).units + 70 < cLine := by have := hr.un; omega
  have hu64 : (callerA.deeper (envOfC "law" (defScope sLaw) s.heap.objs.size f cdv)).units + 64 < cLine := by omega
  refine ⟨_, PSs.nox (pss_cons (ps_for PassesOwn.never rfl (pi_range1 (by rfl) B.range (pa_cons (pe_callB (call_max2 rfl) (by rfl) B.max PyProof.Rows.boot_max (pa_cons pe_int (pa_cons (pe_callB (call_min2 rfl) (by rfl) B.min PyProof.Rows.boot_min (pa_cons (pe_callB call_len_seq (by rfl) B.len PySem.boot_len (pa_cons (pv 0) pa_nil)) (pa_cons pe_int pa_nil))) pa_nil))) pa_nil)) (pg_name (i := 1) scL.nd rfl (Or.inl rfl)) (pss_cons (ps_set (i := 2) scL.nd rfl (Or.inl rfl) (pe_callD GS hr1 (pa_cons (pv 0) (pa_cons (pv 1) pa_nil))))
        (pss_one (ps_for PassesOwn.never rfl (pi_list (pe_lst (pa_cons pe_non (pa_cons (pe_callD GD hr1 (pa_cons (pv 2) (pa_cons (pe_op op_pow pe_int pe_int) pa_nil))) (pa_cons pe_str (pa_cons (pe_lst (pa_cons pe_int pa_nil)) (pa_cons (pe_disp (pps_cons pe_str pe_int pps_nil) rfl rfl (by simp) (by show 1 ≤ 15; decide)) (pa_cons (pe_tup (pa_cons pe_str (pa_cons pe_non pa_nil))) (pa_cons pe_bl pa_nil))))))))) (pg_name (i := 3) scL.nd rfl (Or.inl rfl)) (pss_cons (ps_asg (pe_tup (pa_cons (pe_callD GG hr (pa_cons (pv 3) pa_nil)) (pa_cons (pe_callD GO hr (pa_cons (pv 3) pa_nil)) pa_nil))) (pg_tup rfl (pgs_cons (pg_name (i := 4) scL.nd rfl (Or.inr rfl)) (pgs_cons (pg_name (i := 5) scL.nd rfl (Or.inr rfl)) pgs_nil))))
        (pss_cons (ps_if (pt_cmpR (op_neD hu64) (pe_lc (own := [("_law_e", 6)]) (g := gName 6) (tt := tYes) (te := tCB (rRepr K) (tCons (tEf K "given" (tVar 6)) tNil)) rfl scL.nd (pi_list (pv 4)) (blkOk_by (N := lawN) (sc := defScope sLaw) (by decide +kernel)) (fun _ _ _ _ _ => pg_name (i := 6) scL.nd rfl (Or.inl rfl)) (fun _ _ _ _ _ => pts_nil) (fun _ _ _ _ _ => (pe_callB (call_reprD hg hu) (by rfl) B.repr PyProof.Rows.boot_repr (pa_cons (pe_ef (pv 6)) pa_nil)))) (pe_op op_rep (pe_lst (pa_cons (pe_callB (call_reprD hg hu) (by rfl) B.repr PyProof.Rows.boot_repr (pa_cons (pv 3) pa_nil)) pa_nil)) pe_int) (nomark _)) (pss_one (ps_ret pe_bl)) pss_nil)
        (pss_cons (ps_if (pt_cmpR (op_neD hu64) (pe_lc (own := [("_law_field", 7)]) (g := gName 7) (tt := tYes) (te := tCB (rRepr K) (tCons (tVar 7) tNil)) rfl scL.nd (pi_list (pe_callD GF hr1 (pa_cons (pv 5) pa_nil))) (blkOk_by (N := lawN) (sc := defScope sLaw) (by decide +kernel)) (fun _ _ _ _ _ => pg_name (i := 7) scL.nd rfl (Or.inl rfl)) (fun _ _ _ _ _ => pts_nil) (fun _ _ _ _ _ => (pe_callB (call_reprD hg hu) (by rfl) B.repr PyProof.Rows.boot_repr (pa_cons (pv 7) pa_nil)))) (pe_op op_rep (pe_lst (pa_cons (pe_callB (call_reprD hg hu) (by rfl) B.repr PyProof.Rows.boot_repr (pa_cons (pv 3) pa_nil)) pa_nil)) pe_int) (nomark _)) (pss_one (ps_ret pe_bl)) pss_nil)
        (pss_cons (ps_if (pt_cmpR (op_neD hu64) (pe_lc (own := [("_law_at", 8)]) (g := gName 8) (tt := tNot (tB (tCall (spAlone K _) [] E0 (tCons (tOp (rIxL K) (tVar 4) (tVar 8)) (tCons (tVar 8) tNil))))) rfl scL.nd (pi_range1 (by rfl) B.range (pa_cons pe_int pa_nil)) (blkOk_by (N := lawN) (sc := defScope sLaw) (by decide +kernel)) (fun _ _ _ _ _ => pg_name (i := 8) scL.nd rfl (Or.inl rfl)) (fun _ _ _ _ _ => (pts_one (pt_not (pt_val (pe_callD GA hr2 (pa_cons (pe_ix ix_list (pv 4) (pv 8) (fun _ _ => rfl)) (pa_cons (pv 8) pa_nil))))))) (fun _ _ _ _ _ => (pv 8))) (pe_lst pa_nil) (nomark _)) (pss_one (ps_ret pe_bl)) pss_nil)
        (pss_one (ps_if (pt_cmpR (op_neD hu64) (pe_lc (own := [("_law_at", 8)]) (g := gName 8) (tt := tNot (tB (tCall (spAlone K _) [] E0 (tCons (tOp (rIxL K) (tVar 5) (tVar 8)) (tCons (tOp _ (tC (.int 14)) (tVar 8)) tNil))))) rfl scL.nd (pi_range1 (by rfl) B.range (pa_cons pe_int pa_nil)) (blkOk_by (N := lawN) (sc := defScope sLaw) (by decide +kernel)) (fun _ _ _ _ _ => pg_name (i := 8) scL.nd rfl (Or.inl rfl)) (fun _ _ _ _ _ => (pts_one (pt_not (pt_val (pe_callD GA hr2 (pa_cons (pe_ix ix_list (pv 5) (pv 8) (fun _ _ => rfl)) (pa_cons (pe_op op_add pe_int (pv 8)) pa_nil))))))) (fun _ _ _ _ _ => (pv 8))) (pe_lst pa_nil) (nomark _)) (pss_one (ps_ret pe_bl)) pss_nil))))))))))
        (pss_one (ps_ret pe_bl))), ?_⟩
  -- the turns
  refine ⟨_, rfl, a, _, rfl, .inl hS, _, _, rfl, _, _, rfl, _, rfl, ?_, ?_, ?_⟩
  · rw [List.length_map]; split <;> split <;> omega
  · rw [List.length_map]; split <;> split <;> omega
  refine for_range (fun i σ H' => ∃ v1 v2 v3 v4 v5 v6 v7 v8, σ = [some (V.ref a), v1, v2, v3, v4, v5, v6, v7, v8] ∧ Same H H') ⟨_, _, _, _, _, _, _, _, rfl, Same.refl H⟩ ?_ (fun σ H' _ => rfl)
  rintro i σ H' hi ⟨v1, v2, v3, v4, v5, v6, v7, v8, rfl, S⟩
  have hi63 : i ≤ 1000 := by
    rw [List.length_map] at hi
    split at hi <;> split at hi <;> omega
  -- the source
  refine ⟨_, rfl, _, rfl, a, ns, i, by rw [Int.zero_add]; rfl, S.seq hS, hi63, fun p x0 y0 hp hsrc => ?_⟩
  have np : H p = none := S.free hp
  replace S := Same.updN (o := HO.lst [.int x0, .int y0]) S np
  have lp : upd H' p (HO.lst [.int x0, .int y0]) p = some (.lst [.int x0, .int y0]) := upd_same
  generalize upd H' p (HO.lst [.int x0, .int y0]) = H1 at S lp ⊢
  -- the number
  refine ⟨_, rfl, _, _, rfl, rfl, ⟨by decide, by decide, by decide⟩, p, x0, y0, _, rfl, lp, hsrc, by decide, by decide, fun x1 y1 d1 hsrc1 d10 d11 => ?_⟩
  replace d11 : d1 < 100000000000000000000 := d11
  replace S := Same.updN (o := HO.lst [.int x1, .int y1]) S np
  clear lp
  generalize upd H1 p (HO.lst [.int x1, .int y1]) = H2 at S ⊢
  -- the objects
  refine ⟨by show 1 ≤ sizeLine; decide, fun t1 n1 => ?_⟩
  have s1 := Same.upd (o := HO.lst [.int 1]) n1
  have g1 : upd H2 t1 (HO.lst [.int 1]) t1 = some (.lst [.int 1]) := upd_same
  generalize upd H2 t1 (HO.lst [.int 1]) = H3 at s1 g1 ⊢
  replace S := Same.trans S s1
  clear s1
  intro t2 n2
  refine ⟨upd_same, [(Sum.inr "a", V.int 1)], rfl, by show 1 ≤ 15; decide, ?_⟩
  have em : mergeK [] [(Sum.inr ("a" : Str), V.int 1)] = ([(Sum.inr "a", V.int 1)] : List (Key × V)) := rfl
  rw [em, EX.upd_upd]
  have s2 := Same.upd (o := HO.dK [(Sum.inr ("a" : Str), V.int 1)]) n2
  have g2 : upd H3 t2 (HO.dK [(Sum.inr ("a" : Str), V.int 1)]) t2 = some (.dK [(Sum.inr "a", V.int 1)]) := upd_same
  generalize upd H3 t2 (HO.dK [(Sum.inr ("a" : Str), V.int 1)]) = H4 at s2 g2 ⊢
  replace S := Same.trans S s2
  replace g1 := s2 _ _ g1
  clear s2 em
  refine ⟨by show 2 ≤ sizeLine; decide, fun t3 n3 => ?_⟩
  have s3 := Same.upd (o := HO.tup [.str "a", .non]) n3
  have g3 : upd H4 t3 (HO.tup [.str "a", .non]) t3 = some (.tup [.str "a", .non]) := upd_same
  generalize upd H4 t3 (HO.tup [.str "a", .non]) = H5 at s3 g3 ⊢
  replace S := Same.trans S s3
  replace g1 := s3 _ _ g1; replace g2 := s3 _ _ g2
  clear s3
  refine ⟨by show 7 ≤ sizeLine; decide, fun t4 n4 => ?_⟩
  have s4 := Same.upd (o := HO.lst [.non, .int d1, .str "text", .ref t1, .ref t2, .ref t3, .bl true]) n4
  have g4 : upd H5 t4 (HO.lst [.non, .int d1, .str "text", .ref t1, .ref t2, .ref t3, .bl true]) t4 = some (.lst [.non, .int d1, .str "text", .ref t1, .ref t2, .ref t3, .bl true]) := upd_same
  generalize upd H5 t4 (HO.lst [.non, .int d1, .str "text", .ref t1, .ref t2, .ref t3, .bl true]) = H6 at s4 g4 ⊢
  replace S := Same.trans S s4
  replace g1 := s4 _ _ g1; replace g2 := s4 _ _ g2; replace g3 := s4 _ _ g3
  clear s4
  refine ⟨t4, rfl, ⟨_, SqL.of g4⟩, ?_⟩
  refine for_list (fun j σ H' => ∃ w3 w4 w5 w6 w7 w8, σ = [some (V.ref a), some (V.int (0 + (i : Int))), some (V.ref p), w3, w4, w5, w6, w7, w8] ∧ Same H6 H') ⟨_, _, _, _, _, _, rfl, Same.refl _⟩
    (fun j σ H' _ ⟨_, _, _, _, _, _, _, z⟩ => z.seq (SqL.of g4)) ?_ ?_
  · rintro j v σ H7 hv ⟨w3, w4, w5, w6, w7, w8, rfl, S7⟩
    obtain ⟨dd, hit⟩ : ∃ dd, ItOk H7 d1 v dd := by
      have hj : j < 7 := (List.getElem?_eq_some_iff.mp hv).1
      obtain rfl | rfl | rfl | rfl | rfl | rfl | rfl : j = 0 ∨ j = 1 ∨ j = 2 ∨ j = 3 ∨ j = 4 ∨ j = 5 ∨ j = 6 := by omega
      all_goals cases hv
      · exact ⟨_, .non⟩
      · exact ⟨_, .int⟩
      · exact ⟨_, .str⟩
      · exact ⟨_, .lst (S7 _ _ g1)⟩
      · exact ⟨_, .dic (S7 _ _ g2)⟩
      · exact ⟨_, .tup (S7 _ _ g3)⟩
      · exact ⟨_, .bl⟩
    clear hv g1 g2 g3 g4
    obtain ⟨hsh, hdp, hsz, hok⟩ := hit.small d10 d11
    -- the exceptions
    refine ⟨_, rfl, v, rfl, fun pl al H8 s8 E8 l8 => ?_⟩
    refine ⟨_, rfl, v, rfl, fun po ao H9 s9 E9 l9 => ?_⟩
    replace hit := (hit.mono s8).mono s9
    replace E8 := E8.mono s9
    replace l8 := s9 _ _ l8
    replace S7 := Same.trans (Same.trans S7 s8) s9
    clear s8 s9
    refine ⟨by show 2 ≤ sizeLine; decide, fun tt ntt => ?_⟩
    have s10 := Same.upd (o := HO.tup [V.ref pl, V.ref po]) ntt
    have lt : upd H9 tt (HO.tup [V.ref pl, V.ref po]) tt = some (.tup [V.ref pl, V.ref po]) := upd_same
    generalize upd H9 tt (HO.tup [V.ref pl, V.ref po]) = H10 at s10 lt ⊢
    replace hit := hit.mono s10
    replace E8 := E8.mono s10
    replace E9 := E9.mono s10
    replace l8 := s10 _ _ l8
    replace l9 := s10 _ _ l9
    replace S7 := Same.trans S7 s10
    clear s10 ntt
    refine ⟨tt, _, rfl, SqT.of lt, rfl, _, _, rfl, _, _, rfl, rfl, ?_⟩
    clear lt
    have hal : (al.map fun x => V.ref x.1).length = 14 := by rw [List.length_map]; exact (Paired.length E8).symm
    have hao : (ao.map fun x => V.ref x.1).length = 9 := by rw [List.length_map]; exact (Paired.length E9).symm
    -- given
    refine ⟨_, rfl, pl, rfl, ⟨_, SqL.of l8⟩, fun Dl hD => ?_⟩
    refine lc_list (fun j H' => H' Dl = some (.lst (List.replicate j (V.str dd.shown))) ∧ Same H10 H') ⟨upd_same, Same.upd hD⟩ (fun _ _ _ z => z.2.seq (SqL.of l8)) ?_ ?_
    · rintro q x Hb hx ⟨lD, sD⟩
      obtain ⟨ai, di, C, fs, rfl, hc, e1, e2⟩ := getA E8 hx
      obtain ⟨hq, hC, rfl⟩ := getG hc
      have G := CFs q C hC
      refine ⟨rfl, ?_⟩
      refine ⟨_, rfl, ai, C, di, _, v, rfl, G.T, G.no hq, sD _ _ e1, sD _ _ e2, rfl, v, dd, rfl, (hit.mono sD).rp, hsh, hdp, hsz, _, lD, ?_, ?_, Same.updN sD hD⟩
      · rw [List.length_replicate]
        exact Nat.lt_of_lt_of_le hq (by decide)
      · rw [upd_same, List.replicate_succ']
    rintro H11 ⟨lD, sD⟩
    rw [hal] at lD
    replace hit := hit.mono sD
    replace E8 := E8.mono sD
    replace E9 := E9.mono sD
    replace l8 := sD _ _ l8
    replace l9 := sD _ _ l9
    replace S7 := Same.trans S7 sD
    clear sD hD
    refine ⟨_, rfl, v, dd, rfl, hit.rp, hsh, hdp, hsz, by show 1 ≤ sizeLine; decide, fun t nt => ?_⟩
    have s12 := Same.upd (o := HO.lst [V.str dd.shown]) nt
    have lt : upd H11 t (HO.lst [V.str dd.shown]) t = some (.lst [V.str dd.shown]) := upd_same
    generalize upd H11 t (HO.lst [V.str dd.shown]) = H12 at s12 lt ⊢
    refine ⟨t, 14, _, rfl, rfl, lt, by decide, by decide, by show 1 * 14 ≤ sizeLine; decide, fun r nr => ?_⟩
    have s13 := Same.upd (o := HO.lst (List.replicate (Int.toNat 14) [V.str dd.shown]).flatten) nr
    have lr : upd H12 r (HO.lst (List.replicate (Int.toNat 14) [V.str dd.shown]).flatten) r = some (.lst (List.replicate 14 (V.str dd.shown))) := upd_same
    generalize upd H12 r (HO.lst (List.replicate (Int.toNat 14) [V.str dd.shown]).flatten) = H13 at s13 lr ⊢
    replace s13 := Same.trans s12 s13
    replace lD := s13 _ _ lD
    refine ⟨_, _, .lst (SqL.of lD) (dpS 14), .lst (SqL.of lr) (dpS 14), shapedS hok 14, shapedS hok 14, _, rfl, ?_⟩
    rw [eqvS hok]
    refine iteF ?_
    replace hit := hit.mono s13
    replace E8 := E8.mono s13
    replace E9 := E9.mono s13
    replace l8 := s13 _ _ l8
    replace l9 := s13 _ _ l9
    replace S7 := Same.trans S7 s13
    clear s12 s13 lD lr lt nt nr
    -- the other fields
    refine ⟨_, rfl, po, v, ao, rfl, l9, E9, fun q H14 s14 lq => ?_⟩
    replace hit := hit.mono s14
    replace E8 := E8.mono s14
    replace E9 := E9.mono s14
    replace l8 := s14 _ _ l8
    replace l9 := s14 _ _ l9
    replace S7 := Same.trans S7 s14
    clear s14
    refine ⟨q, rfl, ⟨_, SqL.of lq⟩, fun Dl hD => ?_⟩
    refine lc_list (fun j H' => H' Dl = some (.lst (List.replicate j (V.str dd.shown))) ∧ Same H14 H') ⟨upd_same, Same.upd hD⟩ (fun _ _ _ z => z.2.seq (SqL.of lq)) ?_ ?_
    · rintro q x Hb hx ⟨lD, sD⟩
      have hq : q < 9 := (List.getElem?_eq_some_iff.mp hx).1
      obtain rfl : x = v := by
        have := List.mem_of_getElem? hx
        simpa using this
      refine ⟨rfl, ?_⟩
      refine ⟨_, rfl, _, dd, rfl, (hit.mono sD).rp, hsh, hdp, hsz, _, lD, ?_, ?_, Same.updN sD hD⟩
      · rw [List.length_replicate]
        exact Nat.lt_of_lt_of_le hq (by decide)
      · rw [upd_same, List.replicate_succ']
    rintro H15 ⟨lD, sD⟩
    replace lD : H15 Dl = some (.lst (List.replicate 9 (V.str dd.shown))) := lD
    replace hit := hit.mono sD
    replace E8 := E8.mono sD
    replace E9 := E9.mono sD
    replace l8 := sD _ _ l8
    replace l9 := sD _ _ l9
    replace S7 := Same.trans S7 sD
    clear sD hD lq
    refine ⟨_, rfl, v, dd, rfl, hit.rp, hsh, hdp, hsz, by show 1 ≤ sizeLine; decide, fun t nt => ?_⟩
    have s12 := Same.upd (o := HO.lst [V.str dd.shown]) nt
    have lt : upd H15 t (HO.lst [V.str dd.shown]) t = some (.lst [V.str dd.shown]) := upd_same
    generalize upd H15 t (HO.lst [V.str dd.shown]) = H16 at s12 lt ⊢
    refine ⟨t, 9, _, rfl, rfl, lt, by decide, by decide, by show 1 * 9 ≤ sizeLine; decide, fun r nr => ?_⟩
    have s13 := Same.upd (o := HO.lst (List.replicate (Int.toNat 9) [V.str dd.shown]).flatten) nr
    have lr : upd H16 r (HO.lst (List.replicate (Int.toNat 9) [V.str dd.shown]).flatten) r = some (.lst (List.replicate 9 (V.str dd.shown))) := upd_same
    generalize upd H16 r (HO.lst (List.replicate (Int.toNat 9) [V.str dd.shown]).flatten) = H17 at s13 lr ⊢
    replace s13 := Same.trans s12 s13
    replace lD := s13 _ _ lD
    refine ⟨_, _, .lst (SqL.of lD) (dpS 9), .lst (SqL.of lr) (dpS 9), shapedS hok 9, shapedS hok 9, _, rfl, ?_⟩
    rw [eqvS hok]
    refine iteF ?_
    clear hit
    replace E8 := E8.mono s13
    replace E9 := E9.mono s13
    replace l8 := s13 _ _ l8
    replace l9 := s13 _ _ l9
    replace S7 := Same.trans S7 s13
    clear s12 s13 lD lr lt nt nr
    -- none below another one
    refine ⟨14, rfl, by decide, by decide, fun Dl hD => ?_⟩
    refine lc_range (lo := 0) (n := 14) (fun j H' => H' Dl = some (.lst []) ∧ Same H17 H') ⟨upd_same, Same.upd hD⟩ ?_ ?_
    · rintro q Hb hq ⟨lD, sD⟩
      have hx := List.getElem?_eq_getElem (l := al.map fun x => V.ref x.1) (i := q) (by omega)
      obtain ⟨ai, di, C, fs, ex, hc, e1, e2⟩ := getA E8 hx
      obtain ⟨_, hC, rfl⟩ := getG hc
      have G := CFs q C hC
      rw [ex] at hx
      refine ⟨rfl, ?_⟩
      refine ⟨_, rfl, _, rfl, pl, _, _, V.ref ai, rfl, rfl, SqL.of (sD _ _ l8), by rw [Int.zero_add]; exact atI_nat hx, _, rfl, ai, C, di, _, q, by rw [Int.zero_add]; rfl, G.T, sD _ _ e1, sD _ _ e2, G.one, fun Hc sc => ?_⟩
      exact ⟨_, rfl, sc _ _ lD, Same.trans sD sc⟩
    rintro H18 ⟨lD, sD⟩
    replace E9 := E9.mono sD
    replace l9 := sD _ _ l9
    replace S7 := Same.trans S7 sD
    clear sD hD E8 l8
    refine ⟨by show 0 ≤ sizeLine; decide, fun t nt => ?_⟩
    have s12 := Same.upd (o := HO.lst []) nt
    have lt : upd H18 t (HO.lst []) t = some (.lst []) := upd_same
    generalize upd H18 t (HO.lst []) = H19 at s12 lt ⊢
    refine ⟨_, _, .lst (SqL.of (s12 _ _ lD)) (dpB []), .lst (SqL.of lt) (dpB []), shapedB [], shapedB [], _, rfl, ?_⟩
    rw [eqvB]
    refine iteF ?_
    replace E9 := E9.mono s12
    replace l9 := s12 _ _ l9
    replace S7 := Same.trans S7 s12
    clear s12 lD lt nt
    refine ⟨9, rfl, by decide, by decide, fun Dl hD => ?_⟩
    refine lc_range (lo := 0) (n := 9) (fun j H' => H' Dl = some (.lst []) ∧ Same H19 H') ⟨upd_same, Same.upd hD⟩ ?_ ?_
    · rintro q Hb hq ⟨lD, sD⟩
      have hx := List.getElem?_eq_getElem (l := ao.map fun x => V.ref x.1) (i := q) (by omega)
      obtain ⟨ai, di, C, fs, ex, hc, e1, e2⟩ := getA E9 hx
      have G := CFs (14 + q) C (getO hc)
      rw [ex] at hx
      refine ⟨rfl, ?_⟩
      refine ⟨_, rfl, _, rfl, po, _, _, V.ref ai, rfl, rfl, SqL.of (sD _ _ l9), by rw [Int.zero_add]; exact atI_nat hx, _, rfl, _, _, rfl, rfl, ai, C, di, _, 14 + q, by rw [Int.zero_add]; rfl, G.T, sD _ _ e1, sD _ _ e2, G.one, fun Hc sc => ?_⟩
      exact ⟨_, rfl, sc _ _ lD, Same.trans sD sc⟩
    rintro H20 ⟨lD, sD⟩
    refine ⟨by show 0 ≤ sizeLine; decide, fun t nt => ?_⟩
    have s12 := Same.upd (o := HO.lst []) nt
    have lt : upd H20 t (HO.lst []) t = some (.lst []) := upd_same
    generalize upd H20 t (HO.lst []) = H21 at s12 lt ⊢
    refine ⟨_, _, .lst (SqL.of (s12 _ _ lD)) (dpB []), .lst (SqL.of lt) (dpB []), shapedB [], shapedB [], _, rfl, ?_⟩
    rw [eqvB]
    refine iteF ?_
    exact ⟨_, _, _, _, _, _, rfl, Same.trans S7 (Same.trans sD s12)⟩
  · rintro σ H7 ⟨w3, w4, w5, w6, w7, w8, rfl, S7⟩
    exact ⟨_, _, _, _, _, _, _, _, rfl, Same.trans S S7⟩
end
end K85
set_option Elab.async false
set_option linter.all false
set_option maxRecDepth 100000
set_option maxHeartbeats 4000000
namespace K85
open PySem L2 EX PyProof.Rows
/-- the facts of a class, reckoned over the written part -/
def ecB (K : PySem.W.Frag) (C : Addr) : Bool :=
  PySem.W.excInitIn K C exT "Exception.__new__" && (PySem.W.excOver K C exT && (decide (PySem.W.findIn K (.ref C) "__setattr__" = some (some (.builtin "object.__setattr__"))) &&
  (decide (PySem.W.findIn K (.ref C) "__getattribute__" = some (some (.builtin "BaseException.__getattribute__"))) && (decide (PySem.W.findIn K (.ref C) "__getattr__" = some none) && (decide (PySem.W.subIn K (.ref C) (.type "BaseException") = some true) &&
  (PySem.W.hasDictIn K C && (PySem.W.keepIn K (.ref C) && ((PySem.W.clsIn K C).isSome && (decide (PySem.W.findIn K (.ref C) "__class__" = some (some (.builtin "object.__class__"))) && (decide (PySem.W.mroIn K C (.type "object") = some true) &&
  (decide (PySem.W.specialIn K (.builtin "object.__class__") "__get__" = some (some (.builtin "getset_descriptor.__get__"))) && decide (PySem.W.takesIn K (.builtin "object.__class__") = some true))))))))))))
theorem ecB_ok {K : PySem.W.Frag} {C : Addr} (h : ecB K C = true) : EcC K C := by
  simp only [ecB, Bool.and_eq_true, decide_eq_true_eq] at h
  obtain ⟨h1, h2, h3, h4, h5, h6, h7, h8, h9, h10, h11, h12, h13⟩ := h
  exact ⟨h1, h2, h3, h4, h5, h6, h7, h8, h9, h10, h11, h12, h13⟩
def onesB (K : PySem.W.Frag) (C : Addr) : List Addr → List Bool → Bool
  | [], [] => true
  | c :: cs, b :: bs => decide (PySem.W.kitOne K (.ref C) (.ref c) = some b) && onesB K C cs bs
  | _, _ => false
theorem onesB_ok {K : PySem.W.Frag} {C : Addr} : ∀ {cs : List Addr} {bs : List Bool}, onesB K C cs bs = true → Paired (fun (c : Addr) (b : Bool) => PySem.W.kitOne K (.ref C) (.ref c) = some b) cs bs
  | [], [], _ => .nil
  | c :: cs, b :: bs, h => by
    simp only [onesB, Bool.and_eq_true, decide_eq_true_eq] at h
    exact .cons h.1 (onesB_ok h.2)
  | [], _ :: _, h => by cases h
  | _ :: _, [], h => by cases h

def fldOf (i : Nat) : Str := match i with
  | 14 => "line"
  | 15 => "net"
  | 16 => "net"
  | 17 => "net"
  | 18 => "user"
  | 19 => "question"
  | 20 => "question"
  | 21 => "word"
  | 22 => "node"
  | _ => "given"
def cfB (K : PySem.W.Frag) (cs : List Addr) (C : Addr) (i : Nat) (f : Str) : Bool :=
  ecB K C && (onesB K C cs (((List.range 23).map fun j => decide (j = i)) ++ [true]) && (decide (PySem.W.findIn K (.ref C) f = some none) && decide (PySem.W.takerIn K C f = some none)))
theorem cfB_ok {K : PySem.W.Frag} {cs : List Addr} {C : Addr} {i : Nat} {f : Str} (h : cfB K cs C i f = true) : EcC K C ∧ Paired (fun (c : Addr) (b : Bool) => PySem.W.kitOne K (.ref C) (.ref c) = some b) cs (((List.range 23).map fun j => decide (j = i)) ++ [true]) ∧ PySem.W.findIn K (.ref C) f = some none ∧ PySem.W.takerIn K C f = some none := by
  simp only [cfB, Bool.and_eq_true, decide_eq_true_eq] at h
  exact ⟨ecB_ok h.1, onesB_ok h.2.1, h.2.2.1, h.2.2.2⟩
/-- a def that stands in the written part -/
structure FnAt (K : PySem.W.Frag) (x qual : Str) (st : Stmt) (f : Addr) : Prop where
  ex : ∃ fd, Fun K x qual st f fd
theorem fnAt {K : PySem.W.Frag} {x qual : Str} {st : Stmt} {f : Addr} {oc : Value} {od an : Option Addr} {osl : Array (Option Value)} {kV doc pm cdv ct : Value} (l : K.lookup f = some ⟨oc, od, .func (PySem.W.fnOf x qual (defArgs st) (defBody st) (defScope st) .none kV doc pm an cdv ct), osl⟩)
    (c : PySem.W.codeIn K cdv qual = true) (k : PySem.W.keepIn K (.ref f) = true) : FnAt K x qual st f := ⟨_, fun_mk (st := st) l c k⟩

theorem all_mk {l : PySem.W.OpenLaw} {w : World} {K : PySem.W.Frag} {h : Heap} {mg : Str → Option Value} {fa : Addr} {c0 c1 c2 c3 c4 c5 c6 c7 c8 c9 c10 c11 c12 c13 c14 c15 c16 c17 c18 c19 c20 c21 c22 f0 f1 f2 f3 f4 f5 f6 f7 f8 f9 f10 f11 f12 f13 f14 f15 f16 f17 f18 f19 f20 f21 f22 cb fL fSource fDraw fGiven fKinds fOthers fFields fAlone : Addr} (KX : K.In h) (G : h.Ns mainGlobals mg) (hfa : mg "law" = some (.ref fa))
    (a0 : PySem.W.nsIn K mainGlobals "InvalidCommand" = some (some (.ref c0)))
    (i0 : PySem.W.findIn K (.ref c0) "__init__" = some (some (.ref f0)))
    (t0 : PySem.W.typeIn K (.ref f0) = some (.type "function"))
    (F0 : FnAt K "__init__" "InvalidCommand.__init__" sI0 f0)
    (a1 : PySem.W.nsIn K mainGlobals "InvalidCondition" = some (some (.ref c1)))
    (i1 : PySem.W.findIn K (.ref c1) "__init__" = some (some (.ref f1)))
    (t1 : PySem.W.typeIn K (.ref f1) = some (.type "function"))
    (F1 : FnAt K "__init__" "InvalidCondition.__init__" sI1 f1)
    (a2 : PySem.W.nsIn K mainGlobals "InvalidCut" = some (some (.ref c2)))
    (i2 : PySem.W.findIn K (.ref c2) "__init__" = some (some (.ref f2)))
    (t2 : PySem.W.typeIn K (.ref f2) = some (.type "function"))
    (F2 : FnAt K "__init__" "InvalidCut.__init__" sI2 f2)
    (a3 : PySem.W.nsIn K mainGlobals "InvalidLog" = some (some (.ref c3)))
    (i3 : PySem.W.findIn K (.ref c3) "__init__" = some (some (.ref f3)))
    (t3 : PySem.W.typeIn K (.ref f3) = some (.type "function"))
    (F3 : FnAt K "__init__" "InvalidLog.__init__" sI3 f3)
    (a4 : PySem.W.nsIn K mainGlobals "InvalidMoment" = some (some (.ref c4)))
    (i4 : PySem.W.findIn K (.ref c4) "__init__" = some (some (.ref f4)))
    (t4 : PySem.W.typeIn K (.ref f4) = some (.type "function"))
    (F4 : FnAt K "__init__" "InvalidMoment.__init__" sI4 f4)
    (a5 : PySem.W.nsIn K mainGlobals "InvalidMost" = some (some (.ref c5)))
    (i5 : PySem.W.findIn K (.ref c5) "__init__" = some (some (.ref f5)))
    (t5 : PySem.W.typeIn K (.ref f5) = some (.type "function"))
    (F5 : FnAt K "__init__" "InvalidMost.__init__" sI5 f5)
    (a6 : PySem.W.nsIn K mainGlobals "InvalidOperand" = some (some (.ref c6)))
    (i6 : PySem.W.findIn K (.ref c6) "__init__" = some (some (.ref f6)))
    (t6 : PySem.W.typeIn K (.ref f6) = some (.type "function"))
    (F6 : FnAt K "__init__" "InvalidOperand.__init__" sI6 f6)
    (a7 : PySem.W.nsIn K mainGlobals "InvalidOrder" = some (some (.ref c7)))
    (i7 : PySem.W.findIn K (.ref c7) "__init__" = some (some (.ref f7)))
    (t7 : PySem.W.typeIn K (.ref f7) = some (.type "function"))
    (F7 : FnAt K "__init__" "InvalidOrder.__init__" sI7 f7)
    (a8 : PySem.W.nsIn K mainGlobals "InvalidSequence" = some (some (.ref c8)))
    (i8 : PySem.W.findIn K (.ref c8) "__init__" = some (some (.ref f8)))
    (t8 : PySem.W.typeIn K (.ref f8) = some (.type "function"))
    (F8 : FnAt K "__init__" "InvalidSequence.__init__" sI8 f8)
    (a9 : PySem.W.nsIn K mainGlobals "InvalidTarget" = some (some (.ref c9)))
    (i9 : PySem.W.findIn K (.ref c9) "__init__" = some (some (.ref f9)))
    (t9 : PySem.W.typeIn K (.ref f9) = some (.type "function"))
    (F9 : FnAt K "__init__" "InvalidTarget.__init__" sI9 f9)
    (a10 : PySem.W.nsIn K mainGlobals "InvalidText" = some (some (.ref c10)))
    (i10 : PySem.W.findIn K (.ref c10) "__init__" = some (some (.ref f10)))
    (t10 : PySem.W.typeIn K (.ref f10) = some (.type "function"))
    (F10 : FnAt K "__init__" "InvalidText.__init__" sI10 f10)
    (a11 : PySem.W.nsIn K mainGlobals "InvalidToken" = some (some (.ref c11)))
    (i11 : PySem.W.findIn K (.ref c11) "__init__" = some (some (.ref f11)))
    (t11 : PySem.W.typeIn K (.ref f11) = some (.type "function"))
    (F11 : FnAt K "__init__" "InvalidToken.__init__" sI11 f11)
    (a12 : PySem.W.nsIn K mainGlobals "InvalidTree" = some (some (.ref c12)))
    (i12 : PySem.W.findIn K (.ref c12) "__init__" = some (some (.ref f12)))
    (t12 : PySem.W.typeIn K (.ref f12) = some (.type "function"))
    (F12 : FnAt K "__init__" "InvalidTree.__init__" sI12 f12)
    (a13 : PySem.W.nsIn K mainGlobals "InvalidUser" = some (some (.ref c13)))
    (i13 : PySem.W.findIn K (.ref c13) "__init__" = some (some (.ref f13)))
    (t13 : PySem.W.typeIn K (.ref f13) = some (.type "function"))
    (F13 : FnAt K "__init__" "InvalidUser.__init__" sI13 f13)
    (a14 : PySem.W.nsIn K mainGlobals "InvalidScript" = some (some (.ref c14)))
    (i14 : PySem.W.findIn K (.ref c14) "__init__" = some (some (.ref f14)))
    (t14 : PySem.W.typeIn K (.ref f14) = some (.type "function"))
    (F14 : FnAt K "__init__" "InvalidScript.__init__" sI14 f14)
    (a15 : PySem.W.nsIn K mainGlobals "NetTaken" = some (some (.ref c15)))
    (i15 : PySem.W.findIn K (.ref c15) "__init__" = some (some (.ref f15)))
    (t15 : PySem.W.typeIn K (.ref f15) = some (.type "function"))
    (F15 : FnAt K "__init__" "NetTaken.__init__" sI15 f15)
    (a16 : PySem.W.nsIn K mainGlobals "UnknownNet" = some (some (.ref c16)))
    (i16 : PySem.W.findIn K (.ref c16) "__init__" = some (some (.ref f16)))
    (t16 : PySem.W.typeIn K (.ref f16) = some (.type "function"))
    (F16 : FnAt K "__init__" "UnknownNet.__init__" sI16 f16)
    (a17 : PySem.W.nsIn K mainGlobals "NothingToUndo" = some (some (.ref c17)))
    (i17 : PySem.W.findIn K (.ref c17) "__init__" = some (some (.ref f17)))
    (t17 : PySem.W.typeIn K (.ref f17) = some (.type "function"))
    (F17 : FnAt K "__init__" "NothingToUndo.__init__" sI17 f17)
    (a18 : PySem.W.nsIn K mainGlobals "NotYours" = some (some (.ref c18)))
    (i18 : PySem.W.findIn K (.ref c18) "__init__" = some (some (.ref f18)))
    (t18 : PySem.W.typeIn K (.ref f18) = some (.type "function"))
    (F18 : FnAt K "__init__" "NotYours.__init__" sI18 f18)
    (a19 : PySem.W.nsIn K mainGlobals "NoAnswer" = some (some (.ref c19)))
    (i19 : PySem.W.findIn K (.ref c19) "__init__" = some (some (.ref f19)))
    (t19 : PySem.W.typeIn K (.ref f19) = some (.type "function"))
    (F19 : FnAt K "__init__" "NoAnswer.__init__" sI19 f19)
    (a20 : PySem.W.nsIn K mainGlobals "Overtaken" = some (some (.ref c20)))
    (i20 : PySem.W.findIn K (.ref c20) "__init__" = some (some (.ref f20)))
    (t20 : PySem.W.typeIn K (.ref f20) = some (.type "function"))
    (F20 : FnAt K "__init__" "Overtaken.__init__" sI20 f20)
    (a21 : PySem.W.nsIn K mainGlobals "NothingWaits" = some (some (.ref c21)))
    (i21 : PySem.W.findIn K (.ref c21) "__init__" = some (some (.ref f21)))
    (t21 : PySem.W.typeIn K (.ref f21) = some (.type "function"))
    (F21 : FnAt K "__init__" "NothingWaits.__init__" sI21 f21)
    (a22 : PySem.W.nsIn K mainGlobals "Unsettled" = some (some (.ref c22)))
    (i22 : PySem.W.findIn K (.ref c22) "__init__" = some (some (.ref f22)))
    (t22 : PySem.W.typeIn K (.ref f22) = some (.type "function"))
    (F22 : FnAt K "__init__" "Unsettled.__init__" sI22 f22)
    (aCB : PySem.W.nsIn K mainGlobals "CacheError" = some (some (.ref cb)))
    (aL : PySem.W.nsIn K mainGlobals "law" = some (some (.ref fL)))
    (FL : FnAt K "law" "law" sLaw fL)
    (aSource : PySem.W.nsIn K mainGlobals "_law_source" = some (some (.ref fSource)))
    (FSource : FnAt K "_law_source" "_law_source" sSource fSource)
    (aDraw : PySem.W.nsIn K mainGlobals "_law_draw" = some (some (.ref fDraw)))
    (FDraw : FnAt K "_law_draw" "_law_draw" sDraw fDraw)
    (aGiven : PySem.W.nsIn K mainGlobals "_law_given" = some (some (.ref fGiven)))
    (FGiven : FnAt K "_law_given" "_law_given" sGiven fGiven)
    (aKinds : PySem.W.nsIn K mainGlobals "_law_kinds" = some (some (.ref fKinds)))
    (FKinds : FnAt K "_law_kinds" "_law_kinds" sKinds fKinds)
    (aOthers : PySem.W.nsIn K mainGlobals "_law_others" = some (some (.ref fOthers)))
    (FOthers : FnAt K "_law_others" "_law_others" sOthers fOthers)
    (aFields : PySem.W.nsIn K mainGlobals "_law_fields" = some (some (.ref fFields)))
    (FFields : FnAt K "_law_fields" "_law_fields" sFields fFields)
    (aAlone : PySem.W.nsIn K mainGlobals "_law_alone" = some (some (.ref fAlone)))
    (FAlone : FnAt K "_law_alone" "_law_alone" sAlone fAlone)
    (z_range : PySem.W.nsIn K mainGlobals "range" = some none)
    (z_max : PySem.W.nsIn K mainGlobals "max" = some none)
    (z_min : PySem.W.nsIn K mainGlobals "min" = some none)
    (z_len : PySem.W.nsIn K mainGlobals "len" = some none)
    (z_repr : PySem.W.nsIn K mainGlobals "repr" = some none)
    (z_isinstance : PySem.W.nsIn K mainGlobals "isinstance" = some none)
    (tbl : (cfB K (clb c0 c1 c2 c3 c4 c5 c6 c7 c8 c9 c10 c11 c12 c13 c14 c15 c16 c17 c18 c19 c20 c21 c22 cb) c0 0 "given" && cfB K (clb c0 c1 c2 c3 c4 c5 c6 c7 c8 c9 c10 c11 c12 c13 c14 c15 c16 c17 c18 c19 c20 c21 c22 cb) c1 1 "given" && cfB K (clb c0 c1 c2 c3 c4 c5 c6 c7 c8 c9 c10 c11 c12 c13 c14 c15 c16 c17 c18 c19 c20 c21 c22 cb) c2 2 "given" && cfB K (clb c0 c1 c2 c3 c4 c5 c6 c7 c8 c9 c10 c11 c12 c13 c14 c15 c16 c17 c18 c19 c20 c21 c22 cb) c3 3 "given" && cfB K (clb c0 c1 c2 c3 c4 c5 c6 c7 c8 c9 c10 c11 c12 c13 c14 c15 c16 c17 c18 c19 c20 c21 c22 cb) c4 4 "given" && cfB K (clb c0 c1 c2 c3 c4 c5 c6 c7 c8 c9 c10 c11 c12 c13 c14 c15 c16 c17 c18 c19 c20 c21 c22 cb) c5 5 "given" && cfB K (clb c0 c1 c2 c3 c4 c5 c6 c7 c8 c9 c10 c11 c12 c13 c14 c15 c16 c17 c18 c19 c20 c21 c22 cb) c6 6 "given" && cfB K (clb c0 c1 c2 c3 c4 c5 c6 c7 c8 c9 c10 c11 c12 c13 c14 c15 c16 c17 c18 c19 c20 c21 c22 cb) c7 7 "given" && cfB K (clb c0 c1 c2 c3 c4 c5 c6 c7 c8 c9 c10 c11 c12 c13 c14 c15 c16 c17 c18 c19 c20 c21 c22 cb) c8 8 "given" && cfB K (clb c0 c1 c2 c3 c4 c5 c6 c7 c8 c9 c10 c11 c12 c13 c14 c15 c16 c17 c18 c19 c20 c21 c22 cb) c9 9 "given" && cfB K (clb c0 c1 c2 c3 c4 c5 c6 c7 c8 c9 c10 c11 c12 c13 c14 c15 c16 c17 c18 c19 c20 c21 c22 cb) c10 10 "given" && cfB K (clb c0 c1 c2 c3 c4 c5 c6 c7 c8 c9 c10 c11 c12 c13 c14 c15 c16 c17 c18 c19 c20 c21 c22 cb) c11 11 "given" && cfB K (clb c0 c1 c2 c3 c4 c5 c6 c7 c8 c9 c10 c11 c12 c13 c14 c15 c16 c17 c18 c19 c20 c21 c22 cb) c12 12 "given" && cfB K (clb c0 c1 c2 c3 c4 c5 c6 c7 c8 c9 c10 c11 c12 c13 c14 c15 c16 c17 c18 c19 c20 c21 c22 cb) c13 13 "given" && cfB K (clb c0 c1 c2 c3 c4 c5 c6 c7 c8 c9 c10 c11 c12 c13 c14 c15 c16 c17 c18 c19 c20 c21 c22 cb) c14 14 "line" && cfB K (clb c0 c1 c2 c3 c4 c5 c6 c7 c8 c9 c10 c11 c12 c13 c14 c15 c16 c17 c18 c19 c20 c21 c22 cb) c15 15 "net" && cfB K (clb c0 c1 c2 c3 c4 c5 c6 c7 c8 c9 c10 c11 c12 c13 c14 c15 c16 c17 c18 c19 c20 c21 c22 cb) c16 16 "net" && cfB K (clb c0 c1 c2 c3 c4 c5 c6 c7 c8 c9 c10 c11 c12 c13 c14 c15 c16 c17 c18 c19 c20 c21 c22 cb) c17 17 "net" && cfB K (clb c0 c1 c2 c3 c4 c5 c6 c7 c8 c9 c10 c11 c12 c13 c14 c15 c16 c17 c18 c19 c20 c21 c22 cb) c18 18 "user" && cfB K (clb c0 c1 c2 c3 c4 c5 c6 c7 c8 c9 c10 c11 c12 c13 c14 c15 c16 c17 c18 c19 c20 c21 c22 cb) c19 19 "question" && cfB K (clb c0 c1 c2 c3 c4 c5 c6 c7 c8 c9 c10 c11 c12 c13 c14 c15 c16 c17 c18 c19 c20 c21 c22 cb) c20 20 "question" && cfB K (clb c0 c1 c2 c3 c4 c5 c6 c7 c8 c9 c10 c11 c12 c13 c14 c15 c16 c17 c18 c19 c20 c21 c22 cb) c21 21 "word" && cfB K (clb c0 c1 c2 c3 c4 c5 c6 c7 c8 c9 c10 c11 c12 c13 c14 c15 c16 c17 c18 c19 c20 c21 c22 cb) c22 22 "node") = true)
    : ∀ base : Heap, K.In base → base.Ns mainGlobals mg → ∀ (s : Shared) (H : Hp) (a : Addr) (ns : List Int), ns.length ≤ 63 → SqL K H a (ns.map V.int) → Env0 l.prog w K mg base callerA [] s H →
      codeAny (model l.prog w) callerA (.call (.ref fa) ⟨[.ref a], []⟩) (CR CX0 [] l.prog w H s (fun v _ => v = .bl true) E0) s := by
  intro base KB GB s H a ns hns hS e0
  have e := hfa.symm.trans (PySem.W.mg_of KX G aL)
  cases e
  simp only [Bool.and_eq_true] at tbl
  obtain ⟨⟨⟨⟨⟨⟨⟨⟨⟨⟨⟨⟨⟨⟨⟨⟨⟨⟨⟨⟨⟨⟨k0, k1⟩, k2⟩, k3⟩, k4⟩, k5⟩, k6⟩, k7⟩, k8⟩, k9⟩, k10⟩, k11⟩, k12⟩, k13⟩, k14⟩, k15⟩, k16⟩, k17⟩, k18⟩, k19⟩, k20⟩, k21⟩, k22⟩ := tbl
  have CFs : ∀ i C, (cl c0 c1 c2 c3 c4 c5 c6 c7 c8 c9 c10 c11 c12 c13 c14 c15 c16 c17 c18 c19 c20 c21 c22)[i]? = some C → CF K (clb c0 c1 c2 c3 c4 c5 c6 c7 c8 c9 c10 c11 c12 c13 c14 c15 c16 c17 c18 c19 c20 c21 c22 cb) C i := by
    intro i C hC
    have hi : i < 23 := (List.getElem?_eq_some_iff.mp hC).1
    obtain rfl | rfl | rfl | rfl | rfl | rfl | rfl | rfl | rfl | rfl | rfl | rfl | rfl | rfl | rfl | rfl | rfl | rfl | rfl | rfl | rfl | rfl | rfl : i = 0 ∨ i = 1 ∨ i = 2 ∨ i = 3 ∨ i = 4 ∨ i = 5 ∨ i = 6 ∨ i = 7 ∨ i = 8 ∨ i = 9 ∨ i = 10 ∨ i = 11 ∨ i = 12 ∨ i = 13 ∨ i = 14 ∨ i = 15 ∨ i = 16 ∨ i = 17 ∨ i = 18 ∨ i = 19 ∨ i = 20 ∨ i = 21 ∨ i = 22 := by omega
    · obtain rfl := Option.some.inj (show some c0 = some C from hC); exact ⟨(cfB_ok k0).1, (cfB_ok k0).2.1, (fun _ => (cfB_ok k0).2.2.1)⟩
    · obtain rfl := Option.some.inj (show some c1 = some C from hC); exact ⟨(cfB_ok k1).1, (cfB_ok k1).2.1, (fun _ => (cfB_ok k1).2.2.1)⟩
    · obtain rfl := Option.some.inj (show some c2 = some C from hC); exact ⟨(cfB_ok k2).1, (cfB_ok k2).2.1, (fun _ => (cfB_ok k2).2.2.1)⟩
    · obtain rfl := Option.some.inj (show some c3 = some C from hC); exact ⟨(cfB_ok k3).1, (cfB_ok k3).2.1, (fun _ => (cfB_ok k3).2.2.1)⟩
    · obtain rfl := Option.some.inj (show some c4 = some C from hC); exact ⟨(cfB_ok k4).1, (cfB_ok k4).2.1, (fun _ => (cfB_ok k4).2.2.1)⟩
    · obtain rfl := Option.some.inj (show some c5 = some C from hC); exact ⟨(cfB_ok k5).1, (cfB_ok k5).2.1, (fun _ => (cfB_ok k5).2.2.1)⟩
    · obtain rfl := Option.some.inj (show some c6 = some C from hC); exact ⟨(cfB_ok k6).1, (cfB_ok k6).2.1, (fun _ => (cfB_ok k6).2.2.1)⟩
    · obtain rfl := Option.some.inj (show some c7 = some C from hC); exact ⟨(cfB_ok k7).1, (cfB_ok k7).2.1, (fun _ => (cfB_ok k7).2.2.1)⟩
    · obtain rfl := Option.some.inj (show some c8 = some C from hC); exact ⟨(cfB_ok k8).1, (cfB_ok k8).2.1, (fun _ => (cfB_ok k8).2.2.1)⟩
    · obtain rfl := Option.some.inj (show some c9 = some C from hC); exact ⟨(cfB_ok k9).1, (cfB_ok k9).2.1, (fun _ => (cfB_ok k9).2.2.1)⟩
    · obtain rfl := Option.some.inj (show some c10 = some C from hC); exact ⟨(cfB_ok k10).1, (cfB_ok k10).2.1, (fun _ => (cfB_ok k10).2.2.1)⟩
    · obtain rfl := Option.some.inj (show some c11 = some C from hC); exact ⟨(cfB_ok k11).1, (cfB_ok k11).2.1, (fun _ => (cfB_ok k11).2.2.1)⟩
    · obtain rfl := Option.some.inj (show some c12 = some C from hC); exact ⟨(cfB_ok k12).1, (cfB_ok k12).2.1, (fun _ => (cfB_ok k12).2.2.1)⟩
    · obtain rfl := Option.some.inj (show some c13 = some C from hC); exact ⟨(cfB_ok k13).1, (cfB_ok k13).2.1, (fun _ => (cfB_ok k13).2.2.1)⟩
    · obtain rfl := Option.some.inj (show some c14 = some C from hC); exact ⟨(cfB_ok k14).1, (cfB_ok k14).2.1, (fun z => absurd z (by decide))⟩
    · obtain rfl := Option.some.inj (show some c15 = some C from hC); exact ⟨(cfB_ok k15).1, (cfB_ok k15).2.1, (fun z => absurd z (by decide))⟩
    · obtain rfl := Option.some.inj (show some c16 = some C from hC); exact ⟨(cfB_ok k16).1, (cfB_ok k16).2.1, (fun z => absurd z (by decide))⟩
    · obtain rfl := Option.some.inj (show some c17 = some C from hC); exact ⟨(cfB_ok k17).1, (cfB_ok k17).2.1, (fun z => absurd z (by decide))⟩
    · obtain rfl := Option.some.inj (show some c18 = some C from hC); exact ⟨(cfB_ok k18).1, (cfB_ok k18).2.1, (fun z => absurd z (by decide))⟩
    · obtain rfl := Option.some.inj (show some c19 = some C from hC); exact ⟨(cfB_ok k19).1, (cfB_ok k19).2.1, (fun z => absurd z (by decide))⟩
    · obtain rfl := Option.some.inj (show some c20 = some C from hC); exact ⟨(cfB_ok k20).1, (cfB_ok k20).2.1, (fun z => absurd z (by decide))⟩
    · obtain rfl := Option.some.inj (show some c21 = some C from hC); exact ⟨(cfB_ok k21).1, (cfB_ok k21).2.1, (fun z => absurd z (by decide))⟩
    · obtain rfl := Option.some.inj (show some c22 = some C from hC); exact ⟨(cfB_ok k22).1, (cfB_ok k22).2.1, (fun z => absurd z (by decide))⟩
  obtain ⟨d0, G0⟩ := F0.ex
  have b0 : ∀ (s : Shared) (u v : Value), BindsTo s d0 ⟨[u], [(("given" : Str), v)]⟩ ([("self" : Str), "given"].zip [u, v]) := by
    obtain ⟨oc, od, kV, doc, pm, an, cdv, ct, osl, rfl, _⟩ := G0.ex
    exact fun s u v => .of_eq rfl
  have X0 : XkAt l.prog w K mg base "InvalidCommand" "given" c0 := ⟨(cfB_ok k0).1, PySem.W.mg_of KX G a0, (cfB_ok k0).2.2.1, f0, d0, i0, t0, okI0 G0 (cfB_ok k0).1 (cfB_ok k0).2.2.2, G0.binds fun _ _ _ _ _ _ us hl => match us, hl with | [_, _], _ => rfl, b0⟩
  obtain ⟨d1, G1⟩ := F1.ex
  have b1 : ∀ (s : Shared) (u v : Value), BindsTo s d1 ⟨[u], [(("given" : Str), v)]⟩ ([("self" : Str), "given"].zip [u, v]) := by
    obtain ⟨oc, od, kV, doc, pm, an, cdv, ct, osl, rfl, _⟩ := G1.ex
    exact fun s u v => .of_eq rfl
  have X1 : XkAt l.prog w K mg base "InvalidCondition" "given" c1 := ⟨(cfB_ok k1).1, PySem.W.mg_of KX G a1, (cfB_ok k1).2.2.1, f1, d1, i1, t1, okI1 G1 (cfB_ok k1).1 (cfB_ok k1).2.2.2, G1.binds fun _ _ _ _ _ _ us hl => match us, hl with | [_, _], _ => rfl, b1⟩
  obtain ⟨d2, G2⟩ := F2.ex
  have b2 : ∀ (s : Shared) (u v : Value), BindsTo s d2 ⟨[u], [(("given" : Str), v)]⟩ ([("self" : Str), "given"].zip [u, v]) := by
    obtain ⟨oc, od, kV, doc, pm, an, cdv, ct, osl, rfl, _⟩ := G2.ex
    exact fun s u v => .of_eq rfl
  have X2 : XkAt l.prog w K mg base "InvalidCut" "given" c2 := ⟨(cfB_ok k2).1, PySem.W.mg_of KX G a2, (cfB_ok k2).2.2.1, f2, d2, i2, t2, okI2 G2 (cfB_ok k2).1 (cfB_ok k2).2.2.2, G2.binds fun _ _ _ _ _ _ us hl => match us, hl with | [_, _], _ => rfl, b2⟩
  obtain ⟨d3, G3⟩ := F3.ex
  have b3 : ∀ (s : Shared) (u v : Value), BindsTo s d3 ⟨[u], [(("given" : Str), v)]⟩ ([("self" : Str), "given"].zip [u, v]) := by
    obtain ⟨oc, od, kV, doc, pm, an, cdv, ct, osl, rfl, _⟩ := G3.ex
    exact fun s u v => .of_eq rfl
  have X3 : XkAt l.prog w K mg base "InvalidLog" "given" c3 := ⟨(cfB_ok k3).1, PySem.W.mg_of KX G a3, (cfB_ok k3).2.2.1, f3, d3, i3, t3, okI3 G3 (cfB_ok k3).1 (cfB_ok k3).2.2.2, G3.binds fun _ _ _ _ _ _ us hl => match us, hl with | [_, _], _ => rfl, b3⟩
  obtain ⟨d4, G4⟩ := F4.ex
  have b4 : ∀ (s : Shared) (u v : Value), BindsTo s d4 ⟨[u], [(("given" : Str), v)]⟩ ([("self" : Str), "given"].zip [u, v]) := by
    obtain ⟨oc, od, kV, doc, pm, an, cdv, ct, osl, rfl, _⟩ := G4.ex
    exact fun s u v => .of_eq rfl
  have X4 : XkAt l.prog w K mg base "InvalidMoment" "given" c4 := ⟨(cfB_ok k4).1, PySem.W.mg_of KX G a4, (cfB_ok k4).2.2.1, f4, d4, i4, t4, okI4 G4 (cfB_ok k4).1 (cfB_ok k4).2.2.2, G4.binds fun _ _ _ _ _ _ us hl => match us, hl with | [_, _], _ => rfl, b4⟩
  obtain ⟨d5, G5⟩ := F5.ex
  have b5 : ∀ (s : Shared) (u v : Value), BindsTo s d5 ⟨[u], [(("given" : Str), v)]⟩ ([("self" : Str), "given"].zip [u, v]) := by
    obtain ⟨oc, od, kV, doc, pm, an, cdv, ct, osl, rfl, _⟩ := G5.ex
    exact fun s u v => .of_eq rfl
  have X5 : XkAt l.prog w K mg base "InvalidMost" "given" c5 := ⟨(cfB_ok k5).1, PySem.W.mg_of KX G a5, (cfB_ok k5).2.2.1, f5, d5, i5, t5, okI5 G5 (cfB_ok k5).1 (cfB_ok k5).2.2.2, G5.binds fun _ _ _ _ _ _ us hl => match us, hl with | [_, _], _ => rfl, b5⟩
  obtain ⟨d6, G6⟩ := F6.ex
  have b6 : ∀ (s : Shared) (u v : Value), BindsTo s d6 ⟨[u], [(("given" : Str), v)]⟩ ([("self" : Str), "given"].zip [u, v]) := by
    obtain ⟨oc, od, kV, doc, pm, an, cdv, ct, osl, rfl, _⟩ := G6.ex
    exact fun s u v => .of_eq rfl
  have X6 : XkAt l.prog w K mg base "InvalidOperand" "given" c6 := ⟨(cfB_ok k6).1, PySem.W.mg_of KX G a6, (cfB_ok k6).2.2.1, f6, d6, i6, t6, okI6 G6 (cfB_ok k6).1 (cfB_ok k6).2.2.2, G6.binds fun _ _ _ _ _ _ us hl => match us, hl with | [_, _], _ => rfl, b6⟩
  obtain ⟨d7, G7⟩ := F7.ex
  have b7 : ∀ (s : Shared) (u v : Value), BindsTo s d7 ⟨[u], [(("given" : Str), v)]⟩ ([("self" : Str), "given"].zip [u, v]) := by
    obtain ⟨oc, od, kV, doc, pm, an, cdv, ct, osl, rfl, _⟩ := G7.ex
    exact fun s u v => .of_eq rfl
  have X7 : XkAt l.prog w K mg base "InvalidOrder" "given" c7 := ⟨(cfB_ok k7).1, PySem.W.mg_of KX G a7, (cfB_ok k7).2.2.1, f7, d7, i7, t7, okI7 G7 (cfB_ok k7).1 (cfB_ok k7).2.2.2, G7.binds fun _ _ _ _ _ _ us hl => match us, hl with | [_, _], _ => rfl, b7⟩
  obtain ⟨d8, G8⟩ := F8.ex
  have b8 : ∀ (s : Shared) (u v : Value), BindsTo s d8 ⟨[u], [(("given" : Str), v)]⟩ ([("self" : Str), "given"].zip [u, v]) := by
    obtain ⟨oc, od, kV, doc, pm, an, cdv, ct, osl, rfl, _⟩ := G8.ex
    exact fun s u v => .of_eq rfl
  have X8 : XkAt l.prog w K mg base "InvalidSequence" "given" c8 := ⟨(cfB_ok k8).1, PySem.W.mg_of KX G a8, (cfB_ok k8).2.2.1, f8, d8, i8, t8, okI8 G8 (cfB_ok k8).1 (cfB_ok k8).2.2.2, G8.binds fun _ _ _ _ _ _ us hl => match us, hl with | [_, _], _ => rfl, b8⟩
  obtain ⟨d9, G9⟩ := F9.ex
  have b9 : ∀ (s : Shared) (u v : Value), BindsTo s d9 ⟨[u], [(("given" : Str), v)]⟩ ([("self" : Str), "given"].zip [u, v]) := by
    obtain ⟨oc, od, kV, doc, pm, an, cdv, ct, osl, rfl, _⟩ := G9.ex
    exact fun s u v => .of_eq rfl
  have X9 : XkAt l.prog w K mg base "InvalidTarget" "given" c9 := ⟨(cfB_ok k9).1, PySem.W.mg_of KX G a9, (cfB_ok k9).2.2.1, f9, d9, i9, t9, okI9 G9 (cfB_ok k9).1 (cfB_ok k9).2.2.2, G9.binds fun _ _ _ _ _ _ us hl => match us, hl with | [_, _], _ => rfl, b9⟩
  obtain ⟨d10, G10⟩ := F10.ex
  have b10 : ∀ (s : Shared) (u v : Value), BindsTo s d10 ⟨[u], [(("given" : Str), v)]⟩ ([("self" : Str), "given"].zip [u, v]) := by
    obtain ⟨oc, od, kV, doc, pm, an, cdv, ct, osl, rfl, _⟩ := G10.ex
    exact fun s u v => .of_eq rfl
  have X10 : XkAt l.prog w K mg base "InvalidText" "given" c10 := ⟨(cfB_ok k10).1, PySem.W.mg_of KX G a10, (cfB_ok k10).2.2.1, f10, d10, i10, t10, okI10 G10 (cfB_ok k10).1 (cfB_ok k10).2.2.2, G10.binds fun _ _ _ _ _ _ us hl => match us, hl with | [_, _], _ => rfl, b10⟩
  obtain ⟨d11, G11⟩ := F11.ex
  have b11 : ∀ (s : Shared) (u v : Value), BindsTo s d11 ⟨[u], [(("given" : Str), v)]⟩ ([("self" : Str), "given"].zip [u, v]) := by
    obtain ⟨oc, od, kV, doc, pm, an, cdv, ct, osl, rfl, _⟩ := G11.ex
    exact fun s u v => .of_eq rfl
  have X11 : XkAt l.prog w K mg base "InvalidToken" "given" c11 := ⟨(cfB_ok k11).1, PySem.W.mg_of KX G a11, (cfB_ok k11).2.2.1, f11, d11, i11, t11, okI11 G11 (cfB_ok k11).1 (cfB_ok k11).2.2.2, G11.binds fun _ _ _ _ _ _ us hl => match us, hl with | [_, _], _ => rfl, b11⟩
  obtain ⟨d12, G12⟩ := F12.ex
  have b12 : ∀ (s : Shared) (u v : Value), BindsTo s d12 ⟨[u], [(("given" : Str), v)]⟩ ([("self" : Str), "given"].zip [u, v]) := by
    obtain ⟨oc, od, kV, doc, pm, an, cdv, ct, osl, rfl, _⟩ := G12.ex
    exact fun s u v => .of_eq rfl
  have X12 : XkAt l.prog w K mg base "InvalidTree" "given" c12 := ⟨(cfB_ok k12).1, PySem.W.mg_of KX G a12, (cfB_ok k12).2.2.1, f12, d12, i12, t12, okI12 G12 (cfB_ok k12).1 (cfB_ok k12).2.2.2, G12.binds fun _ _ _ _ _ _ us hl => match us, hl with | [_, _], _ => rfl, b12⟩
  obtain ⟨d13, G13⟩ := F13.ex
  have b13 : ∀ (s : Shared) (u v : Value), BindsTo s d13 ⟨[u], [(("given" : Str), v)]⟩ ([("self" : Str), "given"].zip [u, v]) := by
    obtain ⟨oc, od, kV, doc, pm, an, cdv, ct, osl, rfl, _⟩ := G13.ex
    exact fun s u v => .of_eq rfl
  have X13 : XkAt l.prog w K mg base "InvalidUser" "given" c13 := ⟨(cfB_ok k13).1, PySem.W.mg_of KX G a13, (cfB_ok k13).2.2.1, f13, d13, i13, t13, okI13 G13 (cfB_ok k13).1 (cfB_ok k13).2.2.2, G13.binds fun _ _ _ _ _ _ us hl => match us, hl with | [_, _], _ => rfl, b13⟩
  obtain ⟨d14, G14⟩ := F14.ex
  have b14 : ∀ (s : Shared) (u v : Value), BindsTo s d14 ⟨[u], [(("line" : Str), v)]⟩ ([("self" : Str), "line"].zip [u, v]) := by
    obtain ⟨oc, od, kV, doc, pm, an, cdv, ct, osl, rfl, _⟩ := G14.ex
    exact fun s u v => .of_eq rfl
  have X14 : XkAt l.prog w K mg base "InvalidScript" "line" c14 := ⟨(cfB_ok k14).1, PySem.W.mg_of KX G a14, (cfB_ok k14).2.2.1, f14, d14, i14, t14, okI14 G14 (cfB_ok k14).1 (cfB_ok k14).2.2.2, G14.binds fun _ _ _ _ _ _ us hl => match us, hl with | [_, _], _ => rfl, b14⟩
  obtain ⟨d15, G15⟩ := F15.ex
  have b15 : ∀ (s : Shared) (u v : Value), BindsTo s d15 ⟨[u], [(("net" : Str), v)]⟩ ([("self" : Str), "net"].zip [u, v]) := by
    obtain ⟨oc, od, kV, doc, pm, an, cdv, ct, osl, rfl, _⟩ := G15.ex
    exact fun s u v => .of_eq rfl
  have X15 : XkAt l.prog w K mg base "NetTaken" "net" c15 := ⟨(cfB_ok k15).1, PySem.W.mg_of KX G a15, (cfB_ok k15).2.2.1, f15, d15, i15, t15, okI15 G15 (cfB_ok k15).1 (cfB_ok k15).2.2.2, G15.binds fun _ _ _ _ _ _ us hl => match us, hl with | [_, _], _ => rfl, b15⟩
  obtain ⟨d16, G16⟩ := F16.ex
  have b16 : ∀ (s : Shared) (u v : Value), BindsTo s d16 ⟨[u], [(("net" : Str), v)]⟩ ([("self" : Str), "net"].zip [u, v]) := by
    obtain ⟨oc, od, kV, doc, pm, an, cdv, ct, osl, rfl, _⟩ := G16.ex
    exact fun s u v => .of_eq rfl
  have X16 : XkAt l.prog w K mg base "UnknownNet" "net" c16 := ⟨(cfB_ok k16).1, PySem.W.mg_of KX G a16, (cfB_ok k16).2.2.1, f16, d16, i16, t16, okI16 G16 (cfB_ok k16).1 (cfB_ok k16).2.2.2, G16.binds fun _ _ _ _ _ _ us hl => match us, hl with | [_, _], _ => rfl, b16⟩
  obtain ⟨d17, G17⟩ := F17.ex
  have b17 : ∀ (s : Shared) (u v : Value), BindsTo s d17 ⟨[u], [(("net" : Str), v)]⟩ ([("self" : Str), "net"].zip [u, v]) := by
    obtain ⟨oc, od, kV, doc, pm, an, cdv, ct, osl, rfl, _⟩ := G17.ex
    exact fun s u v => .of_eq rfl
  have X17 : XkAt l.prog w K mg base "NothingToUndo" "net" c17 := ⟨(cfB_ok k17).1, PySem.W.mg_of KX G a17, (cfB_ok k17).2.2.1, f17, d17, i17, t17, okI17 G17 (cfB_ok k17).1 (cfB_ok k17).2.2.2, G17.binds fun _ _ _ _ _ _ us hl => match us, hl with | [_, _], _ => rfl, b17⟩
  obtain ⟨d18, G18⟩ := F18.ex
  have b18 : ∀ (s : Shared) (u v : Value), BindsTo s d18 ⟨[u], [(("user" : Str), v)]⟩ ([("self" : Str), "user"].zip [u, v]) := by
    obtain ⟨oc, od, kV, doc, pm, an, cdv, ct, osl, rfl, _⟩ := G18.ex
    exact fun s u v => .of_eq rfl
  have X18 : XkAt l.prog w K mg base "NotYours" "user" c18 := ⟨(cfB_ok k18).1, PySem.W.mg_of KX G a18, (cfB_ok k18).2.2.1, f18, d18, i18, t18, okI18 G18 (cfB_ok k18).1 (cfB_ok k18).2.2.2, G18.binds fun _ _ _ _ _ _ us hl => match us, hl with | [_, _], _ => rfl, b18⟩
  obtain ⟨d19, G19⟩ := F19.ex
  have b19 : ∀ (s : Shared) (u v : Value), BindsTo s d19 ⟨[u], [(("question" : Str), v)]⟩ ([("self" : Str), "question"].zip [u, v]) := by
    obtain ⟨oc, od, kV, doc, pm, an, cdv, ct, osl, rfl, _⟩ := G19.ex
    exact fun s u v => .of_eq rfl
  have X19 : XkAt l.prog w K mg base "NoAnswer" "question" c19 := ⟨(cfB_ok k19).1, PySem.W.mg_of KX G a19, (cfB_ok k19).2.2.1, f19, d19, i19, t19, okI19 G19 (cfB_ok k19).1 (cfB_ok k19).2.2.2, G19.binds fun _ _ _ _ _ _ us hl => match us, hl with | [_, _], _ => rfl, b19⟩
  obtain ⟨d20, G20⟩ := F20.ex
  have b20 : ∀ (s : Shared) (u v : Value), BindsTo s d20 ⟨[u], [(("question" : Str), v)]⟩ ([("self" : Str), "question"].zip [u, v]) := by
    obtain ⟨oc, od, kV, doc, pm, an, cdv, ct, osl, rfl, _⟩ := G20.ex
    exact fun s u v => .of_eq rfl
  have X20 : XkAt l.prog w K mg base "Overtaken" "question" c20 := ⟨(cfB_ok k20).1, PySem.W.mg_of KX G a20, (cfB_ok k20).2.2.1, f20, d20, i20, t20, okI20 G20 (cfB_ok k20).1 (cfB_ok k20).2.2.2, G20.binds fun _ _ _ _ _ _ us hl => match us, hl with | [_, _], _ => rfl, b20⟩
  obtain ⟨d21, G21⟩ := F21.ex
  have b21 : ∀ (s : Shared) (u v : Value), BindsTo s d21 ⟨[u], [(("word" : Str), v)]⟩ ([("self" : Str), "word"].zip [u, v]) := by
    obtain ⟨oc, od, kV, doc, pm, an, cdv, ct, osl, rfl, _⟩ := G21.ex
    exact fun s u v => .of_eq rfl
  have X21 : XkAt l.prog w K mg base "NothingWaits" "word" c21 := ⟨(cfB_ok k21).1, PySem.W.mg_of KX G a21, (cfB_ok k21).2.2.1, f21, d21, i21, t21, okI21 G21 (cfB_ok k21).1 (cfB_ok k21).2.2.2, G21.binds fun _ _ _ _ _ _ us hl => match us, hl with | [_, _], _ => rfl, b21⟩
  obtain ⟨d22, G22⟩ := F22.ex
  have b22 : ∀ (s : Shared) (u v : Value), BindsTo s d22 ⟨[u], [(("node" : Str), v)]⟩ ([("self" : Str), "node"].zip [u, v]) := by
    obtain ⟨oc, od, kV, doc, pm, an, cdv, ct, osl, rfl, _⟩ := G22.ex
    exact fun s u v => .of_eq rfl
  have X22 : XkAt l.prog w K mg base "Unsettled" "node" c22 := ⟨(cfB_ok k22).1, PySem.W.mg_of KX G a22, (cfB_ok k22).2.2.1, f22, d22, i22, t22, okI22 G22 (cfB_ok k22).1 (cfB_ok k22).2.2.2, G22.binds fun _ _ _ _ _ _ us hl => match us, hl with | [_, _], _ => rfl, b22⟩
  have X : Xs l.prog w K mg base c0 c1 c2 c3 c4 c5 c6 c7 c8 c9 c10 c11 c12 c13 c14 c15 c16 c17 c18 c19 c20 c21 c22 := ⟨X0, X1, X2, X3, X4, X5, X6, X7, X8, X9, X10, X11, X12, X13, X14, X15, X16, X17, X18, X19, X20, X21, X22⟩
  have B : Bn mg := ⟨PySem.W.mg_none_of KX G z_range, PySem.W.mg_none_of KX G z_max, PySem.W.mg_none_of KX G z_min, PySem.W.mg_none_of KX G z_len, PySem.W.mg_none_of KX G z_repr, PySem.W.mg_none_of KX G z_isinstance⟩
  obtain ⟨dL, GL⟩ := FL.ex
  obtain ⟨dSource, GSource⟩ := FSource.ex
  obtain ⟨dDraw, GDraw⟩ := FDraw.ex
  obtain ⟨dGiven, GGiven⟩ := FGiven.ex
  obtain ⟨dKinds, GKinds⟩ := FKinds.ex
  obtain ⟨dOthers, GOthers⟩ := FOthers.ex
  obtain ⟨dFields, GFields⟩ := FFields.ex
  obtain ⟨dAlone, GAlone⟩ := FAlone.ex
  have bS := GSource.binds (ps := ["_law_script", "_law_turn"]) fun _ _ _ _ _ _ us hl => match us, hl with | [_, _], _ => rfl
  have bD := GDraw.binds (ps := ["_law_source_here", "_law_amount"]) fun _ _ _ _ _ _ us hl => match us, hl with | [_, _], _ => rfl
  have bG := GGiven.binds (ps := ["_law_thing"]) fun _ _ _ _ _ _ us hl => match us, hl with | [_], _ => rfl
  have bK := GKinds.binds (ps := ["_law_e"]) fun _ _ _ _ _ _ us hl => match us, hl with | [_], _ => rfl
  have bO := GOthers.binds (ps := ["_law_thing"]) fun _ _ _ _ _ _ us hl => match us, hl with | [_], _ => rfl
  have bF := GFields.binds (ps := ["_law_found"]) fun _ _ _ _ _ _ us hl => match us, hl with | [_], _ => rfl
  have bA := GAlone.binds (ps := ["_law_e", "_law_at"]) fun _ _ _ _ _ _ us hl => match us, hl with | [_, _], _ => rfl
  have bL : ∀ (s : Shared) (u : Value), BindsTo s dL ⟨[u], []⟩ [("_law_script", u)] := by
    obtain ⟨oc, od, kV, doc, pm, an, cdv, ct, osl, rfl, _⟩ := GL.ex
    exact fun s u => .of_eq rfl
  have DK : DefAt l.prog w K mg base 1 "_law_kinds" ["_law_e"] (spKinds K (clb c0 c1 c2 c3 c4 c5 c6 c7 c8 c9 c10 c11 c12 c13 c14 c15 c16 c17 c18 c19 c20 c21 c22 cb)) := ⟨_, _, ok_kinds GKinds X B.isi (PySem.W.mg_of KX G aCB), PySem.W.mg_of KX G aKinds, GKinds.kp, bK⟩
  exact run_law GL B ⟨_, _, ok_source GSource ⟨B.len, B.max⟩, PySem.W.mg_of KX G aSource, GSource.kp, bS⟩ ⟨_, _, ok_draw GDraw, PySem.W.mg_of KX G aDraw, GDraw.kp, bD⟩
    ⟨_, _, ok_law_given GGiven X, PySem.W.mg_of KX G aGiven, GGiven.kp, bG⟩ ⟨_, _, ok_law_others GOthers X, PySem.W.mg_of KX G aOthers, GOthers.kp, bO⟩ ⟨_, _, ok_fields GFields X, PySem.W.mg_of KX G aFields, GFields.kp, bF⟩
    ⟨_, _, ok_alone GAlone DK B.range, PySem.W.mg_of KX G aAlone, GAlone.kp, bA⟩ bL e0 hS hns CFs
end K85
set_option Elab.async false
set_option linter.all false
set_option maxRecDepth 100000

open PySem PySem.W PyProof.Rows in
set_option maxRecDepth 100000 in
set_option maxHeartbeats 0 in
theorem PySem.Challenge.cw_slackcache_k85_classes_of_later_errors_holds : PySem.Challenge.rw_slackcache_k85_classes_of_later_errors.Holds := by
  w_on; o_law; k_head; (case hw => w_witness2)
  k_fill
  refine EX.walkG (l := PySem.Challenge.rw_slackcache_k85_classes_of_later_errors) (n := 63) rfl (by decide) rfl (fun w h Y => PySem.W.kIn_of Y) ?F
  case F =>
    intro w mg fa h KX G hmg
    refine' K85.all_mk KX G hmg ?h_a0 ?h_i0 ?h_t0 ?h_F0 ?h_a1 ?h_i1 ?h_t1 ?h_F1 ?h_a2 ?h_i2 ?h_t2 ?h_F2 ?h_a3 ?h_i3 ?h_t3 ?h_F3 ?h_a4 ?h_i4 ?h_t4 ?h_F4 ?h_a5 ?h_i5 ?h_t5 ?h_F5 ?h_a6 ?h_i6 ?h_t6 ?h_F6 ?h_a7 ?h_i7 ?h_t7 ?h_F7 ?h_a8 ?h_i8 ?h_t8 ?h_F8 ?h_a9 ?h_i9 ?h_t9 ?h_F9 ?h_a10 ?h_i10 ?h_t10 ?h_F10 ?h_a11 ?h_i11 ?h_t11 ?h_F11 ?h_a12 ?h_i12 ?h_t12 ?h_F12 ?h_a13 ?h_i13 ?h_t13 ?h_F13 ?h_a14 ?h_i14 ?h_t14 ?h_F14 ?h_a15 ?h_i15 ?h_t15 ?h_F15 ?h_a16 ?h_i16 ?h_t16 ?h_F16 ?h_a17 ?h_i17 ?h_t17 ?h_F17 ?h_a18 ?h_i18 ?h_t18 ?h_F18 ?h_a19 ?h_i19 ?h_t19 ?h_F19 ?h_a20 ?h_i20 ?h_t20 ?h_F20 ?h_a21 ?h_i21 ?h_t21 ?h_F21 ?h_a22 ?h_i22 ?h_t22 ?h_F22 ?h_aCB ?h_aL ?h_FL ?h_aSource ?h_FSource ?h_aDraw ?h_FDraw ?h_aGiven ?h_FGiven ?h_aKinds ?h_FKinds ?h_aOthers ?h_FOthers ?h_aFields ?h_FFields ?h_aAlone ?h_FAlone ?h_z_range ?h_z_max ?h_z_min ?h_z_len ?h_z_repr ?h_z_isinstance ?h_tbl
    (case h_a0 => k_is)
    (case h_i0 => k_is)
    (case h_t0 => k_is)
    (case h_F0 => refine' K85.fnAt ?l ?c ?k; (case l => k_is); (case c => k_is); (case k => k_is))
    (case h_a1 => k_is)
    (case h_i1 => k_is)
    (case h_t1 => k_is)
    (case h_F1 => refine' K85.fnAt ?l ?c ?k; (case l => k_is); (case c => k_is); (case k => k_is))
    (case h_a2 => k_is)
    (case h_i2 => k_is)
    (case h_t2 => k_is)
    (case h_F2 => refine' K85.fnAt ?l ?c ?k; (case l => k_is); (case c => k_is); (case k => k_is))
    (case h_a3 => k_is)
    (case h_i3 => k_is)
    (case h_t3 => k_is)
    (case h_F3 => refine' K85.fnAt ?l ?c ?k; (case l => k_is); (case c => k_is); (case k => k_is))
    (case h_a4 => k_is)
    (case h_i4 => k_is)
    (case h_t4 => k_is)
    (case h_F4 => refine' K85.fnAt ?l ?c ?k; (case l => k_is); (case c => k_is); (case k => k_is))
    (case h_a5 => k_is)
    (case h_i5 => k_is)
    (case h_t5 => k_is)
    (case h_F5 => refine' K85.fnAt ?l ?c ?k; (case l => k_is); (case c => k_is); (case k => k_is))
    (case h_a6 => k_is)
    (case h_i6 => k_is)
    (case h_t6 => k_is)
    (case h_F6 => refine' K85.fnAt ?l ?c ?k; (case l => k_is); (case c => k_is); (case k => k_is))
    (case h_a7 => k_is)
    (case h_i7 => k_is)
    (case h_t7 => k_is)
    (case h_F7 => refine' K85.fnAt ?l ?c ?k; (case l => k_is); (case c => k_is); (case k => k_is))
    (case h_a8 => k_is)
    (case h_i8 => k_is)
    (case h_t8 => k_is)
    (case h_F8 => refine' K85.fnAt ?l ?c ?k; (case l => k_is); (case c => k_is); (case k => k_is))
    (case h_a9 => k_is)
    (case h_i9 => k_is)
    (case h_t9 => k_is)
    (case h_F9 => refine' K85.fnAt ?l ?c ?k; (case l => k_is); (case c => k_is); (case k => k_is))
    (case h_a10 => k_is)
    (case h_i10 => k_is)
    (case h_t10 => k_is)
    (case h_F10 => refine' K85.fnAt ?l ?c ?k; (case l => k_is); (case c => k_is); (case k => k_is))
    (case h_a11 => k_is)
    (case h_i11 => k_is)
    (case h_t11 => k_is)
    (case h_F11 => refine' K85.fnAt ?l ?c ?k; (case l => k_is); (case c => k_is); (case k => k_is))
    (case h_a12 => k_is)
    (case h_i12 => k_is)
    (case h_t12 => k_is)
    (case h_F12 => refine' K85.fnAt ?l ?c ?k; (case l => k_is); (case c => k_is); (case k => k_is))
    (case h_a13 => k_is)
    (case h_i13 => k_is)
    (case h_t13 => k_is)
    (case h_F13 => refine' K85.fnAt ?l ?c ?k; (case l => k_is); (case c => k_is); (case k => k_is))
    (case h_a14 => k_is)
    (case h_i14 => k_is)
    (case h_t14 => k_is)
    (case h_F14 => refine' K85.fnAt ?l ?c ?k; (case l => k_is); (case c => k_is); (case k => k_is))
    (case h_a15 => k_is)
    (case h_i15 => k_is)
    (case h_t15 => k_is)
    (case h_F15 => refine' K85.fnAt ?l ?c ?k; (case l => k_is); (case c => k_is); (case k => k_is))
    (case h_a16 => k_is)
    (case h_i16 => k_is)
    (case h_t16 => k_is)
    (case h_F16 => refine' K85.fnAt ?l ?c ?k; (case l => k_is); (case c => k_is); (case k => k_is))
    (case h_a17 => k_is)
    (case h_i17 => k_is)
    (case h_t17 => k_is)
    (case h_F17 => refine' K85.fnAt ?l ?c ?k; (case l => k_is); (case c => k_is); (case k => k_is))
    (case h_a18 => k_is)
    (case h_i18 => k_is)
    (case h_t18 => k_is)
    (case h_F18 => refine' K85.fnAt ?l ?c ?k; (case l => k_is); (case c => k_is); (case k => k_is))
    (case h_a19 => k_is)
    (case h_i19 => k_is)
    (case h_t19 => k_is)
    (case h_F19 => refine' K85.fnAt ?l ?c ?k; (case l => k_is); (case c => k_is); (case k => k_is))
    (case h_a20 => k_is)
    (case h_i20 => k_is)
    (case h_t20 => k_is)
    (case h_F20 => refine' K85.fnAt ?l ?c ?k; (case l => k_is); (case c => k_is); (case k => k_is))
    (case h_a21 => k_is)
    (case h_i21 => k_is)
    (case h_t21 => k_is)
    (case h_F21 => refine' K85.fnAt ?l ?c ?k; (case l => k_is); (case c => k_is); (case k => k_is))
    (case h_a22 => k_is)
    (case h_i22 => k_is)
    (case h_t22 => k_is)
    (case h_F22 => refine' K85.fnAt ?l ?c ?k; (case l => k_is); (case c => k_is); (case k => k_is))
    (case h_aCB => k_is)
    (case h_aL => k_is)
    (case h_FL => refine' K85.fnAt ?l ?c ?k; (case l => k_is); (case c => k_is); (case k => k_is))
    (case h_aSource => k_is)
    (case h_FSource => refine' K85.fnAt ?l ?c ?k; (case l => k_is); (case c => k_is); (case k => k_is))
    (case h_aDraw => k_is)
    (case h_FDraw => refine' K85.fnAt ?l ?c ?k; (case l => k_is); (case c => k_is); (case k => k_is))
    (case h_aGiven => k_is)
    (case h_FGiven => refine' K85.fnAt ?l ?c ?k; (case l => k_is); (case c => k_is); (case k => k_is))
    (case h_aKinds => k_is)
    (case h_FKinds => refine' K85.fnAt ?l ?c ?k; (case l => k_is); (case c => k_is); (case k => k_is))
    (case h_aOthers => k_is)
    (case h_FOthers => refine' K85.fnAt ?l ?c ?k; (case l => k_is); (case c => k_is); (case k => k_is))
    (case h_aFields => k_is)
    (case h_FFields => refine' K85.fnAt ?l ?c ?k; (case l => k_is); (case c => k_is); (case k => k_is))
    (case h_aAlone => k_is)
    (case h_FAlone => refine' K85.fnAt ?l ?c ?k; (case l => k_is); (case c => k_is); (case k => k_is))
    (case h_z_range => k_is)
    (case h_z_max => k_is)
    (case h_z_min => k_is)
    (case h_z_len => k_is)
    (case h_z_repr => k_is)
    (case h_z_isinstance => k_is)
    (case h_tbl => kernel_rfl)

