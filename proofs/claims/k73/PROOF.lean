import PyProof.Rows.All
import Wide.All
import OpenK.AllK
import Wide.FinOn
import HandS.ForMost
import HandS.Wide
import HandS.Exc
import HandS.ExcInit
import HandS.IsInst
import KE.KExcInit
import KE.KExcIs
import KE.KIsAll
import PyProof.ReprRoads
import HandS.ExcField
import HandS.ExcIs
import HandS.TryMany
import HandS.ExcOwn
import PyProof.InstNe
import HandS.Flow
import HandS.SlotsOwn
import HandS.Strs
import HandS.SetFor
import HandS.SortInts
import HandS.Walk
import HandS.WordsDict
import HandS.DictComp
import KE.GoesMore
import KE.GoesEnum
import HandS.Zip
import HandS.TupAny
import HandS.WordsExc
import HandS.Style
import HandS.Lambda
import HandS.EndTab
import HandS.Conv
import KE.KDictItemsList
import PySem.Challenge.RW_slackcache_k73_pushes_checked_and_polici
set_option Elab.async false
set_option linter.all false
set_option maxRecDepth 100000
set_option maxHeartbeats 4000000
namespace EX
open PySem L2 PySem.Spec PyProof.Rows
abbrev exT : List Value := [.type "Exception", .type "BaseException", .type "object"]
/-- what the written part says of an own exception class below Exception -/
structure EcC (K : PySem.W.Frag) (C : Addr) : Prop where
  ini : PySem.W.excInitIn K C exT "Exception.__new__" = true
  ovr : PySem.W.excOver K C exT = true
  sa : PySem.W.findIn K (.ref C) "__setattr__" = some (some (.builtin "object.__setattr__"))
  ga : PySem.W.findIn K (.ref C) "__getattribute__" = some (some (.builtin "BaseException.__getattribute__"))
  gg : PySem.W.findIn K (.ref C) "__getattr__" = some none
  exC : PySem.W.subIn K (.ref C) (.type "BaseException") = some true
  hdC : PySem.W.hasDictIn K C = true
  kC : PySem.W.keepIn K (.ref C) = true
  cl : (PySem.W.clsIn K C).isSome = true
  cA : PySem.W.findIn K (.ref C) "__class__" = some (some (.builtin "object.__class__"))
  mo : PySem.W.mroIn K C (.type "object") = some true
  sp : PySem.W.specialIn K (.builtin "object.__class__") "__get__" = some (some (.builtin "getset_descriptor.__get__"))
  tk : PySem.W.takesIn K (.builtin "object.__class__") = some true
theorem upd_comm {H : Hp} {a b : Addr} {o u : HO} (h : a ≠ b) : upd (upd H a o) b u = upd (upd H b u) a o := by
  funext c
  by_cases hb : c = b
  · subst hb
    rw [upd_same, upd_ne (Ne.symm h), upd_same]
  · rw [upd_ne hb]
    by_cases ha : c = a
    · subst ha
      rw [upd_same, upd_same]
    · rw [upd_ne ha, upd_ne ha, upd_ne hb]
theorem upd_upd {H : Hp} {a : Addr} {o u : HO} : upd (upd H a o) a u = upd H a u := by
  funext c
  by_cases ha : c = a
  · subst ha
    rw [upd_same, upd_same]
  · rw [upd_ne ha, upd_ne ha, upd_ne ha]
section
variable {X : Cx} {pins : List (Addr × Obj)} {σ : L2.St} {H : Hp} {s : Shared} {a C dx : Addr} {f : Str} {y : V} {u : Value} {fs : List (Str × V)} {Q : Unit → Shared → Prop} {E : Value → Shared → Prop} {A : Around}
/-- the first field of a new exception -/
theorem est_new (T : EcC X.K C) (I : Inv X pins σ H s) (e : H a = some (exo a C none)) (htk : PySem.W.takerIn X.K C f = some none) (ry : RelV y u)
    (h : ∀ dx s', H dx = none → dx ≠ a → Inv X pins σ (upd (upd H dx (exd dx [(f, y)])) a (exo a C (some dx))) s' → Q () s') :
    wpAny (model X.prog X.w) A (setAttr (.ref a) f u) Q E s := by
  obtain ⟨t1, ho⟩ := exo_at I.hok e
  obtain ⟨cd, hc, hd'⟩ := PySem.W.any_some T.hdC
  obtain ⟨hp, g, d, t, os⟩ := s
  have hlt : a < hp.objs.size := Heap.lt_size ho
  refine PySem.W.set_plain I.kIn (od := none) ⟨ho, rfl, rfl, trivial⟩ T.sa ?_
  refine PySem.W.osa_openX (od := none) PySem.F.store_Exception I.kIn ⟨ho, rfl, rfl, trivial⟩ T.ovr htk fun b => ?_
  refine wpAny_bind (wpAny_pure (wpAny_bind (PySem.W.instanceDict_exc ho (PySem.W.looks_clsIn I.kIn hc) hd' ?_)))
  show wpAny _ _ (Builtin.ObjectAttr.storeInDict hp.objs.size (.str f _) f u) _ _ _
  have hn0 : H hp.objs.size = none := I.hok.fresh (Nat.le_refl _)
  have hne : hp.objs.size ≠ a := Nat.ne_of_gt hlt
  -- the new dict is laid
  have J1 := I.laid (t' := t) (a := hp.objs.size) (o := exd hp.objs.size []) (h' := hp.push (PySem.W.dictOf [] 0)) (fun b o q => Heap.get?_push_of_some _ q) (Nat.le_refl _)
    (exd_ok (mA := fun _ => none) (Heap.Ns1.of_empty ⟨_, #[], _, Heap.get?_push_at rfl rfl, rfl, fun x hx => absurd hx (by simp), fun _ => rfl⟩) fun _ => True.intro)
  have e1 : upd H hp.objs.size (exd hp.objs.size []) a = some (exo a C none) := by rw [upd_ne (Ne.symm hne)]; exact e
  have ho1 : (hp.push (PySem.W.dictOf [] 0)).get? a = some { cls := .ref C, dict := none, data := .fields #[.ref t1, .none, .none, .none, .bool false, .none] } := Heap.get?_push_of_some _ ho
  -- the object gets it
  have ho2 : ((hp.push (PySem.W.dictOf [] 0)).update a fun o => { o with dict := some hp.objs.size }).get? a = some { cls := .ref C, dict := some hp.objs.size, data := .fields #[.ref t1, .none, .none, .none, .bool false, .none] } :=
    Heap.get?_update_self _ ho1 rfl
  have J2 := J1.write (t' := t) (x := a) (e := a) (o := exo a C (some hp.objs.size)) (h' := (hp.push (PySem.W.dictOf [] 0)).update a fun o => { o with dict := some hp.objs.size })
    (by rw [e1]; exact True.intro) (.inl rfl) (fun b o hb q => (Heap.get?_update_ne _ _ _ _ hb).trans q) ⟨_, ho2⟩ (exo_ok ho2)
  have hD : ((hp.push (PySem.W.dictOf [] 0)).update a fun o => { o with dict := some hp.objs.size }).get? hp.objs.size = some (PySem.W.dictOf [] 0) :=
    (Heap.get?_update_ne _ _ _ _ hne).trans (Heap.get?_push_at rfl rfl)
  refine PySem.HandSPX.store_in_new ⟨_, #[], _, hD, rfl, fun x hx => absurd hx (by simp), fun _ => rfl⟩ fun h' tk' hn' hs => ?_
  have hd2 : ∃ o, h'.get? hp.objs.size = some o := by
    obtain ⟨o, _, _, q, _⟩ := hn'
    exact ⟨o, q⟩
  have e2 : upd (upd H hp.objs.size (exd hp.objs.size [])) a (exo a C (some hp.objs.size)) hp.objs.size = some (exd hp.objs.size []) := by rw [upd_ne hne, upd_same]
  have J3 := J2.write (t' := tk') (x := hp.objs.size) (e := hp.objs.size) (o := exd hp.objs.size [(f, y)]) (h' := h') (by rw [e2]; exact True.intro) (.inl rfl)
    (fun b o hb q => (hs.2 b hb).trans q) hd2 (exd_ok hn' (relO_put (fs := []) ry fun _ => True.intro))
  have eH : upd (upd (upd H hp.objs.size (exd hp.objs.size [])) a (exo a C (some hp.objs.size))) hp.objs.size (exd hp.objs.size [(f, y)]) =
      upd (upd H hp.objs.size (exd hp.objs.size [(f, y)])) a (exo a C (some hp.objs.size)) := by
    rw [upd_comm (Ne.symm hne), upd_upd]
  rw [eH] at J3
  exact h _ _ hn0 hne J3
/-- a further field of an exception -/
theorem est_old (T : EcC X.K C) (I : Inv X pins σ H s) (e : H a = some (exo a C (some dx))) (ed : H dx = some (exd dx fs)) (hl : fs.length ≤ 900) (htk : PySem.W.takerIn X.K C f = some none) (ry : RelV y u)
    (h : ∀ s', Inv X pins σ (upd H dx (exd dx ((f, y) :: fs))) s' → Q () s') : wpAny (model X.prog X.w) A (setAttr (.ref a) f u) Q E s := by
  obtain ⟨t1, ho⟩ := exo_at I.hok e
  obtain ⟨mA, hns, rel⟩ := exd_at I.hok ed
  have hw := within_of rel
  obtain ⟨cd, hc, hd'⟩ := PySem.W.any_some T.hdC
  obtain ⟨hp, g, d, t, os⟩ := s
  obtain ⟨oD, es, ep, hoD, hdD, hcD⟩ := hns.count hw
  refine PySem.W.set_plain I.kIn (od := some oD) ⟨ho, rfl, rfl, hoD⟩ T.sa ?_
  refine PySem.W.osa_openX (od := some oD) PySem.F.store_Exception I.kIn ⟨ho, rfl, rfl, hoD⟩ T.ovr htk fun b => ?_
  refine wpAny_bind (wpAny_pure (wpAny_bind (wpAny_bind (wpAny_loadPart ho (wpAny_bind ((PySem.W.looks_clsIn I.kIn hc).at ?_))))))
  rw [hd']
  refine wpAny_pure (a := some dx) ?_
  show wpAny _ _ (Builtin.ObjectAttr.storeInDict dx (.str f _) f u) _ _ _
  refine PySem.OEX.store_in_old hns hw (by rw [List.length_map]; omega) fun h' tk' hn' hs => ?_
  have hd2 : ∃ o, h'.get? dx = some o := by
    obtain ⟨o, _, _, q, _⟩ := hn'
    exact ⟨o, q⟩
  exact h _ (I.write (t' := tk') (x := dx) (e := dx) (o := exd dx ((f, y) :: fs)) (h' := h') (by rw [ed]; exact True.intro) (.inl rfl) (fun b o hb q => (hs.2 b hb).trans q) hd2 (exd_ok hn' (relO_put ry rel)))
end

/-! ### readings and rules -/
/-- self.f = e, self an exception -/
def tEst (K : PySem.W.Frag) (f : Str) (to te : TE) : TS := fun D σ H => te σ H fun y H1 => to σ H1 fun x H2 => ∃ a C : Addr, x = .ref a ∧ EcC K C ∧ PySem.W.takerIn K C f = some none ∧
  ((H2 a = some (exo a C none) ∧ ∀ dx, H2 dx = none → dx ≠ a → D.nx σ (upd (upd H2 dx (exd dx [(f, y)])) a (exo a C (some dx)))) ∨
    ∃ (dx : Addr) (fs : List (Str × V)), H2 a = some (exo a C (some dx)) ∧ H2 dx = some (exd dx fs) ∧ fs.length ≤ 900 ∧ D.nx σ (upd H2 dx (exd dx ((f, y) :: fs))))
/-- C(e, ..), an exception as a value -/
def tMkE (C : Addr) (sp : Sp) (dvs : List V) (ta : TA) : TE := fun σ H Q => ta σ H fun vs H1 => vs.length ≤ 1000 ∧ ∀ a, H1 a = none →
  sp (.ref a :: (vs ++ dvs)) (upd H1 a (exo a C none)) (fun v H2 => v = .non ∧ Q (.ref a) H2) (fun _ _ _ => False)
/-- e.f, e an exception -/
def tEf (K : PySem.W.Frag) (f : Str) (te : TE) : TE := fun σ H Q => te σ H fun x H1 => ∃ (a C dx : Addr) (fs : List (Str × V)) (v : V), x = .ref a ∧ EcC K C ∧ PySem.W.findIn K (.ref C) f = some none ∧
  H1 a = some (exo a C (some dx)) ∧ H1 dx = some (exd dx fs) ∧ fs.lookup f = some v ∧ Q v H1
section
variable {X : Cx} {o e : Expr} {es : List Expr} {to te : TE} {ta : TA} {f : Str} {p p' pos : Pos}
theorem ps_est (ho : PE X o to) (he : PE X e te) (hs : swapsWith e (some (.Attribute o f p')) pos.line X.env = pure false := by rfl) : PS X (.Assign [.Attribute o f p'] e pos) (tEst X.K f to te) := by
  refine ⟨fun pins s σ H D I h => plainObj_wpAny_Assign_Attribute (thn (he.run pins s σ H _ I h) ?_) hs⟩
  intro v s1 ⟨y, H1, I1, r1, q1⟩
  refine thn (ho.run pins s1 σ H1 _ I1 q1) ?_
  intro u s2 ⟨x, H2, I2, r2, a, C, ex, T, hno, q⟩
  subst ex
  obtain rfl : u = Value.ref a := r2
  rcases q with ⟨ea, q⟩ | ⟨dx, fs, ea, ed, hl, q⟩
  · exact est_new T I2 ea hno r1 fun dx s' n ne J => ⟨σ, _, J, q dx n ne⟩
  · exact est_old T I2 ea ed hl hno r1 fun s' J => ⟨σ, _, J, q⟩
theorem pe_ef (he : PE X e te) (hb : attributeBase e f X.env (eval e X.env) = eval e X.env := by rfl) : PE X (.Attribute e f pos) (tEf X.K f te) := by
  refine ⟨fun pins s σ H Q I h => attr_of hb (thn (he.run pins s σ H _ I h) ?_)⟩
  intro u s1 ⟨x, H1, I1, rx, a, C, dx, fs, v, ex, T, hno, ea, ed, l, q⟩
  subst ex
  obtain rfl : u = Value.ref a := rx
  obtain ⟨t1, ho⟩ := exo_at I1.hok ea
  obtain ⟨mA, hns, rel⟩ := exd_at I1.hok ed
  obtain ⟨od, hod, hl⟩ := lookIn_ns hns
  obtain ⟨w0, hu, ru⟩ := RelO.some_of (v := v) (o := mA f) (by rw [← l]; exact rel f)
  have J : PySem.W.InstAt s1.heap a _ C (some od) := ⟨ho, rfl, rfl, hod⟩
  exact HandSPX.exc_get I1.kIn J T.ga T.gg T.exC (PySem.W.findObj_own T.hdC hno rfl (by rw [hl, hu])) (handed_of ru) ⟨v, H1, I1.tok _, ru, q⟩
theorem pe_mkE {CX : CXT} {x : Str} {C fI : Addr} {k : Nat} {fd : FuncData} {ps : List Str} {sp : Sp} {ds : List Value} {dvs : List V} (T : EcC X.K C) (iC : PySem.W.findIn X.K (.ref C) "__init__" = some (some (.ref fI)))
    (tI : PySem.W.typeIn X.K (.ref fI) = some (.type "function")) (F1 : FnOk X.prog X.w X.K X.mg X.base CX k fI fd ps sp) (hr : Room (k + 1) X.A) (hb : Binds X.K fd ps ds) (hd : Vals dvs ds) (hx : Passes CX X (fun _ _ _ => False))
    (hg : Gl X x) (hm : X.mg x = some (.ref C)) (ha : PA X (e :: es) ta)
    (hdb : (x == ("__debug__" : Str)) = false := by decide) (he : starEach (e :: es) X.env = (false, eval e X.env) :: starEach es X.env := by rfl) (hpl : (backTo pos (starEach es X.env)).any (·.1) = false := by rfl) :
    PE X (.Call (.Name x p) (e :: es) [] pos) (tMkE C sp dvs ta) := by
  refine ⟨fun pins s σ H Q I h => wpAny_Call_Name_kw (ld_glob I hg hm ?_ hdb)⟩
  refine PySem.W.callWith_K (h₀ := X.base) I.ok.mod.kin T.kC (thn (ha.run pos pins s σ H _ I h) ?_) he hpl
  intro us s1 ⟨vs, H1, I1, r1, hz, q1⟩
  refine ⟨I1.kIn, ?_⟩
  show wpAny _ _ (call (.ref C) us) _ _ _
  obtain ⟨nm, N', qn, bs, bm, hdct, sn, sub, ab, col, dd, k0, k1, k2, k3, k5, hC, hT⟩ := PySem.W.excInit_of I1.kIn T.ini
  obtain ⟨hp, g, dr, tk, os⟩ := s1
  have hsz : hp.objs.size ≤ hp.objs.size + 1 := Nat.le_succ _
  have hn : H1 (hp.objs.size + 1) = none := I1.hok.fresh hsz
  have hq := q1 _ hn
  have hget : ((hp.push (PySem.W.kdv_tup us)).push (PySem.HandSPX.excO C hp.objs.size)).get? (hp.objs.size + 1) = some (PySem.HandSPX.excO C hp.objs.size) := by heap_get
  have I2 := I1.laid (t' := tk) (a := hp.objs.size + 1) (o := exo (hp.objs.size + 1) C none) (h' := (hp.push (PySem.W.kdv_tup us)).push (PySem.HandSPX.excO C hp.objs.size))
    (fun b o z => Heap.get?_push_of_some _ (Heap.get?_push_of_some _ z)) hsz (exo_ok hget)
  have r2 : Vals (V.ref (hp.objs.size + 1) :: (vs ++ dvs)) (Value.ref (hp.objs.size + 1) :: (us ++ ds)) := .cons rfl (r1.append hd)
  have hl : (Value.ref (hp.objs.size + 1) :: us ++ ds).length = ps.length := r2.length.symm.trans (F1.len _ _ _ _ hq)
  have hus : us.length ≤ sizeLine := by
    have := Paired.length r1
    rw [sizeLine_eq]
    omega
  refine wpAny_call (PySem.HandSPX.call_own PySem.F.excBase_Exception hT hC (PySem.W.looks_findIn I1.kIn iC) (fun self => PySem.W.bind_fn I1.kIn self tI) hus (codeAny_mono
    (F1.run _ X.stack _ _ ⟨Value.ref (hp.objs.size + 1) :: us, []⟩ (Value.ref (hp.objs.size + 1) :: (us ++ ds)) _ _ (fun _ _ _ => False) (hr.make C us []) (I2.env0.make C us []) (hb _ (Value.ref (hp.objs.size + 1) :: us) I2.kIn hl) r2 hq) ?_))
  intro r s' hq'
  cases r with
  | error er => exact hx pins σ _ _ er s' I2 hq'
  | ok fl =>
    cases fl with
    | ret u =>
      obtain ⟨v, H2, os2, bare2, un2, hok2, rv, ev, q2⟩ := hq'
      subst ev
      obtain ⟨h2, g2, d2, t2, os'⟩ := s'
      refine ⟨rv, V.ref (hp.objs.size + 1), H2, I2.call' (ch := []) os2 un2 hok2 bare2 (fun b z => absurd z (by simp)), rfl, q2⟩
    | next => exact False.elim hq'
    | brk => exact False.elim hq'
    | cont => exact False.elim hq'
/-- isinstance(e, c), e an exception, one class -/
def rIsiE (K : PySem.W.Frag) : List V → Hp → VK → Prop := fun xs H Q => ∃ (a C dx : Addr) (fs : List (Str × V)) (c : V) (u : Value) (b : Bool), xs = [.ref a, c] ∧ H a = some (exo a C (some dx)) ∧ H dx = some (exd dx fs) ∧ EcC K C ∧ ClsV c u ∧
  PySem.W.kitOne K (.ref C) u = some b ∧ Q (.bl b) H
/-- isinstance(e, (c1, c2, ..)), the tuple just laid -/
def rIsiET (K : PySem.W.Frag) : List V → Hp → VK → Prop := fun xs H Q => ∃ (a C dx tp : Addr) (fs : List (Str × V)) (cs : List V) (us : List Value) (b : Bool), xs = [.ref a, .ref tp] ∧ H a = some (exo a C (some dx)) ∧ H dx = some (exd dx fs) ∧ EcC K C ∧
  H tp = some (.tup cs) ∧ Paired ClsV cs us ∧ PySem.W.kitAny K (.ref C) us = some b ∧ Q (.bl b) H
theorem kit_exc {K : PySem.W.Frag} {C : Addr} (T : EcC K C) {x : Addr} {ox : Obj} {od : Option Obj} : PySem.W.KitX K (.ref x) (.ref C) (fun h => PySem.W.InstAt h x ox C od) :=
  PySem.W.kitx_exc T.cl T.ga T.gg T.exC T.cA T.sp T.tk T.mo
theorem call_isiE : CallR X (.builtin "isinstance") (rIsiE X.K) := by
  intro pins s σ H xs us Q I r h
  obtain ⟨a, C, dx, fs, c, u, b, rfl, ea, ed, T, k, e, q⟩ := h
  obtain ⟨u1, u2, rfl, r1, r2⟩ := vals2 r
  obtain rfl := k.eq r2
  obtain rfl : u1 = Value.ref a := r1
  obtain ⟨t1, ho⟩ := exo_at I.hok ea
  obtain ⟨mA, hns, rel⟩ := exd_at I.hok ed
  obtain ⟨od, hod, _⟩ := lookIn_ns hns
  exact PySem.W.kia_one (kit_exc T (od := some od)) I.kIn ⟨ho, rfl, rfl, hod⟩ e (fun z => nomatch z) fun tk => ⟨.bl b, H, I.tok tk, rfl, q⟩
theorem call_isiET : CallR X (.builtin "isinstance") (rIsiET X.K) := by
  intro pins s σ H xs us Q I r h
  obtain ⟨a, C, dx, tp, fs, cs, vs, b, rfl, ea, ed, T, et, pr, e, q⟩ := h
  obtain ⟨u1, u2, rfl, r1, r2⟩ := vals2 r
  obtain rfl : u1 = Value.ref a := r1
  obtain rfl : u2 = Value.ref tp := r2
  obtain ⟨t1, ho⟩ := exo_at I.hok ea
  obtain ⟨mA, hns, rel⟩ := exd_at I.hok ed
  obtain ⟨od, hod, _⟩ := lookIn_ns hns
  have z : ObjOk X.prog X.w H s.heap tp (.tup cs) := I.hok tp _ et
  obtain ⟨_, its, rv, o, h1, h2, n, h3⟩ := z
  obtain rfl := ClsV.all pr rv
  obtain ⟨oc, od', dt, sl⟩ := o
  dsimp only at h2 h3
  subst h2 h3
  exact PySem.W.kia_tup (kit_exc T (od := some od)) I.kIn ⟨ho, rfl, rfl, hod⟩ h1 e (fun z => nomatch z) fun tk => ⟨.bl b, H, I.tok tk, rfl, q⟩
end
/-- plain data, or a dict of one int -/
inductive Rp (K : PySem.W.Frag) (H : Hp) : V → PyData → Prop where
  | dp {v : V} {d : PyData} : Dp K H v d → d.hasDict = false → Rp K H v d
  | dic {a : Addr} {k n : Int} : H a = some (.dK [(Sum.inl k, .int n)]) → Rp K H (.ref a) (.dict [(.int k, .int n)])
  | dis {a : Addr} {k : Str} {n : Int} : H a = some (.dK [(Sum.inr k, .int n)]) → Rp K H (.ref a) (.dict [(.str k, .int n)])
def rRepr (K : PySem.W.Frag) : List V → Hp → VK → Prop := fun xs H Q => ∃ (x : V) (d : PyData), xs = [x] ∧ Rp K H x d ∧ d.showable = true ∧ d.depth ≤ 60 ∧ d.shown.length ≤ sizeLine ∧ Q (.str d.shown) H
section
variable {X : Cx} {pins : List (Addr × Obj)} {σ : L2.St} {H : Hp} {s : Shared}
theorem Rp.reads (I : Inv X pins σ H s) {v : V} {d : PyData} {u : Value} (h : Rp X.K H v d) (r : RelV v u) : ∃ as, Reads s.heap u d as ∧ (d.hasDict = true → sysModules ∉ as) := by
  cases h with
  | dp h nd =>
    obtain ⟨as, q⟩ := Dp.reads I d v u h r
    exact ⟨as, q, fun z => by rw [nd] at z; cases z⟩
  | @dic a k n e =>
    obtain rfl : u = Value.ref a := r
    have z : ObjOk X.prog X.w H s.heap a (.dK [(Sum.inl k, .int n)]) := I.hok a _ e
    obtain ⟨_, hsm, vs, kv, o, es, ep, ho, hx, hd, _, hp, _⟩ := z
    cases kv with
    | @cons _ q0 _ qs k1 kr =>
      cases kr
      obtain ⟨ek, rv⟩ := k1
      obtain ⟨kk, vv⟩ := q0
      dsimp only at ek rv
      subst ek
      obtain ⟨t, rfl⟩ : ∃ t, vv = Value.int n t := rv
      generalize el : es.toList = l at hp
      cases hp with
      | @cons e1 kv1 es1 kvs1 p1 p2 p3 =>
        cases p3
        obtain ⟨hsh, key, val⟩ := e1
        dsimp only at p1 p2
        subst p2
        have p1 : Value.isInt k key = true := p1
        obtain ⟨t2, rfl⟩ : ∃ t2, key = Value.int k t2 := by
          cases key <;> simp_all [Value.isInt]
        refine ⟨a :: [] ++ [], Reads.dict ho hx.1 hd (as := []) (bs := []) ?_ ?_, fun _ z => ?_⟩
        · rw [el]
          exact ReadsAll.cons (bs := []) (Reads.int k t2) ReadsAll.nil
        · rw [el]
          exact ReadsAll.cons (bs := []) (Reads.int n t) ReadsAll.nil
        · rw [List.append_nil, List.mem_singleton] at z
          rw [z] at hsm
          simp at hsm
  | @dis a k n e =>
    obtain rfl : u = Value.ref a := r
    have z : ObjOk X.prog X.w H s.heap a (.dK [(Sum.inr k, .int n)]) := I.hok a _ e
    obtain ⟨_, hsm, vs, kv, o, es, ep, ho, hx, hd, _, hp, _⟩ := z
    cases kv with
    | @cons _ q0 _ qs k1 kr =>
      cases kr
      obtain ⟨ek, rv⟩ := k1
      obtain ⟨kk, vv⟩ := q0
      dsimp only at ek rv
      subst ek
      obtain ⟨t, rfl⟩ : ∃ t, vv = Value.int n t := rv
      generalize el : es.toList = l at hp
      cases hp with
      | @cons e1 kv1 es1 kvs1 p1 p2 p3 =>
        cases p3
        obtain ⟨hsh, key, val⟩ := e1
        dsimp only at p1 p2
        subst p2
        have p1 : Value.isStrOf k key = true := p1
        obtain ⟨t2, rfl⟩ := Value.isStrOf_shape p1
        refine ⟨a :: [] ++ [], Reads.dict ho hx.1 hd (as := []) (bs := []) ?_ ?_, fun _ z => ?_⟩
        · rw [el]
          exact ReadsAll.cons (bs := []) (Reads.str k t2) ReadsAll.nil
        · rw [el]
          exact ReadsAll.cons (bs := []) (Reads.int n t) ReadsAll.nil
        · rw [List.append_nil, List.mem_singleton] at z
          rw [z] at hsm
          simp at hsm
theorem call_reprD (hg : X.A.guards = some []) (hu : X.A.units + 70 < cLine) : CallR X (.builtin "repr") (rRepr X.K) := by
  intro pins s σ H xs us Q I r h
  obtain ⟨x, d, rfl, hR, hs, hdp, hz, q⟩ := h
  obtain ⟨u, rfl, ru⟩ := vals1 r
  obtain ⟨as, hr, hsm⟩ := hR.reads I ru
  have sc : ∀ (b : Str), d.shown = b → ∀ tk, EP X pins σ Q (.str b tk) { s with toks := s.toks + 1 } := fun b e tk => ⟨.str b, H, I.tok _, ⟨_, rfl⟩, e ▸ q⟩
  cases hr with
  | none => exact PySem.P.repr_of_none (sc _ rfl _)
  | bool b => exact PySem.P.repr_of_bool (sc _ (by cases b <;> rfl) _)
  | int i t => exact PySem.P.repr_of_int (of_decide_eq_true hs) (sc _ rfl _)
  | str y t => exact PySem.P.repr_of_str (sc _ rfl _) hz
  | list h1 h2 h3 h4 =>
    refine repr_of_reads' (Reads.list h1 h2 h3 h4) hs hsm hg (by omega) (fun _ _ e => e) (fun h' u tk k => ?_) hz
    exact ⟨.str _, H, I.kept k, ⟨_, rfl⟩, q⟩
  | tuple h1 h2 h3 h4 =>
    refine repr_of_reads' (Reads.tuple h1 h2 h3 h4) hs hsm hg (by omega) (fun _ _ e => e) (fun h' u tk k => ?_) hz
    exact ⟨.str _, H, I.kept k, ⟨_, rfl⟩, q⟩
  | dict h1 h2 h3 h4 h5 =>
    refine repr_of_reads' (Reads.dict h1 h2 h3 h4 h5) hs hsm hg (by omega) (fun _ _ e => e) (fun h' u tk k => ?_) hz
    exact ⟨.str _, H, I.kept k, ⟨_, rfl⟩, q⟩
end

/-! ### a def at one call, what runs around it known (so repr of what holds other things may be said) -/
theorem fn_at {P : Program} {w : World} {K : PySem.W.Frag} {mg : Str → Option Value} {base : Heap} {k : Nat} {x qual : Str} {st : Stmt} {f : Addr} {fd : FuncData} {N ps : List Str} (F : Fun K x qual st f fd) (S : FnScope N ps (defScope st))
    {A : Around} {outer : List Env} {s : Shared} {H : Hp} {args : Args} {us : List Value} {vs : List V} {Q : VK} {E : XK} (hr : Room (k + 1) A) (e0 : Env0 P w K mg base A outer s H) (hb : BindsTo s fd args (ps.zip us)) (rv : Vals vs us) (hl : vs.length = ps.length)
    (body : ∀ cdv : Value, Room k (A.deeper (envOfC qual (defScope st) s.heap.objs.size f cdv)) → ∃ t, PSs (cxOf CX0 P w K mg base N qual (defScope st) f cdv A outer s H E) (defBody st) t ∧ t { nx := fun _ H' => Q .non H', rt := Q } (start N vs) H) :
    codeAny (model P w) A (.call (.ref f) args) (CR CX0 outer P w H s Q E) s := by
  obtain ⟨oc, od, kV, doc, pm, an, cdv, ct, osl, rfl, lk, hcd⟩ := F.ex
  have kin : K.In s.heap := e0.mod.kin.keeps fun b o z => (e0.bs b o z).1
  have lim : s.heap.NoLimit := e0.mod.nolimit.keeps fun b o z => (e0.bs b o z).1
  have par : ∀ y ∈ ps.zip us, (defScope st).names.lookup y.1 = some .local ∨ ((defScope st).names.lookup y.1 = some .cell ∧ ((cellsFrom (s.heap.objs.size + 1) (defScope st).names []).lookup y.1).isSome = true) := by
    rintro ⟨n, v⟩ hy
    cases S.par n (List.of_mem_zip hy).1 with
    | inl q => exact .inl q
    | inr q => exact .inr ⟨q, PySem.W.cellsFrom_some _ _ _ (.inl q)⟩
  refine codeAny_call_function hr.depth (kin _ _ lk) rfl S.co S.gen rfl (PySem.W.codeRec_of kin hcd) (hb _ _ _ _ (wpAny_newFunctionEnv_cells S.kind par ?_))
  rintro env he s1 hin
  subst he
  refine ⟨lim.keeps hin.toInCall.keep, codeAny_func ?_⟩
  obtain ⟨t, ht, hq⟩ := body cdv (hr.deeper _)
  refine wpAny_mono (ht.run [] s1 (start N vs) H _ (inv_start S hr.hd e0 hl rv hin) hq) ?_ fun _ _ z => z
  rintro fl s' hs
  cases fl with
  | next =>
    obtain ⟨σ', H', J, q⟩ := hs
    exact ⟨V.non, H', J.os, J.bare, J.base, J.hok, rfl, q⟩
  | ret u =>
    obtain ⟨v, σ', H', J, r, q⟩ := hs
    exact ⟨v, H', J.os, J.bare, J.base, J.hok, r, q⟩
  | brk =>
    obtain ⟨_, _, _, q⟩ := hs
    exact q.elim
  | cont =>
    obtain ⟨_, _, _, q⟩ := hs
    exact q.elim
/-- the law's end, the law's own call met at callerA -/
theorem walkG {l : PySem.W.OpenLaw} {n : Nat} {q : Program} {loose : List Str} {XP : (Str → Option Value) → Heap → Prop} {YP : World → Heap → Prop} {d : DefRec} {K : Params → PySem.W.Frag}
    (hn : l.most = some n) (hn2 : n ≤ sizeLine) (hdf : d.params.defaults = []) (hY : ∀ (w : World) (h : Heap), YP w h → (K w.params).In h)
    (F : ∀ (w : World) (mg : Str → Option Value) (fa : Addr) (h : Heap), (K w.params).In h → h.Ns mainGlobals mg → mg d.name = some (.ref fa) →
      ∀ base : Heap, (K w.params).In base → base.Ns mainGlobals mg → ∀ (s : Shared) (H : Hp) (a : Addr) (ns : List Int), ns.length ≤ n → SqL (K w.params) H a (ns.map V.int) → Env0 l.prog w (K w.params) mg base callerA [] s H →
        codeAny (model l.prog w) callerA (.call (.ref fa) ⟨[.ref a], []⟩) (CR CX0 [] l.prog w H s (fun v _ => v = .bl true) E0) s) :
    PySem.W.WalkO q loose XP YP l.row.toRowW d [] (fun f vs => PySem.call f vs) := by
  refine Att.attach_call hn hdf ?_
  intro w s₀ s₁ mg mb fa o pm cd doc a vs ns G Y ho hd hcd hmg hobj hints hlen hg
  have kin := hY w _ Y
  have rv := vals_ints hints
  have lv := hints.length
  have key : ∀ H : Hp, Only H → SqL (K w.params) H a (ns.map V.int) → HOk l.prog w H s₁.heap → (∀ b, H b ≠ none → b = a) → (H a ≠ none → (K w.params).lookup a = none) →
      codeAny (model l.prog w) callerA (.call (.ref fa) ⟨[.ref a], []⟩) (fun r s' => r = .ok (.ret (.bool true)) ∧ OldK s₁.heap s'.heap ∧ s'.os = s₁.os ∧ AllBare s'.gens) s₁ := by
    intro H only sq hok onlyA notK
    have freeD : ∀ {b : Addr} {o : Obj} {es : Array DictEntry} {ep : Nat}, s₁.heap.get? b = some o → o.data = .dict es ep → H b = none := by
      intro b o es ep e1 e2
      cases h : H b with
      | none => rfl
      | some u =>
        have e3 : b = a := onlyA b (by rw [h]; exact fun z => nomatch z)
        rw [e3, hobj] at e1
        cases e1
        cases e2
    have nsB : ∀ {b : Addr} {m : Str → Option Value}, s₁.heap.Ns b m → (hidT s₁.heap H).Ns b m := by
      rintro b m ⟨o, es, ep, e1, e2, r⟩
      exact ⟨o, es, ep, hidT_get e1 (freeD e1 e2), e2, r⟩
    have kinB : (K w.params).In (hidT s₁.heap H) := by
      intro b o e
      refine hidT_get (kin b o e) ?_
      cases h : H b with
      | none => rfl
      | some u =>
        have e3 : b = a := onlyA b (by rw [h]; exact fun z => nomatch z)
        rw [e3, notK (by rw [← e3, h]; exact fun z => nomatch z)] at e
        cases e
    have e0 : Env0 l.prog w (K w.params) mg (hidT s₁.heap H) callerA [] s₁ H := by
      refine ⟨rfl, ⟨kinB, nsB G.T.g, ⟨mb, nsB G.T.b, G.T.builtins⟩, ?_⟩, fun b o e => of_hidT e, Nat.le_of_eq (hidT_size _ _), trivial, (fun b hb => absurd hb (List.not_mem_nil)), hok, .of_eq hg⟩
      obtain ⟨mc, h1, h2⟩ := G.T.nolimit
      exact ⟨mc, nsB h1, h2⟩
    refine codeAny_mono (F w mg fa _ kin G.T.g hmg _ kinB (nsB G.T.g) s₁ H a ns hlen sq e0) ?_
    intro r s' z
    cases r with
    | error e => exact z.elim
    | ok fl =>
      cases fl with
      | next => exact z.elim
      | brk => exact z.elim
      | cont => exact z.elim
      | ret u =>
        obtain ⟨v, H', os, bare, un, hok', rr, qq⟩ := z
        subst qq
        obtain rfl : u = Value.bool true := rr
        refine ⟨rfl, OldK.of_keep ?_, os, bare⟩
        intro b o e
        rcases only b with h | ⟨ob, xs, h⟩
        · exact un.keep b o e h (fun z => nomatch z) (fun z => nomatch z)
        · have h1 := (hok b _ h).1
          have h2 := (hok' b _ (un.frzs b ob _ h)).1
          rw [e] at h1
          cases h1
          exact h2
  have hz : ns.length ≤ sizeLine := Nat.le_trans hlen hn2
  cases hk : (K w.params).lookup a with
  | some o =>
    have e := kin a o hk
    rw [hobj] at e
    cases e
    refine key (fun _ => none) (fun _ => .inl rfl) (.inr ⟨_, vs.toArray, _, hk, rfl, rfl, rfl, ?_, ?_⟩) (fun _ _ z => nomatch z) (fun _ z => absurd rfl z) fun z => absurd rfl z
    · rw [List.size_toArray, lv]
      exact hz
    · simpa using rv
  | none =>
    have hs : ∀ b u, (if b = a then some (HO.frz { cls := .type "list", data := .seq vs.toArray } (.lst (ns.map V.int))) else none) = some u → b = a ∧ u = HO.frz { cls := .type "list", data := .seq vs.toArray } (.lst (ns.map V.int)) := by
      intro b u z
      by_cases hb : b = a
      · rw [if_pos hb] at z
        exact ⟨hb, (Option.some.inj z).symm⟩
      · rw [if_neg hb] at z
        cases z
    refine key (fun b => if b = a then some (.frz { cls := .type "list", data := .seq vs.toArray } (.lst (ns.map V.int))) else none) ?_ (.inl (.inr ⟨_, if_pos rfl⟩)) ?_ ?_ fun _ => hk
    · intro b
      by_cases hb : b = a
      · exact .inr ⟨_, _, if_pos hb⟩
      · exact .inl (if_neg hb)
    · intro b u z
      obtain ⟨rfl, rfl⟩ := hs b u z
      exact ⟨hobj, by rw [List.length_map]; exact hz, vs, _, rv, hobj⟩
    · intro b z
      cases h : (if b = a then some (HO.frz { cls := .type "list", data := .seq vs.toArray } (.lst (ns.map V.int))) else none) with
      | none => exact absurd h z
      | some u => exact (hs b u h).1

/-! ### defs and exception classes of the text, each as one fact -/
structure DefAt (P : Program) (w : World) (K : PySem.W.Frag) (mg : Str → Option Value) (base : Heap) (k : Nat) (x : Str) (ps : List Str) (sp : Sp) : Prop where
  ex : ∃ (f : Addr) (fd : FuncData), FnOk P w K mg base CX0 k f fd ps sp ∧ mg x = some (.ref f) ∧ PySem.W.keepIn K (.ref f) = true ∧ Binds K fd ps []
structure XcAt (P : Program) (w : World) (K : PySem.W.Frag) (mg : Str → Option Value) (base : Heap) (x : Str) (ps : List Str) (C : Addr) (sp : Sp) : Prop where
  T : EcC K C
  m : mg x = some (.ref C)
  ex : ∃ (fI : Addr) (fd : FuncData), PySem.W.findIn K (.ref C) "__init__" = some (some (.ref fI)) ∧ PySem.W.typeIn K (.ref fI) = some (.type "function") ∧ FnOk P w K mg base CX0 1 fI fd ps sp ∧ Binds K fd ps []
section
variable {X : Cx} {e : Expr} {es : List Expr} {ta : TA} {p pos : Pos} {x : Str} {k : Nat} {ps : List Str} {sp : Sp} {C : Addr}
theorem pe_callD (D : DefAt X.prog X.w X.K X.mg X.base k x ps sp) (hr : Room k X.A) (ha : PA X (e :: es) ta) (hg : Gl X x := by rfl) (hdb : (x == ("__debug__" : Str)) = false := by decide)
    (he : starEach (e :: es) X.env = (false, eval e X.env) :: starEach es X.env := by rfl) (hpl : (backTo pos (starEach es X.env)).any (·.1) = false := by rfl) : PE X (.Call (.Name x p) (e :: es) [] pos) (tCall sp [] E0 ta) := by
  obtain ⟨f, fd, F, m, kp, b⟩ := D.ex
  exact pe_call F hr hg m kp b .nil pass0 ha hdb he hpl
theorem pe_mkD (D : XcAt X.prog X.w X.K X.mg X.base x ps C sp) (hr : Room 2 X.A) (ha : PA X (e :: es) ta) (hg : Gl X x := by rfl) (hdb : (x == ("__debug__" : Str)) = false := by decide)
    (he : starEach (e :: es) X.env = (false, eval e X.env) :: starEach es X.env := by rfl) (hpl : (backTo pos (starEach es X.env)).any (·.1) = false := by rfl) : PE X (.Call (.Name x p) (e :: es) [] pos) (tMkE C sp [] ta) := by
  obtain ⟨fI, fd, iC, tI, F, b⟩ := D.ex
  exact pe_mkE D.T iC tI F hr b .nil (fun _ _ _ _ _ _ _ h => h.elim) hg D.m ha hdb he hpl
theorem pe_cls (D : XcAt X.prog X.w X.K X.mg X.base x ps C sp) (hg : Gl X x := by rfl) (hd : (x == ("__debug__" : Str)) = false := by decide) : PE X (.Name x pos) (tC (.ref C)) := pe_glob hg D.m rfl hd
end
/-- __init__(self, f): self.f = f -/
def spI1 (K : PySem.W.Frag) (C : Addr) (f : Str) : Sp := fun vs H Q _ => ∃ (a : Addr) (v : V), vs = [.ref a, v] ∧ H a = some (exo a C none) ∧ ∀ dx, H dx = none → dx ≠ a → Q .non (upd (upd H dx (exd dx [(f, v)])) a (exo a C (some dx)))
/-- __init__(self, f, g): self.f = f; self.g = g -/
def spI2 (K : PySem.W.Frag) (C : Addr) (f g : Str) : Sp := fun vs H Q _ => ∃ (a : Addr) (v u : V), vs = [.ref a, v, u] ∧ H a = some (exo a C none) ∧
  ∀ dx, H dx = none → dx ≠ a → Q .non (upd (upd (upd H dx (exd dx [(f, v)])) a (exo a C (some dx))) dx (exd dx [(g, u), (f, v)]))
theorem Same.upd {H : Hp} {p : Addr} {o : HO} (h : H p = none) : Same H (L2.upd H p o) := fun b u e => by
  rw [upd_ne (ne_of_none e h)]
  exact e
theorem mk1 {K : PySem.W.Frag} {C : Addr} {f : Str} {v : V} {H : Hp} {Q : V → Hp → Prop} (h : ∀ a d H', Same H H' → H' a = some (exo a C (some d)) → H' d = some (exd d [(f, v)]) → Q (.ref a) H') :
    [v].length ≤ 1000 ∧ ∀ a, H a = none → spI1 K C f (.ref a :: ([v] ++ [])) (upd H a (exo a C none)) (fun x H2 => x = .non ∧ Q (.ref a) H2) (fun _ _ _ => False) := by
  refine ⟨by show 1 ≤ 1000; decide, fun a ha => ⟨a, v, rfl, upd_same, fun d hd hne => ⟨rfl, h a d _ ?_ upd_same ?_⟩⟩⟩
  · have hd0 : H d = none := by rw [upd_ne hne] at hd; exact hd
    intro b o e
    rw [upd_ne (ne_of_none e ha), upd_ne (ne_of_none e hd0), upd_ne (ne_of_none e ha)]
    exact e
  · rw [upd_ne hne, upd_same]
theorem mk2 {K : PySem.W.Frag} {C : Addr} {f g : Str} {v u : V} {H : Hp} {Q : V → Hp → Prop} (h : ∀ a d H', Same H H' → H' a = some (exo a C (some d)) → H' d = some (exd d [(g, u), (f, v)]) → Q (.ref a) H') :
    [v, u].length ≤ 1000 ∧ ∀ a, H a = none → spI2 K C f g (.ref a :: ([v, u] ++ [])) (upd H a (exo a C none)) (fun x H2 => x = .non ∧ Q (.ref a) H2) (fun _ _ _ => False) := by
  refine ⟨by show 2 ≤ 1000; decide, fun a ha => ⟨a, v, u, rfl, upd_same, fun d hd hne => ⟨rfl, h a d _ ?_ ?_ upd_same⟩⟩⟩
  · have hd0 : H d = none := by rw [upd_ne hne] at hd; exact hd
    intro b o e
    rw [upd_ne (ne_of_none e hd0), upd_ne (ne_of_none e ha), upd_ne (ne_of_none e hd0), upd_ne (ne_of_none e ha)]
    exact e
  · rw [upd_ne (Ne.symm hne), upd_same]
/-- a new object, the heap from then on a letter -/
theorem new1 {o : HO} {H : Hp} {Q : V → Hp → Prop} (h : ∀ p H', Same H H' → H' p = some o → Q (.ref p) H') : ∀ p, H p = none → Q (.ref p) (upd H p o) := fun p hp => h p _ (Same.upd hp) upd_same
/-- exceptions that stand: their classes and fields -/
def AllX (H : Hp) (cs : List (Addr × List (Str × V))) (as : List (Addr × Addr)) : Prop := Paired (fun (c : Addr × List (Str × V)) (x : Addr × Addr) => H x.1 = some (exo x.1 c.1 (some x.2)) ∧ H x.2 = some (exd x.2 c.2)) cs as
theorem AllX.mono {H H' : Hp} (s : Same H H') : ∀ {cs : List (Addr × List (Str × V))} {as : List (Addr × Addr)}, AllX H cs as → AllX H' cs as
  | _, _, .nil => .nil
  | _, _, .cons h t => .cons ⟨s _ _ h.1, s _ _ h.2⟩ (AllX.mono s t)
theorem AllX.snoc {H : Hp} {c : Addr × List (Str × V)} {a d : Addr} (h1 : H a = some (exo a c.1 (some d))) (h2 : H d = some (exd d c.2)) : ∀ {cs : List (Addr × List (Str × V))} {as : List (Addr × Addr)}, AllX H cs as → AllX H (cs ++ [c]) (as ++ [(a, d)])
  | _, _, .nil => .cons ⟨h1, h2⟩ .nil
  | _, _, .cons h t => .cons h (AllX.snoc h1 h2 t)
theorem rd_mk1 {K : PySem.W.Frag} {C : Addr} {f : Str} {σ : L2.St} {i : Nat} {v : V} {H : Hp} {Q : V → Hp → Prop} (hv : σ[i]? = some (some v)) (h : ∀ a d H', Same H H' → H' a = some (exo a C (some d)) → H' d = some (exd d [(f, v)]) → Q (.ref a) H') :
    tMkE C (spI1 K C f) [] (tCons (tVar i) tNil) σ H Q := ⟨v, hv, mk1 h⟩
theorem rd_mk2 {K : PySem.W.Frag} {C : Addr} {f g : Str} {σ : L2.St} {i : Nat} {v u : V} {H : Hp} {Q : V → Hp → Prop} (hv : σ[i]? = some (some v)) (h : ∀ a d H', Same H H' → H' a = some (exo a C (some d)) → H' d = some (exd d [(g, u), (f, v)]) → Q (.ref a) H') :
    tMkE C (spI2 K C f g) [] (tCons (tVar i) (tCons (tC u) tNil)) σ H Q := ⟨v, hv, mk2 h⟩
theorem rd_mk2' {K : PySem.W.Frag} {C : Addr} {f g : Str} {σ : L2.St} {i : Nat} {v u : V} {H : Hp} {Q : V → Hp → Prop} (hv : σ[i]? = some (some v)) (h : ∀ a d H', Same H H' → H' a = some (exo a C (some d)) → H' d = some (exd d [(g, v), (f, u)]) → Q (.ref a) H') :
    tMkE C (spI2 K C f g) [] (tCons (tC u) (tCons (tVar i) tNil)) σ H Q := ⟨v, hv, mk2 h⟩
theorem rd_lst {ta : TA} {σ : L2.St} {H : Hp} {Q : V → Hp → Prop} (h : ta σ H fun xs H1 => xs.length ≤ sizeLine ∧ ∀ p H', Same H1 H' → H' p = some (.lst xs) → Q (.ref p) H') (mono : ∀ σ H (R R' : List V → Hp → Prop), (∀ xs H1, R xs H1 → R' xs H1) → ta σ H R → ta σ H R') : tLst ta σ H Q :=
  mono _ _ _ _ (fun xs H1 z => ⟨z.1, new1 z.2⟩) h
/-! ### a reading opened by one combinator -/
section
variable {D : Ends} {σ : L2.St} {H : Hp} {Q : V → Hp → Prop} {QL : List V → Hp → Prop} {t u : TS} {te to' tb : TE} {ta tl : TA} {g : TG} {r : R2}
theorem rd_seq (h : t { D with nx := u D } σ H) : tSeq t u D σ H := h
theorem rd_asg (h : te σ H fun x H1 => g x σ H1 D.nx) : tAsg te g D σ H := h
theorem rd_ret (h : te σ H D.rt) : tRet te D σ H := h
theorem rd_disp (h : ta σ H fun xs H1 => xs.length ≤ sizeLine ∧ ∀ p, H1 p = none → Q (.ref p) (upd H1 p (.lst xs))) : tLst ta σ H Q := h
theorem rd_cons (h : te σ H fun x H1 => tl σ H1 fun xs H2 => QL (x :: xs) H2) : tCons te tl σ H QL := h
theorem rd_nil (h : QL [] H) : tNil σ H QL := h
theorem rd_op (h : te σ H fun x H1 => tb σ H1 fun y H2 => r x y H2 Q) : tOp r te tb σ H Q := h
theorem rd_var {i : Nat} {v : V} (hv : σ[i]? = some (some v)) (h : Q v H) : tVar i σ H Q := ⟨v, hv, h⟩
theorem rd_c {v : V} (h : Q v H) : tC v σ H Q := h
end
section
variable {D : Ends} {σ : L2.St} {H : Hp} {Q : V → Hp → Prop} {QB : Bool → Hp → Prop} {te : TE} {ta : TA} {tc : TT} {t u : TS} {r : List V → Hp → VK → Prop} {K : PySem.W.Frag} {f : Str}
theorem rd_if (h : tc σ H fun b H1 => if b = true then t D σ H1 else u D σ H1) : tIfS tc t u D σ H := h
theorem rd_test (h : te σ H fun x H' => ∃ k, x = .bl k ∧ QB k H') : tTest te σ H QB := h
theorem rd_cb (h : ta σ H fun vs H1 => r vs H1 Q) : tCB r ta σ H Q := h
theorem rd_ef (h : te σ H fun x H1 => ∃ (a C dx : Addr) (fs : List (Str × V)) (v : V), x = .ref a ∧ EcC K C ∧ PySem.W.findIn K (.ref C) f = some none ∧ H1 a = some (exo a C (some dx)) ∧ H1 dx = some (exd dx fs) ∧ fs.lookup f = some v ∧ Q v H1) : tEf K f te σ H Q := h
end
end EX
set_option Elab.async false
set_option linter.all false
set_option maxRecDepth 100000
set_option maxHeartbeats 4000000
namespace EX
open PySem L2 PyProof.Rows
/-- the eight objects, n the drawn number, each with what it is as plain data -/
inductive ItemOk (H : Hp) (n : Int) : V → PyData → Prop where
  | int : ItemOk H n (.int n) (.int n)
  | non : ItemOk H n .non .none
  | bl : ItemOk H n (.bl true) (.bool true)
  | str : ItemOk H n (.str "text") (.str "text")
  | tup {t : Addr} (h : H t = some (.tup [.int 1, .int 2])) : ItemOk H n (.ref t) (.tuple [.int 1, .int 2])
  | lst {t : Addr} (h : H t = some (.lst [.int n])) : ItemOk H n (.ref t) (.list [.int n])
  | dic {t : Addr} (h : H t = some (.dK [(Sum.inl 1, .int n)])) : ItemOk H n (.ref t) (.dict [(.int 1, .int n)])
  | nil {t : Addr} (h : H t = some (.tup [])) : ItemOk H n (.ref t) (.tuple [])
theorem ItemOk.mono {H H' : Hp} {n : Int} {v : V} {d : PyData} (s : Same H H') (h : ItemOk H n v d) : ItemOk H' n v d := by
  cases h with
  | int => exact .int
  | non => exact .non
  | bl => exact .bl
  | str => exact .str
  | tup h => exact .tup (s _ _ h)
  | lst h => exact .lst (s _ _ h)
  | dic h => exact .dic (s _ _ h)
  | nil h => exact .nil (s _ _ h)
theorem ItemOk.rp {K : PySem.W.Frag} {H : Hp} {n : Int} {v : V} {d : PyData} (h : ItemOk H n v d) : Rp K H v d := by
  cases h with
  | int => exact .dp (.int n) rfl
  | non => exact .dp .non rfl
  | bl => exact .dp (.bl true) rfl
  | str => exact .dp (.str _) rfl
  | tup h => exact .dp (.tup (SqT.of h) (.cons (.int 1) (.cons (.int 2) .nil))) (by decide)
  | lst h => exact .dp (.lst (SqL.of h) (.cons (.int n) .nil)) rfl
  | dic h => exact .dic h
  | nil h => exact .dp (.tup (SqT.of h) .nil) rfl
theorem ItemOk.small {H : Hp} {n : Int} {v : V} {d : PyData} (h : ItemOk H n v d) (h0 : -500 ≤ n) (h1 : n < 1000000) : d.showable = true ∧ d.depth ≤ 60 ∧ d.shown.length ≤ sizeLine := by
  have hn : (toString n).length ≤ 8 := int_text_length_le10 (k := 7) (by decide) (by omega)
  have hl : n.natAbs.log2 < 1920 := Nat.lt_of_lt_of_le (PySem.Flt.log2_lt_of (k := 20) (by decide) (by omega)) (by decide)
  have hs : PyData.showable (.int n) = true := by
    show decide (n.natAbs.log2 < 1920) = true
    exact decide_eq_true hl
  have hz : (PyData.shown (.int n)).length ≤ 8 := by
    show (Str.ofString (toString n)).length ≤ 8
    rw [PySem.ofString_length]
    exact hn
  cases h with
  | int => exact ⟨hs, (show 0 ≤ 60 by decide), Nat.le_trans hz (by decide)⟩
  | non => exact ⟨rfl, by decide, by decide +kernel⟩
  | bl => exact ⟨rfl, by decide, by decide +kernel⟩
  | str => exact ⟨rfl, by decide, by decide +kernel⟩
  | tup h => exact ⟨by decide +kernel, by decide, by decide +kernel⟩
  | lst h =>
    refine ⟨by show (PyData.showable (.int n) && true) = true; rw [hs]; rfl, (show 0 + 1 ≤ 60 by decide), ?_⟩
    show (listText [PyData.shown (.int n)]).length ≤ sizeLine
    show ((((("[" : Str) ++ ("" : String)) ++ PyData.shown (.int n)) ++ "]" : Str)).length ≤ sizeLine
    rw [strLen_append, strLen_append, strLen_append]
    have e1 : ("[" : Str).length = 1 := rfl
    have e2 : ((("" : String) : Str)).length = 0 := rfl
    have e3 : ((("]" : String) : Str)).length = 1 := rfl
    rw [sizeLine_eq]
    omega
  | dic h =>
    refine ⟨by show (PyData.showable (.int 1) && PyData.showable (.int n) && true) = true; rw [hs]; rfl, (show 0 + 1 ≤ 60 by decide), ?_⟩
    show (dictText [PyData.shown (.int 1) ++ ": " ++ PyData.shown (.int n)]).length ≤ sizeLine
    show (((("{" : Str) ++ (PyData.shown (.int 1) ++ ": " ++ PyData.shown (.int n))) ++ "}" : Str)).length ≤ sizeLine
    rw [strLen_append, strLen_append, strLen_append, strLen_append]
    have e1 : ("{" : Str).length = 1 := rfl
    have e2 : (PyData.shown (.int 1)).length = 1 := by decide +kernel
    have e3 : (((": " : String) : Str)).length = 2 := rfl
    have e4 : ((("}" : String) : Str)).length = 1 := rfl
    rw [sizeLine_eq]
    omega
  | nil h => exact ⟨rfl, by decide, by decide +kernel⟩
/-- lists of bools as data -/
theorem canB : ∀ bs : List Bool, PyData.canLayAll0 (bs.map PyData.bool) = true
  | [] => rfl
  | b :: r => by
    show (PyData.canLay0 (.bool b) && PyData.canLayAll0 (r.map PyData.bool)) = true
    rw [canB r]
    rfl
theorem depB : ∀ bs : List Bool, PyData.depthAll (bs.map PyData.bool) = 0
  | [] => rfl
  | b :: r => by
    show max (PyData.depth (.bool b)) (PyData.depthAll (r.map PyData.bool)) = 0
    rw [depB r]
    rfl
theorem shapedB (bs : List Bool) : SeqAt.shaped (.list (bs.map PyData.bool)) = true := by
  show (PyData.canLayAll0 (bs.map PyData.bool) && decide (PyData.depthAll (bs.map PyData.bool) + 1 ≤ 64)) = true
  rw [canB, depB]
  rfl
theorem eqvB (bs : List Bool) : PyData.eqv (.list (bs.map PyData.bool)) (.list (bs.map PyData.bool)) = true := SeqAt.eqv_refl _ (canB bs)
theorem dpB {K : PySem.W.Frag} {H : Hp} : ∀ bs : List Bool, DpAll K H (bs.map V.bl) (bs.map PyData.bool)
  | [] => .nil
  | b :: r => .cons (.bl b) (dpB r)
theorem Same.updN {H H1 : Hp} {p : Addr} {o : HO} (s : Same H H1) (h : H p = none) : Same H (L2.upd H1 p o) := fun b u e => by
  rw [upd_ne (ne_of_none e h)]
  exact s b u e
theorem AllX.get {H : Hp} : ∀ {cs : List (Addr × List (Str × V))} {as : List (Addr × Addr)} {i : Nat} {a d : Addr}, AllX H cs as → as[i]? = some (a, d) → ∃ C fs, cs[i]? = some (C, fs) ∧ H a = some (exo a C (some d)) ∧ H d = some (exd d fs)
  | _, _, 0, _, _, .cons h _, e => by
    cases e
    exact ⟨_, _, rfl, h.1, h.2⟩
  | _, _, i + 1, _, _, .cons _ t, e => AllX.get (i := i) t e
end EX
set_option Elab.async false
set_option linter.all false
set_option maxRecDepth 100000
set_option maxHeartbeats 4000000
namespace EX
open PySem L2 PySem.Spec PyProof.Rows
/-! ### raising an own exception (below Exception) whose __init__ is walked -/
/-- what stands of an own exception class of one field f -/
structure XrAt (P : Program) (w : World) (K : PySem.W.Frag) (mg : Str → Option Value) (base : Heap) (x f : Str) (C : Addr) : Prop where
  T : EcC K C
  m : mg x = some (.ref C)
  tC : PySem.W.typeIn K (.ref C) = some (.type "type")
  no : PySem.W.findIn K (.ref C) f = some none
  ex : ∃ (fI : Addr) (fd : FuncData), PySem.W.findIn K (.ref C) "__init__" = some (some (.ref fI)) ∧ PySem.W.typeIn K (.ref fI) = some (.type "function") ∧ FnOk P w K mg base CX0 1 fI fd [("self" : Str), f] (spI1 K C f) ∧ Binds K fd [("self" : Str), f] []
/-- C(e), to be raised: its dict d is new and holds the field -/
def tMkR (C : Addr) (f : Str) (te : TE) : L2.St → Hp → XK → Prop := fun σ H Q => te σ H fun v H1 => ∀ d H', Same H1 H' → H1 d = none → H' d = some (.xd [(f, v)]) → Q (.ref C) (some d) H'
def one1 (R : V → Hp → Prop) : List V → Hp → Prop := fun vs H => match vs with
  | [v] => R v H
  | _ => False
section
variable {X : Cx} {e : Expr} {te : TE} {p pos kp : Pos} {x f : Str} {C : Addr} {W : WX}
theorem pmk_ec (D : XrAt X.prog X.w X.K X.mg X.base x f C) (hr : Room 2 X.A) (hg : Gl X x) (he : PE X e te)
    (hdb : (x == ("__debug__" : Str)) = false := by decide) (hse : starEach [e] X.env = (false, eval e X.env) :: starEach [] X.env := by rfl) (hpl : (backTo pos (starEach [] X.env)).any (·.1) = false := by rfl) :
    PMk X (.Call (.Name x p) [e] [] pos) (tMkR C f te) := by
  intro pins s σ H Q I h
  obtain ⟨fI, fd, iC, tI, F1, hb⟩ := D.ex
  have ha : PA X [e] (tCons te tNil) := pa_cons he pa_nil hse
  refine wpAny_Call_Name_kw (ld_glob I hg D.m (PySem.W.callWith_K (h₀ := X.base) I.ok.mod.kin D.T.kC (thn (ha.run pos pins s σ H (one1 fun v H1 => ∀ d H', Same H1 H' → H1 d = none → H' d = some (.xd [(f, v)]) → Q (.ref C) (some d) H') I h) ?_) hse hpl) hdb)
  intro us s1 ⟨vs, H1, I1, r1, q1⟩
  refine ⟨I1.kIn, (?_ : wpAny _ _ (call (.ref C) us) _ _ _)⟩
  obtain ⟨v, rfl⟩ : ∃ v, vs = [v] := by
    match vs, q1 with
    | [v], _ => exact ⟨v, rfl⟩
  replace q1 : ∀ d H', Same H1 H' → H1 d = none → H' d = some (.xd [(f, v)]) → Q (.ref C) (some d) H' := q1
  obtain ⟨u, rfl, ru⟩ := vals1 r1
  obtain ⟨nm, N', qn, bs, bm, hdct, sn, sub, ab, col, dd, k0, k1, k2, k3, k5, hC, hT⟩ := PySem.W.excInit_of I1.kIn D.T.ini
  obtain ⟨hp, g, dr, tk, os⟩ := s1
  have le1 : hp.objs.size ≤ hp.objs.size + 1 := Nat.le_succ _
  have new : H1 (hp.objs.size + 1) = none := I1.hok.fresh le1
  have grow : ∀ b o, hp.get? b = some o → ((hp.push (PySem.W.kdv_tup [u])).push (PySem.HandSPX.excO C hp.objs.size)).get? b = some o := fun b o z => Heap.get?_push_of_some _ (Heap.get?_push_of_some _ z)
  have there : ((hp.push (PySem.W.kdv_tup [u])).push (PySem.HandSPX.excO C hp.objs.size)).get? (hp.objs.size + 1) = some (PySem.HandSPX.excO C hp.objs.size) := by heap_get
  have I2 := I1.laid (t' := tk) (a := hp.objs.size + 1) (o := exo (hp.objs.size + 1) C none) (h' := (hp.push (PySem.W.kdv_tup [u])).push (PySem.HandSPX.excO C hp.objs.size)) grow le1 (exo_ok there)
  have r2 : Vals [V.ref (hp.objs.size + 1), v] [Value.ref (hp.objs.size + 1), u] := .cons rfl (.cons ru .nil)
  have hsp : spI1 X.K C f [V.ref (hp.objs.size + 1), v] (upd H1 (hp.objs.size + 1) (exo (hp.objs.size + 1) C none)) (fun w H2 => w = .non ∧ ∃ (d : Addr) (fs : List (Str × V)), H2 (hp.objs.size + 1) = some (exo (hp.objs.size + 1) C (some d)) ∧ H2 d = some (exd d fs) ∧ H1 d = none ∧ Q (.ref C) (some d) (upd (del H2 (hp.objs.size + 1)) d (.xd fs))) (fun _ _ _ => False) := by
    refine ⟨_, v, rfl, upd_same, fun d hd hne => ⟨rfl, d, [(f, v)], upd_same, ?_, ?_, ?_⟩⟩
    · rw [upd_ne hne, upd_same]
    · rw [upd_ne hne] at hd
      exact hd
    · rw [upd_ne hne] at hd
      refine q1 d _ (fun b o z => ?_) hd upd_same
      have nb : b ≠ hp.objs.size + 1 := ne_of_none z new
      rw [upd_ne (ne_of_none z hd), del_ne nb, upd_ne nb, upd_ne (ne_of_none z hd), upd_ne nb]
      exact z
  have hbt : BindsTo _ fd ⟨[Value.ref (hp.objs.size + 1), u], []⟩ ([("self" : Str), f].zip [Value.ref (hp.objs.size + 1), u]) := hb _ [Value.ref (hp.objs.size + 1), u] I2.kIn rfl
  refine wpAny_call (PySem.HandSPX.call_own PySem.F.excBase_Exception hT hC (PySem.W.looks_findIn I1.kIn iC) (fun self => PySem.W.bind_fn I1.kIn self tI) (by rw [sizeLine_eq]; show 1 ≤ _; omega) (codeAny_mono
    (F1.run _ X.stack _ _ ⟨[Value.ref (hp.objs.size + 1), u], []⟩ [Value.ref (hp.objs.size + 1), u] _ _ (fun _ _ _ => False) (hr.make C [u] []) (I2.env0.make C [u] []) hbt r2 hsp) ?_))
  rintro (er | fl) s' hq'
  · exact False.elim hq'
  · cases fl with
    | ret uu =>
      obtain ⟨w, H2, os2, bare2, un2, hok2, rv, ev, d, fs, ea, ed, hd1, q2⟩ := hq'
      subst ev
      obtain ⟨h2, g2, d2, t2, os'⟩ := s'
      exact ⟨rv, mk_end (raises_own D.T.exC D.tC) I1 le1 grow un2 hok2 os2 bare2 ea ed hd1 q2⟩
    | next => exact False.elim hq'
    | brk => exact False.elim hq'
    | cont => exact False.elim hq'
/-- raise C(e) -/
def tRaE (C : Addr) (f : Str) (te : TE) (W : WX) : TS := fun _ σ H => tMkR C f te σ H fun cls d H' => W cls d σ H'
theorem ps_raiseE (D : XrAt X.prog X.w X.K X.mg X.base x f C) (hr : Room 2 X.A) (hc : X.calm = true) (tk : Takes X W) (he : PE X e te) (hg : Gl X x := by rfl) (hdb : (x == ("__debug__" : Str)) = false := by decide)
    (hse : starEach [e] X.env = (false, eval e X.env) :: starEach [] X.env := by rfl) : PS X (.Raise (some (.Call (.Name x p) [e] [] pos)) none kp) (tRaE C f te W) := ps_raise hc tk (pmk_ec D hr hg he hdb hse (by rfl))
end

/-! ### except clauses, with and without names -/
/-- what a clause does: the class, the slot of its name, its suite -/
structure Cls1 where
  c : Value
  i : Option Nat
  ts : Addr → Value → Option Addr → TS
def slotIn (σ : L2.St) (i : Option Nat) (v : Option V) : L2.St := match i with
  | some j => σ.set j v
  | none => σ
def endsOut (D : Ends) (i : Option Nat) : Ends := { nx := fun σ' H' => D.nx (slotIn σ' i none) H', rt := D.rt, bk := fun σ' H' => D.bk (slotIn σ' i none) H', ct := fun σ' H' => D.ct (slotIn σ' i none) H' }
def wCls (K : PySem.W.Frag) (Wout : WX) (D : Ends) : List Cls1 → WX
  | [] => Wout
  | q :: r => fun cls d σ H => ∃ b, PySem.W.exmOne K cls q.c = some b ∧ (b = true → ∀ a, H a = none → q.ts a cls d (endsOut D q.i) (slotIn σ q.i (some (.ref a))) H) ∧ (b = false → wCls K Wout D r cls d σ H)
inductive ClsOk (X : Cx) : List ExceptHandler → List Cls1 → Prop
  | nil : ClsOk X [] []
  | bare {x : Str} {c : Value} {ts : Addr → Value → Option Addr → TS} {b₀ : Stmt} {suite : List Stmt} {np pos' : Pos} {hds : List ExceptHandler} {l : List Cls1} (hc : Names X x c)
      (hsu : ∀ (a : Addr) (oe : Obj) (cls : Value) (d : Option Addr) (pn : List (Addr × Obj)), Zc cls d oe → (∃ vs, oe.data = .fields vs) → PSs (X.suite a ((a, oe) :: pn)) (b₀ :: suite) (ts a cls d)) (r : ClsOk X hds l) :
      ClsOk X (.ExceptHandler (some (.Name x np)) none (b₀ :: suite) pos' :: hds) (⟨c, none, ts⟩ :: l)
  | as {x n : Str} {i : Nat} {c : Value} {ts : Addr → Value → Option Addr → TS} {b₀ : Stmt} {suite : List Stmt} {np pos' : Pos} {hds : List ExceptHandler} {l : List Cls1} (hc : Names X x c) (hi : X.N[i]? = some n) (hln : X.env.kindOf n = some .local)
      (hsu : ∀ (a : Addr) (oe : Obj) (cls : Value) (d : Option Addr) (pn : List (Addr × Obj)), Zc cls d oe → (∃ vs, oe.data = .fields vs) → PSs (X.suite a ((a, oe) :: pn)) (b₀ :: suite) (ts a cls d)) (r : ClsOk X hds l) :
      ClsOk X (.ExceptHandler (some (.Name x np)) (some n) (b₀ :: suite) pos' :: hds) (⟨c, some i, ts⟩ :: l)
section
variable {X : Cx} {body : List Stmt} {h₀ : ExceptHandler} {hds : List ExceptHandler} {l : List Cls1} {pos : Pos} {tb : WX → TS} {Wout : WX}
theorem ps_try_cls (hs : X.stack = X.env :: X.outer) (hf : X.env.frame = some X.env.locals) (hN : X.N.Nodup) (tk : Takes X Wout)
    (hb : ∀ (W : WX) (pn : List (Addr × Obj)) (xe : Value → Shared → Prop), Takes (X.tr pn xe) W → PassesOwn (model X.prog X.w) X.A X.env xe → PSs (X.tr pn xe) body (tb W))
    (hh : ClsOk X (h₀ :: hds) l) : PS X (.Try body (h₀ :: hds) [] [] pos) (fun D σ H => tb (wCls X.K Wout D l) D σ H) := by
  refine ⟨fun pins s σ H D I h => ?_⟩
  have ok := I.ok
  have hfr : X.A.frames = some (X.env :: X.outer) := by rw [ok.frames, hs]
  refine wpAny_Try_except (wpAny_mono ((hb (wCls X.K Wout D l) (X.pn ++ pins) (fun e s₁ => wpAny (model X.prog X.w) X.A (noteFrame e X.env) (fun _ s₂ => wpAny (model X.prog X.w) X.A (setFlight e none) (fun _ s₃ =>
    wpAny (model X.prog X.w) X.A (handleBy e X.env (h₀ :: hds)) (SP X pins D) X.xe s₃) X.xe s₂) X.xe s₁) (fun u s' xx => ?_) PassesOwn.looking).run [] s σ H D (I.toTry _) h) (fun f s1 hsp => ?_) (fun e s1 he => he))
  · -- it is caught here: the frame is noted, then the clauses are tried
    obtain ⟨a, B, sI, pins', σ', H', cls, d, rfl, J', nb, up, sky, na, os, ag, w⟩ := xx
    have J : Inv X pins σ' H' sI := J'.ofTry ok
    rw [show (X.tr (X.pn ++ pins) _).stack = X.env :: X.outer from hs] at sky
    refine Sky.land Zc.steady hfr hf sky fun h3 fl3 up3 => ?_
    have J3 : Inv X pins σ' H' { s' with heap := h3 } := J.landed nb fl3.1 (up.trans up3) os ag
    obtain ⟨oe3, vs3, he3, hz3, hd3⟩ := fl3.there
    have nfr : a ∉ frs (X.env :: X.outer) := fun hm => by
      obtain ⟨_, o', e', hnf⟩ := fl3.2.2.1.mem hm
      rw [he3] at e'
      cases e'
      exact hnf _ hd3
    have nL : a ≠ X.env.locals := fun z => nfr (List.mem_filterMap.mpr ⟨X.env, List.mem_cons_self, by rw [hf, z]⟩)
    have nF : a ∉ X.fs := fun hm => by
      obtain ⟨ev, hev, q⟩ := List.mem_filterMap.mp hm
      exact nfr (List.mem_filterMap.mpr ⟨ev, List.mem_cons_of_mem _ hev, q⟩)
    have S3 := J3.suite he3 hd3 na nL nF
    have LT : PySem.W.Looks (model X.prog X.w) h3 (typeOf (.ref a)) cls := fun A Q E s k q => wpAny_typeOf_ref (k _ _ he3) (by rw [hz3.1]; exact q)
    have test : ∀ {x : Str} {c : Value} {np : Pos} {Q : Value → Shared → Prop} {E : Value → Shared → Prop}, Names X x c → Q c { s' with heap := h3 } → wpAny (model X.prog X.w) (X.A.mark (some (.ref a))) (eval (.Name x np) X.env) Q E { s' with heap := h3 } := by
      intro x c np Q E hc q
      obtain ⟨hg, hdbg, hm | ⟨hm, hv, hnn⟩⟩ := hc
      · exact ld_glob (X := X.suite a ((a, oe3) :: (X.pn ++ pins))) S3 hg hm q hdbg
      · exact ld_blt (X := X.suite a ((a, oe3) :: (X.pn ++ pins))) S3 hg hm hv q hnn hdbg
    -- no clause takes it: it flies on
    have out : Wout cls d σ' H' → wpAny (model X.prog X.w) X.A (handleBy (.ref a) X.env []) (SP X pins D) X.xe { s' with heap := h3 } := by
      intro w
      refine wpAny_handleBy_nil ?_
      obtain ⟨k1, k2, k3, oe, vs, T, oT, ts', he, hz, hd, h1, hr⟩ := id fl3
      unfold PySem.passOn
      refine wpAny_bind (wpAny_field he hd h1 ?_)
      rw [if_neg (show ¬ ((Value.ref T == Value.none) = true) from by simp)]
      have fin : wpAny (model X.prog X.w) X.A (setFlight (.ref a) X.env.frame) (fun _ s4 => wpAny (model X.prog X.w) X.A (throw (.ref a) : Sem Flow) (SP X pins D) X.xe s4) X.xe { s' with heap := h3 } := by
        rw [hf]
        exact HandSPX.setFlight_upZ fl3 fun h4 hh4 up4 => wpAny_throw (tk _ _ ⟨a, B, sI, pins, σ', H', cls, d, rfl, J, nb, (up.trans up3).trans up4, .inr (.inr (by rw [hs]; exact hh4)), na, os, ag, w⟩)
      first
        | exact wpAny_bind (wpAny_pure (wpAny_bind fin))
        | exact wpAny_bind fin
    have go : ∀ {hds' : List ExceptHandler} {l' : List Cls1}, ClsOk X hds' l' → wCls X.K Wout D l' cls d σ' H' → wpAny (model X.prog X.w) X.A (handleBy (.ref a) X.env hds') (SP X pins D) X.xe { s' with heap := h3 } := by
      intro hds' l' hk
      induction hk with
      | nil => exact out
      | @bare x c ts b₀ suite np pos' hds2 l2 hc hsu r ih =>
        intro w
        obtain ⟨b, hb1, hyes, hno⟩ := w
        refine wpAny_handleBy_cons (codeAny_handlers_test (test hc ((PySem.W.exm_one (M := model X.prog X.w) (J3.kIn) LT hb1).here ?_))) (by intro q; cases q)
        cases b with
        | false => exact ih (hno rfl)
        | true =>
          refine codeAny_handlers_suite (HandSPX.lands_againZ fl3 fun h4 fl4 up4 => ?_)
          have J4 : Inv X pins σ' H' { s' with heap := h4 } := J.landed nb fl4.1 ((up.trans up3).trans up4) os ag
          obtain ⟨oe4, vs4, he4, hz4, hd4⟩ := fl4.there
          refine wpAny_mono ((hsu a oe4 cls d (X.pn ++ pins) hz4 ⟨_, hd4⟩).run [] _ _ H' _ (J4.suite he4 hd4 na nL nF) (hyes rfl a na)) (fun f s6 hsp => ?_) (fun _ _ z => False.elim z)
          cases f with
          | ret u =>
            obtain ⟨v6, σ6, H6, S6, r6, q6⟩ := hsp
            exact ⟨_, _, _, S6.unsuite ok, r6, q6⟩
          | next => exact let ⟨σ6, H6, S6, q6⟩ := hsp; ⟨_, _, S6.unsuite ok, q6⟩
          | brk => exact let ⟨σ6, H6, S6, q6⟩ := hsp; ⟨_, _, S6.unsuite ok, q6⟩
          | cont => exact let ⟨σ6, H6, S6, q6⟩ := hsp; ⟨_, _, S6.unsuite ok, q6⟩
      | @as x n i c ts b₀ suite np pos' hds2 l2 hc hi hln hsu r ih =>
        intro w
        obtain ⟨b, hb1, hyes, hno⟩ := w
        refine wpAny_handleBy_cons (codeAny_handlers_test (test hc ((PySem.W.exm_one (M := model X.prog X.w) (J3.kIn) LT hb1).here ?_))) (by intro q; cases q)
        cases b with
        | false => exact ih (hno rfl)
        | true =>
          refine codeAny_handlers_suite_as (HandSPX.lands_againZ fl3 fun h4 fl4 up4 => ?_)
          have J4 : Inv X pins σ' H' { s' with heap := h4 } := J.landed nb fl4.1 ((up.trans up3).trans up4) os ag
          obtain ⟨oe4, vs4, he4, hz4, hd4⟩ := fl4.there
          have S4 := J4.suite he4 hd4 na nL nF
          refine store_ok (X := X.suite a ((a, oe4) :: (X.pn ++ pins))) (v := .ref a) S4 hN hi (.inl hln) rfl (fun s5 S5 => ?_) (.inr hln)
          refine wpAny_mono ((hsu a oe4 cls d (X.pn ++ pins) hz4 ⟨_, hd4⟩).run [] s5 _ H' _ S5 (hyes rfl a na)) (fun f s6 hsp => ?_) (fun _ _ z => False.elim z)
          have last : ∀ {σ6 : L2.St} {H6 : Hp} {Q : Shared → Prop}, Inv (X.suite a ((a, oe4) :: (X.pn ++ pins))) [] σ6 H6 s6 → (∀ s7, Inv X pins (σ6.set i none) H6 s7 → Q s7) →
              wpAny (model X.prog X.w) X.A (do bindName X.env n .none; unbindBehindTheSuite X.env n pos') (fun _ s7 => Q s7) X.xe s6 := fun S6 hq => gone_ok (S6.unsuite ok) hN hi hln hq
          cases f with
          | ret u =>
            obtain ⟨v6, σ6, H6, S6, r6, q6⟩ := hsp
            exact last S6 fun s7 J7 => ⟨_, _, _, J7, r6, q6⟩
          | next => exact let ⟨σ6, H6, S6, q6⟩ := hsp; last S6 fun s7 J7 => ⟨_, _, J7, q6⟩
          | brk => exact let ⟨σ6, H6, S6, q6⟩ := hsp; last S6 fun s7 J7 => ⟨_, _, J7, q6⟩
          | cont => exact let ⟨σ6, H6, S6, q6⟩ := hsp; last S6 fun s7 J7 => ⟨_, _, J7, q6⟩
    exact go hh w
  · cases f with
    | ret u => exact let ⟨v, σ', H', J', r, q⟩ := hsp; ⟨v, σ', H', J'.ofTry ok, r, q⟩
    | next => exact let ⟨σ', H', J', q⟩ := hsp; wpAny_execs_nil ⟨σ', H', J'.ofTry ok, q⟩
    | brk => exact let ⟨σ', H', J', q⟩ := hsp; ⟨σ', H', J'.ofTry ok, q⟩
    | cont => exact let ⟨σ', H', J', q⟩ := hsp; ⟨σ', H', J'.ofTry ok, q⟩
end
/-! ### in a suite: the caught error's field, isinstance of it -/
theorem EcC.xf {K : PySem.W.Frag} {C : Addr} (T : EcC K C) : XfC K C := ⟨T.ga, T.gg, T.exC, T.hdC⟩
/-- isinstance(e, c), e caught -/
def rIsS (K : PySem.W.Frag) (a : Addr) (cls : Value) : List V → Hp → VK → Prop := fun xs H Q => ∃ (C dd : Addr) (fs : List (Str × V)) (c : V) (cv : Value) (b : Bool), xs = [.ref a, c] ∧ cls = .ref C ∧ EcC K C ∧ H dd = some (.xd fs) ∧ ClsV c cv ∧ PySem.W.kitOne K (.ref C) cv = some b ∧ Q (.bl b) H
theorem call_isS {X : Cx} {a dd : Addr} {cls : Value} {oe : Obj} {pn : List (Addr × Obj)} (hz : Zc cls (some dd) oe) (hf : ∃ vs, oe.data = .fields vs) :
    CallR (X.suite a ((a, oe) :: pn)) (.builtin "isinstance") (fun xs H Q => ∃ (C : Addr) (fs : List (Str × V)) (c : V) (cv : Value) (b : Bool), xs = [.ref a, c] ∧ cls = .ref C ∧ EcC X.K C ∧ H dd = some (.xd fs) ∧ ClsV c cv ∧ PySem.W.kitOne X.K (.ref C) cv = some b ∧ Q (.bl b) H) := by
  intro pins s σ H xs us Q I r h
  obtain ⟨C, fs, c, cv, b, rfl, rfl, T, ed, kc, e, q⟩ := h
  obtain ⟨u1, u2, rfl, r1, r2⟩ := vals2 r
  obtain rfl := kc.eq r2
  obtain rfl : u1 = Value.ref a := r1
  obtain ⟨ha, _⟩ := I.pin (a, oe) (List.mem_append_left _ List.mem_cons_self)
  obtain ⟨vs, hd⟩ := hf
  obtain ⟨mA, hns, hr⟩ := (show ObjOk X.prog X.w H s.heap dd (.xd fs) from I.hok dd _ ed)
  obtain ⟨od, ho, hl⟩ := lookIn_ns hns
  have J : PySem.W.InstAt s.heap a oe C (some od) := ⟨ha, hz.1, by unfold PySem.W.notCls; rw [hd] <;> rfl, by rw [hz.2]; exact ho⟩
  exact PySem.W.kia_one (kit_exc T (od := some od)) I.kIn J e (fun z => nomatch z) fun tk => ⟨.bl b, H, I.tok tk, rfl, q⟩
end EX
set_option Elab.async false
set_option linter.all false
set_option maxRecDepth 100000
set_option maxHeartbeats 4000000
namespace EX
open PySem L2 PySem.Spec PyProof.Rows
/-! ### operators of own classes -/
/-- the class at C has the method nm, whose def keeps sp -/
structure Dun (P : Program) (w : World) (K : PySem.W.Frag) (mg : Str → Option Value) (base : Heap) (CX : CXT) (k : Nat) (C : Addr) (nm : Str) (ps : List Str) (sp : Sp) : Prop where
  ex : ∃ (f : Addr) (fd : FuncData), PySem.W.findIn K (.ref C) nm = some (some (.ref f)) ∧ PySem.W.isFn K (.ref f) = true ∧ PySem.W.fnIn K f = true ∧ FnOk P w K mg base CX k f fd ps sp ∧ Binds K fd ps []
section
variable {X : Cx} {CX : CXT} {k : Nat} {C : Addr} {nm : Str} {ps : List Str} {sp : Sp} {E : XK} {pins : List (Addr × Obj)} {σ : L2.St} {H : Hp} {s : Shared}
theorem vref (a : Addr) : RelV (.ref a) (.ref a) := rfl
/-- a def run at A, which stands at the frames of X -/
theorem run_in {A : Around} {f : Addr} {fd : FuncData} {Q : VK} {us : List Value} {vs : List V} (F : FnOk X.prog X.w X.K X.mg X.base CX k f fd ps sp) (hr : Room k A) (e0 : Env0 X.prog X.w X.K X.mg X.base A X.stack s H) (hb : Binds X.K fd ps []) (hx : Passes CX X E)
    (I : Inv X pins σ H s) (r : Vals vs us) (h : sp vs H Q E) : wpAny (model X.prog X.w) A (call (.ref f) us) (EP X pins σ Q) X.xe s := by
  have hl : us.length = ps.length := by rw [← r.length]; exact F.len _ _ _ _ h
  have b : BindsTo s fd ⟨us, []⟩ (ps.zip us) := by
    have := hb s us I.kIn (by rw [List.append_nil]; exact hl)
    rwa [List.append_nil] at this
  refine wpAny_call (codeAny_mono (F.run A X.stack s H ⟨us, []⟩ us vs Q E hr e0 b r h) ?_)
  rintro (e | fl) s' hq
  · exact hx pins σ H s e s' I hq
  · cases fl with
    | ret u => exact I.after hq
    | next => exact False.elim hq
    | brk => exact False.elim hq
    | cont => exact False.elim hq
theorem inst_at {a dx : Addr} {fs : List (Str × V)} (I : Inv X pins σ H s) (e : H a = some (.ins C dx fs)) : ∃ od, PySem.W.InstAt s.heap a (PySem.W.instObj C dx) C (some od) := by
  obtain ⟨mA, O, _⟩ := ins_get I.hok e
  obtain ⟨od, J, _⟩ := O.look
  exact ⟨od, J⟩
/-- o[i] -/
def tGetO (C : Addr) (sp : Sp) (E : XK) (to ti : TE) : TE := fun σ H Q => to σ H fun x H1 => ti σ H1 fun y H2 => ∃ a dx fs, x = .ref a ∧ H2 a = some (.ins C dx fs) ∧ sp [.ref a, y] H2 Q E
theorem pe_getO {o i : Expr} {to ti : TE} {pos : Pos} (D : Dun X.prog X.w X.K X.mg X.base CX k C "__getitem__" ps sp) (hr : Room (k + 1) X.A) (hx : Passes CX X E) (ho : PE X o to) (hi : PE X i ti)
    (hsl : ∀ x y, subscripted i true x y = runValue (.builtin "lifetime.subscript" ⟨[x, y], []⟩) := by intro _ _; with_unfolding_all rfl) : PE X (.Subscript o i pos) (tGetO C sp E to ti) := by
  refine ⟨fun pins s σ H Q I h => Subscript_ (binT ho hi I h ?_)⟩
  intro v u s2 x y H2 I2 rx ry ⟨a, dx, fs, ex, ea, q⟩
  subst ex
  obtain rfl : v = Value.ref a := rx
  obtain ⟨f, fd, at_, hf, hfi, F, hb⟩ := D.ex
  obtain ⟨od, J⟩ := inst_at I2 ea
  obtain ⟨m, hF⟩ := I2.fr
  exact PySem.W.sub_K hF I2.ok.mod.kin J at_ hfi hf (run_in F hr.in1 I2.env0.in1 hb hx I2 (.cons (vref a) (.cons ry .nil)) q) (hsl _ _)
/-- k in o, k not in o; the method hands back a bool -/
def rInO (C : Addr) (sp : Sp) (E : XK) (neg : Bool) : R2 := fun y x H Q => ∃ a dx fs, x = .ref a ∧ H a = some (.ins C dx fs) ∧ sp [.ref a, y] H (fun z H' => ∃ b, z = .bl b ∧ Q (.bl (if neg then !b else b)) H') E
theorem op_inO (D : Dun X.prog X.w X.K X.mg X.base CX k C "__contains__" ps sp) (hr : Room k X.A) (hx : Passes CX X E) : OpR X (compareOp .In) (rInO C sp E false) := by
  intro pins s σ H y x u v Q I ry rx h
  obtain ⟨a, dx, fs, ex, ea, q⟩ := h
  subst ex
  obtain rfl : v = Value.ref a := rx
  obtain ⟨f, fd, at_, hf, hfi, F, hb⟩ := D.ex
  obtain ⟨od, J⟩ := inst_at I ea
  obtain ⟨m, hF⟩ := I.fr
  refine PySem.W.in_K hF I.ok.mod.kin J at_ hf (thn (run_in F hr I.env0 hb hx I (.cons (vref a) (.cons ry .nil)) q) ?_)
  rintro r s1 ⟨z, H1, I1, rz, b, rfl, q1⟩
  obtain rfl : r = Value.bool b := rz
  exact wpAny_truthy_bool ⟨.bl b, H1, I1, rfl, q1⟩
theorem op_notInO (D : Dun X.prog X.w X.K X.mg X.base CX k C "__contains__" ps sp) (hr : Room k X.A) (hx : Passes CX X E) : OpR X (compareOp .NotIn) (rInO C sp E true) := by
  intro pins s σ H y x u v Q I ry rx h
  obtain ⟨a, dx, fs, ex, ea, q⟩ := h
  subst ex
  obtain rfl : v = Value.ref a := rx
  obtain ⟨f, fd, at_, hf, hfi, F, hb⟩ := D.ex
  obtain ⟨od, J⟩ := inst_at I ea
  obtain ⟨m, hF⟩ := I.fr
  refine PySem.W.notIn_K hF I.ok.mod.kin J at_ hf (thn (run_in F hr I.env0 hb hx I (.cons (vref a) (.cons ry .nil)) q) ?_)
  rintro r s1 ⟨z, H1, I1, rz, b, rfl, q1⟩
  obtain rfl : r = Value.bool b := rz
  exact wpAny_truthy_bool ⟨.bl (!b), H1, I1, rfl, q1⟩
/-- the type of any value, as the library looks at it -/
theorem tyx_looks {x : V} {u t : Value} (I : Inv X pins σ H s) (rx : RelV x u) (ty : TyX X.K H x t) : PySem.W.Looks (model X.prog X.w) s.heap (typeOf u) t := by
  obtain ⟨P, Z, p, _⟩ := kit_of I rx ty
  exact Z.ty _ _ I.kIn p
/-- x == y by x's own method; y anything whose type is not below x's class -/
def rEqO (K : PySem.W.Frag) (C : Addr) (sp : Sp) (E : XK) : R2 := fun x y H Q => ∃ a dx fs t, x = .ref a ∧ H a = some (.ins C dx fs) ∧ TyX K H y t ∧ PySem.W.notFirst K C t = true ∧ sp [.ref a, y] H Q E
theorem op_eqO (D : Dun X.prog X.w X.K X.mg X.base CX k C "__eq__" ps sp) (hr : Room k X.A) (hx : Passes CX X E) : OpR X (compareOp .Eq) (rEqO X.K C sp E) := by
  intro pins s σ H x y v u Q I rx ry h
  obtain ⟨a, dx, fs, t, ex, ea, ty, hn, q⟩ := h
  subst ex
  obtain rfl : v = Value.ref a := rx
  obtain ⟨f, fd, at_, hf, hfi, F, hb⟩ := D.ex
  obtain ⟨od, J⟩ := inst_at I ea
  obtain ⟨m, hF⟩ := I.fr
  refine PySem.W.cmp_K (op := .Eq) hr.units0 hF I.ok.mod.kin J (tyx_looks I ry ty) hn at_ hf (wpAny_mono (run_in F hr I.env0 hb hx I (.cons (vref a) (.cons ry .nil)) q) ?_ fun _ _ z => z)
  rintro r s1 ⟨z, H1, I1, rz, q1⟩
  exact SlX.cmpback rz ⟨z, H1, I1, rz, q1⟩
/-- x != y where the class has its own == alone: the other answer -/
def rNeO (K : PySem.W.Frag) (C : Addr) (sp : Sp) (E : XK) : R2 := fun x y H Q => ∃ a dx fs t, x = .ref a ∧ H a = some (.ins C dx fs) ∧ TyX K H y t ∧ PySem.W.notFirst K C t = true ∧ sp [.ref a, y] H (fun z H' => ∃ b, z = .bl b ∧ Q (.bl (!b)) H') E
/-- what != asks of the class -/
structure NeC (K : PySem.W.Frag) (C : Addr) : Prop where
  ne : PySem.W.findIn K (.ref C) "__ne__" = some (some (.builtin "object.__ne__"))
  ob : PySem.W.mroIn K C (.type "object") = some true
theorem op_neO (D : Dun X.prog X.w X.K X.mg X.base CX k C "__eq__" ps sp) (N : NeC X.K C) (hr : Room (k + 1) X.A) (hx : Passes CX X E) : OpR X (compareOp .NotEq) (rNeO X.K C sp E) := by
  intro pins s σ H x y v u Q I rx ry h
  obtain ⟨a, dx, fs, t, ex, ea, ty, hn, q⟩ := h
  subst ex
  obtain rfl : v = Value.ref a := rx
  obtain ⟨f, fd, at_, hf, hfi, Fn, hb⟩ := D.ex
  obtain ⟨od, J⟩ := inst_at I ea
  have KX := I.kIn
  have LTy := tyx_looks I ry ty
  have call1 := run_in Fn hr.in1 I.env0.in1 hb hx I (.cons (vref a) (.cons ry .nil)) q
  have sub : PySem.W.Looks (model X.prog X.w) s.heap (isInstance (.ref a) (.type "object")) true := J.type.andThen (PySem.W.looks_mroIn KX N.ob)
  have entry : wpAny (model X.prog X.w) X.A.in1 (Builtin.«object.__ne__» ⟨[.ref a, u], []⟩) (fun fin s' => ∃ b, fin = .done (.ret (.bool b)) ∧ EP X pins σ Q (.bool b) s') X.xe s := by
    unfold Builtin.«object.__ne__»
    refine wpAny_bind (wpAny_of_eq (a := ((Value.ref a : Value), [u])) (by first | rfl | (simp only [slotArgs]; rfl)) ?_)
    refine wpAny_bind (wpAny_cRoomFor hr.in1.units0 ?_)
    refine wpAny_bind (PySem.W.ifBound_K KX J at_ hf (wpAny_mono call1 ?_ fun _ _ z => z))
    rintro r s1 ⟨z, H1, I1, rz, b, rfl, q1⟩
    obtain rfl : r = Value.bool b := rz
    exact wpAny_bind (wpAny_truthy_bool (wpAny_pure ⟨!b, rfl, .bl (!b), H1, I1, rfl, q1⟩))
  have one : wpAny (model X.prog X.w) X.A (tryCompare (.ref a) "__ne__" u) (fun r s' => ∃ b, r = some (.bool b) ∧ EP X pins σ Q (.bool b) s') X.xe s := by
    unfold tryCompare
    have bnd : wpAny (model X.prog X.w) X.A (call (.builtin "object.__ne__") [.ref a, u]) (fun r s' => ∃ b, r = .bool b ∧ EP X pins σ Q (.bool b) s') X.xe s := by
      refine wpAny_call (codeAny_call_builtin PySem.F.cmp_object.ne.plain PySem.F.cmpEntry_ne (PySem.W.check_slot PySem.F.cmpKind_ne PySem.F.cmpSplit_ne sub (PySem.F.cmpArgs_ne _ _) (wpAny_mono entry ?_ fun _ _ z => z)))
      rintro fin s1 ⟨b, rfl, e⟩
      exact ⟨b, rfl, e⟩
    refine wpAny_bind (m := callSpecialIfBound? (.ref a) "__ne__" [u]) ?_
    simp only [callSpecialIfBound?, bindSpecialIfBound?]
    refine wpAny_holding (wpAny_bind (wpAny_bind (wpAny_bind (J.type.here ((PySem.W.looks_findIn KX N.ne).here ?_)))))
    simp only [PySem.F.cmp_object.ne.bind]
    refine wpAny_bind (wpAny_askSetting (wpAny_ite ?_))
    have fin : wpAny (model X.prog X.w) X.A (call (.builtin "object.__ne__") ([.ref a] ++ [u]) >>= fun v => pure (some v)) (fun r s' => wpAny (model X.prog X.w) X.A (match r with | some .notImplemented | none => pure none | some v => pure (some v)) (fun r s' => ∃ b, r = some (.bool b) ∧ EP X pins σ Q (.bool b) s') X.xe s') X.xe s := by
      refine wpAny_bind (wpAny_mono bnd ?_ fun _ _ z => z)
      rintro r s1 ⟨b, rfl, e⟩
      exact wpAny_pure (wpAny_pure ⟨b, rfl, e⟩)
    split
    · first | exact fin | exact wpAny_pure (by exact fin) | exact wpAny_bind (wpAny_pure (by exact fin))
    · first | exact wpAny_tryCatch fin | exact wpAny_tryCatch (wpAny_pure (by exact fin)) | exact wpAny_tryCatch (wpAny_bind (wpAny_pure (by exact fin)))
  show wpAny _ _ (richCompare .NotEq (.ref a) u) _ _ _
  unfold richCompare
  simp only [oneThing_ref]
  refine wpAny_holding (wpAny_bind (wpAny_cRoomFor hr.units0 ?_))
  refine wpAny_bind (J.type.here (wpAny_bind (LTy.here ?_)))
  have tail : ∀ {R : Value → Shared → Prop}, (∀ b s', EP X pins σ Q (.bool b) s' → R (.bool b) s') → True := fun _ => trivial
  split
  · rename_i hne
    have e : PySem.W.subIn X.K t (.ref C) = some false := by
      rcases Bool.or_eq_true_iff.mp hn with e | e
      · rw [beq_iff_eq.mp e] at hne
        simp at hne
      · exact beq_iff_eq.mp e
    refine wpAny_bind ((PySem.W.looks_subIn KX e).here ?_)
    simp only [Bool.false_eq_true, if_false]
    refine wpAny_bind (wpAny_mono one ?_ fun _ _ z => z)
    rintro r s1 ⟨b, rfl, q1⟩
    exact wpAny_pure q1
  · refine wpAny_bind (wpAny_pure ?_)
    simp only [Bool.false_eq_true, if_false]
    refine wpAny_bind (wpAny_mono one ?_ fun _ _ z => z)
    rintro r s1 ⟨b, rfl, q1⟩
    exact wpAny_pure q1
/-- truth by an own __bool__ -/
theorem tru_own (D : Dun X.prog X.w X.K X.mg X.base CX k C "__bool__" ps sp) (hr : Room k X.A) (hx : Passes CX X E) : TruR X (fun x H Q => ∃ a dx fs, x = .ref a ∧ H a = some (.ins C dx fs) ∧ sp [.ref a] H (fun z H' => ∃ b, z = .bl b ∧ Q b H') E) := by
  intro pins s σ H x v Q I rx h
  obtain ⟨a, dx, fs, ex, ea, q⟩ := h
  subst ex
  obtain rfl : v = Value.ref a := rx
  obtain ⟨f, fd, at_, hf, hfi, F, hb⟩ := D.ex
  obtain ⟨od, J⟩ := inst_at I ea
  obtain ⟨m, hF⟩ := I.fr
  refine PySem.W.truthy_K hF I.ok.mod.kin J at_ hf (wpAny_mono (run_in F hr I.env0 hb hx I (.cons (vref a) .nil) q) ?_ fun _ _ z => z)
  rintro r s1 ⟨z, H1, I1, rz, b, rfl, q1⟩
  obtain rfl : r = Value.bool b := rz
  exact ⟨H1, I1, q1⟩
/-- len(o) -/
def rLenO (C : Addr) (sp : Sp) (E : XK) : List V → Hp → VK → Prop := fun xs H Q => ∃ a dx fs, xs = [.ref a] ∧ H a = some (.ins C dx fs) ∧ sp [.ref a] H (fun z H' => ∃ n : Int, z = .int n ∧ 0 ≤ n ∧ n < 2 ^ 63 ∧ Q (.int n) H') E
theorem call_lenO (D : Dun X.prog X.w X.K X.mg X.base CX k C "__len__" ps sp) (hr : Room (k + 1) X.A) (hx : Passes CX X E) : CallR X (.builtin "len") (rLenO C sp E) := by
  intro pins s σ H xs us Q I r h
  obtain ⟨a, dx, fs, rfl, ea, q⟩ := h
  obtain ⟨u, rfl, ru⟩ := vals1 r
  obtain rfl : u = Value.ref a := ru
  obtain ⟨f, fd, at_, hf, hfi, F, hb⟩ := D.ex
  obtain ⟨od, J⟩ := inst_at I ea
  obtain ⟨m, hF⟩ := I.fr
  refine PySem.W.len_K hF I.ok.mod.kin J at_ hf (wpAny_mono (run_in F hr.in1 I.env0.in1 hb hx I (.cons (vref a) .nil) q) ?_ fun _ _ z => z)
  rintro r s1 ⟨z, H1, I1, rz, n, rfl, h0, h1, q1⟩
  obtain ⟨t, rfl⟩ : ∃ t, r = Value.int n t := rz
  exact ⟨⟨h0, h1⟩, .int n, H1, I1.tok _, ⟨_, rfl⟩, q1⟩
/-- a test by truth, the rule given -/
theorem pt_tru {e : Expr} {te : TE} {r : V → Hp → (Bool → Hp → Prop) → Prop} (hr : TruR X r) (he : PE X e te) (hw : ∀ whole, isTrue e X.env whole = (do let v ← whole; standAt e.pos; holding [v] (truthy v)) := by intro _; rfl) : PT X e (fun σ H Q => te σ H fun x H' => r x H' Q) := by
  refine ⟨fun pins s σ H Q I h => isTrue_plain (thn (he.run pins s σ H _ I h) ?_) (hw _)⟩
  rintro v s1 ⟨x, H1, I1, r1, q1⟩
  exact hr pins s1 σ H1 x v Q I1 r1 q1
end
end EX
set_option Elab.async false
set_option linter.all false
set_option maxRecDepth 100000
set_option maxHeartbeats 4000000
namespace EX
open PySem L2 PySem.Spec PyProof.Rows
/-! ### data of any depth, dicts among them; repr -/
def keyD : Key → PyData
  | .inl i => .int i
  | .inr x => .str x
mutual
/-- the value v is the data d: lists, tuples, dicts (keys ints and texts) of such -/
inductive Dq (K : PySem.W.Frag) (H : Hp) : V → PyData → Prop
  | non : Dq K H .non .none
  | bl (b : Bool) : Dq K H (.bl b) (.bool b)
  | int (i : Int) : Dq K H (.int i) (.int i)
  | str (x : Str) : Dq K H (.str x) (.str x)
  | lst {a : Addr} {xs : List V} {ds : List PyData} : SqL K H a xs → DqAll K H xs ds → Dq K H (.ref a) (.list ds)
  | tup {a : Addr} {xs : List V} {ds : List PyData} : SqT K H a xs → DqAll K H xs ds → Dq K H (.ref a) (.tuple ds)
  | dic {a : Addr} {kvs : List (Key × V)} {ds : List PyData} : H a = some (.dK kvs) → DqAll K H (kvs.map (·.2)) ds → Dq K H (.ref a) (.dict ((kvs.map fun p => keyD p.1).zip ds))
inductive DqAll (K : PySem.W.Frag) (H : Hp) : List V → List PyData → Prop
  | nil : DqAll K H [] []
  | cons {v : V} {vs : List V} {d : PyData} {ds : List PyData} : Dq K H v d → DqAll K H vs ds → DqAll K H (v :: vs) (d :: ds)
end
theorem sqt_same {K : PySem.W.Frag} {H H' : Hp} {a : Addr} {xs : List V} (s : Same H H') (h : SqT K H a xs) : SqT K H' a xs :=
  h.elim (fun z => .inl (z.elim (fun z => .inl (s _ _ z)) fun ⟨o, z⟩ => .inr ⟨o, s _ _ z⟩)) .inr
mutual
theorem Dq.mono {K : PySem.W.Frag} {H H' : Hp} (s : Same H H') : ∀ {v : V} {d : PyData}, Dq K H v d → Dq K H' v d
  | _, _, .non => .non
  | _, _, .bl b => .bl b
  | _, _, .int i => .int i
  | _, _, .str x => .str x
  | _, _, .lst h a => .lst (s.seq h) (DqAll.mono s a)
  | _, _, .tup h a => .tup (sqt_same s h) (DqAll.mono s a)
  | _, _, .dic h a => .dic (s _ _ h) (DqAll.mono s a)
theorem DqAll.mono {K : PySem.W.Frag} {H H' : Hp} (s : Same H H') : ∀ {vs : List V} {ds : List PyData}, DqAll K H vs ds → DqAll K H' vs ds
  | _, _, .nil => .nil
  | _, _, .cons h t => .cons (Dq.mono s h) (DqAll.mono s t)
end
theorem DqAll.length {K : PySem.W.Frag} {H : Hp} : ∀ {vs : List V} {ds : List PyData}, DqAll K H vs ds → vs.length = ds.length
  | _, _, .nil => rfl
  | _, _, .cons _ t => congrArg (· + 1) (DqAll.length t)
section
variable {X : Cx} {pins : List (Addr × Obj)} {σ : L2.St} {H : Hp} {s : Shared}
theorem Dq.key {u : Value} {k : Key} (h : (mixKind X.prog X.w).is k u = true) : Reads s.heap u (keyD k) [] := by
  rcases keyIs_shape (show keyIs k u = true from h) with ⟨i, t, rfl, rfl⟩ | ⟨x, t, rfl, rfl⟩
  · exact Reads.int i t
  · exact Reads.str x t
theorem keys_read : ∀ {kvs : List (Key × V)} {vs : List (Key × Value)} {es : List DictEntry}, KV kvs vs → Pairs (mixKind X.prog X.w) es vs →
    ReadsAll s.heap (es.map (·.key)) (kvs.map fun p => keyD p.1) [] ∧ Vals (kvs.map (·.2)) (es.map (·.val))
  | _, _, _, .nil, .nil => ⟨ReadsAll.nil, .nil⟩
  | _, _, _, .cons hk t, .cons h1 h2 te => by
    obtain ⟨r1, r2⟩ := keys_read t te
    refine ⟨ReadsAll.cons (as := []) (Dq.key (by rw [hk.1]; exact h1)) r1, .cons ?_ r2⟩
    show L2.RelV _ (DictEntry.val _)
    rw [h2]
    exact hk.2
/-- the addresses that are read: none of them the table of modules -/
def AsOk (as : List Addr) : Prop := sysModules ∉ as
mutual
/-- where every list (not tuple) that stands in the data is known not to be the table of modules -/
inductive DqS (K : PySem.W.Frag) (H : Hp) : V → PyData → Prop
  | non : DqS K H .non .none
  | bl (b : Bool) : DqS K H (.bl b) (.bool b)
  | int (i : Int) : DqS K H (.int i) (.int i)
  | str (x : Str) : DqS K H (.str x) (.str x)
  | lst {a : Addr} {xs : List V} {ds : List PyData} : a ≠ sysModules → SqL K H a xs → DqSAll K H xs ds → DqS K H (.ref a) (.list ds)
  | tup {a : Addr} {xs : List V} {ds : List PyData} : SqT K H a xs → DqSAll K H xs ds → DqS K H (.ref a) (.tuple ds)
  | dic {a : Addr} {kvs : List (Key × V)} {ds : List PyData} : H a = some (.dK kvs) → DqSAll K H (kvs.map (·.2)) ds → DqS K H (.ref a) (.dict ((kvs.map fun p => keyD p.1).zip ds))
inductive DqSAll (K : PySem.W.Frag) (H : Hp) : List V → List PyData → Prop
  | nil : DqSAll K H [] []
  | cons {v : V} {vs : List V} {d : PyData} {ds : List PyData} : DqS K H v d → DqSAll K H vs ds → DqSAll K H (v :: vs) (d :: ds)
end
theorem DqSAll.length {K : PySem.W.Frag} {H : Hp} : ∀ {vs : List V} {ds : List PyData}, DqSAll K H vs ds → vs.length = ds.length
  | _, _, .nil => rfl
  | _, _, .cons _ t => congrArg (· + 1) (DqSAll.length t)
mutual
theorem DqS.reads (I : Inv X pins σ H s) : ∀ {v : V} {d : PyData} {u : Value}, DqS X.K H v d → RelV v u → ∃ as, Reads s.heap u d as ∧ sysModules ∉ as
  | _, _, _, .non, r => by
    cases r
    exact ⟨_, Reads.none, by simp⟩
  | _, _, _, .bl b, r => by
    cases r
    exact ⟨_, Reads.bool b, by simp⟩
  | _, _, _, .int i, r => by
    obtain ⟨t, rfl⟩ := r
    exact ⟨_, Reads.int i t, by simp⟩
  | _, _, _, .str x, r => by
    obtain ⟨t, rfl⟩ := r
    exact ⟨_, Reads.str x t, by simp⟩
  | _, _, _, .lst na hs ha, r => by
    cases r
    obtain ⟨its, rv, ⟨o, n, ho, hc, _, hd⟩, _⟩ := I.list hs
    obtain ⟨as, hr, hn⟩ := DqSAll.reads I ha rv
    exact ⟨_, Reads.list ho hc hd hr, by simp only [List.mem_cons, not_or]; exact ⟨fun z => na z.symm, hn⟩⟩
  | _, _, _, .tup hs ha, r => by
    cases r
    obtain ⟨its, rv, ⟨o, ho, hc, n, hd⟩, _⟩ := I.tuple hs
    obtain ⟨as, hr, hn⟩ := DqSAll.reads I ha rv
    exact ⟨_, Reads.tuple ho hc hd hr, hn⟩
  | _, _, _, .dic (a := a) (kvs := kvs) (ds := ds) e ha, r => by
    cases r
    obtain ⟨_, hsm, vs, kv, o, es, ep, ho, hx, hd, _, hp, _⟩ := (show ObjOk X.prog X.w H s.heap a (.dK kvs) from I.hok a _ e)
    obtain ⟨rk, rv⟩ := keys_read (s := s) kv hp
    obtain ⟨bs, hr, hn⟩ := DqSAll.reads I ha rv
    have hl : (kvs.map fun p => keyD p.1).length = ds.length := by
      have := ha.length
      simpa using this
    have z1 : ((kvs.map fun p => keyD p.1).zip ds).map (·.1) = kvs.map fun p => keyD p.1 := List.map_fst_zip (by omega)
    have z2 : ((kvs.map fun p => keyD p.1).zip ds).map (·.2) = ds := List.map_snd_zip (by omega)
    refine ⟨a :: [] ++ bs, Reads.dict ho hx.1 hd (by rw [z1]; exact rk) (by rw [z2]; exact hr), ?_⟩
    simp only [List.cons_append, List.nil_append, List.mem_cons, not_or]
    exact ⟨fun z => by rw [← z] at hsm; simp at hsm, hn⟩
theorem DqSAll.reads (I : Inv X pins σ H s) : ∀ {vs : List V} {ds : List PyData} {us : List Value}, DqSAll X.K H vs ds → Vals vs us → ∃ as, ReadsAll s.heap us ds as ∧ sysModules ∉ as
  | _, _, _, .nil, r => by
    cases r
    exact ⟨_, ReadsAll.nil, by simp⟩
  | _, _, _, .cons h1 h2, r => by
    cases r with
    | cons r1 r2 =>
      obtain ⟨as, q1, n1⟩ := DqS.reads I h1 r1
      obtain ⟨bs, q2, n2⟩ := DqSAll.reads I h2 r2
      exact ⟨_, ReadsAll.cons q1 q2, by simp only [List.mem_append, not_or]; exact ⟨n1, n2⟩⟩
end
/-- repr(x) -/
def rRepq (K : PySem.W.Frag) : List V → Hp → VK → Prop := fun xs H Q => ∃ (x : V) (d : PyData), xs = [x] ∧ DqS K H x d ∧ d.showable = true ∧ d.depth ≤ 60 ∧ d.shown.length ≤ sizeLine ∧ Q (.str d.shown) H
theorem call_reprq (hg : X.A.guards = some []) (hu : X.A.units + 70 < cLine) : CallR X (.builtin "repr") (rRepq X.K) := by
  intro pins s σ H xs us Q I r h
  obtain ⟨x, d, rfl, hR, hs, hdp, hz, q⟩ := h
  obtain ⟨u, rfl, ru⟩ := vals1 r
  obtain ⟨as, hr, hsm⟩ := hR.reads I ru
  have sc : ∀ (b : Str), d.shown = b → ∀ tk, EP X pins σ Q (.str b tk) { s with toks := s.toks + 1 } := fun b e tk => ⟨.str b, H, I.tok _, ⟨_, rfl⟩, e ▸ q⟩
  have big : ∀ {a : Addr}, Reads s.heap (.ref a) d as → wpAny (model X.prog X.w) X.A (call (.builtin "repr") [.ref a]) (EP X pins σ Q) X.xe s := fun {a} hr =>
    repr_of_reads' hr hs (fun _ => hsm) hg (by omega) (fun _ _ e => e) (fun h' u tk k => ⟨.str _, H, I.kept k, ⟨_, rfl⟩, q⟩) hz
  cases hr with
  | none => exact PySem.P.repr_of_none (sc _ rfl _)
  | bool b => exact PySem.P.repr_of_bool (sc _ (by cases b <;> rfl) _)
  | int i t => exact PySem.P.repr_of_int (of_decide_eq_true hs) (sc _ rfl _)
  | str y t => exact PySem.P.repr_of_str (sc _ rfl _) hz
  | list h1 h2 h3 h4 => exact big (Reads.list h1 h2 h3 h4)
  | tuple h1 h2 h3 h4 => exact big (Reads.tuple h1 h2 h3 h4)
  | dict h1 h2 h3 h4 h5 => exact big (Reads.dict h1 h2 h3 h4 h5)
/-- a list display, its place not the table of modules -/
def tLstN (t : TA) : TE := fun σ H Q => t σ H fun xs H1 => xs.length ≤ sizeLine ∧ ∀ p, H1 p = none → p ≠ sysModules → Q (.ref p) (upd H1 p (.lst xs))
theorem pe_lstN {es : List Expr} {t : TA} {pos : Pos} (h : PA X es t) : PE X (.List es pos) (tLstN t) := by
  refine ⟨fun pins s σ H Q I hq => wpAny_List_spliced (thn (h.run pos pins s σ H _ I hq) ?_)⟩
  rintro us s1 ⟨xs, H1, I1, r, z, q⟩
  have hf : H1 s1.heap.objs.size = none := I1.hok.fresh (Nat.le_refl _)
  have J := I1.laid (t' := s1.toks) (a := s1.heap.objs.size) (o := .lst xs) (h' := s1.heap.push { cls := .type "list", data := .seq us.toArray 0 }) (fun b u e => Heap.get?_push_of_some _ e) (Nat.le_refl _) ⟨z, us, 0, r, Heap.get?_push_size _ rfl⟩
  exact ⟨by rw [← r.length]; exact z, .ref s1.heap.objs.size, _, J, rfl, q _ hf (fun e => by have := I1.big; rw [e] at this; exact Nat.lt_irrefl _ this)⟩
end
/-! ### defs that want to know that nothing is being shown (for repr) -/
structure FnG (P : Program) (w : World) (K : PySem.W.Frag) (mg : Str → Option Value) (base : Heap) (CX : CXT) (k : Nat) (f : Addr) (fd : FuncData) (ps : List Str) (sp : Sp) : Prop where
  run : ∀ (A : Around) (outer : List Env) (s : Shared) (H : Hp) (args : Args) (us : List Value) (vs : List V) (Q : VK) (E : XK), Room k A → A.guards = some [] → Env0 P w K mg base A outer s H → BindsTo s fd args (ps.zip us) → Vals vs us → sp vs H Q E →
    codeAny (model P w) A (.call (.ref f) args) (CR CX outer P w H s Q E) s
  len : ∀ (vs : List V) (H : Hp) (Q : VK) (E : XK), sp vs H Q E → vs.length = ps.length
theorem FnG.of {P : Program} {w : World} {K : PySem.W.Frag} {mg : Str → Option Value} {base : Heap} {CX : CXT} {k : Nat} {f : Addr} {fd : FuncData} {ps : List Str} {sp : Sp} (F : FnOk P w K mg base CX k f fd ps sp) : FnG P w K mg base CX k f fd ps sp :=
  ⟨fun A outer s H args us vs Q E hr _ e0 hb rv h => F.run A outer s H args us vs Q E hr e0 hb rv h, fun vs H Q E h => F.len vs H Q E h⟩
theorem guards_deeper {A : Around} {env : Env} (h : A.guards = some []) : (A.deeper env).guards = some [] := by
  first | exact h | simpa [Around.deeper] using h
theorem okG {P : Program} {w : World} {K : PySem.W.Frag} {mg : Str → Option Value} {base : Heap} {x qual : Str} {st : Stmt} {f : Addr} {fd : FuncData} {N ps : List Str} {k : Nat} {sp : Sp} (F : Fun K x qual st f fd) (S : FnScope N ps (defScope st))
    (len : ∀ vs H Q E, sp vs H Q E → vs.length = ps.length)
    (body : ∀ (cdv : Value) (A : Around) (outer : List Env) (s : Shared) (H : Hp) (vs : List V) (Q : VK) (E : XK), (A.deeper (envOfC qual (defScope st) s.heap.objs.size f cdv)).guards = some [] → Room k (A.deeper (envOfC qual (defScope st) s.heap.objs.size f cdv)) → sp vs H Q E →
      ∃ t, PSs (cxOf CX0 P w K mg base N qual (defScope st) f cdv A outer s H E) (defBody st) t ∧ t { nx := fun _ H' => Q .non H', rt := Q } (start N vs) H) : FnG P w K mg base CX0 (k + 1) f fd ps sp :=
  ⟨fun A outer s H args us vs Q E hr hg e0 hb rv h => fn_at F S hr e0 hb rv (len _ _ _ _ h) fun cdv hr' => body cdv A outer s H vs Q E (guards_deeper hg) hr' h, len⟩
structure DefG (P : Program) (w : World) (K : PySem.W.Frag) (mg : Str → Option Value) (base : Heap) (k : Nat) (x : Str) (ps : List Str) (sp : Sp) : Prop where
  ex : ∃ (f : Addr) (fd : FuncData), FnG P w K mg base CX0 k f fd ps sp ∧ mg x = some (.ref f) ∧ PySem.W.keepIn K (.ref f) = true ∧ Binds K fd ps []
section
variable {X : Cx} {e : Expr} {es : List Expr} {ta : TA} {p pos : Pos} {x : Str} {k : Nat} {ps : List Str} {sp : Sp}
theorem pe_callG (D : DefG X.prog X.w X.K X.mg X.base k x ps sp) (hr : Room k X.A) (hgu : X.A.guards = some []) (ha : PA X (e :: es) ta) (hg : Gl X x := by rfl) (hdb : (x == ("__debug__" : Str)) = false := by decide)
    (he : starEach (e :: es) X.env = (false, eval e X.env) :: starEach es X.env := by rfl) (hpl : (backTo pos (starEach es X.env)).any (·.1) = false := by rfl) : PE X (.Call (.Name x p) (e :: es) [] pos) (tCall sp [] E0 ta) := by
  obtain ⟨f, fd, F, m, kp, hb⟩ := D.ex
  refine ⟨fun pins s σ H Q I h => wpAny_Call_Name_kw (ld_glob I hg m (PySem.W.callWith_K (h₀ := X.base) I.ok.mod.kin kp (thn (ha.run pos pins s σ H _ I h) ?_) he hpl) hdb)⟩
  rintro us s1 ⟨vs, H1, I1, r, q⟩
  refine ⟨I1.kIn, ?_⟩
  have q' : sp vs H1 Q E0 := by
    have := q
    rwa [List.append_nil] at this
  have hl : us.length = ps.length := by rw [← r.length]; exact F.len _ _ _ _ q'
  have bt : BindsTo s1 fd ⟨us, []⟩ (ps.zip us) := by
    have := hb s1 us I1.kIn (by rw [List.append_nil]; exact hl)
    rwa [List.append_nil] at this
  refine wpAny_call (codeAny_mono (F.run X.A X.stack s1 H1 ⟨us, []⟩ us vs Q E0 hr hgu I1.env0 bt r q') ?_)
  rintro (er | fl) s' hq
  · exact False.elim hq
  · cases fl with
    | ret u => exact I1.after hq
    | next => exact False.elim hq
    | brk => exact False.elim hq
    | cont => exact False.elim hq
end
end EX
set_option Elab.async false
set_option linter.all false
set_option maxRecDepth 100000
set_option maxHeartbeats 4000000
/-! set(tuple of ints) as a value, sorted of a set of ints: up to a thousand of them -/
namespace L2
open PySem PySem.Spec PyProof.Rows Srt
section
variable {P : Program} {w : World} {A : Around} {E : Value → Shared → Prop} {s : Shared} {a : Addr}
theorem sorted_set_many {S : Int → Bool} {n : Nat} {Q : Value → Shared → Prop} (R : SetR w s.heap a S n) (hh : A.handled = none) (h64 : n ≤ 1000)
    (hQ : ∀ s' p (out : Array Value) (c : Nat) (ns : List Int), (∀ b o, s.heap.get? b = some o → s'.heap.get? b = some o) → s'.gens = s.gens → s'.os = s.os → s.heap.objs.size ≤ p →
      s'.heap.get? p = some (seqObj "list" out c) → IntsAre out.toList ns → ns.Pairwise (· < ·) → (∀ k, k ∈ ns ↔ S k = true) → ns.length = n → Q (.ref p) s') :
    wpAny (model P w) A (call (.builtin "sorted") [.ref a]) Q E s := by
  obtain ⟨o, es, ep, t, ho, hex, hd, g, nd, hm, hb, hf, hn, hr, hl⟩ := R
  refine Calls.call_function_entry kind_sorted plain_sorted entry_sorted (args_sorted1 _) ?_
  unfold Builtin.«sorted»
  refine wpAny_bind (m := checkCount "sorted" 1 1 _) (wpAny_pure ?_)
  refine wpAny_bind (collect_set (A := A.in1) hh ⟨o, ho, hex.1, hd⟩ hf hb hr hl fun s1 vs k1 hz g1 o1 pm => ?_)
  have hvl : vs.length = n := by rw [pm.length_eq, List.length_map, Array.length_toList]; exact hn
  have hI : IntsAre vs (vs.map Builtin.Re.reRawOf) := ints_of vs fun v hv => by
    obtain ⟨e, he, q⟩ := List.mem_map.mp (pm.mem_iff.mp hv)
    obtain ⟨k, tk, h1, _⟩ := g e he
    exact ⟨k, tk, by rw [← q]; exact h1⟩
  have pk : (vs.map Builtin.Re.reRawOf).Perm (es.toList.map keyOf) := by
    have q := pm.map Builtin.Re.reRawOf
    rw [List.map_map] at q
    exact q
  have hzl : vs.length ≤ sizeLine := by rw [hvl, sizeLine_eq]; omega
  refine wpAny_bind (wpAny_newList ?_ hzl)
  have hoL : (s1.heap.push (seqObj "list" vs.toArray 0)).get? s1.heap.objs.size = some (seqObj "list" vs.toArray 0) := Heap.get?_push_size _ rfl
  refine wpAny_bind (wpAny_holding (wpAny_call_entry slot_list_sort ⟨_, hoL, rfl⟩ entry_list_sort (SrtO.list_sort_ord SrtO.swo_int hoL hzl (fun h2 => SrtO.ints_sortable hI h2) fun out b1 b2 => ⟨_, rfl, ?_⟩) (args_list_sort _)))
  obtain ⟨a1, a2, a3⟩ := SrtO.ints_out hI b1 b2
  generalize hns : out.map SrtO.iv = ns' at a1 a2 a3
  obtain ⟨c, hc⟩ := sortedHeap_at (vs := vs) (out := out.toArray) hoL
  have pn : ns'.Perm (es.toList.map keyOf) := a2.trans pk
  refine wpAny_pure ⟨_, rfl, hQ _ s1.heap.objs.size out.toArray c ns' (fun b u e => ?_) g1 o1 hz hc a1 (lt_of_le_nodup ns' a3 (pn.nodup_iff.mpr nd)) (fun k => by rw [pn.mem_iff, ← hm k]) ?_⟩
  · have q := k1 b u e
    have hlt := Heap.lt_size q
    show (sortedHeap (s1.heap.push (seqObj "list" vs.toArray 0)) s1.heap.objs.size vs out.toArray).get? b = some u
    rw [sortedHeap_old (Nat.ne_of_lt hlt) (by rw [size_push']; exact Nat.lt_succ_of_lt hlt)]
    exact Heap.get?_push_of_some _ q
  · rw [pn.length_eq, List.length_map, Array.length_toList]; exact hn
end
section
variable {X : Cx}
/-- set(t), a tuple of ints -/
def rSetTup (K : PySem.W.Frag) (w : World) : List V → Hp → VK → Prop := fun xs H Q => ∃ (p : Addr) (ns : List Int), xs = [.ref p] ∧ SqT K H p (ns.map V.int) ∧ ns.length ≤ 1000 ∧
  ∀ (a : Addr) (c : Nat) (H' : Hp), Same H H' → H' a = some (SetO w a (fun j => decide (j ∈ ns)) c) → c ≤ ns.length → Q (.ref a) H'
theorem cr_setTup (hc : X.calm = true) : CallR X (.type "set") (rSetTup X.K X.w) := by
  intro pins s σ H xs us Q I r h
  obtain ⟨p0, ns, rfl, hq, hl, q⟩ := h
  rw [Vals.ref1 r]
  obtain ⟨its, rv, pt, hz⟩ := I.tuple hq
  have hi : IntsAre its.toArray.toList ns := ints_of_vals rv
  refine call_set_tupI ns (I.ok.hd hc) (show s.heap.IsTuple p0 its.toArray from pt) hi (by unfold scanBound; omega) fun h' tk c R1 hcn k => ?_
  exact ⟨.ref _, upd H s.heap.objs.size (SetO X.w s.heap.objs.size (fun j => decide (j ∈ ns)) c), I.laid (t' := tk) (fun b u e => k b u e) (Nat.le_refl _) (setO_new R1), rfl, q _ c _ (EX.Same.upd (I.hok.fresh (Nat.le_refl _))) upd_same hcn⟩
/-- sorted(found), up to a thousand members -/
def rSortedMany (w : World) : List V → Hp → VK → Prop := fun vs H Q => ∃ (a : Addr) (S : Int → Bool) (n : Nat), vs = [V.ref a] ∧ H a = some (SetO w a S n) ∧ n ≤ 1000 ∧
  ∀ (ns : List Int) (p : Addr) (H' : Hp), Same H H' → H' p = some (.lst (ns.map V.int)) → ns.Pairwise (· < ·) → (∀ k : Int, k ∈ ns ↔ S k = true) → ns.length = n → Q (.ref p) H'
theorem cr_sortedMany (hc : X.calm = true) : CallR X (.builtin "sorted") (rSortedMany X.w) := by
  intro pins s σ H vs us Q I r h
  obtain ⟨a, S, n, rfl, ha, h64, q⟩ := h
  have R := setO_get I ha
  rw [Vals.ref1 r]
  refine sorted_set_many R (I.ok.hd hc) h64 fun s' p out c ns k g o hp hg hi hs hm hl => ?_
  have hlen : (ns.map V.int).length ≤ sizeLine := by rw [List.length_map, hl, sizeLine_eq]; omega
  have hn : H p = none := I.hok.fresh hp
  have J : Inv X pins σ (upd H p (.lst (ns.map V.int))) { s with heap := s'.heap, gens := s'.gens, drawn := s'.drawn, toks := s'.toks } :=
    I.call (ch := []) (Un.laid k hp hn) (I.hok.laid k hp ⟨hlen, out.toList, c, vals_of_ints hi, hg⟩) (by rw [g]; exact I.bare) (fun _ z => nomatch z)
  have e : s' = { s with heap := s'.heap, gens := s'.gens, drawn := s'.drawn, toks := s'.toks } := by
    cases s'
    cases s
    cases o
    rfl
  rw [e]
  exact ⟨.ref p, _, J, rfl, q ns p _ (EX.Same.upd hn) upd_same hs hm hl⟩
end
/-- two rising lists with the same members are one -/
theorem rising_eq : ∀ {l m : List Int}, l.Pairwise (· < ·) → m.Pairwise (· < ·) → (∀ k, k ∈ l ↔ k ∈ m) → l = m
  | [], [], _, _, _ => rfl
  | [], y :: m, _, _, h => absurd ((h y).mpr List.mem_cons_self) (by simp)
  | x :: l, [], _, _, h => absurd ((h x).mp List.mem_cons_self) (by simp)
  | x :: l, y :: m, hl, hm, h => by
    have l1 := List.pairwise_cons.mp hl
    have m1 := List.pairwise_cons.mp hm
    have e : x = y := by
      rcases List.mem_cons.mp ((h x).mp List.mem_cons_self) with e | e
      · exact e
      · rcases List.mem_cons.mp ((h y).mpr List.mem_cons_self) with e2 | e2
        · exact e2.symm
        · have a := m1.1 x e
          have b := l1.1 y e2
          omega
    subst e
    have : l = m := rising_eq l1.2 m1.2 fun k => by
      constructor
      · intro hk
        rcases List.mem_cons.mp ((h k).mp (List.mem_cons_of_mem _ hk)) with e | e
        · have := l1.1 k hk
          omega
        · exact e
      · intro hk
        rcases List.mem_cons.mp ((h k).mpr (List.mem_cons_of_mem _ hk)) with e | e
        · have := m1.1 k hk
          omega
        · exact e
    rw [this]
end L2
set_option Elab.async false
set_option linter.all false
set_option maxRecDepth 100000
set_option maxHeartbeats 4000000
namespace EX
open PySem PySem.Spec L2 PyProof.Rows
section
variable {X : Cx}
/-- len of a dict, locked or not -/
theorem call_lenR : CallR X (.builtin "len") (fun us H Q => ∃ d kvs, us = [V.ref d] ∧ Rd H d (.dK kvs) ∧ Q (.int kvs.length) H) := by
  intro pins s σ H us vs Q I r h
  obtain ⟨d, kvs, rfl, hd, q⟩ := h
  obtain ⟨v, rfl, rv⟩ := vals1 r
  cases rv
  exact d_len I hd fun t s' I' => ⟨.int kvs.length, H, I', ⟨t, rfl⟩, q⟩
/-- a statement that is never reached -/
def tDead : TS := fun _ _ _ => False
theorem ps_dead {st : Stmt} : PS X st tDead := ⟨fun _ _ _ _ _ _ h => h.elim⟩
/-- name = {..: .. for ..} -/
theorem ps_setDc {j : Nat} {nm : Str} {pn : Pos} {ke ve tgt src : Expr} {conds : List Expr} {sc : Scope} {own : List (Str × Nat)} {p1 p2 : Pos} {ti : TI} {tg : TG} {tt : TT} {tk tv : TE}
    (calm : X.calm = true) (nd : X.N.Nodup) (at_ : X.N[j]? = some nm) (loc : X.env.scope.names.lookup nm = some .local) (sw : swapsWith (.DictComp ke ve [⟨tgt, src, conds, 0⟩] sc p1) (some (.Name nm pn)) p2.line X.env = pure true)
    (walk : PI X tgt src ti) (ok : BlkOk X.N X.env.scope sc own)
    (ht : ∀ (s : Shared) (H : Hp) (C : Addr) (cl : List (Str × Addr)) (fp : List Addr), PG (X.blk s H sc (compEnvC sc cl C X.env) fp) tgt tg)
    (hc : ∀ (s : Shared) (H : Hp) (C : Addr) (cl : List (Str × Addr)) (fp : List Addr), PTs (X.blk s H sc (compEnvC sc cl C X.env) fp) conds tt)
    (hk : ∀ (s : Shared) (H : Hp) (C : Addr) (cl : List (Str × Addr)) (fp : List Addr), PE (X.blk s H sc (compEnvC sc cl C X.env) fp) ke tk)
    (hv : ∀ (s : Shared) (H : Hp) (C : Addr) (cl : List (Str × Addr)) (fp : List Addr), PE (X.blk s H sc (compEnvC sc cl C X.env) fp) ve tv)
    (fold : ∀ x, foldedSetIterable src X.env x = pure x := by intro _; rfl) :
    PS X (.Assign [.Name nm pn] (.DictComp ke ve [⟨tgt, src, conds, 0⟩] sc p1) p2) (tAsg (tDc ti tg tt tk tv (own.map (·.2))) (gName j)) := by
  refine ⟨fun pins s0 σ0 H0 D0 I0 rd => ?_⟩
  rw [exec_Assign_Name_used _ _ _ _ sw]
  refine wpAny_bind (wpAny_standAt (wpAny_bind ?_))
  show wpAny _ X.A (do let _ ← comprehension (.DictComp ke ve [⟨tgt, src, conds, 0⟩] sc p1) sc X.env (firstIterPos [⟨tgt, src, conds, 0⟩] p1) newDict false (eval src X.env) (some (assign (.Name nm pn) X.env))) _ _ s0
  have rd' : tDc ti tg tt tk tv (own.map (·.2)) σ0 H0 (fun x Hx => gName j x σ0 Hx D0.nx) := rd
  refine wpAny_bind (thn (dc_core (Qf := fun _ se => SP X pins D0 .next se) calm nd I0 walk ok ht hc hk hv fold rd' fun L C se me He Ie q hn f => ?_) fun _ se hq => wpAny_pure (wpAny_pure hq))
  show wpAny _ _ (assign (.Name nm pn) X.env (.ref L)) _ _ _
  refine wpAny_assign_Name (store_ok2 (v := V.ref L) Ie nd at_ (.inl loc) rfl (fun sf If ⟨b, sb, hb⟩ => ?_) (.inr loc))
  obtain ⟨g0, g1, g2, g3, g4, g5⟩ := f
  have cb : C ≠ b := by
    rcases hb with z | z
    · rw [z]
      exact g1
    · exact fun e => g4 nm b z e.symm
  exact ⟨me, hn.sameBut sb cb, fun hl sl => ⟨_, He, If.turned (t' := sf.toks) (fun a o ha e => (sl.2 a ha).trans e) g0 g1 g3 g4 g5, q⟩⟩
theorem sw_dc {ke ve : Expr} {cs : List Comprehension} {sc : Scope} {p1 pn : Pos} {nm : Str} {l : Nat} {env : Env} (kd : env.scope.kind = .function) (loc : env.scope.names.lookup nm = some .local) (line : (pn.line == p1.line) = true)
    (free : (sc.names.any fun (m, k) => m == nm && (k == .local || k == .cell)) = false) : swapsWith (.DictComp ke ve cs sc p1) (some (.Name nm pn)) l env = pure true := by
  have k1 : env.kindOf nm = some .local := loc
  have k2 : env.blockKind = .function := by
    unfold Env.blockKind
    rw [kd]
    rfl
  unfold swapsWith
  simp only [k2, k1, free, Expr.pos, line]
  rfl
end
section
variable {J : It} {n : Nat} {G : Hp → Prop} {Y : Nat → Hp → V → Hp → Prop}
/-- a dict comprehension over a walk -/
theorem dc_it (wk : Walk J n G Y) {tg : TG} {tt : TT} {tk tv : TE} {vs : List Nat} {σ : L2.St} {H1 : Hp} {D : Addr} {Qd : Hp → Prop} (Pv : Nat → Hp → Prop) (h0 : Pv 0 (L2.upd H1 D (.dK []))) (hG : ∀ i H, i ≤ n → Pv i H → G H)
    (turn : ∀ i x H H', i < n → Pv i H → Y i H x H' → tg x (wipe σ vs) H' fun σ2 H2 => wipe σ2 vs = wipe σ vs ∧ tt σ2 H2 fun b H3 =>
      if b = true then tk σ2 H3 fun y H4 => tv σ2 H4 fun z H5 => ∃ kvs k, y = kV k ∧ H5 D = some (.dK kvs) ∧ kvs.length < sizeLine ∧ Pv (i + 1) (L2.upd H5 D (.dK (putK kvs k z))) else Pv (i + 1) H3) (fin : ∀ H, Pv n H → Qd H) :
    ∃ W : Nat → Nat → Hp → Prop, (∃ m, W 0 m (L2.upd H1 D (.dK []))) ∧ ∀ i m H, W i m H →
      (J.stop i H ∧ Qd H) ∨ (J.go i H ∧ ∃ Nx : Hp → Prop, (∀ H', Nx H' → ∃ m', m' < m ∧ W (i + 1) m' H') ∧ ∀ x H', J.yld i H x H' → tg x (wipe σ vs) H' fun σ2 H2 => wipe σ2 vs = wipe σ vs ∧ tt σ2 H2 fun b H3 =>
        if b = true then tk σ2 H3 fun y H4 => tv σ2 H4 fun z H5 => ∃ kvs k, y = kV k ∧ H5 D = some (.dK kvs) ∧ kvs.length < sizeLine ∧ Nx (L2.upd H5 D (.dK (putK kvs k z))) else Nx H3) := by
  refine ⟨fun i m H => (i ≤ n ∧ m = n - i) ∧ Pv i H, ⟨n, ⟨Nat.zero_le _, by simp⟩, h0⟩, fun i m H hw => ?_⟩
  obtain ⟨⟨hi, rfl⟩, p⟩ := hw
  have g := hG i H hi p
  rcases Nat.lt_or_ge i n with lt | ge
  · exact .inr ⟨wk.goes i H lt g, Pv (i + 1), fun H' p' => ⟨n - (i + 1), by omega, ⟨lt, rfl⟩, p'⟩, fun x H' y => turn i x H H' lt p (wk.yields i H x H' lt g y)⟩
  · obtain rfl : i = n := by omega
    exact .inl ⟨wk.stops H g, fin H p⟩
end
end EX
set_option Elab.async false
set_option linter.all false
set_option maxRecDepth 100000
set_option maxHeartbeats 4000000
/-! enumerate of a tuple, walked -/
namespace EnX
open PySem PySem.Spec
set_option maxHeartbeats 1000000 in
theorem makes_enum {v : Value} {o : Obj} {G : Heap → Prop} (B : Begins v o G) : Meets (Builtin.«enumerate.__new__» ⟨[.type "enumerate", v], []⟩) (fun _ R s => G s.heap ∧
    R (.ok (.ret (.ref (s.heap.push o).objs.size))) { s with heap := (s.heap.push o).push { cls := .type "enumerate", data := .fields #[.none, .bool false, .ref s.heap.objs.size, rawInt 0, .none, .none] } }) :=
  .of_wp fun pr wo Ar R s h => by
    obtain ⟨hp, gn, dr, tk, os⟩ := s
    obtain ⟨g0, h⟩ := h
    have subE := sub_enumerate
    have it0 : ∀ {A2 : Around} {E2 : Value → Shared → Prop} {Q2 : Value → Shared → Prop}, Q2 (.ref hp.objs.size) ⟨hp.push o, gn, dr, tk, os⟩ → wpAny (model pr wo) A2 (pyIter v) Q2 E2 ⟨hp, gn, dr, tk, os⟩ :=
      fun q => B.iter pr wo _ _ ⟨hp, gn, dr, tk, os⟩ _ g0 q
    wp_walk using it0
    refine wpAny_stack_any fun st => wpAny_pure ?_
    split
    · rename_i k _ _ _ _ _
      cases (k == Value.type "enumerate")
      · wp_walk using it0
        exact ⟨_, rfl, h⟩
      · wp_walk using it0
        exact ⟨_, rfl, h⟩
    · wp_walk using it0
      exact ⟨_, rfl, h⟩
theorem enum_call {pr : Program} {wo : World} {Ar : Around} {E : Value → Shared → Prop} {s : Shared} {v : Value} {o : Obj} {G : Heap → Prop} {Q : Value → Shared → Prop} (B : Begins v o G) (g : G s.heap)
    (h : ∀ hn, IsEnum hn (s.heap.objs.size + 1) s.heap.objs.size 0 .none → hn.get? s.heap.objs.size = some o → hn.objs.size = s.heap.objs.size + 2 →
      (∀ b u, s.heap.get? b = some u → hn.get? b = some u) → Q (.ref (s.heap.objs.size + 1)) { s with heap := hn }) :
    wpAny (model pr wo) Ar (call (.type "enumerate") [v]) Q E s := by
  refine callType_new F.called_enumerate (by decide) (F.typeCall_enumerate_1 _) (F.newCall_enumerate_1 _) (fun ob => F.args_object_init_2 ob _) F.entry_enumerate_new (makes_enum B) ⟨g, ?_⟩
  have size1 : (s.heap.push o).objs.size = s.heap.objs.size + 1 := Heap.size_push ..
  show _ ∧ _
  rw [size1]
  have isE : IsEnum ((s.heap.push o).push { cls := .type "enumerate", data := .fields #[.none, .bool false, .ref s.heap.objs.size, rawInt 0, .none, .none] }) (s.heap.objs.size + 1) s.heap.objs.size 0 .none := by
    have q := Heap.get?_push_size (s.heap.push o) (o := { cls := .type "enumerate", data := .fields #[.none, .bool false, .ref s.heap.objs.size, rawInt 0, .none, .none] }) rfl
    rw [size1] at q
    exact q
  exact ⟨⟨_, isE, rfl⟩, h _ isE (Heap.get?_push_of_some _ (Heap.get?_push_size _ B.free)) (by rw [Heap.size_push, size1]) fun b u x => Heap.get?_push_of_some _ (Heap.get?_push_of_some _ x)⟩
end EnX
namespace EX
open PySem PySem.Spec L2 PyProof.Rows
/-- the tuple at a, each item in a new pair with its number -/
def Itq (K : PySem.W.Frag) (a : Addr) : It :=
  ⟨fun i H => ∃ (ys : List V) (y : V), SqT K H a ys ∧ ys[i]? = some y, fun i H v H' => ∃ t y, v = .ref t ∧ H t = none ∧ H' = L2.upd H t (.tup [.int (i : Nat), y]) ∧ ∀ ys, SqT K H a ys → ys[i]? = some y, fun i H => ∃ ys : List V, SqT K H a ys ∧ ys.length = i⟩
theorem turn_q {P : Program} {w : World} {K : PySem.W.Frag} {elts : List Expr} {kk : Nat} {tpos : Pos} (a e it : Addr) :
    Turn P w K (.Tuple elts kk tpos) (Itq K a) [e, it] e (fun i h => (∃ old, IsEnum h e it ((i : Nat) : Int) old) ∧ h.IsTupleIter it a i ∧ e ≠ it) where
  mem := by simp
  obj := fun i h st b hb => by
    obtain ⟨⟨old, he⟩, ⟨o, ho, hc, hd⟩, _⟩ := st
    rcases (show b = e ∨ b = it by simpa using hb) with z | z
    · rw [z]
      exact ⟨_, he, fun v q => nomatch q⟩
    · rw [z]
      exact ⟨o, ho, fun v q => by rw [hd] at q; cases q⟩
  keep := fun i h h' st k => by
    obtain ⟨⟨old, he⟩, hi, hne⟩ := st
    exact ⟨⟨old, k e (by simp) _ he⟩, hi.at fun o q => k it (by simp) o q, hne⟩
  item := by
    intro X hP hw hK hc i pins s σ H E I hf st hg
    subst hP hw hK
    obtain ⟨⟨old, he⟩, hit, hne⟩ := st
    obtain ⟨ys, y, hq, hy⟩ := hg
    obtain ⟨its, rv, p, hz⟩ := I.tuple hq
    obtain ⟨u, hu, ru⟩ := rv.get hy
    have le : e < s.heap.objs.size := Heap.lt_size he
    have li : it < s.heap.objs.size := by
      obtain ⟨_, q, _⟩ := hit
      exact Heap.lt_size q
    have pt : s.heap.IsTuple a its.toArray := p
    have nai : a ≠ it := fun z => by
      obtain ⟨o1, h1, c1, _⟩ := hit
      obtain ⟨o2, h2, c2, _⟩ := pt
      rw [← z, h2] at h1
      cases h1
      rw [c2] at c1
      exact absurd c1 (by simp)
    have nae : e ≠ a := fun z => by
      obtain ⟨o2, h2, c2, _⟩ := pt
      have he' := he
      rw [z, IsEnum, h2] at he'
      cases he'
      exact absurd c2 (by simp)
    have hlen : i < its.toArray.size := by
      have := (List.getElem?_eq_some_iff.mp hu).1
      simpa using this
    refine wpAny_pyNext_enum_itemD (Draws.tuple (A := X.A.in1) (I.ok.hd hc) it a nai its.toArray) he ⟨hit, pt⟩ hlen hne (by simp [hne, nae]) fun x h' tk px ho hst hT hsz hk => ?_
    have ex : x = u := by
      have : its.toArray[i]? = some u := by simpa using hu
      exact Option.some.inj (px.symm.trans this)
    subst ex
    refine ⟨_, rfl, wpAny_letOwnedTupleGo_enum (s := { s with heap := h', toks := tk + 1 }) ho fun h2 he2 sb => ?_⟩
    have hT2 : h2.get? s.heap.objs.size = some { cls := .type "tuple", data := .seq #[.int i tk, x] } := (sb.2 _ (Nat.ne_of_gt le)).trans hT
    have fresh : ObjOk X.prog X.w (L2.upd H s.heap.objs.size (.tup [.int (i : Nat), y])) h2 s.heap.objs.size (.tup [.int (i : Nat), y]) :=
      ⟨by show 2 ≤ sizeLine; decide, [.int i tk, x], .cons ⟨_, rfl⟩ (.cons ru .nil), ⟨_, hT2, rfl, _, rfl⟩⟩
    have I1 : Inv X pins σ (L2.upd H s.heap.objs.size (.tup [.int (i : Nat), y])) { s with heap := h2, toks := tk + 1 } :=
      I.turnedNew (ch := [e, it]) (fun b ob hb q => (sb.2 b (fun z => hb (by simp [z]))).trans (hk b ob (fun z => hb (by simp [z])) (fun z => hb (by simp [z])) q)) hf (Nat.le_refl _) fresh
    refine ⟨.ref s.heap.objs.size, _, I1, rfl, ⟨_, y, rfl, I.hok.fresh (Nat.le_refl _), rfl, fun zs hz' => by rw [I.tuple_inj hz' hq]; exact hy⟩, ⟨⟨x, ?_⟩, hst.1.at fun o q => (sb.2 it (Ne.symm hne)).trans q, hne⟩, fun b hb => ?_⟩
    · rw [show ((i + 1 : Nat) : Int) = (i : Int) + 1 by omega]
      exact he2
    · have lb : b < s.heap.objs.size := by
        rcases (show b = e ∨ b = it by simpa using hb) with z | z
        · rw [z]; exact le
        · rw [z]; exact li
      rw [upd_ne (Nat.ne_of_lt lb)]
      exact (hf b hb).1
  done := by
    intro X hP hw hK hc i pins s σ H E I hf st hg
    subst hP hw hK
    obtain ⟨⟨old, he⟩, hit, hne⟩ := st
    obtain ⟨ys, hq, hy⟩ := hg
    obtain ⟨its, rv, p, hz⟩ := I.tuple hq
    obtain ⟨f0, f1, f2, f3, f4, f5⟩ := hf it (by simp)
    have pt : s.heap.IsTuple a its.toArray := p
    have nai : a ≠ it := fun z => by
      obtain ⟨o1, h1, c1, _⟩ := hit
      obtain ⟨o2, h2, c2, _⟩ := pt
      rw [← z, h2] at h1
      cases h1
      rw [c2] at c1
      exact absurd c1 (by simp)
    have en : i = its.toArray.size := by
      have hl := rv.length
      rw [List.size_toArray]
      omega
    subst en
    exact wpAny_pyNext_enum_endD (Draws.tuple (A := X.A.in1) (I.ok.hd hc) it a nai its.toArray) he ⟨hit, pt⟩ fun h' eb => ⟨rfl, I.turned (t' := s.toks) (fun b o hb q => eb b o hb q) f0 f1 f3 f4 f5⟩
  self := fun A i s Q E st h => by
    obtain ⟨⟨_, he⟩, _⟩ := st
    exact wpAny_pyIter_enum he h
def iEnq (K : PySem.W.Frag) (ta : TA) : TI := fun σ H R => ta σ H fun vs H1 => ∃ a ys, vs = [.ref a] ∧ SqT K H1 a ys ∧ R (Itq K a) H1
/-- for i, x in enumerate(a tuple) -/
theorem pi_enq {X : Cx} {e : Expr} {ta : TA} {p pos tpos : Pos} {elts : List Expr} {kk : Nat} (gl : Gl X "enumerate") (no : X.mg "enumerate" = none) (args : PA X [e] ta) (st : starEach [e] X.env = [(false, eval e X.env)] := by rfl) :
    PI X (.Tuple elts kk tpos) (.Call (.Name "enumerate" p) [e] [] pos) (iEnq X.K ta) := by
  refine ⟨fun pins s σ H R I h => ?_⟩
  refine Call_ (ld_blt I gl no boot_enumerate (PyProof.Rows.callWith_type1 (thn (args.run pos pins s σ H _ I h) fun us s1 ⟨vs, H1, I1, r1, q1⟩ => ?_) st rfl))
  obtain ⟨a, ys, ex, hq, q⟩ := q1
  subst ex
  cases r1 with
  | cons r rr =>
    cases rr
    cases r
    obtain ⟨its, rv, pt, hz⟩ := I1.tuple hq
    have pt' : s1.heap.IsTuple a its.toArray := pt
    refine EnX.enum_call (begins_tuple a its.toArray) pt' fun hn he hit hsz hk => wpAny_pyIter_enum he ?_
    have I2 : Inv X pins σ H1 { s1 with heap := hn } := I1.kept (t' := s1.toks) hk
    refine ⟨s1.heap.objs.size + 1, [s1.heap.objs.size + 1, s1.heap.objs.size], _, _, H1, rfl, I2, turn_q a (s1.heap.objs.size + 1) s1.heap.objs.size, ⟨⟨.none, he⟩, ⟨_, hit, rfl, rfl⟩, Nat.succ_ne_self _⟩, fun b hb => ?_, q⟩
    have le : s1.heap.objs.size ≤ b := by
      rcases (show b = s1.heap.objs.size + 1 ∨ b = s1.heap.objs.size by simpa using hb) with z | z
      · rw [z]; exact Nat.le_add_right _ _
      · rw [z]; exact Nat.le_refl _
    exact I1.fpOk le (I1.hok.fresh le)
theorem walk_enq {K : PySem.W.Frag} {a : Addr} {xs : List V} : Walk (Itq K a) xs.length (fun H => SqT K H a xs) (YPair (fun i => some (.int (i : Nat))) (fun i => xs[i]?)) := by
  refine ⟨fun i _ hi q => ⟨xs, xs[i], q, by simp [hi]⟩, fun _ q => ⟨xs, q, rfl⟩, fun i H v H2 _ q y => ?_⟩
  obtain ⟨t, x, h1, h2, h3, h4⟩ := y
  exact ⟨t, .int (i : Nat), x, h1, h2, h3, rfl, h4 xs q⟩
end EX
set_option Elab.async false
set_option linter.all false
set_option maxRecDepth 100000
set_option maxHeartbeats 4000000
namespace EX
open PySem L2 PySem.Spec PyProof.Rows
/-! ### defs that may raise -/
structure DefX (P : Program) (w : World) (K : PySem.W.Frag) (mg : Str → Option Value) (base : Heap) (k : Nat) (x : Str) (ps : List Str) (sp : Sp) : Prop where
  ex : ∃ (f : Addr) (fd : FuncData), FnOk P w K mg base (L2.CX P w) k f fd ps sp ∧ mg x = some (.ref f) ∧ PySem.W.keepIn K (.ref f) = true ∧ Binds K fd ps []
section
variable {X : Cx} {e : Expr} {es : List Expr} {ta : TA} {p pos : Pos} {x : Str} {k : Nat} {ps : List Str} {sp : Sp}
/-- called where it doesn't raise -/
theorem pe_callX (D : DefX X.prog X.w X.K X.mg X.base k x ps sp) (hr : Room k X.A) (ha : PA X (e :: es) ta) (hg : Gl X x := by rfl) (hdb : (x == ("__debug__" : Str)) = false := by decide)
    (he : starEach (e :: es) X.env = (false, eval e X.env) :: starEach es X.env := by rfl) (hpl : (backTo pos (starEach es X.env)).any (·.1) = false := by rfl) : PE X (.Call (.Name x p) (e :: es) [] pos) (tCall sp [] E0 ta) := by
  obtain ⟨f, fd, F, m, kp, b⟩ := D.ex
  exact pe_call F hr hg m kp b .nil passL ha hdb he hpl
/-- called where what it raises goes on -/
theorem pe_callU {W : WX} (D : DefX X.prog X.w X.K X.mg X.base k x ps sp) (hr : Room k X.A) (tk : Takes X W) (ha : PA X (e :: es) ta) (hg : Gl X x := by rfl) (hdb : (x == ("__debug__" : Str)) = false := by decide)
    (he : starEach (e :: es) X.env = (false, eval e X.env) :: starEach es X.env := by rfl) (hpl : (backTo pos (starEach es X.env)).any (·.1) = false := by rfl) : PE X (.Call (.Name x p) (e :: es) [] pos) (tCallS sp (WE W) ta) := by
  obtain ⟨f, fd, F, m, kp, b⟩ := D.ex
  exact pe_callS F hr hg m kp b (fun σ => passAt tk σ) ha hdb he hpl
end
end EX
set_option linter.all false
set_option autoImplicit false
namespace M72
inductive Item where
  | w
  | r (n : Nat)
  deriving DecidableEq
open Item
def isW : Option Item → Bool
  | some .w => true
  | _ => false
/-- the places of writes among the first k items -/
def wrTo (its : List Item) (k : Nat) : List Nat := (List.range k).filter fun j => isW its[j]?
def servedGo : List Item → Nat → List Nat → Nat → Bool
  | [], _, _, _ => true
  | .w :: t, i, ps, age => servedGo t (i + 1) ps (if i ∈ ps then 0 else age + 1)
  | .r n :: t, i, ps, age => if n < age then false else servedGo t (i + 1) ps age
def served (its : List Item) (ps : List Nat) : Bool := servedGo its 0 ps 0
def wstart (its : List Item) (q n : Nat) : Option Nat := if n < (wrTo its q).length then (wrTo its q)[(wrTo its q).length - 1 - n]? else none
def needOf : Option Item → Option Nat
  | some (.r n) => some n
  | _ => none
def startAt (its : List Item) (q : Nat) : Option Nat := (needOf its[q]?).bind fun n => wstart its q n

theorem wrTo_succ (its : List Item) (k : Nat) : wrTo its (k + 1) = wrTo its k ++ (if isW its[k]? = true then [k] else []) := by
  unfold wrTo
  rw [List.range_succ, List.filter_append]
  congr 1
  by_cases h : isW its[k]? = true
  · simp [h]
  · simp [h]
theorem mem_wrTo {its : List Item} {k j : Nat} : j ∈ wrTo its k ↔ j < k ∧ isW its[j]? = true := by
  unfold wrTo
  rw [List.mem_filter, List.mem_range]
theorem wrTo_lt {its : List Item} {k : Nat} : ∀ j ∈ wrTo its k, j < k := fun j h => (mem_wrTo.mp h).1
theorem wrTo_sorted (its : List Item) : ∀ k, (wrTo its k).Pairwise (· < ·)
  | 0 => by simp [wrTo]
  | k + 1 => by
    rw [wrTo_succ]
    refine List.pairwise_append.mpr ⟨wrTo_sorted its k, by split <;> simp, fun a ha b hb => ?_⟩
    split at hb
    · simp at hb
      subst hb
      exact wrTo_lt a ha
    · simp at hb
/-- writes from p + 1 on below k -/
def after (its : List Item) (p k : Nat) : Nat := ((wrTo its k).filter fun j => decide (p < j)).length
theorem after_succ_w {its : List Item} {p k : Nat} (h : isW its[k]? = true) (hp : p < k) : after its p (k + 1) = after its p k + 1 := by
  unfold after
  rw [wrTo_succ, if_pos h, List.filter_append, List.length_append]
  simp [hp]
theorem after_succ_n {its : List Item} {p k : Nat} (h : ¬ isW its[k]? = true) : after its p (k + 1) = after its p k := by
  unfold after
  rw [wrTo_succ, if_neg h, List.append_nil]
theorem after_self {its : List Item} {k : Nat} : after its k (k + 1) = 0 := by
  unfold after
  rw [List.length_eq_zero_iff, List.filter_eq_nil_iff]
  intro j hj
  have := wrTo_lt j hj
  simp
  omega
/-- what the age is: the writes behind the last push -/
def AgeIs (its : List Item) (ps : List Nat) (i age : Nat) : Prop :=
  age = (wrTo its i).length ∨ ∃ p, p ∈ ps ∧ p < i ∧ age = after its p i
theorem served_age (its : List Item) (ps : List Nat) : ∀ (t : List Item) (i age : Nat), its.drop i = t → AgeIs its ps i age → servedGo t i ps age = true →
    ∀ (q n : Nat), i ≤ q → its[q]? = some (.r n) → ∃ a, AgeIs its ps q a ∧ a ≤ n
  | [], i, age, ht, ha, hs, q, n, hq, hn => by
    have : its.length ≤ i := by
      have := congrArg List.length ht
      simp at this
      omega
    rw [List.getElem?_eq_none (by omega)] at hn
    cases hn
  | x :: t, i, age, ht, ha, hs, q, n, hq, hn => by
    have hi : its[i]? = some x := by
      have h2 : (its.drop i)[0]? = some x := by rw [ht]; rfl
      rw [List.getElem?_drop] at h2
      simpa using h2
    have ht' : its.drop (i + 1) = t := by
      rw [← List.drop_drop, ht]
      rfl
    cases x with
    | w =>
      have hw : isW its[i]? = true := by rw [hi]; rfl
      have hqi : i ≠ q := fun e => by
        rw [← e, hi] at hn
        cases hn
      refine served_age its ps t (i + 1) _ ht' ?_ hs q n (by omega) hn
      by_cases hp : i ∈ ps
      · rw [if_pos hp]
        exact .inr ⟨i, hp, by omega, after_self.symm⟩
      · rw [if_neg hp]
        rcases ha with ha | ⟨p, h1, h2, h3⟩
        · left
          rw [wrTo_succ, if_pos hw, List.length_append, ha]
          rfl
        · exact .inr ⟨p, h1, by omega, by rw [after_succ_w hw h2, h3]⟩
    | r m =>
      have hw : ¬ isW its[i]? = true := by rw [hi]; simp [isW]
      unfold servedGo at hs
      by_cases hm : m < age
      · rw [if_pos hm] at hs
        cases hs
      · rw [if_neg hm] at hs
        by_cases e : i = q
        · subst e
          rw [hi] at hn
          cases hn
          exact ⟨age, ha, by omega⟩
        · refine served_age its ps t (i + 1) age ht' ?_ hs q n (by omega) hn
          rcases ha with ha | ⟨p, h1, h2, h3⟩
          · left
            rw [wrTo_succ, if_neg hw, List.append_nil, ha]
          · exact .inr ⟨p, h1, by omega, by rw [after_succ_n hw, h3]⟩
/-- n + 1 writes stand from the start on -/
theorem after_wstart {its : List Item} {q n s p : Nat} (h : wstart its q n = some s) (hp : p < s) : n < after its p q := by
  unfold wstart at h
  split at h
  · rename_i hn
    have srt := wrTo_sorted its q
    have hget : (wrTo its q)[(wrTo its q).length - 1 - n]? = some s := h
    have hsub : ((wrTo its q).drop ((wrTo its q).length - 1 - n)).length = n + 1 := by
      rw [List.length_drop]
      omega
    have hall : ∀ j ∈ (wrTo its q).drop ((wrTo its q).length - 1 - n), p < j := by
      intro j hj
      obtain ⟨i, hi⟩ := List.mem_iff_getElem?.mp hj
      rw [List.getElem?_drop] at hi
      rcases Nat.eq_zero_or_pos i with z | z
      · subst z
        rw [Nat.add_zero, hget] at hi
        cases hi
        exact hp
      · have h1 := (List.getElem?_eq_some_iff.mp hget)
        have h2 := (List.getElem?_eq_some_iff.mp hi)
        obtain ⟨b1, e1⟩ := h1
        obtain ⟨b2, e2⟩ := h2
        have := List.pairwise_iff_getElem.mp srt _ _ b1 b2 (by omega)
        rw [e1, e2] at this
        omega
    have : ((wrTo its q).drop ((wrTo its q).length - 1 - n)).length ≤ after its p q := by
      unfold after
      refine List.Sublist.length_le ?_
      have := List.Sublist.filter (fun j => decide (p < j)) (List.drop_sublist ((wrTo its q).length - 1 - n) (wrTo its q))
      rwa [List.filter_eq_self.mpr (fun j hj => decide_eq_true (hall j hj))] at this
    omega
  · cases h
/-- every read that needs a push has one within its window -/
theorem window {its : List Item} {ps : List Nat} (hs : served its ps = true) {q n s : Nat} (hq : its[q]? = some (.r n)) (h : wstart its q n = some s) : ∃ p, p ∈ ps ∧ s ≤ p ∧ p < q := by
  obtain ⟨a, ha, hle⟩ := served_age its ps its 0 0 rfl (.inl rfl) hs q n (Nat.zero_le _) hq
  rcases ha with ha | ⟨p, h1, h2, h3⟩
  · unfold wstart at h
    split at h
    · omega
    · cases h
  · refine ⟨p, h1, ?_, h2⟩
    rcases Nat.lt_or_ge p s with z | z
    · have := after_wstart h z
      omega
    · exact z
/-- reads each of which needs a push, any two neighbours two -/
def Barred (its : List Item) : List Nat → Prop
  | [] => True
  | [q] => ∃ n s, its[q]? = some (.r n) ∧ wstart its q n = some s
  | q :: q2 :: t => (∃ n s, its[q]? = some (.r n) ∧ wstart its q n = some s) ∧ (∃ s2, startAt its q2 = some s2 ∧ q ≤ s2) ∧ Barred its (q2 :: t)
theorem Barred.head {its : List Item} : ∀ {q : Nat} {t : List Nat}, Barred its (q :: t) → ∃ n s, its[q]? = some (.r n) ∧ wstart its q n = some s
  | _, [], h => h
  | _, _ :: _, h => h.1
theorem Barred.tail {its : List Item} : ∀ {q : Nat} {t : List Nat}, Barred its (q :: t) → Barred its t
  | _, [], _ => True.intro
  | _, _ :: _, h => h.2.2
/-- as many different pushes, from the first window's start on -/
theorem distinct {its : List Item} {ps : List Nat} (hs : served its ps = true) : ∀ {rs : List Nat}, Barred its rs →
    ∃ cs : List Nat, cs.length = rs.length ∧ (∀ c ∈ cs, c ∈ ps) ∧ cs.Pairwise (· < ·) ∧ ∀ q t, rs = q :: t → ∀ s, startAt its q = some s → ∀ c ∈ cs, s ≤ c
  | [], _ => ⟨[], rfl, by simp, .nil, fun q t e => by cases e⟩
  | [q], h => by
    obtain ⟨n, s, h1, h2⟩ := h
    obtain ⟨p, p1, p2, p3⟩ := window hs h1 h2
    refine ⟨[p], rfl, by simpa using p1, by simp, fun q' t e s' es c hc => ?_⟩
    cases e
    simp at hc
    subst hc
    have : startAt its q = some s := by unfold startAt; rw [h1]; exact h2
    rw [this] at es
    cases es
    exact p2
  | q :: q2 :: t, h => by
    obtain ⟨⟨n, s, h1, h2⟩, ⟨s2, h3, h4⟩, h5⟩ := h
    obtain ⟨cs, c1, c2, c3, c4⟩ := distinct hs h5
    obtain ⟨p, p1, p2, p3⟩ := window hs h1 h2
    refine ⟨p :: cs, by simp [c1], fun c hc => ?_, List.pairwise_cons.mpr ⟨fun c hc => ?_, c3⟩, fun q' t' e s' es c hc => ?_⟩
    · rcases List.mem_cons.mp hc with rfl | hc
      · exact p1
      · exact c2 c hc
    · have := c4 q2 t rfl s2 h3 c hc
      omega
    · cases e
      have : startAt its q = some s := by unfold startAt; rw [h1]; exact h2
      rw [this] at es
      cases es
      rcases List.mem_cons.mp hc with rfl | hc
      · exact p2
      · have := c4 q2 t rfl s2 h3 c hc
        omega
theorem nodup_of_lt {l : List Nat} (h : l.Pairwise (· < ·)) : l.Nodup := h.imp fun h => Nat.ne_of_lt h
theorem length_le_of_subset : ∀ {l m : List Nat}, l.Nodup → (∀ x ∈ l, x ∈ m) → l.length ≤ m.length
  | [], _, _, _ => Nat.zero_le _
  | x :: l, m, hn, hs => by
    have hx : x ∈ m := hs x (List.mem_cons_self ..)
    have h1 : l.length ≤ (m.erase x).length := length_le_of_subset (List.nodup_cons.mp hn).2 fun y hy => by
      have : y ≠ x := fun e => (List.nodup_cons.mp hn).1 (e ▸ hy)
      exact (List.mem_erase_of_ne this).mpr (hs y (List.mem_cons_of_mem _ hy))
    rw [List.length_erase_of_mem hx] at h1
    have : 0 < m.length := List.length_pos_of_mem hx
    simp
    omega
theorem fewest {its : List Item} {ps rs : List Nat} (hs : served its ps = true) (hb : Barred its rs) : rs.length ≤ ps.length := by
  obtain ⟨cs, c1, c2, c3, _⟩ := distinct hs hb
  rw [← c1]
  exact length_le_of_subset (nodup_of_lt c3) c2
/-! ### all choices -/
def pick (ns : List Nat) (f : List Nat → List (List Nat)) : List (List Nat) := (List.range ns.length).flatMap fun i => (f (ns.drop (i + 1))).map fun c => ns.getD i 0 :: c
def choices (ns : List Nat) : Nat → List (List Nat)
  | 0 => [[]]
  | m + 1 => (List.range ns.length).flatMap fun i => (choices (ns.drop (i + 1)) m).map fun c => ns.getD i 0 :: c
theorem choices_spec : ∀ (m : Nat) (ns c : List Nat), c ∈ choices ns m ↔ c.length = m ∧ c.Sublist ns
  | 0, ns, c => by
    simp only [choices, List.mem_singleton, List.length_eq_zero_iff]
    constructor
    · rintro rfl
      exact ⟨rfl, List.nil_sublist _⟩
    · exact fun h => h.1
  | m + 1, ns, c => by
    simp only [choices, List.mem_flatMap, List.mem_range, List.mem_map]
    constructor
    · rintro ⟨i, hi, d, hd, rfl⟩
      obtain ⟨h1, h2⟩ := (choices_spec m _ d).mp hd
      refine ⟨by simp [h1], ?_⟩
      have e : ns.drop i = ns.getD i 0 :: ns.drop (i + 1) := by
        rw [List.drop_eq_getElem_cons hi]
        simp [List.getD, hi]
      have : (ns.getD i 0 :: d).Sublist (ns.drop i) := by
        rw [e]
        exact h2.cons_cons _
      exact this.trans (List.drop_sublist _ _)
    · rintro ⟨h1, h2⟩
      cases c with
      | nil => simp at h1
      | cons x d =>
        have aux : ∀ (ns : List Nat), (x :: d).Sublist ns → ∃ i, i < ns.length ∧ ns.getD i 0 = x ∧ d.Sublist (ns.drop (i + 1)) := by
          intro ns
          induction ns with
          | nil => intro h; cases h
          | cons y t ih =>
            intro h
            cases h with
            | cons _ h =>
              obtain ⟨i, a, b, e⟩ := ih h
              exact ⟨i + 1, by simp; omega, by simpa [List.getD] using b, by simpa using e⟩
            | cons_cons _ h => exact ⟨0, by simp, by simp [List.getD], by simpa using h⟩
        obtain ⟨i, a, b, e⟩ := aux ns h2
        exact ⟨i, a, d, (choices_spec m _ d).mpr ⟨by simpa using h1, e⟩, by rw [b]⟩
/-- how many choices there are at most -/
theorem choices_len : ∀ (m : Nat) (ns : List Nat), (choices ns m).length ≤ 2 ^ ns.length := by
  intro m
  induction m with
  | zero => intro ns; simp [choices]; exact Nat.one_le_two_pow
  | succ m ih =>
    intro ns
    induction ns with
    | nil => simp [choices]
    | cons x t iht =>
      have e : choices (x :: t) (m + 1) = (choices t m).map (fun c => x :: c) ++ choices t (m + 1) := by
        simp only [choices, List.length_cons, List.range_succ_eq_map, List.flatMap_cons, List.flatMap_map]
        simp [List.getD]
      rw [e, List.length_append, List.length_map, List.length_cons, Nat.pow_succ]
      have := ih t
      omega
def wr (its : List Item) : List Nat := wrTo its its.length
def hits (its : List Item) (m : Nat) : List (List Nat) := (choices (wr its) m).filter fun c => served its c
/-- what the result must be -/
structure FewOk (its : List Item) (ps rs : List Nat) : Prop where
  len : ps.length = rs.length
  up : ps.Pairwise (· < ·)
  ws : ∀ p ∈ ps, its[p]? = some .w
  srv : served its ps = true
  upR : rs.Pairwise (· < ·)
  bar : Barred its rs
theorem FewOk.sub {its : List Item} {ps rs : List Nat} (F : FewOk its ps rs) : ps.Sublist (wr its) := by
  have key : ∀ (l m : List Nat), l.Pairwise (· < ·) → m.Pairwise (· < ·) → (∀ x ∈ l, x ∈ m) → l.Sublist m := by
    intro l m
    induction m generalizing l with
    | nil =>
      intro _ _ h
      cases l with
      | nil => exact List.nil_sublist _
      | cons x l => exact absurd (h x (List.mem_cons_self ..)) (by simp)
    | cons y m ih =>
      intro hl hm h
      cases l with
      | nil => exact List.nil_sublist _
      | cons x l =>
        have hx := h x (List.mem_cons_self ..)
        rcases List.mem_cons.mp hx with e | hx
        · subst e
          refine List.Sublist.cons_cons _ (ih l (List.pairwise_cons.mp hl).2 (List.pairwise_cons.mp hm).2 fun z hz => ?_)
          have h1 := (List.pairwise_cons.mp hl).1 z hz
          rcases List.mem_cons.mp (h z (List.mem_cons_of_mem _ hz)) with e | h2
          · omega
          · exact h2
        · refine List.Sublist.cons _ (ih (x :: l) hl (List.pairwise_cons.mp hm).2 fun z hz => ?_)
          have hy := (List.pairwise_cons.mp hm).1 x hx
          rcases List.mem_cons.mp (h z hz) with e | h2
          · subst e
            rcases List.mem_cons.mp hz with e | hz
            · omega
            · have := (List.pairwise_cons.mp hl).1 z hz
              omega
          · exact h2
  refine key _ _ F.up (wrTo_sorted its _) fun p hp => mem_wrTo.mpr ⟨?_, by rw [F.ws p hp]; rfl⟩
  exact (List.getElem?_eq_some_iff.mp (F.ws p hp)).1
theorem hits_none {its : List Item} {ps rs : List Nat} (F : FewOk its ps rs) {m : Nat} (h : m < ps.length) : hits its m = [] := by
  unfold hits
  rw [List.filter_eq_nil_iff]
  intro c hc hs
  have := fewest hs F.bar
  have h2 := ((choices_spec m _ c).mp hc).1
  have := F.len
  omega
theorem hits_some {its : List Item} {ps rs : List Nat} (F : FewOk its ps rs) : hits its ps.length ≠ [] := by
  intro h
  unfold hits at h
  rw [List.filter_eq_nil_iff] at h
  exact h ps ((choices_spec _ _ _).mpr ⟨rfl, F.sub⟩) F.srv
theorem few_le {its : List Item} {ps rs : List Nat} (F : FewOk its ps rs) : ps.length ≤ (wr its).length := F.sub.length_le
end M72
namespace M72
theorem part_len {α : Type} (g : Nat → List α) {n : Nat} : ∀ {i : Nat}, i ≤ n → ((List.range i).flatMap g).length ≤ ((List.range n).flatMap g).length := by
  intro i h
  obtain ⟨d, rfl⟩ := Nat.le.dest h
  induction d with
  | zero => exact Nat.le_refl _
  | succ d ih =>
    have e : i + (d + 1) = (i + d) + 1 := by omega
    rw [e, List.range_succ, List.flatMap_append, List.length_append]
    have := ih (by omega)
    omega
theorem part_succ {α : Type} (g : Nat → List α) (i : Nat) : (List.range (i + 1)).flatMap g = (List.range i).flatMap g ++ g i := by
  rw [List.range_succ, List.flatMap_append]
  simp
def chG (ns : List Nat) (m : Nat) (i : Nat) : List (List Nat) := (choices (ns.drop (i + 1)) m).map fun c => ns.getD i 0 :: c
theorem choices_succ (ns : List Nat) (m : Nat) : choices ns (m + 1) = (List.range ns.length).flatMap (chG ns m) := rfl
end M72
set_option linter.all false
set_option autoImplicit false
namespace M72
open Item
/-! ### what the program computes -/
abbrev Sp3 := Nat × Nat × Nat
def W (its : List Item) (i : Nat) : Nat := (wrTo its i).length
def spAt (its : List Item) (i : Nat) : Option Sp3 := match its[i]? with
  | some (.r n) => if n < W its i then some (i, W its i - n, W its i) else none
  | _ => none
def spTo (its : List Item) (k : Nat) : List Sp3 := (List.range k).filterMap (spAt its)
def grStep (s : Nat × List (Nat × Nat)) (p : Sp3) : Nat × List (Nat × Nat) := if s.1 < p.2.1 then (p.2.2, s.2 ++ [(p.2.2, p.1)]) else s
def grd (S : List Sp3) : Nat × List (Nat × Nat) := S.foldl grStep (0, [])
def plc (its : List Item) (z : Nat) : Nat := (wr its).getD (z - 1) 0
def few (its : List Item) : List Nat × List Nat := (((grd (spTo its its.length)).2.map fun p => plc its p.1), (grd (spTo its its.length)).2.map (·.2))
theorem W_zero (its : List Item) : W its 0 = 0 := rfl
theorem W_w {its : List Item} {i : Nat} (h : its[i]? = some .w) : W its (i + 1) = W its i + 1 := by
  unfold W
  rw [wrTo_succ, h]
  simp [isW]
theorem W_r {its : List Item} {i n : Nat} (h : its[i]? = some (.r n)) : W its (i + 1) = W its i := by
  unfold W
  rw [wrTo_succ, h]
  simp [isW]
theorem W_step (its : List Item) (i : Nat) : W its i ≤ W its (i + 1) := by
  unfold W
  rw [wrTo_succ, List.length_append]
  omega
theorem W_mono {its : List Item} {i j : Nat} (h : i ≤ j) : W its i ≤ W its j := by
  obtain ⟨d, rfl⟩ := Nat.le.dest h
  induction d with
  | zero => exact Nat.le_refl _
  | succ d ih => exact Nat.le_trans (ih (by omega)) (W_step its (i + d))
theorem W_le (its : List Item) (i : Nat) : W its i ≤ i := by
  unfold W wrTo
  exact Nat.le_trans (List.length_filter_le _ _) (by simp)
theorem wrTo_pre {its : List Item} {i j : Nat} (h : i ≤ j) : wrTo its i <+: wrTo its j := by
  obtain ⟨d, rfl⟩ := Nat.le.dest h
  induction d with
  | zero => exact List.prefix_refl _
  | succ d ih =>
    refine (ih (by omega)).trans ?_
    show wrTo its (i + d) <+: wrTo its ((i + d) + 1)
    rw [wrTo_succ]
    exact List.prefix_append _ _
theorem wrTo_nodup (its : List Item) (k : Nat) : (wrTo its k).Nodup := nodup_of_lt (wrTo_sorted its k)
theorem isW_eq {its : List Item} {s : Nat} (h : isW its[s]? = true) : its[s]? = some .w := by
  cases e : its[s]? with
  | none => rw [e] at h; cases h
  | some x =>
    cases x with
    | w => rfl
    | r n => rw [e] at h; cases h
/-- where a write stands, so many are before it -/
theorem at_W {its : List Item} {b s : Nat} (h1 : s < b) (h2 : its[s]? = some .w) : (wrTo its b)[W its s]? = some s := by
  have e : wrTo its (s + 1) = wrTo its s ++ [s] := by
    rw [wrTo_succ, h2]
    rfl
  obtain ⟨t, ht⟩ := wrTo_pre (its := its) (show s + 1 ≤ b by omega)
  rw [← ht, e]
  unfold W
  simp
theorem idx_W {its : List Item} {b k s : Nat} (h : (wrTo its b)[k]? = some s) : W its s = k ∧ s < b ∧ its[s]? = some .w := by
  have hm := mem_wrTo.mp (List.mem_of_getElem? h)
  have hw := isW_eq hm.2
  have h2 := at_W hm.1 hw
  refine ⟨?_, hm.1, hw⟩
  obtain ⟨b1, e1⟩ := List.getElem?_eq_some_iff.mp h
  obtain ⟨b2, e2⟩ := List.getElem?_eq_some_iff.mp h2
  have srt := List.pairwise_iff_getElem.mp (wrTo_sorted its b)
  rcases Nat.lt_trichotomy (W its s) k with c | c | c
  · have := srt _ _ b2 b1 c
    rw [e1, e2] at this
    exact absurd this (Nat.lt_irrefl _)
  · exact c
  · have := srt _ _ b1 b2 c
    rw [e1, e2] at this
    exact absurd this (Nat.lt_irrefl _)
theorem plc_at {its : List Item} {z : Nat} (h1 : 1 ≤ z) (h2 : z ≤ W its its.length) : (wr its)[z - 1]? = some (plc its z) := by
  unfold plc
  have : z - 1 < (wr its).length := by
    show z - 1 < W its its.length
    omega
  rw [List.getD_eq_getElem?_getD, List.getElem?_eq_getElem this]
  rfl
theorem plc_W {its : List Item} {z : Nat} (h1 : 1 ≤ z) (h2 : z ≤ W its its.length) : W its (plc its z) = z - 1 ∧ plc its z < its.length ∧ its[plc its z]? = some .w := idx_W (plc_at h1 h2)
/-! ### the reads that need a push -/
theorem spTo_succ (its : List Item) (k : Nat) : spTo its (k + 1) = spTo its k ++ (spAt its k).toList := by
  unfold spTo
  rw [List.range_succ, List.filterMap_append]
  cases e : spAt its k with
  | none => simp [e]
  | some p => simp [e]
theorem mem_spTo {its : List Item} {k : Nat} {p : Sp3} (h : p ∈ spTo its k) : p.1 < k ∧ ∃ n, its[p.1]? = some (.r n) ∧ n < W its p.1 ∧ p.2.1 = W its p.1 - n ∧ p.2.2 = W its p.1 := by
  unfold spTo at h
  obtain ⟨i, hi, e⟩ := List.mem_filterMap.mp h
  rw [List.mem_range] at hi
  unfold spAt at e
  cases z : its[i]? with
  | none => rw [z] at e; cases e
  | some x =>
    rw [z] at e
    cases x with
    | w => cases e
    | r n =>
      by_cases hn : n < W its i
      · simp only [hn, if_true, Option.some.injEq] at e
        subst e
        exact ⟨hi, n, z, hn, rfl, rfl⟩
      · simp only [hn, if_false] at e
        cases e
theorem spTo_mem {its : List Item} {i n : Nat} (h : its[i]? = some (.r n)) (hn : n < W its i) : (i, W its i - n, W its i) ∈ spTo its its.length := by
  refine List.mem_filterMap.mpr ⟨i, List.mem_range.mpr (List.getElem?_eq_some_iff.mp h).1, ?_⟩
  unfold spAt
  rw [h]
  simp [hn]
theorem spTo_sorted (its : List Item) : ∀ k, (spTo its k).Pairwise (fun p q => p.1 < q.1 ∧ p.2.2 ≤ q.2.2)
  | 0 => by simp [spTo]
  | k + 1 => by
    rw [spTo_succ]
    refine List.pairwise_append.mpr ⟨spTo_sorted its k, by cases spAt its k <;> simp, fun a ha b hb => ?_⟩
    have hm : b ∈ spTo its (k + 1) := by
      rw [spTo_succ]
      exact List.mem_append_right _ hb
    obtain ⟨h1, n, _, _, _, h2⟩ := mem_spTo ha
    obtain ⟨_, n', _, _, _, h4⟩ := mem_spTo hm
    have hb1 : b.1 = k := by
      cases e : spAt its k with
      | none => rw [e] at hb; simp at hb
      | some p =>
        rw [e] at hb
        simp at hb
        subst hb
        unfold spAt at e
        cases z : its[k]? with
        | none => rw [z] at e; cases e
        | some x =>
          rw [z] at e
          cases x with
          | w => cases e
          | r n =>
            by_cases hn : n < W its k
            · simp only [hn, if_true, Option.some.injEq] at e
              rw [← e]
            · simp only [hn, if_false] at e
              cases e
    refine ⟨by omega, ?_⟩
    rw [h2, h4]
    exact W_mono (by omega)
theorem sp_rng {its : List Item} {k : Nat} {p : Sp3} (h : p ∈ spTo its k) : 1 ≤ p.2.1 ∧ p.2.1 ≤ p.2.2 ∧ p.2.2 ≤ W its its.length ∧ p.2.2 = W its p.1 := by
  obtain ⟨h1, n, h2, h3, h4, h5⟩ := mem_spTo h
  have := W_mono (its := its) (Nat.le_of_lt (List.getElem?_eq_some_iff.mp h2).1)
  omega
/-! ### the greedy choice -/
structure GrOk (S : List Sp3) (l : Nat) (g : List (Nat × Nat)) : Prop where
  pw : g.Pairwise fun p q => p.1 < q.1 ∧ p.2 < q.2 ∧ ∃ f, (q.2, f, q.1) ∈ S ∧ p.1 < f
  mem : ∀ p ∈ g, ∃ f, (p.2, f, p.1) ∈ S
  le : ∀ p ∈ g, p.1 ≤ l
  last : l = 0 ∨ ∃ a, (l, a) ∈ g
  srv : ∀ s ∈ S, ∃ p ∈ g, s.2.1 ≤ p.1 ∧ p.1 ≤ s.2.2
theorem GrOk.step {S : List Sp3} {l : Nat} {g : List (Nat × Nat)} {p : Sp3} (G : GrOk S l g) (b : ∀ q ∈ S, q.1 < p.1 ∧ q.2.2 ≤ p.2.2) (r : 1 ≤ p.2.1 ∧ p.2.1 ≤ p.2.2) : GrOk (S ++ [p]) (grStep (l, g) p).1 (grStep (l, g) p).2 := by
  have up : ∀ {x : Sp3}, x ∈ S → x ∈ S ++ [p] := fun h => List.mem_append_left _ h
  obtain ⟨a, f, z⟩ := p
  by_cases h : l < f
  · have e : grStep (l, g) (a, f, z) = (z, g ++ [(z, a)]) := by unfold grStep; rw [if_pos h]
    rw [e]
    have r1 : f ≤ z := r.2
    refine ⟨List.pairwise_append.mpr ⟨G.pw.imp fun ⟨h1, h2, f', h3, h4⟩ => ⟨h1, h2, f', up h3, h4⟩, by simp, fun q hq q2 hq2 => ?_⟩, fun q hq => ?_, fun q hq => ?_, .inr ⟨a, by simp⟩, fun s hs => ?_⟩
    · simp at hq2
      subst hq2
      have h1 := G.le q hq
      obtain ⟨f', h2⟩ := G.mem q hq
      have h3 := (b _ h2).1
      exact ⟨by show q.1 < z; omega, h3, f, by simp, by omega⟩
    · rcases List.mem_append.mp hq with hq | hq
      · obtain ⟨f', h2⟩ := G.mem q hq
        exact ⟨f', up h2⟩
      · simp at hq
        subst hq
        exact ⟨f, by simp⟩
    · rcases List.mem_append.mp hq with hq | hq
      · have := G.le q hq
        show q.1 ≤ z
        omega
      · simp at hq
        subst hq
        exact Nat.le_refl _
    · rcases List.mem_append.mp hs with hs | hs
      · obtain ⟨q, hq, h1⟩ := G.srv s hs
        exact ⟨q, List.mem_append_left _ hq, h1⟩
      · simp at hs
        subst hs
        exact ⟨(z, a), by simp, r1, Nat.le_refl _⟩
  · have e : grStep (l, g) (a, f, z) = (l, g) := by unfold grStep; rw [if_neg h]
    rw [e]
    refine ⟨G.pw.imp fun ⟨h1, h2, f', h3, h4⟩ => ⟨h1, h2, f', up h3, h4⟩, fun q hq => ?_, G.le, G.last, fun s hs => ?_⟩
    · obtain ⟨f', h2⟩ := G.mem q hq
      exact ⟨f', up h2⟩
    · rcases List.mem_append.mp hs with hs | hs
      · exact G.srv s hs
      · simp at hs
        subst hs
        have r0 : 1 ≤ f := r.1
        rcases G.last with h0 | ⟨a', ha⟩
        · omega
        · obtain ⟨f', h2⟩ := G.mem _ ha
          exact ⟨_, ha, by show f ≤ l; omega, (b _ h2).2⟩
theorem grd_snoc (S : List Sp3) (p : Sp3) : grd (S ++ [p]) = grStep (grd S) p := by
  unfold grd
  rw [List.foldl_append]
  rfl
theorem grd_ok : ∀ {S T : List Sp3}, (S ++ T).Pairwise (fun p q => p.1 < q.1 ∧ p.2.2 ≤ q.2.2) → (∀ p ∈ S ++ T, 1 ≤ p.2.1 ∧ p.2.1 ≤ p.2.2) → GrOk S (grd S).1 (grd S).2 → GrOk (S ++ T) (grd (S ++ T)).1 (grd (S ++ T)).2
  | S, [], _, _, h => by simpa using h
  | S, p :: T, pw, rr, h => by
    have e : S ++ p :: T = (S ++ [p]) ++ T := by simp
    rw [e] at pw rr ⊢
    refine grd_ok pw rr ?_
    rw [grd_snoc]
    refine h.step (fun q hq => ?_) (rr p (by simp))
    rw [List.append_assoc] at pw
    exact (List.pairwise_append.mp pw).2.2 q hq p (by simp)
theorem grOk (its : List Item) : GrOk (spTo its its.length) (grd (spTo its its.length)).1 (grd (spTo its its.length)).2 := by
  have := grd_ok (S := []) (T := spTo its its.length) (by simpa using spTo_sorted its _) (fun p hp => by
    have := sp_rng (show p ∈ spTo its its.length by simpa using hp)
    omega) ⟨by simp [grd], by simp [grd], by simp [grd], .inl rfl, by simp⟩
  simpa using this
theorem g_rng {its : List Item} {p : Nat × Nat} (h : p ∈ (grd (spTo its its.length)).2) : 1 ≤ p.1 ∧ p.1 ≤ W its its.length ∧ p.1 = W its p.2 := by
  obtain ⟨f, hf⟩ := (grOk its).mem p h
  have := sp_rng hf
  have e : (p.2, f, p.1).2.1 = f := rfl
  simp only [] at this
  omega
/-! ### what it computes is right -/
theorem start_of {its : List Item} {q f z : Nat} (h : (q, f, z) ∈ spTo its its.length) : ∃ n s, its[q]? = some (.r n) ∧ wstart its q n = some s ∧ startAt its q = some s ∧ W its s = f - 1 := by
  obtain ⟨h1, n, h2, h3, h4, h5⟩ := mem_spTo h
  have h2 : its[q]? = some (.r n) := h2
  have h3 : n < W its q := h3
  have h4 : f = W its q - n := h4
  have hl : (wrTo its q).length - 1 - n < (wrTo its q).length := by
    have : n < (wrTo its q).length := h3
    omega
  have hs : wstart its q n = some ((wrTo its q)[(wrTo its q).length - 1 - n]'hl) := by
    unfold wstart
    rw [if_pos (show n < (wrTo its q).length from h3), List.getElem?_eq_getElem hl]
  refine ⟨n, _, h2, hs, ?_, ?_⟩
  · unfold startAt
    rw [h2]
    exact hs
  · have := (idx_W (List.getElem?_eq_getElem hl)).1
    rw [this, h4]
    show W its q - 1 - n = _
    omega
theorem barred_of {its : List Item} : ∀ {rs : List Nat}, (∀ q ∈ rs, ∃ n s, its[q]? = some (.r n) ∧ wstart its q n = some s) → rs.Pairwise (fun p q => ∃ s, startAt its q = some s ∧ p ≤ s) → Barred its rs
  | [], _, _ => True.intro
  | [q], h, _ => h q (by simp)
  | q :: q2 :: t, h, pw => by
    obtain ⟨h1, h2⟩ := List.pairwise_cons.mp pw
    exact ⟨h q (by simp), h1 q2 (by simp), barred_of (fun x hx => h x (List.mem_cons_of_mem _ hx)) h2⟩
theorem served_of {its : List Item} {g : List (Nat × Nat)} (rng : ∀ p ∈ g, 1 ≤ p.1 ∧ p.1 ≤ W its its.length) (srv : ∀ i n, its[i]? = some (.r n) → n < W its i → ∃ p ∈ g, W its i - n ≤ p.1 ∧ p.1 ≤ W its i) :
    ∀ (t : List Item) (i age : Nat), its.drop i = t → age ≤ W its i → (∀ p ∈ g, p.1 ≤ W its i → age ≤ W its i - p.1) → servedGo t i (g.map fun p => plc its p.1) age = true
  | [], _, _, _, _, _ => rfl
  | x :: t, i, age, ht, h1, h2 => by
    have hi : its[i]? = some x := by
      have h2 : (its.drop i)[0]? = some x := by rw [ht]; rfl
      rw [List.getElem?_drop] at h2
      simpa using h2
    have ht' : its.drop (i + 1) = t := by
      rw [← List.drop_drop, ht]
      rfl
    cases x with
    | w =>
      have hw := W_w hi
      have il := (List.getElem?_eq_some_iff.mp hi).1
      refine served_of rng srv t (i + 1) _ ht' ?_ ?_
      · split <;> omega
      · intro p hp hle
        by_cases hm : i ∈ g.map fun p => plc its p.1
        · rw [if_pos hm]
          omega
        · rw [if_neg hm]
          have ne : p.1 ≠ W its i + 1 := fun e => by
            refine hm (List.mem_map.mpr ⟨p, hp, ?_⟩)
            obtain ⟨r1, r2⟩ := rng p hp
            have a1 := plc_at r1 r2
            have a2 := at_W (b := its.length) il hi
            have e2 : p.1 - 1 = W its i := by omega
            rw [e2] at a1
            exact Option.some.inj (a1.symm.trans a2)
          have := h2 p hp (by omega)
          omega
    | r n =>
      have hw := W_r hi
      show (if n < age then false else servedGo t (i + 1) _ age) = true
      have : ¬ n < age := fun hn => by
        rcases Nat.lt_or_ge n (W its i) with c | c
        · obtain ⟨p, hp, l1, l2⟩ := srv i n hi c
          have := h2 p hp l2
          omega
        · omega
      rw [if_neg this]
      exact served_of rng srv t (i + 1) age ht' (by omega) fun p hp hle => by
        have := h2 p hp (by omega)
        omega
theorem plc_lt {its : List Item} {a b : Nat} (h1 : 1 ≤ a) (h2 : a < b) (h3 : b ≤ W its its.length) : plc its a < plc its b := by
  have p1 := plc_W h1 (by omega : a ≤ W its its.length)
  have p2 := plc_W (its := its) (show 1 ≤ b by omega) h3
  rcases Nat.lt_or_ge (plc its a) (plc its b) with c | c
  · exact c
  · have := W_mono (its := its) c
    omega
theorem few_ok : ∀ its, FewOk its (few its).1 (few its).2 := by
  intro its
  have G := grOk its
  have R := fun p hp => g_rng (its := its) (p := p) hp
  refine ⟨?_, ?_, ?_, ?_, ?_, ?_⟩
  · simp [few]
  · refine List.pairwise_map.mpr (List.Pairwise.imp_of_mem (fun {p q} hp hq h => ?_) G.pw)
    exact plc_lt (R p hp).1 h.1 (R q hq).2.1
  · intro p hp
    obtain ⟨q, hq, rfl⟩ := List.mem_map.mp hp
    exact (plc_W (R q hq).1 (R q hq).2.1).2.2
  · refine served_of (fun p hp => ⟨(R p hp).1, (R p hp).2.1⟩) (fun i n h hn => ?_) its 0 0 rfl (Nat.zero_le _) fun p hp h => Nat.zero_le _
    exact G.srv _ (spTo_mem h hn)
  · exact List.pairwise_map.mpr (G.pw.imp fun h => h.2.1)
  · refine barred_of (fun q hq => ?_) (List.pairwise_map.mpr (List.Pairwise.imp_of_mem (fun {p q} hp hq h => ?_) G.pw))
    · obtain ⟨p, hp, rfl⟩ := List.mem_map.mp hq
      obtain ⟨f, hf⟩ := G.mem p hp
      obtain ⟨n, s, h1, h2, _, _⟩ := start_of hf
      exact ⟨n, s, h1, h2⟩
    · obtain ⟨_, _, f, hf, lt⟩ := h
      obtain ⟨n, s, h1, h2, h3, h4⟩ := start_of hf
      refine ⟨s, h3, ?_⟩
      rcases Nat.lt_or_ge s p.2 with c | c
      · exfalso
        have h5 := (R p hp).2.2
        unfold wstart at h2
        split at h2
        · have h6 := (idx_W h2).2.2
          have := W_w h6
          have := W_mono (its := its) (show s + 1 ≤ p.2 by omega)
          omega
        · cases h2
      · exact c
end M72
set_option linter.all false
set_option autoImplicit false
namespace M72
open Item
/-! ### runs of policies -/
/-- age, pushes, questions, where it was set back -/
structure RunS where
  age : Nat
  p : Nat
  q : Nat
  ev : List Nat
def runSt (its : List Item) (c : Nat → Bool) : Nat → RunS
  | 0 => ⟨0, 0, 0, []⟩
  | k + 1 =>
    let r := runSt its c k
    match its[k]? with
    | some .w => if c k = true then ⟨0, r.p + 1, r.q, r.ev ++ [k]⟩ else ⟨r.age + 1, r.p, r.q, r.ev⟩
    | some (.r n) => if n < r.age then ⟨0, r.p, r.q + 1, r.ev ++ [k]⟩ else r
    | none => r
theorem run_w1 {its : List Item} {c : Nat → Bool} {k : Nat} (h : its[k]? = some .w) (hc : c k = true) : runSt its c (k + 1) = ⟨0, (runSt its c k).p + 1, (runSt its c k).q, (runSt its c k).ev ++ [k]⟩ := by
  simp only [runSt, h, hc, if_true]
theorem run_w0 {its : List Item} {c : Nat → Bool} {k : Nat} (h : its[k]? = some .w) (hc : ¬ c k = true) : runSt its c (k + 1) = ⟨(runSt its c k).age + 1, (runSt its c k).p, (runSt its c k).q, (runSt its c k).ev⟩ := by
  simp only [runSt, h]
  rw [if_neg hc]
theorem run_r1 {its : List Item} {c : Nat → Bool} {k n : Nat} (h : its[k]? = some (.r n)) (hn : n < (runSt its c k).age) : runSt its c (k + 1) = ⟨0, (runSt its c k).p, (runSt its c k).q + 1, (runSt its c k).ev ++ [k]⟩ := by
  simp only [runSt, h, hn, if_true]
theorem run_r0 {its : List Item} {c : Nat → Bool} {k n : Nat} (h : its[k]? = some (.r n)) (hn : ¬ n < (runSt its c k).age) : runSt its c (k + 1) = runSt its c k := by
  simp only [runSt, h]
  rw [if_neg hn]
theorem run_none {its : List Item} {c : Nat → Bool} {k : Nat} (h : its[k]? = none) : runSt its c (k + 1) = runSt its c k := by
  simp only [runSt, h]
/-- the cases of one step -/
theorem run_cases (its : List Item) (c : Nat → Bool) (k : Nat) :
    (its[k]? = some .w ∧ c k = true ∧ runSt its c (k + 1) = ⟨0, (runSt its c k).p + 1, (runSt its c k).q, (runSt its c k).ev ++ [k]⟩) ∨
    (its[k]? = some .w ∧ runSt its c (k + 1) = ⟨(runSt its c k).age + 1, (runSt its c k).p, (runSt its c k).q, (runSt its c k).ev⟩) ∨
    (∃ n, its[k]? = some (.r n) ∧ n < (runSt its c k).age ∧ runSt its c (k + 1) = ⟨0, (runSt its c k).p, (runSt its c k).q + 1, (runSt its c k).ev ++ [k]⟩) ∨
    (∃ n, its[k]? = some (.r n) ∧ ¬ n < (runSt its c k).age ∧ runSt its c (k + 1) = runSt its c k) ∨ (its[k]? = none ∧ runSt its c (k + 1) = runSt its c k) := by
  cases h : its[k]? with
  | none => exact .inr (.inr (.inr (.inr ⟨rfl, run_none h⟩)))
  | some it =>
    cases it with
    | w =>
      by_cases hc : c k = true
      · exact .inl ⟨rfl, hc, run_w1 h hc⟩
      · exact .inr (.inl ⟨rfl, run_w0 h hc⟩)
    | r n =>
      by_cases hn : n < (runSt its c k).age
      · exact .inr (.inr (.inl ⟨n, rfl, hn, run_r1 h hn⟩))
      · exact .inr (.inr (.inr (.inl ⟨n, rfl, hn, run_r0 h hn⟩)))
theorem run_len (its : List Item) (c : Nat → Bool) : ∀ k, (runSt its c k).ev.length = (runSt its c k).p + (runSt its c k).q
  | 0 => rfl
  | k + 1 => by
    have ih := run_len its c k
    rcases run_cases its c k with ⟨_, _, e⟩ | ⟨_, e⟩ | ⟨n, _, _, e⟩ | ⟨n, _, _, e⟩ | ⟨_, e⟩ <;> rw [e]
    · simp only [List.length_append, List.length_singleton]
      omega
    · exact ih
    · simp only [List.length_append, List.length_singleton]
      omega
    · exact ih
    · exact ih
theorem run_ev {its : List Item} {c : Nat → Bool} {e j : Nat} : ∀ {k : Nat}, j ≤ k → e ∈ (runSt its c j).ev → e ∈ (runSt its c k).ev
  | 0, h, m => by
    obtain rfl : j = 0 := by omega
    exact m
  | k + 1, h, m => by
    by_cases hj : j = k + 1
    · subst hj
      exact m
    · have ih := run_ev (k := k) (show j ≤ k by omega) m
      rcases run_cases its c k with ⟨_, _, z⟩ | ⟨_, z⟩ | ⟨n, _, _, z⟩ | ⟨n, _, _, z⟩ | ⟨_, z⟩ <;> rw [z]
      · exact List.mem_append_left _ ih
      · exact ih
      · exact List.mem_append_left _ ih
      · exact ih
      · exact ih
theorem run_small (its : List Item) (c : Nat → Bool) : ∀ k, (runSt its c k).p ≤ k ∧ (runSt its c k).q ≤ k ∧ (runSt its c k).age ≤ k
  | 0 => ⟨Nat.le_refl _, Nat.le_refl _, Nat.le_refl _⟩
  | k + 1 => by
    have ih := run_small its c k
    rcases run_cases its c k with ⟨_, _, z⟩ | ⟨_, z⟩ | ⟨n, _, _, z⟩ | ⟨n, _, _, z⟩ | ⟨_, z⟩ <;> rw [z]
    · exact ⟨Nat.succ_le_succ ih.1, Nat.le_succ_of_le ih.2.1, Nat.zero_le _⟩
    · exact ⟨Nat.le_succ_of_le ih.1, Nat.le_succ_of_le ih.2.1, Nat.succ_le_succ ih.2.2⟩
    · exact ⟨Nat.le_succ_of_le ih.1, Nat.succ_le_succ ih.2.1, Nat.zero_le _⟩
    · omega
    · omega
/-- the age is what stands behind the last setting back -/
theorem run_age (its : List Item) (c : Nat → Bool) : ∀ k, k ≤ its.length → AgeIs its (runSt its c k).ev k (runSt its c k).age
  | 0, _ => .inl rfl
  | k + 1, hk => by
    have ih := run_age its c k (by omega)
    rcases run_cases its c k with ⟨h, _, z⟩ | ⟨h, z⟩ | ⟨n, h, _, z⟩ | ⟨n, h, _, z⟩ | ⟨h, z⟩ <;> rw [z]
    · exact .inr ⟨k, by simp, by omega, after_self.symm⟩
    · have hw : isW its[k]? = true := by rw [h]; rfl
      rcases ih with ih | ⟨p, h1, h2, h3⟩
      · left
        show (runSt its c k).age + 1 = _
        rw [wrTo_succ, if_pos hw, List.length_append, ih]
        rfl
      · exact .inr ⟨p, h1, by omega, by show (runSt its c k).age + 1 = _; rw [after_succ_w hw h2, h3]⟩
    · exact .inr ⟨k, by simp, by omega, after_self.symm⟩
    · have hw : ¬ isW its[k]? = true := by rw [h]; exact fun z => nomatch z
      rcases ih with ih | ⟨p, h1, h2, h3⟩
      · left
        rw [wrTo_succ, if_neg hw, List.append_nil, ih]
      · exact .inr ⟨p, h1, by omega, by rw [after_succ_n hw, h3]⟩
    · have : its.length ≤ k := by
        rw [List.getElem?_eq_none_iff] at h
        exact h
      omega
/-- every read that needs a push is set back within its window, or at it -/
theorem window_run {its : List Item} {c : Nat → Bool} {q n s : Nat} (hq : its[q]? = some (.r n)) (h : wstart its q n = some s) : ∃ e, e ∈ (runSt its c its.length).ev ∧ s ≤ e ∧ e ≤ q := by
  have hl : q < its.length := (List.getElem?_eq_some_iff.mp hq).1
  have sq : s < q := by
    unfold wstart at h
    split at h
    · exact wrTo_lt s (List.mem_of_getElem? h)
    · cases h
  by_cases hn : n < (runSt its c q).age
  · refine ⟨q, ?_, by omega, Nat.le_refl _⟩
    refine run_ev (j := q + 1) (by omega) ?_
    rw [run_r1 hq hn]
    exact List.mem_append_right _ (List.mem_singleton.mpr rfl)
  · rcases run_age its c q (by omega) with ha | ⟨p, h1, h2, h3⟩
    · unfold wstart at h
      split at h
      · omega
      · cases h
    · refine ⟨p, run_ev (by omega) h1, ?_, by omega⟩
      rcases Nat.lt_or_ge p s with z | z
      · have := after_wstart h z
        omega
      · exact z
theorem start_w {its : List Item} {q s : Nat} (h : startAt its q = some s) : its[s]? = some .w ∧ s < q := by
  unfold startAt at h
  obtain ⟨n, _, h⟩ := Option.bind_eq_some_iff.mp h
  unfold wstart at h
  split at h
  · have := mem_wrTo.mp (List.mem_of_getElem? h)
    exact ⟨isW_eq this.2, this.1⟩
  · cases h
theorem distinct_run {its : List Item} {ev : List Nat} (win : ∀ q n s, its[q]? = some (.r n) → wstart its q n = some s → ∃ e, e ∈ ev ∧ s ≤ e ∧ e ≤ q) : ∀ {rs : List Nat}, Barred its rs →
    ∃ cs : List Nat, cs.length = rs.length ∧ (∀ c ∈ cs, c ∈ ev) ∧ cs.Pairwise (· < ·) ∧ ∀ q t, rs = q :: t → ∀ s, startAt its q = some s → ∀ c ∈ cs, s ≤ c
  | [], _ => ⟨[], rfl, by simp, .nil, fun q t e => by cases e⟩
  | [q], h => by
    obtain ⟨n, s, h1, h2⟩ := h
    obtain ⟨p, p1, p2, p3⟩ := win q n s h1 h2
    refine ⟨[p], rfl, by simpa using p1, by simp, fun q' t e s' es c hc => ?_⟩
    cases e
    simp at hc
    subst hc
    have : startAt its q = some s := by unfold startAt; rw [h1]; exact h2
    rw [this] at es
    cases es
    exact p2
  | q :: q2 :: t, h => by
    obtain ⟨⟨n, s, h1, h2⟩, ⟨s2, h3, h4⟩, h5⟩ := h
    obtain ⟨cs, c1, c2, c3, c4⟩ := distinct_run win h5
    obtain ⟨p, p1, p2, p3⟩ := win q n s h1 h2
    have hne : q ≠ s2 := fun e => by
      have := (start_w h3).1
      rw [← e, h1] at this
      cases this
    refine ⟨p :: cs, by simp [c1], fun c hc => ?_, List.pairwise_cons.mpr ⟨fun c hc => ?_, c3⟩, fun q' t' e s' es c hc => ?_⟩
    · rcases List.mem_cons.mp hc with rfl | hc
      · exact p1
      · exact c2 c hc
    · have := c4 q2 t rfl s2 h3 c hc
      omega
    · cases e
      have : startAt its q = some s := by unfold startAt; rw [h1]; exact h2
      rw [this] at es
      cases es
      have sq := (start_w this).2
      rcases List.mem_cons.mp hc with rfl | hc
      · exact p2
      · have := c4 q2 t rfl s2 h3 c hc
        omega
/-- no run has fewer pushes and questions than the fewest -/
theorem run_fewest {its : List Item} {rs : List Nat} (c : Nat → Bool) (hb : Barred its rs) : rs.length ≤ (runSt its c its.length).p + (runSt its c its.length).q := by
  obtain ⟨cs, c1, c2, c3, _⟩ := distinct_run (fun q n s h1 h2 => window_run (c := c) h1 h2) hb
  rw [← c1, ← run_len]
  exact length_le_of_subset (nodup_of_lt c3) c2
/-- the calls of the policy -/
def callsTo (its : List Item) (c : Nat → Bool) : Nat → List (Nat × Nat)
  | 0 => []
  | k + 1 => callsTo its c k ++ (if isW its[k]? = true then [(k, (runSt its c k).age + 1)] else [])
/-! ### what is accepted -/
structure IsRow (m : Nat) (ns : List Nat) : Prop where
  up : ns.Pairwise (· < ·)
  lt : ∀ n ∈ ns, n < m
/-- the program's look at the reads -/
def RdGo (its : List Item) : Nat → List Nat → Prop
  | _, [] => True
  | l, q :: t => ∃ f z, (q, f, z) ∈ spTo its its.length ∧ l < f ∧ RdGo its z t
theorem startAt_some {its : List Item} {q s : Nat} : startAt its q = some s ↔ ∃ n, its[q]? = some (.r n) ∧ wstart its q n = some s := by
  unfold startAt
  rw [Option.bind_eq_some_iff]
  constructor
  · rintro ⟨n, h1, h2⟩
    refine ⟨n, ?_, h2⟩
    unfold needOf at h1
    split at h1
    · rename_i m e
      cases h1
      exact e
    · cases h1
  · rintro ⟨n, h1, h2⟩
    exact ⟨n, by rw [h1]; rfl, h2⟩
theorem sp_start {its : List Item} {q : Nat} : (∃ f z, (q, f, z) ∈ spTo its its.length) ↔ ∃ s, startAt its q = some s := by
  constructor
  · rintro ⟨f, z, h⟩
    obtain ⟨n, s, _, _, h3, _⟩ := start_of h
    exact ⟨s, h3⟩
  · rintro ⟨s, h⟩
    obtain ⟨n, h1, h2⟩ := startAt_some.mp h
    refine ⟨_, _, spTo_mem h1 ?_⟩
    unfold wstart at h2
    split at h2
    · assumption
    · cases h2
/-- a write stands at s, q is a read behind: as many writes below q as below s exactly where q is not behind s -/
theorem W_le_iff {its : List Item} {q s n : Nat} (hq : its[q]? = some (.r n)) (hs : its[s]? = some .w) : W its q ≤ W its s ↔ q ≤ s := by
  constructor
  · intro h
    rcases Nat.lt_or_ge s q with z | z
    · have h1 := W_w hs
      have h2 := W_mono (its := its) (show s + 1 ≤ q by omega)
      omega
    · exact z
  · exact fun h => W_mono h
theorem bar_cons {its : List Item} {q : Nat} : ∀ {t : List Nat}, Barred its (q :: t) ↔ (∃ s, startAt its q = some s) ∧ (∀ q2 t2, t = q2 :: t2 → ∃ s2, startAt its q2 = some s2 ∧ q ≤ s2) ∧ Barred its t
  | [] => by
    constructor
    · rintro ⟨n, s, h1, h2⟩
      exact ⟨⟨s, startAt_some.mpr ⟨n, h1, h2⟩⟩, (fun q2 t2 e => nomatch e), True.intro⟩
    · rintro ⟨⟨s, h⟩, _⟩
      obtain ⟨n, h1, h2⟩ := startAt_some.mp h
      exact ⟨n, s, h1, h2⟩
  | q2 :: t => by
    constructor
    · rintro ⟨⟨n, s, h1, h2⟩, h3, h4⟩
      refine ⟨⟨s, startAt_some.mpr ⟨n, h1, h2⟩⟩, fun q' t' e => ?_, h4⟩
      cases e
      exact h3
    · rintro ⟨⟨s, h⟩, h3, h4⟩
      obtain ⟨n, h1, h2⟩ := startAt_some.mp h
      exact ⟨⟨n, s, h1, h2⟩, h3 q2 t rfl, h4⟩
theorem rd_bar {its : List Item} : ∀ {rs : List Nat} {l : Nat}, RdGo its l rs ↔ Barred its rs ∧ ∀ q t, rs = q :: t → ∀ s, startAt its q = some s → l ≤ W its s
  | [], l => ⟨fun _ => ⟨True.intro, fun q t e => by cases e⟩, fun _ => True.intro⟩
  | q :: t, l => by
    rw [bar_cons]
    constructor
    · rintro ⟨f, z, hm, hl, hg⟩
      obtain ⟨hb, hh⟩ := rd_bar.mp hg
      obtain ⟨n, s, h1, h2, h3, h4⟩ := start_of hm
      have rg := sp_rng hm
      have hz : z = W its q := rg.2.2.2
      have hf : 1 ≤ f := rg.1
      refine ⟨⟨⟨s, h3⟩, fun q2 t2 e => ?_, hb⟩, fun q' t' e s' es => ?_⟩
      · subst e
        obtain ⟨⟨s2, hs2⟩, _⟩ := bar_cons.mp hb
        refine ⟨s2, hs2, ?_⟩
        have := hh q2 t2 rfl s2 hs2
        rw [hz] at this
        exact (W_le_iff h1 (start_w hs2).1).mp this
      · cases e
        rw [h3] at es
        cases es
        omega
    · rintro ⟨⟨⟨s, hs⟩, hn, hb⟩, hh⟩
      obtain ⟨f, z, hm⟩ := sp_start.mpr ⟨s, hs⟩
      obtain ⟨n, s', h1, h2, h3, h4⟩ := start_of hm
      rw [hs] at h3
      cases h3
      have rg := sp_rng hm
      have hz : z = W its q := rg.2.2.2
      have hf : 1 ≤ f := rg.1
      have := hh q t rfl s hs
      refine ⟨f, z, hm, by omega, rd_bar.mpr ⟨hb, fun q2 t2 e s2 es => ?_⟩⟩
      obtain ⟨s3, e3, hle⟩ := hn q2 t2 e
      rw [es] at e3
      cases e3
      rw [hz]
      exact (W_le_iff h1 (start_w es).1).mpr hle
theorem rd_bar0 {its : List Item} {rs : List Nat} : RdGo its 0 rs ↔ Barred its rs := by
  rw [rd_bar]
  exact ⟨fun h => h.1, fun h => ⟨h, fun _ _ _ _ _ => Nat.zero_le _⟩⟩
/-- the law's look at the reads: every one a read that needs a push, its start not before the one before it -/
theorem bar_law {its : List Item} : ∀ {rs : List Nat}, Barred its rs ↔ (∀ q ∈ rs, ∃ s, startAt its q = some s) ∧ ∀ i q q2 s2, rs[i]? = some q → rs[i + 1]? = some q2 → startAt its q2 = some s2 → q ≤ s2
  | [] => ⟨fun _ => ⟨by simp, by simp⟩, fun _ => True.intro⟩
  | q :: t => by
    rw [bar_cons, bar_law (rs := t)]
    constructor
    · rintro ⟨h1, h2, h3, h4⟩
      refine ⟨fun x hx => ?_, fun i x x2 s2 e1 e2 es => ?_⟩
      · rcases List.mem_cons.mp hx with rfl | hx
        · exact h1
        · exact h3 x hx
      · cases i with
        | zero =>
          cases e1
          cases t with
          | nil => cases e2
          | cons y t =>
            cases e2
            obtain ⟨s3, e3, hle⟩ := h2 _ _ rfl
            rw [es] at e3
            cases e3
            exact hle
        | succ i => exact h4 i x x2 s2 (by simpa using e1) (by simpa using e2) es
    · rintro ⟨h1, h2⟩
      refine ⟨h1 q (List.mem_cons_self ..), fun q2 t2 e => ?_, fun x hx => h1 x (List.mem_cons_of_mem _ hx), fun i x x2 s2 e1 e2 es => h2 (i + 1) x x2 s2 (by simpa using e1) (by simpa using e2) es⟩
      subst e
      obtain ⟨s2, hs2⟩ := h1 q2 (by simp)
      exact ⟨s2, hs2, h2 0 q q2 s2 rfl rfl hs2⟩
end M72
set_option Elab.async false
set_option maxRecDepth 100000
set_option maxHeartbeats 4000000
namespace K73
open PySem L2
def top (i : Nat) : Stmt := PySem.Challenge.pw_slackcache_k73_pushes_checked_and_polici.main.body.getD i (.Pass ⟨0, 0, 0, 0⟩)
abbrev sSource : Stmt := top 16
abbrev sDraw : Stmt := top 17
def M : Int := 2147483647
/-- what a source may hold -/
def SrcOk (x y : Int) : Prop := 0 ≤ x ∧ 0 ≤ y ∧ y < 2147483647
structure TxtC (mg : Str → Option Value) : Prop where
  len : mg "len" = none
  max : mg "max" = none
def spSource (K : PySem.W.Frag) : Sp := fun vs H Q _ => ∃ (a : Addr) (ns : List Int) (j : Nat), vs = [.ref a, .int (j : Int)] ∧ SqL K H a (ns.map V.int) ∧ j ≤ 1000 ∧
  ∀ p x y, H p = none → SrcOk x y → Q (.ref p) (upd H p (.lst [.int x, .int y]))
def spDraw : Sp := fun vs H Q _ => ∃ (p : Addr) (x y n : Int), vs = [.ref p, .int n] ∧ H p = some (.lst [.int x, .int y]) ∧ SrcOk x y ∧ 0 < n ∧ n < 2 ^ 100 ∧
  ∀ x' y' d, SrcOk x' y' → 0 ≤ d → d < n → Q (.int d) (upd H p (.lst [.int x', .int y']))
section
variable {P : Program} {w : World} {K : PySem.W.Frag} {mg : Str → Option Value} {base : Heap}
theorem scS : FnScope ["_law_script", "_law_turn", "_law_cell", "_law_number", "_law_seed"] ["_law_script", "_law_turn"] (defScope sSource) := ⟨rfl, rfl, rfl, by decide +kernel, rfl, by decide +kernel, by decide +kernel⟩
theorem scD : FnScope ["_law_source_here", "_law_amount", "_law_digit"] ["_law_source_here", "_law_amount"] (defScope sDraw) := ⟨rfl, rfl, rfl, by decide +kernel, rfl, by decide +kernel, by decide +kernel⟩
local macro_rules | `(tactic| walk_at "rd") => `(tactic| simp only [tSeq, tAsg, tOp, tC, tVar, tCB, tCons, tNil, tUn, tIfS, tTest, tNext, tRet, tLst, gName, gSub, rI0, rI, rU, L2.start, List.map_cons, List.map_nil, List.length_cons, List.length_nil, Nat.reduceAdd, Nat.reduceSub, List.replicate_succ, List.replicate_zero, List.cons_append, List.nil_append, List.set_cons_zero, List.set_cons_succ, List.getElem?_cons_zero, List.getElem?_cons_succ, Option.some.injEq, exists_eq_left', exists_eq_left, V.int.injEq, V.bl.injEq, V.ref.injEq, List.cons.injEq, and_true, true_and, and_assoc, exists_and_left, exists_eq', exists_const, decide_eq_true_eq, Cx.nox, Cx.wish])
set_option linter.all false
theorem ok_source {f : Addr} {fd : FuncData} (F : Fun K "_law_source" "_law_source" sSource f fd) (T : TxtC mg) : FnOk P w K mg base CX0 1 f fd ["_law_script", "_law_turn"] (spSource K) := by
  refine F.ok scS (fun vs H Q E h => ?_) (fun cdv A outer s H vs Q E hr h => ?_)
  · obtain ⟨a, ns, j, rfl, _⟩ := h
    rfl
  · obtain ⟨a, ns, j, rfl, hS, hj, k⟩ := h
    have hu := hu_of hr
    refine ⟨_, pss_cons (ps_set (i := 2) scS.nd rfl (Or.inl rfl) pe_int)
      (pss_cons (ps_if (pt_cmpR op_lt (pv 1) (pe_callB call_len_seq (by rfl) T.len PySem.boot_len (pa_cons (pv 0) pa_nil)) (nomark _))
         (pss_one (ps_set (i := 2) scS.nd rfl (Or.inl rfl) (pe_ix ix_list (pv 0) (pv 1) (fun _ _ => rfl)))) pss_nil)
      (pss_cons (ps_set (i := 3) scS.nd rfl (Or.inl rfl) (pe_callB (call_max2 rfl) (by rfl) T.max PyProof.Rows.boot_max (pa_cons (pv 2) (pa_cons (pe_op op_sub (pe_un un_neg pe_int) (pv 2)) pa_nil))))
      (pss_cons (ps_set (i := 4) scS.nd rfl (Or.inl rfl) (pe_op op_mod (pe_op op_add (pe_op op_add (pe_op op_mul (pe_op op_mod (pv 3) pe_int) pe_int) (pe_op op_mul pe_int (pv 1))) pe_int) pe_int))
      (pss_cons (ps_if (pt_cmpR op_lt (pv 3) (pe_op op_pow pe_int pe_int) (nomark _)) (pss_one (ps_set (i := 3) scS.nd rfl (Or.inl rfl) pe_int)) pss_nil)
      (pss_one (ps_ret (pe_lst (pa_cons (pv 3) (pa_cons (pv 4) pa_nil))))))))), ?_⟩
    walk_at "rd"
    have fin : ∀ (c : Int) (H1 : Hp), H1 = H →
        0 < (2147483629 : Int) ∧ CMul ((if -1 - c > c then -1 - c else c) % 2147483629) 16807 ∧ CMul 104729 (j : Int) ∧ (0 : Int) < 2147483647 ∧ CPow 10 18 ∧
        if (if -1 - c > c then -1 - c else c) < 10 ^ Int.toNat 18 then
          2 ≤ sizeLine ∧ ∀ p, H1 p = none → Q (V.ref p) (upd H1 p (HO.lst [V.int 0, V.int (((if -1 - c > c then -1 - c else c) % 2147483629 * 16807 + 104729 * (j : Int) + 11) % 2147483647)]))
        else 2 ≤ sizeLine ∧ ∀ p, H1 p = none → Q (V.ref p) (upd H1 p (HO.lst [V.int (if -1 - c > c then -1 - c else c), V.int (((if -1 - c > c then -1 - c else c) % 2147483629 * 16807 + 104729 * (j : Int) + 11) % 2147483647)])) := by
      rintro c H1 rfl
      have hm : 0 ≤ (if -1 - c > c then -1 - c else c) := by split <;> omega
      generalize (if -1 - c > c then -1 - c else c) = m at hm
      refine ⟨by decide, Or.inr ⟨by decide, by decide⟩, Or.inl ⟨by decide, by decide⟩, by decide, ⟨by decide, by decide, by decide⟩, ?_⟩
      have hs0 := Int.emod_nonneg (m % 2147483629 * 16807 + 104729 * (j : Int) + 11) (show (2147483647 : Int) ≠ 0 by decide)
      have hs1 := Int.emod_lt_of_pos (m % 2147483629 * 16807 + 104729 * (j : Int) + 11) (show (0 : Int) < 2147483647 by decide)
      split
      · exact ⟨by decide, fun p hp => k p _ _ hp ⟨by decide, hs0, hs1⟩⟩
      · exact ⟨by decide, fun p hp => k p _ _ hp ⟨hm, hs0, hs1⟩⟩
    refine ⟨_, .inl hS, ?_⟩
    split
    · rename_i hlt
      have hlt' : j < (ns.map V.int).length := by omega
      refine ⟨a, _, _, _, rfl, rfl, hS, atI_nat (List.getElem?_eq_getElem hlt'), ?_⟩
      have e : (ns.map V.int)[j] = V.int (ns[j]'(by simpa using hlt')) := by simp
      rw [e]
      walk_at "rd"
      exact fin _ _ rfl
    · exact fin 0 _ rfl
theorem ok_draw {f : Addr} {fd : FuncData} (F : Fun K "_law_draw" "_law_draw" sDraw f fd) : FnOk P w K mg base CX0 1 f fd ["_law_source_here", "_law_amount"] spDraw := by
  refine F.ok scD (fun vs H Q E h => ?_) (fun cdv A outer s H vs Q E hr h => ?_)
  · obtain ⟨p, x, y, n, rfl, _⟩ := h
    rfl
  · obtain ⟨p, x, y, n, rfl, hL, ⟨hx, hy, hy2⟩, hn, hn2, k⟩ := h
    have hu := hu_of hr
    refine ⟨_, pss_cons (ps_if (pt_cmpR op_gt (pe_ix ix_list (pv 0) pe_int (fun _ _ => rfl)) pe_int (nomark _))
        (pss_cons (ps_set (i := 2) scD.nd rfl (Or.inl rfl) (pe_op op_mod (pe_ix ix_list (pv 0) pe_int (fun _ _ => rfl)) (pv 1)))
        (pss_cons (ps_asg (pe_op op_fdivW (pe_ix ix_list (pv 0) pe_int (fun _ _ => rfl)) (pv 1)) (pg_sub (pv 0) pe_int set_list))
        (pss_one (ps_ret (pv 2))))) pss_nil)
      (pss_cons (ps_asg (pe_op op_mod (pe_op op_add (pe_op op_mul (pe_ix ix_list (pv 0) pe_int (fun _ _ => rfl)) pe_int) pe_int) pe_int) (pg_sub (pv 0) pe_int set_list))
      (pss_one (ps_ret (pe_op op_mod (pe_op op_fdivW (pe_op op_mod (pe_op op_mul (pe_ix ix_list (pv 0) pe_int (fun _ _ => rfl)) (pe_ix ix_list (pv 0) pe_int (fun _ _ => rfl))) pe_int) pe_int) (pv 1))))), ?_⟩
    have hS : SqL K H p [.int x, .int y] := SqL.of hL
    have r0 : ∀ (H' : Hp) (x y : Int) (Q' : V → Hp → Prop), H' p = some (.lst [.int x, .int y]) → Q' (.int x) H' → rIxL K (V.ref p) (V.int 0) H' Q' := fun H' x y Q' h q =>
      ⟨p, _, _, _, rfl, rfl, SqL.of h, atI_nat (j := 0) rfl, q⟩
    have r1 : ∀ (H' : Hp) (x y : Int) (Q' : V → Hp → Prop), H' p = some (.lst [.int x, .int y]) → Q' (.int y) H' → rIxL K (V.ref p) (V.int 1) H' Q' := fun H' x y Q' h q =>
      ⟨p, _, _, _, rfl, rfl, SqL.of h, atI_nat (j := 1) rfl, q⟩
    have w0 : ∀ (H' : Hp) (x y : Int) (v : V) (Q' : Hp → Prop), H' p = some (.lst [.int x, .int y]) → Q' (upd H' p (.lst [v, .int y])) → rSetL (V.ref p) (V.int 0) v H' Q' := fun H' x y v Q' h q =>
      ⟨p, _, _, _, rfl, rfl, h, rfl, q⟩
    have w1 : ∀ (H' : Hp) (x y : Int) (v : V) (Q' : Hp → Prop), H' p = some (.lst [.int x, .int y]) → Q' (upd H' p (.lst [.int x, v])) → rSetL (V.ref p) (V.int 1) v H' Q' := fun H' x y v Q' h q =>
      ⟨p, _, _, _, rfl, rfl, h, rfl, q⟩
    have hb : n.natAbs < 2 ^ 100 := by omega
    walk_at "rd"
    refine r0 _ _ _ _ hL ?_
    walk_at "rd"
    split
    · rename_i hpos
      refine r0 _ _ _ _ hL ?_
      walk_at "rd"
      refine ⟨hn, r0 _ _ _ _ hL ?_⟩
      walk_at "rd"
      refine ⟨wide_div hn hb (by decide) (by decide), w0 _ _ _ _ _ hL ?_⟩
      exact k _ _ _ ⟨Int.ediv_nonneg hx (by omega), hy, hy2⟩ (Int.emod_nonneg _ (by omega)) (Int.emod_lt_of_pos _ hn)
    · refine r1 _ _ _ _ hL ?_
      walk_at "rd"
      refine ⟨Or.inr ⟨by decide, by decide⟩, by decide, w1 _ _ _ _ _ hL ?_⟩
      have hs0 := Int.emod_nonneg (y * 48271 + 11) (show (2147483647 : Int) ≠ 0 by decide)
      have hs1 := Int.emod_lt_of_pos (y * 48271 + 11) (show (0 : Int) < 2147483647 by decide)
      generalize (y * 48271 + 11) % 2147483647 = z at hs0 hs1
      refine r1 _ x z _ upd_same (r1 _ x z _ upd_same ?_)
      walk_at "rd"
      refine ⟨Or.inr ⟨by omega, by omega⟩, by decide, ⟨by decide, by decide⟩, hn, ?_⟩
      exact k _ _ _ ⟨hx, hs0, hs1⟩ (Int.emod_nonneg _ (by omega)) (Int.emod_lt_of_pos _ hn)
end
end K73
set_option Elab.async false
set_option linter.all false
set_option maxRecDepth 100000
set_option maxHeartbeats 4000000
namespace K73
open PySem L2 EX PyProof.Rows M72
structure Bn (mg : Str → Option Value) : Prop where
  range : mg "range" = none
  max : mg "max" = none
  min : mg "min" = none
  len : mg "len" = none
  repr : mg "repr" = none
  isi : mg "isinstance" = none
  tuple : mg "tuple" = none
  list : mg "list" = none
  sorted : mg "sorted" = none
  set : mg "set" = none
inductive ItV (K : PySem.W.Frag) (H : Hp) : V → Item → Prop where
  | w : ItV K H (.str "write") .w
  | r {t : Addr} {n : Nat} : SqT K H t [.str "read", .int (n : Int)] → ItV K H (.ref t) (.r n)
abbrev SeqV (K : PySem.W.Frag) (H : Hp) : List V → List Item → Prop := Paired (ItV K H)
theorem ItV.mono {K : PySem.W.Frag} {H H' : Hp} {v : V} {it : Item} (s : Same H H') (h : ItV K H v it) : ItV K H' v it := by
  cases h with
  | w => exact .w
  | r h => exact .r (sqt_same s h)
theorem SeqV.mono {K : PySem.W.Frag} {H H' : Hp} (s : Same H H') : ∀ {xs : List V} {its : List Item}, SeqV K H xs its → SeqV K H' xs its
  | _, _, .nil => .nil
  | _, _, .cons h t => .cons (h.mono s) (SeqV.mono s t)
/-- all but p is kept -/
def But (p : Addr) (H H' : Hp) : Prop := ∀ b o, b ≠ p → H b = some o → H' b = some o
theorem But.sqt {K : PySem.W.Frag} {H H' : Hp} {p a : Addr} {xs ys : List V} (s : But p H H') (hp : H p = some (.lst ys)) (h : SqT K H a xs) : SqT K H' a xs := by
  have ne : ∀ {o}, H a = some o → o ≠ .lst ys → a ≠ p := fun {o} e d z => by rw [z, hp] at e; exact d (Option.some.inj e).symm
  rcases h with (h | ⟨o, h⟩) | h
  · exact .inl (.inl (s _ _ (ne h (fun z => by cases z)) h))
  · exact .inl (.inr ⟨o, s _ _ (ne h (fun z => by cases z)) h⟩)
  · exact .inr h
theorem SeqV.but {K : PySem.W.Frag} {H H' : Hp} {p : Addr} {ys : List V} (s : But p H H') (hp : H p = some (.lst ys)) : ∀ {xs : List V} {its : List Item}, SeqV K H xs its → SeqV K H' xs its
  | _, _, .nil => .nil
  | _, _, .cons h t => .cons (by cases h with | w => exact .w | r h => exact .r (s.sqt hp h)) (SeqV.but s hp t)
theorem SeqV.snoc {K : PySem.W.Frag} {H : Hp} {v : V} {it : Item} {xs : List V} {its : List Item} (h : SeqV K H xs its) (e : ItV K H v it) : SeqV K H (xs ++ [v]) (its ++ [it]) := Paired.snoc h e
def spSeq (K : PySem.W.Frag) : Sp := fun vs H Q _ => ∃ (p : Addr) (x y : Int) (most : Nat), vs = [.ref p, .int (most : Int)] ∧ H p = some (.lst [.int x, .int y]) ∧ SrcOk x y ∧ most ≤ 1000 ∧
  ∀ (q : Addr) (xs : List V) (its : List Item) (x' y' : Int) (H' : Hp), But p H H' → H' p = some (.lst [.int x', .int y']) → SrcOk x' y' → H q = none → q ≠ sysModules → H' q = some (.lst xs) → SeqV K H' xs its → xs.length ≤ most → (∀ n, Item.r n ∈ its → n ≤ 4) → Q (.ref q) H'
abbrev sSeq : Stmt := top 18
theorem scQ : FnScope ["_law_source_here", "_law_most", "_law_found", "_law_attempt", "_law_way"] ["_law_source_here", "_law_most"] (defScope sSeq) := ⟨rfl, rfl, rfl, by decide +kernel, rfl, by decide +kernel, by decide +kernel⟩
section
variable {P : Program} {w : World} {K : PySem.W.Frag} {mg : Str → Option Value} {base : Heap}
theorem ok_sequence {f : Addr} {fd : FuncData} (F : Fun K "_law_sequence" "_law_sequence" sSeq f fd) (B : Bn mg) (GD : DefAt P w K mg base 1 "_law_draw" ["_law_source_here", "_law_amount"] spDraw) : FnOk P w K mg base CX0 2 f fd ["_law_source_here", "_law_most"] (spSeq K) := by
  refine F.ok scQ (fun vs H Q E h => ?_) (fun cdv A outer s H vs Q E hr h => ?_)
  · obtain ⟨p, x, y, most, rfl, _⟩ := h
    rfl
  · obtain ⟨p, x, y, most, rfl, hp, src, hm, k⟩ := h
    have hr1 : Room 1 _ := hr
    refine ⟨_, (pss_cons (ps_set (i := 2) scQ.nd rfl (Or.inl rfl) (pe_lstN pa_nil))
        (pss_cons (ps_for PassesOwn.never rfl (pi_range1 (by rfl) B.range (pa_cons (pe_callD GD hr1 (pa_cons (pv 0) (pa_cons (pe_op op_add (pv 1) pe_int) pa_nil))) pa_nil)) (pg_name (i := 3) scQ.nd rfl (Or.inl rfl)) (pss_cons (ps_set (i := 4) scQ.nd rfl (Or.inl rfl) (pe_callD GD hr1 (pa_cons (pv 0) (pa_cons pe_int pa_nil))))
        (pss_one (ps_expr (pe_bm PySem.F.plainAttrs_list PySem.F.slot_list_append PySem.F.type_list_append mt_append (pv 2) (pa_cons (pe_ifExp (pt_cmpR op_lt (pv 4) pe_int (nomark _)) pe_str (pe_tup (pa_cons pe_str (pa_cons (pe_callD GD hr1 (pa_cons (pv 0) (pa_cons (pe_ix ix_list (pe_lst (pa_cons pe_int (pa_cons pe_int pa_nil))) (pe_op op_sub (pv 4) pe_int) (fun _ _ => rfl)) pa_nil))) pa_nil)))) pa_nil))))))
        (pss_one (ps_ret (pv 2))))), ?_⟩
    refine ⟨by show 0 ≤ sizeLine; decide, fun q hq hqm => ?_⟩
    have hqp : p ≠ q := ne_of_none hp hq
    have bq : But p H (upd H q (.lst [])) := fun b o _ e => by rw [upd_ne (ne_of_none e hq)]; exact e
    have lp : upd H q (HO.lst []) p = some (.lst [.int x, .int y]) := by rw [upd_ne hqp]; exact hp
    have lq : upd H q (HO.lst []) q = some (.lst []) := upd_same
    generalize upd H q (HO.lst []) = H1 at bq lp lq ⊢
    refine ⟨_, rfl, _, rfl, _, _, rfl, rfl, p, x, y, _, rfl, lp, src, by omega, by omega, fun x1 y1 d src1 d0 d1 => ?_⟩
    have b1 : But p H (upd H1 p (.lst [.int x1, .int y1])) := fun b o hb e => by rw [upd_ne hb]; exact bq b o hb e
    have l1 : upd H1 p (HO.lst [.int x1, .int y1]) p = some (.lst [.int x1, .int y1]) := upd_same
    have lq1 : upd H1 p (HO.lst [.int x1, .int y1]) q = some (.lst []) := by rw [upd_ne (Ne.symm hqp)]; exact lq
    generalize upd H1 p (HO.lst [.int x1, .int y1]) = H2 at b1 l1 lq1 ⊢
    clear bq lp lq
    refine ⟨_, rfl, by omega, by omega, ?_⟩
    refine for_range (lo := 0) (n := d.toNat) (fun i σ H' => ∃ v3 v4 x' y' xs its, σ = [some (.ref p), some (.int (most : Int)), some (.ref q), v3, v4] ∧ But p H H' ∧ H' p = some (.lst [.int x', .int y']) ∧ SrcOk x' y' ∧ H' q = some (.lst xs) ∧ SeqV K H' xs its ∧ xs.length = i ∧ (∀ n, Item.r n ∈ its → n ≤ 4))
      ⟨_, _, x1, y1, [], [], rfl, b1, l1, src1, lq1, .nil, rfl, fun n h => by simp at h⟩ ?_ ?_
    · rintro i σ H' hi ⟨v3, v4, x', y', xs, its, rfl, b2, l2, src2, lq2, sv, hl, h4⟩
      refine ⟨_, rfl, p, x', y', _, rfl, l2, src2, by decide, by decide, fun x1 y1 way srcw w0 w1 => ?_⟩
      have b3 : But p H (upd H' p (.lst [.int x1, .int y1])) := fun b o hb e => by rw [upd_ne hb]; exact b2 b o hb e
      have s3 : But p H' (upd H' p (.lst [.int x1, .int y1])) := fun b o hb e => by rw [upd_ne hb]; exact e
      have l3 : upd H' p (HO.lst [.int x1, .int y1]) p = some (.lst [.int x1, .int y1]) := upd_same
      have lq3 : upd H' p (HO.lst [.int x1, .int y1]) q = some (.lst xs) := by rw [upd_ne (Ne.symm hqp)]; exact lq2
      have sv3 := sv.but s3 l2
      generalize upd H' p (HO.lst [.int x1, .int y1]) = H3 at b3 l3 lq3 sv3 ⊢
      clear b2 l2 lq2 sv s3
      have hsz : xs.length < sizeLine := by rw [sizeLine_eq]; omega
      refine ⟨_, rfl, .inl ⟨rfl, _, SqL.of lq3⟩, _, rfl, _, _, rfl, rfl, _, rfl, ite2 (fun hw => ?_) (fun hw => ?_)⟩
      · -- a write
        refine ⟨q, xs, _, rfl, rfl, lq3, hsz, ?_⟩
        have b4 : But p H (upd H3 q (.lst (xs ++ [.str "write"]))) := fun b o hb e => by rw [upd_ne (ne_of_none e hq)]; exact b3 b o hb e
        have s4 : But q H3 (upd H3 q (.lst (xs ++ [.str "write"]))) := fun b o hb e => by rw [upd_ne hb]; exact e
        exact ⟨_, _, x1, y1, xs ++ [.str "write"], its ++ [.w], rfl, b4, s4 _ _ hqp l3, srcw, upd_same, (sv3.but s4 lq3).snoc .w, by rw [List.length_append, hl]; rfl, fun n h => by
          rcases List.mem_append.mp h with h | h
          · exact h4 n h
          · simp at h⟩
      · -- a read
        have hw3 : ¬ way < 3 := fun z => hw (decide_eq_true z)
        refine ⟨_, rfl, by show 2 ≤ sizeLine; decide, fun L hL => ?_⟩
        have s4 : Same H3 (upd H3 L (.lst [.int 2, .int 5])) := Same.upd hL
        have b4 : But p H (upd H3 L (.lst [.int 2, .int 5])) := fun b o hb e => s4 _ _ (b3 b o hb e)
        have lL : upd H3 L (HO.lst [.int 2, .int 5]) L = some (.lst [.int 2, .int 5]) := upd_same
        replace l3 := s4 _ _ l3
        replace lq3 := s4 _ _ lq3
        replace sv3 := sv3.mono s4
        generalize upd H3 L (HO.lst [.int 2, .int 5]) = H4 at b4 lL l3 lq3 sv3 ⊢
        clear s4 b3
        obtain ⟨m, hm5, hat⟩ : ∃ m : Nat, (m = 2 ∨ m = 5) ∧ atI [V.int 2, V.int 5] (way - 3) = some (.int (m : Int)) := by
          obtain rfl | rfl : way = 3 ∨ way = 4 := by omega
          · exact ⟨2, .inl rfl, rfl⟩
          · exact ⟨5, .inr rfl, rfl⟩
        refine ⟨_, rfl, _, _, rfl, rfl, L, _, _, _, rfl, rfl, SqL.of lL, hat, p, x1, y1, _, rfl, l3, srcw, by omega, by omega, fun x2 y2 d2 src2' e0 e1 => ?_⟩
        have b5 : But p H (upd H4 p (.lst [.int x2, .int y2])) := fun b o hb e => by rw [upd_ne hb]; exact b4 b o hb e
        have s5 : But p H4 (upd H4 p (.lst [.int x2, .int y2])) := fun b o hb e => by rw [upd_ne hb]; exact e
        have l5 : upd H4 p (HO.lst [.int x2, .int y2]) p = some (.lst [.int x2, .int y2]) := upd_same
        have lq5 : upd H4 p (HO.lst [.int x2, .int y2]) q = some (.lst xs) := s5 _ _ (Ne.symm hqp) lq3
        have sv5 := sv3.but s5 l3
        generalize upd H4 p (HO.lst [.int x2, .int y2]) = H5 at b5 l5 lq5 sv5 ⊢
        clear b4 lL l3 lq3 sv3 s5 hat
        refine ⟨by show 2 ≤ sizeLine; decide, fun t ht => ?_⟩
        have s6 : Same H5 (upd H5 t (.tup [.str "read", .int d2])) := Same.upd ht
        have b6 : But p H (upd H5 t (.tup [.str "read", .int d2])) := fun b o hb e => s6 _ _ (b5 b o hb e)
        have lt : upd H5 t (HO.tup [.str "read", .int d2]) t = some (.tup [.str "read", .int d2]) := upd_same
        replace l5 := s6 _ _ l5
        replace lq5 := s6 _ _ lq5
        replace sv5 := sv5.mono s6
        generalize upd H5 t (HO.tup [.str "read", .int d2]) = H6 at b6 lt l5 lq5 sv5 ⊢
        clear s6 b5
        obtain ⟨n2, rfl⟩ := Int.eq_ofNat_of_zero_le e0
        refine ⟨q, xs, _, rfl, rfl, lq5, hsz, ?_⟩
        have b7 : But p H (upd H6 q (.lst (xs ++ [.ref t]))) := fun b o hb e => by rw [upd_ne (ne_of_none e hq)]; exact b6 b o hb e
        have s7 : But q H6 (upd H6 q (.lst (xs ++ [.ref t]))) := fun b o hb e => by rw [upd_ne hb]; exact e
        exact ⟨_, _, x2, y2, xs ++ [.ref t], its ++ [.r n2], rfl, b7, s7 _ _ hqp l5, src2', upd_same, (sv5.but s7 lq5).snoc (.r (s7.sqt lq5 (SqT.of lt))), by rw [List.length_append, hl]; rfl, fun n h => by
          rcases List.mem_append.mp h with h | h
          · exact h4 n h
          · simp at h
            subst h
            omega⟩
    · rintro σ H' ⟨v3, v4, x', y', xs, its, rfl, b2, l2, src2, lq2, sv, hl, h4⟩
      refine ⟨_, rfl, k q xs its x' y' H' b2 l2 src2 hq hqm lq2 sv (by omega) h4⟩
end
end K73
set_option Elab.async false
set_option linter.all false
set_option maxRecDepth 100000
set_option maxHeartbeats 4000000
namespace K73
open PySem L2 EX PyProof.Rows M72
abbrev natV (ps : List Nat) : List V := ps.map fun n : Nat => V.int (n : Int)
abbrev SqN (K : PySem.W.Frag) (H : Hp) (b : Addr) (ps : List Nat) : Prop := SqL K H b (natV ps) ∨ SqT K H b (natV ps)
def spServed (K : PySem.W.Frag) : Sp := fun vs H Q _ => ∃ (a b : Addr) (xs : List V) (its : List Item) (ps : List Nat), vs = [.ref a, .ref b] ∧ SqL K H a xs ∧ SeqV K H xs its ∧ SqN K H b ps ∧ xs.length ≤ 1000 ∧ Q (.bl (served its ps)) H
theorem getI {K : PySem.W.Frag} {H : Hp} : ∀ {xs : List V} {its : List Item} {i : Nat}, SeqV K H xs its → i < xs.length → ∃ x it, xs[i]? = some x ∧ its[i]? = some it ∧ ItV K H x it
  | _, _, 0, .cons h _, _ => ⟨_, _, rfl, rfl, h⟩
  | _, _, i + 1, .cons _ t, hl => by
    obtain ⟨x, it, e1, e2, e3⟩ := getI (i := i) t (by simpa using hl)
    exact ⟨x, it, by simpa using e1, by simpa using e2, e3⟩
theorem inNat (n : Nat) (ps : List Nat) : inV (.int (n : Int)) (natV ps) = decide (n ∈ ps) := by
  induction ps with
  | nil => simp [inV, natV]
  | cons m t ih =>
    have e : inV (.int (n : Int)) (natV (m :: t)) = (eqV (.int (m : Int)) (.int (n : Int)) || inV (.int (n : Int)) (natV t)) := rfl
    rw [e, ih]
    have e2 : eqV (.int (m : Int)) (.int (n : Int)) = decide (m = n) := by
      by_cases h : m = n
      · subst h; simp [eqV]
      · have : ¬ (m : Int) = (n : Int) := by omega
        simp [eqV, h, this]
    rw [e2]
    by_cases h : n = m
    · subst h; simp
    · simp [h, Ne.symm h]
theorem flatNat (ps : List Nat) : (natV ps).all flatV = true := by
  induction ps with
  | nil => rfl
  | cons m t ih =>
    simp only [natV, List.map_cons, List.all_cons, Bool.and_eq_true]
    exact ⟨rfl, ih⟩
theorem okS {x : Str} (h : PyData.strOk x = true) : SeqAt.shaped (.str x) = true := by
  show (PyData.strOk x && decide (PyData.depth (.str x) ≤ 64)) = true
  rw [h]
  rfl
theorem shapedR (n : Int) : SeqAt.shaped (.tuple [.str "read", .int n]) = true := by
  show ((PyData.strOk "read" && (true && true)) && decide (PyData.depthAll [.str "read", .int n] + 1 ≤ 64)) = true
  rw [show PyData.strOk "read" = true by decide +kernel]
  rfl
theorem okWrite : SeqAt.shaped (.str "write") = true := okS (by decide +kernel)
theorem eqW {K : PySem.W.Frag} {H : Hp} {x : V} {it : Item} (h : ItV K H x it) : ∃ d, Dp K H x d ∧ SeqAt.shaped d = true ∧ PyData.eqv d (.str "write") = isW (some it) := by
  cases h with
  | w => exact ⟨_, .str _, okWrite, by decide +kernel⟩
  | r h => exact ⟨_, .tup h (.cons (.str _) (.cons (.int _) .nil)), shapedR _, rfl⟩
abbrev sSrv : Stmt := top 19
theorem scV : FnScope ["_law_sequence_here", "_law_pushes", "_law_age", "_law_at"] ["_law_sequence_here", "_law_pushes"] (defScope sSrv) := ⟨rfl, rfl, rfl, by decide +kernel, rfl, by decide +kernel, by decide +kernel⟩
section
variable {P : Program} {w : World} {K : PySem.W.Frag} {mg : Str → Option Value} {base : Heap}
theorem ok_served {f : Addr} {fd : FuncData} (F : Fun K "_law_served" "_law_served" sSrv f fd) (B : Bn mg) : FnOk P w K mg base CX0 1 f fd ["_law_sequence_here", "_law_pushes"] (spServed K) := by
  refine F.ok scV (fun vs H Q E h => ?_) (fun cdv A outer s H vs Q E hr h => ?_)
  · obtain ⟨a, b, xs, its, ps, rfl, _⟩ := h
    rfl
  · obtain ⟨a, b, xs, its, ps, rfl, hx, sv, hb, hz, k⟩ := h
    have hu64 : _ + 64 < cLine := hr.units
    have hlen : xs.length = its.length := Paired.length sv
    refine ⟨_, (pss_cons (ps_set (i := 2) scV.nd rfl (Or.inl rfl) pe_int)
        (pss_cons (ps_for PassesOwn.never rfl (pi_range1 (by rfl) B.range (pa_cons (pe_callB call_len_seq (by rfl) B.len PySem.boot_len (pa_cons (pv 0) pa_nil)) pa_nil)) (pg_name (i := 3) scV.nd rfl (Or.inl rfl)) (pss_one (ps_if (pt_cmpR (op_eqD hu64) (pe_ix ix_list (pv 0) (pv 3) (fun _ _ => rfl)) pe_str (nomark _)) (pss_one (ps_set (i := 2) scV.nd rfl (Or.inl rfl) (pe_ifExp (pt_cmpR op_in_seq (pv 3) (pv 1) rfl) pe_int (pe_op op_add (pv 2) pe_int)))) (pss_one (ps_if (pt_cmpR op_lt (pe_ix ix_tup (pe_ix ix_list (pv 0) (pv 3) (fun _ _ => rfl)) pe_int (fun _ _ => rfl)) (pv 2) (nomark _)) (pss_one (ps_ret pe_bl)) pss_nil)))))
        (pss_one (ps_ret pe_bl)))), ?_⟩
    refine ⟨_, rfl, a, _, rfl, .inl hx, ?_⟩
    refine ⟨_, rfl, by omega, by omega, ?_⟩
    refine for_range (lo := 0) (n := (xs.length : Int).toNat) (fun i σ H' => ∃ (age : Nat) (v3 : Option V), σ = [some (.ref a), some (.ref b), some (.int (age : Int)), v3] ∧ H' = H ∧ servedGo (its.drop i) i ps age = served its ps)
      ⟨0, _, rfl, rfl, rfl⟩ ?_ ?_
    · rintro i σ H' hi ⟨age, v3, rfl, rfl, hs⟩
      have hi' : i < xs.length := by simpa using hi
      obtain ⟨x, it, e1, e2, hit⟩ := getI sv hi'
      obtain ⟨d, hd, hsh, heq⟩ := eqW hit
      have hdrop : its.drop i = it :: its.drop (i + 1) := by
        have h2 := (List.getElem?_eq_some_iff.mp e2)
        obtain ⟨h3, h4⟩ := h2
        rw [List.drop_eq_getElem_cons h3, h4]
      have hat : atI xs (0 + (i : Int)) = some x := by rw [Int.zero_add]; exact atI_nat e1
      refine ⟨_, rfl, _, rfl, a, _, _, _, rfl, rfl, hx, hat, d, _, hd, .str _, hsh, okWrite, _, rfl, ?_⟩
      rw [heq]
      cases hit with
      | w =>
        refine iteT ?_
        refine ⟨_, rfl, _, rfl, b, natV ps, rfl, hb, rfl, flatNat ps, _, rfl, ?_⟩
        have hin : (if false = true then !inV (.int (0 + (i : Int))) (natV ps) else inV (.int (0 + (i : Int))) (natV ps)) = decide (i ∈ ps) := by
          rw [if_neg Bool.false_ne_true, Int.zero_add]
          exact inNat i ps
        rw [hin]
        rw [hdrop] at hs
        by_cases hp : i ∈ ps
        · rw [decide_eq_true hp]
          refine iteT ?_
          refine ⟨0, _, rfl, rfl, ?_⟩
          rw [← hs]
          show _ = servedGo (its.drop (i + 1)) (i + 1) ps (if i ∈ ps then 0 else age + 1)
          rw [if_pos hp]
        · rw [decide_eq_false hp]
          refine iteF ?_
          refine ⟨_, rfl, _, _, rfl, rfl, age + 1, _, rfl, rfl, ?_⟩
          rw [← hs]
          show _ = servedGo (its.drop (i + 1)) (i + 1) ps (if i ∈ ps then 0 else age + 1)
          rw [if_neg hp]
      | @r t n ht =>
        refine iteF ?_
        rw [hdrop] at hs
        have hs2 : (if n < age then false else servedGo (its.drop (i + 1)) (i + 1) ps age) = served its ps := hs
        refine ⟨_, rfl, _, rfl, a, _, _, _, rfl, rfl, hx, hat, t, _, _, _, rfl, rfl, ht, rfl, _, rfl, _, _, rfl, rfl, _, rfl, ite2 (fun hn => ?_) (fun hn => ?_)⟩
        · have hn' : n < age := by simpa using hn
          rw [if_pos hn'] at hs2
          rw [← hs2] at k
          exact k
        · have hn' : ¬ n < age := by simpa using hn
          rw [if_neg hn'] at hs2
          exact ⟨age, _, rfl, rfl, hs2⟩
    · rintro σ H' ⟨age, v3, rfl, rfl, hs⟩
      have : its.drop (xs.length : Int).toNat = [] := by simp [hlen]
      rw [this] at hs
      refine (?_ : Q (.bl true) H')
      rw [← show served its ps = true from hs.symm.trans rfl] 
      exact k
end
end K73
set_option Elab.async false
set_option linter.all false
set_option maxRecDepth 100000
set_option maxHeartbeats 4000000
namespace K73
open PySem L2 EX PyProof.Rows M72
def optV : Option Nat → V
  | some s => .int (s : Int)
  | none => .non
def spFirst (K : PySem.W.Frag) : Sp := fun vs H Q _ => ∃ (a : Addr) (q n : Nat) (xs : List V) (its : List Item), vs = [.ref a, .int (q : Int)] ∧ SqL K H a xs ∧ SeqV K H xs its ∧ xs.length ≤ 1000 ∧ its[q]? = some (.r n) ∧ ∀ H', Same H H' → Q (optV (wstart its q n)) H'
abbrev sFst : Stmt := top 20
def sFstN : List Str := ["_law_sequence_here", "_law_at", "_law_writes", "_law_one"]
theorem scF : FnScope ["_law_sequence_here", "_law_at", "_law_writes", "_law_one"] ["_law_sequence_here", "_law_at"] (defScope sFst) := ⟨rfl, rfl, rfl, by decide +kernel, rfl, by decide +kernel, by decide +kernel⟩
section
variable {P : Program} {w : World} {K : PySem.W.Frag} {mg : Str → Option Value} {base : Heap}
theorem getR {K : PySem.W.Frag} {H : Hp} {xs : List V} {its : List Item} {q n : Nat} (sv : SeqV K H xs its) (e : its[q]? = some (.r n)) : ∃ t, xs[q]? = some (.ref t) ∧ SqT K H t [.str "read", .int (n : Int)] := by
  have hl : xs.length = its.length := Paired.length sv
  obtain ⟨x, it, e1, e2, h⟩ := getI sv (i := q) (by have := (List.getElem?_eq_some_iff.mp e).1; omega)
  rw [e] at e2
  cases e2
  cases h with
  | r ht => exact ⟨_, e1, ht⟩
theorem natV_get {ps : List Nat} {j m : Nat} (h : ps[j]? = some m) : (natV ps)[j]? = some (.int (m : Int)) := by
  simp [natV, List.getElem?_map, h]
theorem ok_first {f : Addr} {fd : FuncData} (F : Fun K "_law_first_push" "_law_first_push" sFst f fd) (B : Bn mg) : FnOk P w K mg base CX0 1 f fd ["_law_sequence_here", "_law_at"] (spFirst K) := by
  refine F.ok scF (fun vs H Q E h => ?_) (fun cdv A outer s H vs Q E hr h => ?_)
  · obtain ⟨a, q, n, xs, its, rfl, _⟩ := h
    rfl
  · obtain ⟨a, q, n, xs, its, rfl, hx, sv, hz, hq, k⟩ := h
    have hu64 : _ + 64 < cLine := hr.units
    have hlen : xs.length = its.length := Paired.length sv
    have hq2 : q < its.length := (List.getElem?_eq_some_iff.mp hq).1
    refine ⟨_, (pss_cons (ps_setLc (i := 2) (own := [("_law_one", 3)]) (g := gName 3) (tt := tTest (tOp (rEqD K) (tOp (rIxL K) (tVar 0) (tVar 3)) (tC (.str "write")))) rfl scF.nd rfl rfl (sw_true rfl rfl rfl (by decide +kernel)) (pi_range1 (by rfl) B.range (pa_cons (pv 1) pa_nil)) (blkOk_by (N := sFstN) (sc := defScope sFst) (by decide +kernel)) (fun _ _ _ _ _ => pg_name (i := 3) scF.nd rfl (Or.inl rfl)) (fun _ _ _ _ _ => (pts_one (pt_cmpR (op_eqD hu64) (pe_ix ix_list (pv 0) (pv 3) (fun _ _ => rfl)) pe_str (nomark _)))) (fun _ _ _ _ _ => (pv 3)))
        (pss_one (ps_ret (pe_ifExp (pt_cmpR op_gt (pe_callB call_len_seq (by rfl) B.len PySem.boot_len (pa_cons (pv 2) pa_nil)) (pe_ix ix_tup (pe_ix ix_list (pv 0) (pv 1) (fun _ _ => rfl)) pe_int (fun _ _ => rfl)) (nomark _)) (pe_ix ix_list (pv 2) (pe_op op_sub (pe_op op_sub (pe_callB call_len_seq (by rfl) B.len PySem.boot_len (pa_cons (pv 2) pa_nil)) pe_int) (pe_ix ix_tup (pe_ix ix_list (pv 0) (pv 1) (fun _ _ => rfl)) pe_int (fun _ _ => rfl))) (fun _ _ => rfl)) pe_non)))), ?_⟩
    refine ⟨_, rfl, _, rfl, by omega, by omega, fun D hD => ?_⟩
    refine lc_range (lo := 0) (n := ((q : Nat) : Int).toNat) (fun j H' => H' D = some (.lst (natV (wrTo its j))) ∧ Same H H') ⟨upd_same, Same.upd hD⟩ ?_ ?_
    · rintro j H' hj ⟨lD, S⟩
      have hj' : j < q := by simpa using hj
      obtain ⟨x, it, e1, e2, hit⟩ := getI (sv.mono S) (i := j) (by omega)
      obtain ⟨d, hd, hsh, heq⟩ := eqW hit
      have hat : atI xs (0 + (j : Int)) = some x := by rw [Int.zero_add]; exact atI_nat e1
      refine ⟨rfl, ?_⟩
      refine ⟨_, rfl, _, rfl, a, _, _, _, rfl, rfl, S.seq hx, hat, d, _, hd, .str _, hsh, okWrite, _, rfl, ?_⟩
      rw [heq]
      have hw := wrTo_succ its j
      rw [e2] at hw
      cases hit with
      | w =>
        refine iteT ⟨_, rfl, _, lD, ?_, ?_, ?_⟩
        · have : (wrTo its j).length ≤ j := by
            unfold wrTo
            exact Nat.le_trans (List.length_filter_le _ _) (by simp)
          rw [List.length_map, sizeLine_eq]
          omega
        · rw [upd_same, hw]
          simp [isW, natV, List.map_append]
        · exact Same.updN S hD
      | r ht =>
        refine iteF ⟨?_, S⟩
        rw [lD, hw]
        simp [isW]
    · rintro H' ⟨lD, S⟩
      have lD' : H' D = some (.lst (natV (wrTo its q))) := by simpa using lD
      obtain ⟨t, e1, ht⟩ := getR (sv.mono S) hq
      have hat : atI xs ((q : Nat) : Int) = some (.ref t) := atI_nat e1
      have hx' := S.seq hx
      refine ⟨_, rfl, D, _, rfl, .inl (SqL.of lD'), _, rfl, _, rfl, a, _, _, _, rfl, rfl, hx', hat, t, _, _, _, rfl, rfl, ht, rfl, _, _, rfl, rfl, _, rfl, ?_⟩
      have hlw : (natV (wrTo its q)).length = (wrTo its q).length := by simp [natV]
      have k' := k H' S
      unfold wstart at k'
      refine ite2 (fun hn => ?_) (fun hn => ?_)
      · have hn' : n < (wrTo its q).length := by
          have := of_decide_eq_true hn
          rw [hlw] at this
          omega
        rw [if_pos hn'] at k'
        obtain ⟨m, hm⟩ : ∃ m, (wrTo its q)[(wrTo its q).length - 1 - n]? = some m := ⟨_, List.getElem?_eq_getElem (by omega)⟩
        rw [hm] at k'
        refine ⟨_, rfl, _, rfl, D, _, rfl, .inl (SqL.of lD'), _, _, rfl, rfl, _, rfl, _, rfl, a, _, _, _, rfl, rfl, hx', hat, t, _, _, _, rfl, rfl, ht, rfl, _, _, rfl, rfl, D, _, _, _, rfl, rfl, SqL.of lD', ?_, k'⟩
        have : ((natV (wrTo its q)).length : Int) - 1 - (n : Int) = (((wrTo its q).length - 1 - n : Nat) : Int) := by
          rw [hlw]
          omega
        rw [this]
        exact atI_nat (natV_get hm)
      · have hn' : ¬ n < (wrTo its q).length := by
          intro z
          refine hn (decide_eq_true ?_)
          rw [hlw]
          omega
        rw [if_neg hn'] at k'
        exact k'
end
end K73
set_option Elab.async false
set_option linter.all false
set_option maxRecDepth 100000
set_option maxHeartbeats 4000000
namespace EX
open PySem L2 PySem.Spec PyProof.Rows LamX
/-! ### a lambda handed to a def that tells what it raised -/
/-- a wish need hold only for as many slots as there are -/
theorem takes_len {X : Cx} {W : WX} (t : Takes X W) : Takes X (fun cls d σ H => σ.length = X.N.length → W cls d σ H) := fun u s' ⟨a, B, sI, pins, σ, H, cls, d, e, I, nb, up, sky, na, os, ag, w⟩ =>
  t u s' ⟨a, B, sI, pins, σ, H, cls, d, e, I, nb, up, sky, na, os, ag, w I.len⟩
/-- isinstance(e, c) in a suite -/
def rIsD (K : PySem.W.Frag) (a : Addr) (cls : Value) (d : Option Addr) : List V → Hp → VK → Prop := fun xs H Q => ∃ dd, d = some dd ∧ ∃ (C : Addr) (fs : List (Str × V)) (c : V) (cv : Value) (b : Bool), xs = [.ref a, c] ∧ cls = .ref C ∧ EcC K C ∧ H dd = some (.xd fs) ∧ ClsV c cv ∧ PySem.W.kitOne K (.ref C) cv = some b ∧ Q (.bl b) H
theorem call_isD {X : Cx} {a : Addr} {cls : Value} {d : Option Addr} {oe : Obj} {pn : List (Addr × Obj)} (hz : Zc cls d oe) (hf : ∃ vs, oe.data = .fields vs) : CallR (X.suite a ((a, oe) :: pn)) (.builtin "isinstance") (rIsD X.K a cls d) := by
  intro pins s σ H xs us Q I r h
  obtain ⟨dd, rfl, h⟩ := h
  exact call_isS hz hf pins s σ H xs us Q I r h
/-- e.f in a suite, for the classes of which f is a field -/
def tXfs (Cs : List Addr) (a : Addr) (cls : Value) (d : Option Addr) (f : Str) (te : TE) : TE := fun σ H Q => ∃ C ∈ Cs, tXf a cls d C f te σ H Q
theorem pe_xfs {X : Cx} {a : Addr} {Cs : List Addr} {oe : Obj} {cls : Value} {d : Option Addr} {pn : List (Addr × Obj)} {e : Expr} {te : TE} {pos : Pos} {n : Str} (T : ∀ C ∈ Cs, EcC X.K C ∧ PySem.W.findIn X.K (.ref C) n = some none)
    (hz : Zc cls d oe) (hf : ∃ vs, oe.data = .fields vs) (he : PE (X.suite a ((a, oe) :: pn)) e te) (hb : attributeBase e n X.env (eval e X.env) = eval e X.env := by rfl) :
    PE (X.suite a ((a, oe) :: pn)) (.Attribute e n pos) (tXfs Cs a cls d n te) := by
  refine ⟨fun pins s σ H Q I h => ?_⟩
  obtain ⟨C, hC, h⟩ := h
  exact (pe_xf (T C hC).1.xf (T C hC).2 hz hf he hb).run pins s σ H Q I h
/-- what such a def makes of it: cs the classes caught with their words -/
def TSaid (K : PySem.W.Frag) (cs : List (Addr × Str)) (made : Str) : (XK → Hp → VK → Prop) → Hp → VK → Prop := fun tl H Q =>
  tl (fun cls d H' => ∃ (i : Nat) (C : Addr) (lbl : Str) (dd : Addr) (v : V) (dv : PyData), cs[i]? = some (C, lbl) ∧ cls = .ref C ∧ d = some dd ∧ H' dd = some (.xd [("given", v)]) ∧ DqS K H' v dv ∧ dv.showable = true ∧ dv.depth ≤ 60 ∧ dv.shown.length ≤ sizeLine ∧
    ∀ p, H' p = none → Q (.ref p) (upd H' p (.lst [.str lbl, .str dv.shown, .bl true]))) H (fun _ H' => 1 ≤ sizeLine ∧ ∀ p, H' p = none → Q (.ref p) (upd H' p (.lst [.str made])))
/-- the reading of one clause -/
def tSaid1 (K : PySem.W.Frag) (Cs : List Addr) (cb : Addr) (lbl : Str) (i : Nat) (a : Addr) (cls : Value) (d : Option Addr) : TS :=
  tRet (tLst (tCons (tC (.str lbl)) (tCons (tCB (rRepq K) (tCons (tXfs Cs a cls d "given" (tVar i)) tNil)) (tCons (tCB (rIsD K a cls d) (tCons (tVar i) (tCons (tC (.ref cb)) tNil))) tNil))))
/-- what stands of the classes -/
structure SaidC (K : PySem.W.Frag) (cb : Addr) (cs : List (Addr × Str)) : Prop where
  ec : ∀ p ∈ cs, EcC K p.1 ∧ PySem.W.findIn K (.ref p.1) "given" = some none
  cbk : ∀ p ∈ cs, PySem.W.kitOne K (.ref p.1) (.ref cb) = some true
  ex : ∀ (i j : Nat) (p q : Addr × Str), cs[i]? = some p → cs[j]? = some q → PySem.W.exmOne K (.ref p.1) (.ref q.1) = some (decide (i = j))
/-- the wish of the clauses from the k-th on, for an exception of the i-th class -/
theorem said_wish {K : PySem.W.Frag} {cb : Addr} {cs : List (Addr × Str)} (S : SaidC K cb cs) {Wout : WX} {D : Ends} {σ : L2.St} {H : Hp} {sl i : Nat} {C dd : Addr} {lbl : Str} {v : V} {dv : PyData} (hσ : sl < σ.length)
    (hi : cs[i]? = some (C, lbl)) (hx : H dd = some (.xd [("given", v)])) (hd : DqS K H v dv) (h1 : dv.showable = true) (h2 : dv.depth ≤ 60) (h3 : dv.shown.length ≤ sizeLine) (hq : ∀ p, H p = none → D.rt (.ref p) (upd H p (.lst [.str lbl, .str dv.shown, .bl true]))) :
    ∀ (l : List (Addr × Str)) (k : Nat), cs.drop k = l → k ≤ i → wCls K Wout D (l.map fun p => ⟨.ref p.1, some sl, tSaid1 K (cs.map (·.1)) cb p.2 sl⟩) (.ref C) (some dd) σ H
  | [], k, hl, hk => by
    have := congrArg List.length hl
    rw [List.length_drop] at this
    have := (List.getElem?_eq_some_iff.mp hi).1
    simp at *
    omega
  | p :: l, k, hl, hk => by
    have hp : cs[k]? = some p := by
      have : (cs.drop k)[0]? = some p := by rw [hl]; rfl
      rw [List.getElem?_drop] at this
      simpa using this
    have hl' : cs.drop (k + 1) = l := by
      rw [← List.drop_drop, hl]
      rfl
    refine ⟨decide (i = k), S.ex i k (C, lbl) p hi hp, fun e => ?_, fun e => ?_⟩
    · have e : i = k := of_decide_eq_true e
      subst e
      rw [hi] at hp
      cases hp
      intro a ha
      have hm : (C, lbl) ∈ cs := List.mem_of_getElem? hi
      have hs : (slotIn σ (some sl) (some (.ref a)))[sl]? = some (some (.ref a)) := by
        show (σ.set sl (some (.ref a)))[sl]? = _
        rw [List.getElem?_set_self hσ]
      refine ⟨C, List.mem_map.mpr ⟨_, hm, rfl⟩, _, hs, rfl, rfl, dd, _, v, rfl, hx, rfl, v, dv, rfl, hd, h1, h2, h3, ?_⟩
      exact ⟨_, hs, dd, rfl, C, _, _, .ref cb, true, rfl, rfl, (S.ec _ hm).1, hx, .own cb, S.cbk _ hm, by show 3 ≤ sizeLine; decide, hq⟩
    · have e : ¬ i = k := of_decide_eq_false e
      exact said_wish S hσ hi hx hd h1 h2 h3 hq l (k + 1) hl' (by omega)
end EX
set_option Elab.async false
set_option linter.all false
set_option maxRecDepth 100000
set_option maxHeartbeats 4000000
/-! a lambda of two parameters, handed on to a def and called there -/
namespace EX
open PySem L2 PySem.Spec PyProof.Rows LamX
def two2 (R : V → V → Hp → Prop) : List V → Hp → Prop := fun vs H => match vs with
  | [x, y] => R x y H
  | _ => False
structure Lam2S (sc scope : Scope) (a1 a2 : Str) (N : List Str) : Prop where
  kind : scope.kind = .function
  co : scope.isCoroutine = false
  gen : scope.isGenerator = false
  own : ∀ y ∈ scope.names, y.2 ≠ .cell
  loc : ∀ y ∈ scope.names, y.2 = .local → y.1 = a1 ∨ y.1 = a2
  l1 : scope.names.lookup a1 = some .local
  l2 : scope.names.lookup a2 = some .local
  ne : a1 ≠ a2
  n1 : a1 ∉ N
  n2 : a2 ∉ N
  free : ∀ y ∈ scope.names, y.2 = .free → sc.names.lookup y.1 = some .cell ∨ sc.names.lookup y.1 = some .free
def lam2SB (sc scope : Scope) (a1 a2 : Str) (N : List Str) : Bool :=
  decide (scope.kind = .function) && !scope.isCoroutine && !scope.isGenerator && (scope.names.all fun y => !decide (y.2 = .cell) && (!decide (y.2 = .local) || decide (y.1 = a1) || decide (y.1 = a2)) && (!decide (y.2 = .free) || decide (sc.names.lookup y.1 = some .cell) || decide (sc.names.lookup y.1 = some .free))) &&
    decide (scope.names.lookup a1 = some .local) && decide (scope.names.lookup a2 = some .local) && decide (a1 ≠ a2) && decide (a1 ∉ N) && decide (a2 ∉ N)
theorem lam2S_by {sc scope : Scope} {a1 a2 : Str} {N : List Str} (h : lam2SB sc scope a1 a2 N = true) : Lam2S sc scope a1 a2 N := by
  unfold lam2SB at h
  simp only [Bool.and_eq_true, Bool.or_eq_true, Bool.not_eq_true', decide_eq_true_eq, decide_eq_false_iff_not, List.all_eq_true] at h
  obtain ⟨⟨⟨⟨⟨⟨⟨⟨h1, h2⟩, h3⟩, h4⟩, h5⟩, h6⟩, h7⟩, h8⟩, h9⟩ := h
  refine ⟨h1, h2, h3, fun y hy => (h4 y hy).1.1, fun y hy e => ?_, h5, h6, h7, h8, h9, fun y hy e => ?_⟩
  · rcases (h4 y hy).1.2 with (z | z) | z
    · exact absurd e z
    · exact .inl z
    · exact .inr z
  · rcases (h4 y hy).2 with (z | z) | z
    · exact absurd e z
    · exact .inl z
    · exact .inr z
/-- the context of such a lambda's body -/
def lam2Cx (X : Cx) (A : Around) (outer : List Env) (s : Shared) (H : Hp) (E : XK) (scope : Scope) (f c' : Addr) (a1 a2 : Str) : Cx where
  prog := X.prog
  w := X.w
  K := X.K
  mg := X.mg
  base := X.base
  A := A.deeper (lamEnv X scope s.heap.objs.size f c')
  N := a1 :: a2 :: X.N
  s_0 := s
  H_0 := H
  env := lamEnv X scope s.heap.objs.size f c'
  outer := outer
  stack := lamEnv X scope s.heap.objs.size f c' :: outer
  ex := []
  fn := fun _ => false
  calm := true
  pn := []
  xe := fun e s' => wpAny (model X.prog X.w) (A.deeper (lamEnv X scope s.heap.objs.size f c')) (leaving (lamEnv X scope s.heap.objs.size f c') e) (fun _ s'' => L2.CX X.prog X.w outer H s E e s'') (fun e' s'' => L2.CX X.prog X.w outer H s E e' s'') s'
section
variable {X : Cx} {pins : List (Addr × Obj)} {σ : L2.St} {H HZ : Hp} {s s1 : Shared}
theorem lam2_has {scope : Scope} {a1 a2 : Str} {N : List Str} (L : Lam2S X.env.scope scope a1 a2 N) (ok : X.Ok) : ∀ y ∈ scope.names, y.2 = .free → ∃ c, X.env.cells.lookup y.1 = some c := fun y hy e => by
  rcases L.free y hy e with k | k
  · exact ok.has _ (.inl k)
  · exact ok.has _ (.inr k)
theorem lam2_start {A : Around} {outer : List Env} {E : XK} {scope : Scope} {f c' : Addr} {a1 a2 : Str} {v1 v2 : V} {u1 u2 : Value} {h₁ : Heap} {tk : Nat} (I : Inv X pins σ H s) (L : Lam2S X.env.scope scope a1 a2 X.N) (e0 : Env0 X.prog X.w X.K X.mg X.base A outer s1 HZ) (hd : A.handled = none)
    (un : Un (frs X.stack) [] H HZ s.heap s1.heap) (hns : h₁.Ns s1.heap.objs.size fun y => ([(a1, u1), (a2, u2)] : List (Str × Value)).reverse.lookup y) (r1 : L2.RelV v1 u1) (r2 : L2.RelV v2 u2) (kp : ∀ b o, s1.heap.get? b = some o → h₁.get? b = some o) :
    Inv (lam2Cx X A outer s1 HZ E scope f c' a1 a2) [] (some v1 :: some v2 :: σ) HZ { s1 with heap := h₁, toks := tk } := by
  have hfree := lam2_has L I.ok
  have cm : ∀ {y c}, (cloFrom X.env.cells scope.names []).lookup y = some c → X.env.cells.lookup y = some c := fun {y c} e => by
    rcases cloFrom_mem (PySem.mem_of_lookup e) with hm | ⟨h1, h2⟩
    · cases hm
    · obtain ⟨c1, hc⟩ := hfree _ h1 rfl
      have hc : X.env.cells.lookup y = some c1 := hc
      have e2 : c = c1 := by
        rw [h2, hc] <;> rfl
      rw [e2]
      exact hc
  have look : ∀ {y}, scope.names.lookup y = some .free → ∃ c, (cloFrom X.env.cells scope.names []).lookup y = some c := fun {y} hl => by
    have hy : (y, NameKind.free) ∈ scope.names := PySem.mem_of_lookup hl
    exact mem_lookup (cloFrom_has (cells := X.env.cells) (acc := []) hy)
  have cellK : ∀ {c : Addr} {v : Option Value}, H c = none → s.heap.IsCell c v → h₁.IsCell c v := fun {c v} n ⟨o, ho, hd⟩ => by
    obtain ⟨sl, q⟩ := un.any ho n (by simp)
    exact ⟨_, kp _ _ q, hd⟩
  have noA : ∀ b : Addr, b ∉ (lam2Cx X A outer s1 HZ E scope f c' a1 a2).ex := fun b z => absurd (show b ∈ ([] : List Addr) from z) (by simp)
  have nb : (a1 == a2) = false := by simpa using L.ne
  have nb2 : (a2 == a1) = false := by simpa using Ne.symm L.ne
  refine ⟨⟨e0.mod, L.kind, rfl, rfl, Nat.le_refl _, fun y z c e1 e2 => I.ok.inj y z c (cm e1) (cm e2), fun y hy => ?_, fun y c z _ => ?_, fun _ => hd, Around.frames_deeper e0.frames, .inr ⟨rfl, rfl⟩, fun b z => absurd z (noA b), e0.bs, e0.bsz, fun b _ _ => noA b,
      fun b z => absurd z (noA b), e0.funs, e0.frf⟩,
    rfl, e0.bare, Un.kept kp, ⟨_, hns, fun i y v e1 e2 e3 => ?_⟩, fun y c e => ?_, e0.hok.fresh (Nat.le_refl _), fun y c e => ?_, fun q hq => absurd (show q ∈ ([] : List (Addr × Obj)) ++ [] from hq) (by simp), e0.hok.kept kp, congrArg (· + 2) I.len⟩
  · have hy : scope.names.lookup y = some .cell ∨ scope.names.lookup y = some .free := hy
    rcases hy with hy | hy
    · exact absurd rfl (L.own _ (PySem.mem_of_lookup hy))
    · exact look hy
  · have z : false = true := z
    cases z
  · match i, e1, e2 with
    | 0, e1, e2 =>
      cases e1
      cases e2
      refine ⟨u1, r1, .inl ⟨L.l1, ?_⟩⟩
      show List.lookup a1 [(a2, u2), (a1, u1)] = some u1
      simp [List.lookup, nb]
    | 1, e1, e2 =>
      cases e1
      cases e2
      refine ⟨u2, r2, .inl ⟨L.l2, ?_⟩⟩
      show List.lookup a2 [(a2, u2), (a1, u1)] = some u2
      simp [List.lookup]
    | i + 2, e1, e2 =>
      have e1 : X.N[i]? = some y := e1
      have e2 : σ[i]? = some (some v) := e2
      have e3 : Vis scope y := e3
      have hm := List.mem_of_getElem? e1
      rcases e3 with k | k | k
      · rcases L.loc _ (PySem.mem_of_lookup k) rfl with z | z
        · have z : y = a1 := z
          exact absurd (z ▸ hm) L.n1
        · have z : y = a2 := z
          exact absurd (z ▸ hm) L.n2
      · exact absurd rfl (L.own _ (PySem.mem_of_lookup k))
      · obtain ⟨m, hn, hl⟩ := I.loc
        have hvis : Vis X.env.scope y := (L.free _ (PySem.mem_of_lookup k) rfl).elim (fun k => .inr (.inl k)) (fun k => .inr (.inr k))
        obtain ⟨w', r, q⟩ := hl i y v e1 e2 hvis
        obtain ⟨c2, h2⟩ := look k
        refine ⟨w', r, .inr ⟨.inr k, c2, h2, ?_⟩⟩
        have c1 := cm h2
        rcases q with ⟨k', _⟩ | ⟨_, c3, e', z⟩
        · have k' : X.env.scope.names.lookup y = some .local := k'
          rcases L.free _ (PySem.mem_of_lookup k) rfl with k2 | k2 <;> rw [show X.env.scope.names.lookup y = _ from k2] at k' <;> cases k'
        · rw [c1] at e'
          cases e'
          exact cellK (I.freeC y _ c1) z
  · obtain ⟨w', z⟩ := I.cell y c (cm e)
    exact ⟨w', cellK (I.freeC y c (cm e)) z⟩
  · obtain ⟨v, o, ho, hd⟩ := I.cell y c (cm e)
    exact un.free c o ho (I.freeC y c (cm e)) (by simp)
/-- x(e1, e2), in the def that got the lambda: Z is that def's context, entered at s -/
theorem pe_act2 {CXg : CXT} {Eg : XK} {Ng : List Str} {qg : Str} {sg : Scope} {g f c' : Addr} {cdg pm ctv : Value} {params : Arguments} {body : Expr} {scope : Scope} {k i : Nat} {a a1 a2 : Str} {tb t1 t2 : TE} {e1 e2 : Expr} {p1 p2 : Pos}
    (I : Inv X pins σ H s) (L : Lam2S X.env.scope scope a1 a2 X.N) (hf : s.heap.get? f = some (PySem.W.kla_obj "<lambda>" (X.env.qual ++ "<lambda>") params body scope (cloFrom X.env.cells scope.names []) pm c' ctv)) (hfn : H f = none) (hfr : f ∉ frs X.stack)
    (hbind : ∀ u1 u2 : Value, bindArgs (PySem.W.kla_fn "<lambda>" (X.env.qual ++ "<lambda>") params body scope (cloFrom X.env.cells scope.names []) pm (.ref c') ctv) ⟨[u1, u2], []⟩ = pure [(a1, u1), (a2, u2)])
    (hr : Room (k + 1) (X.A.deeper (envOfC qg sg s.heap.objs.size g cdg)))
    (hbody : ∀ (A : Around) (outer : List Env) (s : Shared) (H : Hp), Room k (A.deeper (lamEnv X scope s.heap.objs.size f c')) → PE (lam2Cx X A outer s H C8.E0 scope f c' a1 a2) body tb)
    (h1 : PE (cxOf CXg X.prog X.w X.K X.mg X.base Ng qg sg g cdg X.A X.stack s H Eg).nox e1 t1) (h2 : PE (cxOf CXg X.prog X.w X.K X.mg X.base Ng qg sg g cdg X.A X.stack s H Eg).nox e2 t2)
    (hN : Ng[i]? = some a) (hv : Vis sg a) (hd : (a == ("__debug__" : Str)) = false := by decide) (hcd : (a == ("__classdict__" : Str)) = false := by decide)
    (hs2 : starEach [e2] (envOfC qg sg s.heap.objs.size g cdg) = (false, eval e2 (envOfC qg sg s.heap.objs.size g cdg)) :: starEach [] (envOfC qg sg s.heap.objs.size g cdg) := by rfl)
    (hs1 : starEach [e1, e2] (envOfC qg sg s.heap.objs.size g cdg) = (false, eval e1 (envOfC qg sg s.heap.objs.size g cdg)) :: starEach [e2] (envOfC qg sg s.heap.objs.size g cdg) := by rfl)
    (hpl : (backTo p2 (starEach [e2] (envOfC qg sg s.heap.objs.size g cdg))).any (·.1) = false := by rfl) :
    PE (cxOf CXg X.prog X.w X.K X.mg X.base Ng qg sg g cdg X.A X.stack s H Eg).nox (.Call (.Name a p1) [e1, e2] [] p2)
      (fun σZ HZ Q => σZ[i]? = some (some (.ref f)) ∧ t1 σZ HZ fun x H1 => t2 σZ H1 fun y H2 => H2 c' = some (CodeO c' (X.env.qual ++ "<lambda>")) ∧ tb (some x :: some y :: σ) H2 Q) := by
  refine ⟨fun pinsZ sZ σZ HZ Q IZ h => ?_⟩
  obtain ⟨hs, ht⟩ := h
  refine wpAny_Call_Name_kw (thn ((pe_var (pos := p1) (i := i) hN hv hd hcd).run pinsZ sZ σZ HZ (fun v H1 => v = .ref f ∧ H1 = HZ) IZ ⟨.ref f, hs, rfl, rfl⟩) fun u s1 ⟨v, H1, I1, r1, q1⟩ => ?_)
  obtain ⟨ev, eH⟩ := q1
  subst ev
  rw [eH] at I1
  obtain rfl : u = Value.ref f := r1
  have keep : ∀ {σ2 : L2.St} {H2 : Hp} {s2 : Shared} {pn2 : List (Addr × Obj)}, Inv (cxOf CXg X.prog X.w X.K X.mg X.base Ng qg sg g cdg X.A X.stack s H Eg).nox pn2 σ2 H2 s2 → s2.heap.get? f = some (PySem.W.kla_obj "<lambda>" (X.env.qual ++ "<lambda>") params body scope (cloFrom X.env.cells scope.names []) pm c' ctv) :=
    fun J => J.base.keep f _ hf hfn hfr (fun z => nomatch (show f ∈ ([] : List Addr) from z))
  have of1 := keep I1
  refine PySem.W.callWith_F ⟨_, _, _, _, of1⟩ (thn ((pa_cons h1 (pa_cons h2 pa_nil hs2) hs1).run p2 pinsZ s1 σZ HZ (two2 fun x y H2 => H2 c' = some (CodeO c' (X.env.qual ++ "<lambda>")) ∧ tb (some x :: some y :: σ) H2 Q) I1 ht) ?_) hs1 hpl
  · rintro us s2 ⟨vs, H2, I2, r, q2⟩
    obtain ⟨x, y, rfl⟩ : ∃ x y, vs = [x, y] := by
      match vs, q2 with
      | [x, y], _ => exact ⟨x, y, rfl⟩
    obtain ⟨hc, htb⟩ : H2 c' = some (CodeO c' (X.env.qual ++ "<lambda>")) ∧ tb (some x :: some y :: σ) H2 Q := q2
    refine ⟨⟨_, _, _, _, keep I2⟩, ?_⟩
    cases r with
    | cons rx r =>
      cases r with
      | cons ry r =>
        cases r
        rename_i u1 u2
        have un : Un (frs X.stack) [] H H2 s.heap s2.heap := I2.base
        obtain ⟨⟨oc, vs, t, hoc, hdc, hvc⟩, _, _⟩ := I2.hok c' _ hc
        have rc : codeAny (model X.prog X.w) (X.A.deeper (envOfC qg sg s.heap.objs.size g cdg)) (.call (.ref f) ⟨[u1, u2], []⟩) (CR (L2.CX X.prog X.w) (envOfC qg sg s.heap.objs.size g cdg :: X.stack) X.prog X.w H2 s2 Q C8.E0) s2 := by
          refine PySem.W.kla_callFunE hr.depth (keep I2) rfl L.co L.gen rfl ⟨c', oc, vs, t, rfl, hoc, hdc, hvc⟩ ?_
          rw [hbind]
          refine wpAny_pure (wpAny_newFunctionEnv (fun y hy => L.own y hy) (fun y hy => ?_) (fun h₁ hns hsb => ⟨I2.nolimit.fresh _ hsb, ?_⟩) L.kind)
          · simp only [List.mem_cons, List.not_mem_nil, or_false] at hy
            rcases hy with rfl | rfl
            · exact L.l1
            · exact L.l2
          · show codeAny _ _ (.expr body (lamEnv X scope s2.heap.objs.size f c')) _ _
            have kp : ∀ b o, s2.heap.get? b = some o → h₁.get? b = some o := fun b o e => hsb.extBut b o (Nat.ne_of_lt (Heap.lt_size e)) (Heap.get?_push_of_some _ e)
            have J : Inv (lam2Cx X (X.A.deeper (envOfC qg sg s.heap.objs.size g cdg)) (envOfC qg sg s.heap.objs.size g cdg :: X.stack) s2 H2 C8.E0 scope f c' a1 a2) [] (some x :: some y :: σ) H2 { s2 with heap := h₁, toks := s2.toks + ([(a1, u1), (a2, u2)] : List (Str × Value)).length } :=
              lam2_start I L I2.env0 hr.hd un hns rx ry kp
            refine PySem.W.kla_codeExpr (wpAny_mono ((hbody _ _ s2 H2 (hr.deeper _)).run [] _ _ H2 Q J htb) (fun v s' hq => ?_) fun e s' hq => hq)
            · obtain ⟨w', H', J', rv, q⟩ := hq
              exact ⟨w', H', J'.os, J'.bare, J'.base, J'.hok, rv, q⟩
        refine wpAny_call (codeAny_mono rc fun r s' hq => ?_)
        cases r with
        | error e => exact passL pinsZ σZ H2 s2 e s' I2 hq
        | ok fl =>
          cases fl with
          | ret u => exact I2.after hq
          | next => exact False.elim hq
          | brk => exact False.elim hq
          | cont => exact False.elim hq
end
/-- the def that calls what it got: a(y1, y2) with its own names; TT: what it makes of the lambda's reading -/
def GivesTo2 (X : Cx) (Ng : List Str) (x : Str) (sg : Scope) (g : Addr) (cdg : Value) (bg : List Stmt) (a y1 y2 : Str) (i j1 j2 : Nat) (q : Str) (TT : V → (V → V → Hp → VK → Prop) → Hp → VK → Prop) : Prop :=
  ∀ (v0 : V) (f c' : Addr) (s : Shared) (H : Hp) (Q : VK) (tl : V → V → Hp → VK → Prop),
    (∀ (p1 p2 p3 p4 : Pos), PE (cxOf C8.CX0 X.prog X.w X.K X.mg X.base Ng x sg g cdg X.A X.stack s H C8.E0).nox (.Call (.Name a p1) [.Name y1 p3, .Name y2 p4] [] p2)
      (fun σZ HZ Q => σZ[i]? = some (some (.ref f)) ∧ ∃ v1, σZ[j1]? = some (some v1) ∧ ∃ v2, σZ[j2]? = some (some v2) ∧ HZ c' = some (CodeO c' q) ∧ tl v1 v2 HZ Q)) →
    H c' = some (CodeO c' q) → TT v0 tl H Q →
    ∃ t, PSs (cxOf C8.CX0 X.prog X.w X.K X.mg X.base Ng x sg g cdg X.A X.stack s H C8.E0).nox bg t ∧ t { nx := fun _ H' => Q .non H', rt := Q } (L2.start Ng [v0, .ref f]) H
def tLam2 (T : List (Addr × Str)) (TT : V → (V → V → Hp → VK → Prop) → Hp → VK → Prop) (t0 t : TE) : TE := fun σ H Q => t0 σ H fun v0 H0 => Tabs T H0 ∧ ∀ H1, ExtN H0 H1 → Tabs T H1 → TT v0 (fun v1 v2 H' Q' => t (some v1 :: some v2 :: σ) H' Q') H1 Q
section
variable {X : Cx}
/-- x(e0, lambda a1, a2: body) -/
theorem pe_lam2call {T : List (Addr × Str)} {TT : V → (V → V → Hp → VK → Prop) → Hp → VK → Prop} {x a b0 y1 y2 a1 a2 : Str} {g c P : Addr} {k i j1 j2 : Nat} {pg : Arguments} {bg : List Stmt} {sg : Scope} {dV kV doc pm cdv ct oc : Value} {an od : Option Addr} {osl : Array (Option Value)} {Ng : List Str}
    {params : Arguments} {body e0 : Expr} {scope : Scope} {t0 t : TE} {p lpos pos : Pos} (hg : Gl X x) (hm : X.mg x = some (.ref g)) (hk : PySem.W.keepIn X.K (.ref g) = true)
    (lk : X.K.lookup g = some ⟨oc, od, .func (PySem.W.fnOf x x pg bg sg dV kV doc pm an cdv ct), osl⟩) (hcg : PySem.W.codeIn X.K cdv x = true) (hb : L2.Binds X.K (PySem.W.fnOf x x pg bg sg dV kV doc pm an cdv ct) [b0, a] []) (Sg : FnScope Ng [b0, a] sg)
    (hNg : Ng[i]? = some a) (hva : Vis sg a) (hN1 : Ng[j1]? = some y1) (hv1 : Vis sg y1) (hN2 : Ng[j2]? = some y2) (hv2 : Vis sg y2)
    (hG : GivesTo2 X Ng x sg g cdv bg a y1 y2 i j1 j2 (X.env.qual ++ "<lambda>") TT)
    (TB : TabB X.base X.mg c P) (hcode : X.env.code = .ref c) (hmT : (P, X.env.qual ++ "<lambda>") ∈ T) (hu : ∀ p ∈ T, p.1 = P → p.2 = X.env.qual ++ "<lambda>") (hr : Room (k + 2) X.A) (L : Lam2S X.env.scope scope a1 a2 X.N) (hdef : defaultsOf params X.env = ([], []))
    (hbind : ∀ (q : Str) (cl : List (Str × Addr)) (pm cv ctv u1 u2 : Value), bindArgs (PySem.W.kla_fn "<lambda>" q params body scope cl pm cv ctv) ⟨[u1, u2], []⟩ = pure [(a1, u1), (a2, u2)])
    (h0 : PE X e0 t0)
    (hbody : ∀ (A : Around) (outer : List Env) (s : Shared) (H : Hp) (f c' : Addr), Room k (A.deeper (lamEnv X scope s.heap.objs.size f c')) → PE (lam2Cx X A outer s H C8.E0 scope f c' a1 a2) body t)
    (hs1 : starEach [e0, .Lambda params body scope lpos] X.env = (false, eval e0 X.env) :: starEach [.Lambda params body scope lpos] X.env := by rfl)
    (hdb : (x == ("__debug__" : Str)) = false := by decide) (hd : (a == ("__debug__" : Str)) = false := by decide) (hcd : (a == ("__classdict__" : Str)) = false := by decide)
    (hd1 : (y1 == ("__debug__" : Str)) = false := by decide) (hcd1 : (y1 == ("__classdict__" : Str)) = false := by decide) (hd2 : (y2 == ("__debug__" : Str)) = false := by decide) (hcd2 : (y2 == ("__classdict__" : Str)) = false := by decide) :
    PE X (.Call (.Name x p) [e0, .Lambda params body scope lpos] [] pos) (tLam2 T TT t0 t) := by
  refine ⟨fun pins s σ H Q I h => ?_⟩
  refine wpAny_Call_Name_kw (ld_glob I hg hm ?_ hdb)
  refine PySem.W.callWith_K (h₀ := X.base) I.ok.mod.kin hk ?_ hs1 (by rfl)
  rw [hs1]
  show wpAny _ _ (spliced ((false, eval e0 X.env) :: backTo pos (starEach [.Lambda params body scope lpos] X.env))) _ _ s
  refine Calls.spliced_cons (thn (h0.run pins s σ H _ I h) fun u0 s0 ⟨v0, H0, I0, r0, hT, h⟩ => ?_)
  show wpAny _ _ (spliced ((false, eval (.Lambda params body scope lpos) X.env) :: backTo pos (starEach [] X.env))) _ _ s0
  refine Calls.spliced_cons (lam_make2 I0 TB hcode hmT hu hT hdef (lam2_has L I.ok) fun f c' pm' ctv H1 s' I1 eN T1 hf hfn hfr hco => ?_)
  refine Calls.spliced_nil ⟨I1.kIn, ?_⟩
  have rc : codeAny (model X.prog X.w) X.A (.call (.ref g) ⟨[u0, .ref f], []⟩) (CR C8.CX0 X.stack X.prog X.w H1 s' Q C8.E0) s' := by
    refine run_ofS (N := Ng) (ps := [b0, a]) (us := [u0, .ref f]) (vs := [v0, .ref f]) lk hcg Sg hr I1.env0 (hb s' [u0, .ref f] I1.kIn rfl) (.cons r0 (.cons rfl .nil)) rfl fun hr' => ?_
    obtain ⟨t', ht', hq'⟩ := hG v0 f c' s' H1 Q (fun v1 v2 H' Q' => t (some v1 :: some v2 :: σ) H' Q') (fun p1 p2 p3 p4 => pe_act2 (t1 := tVar j1) (t2 := tVar j2) I1 L hf hfn hfr (fun u1 u2 => hbind _ _ _ _ _ u1 u2) hr' (fun A outer s H hr2 => hbody A outer s H f c' hr2) (pe_var hN1 hv1 hd1 hcd1) (pe_var hN2 hv2 hd2 hcd2) hNg hva hd hcd) hco (h H1 eN T1)
    exact ⟨t', ht'.nox, hq'⟩
  refine wpAny_call (codeAny_mono rc fun r s2 hq => ?_)
  cases r with
  | error e => exact (show False from hq).elim
  | ok fl =>
    cases fl with
    | ret u => exact I1.after hq
    | next => exact False.elim hq
    | brk => exact False.elim hq
    | cont => exact False.elim hq
end
end EX
set_option Elab.async false
set_option linter.all false
set_option maxRecDepth 100000
set_option maxHeartbeats 4000000
namespace EX
open PySem L2 PySem.Spec PyProof.Rows LamX
/-! ### what is kept where tables of code objects grow -/
theorem ExtN.of_same {H H' : Hp} (s : Same H H') : ExtN H H' := ExtN.of s
theorem ExtN.seq {K : PySem.W.Frag} {H H' : Hp} {a : Addr} {xs : List V} (s : ExtN H H') (h : SqL K H a xs) : SqL K H' a xs :=
  h.elim (fun z => .inl (z.elim (fun z => .inl (s _ _ z (fun _ e => nomatch e))) fun ⟨o, z⟩ => .inr ⟨o, s _ _ z (fun _ e => nomatch e)⟩)) .inr
theorem ExtN.sqt {K : PySem.W.Frag} {H H' : Hp} {a : Addr} {xs : List V} (s : ExtN H H') (h : SqT K H a xs) : SqT K H' a xs :=
  h.elim (fun z => .inl (z.elim (fun z => .inl (s _ _ z (fun _ e => nomatch e))) fun ⟨o, z⟩ => .inr ⟨o, s _ _ z (fun _ e => nomatch e)⟩)) .inr
theorem ExtN.dK {H H' : Hp} {a : Addr} {kvs : List (Key × V)} (s : ExtN H H') (h : H a = some (.dK kvs)) : H' a = some (.dK kvs) := s _ _ h (fun _ e => nomatch e)
theorem ExtN.lst {H H' : Hp} {a : Addr} {xs : List V} (s : ExtN H H') (h : H a = some (.lst xs)) : H' a = some (.lst xs) := s _ _ h (fun _ e => nomatch e)
mutual
theorem DqS.ext {K : PySem.W.Frag} {H H' : Hp} (s : ExtN H H') : ∀ {v : V} {d : PyData}, DqS K H v d → DqS K H' v d
  | _, _, .non => .non
  | _, _, .bl b => .bl b
  | _, _, .int i => .int i
  | _, _, .str x => .str x
  | _, _, .lst n h a => .lst n (ExtN.seq s h) (DqSAll.ext s a)
  | _, _, .tup h a => .tup (ExtN.sqt s h) (DqSAll.ext s a)
  | _, _, .dic h a => .dic (ExtN.dK s h) (DqSAll.ext s a)
theorem DqSAll.ext {K : PySem.W.Frag} {H H' : Hp} (s : ExtN H H') : ∀ {vs : List V} {ds : List PyData}, DqSAll K H vs ds → DqSAll K H' vs ds
  | _, _, .nil => .nil
  | _, _, .cons h t => .cons (DqS.ext s h) (DqSAll.ext s t)
end
/-- one object but tables changed -/
theorem Tabs.but {T : List (Addr × Str)} {H H' : Hp} {p : Addr} {o : HO} (t : Tabs T H) (b : ∀ a u, a ≠ p → H a = some u → H' a = some u) (hp : H p = some o) (n1 : ∀ ps, o ≠ .tbl ps) (n2 : ∀ c q, o ≠ CodeO c q) : Tabs T H' := fun z hz => by
  obtain ⟨ps, h1, h2, h3⟩ := t z hz
  refine ⟨ps, b _ _ (fun e => ?_) h1, h2, fun pos cv hc => ?_⟩
  · rw [e, hp] at h1
    exact n1 _ (Option.some.inj h1)
  · obtain ⟨c, e, hco⟩ := h3 pos cv hc
    refine ⟨c, e, b _ _ (fun e2 => ?_) hco⟩
    rw [e2, hp] at hco
    exact n2 _ _ (Option.some.inj hco)
theorem codeO_lst {c : Addr} {q : Str} (xs : List V) : HO.lst xs ≠ CodeO c q := fun z => by
  unfold CodeO at z
  cases z
/-- what a def tells that catches the i-th class -/
theorem lam_said {K : PySem.W.Frag} {T : List (Addr × Str)} {cs : List (Addr × Str)} {made lbl : Str} {i : Nat} {C : Addr} {v : V} {dv : PyData} {t : XK → TE} {σ : L2.St} {H : Hp} {Q : VK} (hT : Tabs T H) (hD : DqS K H v dv) (h1 : dv.showable = true) (h2 : dv.depth ≤ 60) (h3 : dv.shown.length ≤ sizeLine) (hi : cs[i]? = some (C, lbl))
    (ht : ∀ (E : XK) (H1 : Hp) (Q : VK), ExtN H H1 → (∀ d' H', Same H1 H' → H' d' = some (.xd [(("given" : Str), v)]) → E (.ref C) (some d') H') → t E σ H1 Q)
    (k : ∀ p H', ExtN H H' → Tabs T H' → H' p = some (.lst [.str lbl, .str dv.shown, .bl true]) → Q (.ref p) H') : tLam T (TSaid K cs made) t σ H Q := by
  refine ⟨hT, fun H1 e1 T1 => ht _ H1 _ e1 fun d' H' s hx => ?_⟩
  have e2 : ExtN H H' := ExtN.trans e1 (ExtN.of s)
  refine ⟨i, C, lbl, d', v, dv, hi, rfl, rfl, hx, DqS.ext e2 hD, h1, h2, h3, fun p hp => ?_⟩
  have s2 : ∀ b o, H' b = some o → upd H' p (.lst [.str lbl, .str dv.shown, .bl true]) b = some o := Same.upd hp
  exact k p _ (ExtN.trans e2 (ExtN.of s2)) ((T1.ext s).ext s2) upd_same
/-- the same compared with what is asked -/
theorem if_said {K : PySem.W.Frag} {T : List (Addr × Str)} {cs : List (Addr × Str)} {made lbl : Str} {i j : Nat} {C : Addr} {v : V} {dv : PyData} {t : XK → TE} {A : TS} {σ : L2.St} {H : Hp} {D : Ends} (hj : σ[j]? = some (some v)) (hT : Tabs T H) (hD : DqS K H v dv) (h1 : dv.showable = true) (h2 : dv.depth ≤ 60) (h3 : dv.shown.length ≤ sizeLine) (hi : cs[i]? = some (C, lbl))
    (sh : SeqAt.shaped (.list [.str lbl, .str dv.shown, .bool true]) = true) (eq : PyData.eqv (.list [.str lbl, .str dv.shown, .bool true]) (.list [.str lbl, .str dv.shown, .bool true]) = true)
    (ht : ∀ (E : XK) (H1 : Hp) (Q : VK), ExtN H H1 → (∀ d' H', Same H1 H' → H' d' = some (.xd [(("given" : Str), v)]) → E (.ref C) (some d') H') → t E σ H1 Q)
    (k : ∀ H', ExtN H H' → Tabs T H' → D.nx σ H') : tIfS (tTest (tOp (rNeD K) (tLam T (TSaid K cs made) t) (tLst (tCons (tC (.str lbl)) (tCons (tCB (rRepq K) (tCons (tVar j) tNil)) (tCons (tC (.bl true)) tNil)))))) A tNext D σ H := by
  refine lam_said hT hD h1 h2 h3 hi ht fun p H' e T' hp => ?_
  refine ⟨v, hj, v, dv, rfl, DqS.ext e hD, h1, h2, h3, by show 3 ≤ sizeLine; decide, fun q hq => ?_⟩
  have s2 : ∀ b o, H' b = some o → upd H' q (.lst [.str lbl, .str dv.shown, .bl true]) b = some o := Same.upd hq
  refine ⟨_, _, .lst (.inl (.inl (s2 _ _ hp))) (.cons (.str _) (.cons (.str _) (.cons (.bl _) .nil))), .lst (.inl (.inl upd_same)) (.cons (.str _) (.cons (.str _) (.cons (.bl _) .nil))), sh, sh, ?_⟩
  rw [eq]
  exact ⟨false, rfl, (iteF (k _ (ExtN.trans e (ExtN.of s2)) (T'.ext s2)) : if false = true then _ else _)⟩
/-- a def whose code object is known -/
theorem fn_atC {P : Program} {w : World} {K : PySem.W.Frag} {mg : Str → Option Value} {base : Heap} {k : Nat} {x qual : Str} {st : Stmt} {f c : Addr} {fd : FuncData} {N ps : List Str} {sp : Sp} (F : Fun K x qual st f fd) (hc : fd.code = .ref c) (S : FnScope N ps (defScope st)) (len : ∀ vs H Q E, sp vs H Q E → vs.length = ps.length)
    (body : ∀ (A : Around) (outer : List Env) (s : Shared) (H : Hp) (vs : List V) (Q : VK) (E : XK), (A.deeper (envOfC qual (defScope st) s.heap.objs.size f (.ref c))).guards = some [] → Room k (A.deeper (envOfC qual (defScope st) s.heap.objs.size f (.ref c))) → sp vs H Q E →
      ∃ t, PSs (cxOf CX0 P w K mg base N qual (defScope st) f (.ref c) A outer s H E) (defBody st) t ∧ t { nx := fun _ H' => Q .non H', rt := Q } (start N vs) H) : FnG P w K mg base CX0 (k + 1) f fd ps sp := by
  obtain ⟨oc, od, kV, doc, pm, an, cdv, ct, osl, rfl, lk, hcd⟩ := F.ex
  obtain rfl : cdv = .ref c := hc
  refine ⟨fun A outer s H args us vs Q E hr hg e0 hb rv h => ?_, len⟩
  have hl := len _ _ _ _ h
  have kin : K.In s.heap := e0.mod.kin.keeps fun b o z => (e0.bs b o z).1
  have lim : s.heap.NoLimit := e0.mod.nolimit.keeps fun b o z => (e0.bs b o z).1
  have par : ∀ y ∈ ps.zip us, (defScope st).names.lookup y.1 = some .local ∨ ((defScope st).names.lookup y.1 = some .cell ∧ ((cellsFrom (s.heap.objs.size + 1) (defScope st).names []).lookup y.1).isSome = true) := by
    rintro ⟨n, v⟩ hy
    cases S.par n (List.of_mem_zip hy).1 with
    | inl q => exact .inl q
    | inr q => exact .inr ⟨q, PySem.W.cellsFrom_some _ _ _ (.inl q)⟩
  refine codeAny_call_function hr.depth (kin _ _ lk) rfl S.co S.gen rfl (PySem.W.codeRec_of kin hcd) (hb _ _ _ _ (wpAny_newFunctionEnv_cells S.kind par ?_))
  rintro env he s1 hin
  subst he
  refine ⟨lim.keeps hin.toInCall.keep, codeAny_func ?_⟩
  obtain ⟨t, ht, hq⟩ := body A outer s H vs Q E (guards_deeper hg) (hr.deeper _) h
  refine wpAny_mono (ht.run [] s1 (start N vs) H _ (inv_start S hr.hd e0 hl rv hin) hq) ?_ fun _ _ z => z
  rintro fl s' hs
  cases fl with
  | next =>
    obtain ⟨σ', H', J, q⟩ := hs
    exact ⟨V.non, H', J.os, J.bare, J.base, J.hok, rfl, q⟩
  | ret u =>
    obtain ⟨v, σ', H', J, r, q⟩ := hs
    exact ⟨v, H', J.os, J.bare, J.base, J.hok, r, q⟩
  | brk =>
    obtain ⟨_, _, _, q⟩ := hs
    exact q.elim
  | cont =>
    obtain ⟨_, _, _, q⟩ := hs
    exact q.elim
/-- a display of keys and constants -/
theorem disp_c {cs : List (Key × V)} {σ : L2.St} {H : Hp} {Q : VK} (h15 : cs.length ≤ 15) (k : ∀ p H', Same H H' → H p = none → H' p = some (.dK (mergeK [] cs)) → Q (.ref p) H') : tDisp (cs.map fun c => (tC (kV c.1), tC c.2)) σ H Q := fun p hp => by
  have aux : ∀ (l : List (Key × V)) (H1 : Hp) (R : List (V × V) → Hp → Prop), R (l.map fun kv => (kV kv.1, kv.2)) H1 → tPairs (l.map fun c => (tC (kV c.1), tC c.2)) σ H1 R := by
    intro l
    induction l with
    | nil => intro H1 R h; exact h
    | cons x t ih => intro H1 R h; exact ih H1 _ h
  refine aux cs _ _ ⟨upd_same, cs, rfl, h15, k p _ (fun b o e => ?_) hp upd_same⟩
  rw [upd_ne (ne_of_none e hp), upd_ne (ne_of_none e hp)]
  exact e
/-- a display of one entry -/
theorem disp_1 {tk tv : TE} {key : Key} {v : V} {σ : L2.St} {H : Hp} {Q : VK} (hk : ∀ (H : Hp) (Q : VK), Q (kV key) H → tk σ H Q) (hv : ∀ (H : Hp) (Q : VK), Q v H → tv σ H Q) (k : ∀ p H', Same H H' → H p = none → H' p = some (.dK [(key, v)]) → Q (.ref p) H') : tDisp [(tk, tv)] σ H Q := fun p hp => by
  refine hk _ _ (hv _ _ ⟨upd_same, [(key, v)], rfl, by show 1 ≤ 15; decide, k p _ (fun b o e => ?_) hp upd_same⟩)
  rw [upd_ne (ne_of_none e hp), upd_ne (ne_of_none e hp)]
  exact e
end EX
set_option Elab.async false
set_option linter.all false
set_option maxRecDepth 100000
set_option maxHeartbeats 4000000
namespace K73
open PySem L2 EX PyProof.Rows M72
structure Bq (mg : Str → Option Value) : Prop where
  str : mg "str" = none
  int : mg "int" = none
  bool : mg "bool" = none
  all : mg "all" = none
  enumerate : mg "enumerate" = none
  zip : mg "zip" = none
  ls : ∃ t, mg "LONGEST_SEQUENCE" = some (.int 1000 t)
/-- statements behind one that raises -/
theorem pss_deadS {X : Cx} {sts : List Stmt} : PSs X sts (fun _ _ _ => False) := ⟨fun _ _ _ _ _ _ h => h.elim⟩
/-- a list or a tuple -/
abbrev SqE (K : PySem.W.Frag) (H : Hp) (a : Addr) (xs : List V) : Prop := SqL K H a xs ∨ SqT K H a xs
theorem SqE.mono {K : PySem.W.Frag} {H H' : Hp} {a : Addr} {xs : List V} (s : Same H H') (h : SqE K H a xs) : SqE K H' a xs := h.elim (fun h => .inl (s.seq h)) fun h => .inr (sqt_same s h)
theorem tyx_lst {K : PySem.W.Frag} {H : Hp} {a : Addr} {xs : List V} (h : SqL K H a xs) : TyX K H (.ref a) (.type "list") := by
  rcases h with (h | ⟨o, h⟩) | ⟨o, its, n, h1, h2, _⟩
  · exact .base (.lst h)
  · exact .base (.frz h)
  · exact .kList h1 h2
theorem tyx_tup {K : PySem.W.Frag} {H : Hp} {a : Addr} {xs : List V} (h : SqT K H a xs) : TyX K H (.ref a) (.type "tuple") := by
  rcases h with (h | ⟨o, h⟩) | ⟨o, its, n, h1, h2, _⟩
  · exact .base (.tup h)
  · exact .fTuple h
  · exact .kTuple h1 h2
/-- what is_integer is asked of -/
inductive IntA : V → Bool → Prop where
  | int (n : Int) : IntA (.int n) true
  | bl (b : Bool) : IntA (.bl b) false
def ge0 : V → Bool
  | .int n => decide (0 ≤ n)
  | _ => false
def spInt : Sp := fun vs H Q _ => ∃ (x : V) (b : Bool), vs = [x] ∧ IntA x b ∧ Q (.bl b) H
abbrev sInt : Stmt := top 4
theorem scInt : FnScope ["obj"] ["obj"] (defScope sInt) := ⟨rfl, rfl, rfl, by decide +kernel, rfl, by decide +kernel, by decide +kernel⟩
section
variable {P : Program} {w : World} {K : PySem.W.Frag} {mg : Str → Option Value} {base : Heap}
theorem ok_int {f : Addr} {fd : FuncData} (F : Fun K "is_integer" "is_integer" sInt f fd) (B : Bn mg) (C : Bq mg) : FnOk P w K mg base CX0 1 f fd ["obj"] spInt := by
  refine F.ok scInt (fun vs H Q E h => ?_) (fun cdv A outer s H vs Q E hr h => ?_)
  · obtain ⟨x, b, rfl, _⟩ := h
    rfl
  · obtain ⟨x, b, rfl, hx, k⟩ := h
    refine ⟨_, (pss_one (ps_ret (pe_and (pe_callB call_isi (by rfl) B.isi PyProof.Rows.boot_isinstance (pa_cons (pv 0) (pa_cons (pe_bltn (v := .ty "int") (by rfl) C.int (by decide +kernel) rfl) pa_nil))) (pe_one (pe_not (pe_callB call_isi (by rfl) B.isi PyProof.Rows.boot_isinstance (pa_cons (pv 0) (pa_cons (pe_bltn (v := .ty "bool") (by rfl) C.bool (by decide +kernel) rfl) pa_nil)))))))), ?_⟩
    cases hx with
    | int n =>
      refine ⟨_, rfl, _, _, _, _, true, rfl, .ty _, .base (.int _), kit_ty (by decide +kernel), _, rfl, iteT ?_⟩
      exact ⟨_, rfl, _, _, _, _, false, rfl, .ty _, .base (.int _), kit_ty (by decide +kernel), _, rfl, k⟩
    | bl b =>
      refine ⟨_, rfl, _, _, _, _, true, rfl, .ty _, .base (.bl _), kit_ty (by decide +kernel), _, rfl, iteT ?_⟩
      exact ⟨_, rfl, _, _, _, _, true, rfl, .ty _, .base (.bl _), kit_ty (by decide +kernel), _, rfl, k⟩
end
/-- what is_item is asked of -/
inductive ItA (K : PySem.W.Frag) (H : Hp) : V → Bool → Prop where
  | str (s : Str) : ItA K H (.str s) (decide (s = "write"))
  | non : ItA K H .non false
  | lst {a : Addr} {xs : List V} (h : SqL K H a xs) : ItA K H (.ref a) false
  | tup {a : Addr} {xs : List V} (h : SqT K H a xs) (z : xs.length ≠ 2) : ItA K H (.ref a) false
  | two {a : Addr} {s : Str} {y : V} {b : Bool} (h : SqT K H a [.str s, y]) (i : IntA y b) : ItA K H (.ref a) (decide (s = "read") && (b && ge0 y))
theorem ItA.mono {K : PySem.W.Frag} {H H' : Hp} (s : Same H H') {x : V} {b : Bool} (h : ItA K H x b) : ItA K H' x b := by
  cases h with
  | str z => exact .str z
  | non => exact .non
  | lst h => exact .lst (s.seq h)
  | tup h z => exact .tup (sqt_same s h) z
  | two h i => exact .two (sqt_same s h) i
theorem ItV.a {K : PySem.W.Frag} {H : Hp} {x : V} {it : Item} (h : ItV K H x it) : ItA K H x true := by
  cases h with
  | w => exact .str "write"
  | @r t n h =>
    have := ItA.two h (.int (n : Int))
    rw [show (decide (("read" : Str) = "read") && (true && ge0 (.int (n : Int)))) = true by simp [ge0]] at this
    exact this
def spItem (K : PySem.W.Frag) : Sp := fun vs H Q _ => ∃ (x : V) (b : Bool), vs = [x] ∧ ItA K H x b ∧ Q (.bl b) H
abbrev sItm : Stmt := top 7
theorem scItm : FnScope ["obj"] ["obj"] (defScope sItm) := ⟨rfl, rfl, rfl, by decide +kernel, rfl, by decide +kernel, by decide +kernel⟩
theorem dec_str (s t : Str) : decide (V.str s = V.str t) = decide (s = t) := by simp
section
variable {P : Program} {w : World} {K : PySem.W.Frag} {mg : Str → Option Value} {base : Heap}
theorem ok_item {f : Addr} {fd : FuncData} (F : Fun K "is_item" "is_item" sItm f fd) (B : Bn mg) (C : Bq mg) (GI : DefAt P w K mg base 1 "is_integer" ["obj"] spInt) : FnOk P w K mg base CX0 2 f fd ["obj"] (spItem K) := by
  refine F.ok scItm (fun vs H Q E h => ?_) (fun cdv A outer s H vs Q E hr h => ?_)
  · obtain ⟨x, b, rfl, _⟩ := h
    rfl
  · obtain ⟨x, b, rfl, hv, k⟩ := h
    have hr1 : Room 1 _ := hr
    refine ⟨_, (pss_cons (ps_if (pt_val (pe_callB call_isi (by rfl) B.isi PyProof.Rows.boot_isinstance (pa_cons (pv 0) (pa_cons (pe_bltn (v := .ty "str") (by rfl) C.str (by decide +kernel) rfl) pa_nil)))) (pss_one (ps_ret (pe_cmpR op_eq (pv 0) pe_str (nomark _)))) pss_nil)
          (pss_cons (ps_if (PW.pt (pw_or (pt_not (pt_val (pe_callB call_isi (by rfl) B.isi PyProof.Rows.boot_isinstance (pa_cons (pv 0) (pa_cons (pe_bltn (v := .ty "tuple") (by rfl) B.tuple (by decide +kernel) rfl) pa_nil))))) (pw_or1 (pt_cmpR op_ne (pe_callB call_len_seq (by rfl) B.len PySem.boot_len (pa_cons (pv 0) pa_nil)) pe_int (nomark _))))) (pss_one (ps_ret pe_bl)) pss_nil)
          (pss_one (ps_ret (pe_and (pe_callB call_isi (by rfl) B.isi PyProof.Rows.boot_isinstance (pa_cons (pe_ix ix_tup (pv 0) pe_int (fun _ _ => rfl)) (pa_cons (pe_bltn (v := .ty "str") (by rfl) C.str (by decide +kernel) rfl) pa_nil))) (pe_and (pe_cmpR op_eq (pe_ix ix_tup (pv 0) pe_int (fun _ _ => rfl)) pe_str (nomark _)) (pe_and (pe_callD GI hr1 (pa_cons (pe_ix ix_tup (pv 0) pe_int (fun _ _ => rfl)) pa_nil)) (pe_one (pe_cmpR op_ge (pe_ix ix_tup (pv 0) pe_int (fun _ _ => rfl)) pe_int (nomark _)))))))))), ?_⟩
    cases hv with
    | str z =>
      refine ⟨_, rfl, _, _, _, _, true, rfl, .ty _, .base (.str _), kit_ty (by decide +kernel), _, rfl, iteT ?_⟩
      refine ⟨_, rfl, rfl, ?_⟩
      rw [dec_str]
      exact k
    | non =>
      refine ⟨_, rfl, _, _, _, _, false, rfl, .ty _, .base .non, kit_ty (by decide +kernel), _, rfl, iteF ?_⟩
      exact ⟨_, rfl, _, _, _, _, false, rfl, .ty _, .base .non, kit_ty (by decide +kernel), _, rfl, iteT k⟩
    | lst h =>
      refine ⟨_, rfl, _, _, _, _, false, rfl, .ty _, tyx_lst h, kit_ty (by decide +kernel), _, rfl, iteF ?_⟩
      exact ⟨_, rfl, _, _, _, _, false, rfl, .ty _, tyx_lst h, kit_ty (by decide +kernel), _, rfl, iteT k⟩
    | @tup t xs h z =>
      refine ⟨_, rfl, _, _, _, _, false, rfl, .ty _, tyx_tup h, kit_ty (by decide +kernel), _, rfl, iteF ?_⟩
      refine ⟨_, rfl, _, _, _, _, true, rfl, .ty _, tyx_tup h, kit_ty (by decide +kernel), _, rfl, iteF ?_⟩
      refine ⟨_, rfl, t, _, rfl, .inr h, rfl, _, rfl, ?_⟩
      rw [show (!decide (V.int (xs.length : Nat) = V.int 2)) = true by
        rw [decide_eq_false (fun e => z (by have := V.int.inj e; omega))]
        rfl]
      exact iteT k
    | @two t s y b h i =>
      refine ⟨_, rfl, _, _, _, _, false, rfl, .ty _, tyx_tup h, kit_ty (by decide +kernel), _, rfl, iteF ?_⟩
      refine ⟨_, rfl, _, _, _, _, true, rfl, .ty _, tyx_tup h, kit_ty (by decide +kernel), _, rfl, iteF ?_⟩
      refine ⟨_, rfl, t, _, rfl, .inr h, rfl, _, rfl, iteNS rfl ?_⟩
      refine ⟨_, rfl, t, _, _, _, rfl, rfl, h, atI_nat (j := 0) rfl, _, _, _, _, true, rfl, .ty _, .base (.str _), kit_ty (by decide +kernel), _, rfl, iteT ?_⟩
      refine ⟨_, rfl, t, _, _, _, rfl, rfl, h, atI_nat (j := 0) rfl, rfl, _, rfl, ?_⟩
      rw [dec_str]
      refine ite2 (fun z => ?_) (fun z => ?_)
      · have z : s = "read" := of_decide_eq_true z
        rw [decide_eq_true z] at k
        refine ⟨_, rfl, t, _, _, _, rfl, rfl, h, atI_nat (j := 1) rfl, _, _, rfl, i, _, rfl, ?_⟩
        cases i with
        | int n =>
          refine iteT ?_
          exact ⟨_, rfl, t, _, _, _, rfl, rfl, h, atI_nat (j := 1) rfl, _, _, rfl, rfl, k⟩
        | bl b => exact iteF k
      · have z : ¬ s = "read" := fun e => z (decide_eq_true e)
        rw [decide_eq_false z] at k
        exact k
end
theorem ItA_mono {K : PySem.W.Frag} {H H' : Hp} (s : Same H H') : ∀ {xs : List V} {bs : List Bool}, Paired (ItA K H) xs bs → Paired (ItA K H') xs bs
  | _, _, .nil => .nil
  | _, _, .cons h t => .cons (h.mono s) (ItA_mono s t)
theorem ItA_get {K : PySem.W.Frag} {H : Hp} : ∀ {xs : List V} {bs : List Bool} {i : Nat} {x : V}, Paired (ItA K H) xs bs → xs[i]? = some x → ∃ b, bs[i]? = some b ∧ ItA K H x b
  | _, _, 0, _, .cons h _, e => by
    cases e
    exact ⟨_, rfl, h⟩
  | _, _, i + 1, x, .cons _ t, e => by
    obtain ⟨b, h1, h2⟩ := ItA_get (i := i) t (by simpa using e)
    exact ⟨b, by simpa using h1, h2⟩
theorem SeqV.a {K : PySem.W.Frag} {H : Hp} : ∀ {xs : List V} {its : List Item}, SeqV K H xs its → Paired (ItA K H) xs (List.replicate xs.length true)
  | _, _, .nil => .nil
  | _, _, .cons h t => .cons h.a (SeqV.a t)
/-- what is no sequence -/
inductive BadS (K : PySem.W.Frag) (H : Hp) : V → Prop where
  | non : BadS K H .non
  | str (s : Str) : BadS K H (.str s)
  | int (n : Int) : BadS K H (.int n)
  | long {a : Addr} {xs : List V} (h : SqL K H a xs) (z : 1000 < xs.length) : BadS K H (.ref a)
  | items {a : Addr} {xs : List V} {bs : List Bool} (h : SqL K H a xs) (z : xs.length ≤ 1000) (p : Paired (ItA K H) xs bs) (bad : bs.all id = false) : BadS K H (.ref a)
theorem BadS.mono {K : PySem.W.Frag} {H H' : Hp} (s : Same H H') {x : V} (h : BadS K H x) : BadS K H' x := by
  cases h with
  | non => exact .non
  | str z => exact .str z
  | int n => exact .int n
  | long h z => exact .long (s.seq h) z
  | items h z p b => exact .items (s.seq h) z (ItA_mono s p) b
/-- what is raised of it -/
def spBad (K : PySem.W.Frag) (CS : Addr) (x : V) (H : Hp) (E : XK) : Prop := BadS K H x ∧ ∀ (d' : Addr) (H' : Hp), Same H H' → H' d' = some (.xd [(("given" : Str), x)]) → E (.ref CS) (some d') H'
/-- check_sequence(obj) -/
def spChkS (K : PySem.W.Frag) (CS : Addr) : Sp := fun vs H Q E => (∃ x, vs = [x] ∧ spBad K CS x H E) ∨ ∃ (a : Addr) (xs : List V) (its : List Item), vs = [.ref a] ∧ SqE K H a xs ∧ SeqV K H xs its ∧ xs.length ≤ 1000 ∧ ∀ H', Same H H' → Q .non H'
abbrev sChk : Stmt := top 8
def sChkN : List Str := ["obj", "item"]
theorem scChk : FnScope ["obj", "item"] ["obj"] (defScope sChk) := ⟨rfl, rfl, rfl, by decide +kernel, rfl, by decide +kernel, by decide +kernel⟩
section
variable {P : Program} {w : World} {K : PySem.W.Frag} {mg : Str → Option Value} {base : Heap}
theorem ok_chk {CS : Addr} {f : Addr} {fd : FuncData} (F : Fun K "check_sequence" "check_sequence" sChk f fd) (B : Bn mg) (C : Bq mg) (GI : DefAt P w K mg base 2 "is_item" ["obj"] (spItem K)) (XS : XrAt P w K mg base "InvalidSequence" "given" CS) : FnOk P w K mg base (L2.CX P w) 3 f fd ["obj"] (spChkS K CS) := by
  refine F.okX scChk (fun vs H Q E h => ?_) (fun cdv A outer s H vs Q E hr h => ?_)
  · rcases h with ⟨x, rfl, _⟩ | ⟨a, xs, its, rfl, _⟩ <;> rfl
  · have hr2 : Room 2 _ := hr
    rcases h with ⟨x, rfl, hb, k⟩ | ⟨a, xs, its, rfl, ho, sv, hl, k⟩
    · refine ⟨_, (pss_cons (ps_if (PW.pt (pw_or (pt_not (pt_val (pe_callB call_isiT (by rfl) B.isi PyProof.Rows.boot_isinstance (pa_cons (pv 0) (pa_cons (pe_tup (pa_cons (pe_bltn (v := .ty "list") (by rfl) B.list (by decide +kernel) rfl) (pa_cons (pe_bltn (v := .ty "tuple") (by rfl) B.tuple (by decide +kernel) rfl) pa_nil))) pa_nil))))) (pw_or1 (pt_cmpR op_gt (pe_callB call_len_seq (by rfl) B.len PySem.boot_len (pa_cons (pv 0) pa_nil)) (pe_glob (v := .int _) (by rfl) C.ls.choose_spec ⟨_, rfl⟩) (nomark _))))) (pss_one (ps_raiseE XS hr2 rfl (takes_of rfl rfl rfl rfl) (pv 0))) pss_nil)
          (pss_one (ps_if (pt_not (pt_val (pe_callB (cr_all rfl) (by rfl) C.all (by decide +kernel) (pa_cons (pe_lc (own := [("item", 1)]) (g := gName 1) (tt := tYes) (te := tCall (spItem K) [] E0 (tCons (tVar 1) tNil)) rfl scChk.nd (pi_list (pv 0)) (blkOk_by (N := sChkN) (sc := defScope sChk) (by decide +kernel)) (fun _ _ _ _ _ => (pg_name (i := 1) scChk.nd rfl (Or.inl rfl))) (fun _ _ _ _ _ => pts_nil) (fun _ _ _ _ _ => (pe_callD GI hr2 (pa_cons (pv 1) pa_nil)))) pa_nil)))) (pss_one (ps_raiseE XS hr2 rfl (takes_of rfl rfl rfl rfl) (pv 0))) pss_nil))), ?_⟩
      refine ⟨_, rfl, by show 2 ≤ sizeLine; decide, fun q hq => ?_⟩
      have s1 : Same H (upd H q (.tup [.ty "list", .ty "tuple"])) := Same.upd hq
      have l1 : upd H q (HO.tup [.ty "list", .ty "tuple"]) q = some (.tup [.ty "list", .ty "tuple"]) := upd_same
      generalize upd H q (HO.tup [.ty "list", .ty "tuple"]) = H1 at s1 l1 ⊢
      cases hb with
      | non => exact ⟨_, q, _, _, _, false, rfl, l1, .cons (.ty _) (.cons (.ty _) .nil), .base .non, kitAny_cons (b := false) (kit_ty (by decide +kernel)) (fun _ => kitAny_cons (b := false) (kit_ty (by decide +kernel)) (fun _ => kitAny_nil) (fun z => absurd z (by decide))) (fun z => absurd z (by decide)), _, rfl, iteT ⟨_, rfl, fun d' H' S _ hd => k d' H' (Same.trans s1 S) hd⟩⟩
      | str z => exact ⟨_, q, _, _, _, false, rfl, l1, .cons (.ty _) (.cons (.ty _) .nil), .base (.str _), kitAny_cons (b := false) (kit_ty (by decide +kernel)) (fun _ => kitAny_cons (b := false) (kit_ty (by decide +kernel)) (fun _ => kitAny_nil) (fun z => absurd z (by decide))) (fun z => absurd z (by decide)), _, rfl, iteT ⟨_, rfl, fun d' H' S _ hd => k d' H' (Same.trans s1 S) hd⟩⟩
      | int n => exact ⟨_, q, _, _, _, false, rfl, l1, .cons (.ty _) (.cons (.ty _) .nil), .base (.int _), kitAny_cons (b := false) (kit_ty (by decide +kernel)) (fun _ => kitAny_cons (b := false) (kit_ty (by decide +kernel)) (fun _ => kitAny_nil) (fun z => absurd z (by decide))) (fun z => absurd z (by decide)), _, rfl, iteT ⟨_, rfl, fun d' H' S _ hd => k d' H' (Same.trans s1 S) hd⟩⟩
      | @long a xs ho z =>
        refine ⟨_, q, _, _, _, true, rfl, l1, .cons (.ty _) (.cons (.ty _) .nil), tyx_lst (s1.seq ho), kitAny_cons (b := true) (kit_ty (by decide +kernel)) (fun z => absurd z (by decide)) (fun _ => rfl), _, rfl, iteF ?_⟩
        refine ⟨_, rfl, a, _, rfl, .inl (s1.seq ho), _, _, rfl, rfl, _, rfl, ?_⟩
        exact ite2 (fun _ => ⟨_, rfl, fun d' H' S _ hd => k d' H' (Same.trans s1 S) hd⟩) (fun y => absurd (decide_eq_true (show (1000 : Int) < (xs.length : Int) by omega)) y)
      | @items a xs bs ho hl sv bad =>
        have ho1 := s1.seq ho
        have sv1 : Paired (ItA K H1) xs bs := ItA_mono s1 sv
        refine ⟨_, q, _, _, _, true, rfl, l1, .cons (.ty _) (.cons (.ty _) .nil), tyx_lst ho1, kitAny_cons (b := true) (kit_ty (by decide +kernel)) (fun z => absurd z (by decide)) (fun _ => rfl), _, rfl, iteF ?_⟩
        refine ⟨_, rfl, a, _, rfl, .inl ho1, _, _, rfl, rfl, _, rfl, ?_⟩
        refine ite2 (fun z => absurd (of_decide_eq_true z) (by omega)) (fun _ => ?_)
        refine ⟨_, rfl, a, rfl, ⟨_, ho1⟩, fun D hD => ?_⟩
        refine lc_list (K := K) (a := a) (xs := xs) (fun q H4 => Same H1 H4 ∧ H4 D = some (.lst ((bs.take q).map V.bl))) ⟨Same.upd hD, upd_same⟩ (fun q H4 _ z => z.1.seq ho1) ?_ ?_
        · rintro i x H4 hx ⟨S4, lD⟩
          have hi : i < xs.length := (List.getElem?_eq_some_iff.mp hx).1
          obtain ⟨b, e2, hit⟩ := ItA_get (ItA_mono S4 sv1) hx
          refine ⟨rfl, ?_⟩
          refine ⟨_, rfl, x, b, rfl, hit, ?_⟩
          refine ⟨_, lD, ?_, EX.Same.updN S4 hD, ?_⟩
          · rw [List.length_map, List.length_take, sizeLine_eq]
            omega
          · rw [upd_same, List.take_add_one, e2, List.map_append]
            rfl
        · rintro H4 ⟨S4, lD⟩
          rw [show xs.length = bs.length from Paired.length sv, List.take_length] at lD
          refine ⟨D, _, rfl, SqL.of lD, ?_⟩
          rw [bad]
          exact ⟨_, rfl, iteT ⟨_, rfl, fun d' H' S _ hd => k d' H' (Same.trans s1 (Same.trans S4 S)) hd⟩⟩
    · have sv := SeqV.a sv
      generalize hbs : List.replicate xs.length true = bs at sv
      have good : bs.all id = true := by rw [← hbs]; simp
      rcases ho with ho | ho
      · refine ⟨_, (pss_cons (ps_if (PW.pt (pw_or (pt_not (pt_val (pe_callB call_isiT (by rfl) B.isi PyProof.Rows.boot_isinstance (pa_cons (pv 0) (pa_cons (pe_tup (pa_cons (pe_bltn (v := .ty "list") (by rfl) B.list (by decide +kernel) rfl) (pa_cons (pe_bltn (v := .ty "tuple") (by rfl) B.tuple (by decide +kernel) rfl) pa_nil))) pa_nil))))) (pw_or1 (pt_cmpR op_gt (pe_callB call_len_seq (by rfl) B.len PySem.boot_len (pa_cons (pv 0) pa_nil)) (pe_glob (v := .int _) (by rfl) C.ls.choose_spec ⟨_, rfl⟩) (nomark _))))) (pss_one (ps_raiseE XS hr2 rfl (takes_of rfl rfl rfl rfl) (pv 0))) pss_nil)
          (pss_one (ps_if (pt_not (pt_val (pe_callB (cr_all rfl) (by rfl) C.all (by decide +kernel) (pa_cons (pe_lc (own := [("item", 1)]) (g := gName 1) (tt := tYes) (te := tCall (spItem K) [] E0 (tCons (tVar 1) tNil)) rfl scChk.nd (pi_list (pv 0)) (blkOk_by (N := sChkN) (sc := defScope sChk) (by decide +kernel)) (fun _ _ _ _ _ => (pg_name (i := 1) scChk.nd rfl (Or.inl rfl))) (fun _ _ _ _ _ => pts_nil) (fun _ _ _ _ _ => (pe_callD GI hr2 (pa_cons (pv 1) pa_nil)))) pa_nil)))) (pss_one (ps_raiseE XS hr2 rfl (takes_of rfl rfl rfl rfl) (pv 0))) pss_nil))), ?_⟩
        refine ⟨_, rfl, by show 2 ≤ sizeLine; decide, fun q hq => ?_⟩
        have s1 : Same H (upd H q (.tup [.ty "list", .ty "tuple"])) := Same.upd hq
        have l1 : upd H q (HO.tup [.ty "list", .ty "tuple"]) q = some (.tup [.ty "list", .ty "tuple"]) := upd_same
        generalize upd H q (HO.tup [.ty "list", .ty "tuple"]) = H1 at s1 l1 ⊢
        have ho1 := s1.seq ho
        have sv1 : Paired (ItA K H1) xs bs := ItA_mono s1 sv
        refine ⟨_, q, _, _, _, true, rfl, l1, .cons (.ty _) (.cons (.ty _) .nil), tyx_lst ho1, kitAny_cons (b := true) (kit_ty (by decide +kernel)) (fun z => absurd z (by decide)) (fun _ => rfl), _, rfl, iteF ?_⟩
        refine ⟨_, rfl, a, _, rfl, .inl ho1, _, _, rfl, rfl, _, rfl, ?_⟩
        refine ite2 (fun z => absurd (of_decide_eq_true z) (by omega)) (fun _ => ?_)
        refine ⟨_, rfl, a, rfl, ⟨_, ho1⟩, fun D hD => ?_⟩
        refine lc_list (K := K) (a := a) (xs := xs) (fun q H4 => Same H1 H4 ∧ H4 D = some (.lst ((bs.take q).map V.bl))) ⟨Same.upd hD, upd_same⟩ (fun q H4 _ z => z.1.seq ho1) ?_ ?_
        · rintro i x H4 hx ⟨S4, lD⟩
          have hi : i < xs.length := (List.getElem?_eq_some_iff.mp hx).1
          obtain ⟨b, e2, hit⟩ := ItA_get (ItA_mono S4 sv1) hx
          refine ⟨rfl, ?_⟩
          refine ⟨_, rfl, x, b, rfl, hit, ?_⟩
          refine ⟨_, lD, ?_, EX.Same.updN S4 hD, ?_⟩
          · rw [List.length_map, List.length_take, sizeLine_eq]
            omega
          · rw [upd_same, List.take_add_one, e2, List.map_append]
            rfl
        · rintro H4 ⟨S4, lD⟩
          rw [show xs.length = bs.length from Paired.length sv, List.take_length] at lD
          refine ⟨D, _, rfl, SqL.of lD, ?_⟩
          rw [good]
          exact ⟨_, rfl, iteF (k _ (Same.trans s1 S4))⟩
      · refine ⟨_, (pss_cons (ps_if (PW.pt (pw_or (pt_not (pt_val (pe_callB call_isiT (by rfl) B.isi PyProof.Rows.boot_isinstance (pa_cons (pv 0) (pa_cons (pe_tup (pa_cons (pe_bltn (v := .ty "list") (by rfl) B.list (by decide +kernel) rfl) (pa_cons (pe_bltn (v := .ty "tuple") (by rfl) B.tuple (by decide +kernel) rfl) pa_nil))) pa_nil))))) (pw_or1 (pt_cmpR op_gt (pe_callB call_len_seq (by rfl) B.len PySem.boot_len (pa_cons (pv 0) pa_nil)) (pe_glob (v := .int _) (by rfl) C.ls.choose_spec ⟨_, rfl⟩) (nomark _))))) (pss_one (ps_raiseE XS hr2 rfl (takes_of rfl rfl rfl rfl) (pv 0))) pss_nil)
          (pss_one (ps_if (pt_not (pt_val (pe_callB (cr_all rfl) (by rfl) C.all (by decide +kernel) (pa_cons (pe_lc (own := [("item", 1)]) (g := gName 1) (tt := tYes) (te := tCall (spItem K) [] E0 (tCons (tVar 1) tNil)) rfl scChk.nd (pi_tup (pv 0)) (blkOk_by (N := sChkN) (sc := defScope sChk) (by decide +kernel)) (fun _ _ _ _ _ => (pg_name (i := 1) scChk.nd rfl (Or.inl rfl))) (fun _ _ _ _ _ => pts_nil) (fun _ _ _ _ _ => (pe_callD GI hr2 (pa_cons (pv 1) pa_nil)))) pa_nil)))) (pss_one (ps_raiseE XS hr2 rfl (takes_of rfl rfl rfl rfl) (pv 0))) pss_nil))), ?_⟩
        refine ⟨_, rfl, by show 2 ≤ sizeLine; decide, fun q hq => ?_⟩
        have s1 : Same H (upd H q (.tup [.ty "list", .ty "tuple"])) := Same.upd hq
        have l1 : upd H q (HO.tup [.ty "list", .ty "tuple"]) q = some (.tup [.ty "list", .ty "tuple"]) := upd_same
        generalize upd H q (HO.tup [.ty "list", .ty "tuple"]) = H1 at s1 l1 ⊢
        have ho1 := sqt_same s1 ho
        have sv1 : Paired (ItA K H1) xs bs := ItA_mono s1 sv
        refine ⟨_, q, _, _, _, true, rfl, l1, .cons (.ty _) (.cons (.ty _) .nil), tyx_tup ho1, kitAny_cons (b := false) (kit_ty (by decide +kernel)) (fun _ => kitAny_cons (b := true) (kit_ty (by decide +kernel)) (fun z => absurd z (by decide)) (fun _ => rfl)) (fun z => absurd z (by decide)), _, rfl, iteF ?_⟩
        refine ⟨_, rfl, a, _, rfl, .inr ho1, _, _, rfl, rfl, _, rfl, ?_⟩
        refine ite2 (fun z => absurd (of_decide_eq_true z) (by omega)) (fun _ => ?_)
        refine ⟨_, rfl, a, rfl, ⟨_, ho1⟩, fun D hD => ?_⟩
        refine lc_tup (K := K) (a := a) (xs := xs) (fun q H4 => Same H1 H4 ∧ H4 D = some (.lst ((bs.take q).map V.bl))) ⟨Same.upd hD, upd_same⟩ (fun q H4 _ z => sqt_same z.1 ho1) ?_ ?_
        · rintro i x H4 hx ⟨S4, lD⟩
          have hi : i < xs.length := (List.getElem?_eq_some_iff.mp hx).1
          obtain ⟨b, e2, hit⟩ := ItA_get (ItA_mono S4 sv1) hx
          refine ⟨rfl, ?_⟩
          refine ⟨_, rfl, x, b, rfl, hit, ?_⟩
          refine ⟨_, lD, ?_, EX.Same.updN S4 hD, ?_⟩
          · rw [List.length_map, List.length_take, sizeLine_eq]
            omega
          · rw [upd_same, List.take_add_one, e2, List.map_append]
            rfl
        · rintro H4 ⟨S4, lD⟩
          rw [show xs.length = bs.length from Paired.length sv, List.take_length] at lD
          refine ⟨D, _, rfl, SqL.of lD, ?_⟩
          rw [good]
          exact ⟨_, rfl, iteF (k _ (Same.trans s1 S4))⟩
end
end K73
set_option Elab.async false
set_option linter.all false
set_option maxRecDepth 100000
set_option maxHeartbeats 4000000
namespace K73
open PySem L2 EX PyProof.Rows M72
theorem But.seqN {K : PySem.W.Frag} {H H' : Hp} {p a : Addr} {xs : List V} (b : But p H H') (hp : H p = none) (h : SqL K H a xs) : SqL K H' a xs := Same.seq (fun c o e => b c o (fun z => by rw [z, hp] at e; cases e) e) h
theorem But.sqtN {K : PySem.W.Frag} {H H' : Hp} {p a : Addr} {xs : List V} (b : But p H H') (hp : H p = none) (h : SqT K H a xs) : SqT K H' a xs := sqt_same (fun c o e => b c o (fun z => by rw [z, hp] at e; cases e) e) h
abbrev TrpAt (K : PySem.W.Frag) (H : Hp) : List Addr → List Sp3 → Prop := Paired fun (t : Addr) (p : Sp3) => SqT K H t [.int (p.1 : Nat), .int (p.2.1 : Nat), .int (p.2.2 : Nat)]
theorem TrpAt.mono {K : PySem.W.Frag} {H H' : Hp} (s : Same H H') : ∀ {ts : List Addr} {S : List Sp3}, TrpAt K H ts S → TrpAt K H' ts S
  | _, _, .nil => .nil
  | _, _, .cons h t => .cons (sqt_same s h) (TrpAt.mono s t)
theorem TrpAt.but {K : PySem.W.Frag} {H H' : Hp} {q : Addr} {ys : List V} (s : But q H H') (hq : H q = some (.lst ys)) : ∀ {ts : List Addr} {S : List Sp3}, TrpAt K H ts S → TrpAt K H' ts S
  | _, _, .nil => .nil
  | _, _, .cons h t => .cons (s.sqt hq h) (TrpAt.but s hq t)
theorem TrpAt.snoc {K : PySem.W.Frag} {H : Hp} {ts : List Addr} {S : List Sp3} {t : Addr} {p : Sp3} (h : TrpAt K H ts S) (e : SqT K H t [.int (p.1 : Nat), .int (p.2.1 : Nat), .int (p.2.2 : Nat)]) : TrpAt K H (ts ++ [t]) (S ++ [p]) := Paired.snoc h e
theorem TrpAt.get {K : PySem.W.Frag} {H : Hp} : ∀ {ts : List Addr} {S : List Sp3} {i : Nat} {t : Addr}, TrpAt K H ts S → ts[i]? = some t → ∃ p, S[i]? = some p ∧ SqT K H t [.int (p.1 : Nat), .int (p.2.1 : Nat), .int (p.2.2 : Nat)]
  | _, _, 0, _, .cons h _, e => by
    cases e
    exact ⟨_, rfl, h⟩
  | _, _, i + 1, t, .cons _ r, e => by
    obtain ⟨p, h1, h2⟩ := TrpAt.get (i := i) (t := t) r (by simpa using e)
    exact ⟨p, by simpa using h1, h2⟩
theorem spAt_w {its : List Item} {i : Nat} (h : its[i]? = some .w) : (spAt its i).toList = [] := by
  unfold spAt
  rw [h]
  rfl
theorem spAt_r {its : List Item} {i n : Nat} (h : its[i]? = some (.r n)) (lt : n < W its i) : (spAt its i).toList = [(i, W its i - n, W its i)] := by
  unfold spAt
  rw [h]
  simp [lt]
theorem spAt_n {its : List Item} {i n : Nat} (h : its[i]? = some (.r n)) (ge : ¬ n < W its i) : (spAt its i).toList = [] := by
  unfold spAt
  rw [h]
  simp [ge]
theorem spTo_len (its : List Item) (k : Nat) : (spTo its k).length ≤ k := by
  unfold spTo
  exact Nat.le_trans (List.length_filterMap_le _ _) (by simp)
/-- spans(sequence) -/
def spSpans (K : PySem.W.Frag) : Sp := fun vs H Q _ => ∃ (a : Addr) (xs : List V) (its : List Item), vs = [.ref a] ∧ SqE K H a xs ∧ SeqV K H xs its ∧ xs.length ≤ 1000 ∧
  ∀ (q : Addr) (ts : List Addr) (H' : Hp), Same H H' → H q = none → H' q = some (.lst (ts.map V.ref)) → TrpAt K H' ts (spTo its its.length) → Q (.ref q) H'
abbrev sSpn : Stmt := top 9
theorem scSpn : FnScope ["sequence", "found", "writes", "at", "item"] ["sequence"] (defScope sSpn) := ⟨rfl, rfl, rfl, by decide +kernel, rfl, by decide +kernel, by decide +kernel⟩
section
variable {P : Program} {w : World} {K : PySem.W.Frag} {mg : Str → Option Value} {base : Heap}
theorem ok_spans {f : Addr} {fd : FuncData} (F : Fun K "spans" "spans" sSpn f fd) (B : Bn mg) (C : Bq mg) : FnOk P w K mg base CX0 1 f fd ["sequence"] (spSpans K) := by
  refine F.ok scSpn (fun vs H Q E h => ?_) (fun cdv A outer s H vs Q E hr h => ?_)
  · obtain ⟨a, xs, its, rfl, _⟩ := h
    rfl
  · obtain ⟨a, xs, its, rfl, ho, sv, hl, k⟩ := h
    have hlen : xs.length = its.length := Paired.length sv
    rcases ho with ho | ho
    · refine ⟨_, (pss_cons (ps_set (i := 1) scSpn.nd rfl (Or.inl rfl) (pe_lstN pa_nil))
          (pss_cons (ps_set (i := 2) scSpn.nd rfl (Or.inl rfl) pe_int)
          (pss_cons (ps_for PassesOwn.never rfl (pi_enum (by rfl) C.enumerate (pa_cons (pv 0) pa_nil)) (pg_tup rfl (pgs_cons (pg_name (i := 3) scSpn.nd rfl (Or.inl rfl)) (pgs_cons (pg_name (i := 4) scSpn.nd rfl (Or.inl rfl)) pgs_nil))) (pss_one (ps_if (pt_val (pe_callB call_isi (by rfl) B.isi PyProof.Rows.boot_isinstance (pa_cons (pv 4) (pa_cons (pe_bltn (v := .ty "str") (by rfl) C.str (by decide +kernel) rfl) pa_nil)))) (pss_one (ps_aug (i := 2) scSpn.nd rfl (.inl rfl) pe_int ip_add)) (pss_one (ps_if (pt_cmpR op_gt (pv 2) (pe_ix ix_tup (pv 4) pe_int (fun _ _ => rfl)) (nomark _)) (pss_one (ps_expr (pe_bm PySem.F.plainAttrs_list PySem.F.slot_list_append PySem.F.type_list_append mt_append (pv 1) (pa_cons (pe_tup (pa_cons (pv 3) (pa_cons (pe_op op_sub (pv 2) (pe_ix ix_tup (pv 4) pe_int (fun _ _ => rfl))) (pa_cons (pv 2) pa_nil)))) pa_nil)))) pss_nil)))))
          (pss_one (ps_ret (pv 1)))))), ?_⟩
      refine ⟨by show 0 ≤ sizeLine; decide, fun q hq _ => ?_⟩
      have s1 : Same H (upd H q (.lst [])) := Same.upd hq
      have l1 : upd H q (HO.lst []) q = some (.lst []) := upd_same
      generalize upd H q (HO.lst []) = H1 at s1 l1 ⊢
      have b1 : But q H H1 := fun b o _ e => s1 _ _ e
      refine ⟨_, rfl, a, xs, rfl, s1.seq ho, ?_⟩
      refine for_it (walk_enum (K := K) (a := a) (xs := xs)) (fun i σ H' => ∃ v3 v4 ts, σ = [some (.ref a), some (.ref q), some (.int (W its i : Nat)), v3, v4] ∧ But q H H' ∧ H' q = some (.lst (ts.map V.ref)) ∧ TrpAt K H' ts (spTo its i)) ⟨_, _, [], rfl, b1, l1, .nil⟩ ?_ ?_ ?_
      · rintro i σ H' _ ⟨v3, v4, ts, rfl, b, lq, tr⟩
        exact b.seqN hq ho
      · rintro i v σ H0 H2 hi ⟨v3, v4, ts, rfl, b, lq, tr⟩ ⟨T, x0, x, rfl, hT, rfl, e0, hx⟩
        obtain rfl : V.int (i : Nat) = x0 := Option.some.inj e0
        obtain ⟨x', it, e1, e2, hit⟩ := getI sv (i := i) hi
        obtain rfl : x = x' := Option.some.inj (hx.symm.trans e1)
        have s2 : Same H0 (upd H0 T (.tup [.int (i : Nat), x])) := Same.upd hT
        have lT : upd H0 T (HO.tup [.int (i : Nat), x]) T = some (.tup [.int (i : Nat), x]) := upd_same
        generalize upd H0 T (HO.tup [.int (i : Nat), x]) = H2 at s2 lT ⊢
        have b2 : But q H H2 := fun a o n z => s2 _ _ (b a o n z)
        have lq2 := s2 _ _ lq
        have tr2 := tr.mono s2
        refine ⟨T, _, rfl, SqT.of lT, rfl, _, _, rfl, _, _, rfl, rfl, ?_⟩
        cases hit with
        | w =>
          refine ⟨_, rfl, _, _, _, _, true, rfl, .ty _, .base (.str _), kit_ty (by decide +kernel), _, rfl, iteT ?_⟩
          refine ⟨_, rfl, _, _, rfl, rfl, some (.int (i : Nat)), some (.str "write"), ts, ?_, b2, lq2, ?_⟩
          · rw [W_w e2]
            rfl
          · rw [spTo_succ, spAt_w e2, List.append_nil]
            exact tr2
        | @r t n ht =>
          have ht2 := b2.sqtN hq ht
          refine ⟨_, rfl, _, _, _, _, false, rfl, .ty _, tyx_tup ht2, kit_ty (by decide +kernel), _, rfl, iteF ?_⟩
          refine ⟨_, rfl, _, rfl, t, _, _, _, rfl, rfl, ht2, atI_nat (j := 1) rfl, _, _, rfl, rfl, _, rfl, ite2 (fun lt => ?_) (fun ge => ?_)⟩
          · have lt : n < W its i := by
              have := of_decide_eq_true lt
              omega
            have ez : (W its i : Int) - (n : Int) = ((W its i - n : Nat) : Int) := by omega
            have hts : ts.length ≤ 1000 := by
              have h1 := Paired.length tr
              have h2 := spTo_len its i
              omega
            refine ⟨_, rfl, .inl ⟨rfl, _, SqL.of lq2⟩, _, rfl, _, rfl, _, rfl, t, _, _, _, rfl, rfl, ht2, atI_nat (j := 1) rfl, _, _, rfl, rfl, _, rfl, by show 3 ≤ sizeLine; decide, fun p hp => ?_⟩
            dsimp only
            rw [ez]
            have s3 : Same H2 (upd H2 p (.tup [.int (i : Nat), .int ((W its i - n : Nat) : Int), .int (W its i : Nat)])) := Same.upd hp
            have lp : upd H2 p (HO.tup [.int (i : Nat), .int ((W its i - n : Nat) : Int), .int (W its i : Nat)]) p = some (.tup [.int (i : Nat), .int ((W its i - n : Nat) : Int), .int (W its i : Nat)]) := upd_same
            generalize upd H2 p (HO.tup [.int (i : Nat), .int ((W its i - n : Nat) : Int), .int (W its i : Nat)]) = H3 at s3 lp ⊢
            have b3 : But q H H3 := fun a o n z => s3 _ _ (b2 a o n z)
            have lq3 := s3 _ _ lq2
            have tr3 := tr2.mono s3
            refine ⟨q, _, _, rfl, rfl, lq3, by rw [List.length_map, sizeLine_eq]; omega, ?_⟩
            have bq : But q H3 (upd H3 q (.lst (ts.map V.ref ++ [.ref p]))) := fun a o n e => by rw [upd_ne n]; exact e
            refine ⟨some (.int (i : Nat)), some (.ref t), ts ++ [p], ?_, fun a o n e => bq a o n (b3 a o n e), ?_, ?_⟩
            · rw [W_r e2]
              rfl
            · rw [upd_same, List.map_append]
              rfl
            · rw [spTo_succ, spAt_r e2 lt]
              exact (tr3.but bq lq3).snoc (bq.sqt lq3 (SqT.of lp))
          · have ge : ¬ n < W its i := fun z => ge (decide_eq_true (by omega))
            refine ⟨some (.int (i : Nat)), some (.ref t), ts, ?_, b2, lq2, ?_⟩
            · rw [W_r e2]
              rfl
            · rw [spTo_succ, spAt_n e2 ge, List.append_nil]
              exact tr2
      · rintro σ H' ⟨v3, v4, ts, rfl, b, lq, tr⟩
        rw [hlen] at tr
        exact ⟨_, rfl, k q ts H' (fun a o e => b a o (fun z => by rw [z, hq] at e; cases e) e) hq lq tr⟩
    · refine ⟨_, (pss_cons (ps_set (i := 1) scSpn.nd rfl (Or.inl rfl) (pe_lstN pa_nil))
          (pss_cons (ps_set (i := 2) scSpn.nd rfl (Or.inl rfl) pe_int)
          (pss_cons (ps_for PassesOwn.never rfl (pi_enq (by rfl) C.enumerate (pa_cons (pv 0) pa_nil)) (pg_tup rfl (pgs_cons (pg_name (i := 3) scSpn.nd rfl (Or.inl rfl)) (pgs_cons (pg_name (i := 4) scSpn.nd rfl (Or.inl rfl)) pgs_nil))) (pss_one (ps_if (pt_val (pe_callB call_isi (by rfl) B.isi PyProof.Rows.boot_isinstance (pa_cons (pv 4) (pa_cons (pe_bltn (v := .ty "str") (by rfl) C.str (by decide +kernel) rfl) pa_nil)))) (pss_one (ps_aug (i := 2) scSpn.nd rfl (.inl rfl) pe_int ip_add)) (pss_one (ps_if (pt_cmpR op_gt (pv 2) (pe_ix ix_tup (pv 4) pe_int (fun _ _ => rfl)) (nomark _)) (pss_one (ps_expr (pe_bm PySem.F.plainAttrs_list PySem.F.slot_list_append PySem.F.type_list_append mt_append (pv 1) (pa_cons (pe_tup (pa_cons (pv 3) (pa_cons (pe_op op_sub (pv 2) (pe_ix ix_tup (pv 4) pe_int (fun _ _ => rfl))) (pa_cons (pv 2) pa_nil)))) pa_nil)))) pss_nil)))))
          (pss_one (ps_ret (pv 1)))))), ?_⟩
      refine ⟨by show 0 ≤ sizeLine; decide, fun q hq _ => ?_⟩
      have s1 : Same H (upd H q (.lst [])) := Same.upd hq
      have l1 : upd H q (HO.lst []) q = some (.lst []) := upd_same
      generalize upd H q (HO.lst []) = H1 at s1 l1 ⊢
      have b1 : But q H H1 := fun b o _ e => s1 _ _ e
      refine ⟨_, rfl, a, xs, rfl, sqt_same s1 ho, ?_⟩
      refine for_it (walk_enq (K := K) (a := a) (xs := xs)) (fun i σ H' => ∃ v3 v4 ts, σ = [some (.ref a), some (.ref q), some (.int (W its i : Nat)), v3, v4] ∧ But q H H' ∧ H' q = some (.lst (ts.map V.ref)) ∧ TrpAt K H' ts (spTo its i)) ⟨_, _, [], rfl, b1, l1, .nil⟩ ?_ ?_ ?_
      · rintro i σ H' _ ⟨v3, v4, ts, rfl, b, lq, tr⟩
        exact b.sqtN hq ho
      · rintro i v σ H0 H2 hi ⟨v3, v4, ts, rfl, b, lq, tr⟩ ⟨T, x0, x, rfl, hT, rfl, e0, hx⟩
        obtain rfl : V.int (i : Nat) = x0 := Option.some.inj e0
        obtain ⟨x', it, e1, e2, hit⟩ := getI sv (i := i) hi
        obtain rfl : x = x' := Option.some.inj (hx.symm.trans e1)
        have s2 : Same H0 (upd H0 T (.tup [.int (i : Nat), x])) := Same.upd hT
        have lT : upd H0 T (HO.tup [.int (i : Nat), x]) T = some (.tup [.int (i : Nat), x]) := upd_same
        generalize upd H0 T (HO.tup [.int (i : Nat), x]) = H2 at s2 lT ⊢
        have b2 : But q H H2 := fun a o n z => s2 _ _ (b a o n z)
        have lq2 := s2 _ _ lq
        have tr2 := tr.mono s2
        refine ⟨T, _, rfl, SqT.of lT, rfl, _, _, rfl, _, _, rfl, rfl, ?_⟩
        cases hit with
        | w =>
          refine ⟨_, rfl, _, _, _, _, true, rfl, .ty _, .base (.str _), kit_ty (by decide +kernel), _, rfl, iteT ?_⟩
          refine ⟨_, rfl, _, _, rfl, rfl, some (.int (i : Nat)), some (.str "write"), ts, ?_, b2, lq2, ?_⟩
          · rw [W_w e2]
            rfl
          · rw [spTo_succ, spAt_w e2, List.append_nil]
            exact tr2
        | @r t n ht =>
          have ht2 := b2.sqtN hq ht
          refine ⟨_, rfl, _, _, _, _, false, rfl, .ty _, tyx_tup ht2, kit_ty (by decide +kernel), _, rfl, iteF ?_⟩
          refine ⟨_, rfl, _, rfl, t, _, _, _, rfl, rfl, ht2, atI_nat (j := 1) rfl, _, _, rfl, rfl, _, rfl, ite2 (fun lt => ?_) (fun ge => ?_)⟩
          · have lt : n < W its i := by
              have := of_decide_eq_true lt
              omega
            have ez : (W its i : Int) - (n : Int) = ((W its i - n : Nat) : Int) := by omega
            have hts : ts.length ≤ 1000 := by
              have h1 := Paired.length tr
              have h2 := spTo_len its i
              omega
            refine ⟨_, rfl, .inl ⟨rfl, _, SqL.of lq2⟩, _, rfl, _, rfl, _, rfl, t, _, _, _, rfl, rfl, ht2, atI_nat (j := 1) rfl, _, _, rfl, rfl, _, rfl, by show 3 ≤ sizeLine; decide, fun p hp => ?_⟩
            dsimp only
            rw [ez]
            have s3 : Same H2 (upd H2 p (.tup [.int (i : Nat), .int ((W its i - n : Nat) : Int), .int (W its i : Nat)])) := Same.upd hp
            have lp : upd H2 p (HO.tup [.int (i : Nat), .int ((W its i - n : Nat) : Int), .int (W its i : Nat)]) p = some (.tup [.int (i : Nat), .int ((W its i - n : Nat) : Int), .int (W its i : Nat)]) := upd_same
            generalize upd H2 p (HO.tup [.int (i : Nat), .int ((W its i - n : Nat) : Int), .int (W its i : Nat)]) = H3 at s3 lp ⊢
            have b3 : But q H H3 := fun a o n z => s3 _ _ (b2 a o n z)
            have lq3 := s3 _ _ lq2
            have tr3 := tr2.mono s3
            refine ⟨q, _, _, rfl, rfl, lq3, by rw [List.length_map, sizeLine_eq]; omega, ?_⟩
            have bq : But q H3 (upd H3 q (.lst (ts.map V.ref ++ [.ref p]))) := fun a o n e => by rw [upd_ne n]; exact e
            refine ⟨some (.int (i : Nat)), some (.ref t), ts ++ [p], ?_, fun a o n e => bq a o n (b3 a o n e), ?_, ?_⟩
            · rw [W_r e2]
              rfl
            · rw [upd_same, List.map_append]
              rfl
            · rw [spTo_succ, spAt_r e2 lt]
              exact (tr3.but bq lq3).snoc (bq.sqt lq3 (SqT.of lp))
          · have ge : ¬ n < W its i := fun z => ge (decide_eq_true (by omega))
            refine ⟨some (.int (i : Nat)), some (.ref t), ts, ?_, b2, lq2, ?_⟩
            · rw [W_r e2]
              rfl
            · rw [spTo_succ, spAt_n e2 ge, List.append_nil]
              exact tr2
      · rintro σ H' ⟨v3, v4, ts, rfl, b, lq, tr⟩
        rw [hlen] at tr
        exact ⟨_, rfl, k q ts H' (fun a o e => b a o (fun z => by rw [z, hq] at e; cases e) e) hq lq tr⟩
end
theorem but2_sqt {K : PySem.W.Frag} {H H' : Hp} {p r a : Addr} {xs ys zs : List V} (b : ∀ c o, c ≠ p → c ≠ r → H c = some o → H' c = some o) (hp : H p = some (.lst ys)) (hr : H r = some (.lst zs)) (h : SqT K H a xs) : SqT K H' a xs := by
  have ne : ∀ {o}, H a = some o → (∀ ws, o ≠ .lst ws) → a ≠ p ∧ a ≠ r := fun {o} e d => ⟨fun z => by rw [z, hp] at e; exact d _ (Option.some.inj e).symm, fun z => by rw [z, hr] at e; exact d _ (Option.some.inj e).symm⟩
  rcases h with (h | ⟨o, h⟩) | h
  · obtain ⟨n1, n2⟩ := ne h (fun ws z => by cases z)
    exact .inl (.inl (b _ _ n1 n2 h))
  · obtain ⟨n1, n2⟩ := ne h (fun ws z => by cases z)
    exact .inl (.inr ⟨o, b _ _ n1 n2 h⟩)
  · exact .inr h
/-- fewest_pushes(sequence) -/
def spFP (K : PySem.W.Frag) (CS : Addr) : Sp := fun vs H Q E => (∃ x, vs = [x] ∧ spBad K CS x H E) ∨ ∃ (a : Addr) (xs : List V) (its : List Item), vs = [.ref a] ∧ (SqL K H a xs ∨ SqT K H a xs) ∧ SeqV K H xs its ∧ xs.length ≤ 1000 ∧
  ∀ (r pa ra : Addr) (H' : Hp), Same H H' → SqT K H' r [.ref pa, .ref ra] → SqT K H' pa (natV (M72.few its).1) → SqT K H' ra (natV (M72.few its).2) → Q (.ref r) H'
abbrev sFw : Stmt := top 10
def sFwN : List Str := ["sequence", "at", "indexes", "pushes", "reads", "latest", "first", "last", "item"]
theorem scFw : FnScope ["sequence", "at", "indexes", "pushes", "reads", "latest", "first", "last", "item"] ["sequence"] (defScope sFw) := ⟨rfl, rfl, rfl, by decide +kernel, rfl, by decide +kernel, by decide +kernel⟩
section
variable {P : Program} {w : World} {K : PySem.W.Frag} {mg : Str → Option Value} {base : Heap}
theorem ok_fewest {CS : Addr} {f : Addr} {fd : FuncData} (F : Fun K "fewest_pushes" "fewest_pushes" sFw f fd) (B : Bn mg) (C : Bq mg) (GK : DefX P w K mg base 3 "check_sequence" ["obj"] (spChkS K CS)) (GS : DefAt P w K mg base 1 "spans" ["sequence"] (spSpans K)) : FnOk P w K mg base (L2.CX P w) 4 f fd ["sequence"] (spFP K CS) := by
  refine F.okX scFw (fun vs H Q E h => ?_) (fun cdv A outer s H vs Q E hr h => ?_)
  · rcases h with ⟨x, rfl, _⟩ | ⟨a, xs, its, rfl, _⟩ <;> rfl
  · have hr3 : Room 3 _ := hr
    rcases h with ⟨x, rfl, hb⟩ | ⟨a, xs, its, rfl, ho, sv, hl, k⟩
    · refine ⟨_, pss_cons (ps_expr (pe_callU GK hr3 (takes_of rfl rfl rfl rfl) (pa_cons (pv 0) pa_nil))) pss_deadS, ?_⟩
      exact ⟨_, rfl, .inl ⟨x, rfl, hb⟩⟩
    have hr1 : Room 1 _ := hr.mono (by omega)
    have hlen : xs.length = its.length := Paired.length sv
    rcases ho with ho | ho
    · refine ⟨_, PSs.nox (pss_cons (ps_expr (pe_callX GK hr3 (pa_cons (pv 0) pa_nil)))
          (pss_cons (ps_setLc (i := 2) (own := [("at", 1), ("item", 8)]) (g := (gTup K 2 (gCons (gName 1) (gCons (gName 8) gNil)))) (tt := tB (tCB (rIsi K) (tCons (tVar 8) (tCons (tC (.ty "str")) tNil)))) (te := tVar 1) rfl scFw.nd rfl rfl (sw_true rfl rfl rfl (by decide +kernel)) (pi_enum (by rfl) C.enumerate (pa_cons (pv 0) pa_nil)) (blkOk_by (N := sFwN) (sc := defScope sFw) (by decide +kernel)) (fun _ _ _ _ _ => (pg_tup rfl (pgs_cons (pg_name (i := 1) scFw.nd rfl (Or.inl rfl)) (pgs_cons (pg_name (i := 8) scFw.nd rfl (Or.inl rfl)) pgs_nil)))) (fun _ _ _ _ _ => (pts_one (pt_val (pe_callB call_isi (by rfl) B.isi PyProof.Rows.boot_isinstance (pa_cons (pv 8) (pa_cons (pe_bltn (v := .ty "str") (by rfl) C.str (by decide +kernel) rfl) pa_nil)))))) (fun _ _ _ _ _ => (pv 1)))
          (pss_cons (ps_set (i := 3) scFw.nd rfl (Or.inl rfl) (pe_lstN pa_nil))
          (pss_cons (ps_set (i := 4) scFw.nd rfl (Or.inl rfl) (pe_lstN pa_nil))
          (pss_cons (ps_set (i := 5) scFw.nd rfl (Or.inl rfl) pe_int)
          (pss_cons (ps_for PassesOwn.never rfl (pi_list (pe_callD GS hr1 (pa_cons (pv 0) pa_nil))) (pg_tup rfl (pgs_cons (pg_name (i := 1) scFw.nd rfl (Or.inl rfl)) (pgs_cons (pg_name (i := 6) scFw.nd rfl (Or.inl rfl)) (pgs_cons (pg_name (i := 7) scFw.nd rfl (Or.inl rfl)) pgs_nil)))) (pss_one (ps_if (pt_cmpR op_gt (pv 6) (pv 5) (nomark _)) (pss_cons (ps_set (i := 5) scFw.nd rfl (Or.inl rfl) (pv 7))
          (pss_cons (ps_expr (pe_bm PySem.F.plainAttrs_list PySem.F.slot_list_append PySem.F.type_list_append mt_append (pv 3) (pa_cons (pe_ix ix_list (pv 2) (pe_op op_sub (pv 7) pe_int) (fun _ _ => rfl)) pa_nil)))
          (pss_one (ps_expr (pe_bm PySem.F.plainAttrs_list PySem.F.slot_list_append PySem.F.type_list_append mt_append (pv 4) (pa_cons (pv 1) pa_nil)))))) pss_nil)))
          (pss_one (ps_ret (pe_tup (pa_cons (pe_callTy call_tuple_of (by rfl) B.tuple (by decide +kernel) (pa_cons (pv 3) pa_nil)) (pa_cons (pe_callTy call_tuple_of (by rfl) B.tuple (by decide +kernel) (pa_cons (pv 4) pa_nil)) pa_nil))))))))))), ?_⟩
      refine ⟨_, rfl, .inr ⟨a, xs, its, rfl, .inl ho, sv, hl, fun H1 S1 => ?_⟩⟩
      have ho1 := S1.seq ho
      have sv1 := sv.mono S1
      refine ⟨_, rfl, a, xs, rfl, ho1, fun D hD => ?_⟩
      refine lc_it (walk_enum (K := K) (a := a) (xs := xs)) (fun i H4 => Same H1 H4 ∧ H4 D = some (.lst (natV (wrTo its i)))) ⟨Same.upd hD, upd_same⟩ (fun i H4 _ z => z.1.seq ho1) ?_ ?_
      · rintro i v H0 H2 hi ⟨S4, lD⟩ ⟨T, x0, x, rfl, hT, rfl, e0, hx⟩
        obtain rfl : V.int (i : Nat) = x0 := Option.some.inj e0
        obtain ⟨x', it, e1, e2, hit⟩ := getI sv1 (i := i) hi
        obtain rfl : x = x' := Option.some.inj (hx.symm.trans e1)
        have s2 : Same H0 (upd H0 T (.tup [.int (i : Nat), x])) := Same.upd hT
        have lT : upd H0 T (HO.tup [.int (i : Nat), x]) T = some (.tup [.int (i : Nat), x]) := upd_same
        generalize upd H0 T (HO.tup [.int (i : Nat), x]) = H2 at s2 lT ⊢
        have S12 := Same.trans S4 s2
        have lD2 := s2 _ _ lD
        refine ⟨T, _, rfl, SqT.of lT, rfl, _, _, rfl, _, _, rfl, rfl, rfl, ?_⟩
        cases hit with
        | w =>
          refine ⟨_, rfl, _, _, _, _, true, rfl, .ty _, .base (.str _), kit_ty (by decide +kernel), _, rfl, iteT ?_⟩
          refine ⟨_, rfl, _, lD2, ?_, EX.Same.updN S12 hD, ?_⟩
          · have := W_le its i
            have : (wrTo its i).length ≤ i := this
            rw [List.length_map, sizeLine_eq]
            omega
          · rw [upd_same, wrTo_succ, e2]
            show _ = some (HO.lst (natV (wrTo its i ++ [i])))
            unfold natV
            rw [List.map_append]
            rfl
        | @r t n ht =>
          refine ⟨_, rfl, _, _, _, _, false, rfl, .ty _, tyx_tup (sqt_same S12 ht), kit_ty (by decide +kernel), _, rfl, iteF ⟨S12, ?_⟩⟩
          rw [wrTo_succ, e2]
          show _ = some (HO.lst (natV (wrTo its i ++ [])))
          rw [List.append_nil]
          exact lD2
      · rintro H2 ⟨S12, lD⟩
        rw [hlen] at lD
        have lD : H2 D = some (.lst (natV (wr its))) := lD
        refine ⟨by show 0 ≤ sizeLine; decide, fun p hp _ => ?_⟩
        have s3 : Same H2 (upd H2 p (.lst [])) := Same.upd hp
        have lp : upd H2 p (HO.lst []) p = some (.lst []) := upd_same
        have Dp : D ≠ p := fun z => by rw [z, hp] at lD; cases lD
        generalize upd H2 p (HO.lst []) = H3 at s3 lp ⊢
        refine ⟨by show 0 ≤ sizeLine; decide, fun r hr0 _ => ?_⟩
        have s4 : Same H3 (upd H3 r (.lst [])) := Same.upd hr0
        have lr : upd H3 r (HO.lst []) r = some (.lst []) := upd_same
        have pr : p ≠ r := fun z => by rw [z, hr0] at lp; cases lp
        have Dr : D ≠ r := fun z => by
          have := s3 _ _ lD
          rw [z, hr0] at this
          cases this
        have lp4 := s4 _ _ lp
        generalize upd H3 r (HO.lst []) = H4 at s4 lp4 lr ⊢
        have S24 := Same.trans s3 s4
        have S14 := Same.trans S12 S24
        have S04 := Same.trans S1 S14
        have lD4 := S24 _ _ lD
        have hpH : H p = none := by
          cases z : H p with
          | none => rfl
          | some u => rw [S12 _ _ (S1 _ _ z)] at hp; cases hp
        have hrH : H r = none := by
          cases z : H r with
          | none => rfl
          | some u => rw [s3 _ _ (S12 _ _ (S1 _ _ z))] at hr0; cases hr0
        refine ⟨_, rfl, a, xs, its, rfl, .inl (S04.seq ho), sv.mono S04, hl, fun q ts H5 S5 hq lq tr => ?_⟩
        have S05 := Same.trans S04 S5
        have lp5 := S5 _ _ lp4
        have lr5 := S5 _ _ lr
        have lD5 := S5 _ _ lD4
        have qp : q ≠ p := fun z => by rw [z, lp4] at hq; cases hq
        have qr : q ≠ r := fun z => by rw [z, lr] at hq; cases hq
        generalize hS : spTo its its.length = S at tr
        have hSl : S.length ≤ 1000 := by
          have := spTo_len its its.length
          rw [hS] at this
          omega
        clear S04 S14 S24 s3 s4 lp lD S12 S1 sv1 hq hr0 hp
        refine ⟨q, rfl, ⟨_, SqL.of lq⟩, ?_⟩
        refine for_list (K := K) (a := q) (xs := ts.map V.ref) (fun j σ H' => ∃ v1 v6 v7, σ = [some (.ref a), v1, some (.ref D), some (.ref p), some (.ref r), some (.int ((grd (S.take j)).1 : Nat)), v6, v7, none] ∧ (∀ b o, b ≠ p → b ≠ r → H5 b = some o → H' b = some o) ∧ H' p = some (.lst (natV ((grd (S.take j)).2.map fun p => plc its p.1))) ∧ H' r = some (.lst (natV ((grd (S.take j)).2.map (·.2)))) ∧ (grd (S.take j)).2.length ≤ j)
          ⟨_, _, _, rfl, fun b o _ _ e => e, lp5, lr5, Nat.le_refl _⟩ ?_ ?_ ?_
        · rintro j σ H' _ ⟨v1, v6, v7, rfl, b, _⟩
          exact SqL.of (b _ _ qp qr lq)
        · rintro j x σ H6 hx ⟨v1, v6, v7, rfl, b, lp6, lr6, gl⟩
          rw [List.getElem?_map] at hx
          obtain ⟨t, ht0, rfl⟩ : ∃ t, ts[j]? = some t ∧ x = .ref t := by
            cases z : ts[j]? with
            | none => rw [z] at hx; cases hx
            | some s => rw [z] at hx; exact ⟨s, rfl, (Option.some.inj hx).symm⟩
          obtain ⟨⟨a', f, z⟩, hSj, hsq⟩ := tr.get ht0
          have hsq6 := but2_sqt b lp5 lr5 hsq
          have htk : S.take (j + 1) = S.take j ++ [(a', f, z)] := by rw [List.take_add_one, hSj]; rfl
          have hj : j < S.length := (List.getElem?_eq_some_iff.mp hSj).1
          have rng := sp_rng (its := its) (k := its.length) (p := (a', f, z)) (by rw [hS]; exact List.mem_of_getElem? hSj)
          simp only [] at rng
          have step := grd_snoc (S.take j) (a', f, z)
          rw [← htk] at step
          generalize grd (S.take j) = lg at lp6 lr6 gl step
          obtain ⟨l, g⟩ := lg
          have gl : g.length ≤ j := gl
          refine ⟨t, _, rfl, hsq6, rfl, _, _, rfl, _, _, rfl, _, _, rfl, rfl, ?_⟩
          refine ⟨_, rfl, _, rfl, _, _, rfl, rfl, _, rfl, ite2 (fun lt => ?_) (fun ge => ?_)⟩
          · have lt : l < f := by
              have lt : (l : Int) < (f : Int) := of_decide_eq_true lt
              omega
            have st : grStep (l, g) (a', f, z) = (z, g ++ [(z, a')]) := by unfold grStep; rw [if_pos lt]
            rw [st] at step
            have ez : (z : Int) - 1 = ((z - 1 : Nat) : Int) := by omega
            have hat : atI (natV (wr its)) ((z : Int) - 1) = some (.int (plc its z : Nat)) := by
              rw [ez]
              refine atI_nat ?_
              show (List.map _ (wr its))[z - 1]? = _
              rw [List.getElem?_map, plc_at (by omega) rng.2.2.1]
              rfl
            refine ⟨_, rfl, ?_⟩
            refine ⟨_, rfl, .inl ⟨rfl, _, SqL.of lp6⟩, _, rfl, _, rfl, _, _, rfl, rfl, D, _, _, _, rfl, rfl, SqL.of (b _ _ Dp Dr lD5), hat, ?_⟩
            refine ⟨p, _, _, rfl, rfl, lp6, by rw [List.length_map, List.length_map, sizeLine_eq]; omega, ?_⟩
            have bp : ∀ c o, c ≠ p → H6 c = some o → upd H6 p (.lst (natV (g.map fun p => plc its p.1) ++ [.int (plc its z : Nat)])) c = some o := fun c o n e => by rw [upd_ne n]; exact e
            have lp7 : upd H6 p (HO.lst (natV (g.map fun p => plc its p.1) ++ [.int (plc its z : Nat)])) p = some (.lst (natV (g.map fun p => plc its p.1) ++ [.int (plc its z : Nat)])) := upd_same
            generalize upd H6 p (HO.lst (natV (g.map fun p => plc its p.1) ++ [.int (plc its z : Nat)])) = H7 at bp lp7 ⊢
            have lr7 := bp _ _ (Ne.symm pr) lr6
            refine ⟨_, rfl, .inl ⟨rfl, _, SqL.of lr7⟩, _, rfl, ?_⟩
            refine ⟨r, _, _, rfl, rfl, lr7, by rw [List.length_map, List.length_map, sizeLine_eq]; omega, ?_⟩
            refine ⟨some (.int (a' : Nat)), some (.int (f : Nat)), some (.int (z : Nat)), ?_, fun c o n1 n2 e => ?_, ?_, ?_, ?_⟩
            · rw [step]
              rfl
            · rw [upd_ne n2]
              exact bp _ _ n1 (b _ _ n1 n2 e)
            · rw [upd_ne pr, lp7, step]
              show _ = some (HO.lst (natV ((g ++ [(z, a')]).map fun p => plc its p.1)))
              unfold natV
              rw [List.map_append, List.map_append]
              rfl
            · rw [upd_same, step]
              show _ = some (HO.lst (natV ((g ++ [(z, a')]).map (·.2))))
              unfold natV
              rw [List.map_append, List.map_append]
              rfl
            · rw [step]
              show (g ++ [(z, a')]).length ≤ j + 1
              rw [List.length_append]
              show g.length + 1 ≤ j + 1
              omega
          · have ge : ¬ l < f := fun z => ge (decide_eq_true (show (l : Int) < (f : Int) by omega))
            have st : grStep (l, g) (a', f, z) = (l, g) := by unfold grStep; rw [if_neg ge]
            rw [st] at step
            refine ⟨some (.int (a' : Nat)), some (.int (f : Nat)), some (.int (z : Nat)), ?_, b, ?_, ?_, ?_⟩
            · rw [step]
              rfl
            · rw [step]
              exact lp6
            · rw [step]
              exact lr6
            · rw [step]
              show g.length ≤ j + 1
              omega
        · rintro σ H6 ⟨v1, v6, v7, rfl, b, lp6, lr6, gl⟩
          have hts : (ts.map V.ref).length = S.length := by rw [List.length_map]; exact Paired.length tr
          rw [hts, List.take_length] at lp6 lr6
          have S06 : Same H H6 := fun c o e => b c o (fun z => by rw [z, hpH] at e; cases e) (fun z => by rw [z, hrH] at e; cases e) (S05 _ _ e)
          refine ⟨_, rfl, p, _, rfl, .inl ⟨SqL.of lp6, fun t1 ht1 => ?_⟩⟩
          have s7 : Same H6 (upd H6 t1 (.tup (natV ((grd S).2.map fun p => plc its p.1)))) := Same.upd ht1
          have l7 : upd H6 t1 (HO.tup (natV ((grd S).2.map fun p => plc its p.1))) t1 = some (.tup (natV ((grd S).2.map fun p => plc its p.1))) := upd_same
          generalize upd H6 t1 (HO.tup (natV ((grd S).2.map fun p => plc its p.1))) = H7 at s7 l7 ⊢
          refine ⟨_, rfl, r, _, rfl, .inl ⟨SqL.of (s7 _ _ lr6), fun t2 ht2 => ?_⟩⟩
          have s8 : Same H7 (upd H7 t2 (.tup (natV ((grd S).2.map (·.2))))) := Same.upd ht2
          have l8 : upd H7 t2 (HO.tup (natV ((grd S).2.map (·.2)))) t2 = some (.tup (natV ((grd S).2.map (·.2)))) := upd_same
          generalize upd H7 t2 (HO.tup (natV ((grd S).2.map (·.2)))) = H8 at s8 l8 ⊢
          refine ⟨by show 2 ≤ sizeLine; decide, fun t3 ht3 => ?_⟩
          have s9 : Same H8 (upd H8 t3 (.tup [.ref t1, .ref t2])) := Same.upd ht3
          refine k t3 t1 t2 _ (Same.trans S06 (Same.trans s7 (Same.trans s8 s9))) (SqT.of upd_same) ?_ ?_
          · show SqT K _ t1 (natV ((grd (spTo its its.length)).2.map fun p => plc its p.1))
            rw [hS]
            exact SqT.of (s9 _ _ (s8 _ _ l7))
          · show SqT K _ t2 (natV ((grd (spTo its its.length)).2.map (·.2)))
            rw [hS]
            exact SqT.of (s9 _ _ l8)
    · refine ⟨_, PSs.nox (pss_cons (ps_expr (pe_callX GK hr3 (pa_cons (pv 0) pa_nil)))
          (pss_cons (ps_setLc (i := 2) (own := [("at", 1), ("item", 8)]) (g := (gTup K 2 (gCons (gName 1) (gCons (gName 8) gNil)))) (tt := tB (tCB (rIsi K) (tCons (tVar 8) (tCons (tC (.ty "str")) tNil)))) (te := tVar 1) rfl scFw.nd rfl rfl (sw_true rfl rfl rfl (by decide +kernel)) (pi_enq (by rfl) C.enumerate (pa_cons (pv 0) pa_nil)) (blkOk_by (N := sFwN) (sc := defScope sFw) (by decide +kernel)) (fun _ _ _ _ _ => (pg_tup rfl (pgs_cons (pg_name (i := 1) scFw.nd rfl (Or.inl rfl)) (pgs_cons (pg_name (i := 8) scFw.nd rfl (Or.inl rfl)) pgs_nil)))) (fun _ _ _ _ _ => (pts_one (pt_val (pe_callB call_isi (by rfl) B.isi PyProof.Rows.boot_isinstance (pa_cons (pv 8) (pa_cons (pe_bltn (v := .ty "str") (by rfl) C.str (by decide +kernel) rfl) pa_nil)))))) (fun _ _ _ _ _ => (pv 1)))
          (pss_cons (ps_set (i := 3) scFw.nd rfl (Or.inl rfl) (pe_lstN pa_nil))
          (pss_cons (ps_set (i := 4) scFw.nd rfl (Or.inl rfl) (pe_lstN pa_nil))
          (pss_cons (ps_set (i := 5) scFw.nd rfl (Or.inl rfl) pe_int)
          (pss_cons (ps_for PassesOwn.never rfl (pi_list (pe_callD GS hr1 (pa_cons (pv 0) pa_nil))) (pg_tup rfl (pgs_cons (pg_name (i := 1) scFw.nd rfl (Or.inl rfl)) (pgs_cons (pg_name (i := 6) scFw.nd rfl (Or.inl rfl)) (pgs_cons (pg_name (i := 7) scFw.nd rfl (Or.inl rfl)) pgs_nil)))) (pss_one (ps_if (pt_cmpR op_gt (pv 6) (pv 5) (nomark _)) (pss_cons (ps_set (i := 5) scFw.nd rfl (Or.inl rfl) (pv 7))
          (pss_cons (ps_expr (pe_bm PySem.F.plainAttrs_list PySem.F.slot_list_append PySem.F.type_list_append mt_append (pv 3) (pa_cons (pe_ix ix_list (pv 2) (pe_op op_sub (pv 7) pe_int) (fun _ _ => rfl)) pa_nil)))
          (pss_one (ps_expr (pe_bm PySem.F.plainAttrs_list PySem.F.slot_list_append PySem.F.type_list_append mt_append (pv 4) (pa_cons (pv 1) pa_nil)))))) pss_nil)))
          (pss_one (ps_ret (pe_tup (pa_cons (pe_callTy call_tuple_of (by rfl) B.tuple (by decide +kernel) (pa_cons (pv 3) pa_nil)) (pa_cons (pe_callTy call_tuple_of (by rfl) B.tuple (by decide +kernel) (pa_cons (pv 4) pa_nil)) pa_nil))))))))))), ?_⟩
      refine ⟨_, rfl, .inr ⟨a, xs, its, rfl, .inr ho, sv, hl, fun H1 S1 => ?_⟩⟩
      have ho1 := sqt_same S1 ho
      have sv1 := sv.mono S1
      refine ⟨_, rfl, a, xs, rfl, ho1, fun D hD => ?_⟩
      refine lc_it (walk_enq (K := K) (a := a) (xs := xs)) (fun i H4 => Same H1 H4 ∧ H4 D = some (.lst (natV (wrTo its i)))) ⟨Same.upd hD, upd_same⟩ (fun i H4 _ z => sqt_same z.1 ho1) ?_ ?_
      · rintro i v H0 H2 hi ⟨S4, lD⟩ ⟨T, x0, x, rfl, hT, rfl, e0, hx⟩
        obtain rfl : V.int (i : Nat) = x0 := Option.some.inj e0
        obtain ⟨x', it, e1, e2, hit⟩ := getI sv1 (i := i) hi
        obtain rfl : x = x' := Option.some.inj (hx.symm.trans e1)
        have s2 : Same H0 (upd H0 T (.tup [.int (i : Nat), x])) := Same.upd hT
        have lT : upd H0 T (HO.tup [.int (i : Nat), x]) T = some (.tup [.int (i : Nat), x]) := upd_same
        generalize upd H0 T (HO.tup [.int (i : Nat), x]) = H2 at s2 lT ⊢
        have S12 := Same.trans S4 s2
        have lD2 := s2 _ _ lD
        refine ⟨T, _, rfl, SqT.of lT, rfl, _, _, rfl, _, _, rfl, rfl, rfl, ?_⟩
        cases hit with
        | w =>
          refine ⟨_, rfl, _, _, _, _, true, rfl, .ty _, .base (.str _), kit_ty (by decide +kernel), _, rfl, iteT ?_⟩
          refine ⟨_, rfl, _, lD2, ?_, EX.Same.updN S12 hD, ?_⟩
          · have := W_le its i
            have : (wrTo its i).length ≤ i := this
            rw [List.length_map, sizeLine_eq]
            omega
          · rw [upd_same, wrTo_succ, e2]
            show _ = some (HO.lst (natV (wrTo its i ++ [i])))
            unfold natV
            rw [List.map_append]
            rfl
        | @r t n ht =>
          refine ⟨_, rfl, _, _, _, _, false, rfl, .ty _, tyx_tup (sqt_same S12 ht), kit_ty (by decide +kernel), _, rfl, iteF ⟨S12, ?_⟩⟩
          rw [wrTo_succ, e2]
          show _ = some (HO.lst (natV (wrTo its i ++ [])))
          rw [List.append_nil]
          exact lD2
      · rintro H2 ⟨S12, lD⟩
        rw [hlen] at lD
        have lD : H2 D = some (.lst (natV (wr its))) := lD
        refine ⟨by show 0 ≤ sizeLine; decide, fun p hp _ => ?_⟩
        have s3 : Same H2 (upd H2 p (.lst [])) := Same.upd hp
        have lp : upd H2 p (HO.lst []) p = some (.lst []) := upd_same
        have Dp : D ≠ p := fun z => by rw [z, hp] at lD; cases lD
        generalize upd H2 p (HO.lst []) = H3 at s3 lp ⊢
        refine ⟨by show 0 ≤ sizeLine; decide, fun r hr0 _ => ?_⟩
        have s4 : Same H3 (upd H3 r (.lst [])) := Same.upd hr0
        have lr : upd H3 r (HO.lst []) r = some (.lst []) := upd_same
        have pr : p ≠ r := fun z => by rw [z, hr0] at lp; cases lp
        have Dr : D ≠ r := fun z => by
          have := s3 _ _ lD
          rw [z, hr0] at this
          cases this
        have lp4 := s4 _ _ lp
        generalize upd H3 r (HO.lst []) = H4 at s4 lp4 lr ⊢
        have S24 := Same.trans s3 s4
        have S14 := Same.trans S12 S24
        have S04 := Same.trans S1 S14
        have lD4 := S24 _ _ lD
        have hpH : H p = none := by
          cases z : H p with
          | none => rfl
          | some u => rw [S12 _ _ (S1 _ _ z)] at hp; cases hp
        have hrH : H r = none := by
          cases z : H r with
          | none => rfl
          | some u => rw [s3 _ _ (S12 _ _ (S1 _ _ z))] at hr0; cases hr0
        refine ⟨_, rfl, a, xs, its, rfl, .inr (sqt_same S04 ho), sv.mono S04, hl, fun q ts H5 S5 hq lq tr => ?_⟩
        have S05 := Same.trans S04 S5
        have lp5 := S5 _ _ lp4
        have lr5 := S5 _ _ lr
        have lD5 := S5 _ _ lD4
        have qp : q ≠ p := fun z => by rw [z, lp4] at hq; cases hq
        have qr : q ≠ r := fun z => by rw [z, lr] at hq; cases hq
        generalize hS : spTo its its.length = S at tr
        have hSl : S.length ≤ 1000 := by
          have := spTo_len its its.length
          rw [hS] at this
          omega
        clear S04 S14 S24 s3 s4 lp lD S12 S1 sv1 hq hr0 hp
        refine ⟨q, rfl, ⟨_, SqL.of lq⟩, ?_⟩
        refine for_list (K := K) (a := q) (xs := ts.map V.ref) (fun j σ H' => ∃ v1 v6 v7, σ = [some (.ref a), v1, some (.ref D), some (.ref p), some (.ref r), some (.int ((grd (S.take j)).1 : Nat)), v6, v7, none] ∧ (∀ b o, b ≠ p → b ≠ r → H5 b = some o → H' b = some o) ∧ H' p = some (.lst (natV ((grd (S.take j)).2.map fun p => plc its p.1))) ∧ H' r = some (.lst (natV ((grd (S.take j)).2.map (·.2)))) ∧ (grd (S.take j)).2.length ≤ j)
          ⟨_, _, _, rfl, fun b o _ _ e => e, lp5, lr5, Nat.le_refl _⟩ ?_ ?_ ?_
        · rintro j σ H' _ ⟨v1, v6, v7, rfl, b, _⟩
          exact SqL.of (b _ _ qp qr lq)
        · rintro j x σ H6 hx ⟨v1, v6, v7, rfl, b, lp6, lr6, gl⟩
          rw [List.getElem?_map] at hx
          obtain ⟨t, ht0, rfl⟩ : ∃ t, ts[j]? = some t ∧ x = .ref t := by
            cases z : ts[j]? with
            | none => rw [z] at hx; cases hx
            | some s => rw [z] at hx; exact ⟨s, rfl, (Option.some.inj hx).symm⟩
          obtain ⟨⟨a', f, z⟩, hSj, hsq⟩ := tr.get ht0
          have hsq6 := but2_sqt b lp5 lr5 hsq
          have htk : S.take (j + 1) = S.take j ++ [(a', f, z)] := by rw [List.take_add_one, hSj]; rfl
          have hj : j < S.length := (List.getElem?_eq_some_iff.mp hSj).1
          have rng := sp_rng (its := its) (k := its.length) (p := (a', f, z)) (by rw [hS]; exact List.mem_of_getElem? hSj)
          simp only [] at rng
          have step := grd_snoc (S.take j) (a', f, z)
          rw [← htk] at step
          generalize grd (S.take j) = lg at lp6 lr6 gl step
          obtain ⟨l, g⟩ := lg
          have gl : g.length ≤ j := gl
          refine ⟨t, _, rfl, hsq6, rfl, _, _, rfl, _, _, rfl, _, _, rfl, rfl, ?_⟩
          refine ⟨_, rfl, _, rfl, _, _, rfl, rfl, _, rfl, ite2 (fun lt => ?_) (fun ge => ?_)⟩
          · have lt : l < f := by
              have lt : (l : Int) < (f : Int) := of_decide_eq_true lt
              omega
            have st : grStep (l, g) (a', f, z) = (z, g ++ [(z, a')]) := by unfold grStep; rw [if_pos lt]
            rw [st] at step
            have ez : (z : Int) - 1 = ((z - 1 : Nat) : Int) := by omega
            have hat : atI (natV (wr its)) ((z : Int) - 1) = some (.int (plc its z : Nat)) := by
              rw [ez]
              refine atI_nat ?_
              show (List.map _ (wr its))[z - 1]? = _
              rw [List.getElem?_map, plc_at (by omega) rng.2.2.1]
              rfl
            refine ⟨_, rfl, ?_⟩
            refine ⟨_, rfl, .inl ⟨rfl, _, SqL.of lp6⟩, _, rfl, _, rfl, _, _, rfl, rfl, D, _, _, _, rfl, rfl, SqL.of (b _ _ Dp Dr lD5), hat, ?_⟩
            refine ⟨p, _, _, rfl, rfl, lp6, by rw [List.length_map, List.length_map, sizeLine_eq]; omega, ?_⟩
            have bp : ∀ c o, c ≠ p → H6 c = some o → upd H6 p (.lst (natV (g.map fun p => plc its p.1) ++ [.int (plc its z : Nat)])) c = some o := fun c o n e => by rw [upd_ne n]; exact e
            have lp7 : upd H6 p (HO.lst (natV (g.map fun p => plc its p.1) ++ [.int (plc its z : Nat)])) p = some (.lst (natV (g.map fun p => plc its p.1) ++ [.int (plc its z : Nat)])) := upd_same
            generalize upd H6 p (HO.lst (natV (g.map fun p => plc its p.1) ++ [.int (plc its z : Nat)])) = H7 at bp lp7 ⊢
            have lr7 := bp _ _ (Ne.symm pr) lr6
            refine ⟨_, rfl, .inl ⟨rfl, _, SqL.of lr7⟩, _, rfl, ?_⟩
            refine ⟨r, _, _, rfl, rfl, lr7, by rw [List.length_map, List.length_map, sizeLine_eq]; omega, ?_⟩
            refine ⟨some (.int (a' : Nat)), some (.int (f : Nat)), some (.int (z : Nat)), ?_, fun c o n1 n2 e => ?_, ?_, ?_, ?_⟩
            · rw [step]
              rfl
            · rw [upd_ne n2]
              exact bp _ _ n1 (b _ _ n1 n2 e)
            · rw [upd_ne pr, lp7, step]
              show _ = some (HO.lst (natV ((g ++ [(z, a')]).map fun p => plc its p.1)))
              unfold natV
              rw [List.map_append, List.map_append]
              rfl
            · rw [upd_same, step]
              show _ = some (HO.lst (natV ((g ++ [(z, a')]).map (·.2))))
              unfold natV
              rw [List.map_append, List.map_append]
              rfl
            · rw [step]
              show (g ++ [(z, a')]).length ≤ j + 1
              rw [List.length_append]
              show g.length + 1 ≤ j + 1
              omega
          · have ge : ¬ l < f := fun z => ge (decide_eq_true (show (l : Int) < (f : Int) by omega))
            have st : grStep (l, g) (a', f, z) = (l, g) := by unfold grStep; rw [if_neg ge]
            rw [st] at step
            refine ⟨some (.int (a' : Nat)), some (.int (f : Nat)), some (.int (z : Nat)), ?_, b, ?_, ?_, ?_⟩
            · rw [step]
              rfl
            · rw [step]
              exact lp6
            · rw [step]
              exact lr6
            · rw [step]
              show g.length ≤ j + 1
              omega
        · rintro σ H6 ⟨v1, v6, v7, rfl, b, lp6, lr6, gl⟩
          have hts : (ts.map V.ref).length = S.length := by rw [List.length_map]; exact Paired.length tr
          rw [hts, List.take_length] at lp6 lr6
          have S06 : Same H H6 := fun c o e => b c o (fun z => by rw [z, hpH] at e; cases e) (fun z => by rw [z, hrH] at e; cases e) (S05 _ _ e)
          refine ⟨_, rfl, p, _, rfl, .inl ⟨SqL.of lp6, fun t1 ht1 => ?_⟩⟩
          have s7 : Same H6 (upd H6 t1 (.tup (natV ((grd S).2.map fun p => plc its p.1)))) := Same.upd ht1
          have l7 : upd H6 t1 (HO.tup (natV ((grd S).2.map fun p => plc its p.1))) t1 = some (.tup (natV ((grd S).2.map fun p => plc its p.1))) := upd_same
          generalize upd H6 t1 (HO.tup (natV ((grd S).2.map fun p => plc its p.1))) = H7 at s7 l7 ⊢
          refine ⟨_, rfl, r, _, rfl, .inl ⟨SqL.of (s7 _ _ lr6), fun t2 ht2 => ?_⟩⟩
          have s8 : Same H7 (upd H7 t2 (.tup (natV ((grd S).2.map (·.2))))) := Same.upd ht2
          have l8 : upd H7 t2 (HO.tup (natV ((grd S).2.map (·.2)))) t2 = some (.tup (natV ((grd S).2.map (·.2)))) := upd_same
          generalize upd H7 t2 (HO.tup (natV ((grd S).2.map (·.2)))) = H8 at s8 l8 ⊢
          refine ⟨by show 2 ≤ sizeLine; decide, fun t3 ht3 => ?_⟩
          have s9 : Same H8 (upd H8 t3 (.tup [.ref t1, .ref t2])) := Same.upd ht3
          refine k t3 t1 t2 _ (Same.trans S06 (Same.trans s7 (Same.trans s8 s9))) (SqT.of upd_same) ?_ ?_
          · show SqT K _ t1 (natV ((grd (spTo its its.length)).2.map fun p => plc its p.1))
            rw [hS]
            exact SqT.of (s9 _ _ (s8 _ _ l7))
          · show SqT K _ t2 (natV ((grd (spTo its its.length)).2.map (·.2)))
            rw [hS]
            exact SqT.of (s9 _ _ l8)
end
end K73
set_option Elab.async false
set_option linter.all false
set_option maxRecDepth 100000
set_option maxHeartbeats 4000000
namespace K73
open PySem L2 EX PyProof.Rows M72
theorem cut_dl {xs : List V} (ne : xs ≠ []) : cutV xs none (some (-1)) = xs.dropLast := by
  have e : HT.sIx xs.length xs.length (some (-1)) = xs.length - 1 := by
    show (if (-1 : Int) < 0 then ((-1 : Int) + (xs.length : Int)).toNat else min (-1 : Int).toNat xs.length) = _
    rw [if_pos (by decide)]
    have : 0 < xs.length := List.length_pos_iff.mpr ne
    omega
  unfold cutV
  rw [e, HT.sIx_none, List.drop_zero, Nat.sub_zero, List.dropLast_eq_take]
theorem cut_d1 (xs : List V) : cutV xs (some 1) none = xs.drop 1 := by
  unfold cutV
  rw [show HT.sIx xs.length 0 (some 1) = min 1 xs.length from rfl, HT.sIx_none]
  rcases Nat.le_total 1 xs.length with h | h
  · rw [Nat.min_eq_left h]
    exact List.take_of_length_le (by rw [List.length_drop]; omega)
  · rw [Nat.min_eq_right h, List.drop_of_length_le h, List.drop_of_length_le (Nat.le_refl _)]
    simp
theorem walk_zq {K : PySem.W.Frag} {a b : Addr} {xs ys : List V} {n : Nat} (hn : n = min xs.length ys.length) : Walk (RZ.ItzT K a b) n (fun H => SqT K H a xs ∧ SqT K H b ys) (YPair (fun i => xs[i]?) (fun i => ys[i]?)) := by
  refine ⟨fun i _ hi q => ?_, fun _ q => ⟨xs, ys, q.1, q.2, by omega⟩, fun i H v H2 _ q y => ?_⟩
  · have l1 : i < xs.length := by omega
    have l2 : i < ys.length := by omega
    exact ⟨xs, ys, xs[i], ys[i], q.1, q.2, by simp [l1], by simp [l2]⟩
  · obtain ⟨t, x, z, h1, h2, h3, h4, h5⟩ := y
    exact ⟨t, x, z, h1, h2, h3, h4 xs q.1, h5 ys q.2⟩
theorem natV_at {ns : List Nat} {i : Nat} {x : V} (h : (natV ns)[i]? = some x) : ∃ n, x = .int (n : Nat) ∧ ns[i]? = some n := by
  rw [List.getElem?_map] at h
  cases e : ns[i]? with
  | none => rw [e] at h; cases h
  | some n => rw [e] at h; exact ⟨n, (Option.some.inj h).symm, rfl⟩
theorem up_next {ns : List Nat} (up : ns.Pairwise (· < ·)) {i : Nat} {x y : V} (h1 : (natV ns).dropLast[i]? = some x) (h2 : ((natV ns).drop 1)[i]? = some y) : ∃ m1 m2 : Nat, x = .int (m1 : Nat) ∧ y = .int (m2 : Nat) ∧ ((m1 : Int) < (m2 : Int)) := by
  rw [List.getElem?_drop] at h2
  obtain ⟨m2, e2, g2⟩ := natV_at h2
  have h3 : (natV ns)[i]? = some x := by
    rw [List.dropLast_eq_take] at h1
    rw [List.getElem?_take] at h1
    split at h1
    · exact h1
    · cases h1
  obtain ⟨m1, e1, g1⟩ := natV_at h3
  refine ⟨m1, m2, e1, e2, ?_⟩
  obtain ⟨b1, q1⟩ := List.getElem?_eq_some_iff.mp g1
  obtain ⟨b2, q2⟩ := List.getElem?_eq_some_iff.mp g2
  have := List.pairwise_iff_getElem.mp up i (1 + i) b1 b2 (by omega)
  rw [q1, q2] at this
  omega

/-- how one entry and the next stand -/
def incB : List Nat → List Bool
  | a :: b :: t => decide (a < b) :: incB (b :: t)
  | _ => []
theorem incB_len : ∀ ns : List Nat, (incB ns).length = ns.length - 1
  | [] => rfl
  | [_] => rfl
  | a :: b :: t => by
    show (incB (b :: t)).length + 1 = _
    rw [incB_len (b :: t)]
    rfl
theorem incB_get : ∀ {ns : List Nat} {i a b : Nat}, ns[i]? = some a → ns[i + 1]? = some b → (incB ns)[i]? = some (decide (a < b))
  | x :: y :: t, 0, a, b, h1, h2 => by
    cases h1
    cases h2
    rfl
  | x :: y :: t, i + 1, a, b, h1, h2 => by
    show (incB (y :: t))[i]? = _
    exact incB_get (by simpa using h1) (by simpa using h2)
  | [x], i, a, b, h1, h2 => by simp at h2
  | [], i, a, b, h1, h2 => by simp at h1
theorem incB_up : ∀ {ns : List Nat}, (incB ns).all id = true ↔ ns.Pairwise (· < ·)
  | [] => ⟨fun _ => .nil, fun _ => rfl⟩
  | [x] => ⟨fun _ => by simp, fun _ => rfl⟩
  | x :: y :: t => by
    show (decide (x < y) && (incB (y :: t)).all id) = true ↔ _
    rw [Bool.and_eq_true, incB_up (ns := y :: t), decide_eq_true_eq]
    constructor
    · rintro ⟨h1, h2⟩
      refine List.pairwise_cons.mpr ⟨fun z hz => ?_, h2⟩
      rcases List.mem_cons.mp hz with rfl | hz
      · exact h1
      · have := (List.pairwise_cons.mp h2).1 z hz
        omega
    · intro h
      obtain ⟨h1, h2⟩ := List.pairwise_cons.mp h
      exact ⟨h1 y (List.mem_cons_self ..), h2⟩
theorem zip_at {ns : List Nat} {i : Nat} {x y : V} (h1 : (natV ns).dropLast[i]? = some x) (h2 : ((natV ns).drop 1)[i]? = some y) : ∃ m1 m2 : Nat, x = .int (m1 : Nat) ∧ y = .int (m2 : Nat) ∧ ns[i]? = some m1 ∧ ns[i + 1]? = some m2 := by
  rw [List.getElem?_drop] at h2
  obtain ⟨m2, e2, g2⟩ := natV_at h2
  have h3 : (natV ns)[i]? = some x := by
    rw [List.dropLast_eq_take] at h1
    rw [List.getElem?_take] at h1
    split at h1
    · exact h1
    · cases h1
  obtain ⟨m1, e1, g1⟩ := natV_at h3
  exact ⟨m1, m2, e1, e2, g1, by rw [Nat.add_comm i 1]; exact g2⟩
/-- what are_indexes is asked of: a tuple of ints and truths, or a list -/
inductive PtA (K : PySem.W.Frag) (H : Hp) : V → Option (List V) → Prop where
  | tup {a : Addr} {xs : List V} (h : SqT K H a xs) (at_ : ∀ v ∈ xs, ∃ b, IntA v b) : PtA K H (.ref a) (some xs)
  | lst {a : Addr} {xs : List V} (h : SqL K H a xs) : PtA K H (.ref a) none
theorem PtA.mono {K : PySem.W.Frag} {H H' : Hp} (s : Same H H') {x : V} {p : Option (List V)} (h : PtA K H x p) : PtA K H' x p := by
  cases h with
  | tup h a => exact .tup (sqt_same s h) a
  | lst h => exact .lst (s.seq h)
def intB : V → Bool
  | .int _ => true
  | _ => false
theorem IntA.b {v : V} {b : Bool} (h : IntA v b) : b = intB v := by
  cases h <;> rfl
theorem IntA.of {v : V} (h : ∃ b, IntA v b) : IntA v (intB v) := h.elim fun b h => h.b ▸ h
theorem ints_of : ∀ {xs : List V}, (xs.map intB).all id = true → ∃ is : List Int, xs = is.map V.int
  | [], _ => ⟨[], rfl⟩
  | x :: t, h => by
    rw [List.map_cons, List.all_cons, Bool.and_eq_true] at h
    obtain ⟨is, e⟩ := ints_of h.2
    cases x with
    | int n => exact ⟨n :: is, by rw [e]; rfl⟩
    | _ => cases h.1
theorem ints_nat (ns : List Nat) : ((natV ns).map intB).all id = true := by
  induction ns with
  | nil => rfl
  | cons n t ih => exact ih
def inB (m : Nat) (i : Int) : Bool := decide (0 ≤ i) && decide (i < (m : Int))
theorem nats_of {m : Nat} : ∀ {is : List Int}, (is.map (inB m)).all id = true → ∃ ns : List Nat, is.map V.int = natV ns ∧ ∀ n ∈ ns, n < m
  | [], _ => ⟨[], rfl, by simp⟩
  | i :: t, h => by
    rw [List.map_cons, List.all_cons, Bool.and_eq_true] at h
    obtain ⟨ns, e, l⟩ := nats_of h.2
    have h1 : (decide (0 ≤ i) && decide (i < (m : Int))) = true := h.1
    rw [Bool.and_eq_true, decide_eq_true_eq, decide_eq_true_eq] at h1
    obtain ⟨n, rfl⟩ := Int.eq_ofNat_of_zero_le h1.1
    refine ⟨n :: ns, by rw [List.map_cons, e]; rfl, fun k hk => ?_⟩
    rcases List.mem_cons.mp hk with rfl | hk
    · have := h1.2
      omega
    · exact l k hk
theorem natV_inj : ∀ {a b : List Nat}, natV a = natV b → a = b
  | [], [], _ => rfl
  | [], _ :: _, h => by cases h
  | _ :: _, [], h => by cases h
  | x :: a, y :: b, h => by
    have h : (V.int (x : Int)) :: natV a = V.int (y : Int) :: natV b := h
    obtain ⟨e1, e2⟩ := List.cons.inj h
    rw [natV_inj e2]
    have := V.int.inj e1
    rw [show x = y by omega]
theorem nats_in {m : Nat} {is : List Int} {ns : List Nat} (e : is.map V.int = natV ns) (l : ∀ n ∈ ns, n < m) : (is.map (inB m)).all id = true := by
  rw [List.all_eq_true]
  intro b hb
  obtain ⟨i, hi, rfl⟩ := List.mem_map.mp hb
  have : V.int i ∈ natV ns := by
    rw [← e]
    exact List.mem_map.mpr ⟨i, hi, rfl⟩
  obtain ⟨n, hn, hni⟩ := List.mem_map.mp this
  have hni := V.int.inj hni
  have := l n hn
  show (decide (0 ≤ i) && decide (i < (m : Int))) = true
  rw [decide_eq_true (show 0 ≤ i by omega), decide_eq_true (show i < (m : Int) by omega)]
  rfl
/-- it is a row of places -/
def RowP (m : Nat) (p : Option (List V)) : Prop := ∃ ns, p = some (natV ns) ∧ IsRow m ns
/-- are_indexes(obj, sequence) -/
def spIdx (K : PySem.W.Frag) : Sp := fun vs H Q _ => ∃ (x : V) (p : Option (List V)) (a : Addr) (ys : List V), vs = [x, .ref a] ∧ PtA K H x p ∧ (∀ xs, p = some xs → xs.length ≤ 1000) ∧ SqE K H a ys ∧ ∀ b H', (b = true ↔ RowP ys.length p) → Same H H' → Q (.bl b) H'
abbrev sIx : Stmt := top 11
def sIxN : List Str := ["obj", "sequence", "item", "one", "other"]
theorem scIx : FnScope ["obj", "sequence", "item", "one", "other"] ["obj", "sequence"] (defScope sIx) := ⟨rfl, rfl, rfl, by decide +kernel, rfl, by decide +kernel, by decide +kernel⟩
section
variable {P : Program} {w : World} {K : PySem.W.Frag} {mg : Str → Option Value} {base : Heap}
theorem ok_indexes {f : Addr} {fd : FuncData} (F : Fun K "are_indexes" "are_indexes" sIx f fd) (B : Bn mg) (C : Bq mg) (GI : DefAt P w K mg base 1 "is_integer" ["obj"] spInt) : FnOk P w K mg base CX0 2 f fd ["obj", "sequence"] (spIdx K) := by
  refine F.ok scIx (fun vs H Q E h => ?_) (fun cdv A outer s H vs Q E hr h => ?_)
  · obtain ⟨x, p, a, ys, rfl, _⟩ := h
    rfl
  · obtain ⟨x, p, a, ys, rfl, hx, hl, ha, k⟩ := h
    have hr1 : Room 1 _ := hr
    refine ⟨_, (pss_cons (ps_if (PW.pt (pw_or (pt_not (pt_val (pe_callB call_isi (by rfl) B.isi PyProof.Rows.boot_isinstance (pa_cons (pv 0) (pa_cons (pe_bltn (v := .ty "tuple") (by rfl) B.tuple (by decide +kernel) rfl) pa_nil))))) (pw_or1 (pt_not (pt_val (pe_callB (cr_all rfl) (by rfl) C.all (by decide +kernel) (pa_cons (pe_lc (own := [("item", 2)]) (g := gName 2) (tt := tYes) (te := tCall spInt [] E0 (tCons (tVar 2) tNil)) rfl scIx.nd (pi_tup (pv 0)) (blkOk_by (N := sIxN) (sc := defScope sIx) (by decide +kernel)) (fun _ _ _ _ _ => (pg_name (i := 2) scIx.nd rfl (Or.inl rfl))) (fun _ _ _ _ _ => pts_nil) (fun _ _ _ _ _ => (pe_callD GI hr1 (pa_cons (pv 2) pa_nil)))) pa_nil))))))) (pss_one (ps_ret pe_bl)) pss_nil)
          (pss_cons (ps_if (pt_not (pt_val (pe_callB (cr_all rfl) (by rfl) C.all (by decide +kernel) (pa_cons (pe_lc (own := [("item", 2)]) (g := gName 2) (tt := tYes) (te := tChain (rI0 fun i j => .bl (decide (i ≤ j))) (rI0 fun i j => .bl (decide (i < j))) (tC (.int 0)) (tVar 2) (tCB (fun xs H Q => ∃ p ys, xs = [V.ref p] ∧ (SqL K H p ys ∨ SqT K H p ys) ∧ Q (V.int ys.length) H) (tCons (tVar 1) tNil))) rfl scIx.nd (pi_tup (pv 0)) (blkOk_by (N := sIxN) (sc := defScope sIx) (by decide +kernel)) (fun _ _ _ _ _ => (pg_name (i := 2) scIx.nd rfl (Or.inl rfl))) (fun _ _ _ _ _ => pts_nil) (fun _ _ _ _ _ => (pe_chain op_le op_lt pe_int (pv 2) (pe_callB call_len_seq (by rfl) B.len PySem.boot_len (pa_cons (pv 1) pa_nil))))) pa_nil)))) (pss_one (ps_ret pe_bl)) pss_nil)
          (pss_one (ps_ret (pe_callB (cr_all rfl) (by rfl) C.all (by decide +kernel) (pa_cons (pe_lc (own := [("one", 3), ("other", 4)]) (g := (gTup K 2 (gCons (gName 3) (gCons (gName 4) gNil)))) (tt := tYes) (te := tOp (rI0 fun i j => .bl (decide (i < j))) (tVar 3) (tVar 4)) rfl scIx.nd (RZ.pi_zipA (by rfl) C.zip (pa_cons (pe_slice sl_tupA (pv 0) po_none (po_some (pe_un un_neg pe_int))) (pa_cons (pe_slice sl_tupA (pv 0) (po_some pe_int) po_none) pa_nil))) (blkOk_by (N := sIxN) (sc := defScope sIx) (by decide +kernel)) (fun _ _ _ _ _ => (pg_tup rfl (pgs_cons (pg_name (i := 3) scIx.nd rfl (Or.inl rfl)) (pgs_cons (pg_name (i := 4) scIx.nd rfl (Or.inl rfl)) pgs_nil)))) (fun _ _ _ _ _ => pts_nil) (fun _ _ _ _ _ => (pe_cmpR op_lt (pv 3) (pv 4) (nomark _)))) pa_nil)))))), ?_⟩
    cases hx with
    | lst h =>
      exact ⟨_, rfl, _, _, _, _, false, rfl, .ty _, tyx_lst h, kit_ty (by decide +kernel), _, rfl, iteT (k false _ ⟨(fun z => nomatch z), (fun ⟨_, e, _⟩ => nomatch e)⟩ (Same.refl _))⟩
    | @tup t xs ht hat =>
      replace hl := hl xs rfl
      refine ⟨_, rfl, _, _, _, _, true, rfl, .ty _, tyx_tup ht, kit_ty (by decide +kernel), _, rfl, iteF ?_⟩
      refine ⟨_, rfl, t, rfl, ⟨_, ht⟩, fun D hD => ?_⟩
      refine lc_tup (K := K) (a := t) (xs := xs) (fun q H4 => Same H H4 ∧ H4 D = some (.lst (((xs.take q).map intB).map V.bl))) ⟨Same.upd hD, upd_same⟩ (fun q H4 _ z => sqt_same z.1 ht) ?_ ?_
      · rintro i x H4 hx ⟨S4, lD⟩
        have hi := (List.getElem?_eq_some_iff.mp hx).1
        refine ⟨rfl, _, rfl, x, _, rfl, IntA.of (hat x (List.mem_of_getElem? hx)), ?_⟩
        refine ⟨_, lD, ?_, EX.Same.updN S4 hD, ?_⟩
        · rw [List.length_map, List.length_map, List.length_take, sizeLine_eq]
          omega
        · rw [upd_same, List.take_add_one, hx, List.map_append, List.map_append]
          rfl
      rintro H4 ⟨S4, lD⟩
      rw [List.take_length] at lD
      refine ⟨D, _, rfl, SqL.of lD, ?_⟩
      cases hall : (xs.map intB).all id with
      | false =>
        refine ⟨_, rfl, iteT (k false _ ⟨(fun z => nomatch z), fun ⟨ns, e, _⟩ => ?_⟩ S4)⟩
        obtain rfl : xs = natV ns := Option.some.inj e
        rw [ints_nat] at hall
        cases hall
      | true =>
        obtain ⟨is, rfl⟩ := ints_of hall
        refine ⟨_, rfl, iteF ?_⟩
        have ht4 := sqt_same S4 ht
        have ha4 := ha.mono S4
        clear lD hD
        refine ⟨_, rfl, t, rfl, ⟨_, ht4⟩, fun D hD => ?_⟩
        refine lc_tup (K := K) (a := t) (xs := is.map V.int) (fun q H5 => Same H4 H5 ∧ H5 D = some (.lst (((is.take q).map (inB ys.length)).map V.bl))) ⟨Same.upd hD, upd_same⟩ (fun q H5 _ z => sqt_same z.1 ht4) ?_ ?_
        · rintro i x H5 hx ⟨S5, lD⟩
          rw [List.getElem?_map] at hx
          obtain ⟨n, hn, rfl⟩ : ∃ n, is[i]? = some n ∧ x = .int n := by
            cases z : is[i]? with
            | none => rw [z] at hx; cases hx
            | some s => rw [z] at hx; exact ⟨s, rfl, (Option.some.inj hx).symm⟩
          have hi := (List.getElem?_eq_some_iff.mp hn).1
          rw [List.length_map] at hl
          have fin : ∀ H6, Same H5 H6 → ∃ acc, H6 D = some (.lst acc) ∧ acc.length < sizeLine ∧ Same H4 (upd H6 D (.lst (acc ++ [.bl (inB ys.length n)]))) ∧ upd H6 D (.lst (acc ++ [.bl (inB ys.length n)])) D = some (.lst (((is.take (i + 1)).map (inB ys.length)).map V.bl)) := fun H6 S6 => by
            refine ⟨_, S6 _ _ lD, ?_, EX.Same.updN (Same.trans S5 S6) hD, ?_⟩
            · rw [List.length_map, List.length_map, List.length_take, sizeLine_eq]
              omega
            · rw [upd_same, List.take_add_one, hn, List.map_append, List.map_append]
              rfl
          refine ⟨rfl, _, rfl, _, _, rfl, rfl, _, rfl, ite2 (fun z => ?_) (fun z => ?_)⟩
          · refine ⟨_, rfl, a, ys, rfl, ha4.mono S5, _, _, rfl, rfl, ?_⟩
            have := fin H5 (Same.refl _)
            rw [show inB ys.length n = decide (n < (ys.length : Int)) by unfold inB; rw [z]; rfl] at this
            exact this
          · have := fin H5 (Same.refl _)
            rw [show inB ys.length n = false by unfold inB; rw [Bool.eq_false_iff.mpr z]; rfl] at this
            exact this
        rintro H5 ⟨S5, lD⟩
        rw [show (is.map V.int).length = is.length from List.length_map _, List.take_length] at lD
        refine ⟨D, _, rfl, SqL.of lD, ?_⟩
        cases hall2 : (is.map (inB ys.length)).all id with
        | false =>
          refine ⟨_, rfl, iteT (k false _ ⟨(fun z => nomatch z), fun ⟨ns, e, R⟩ => ?_⟩ (Same.trans S4 S5))⟩
          rw [nats_in (Option.some.inj e) R.lt] at hall2
          cases hall2
        | true =>
          obtain ⟨ns, e, rng⟩ := nats_of hall2
          rw [e] at ht4 k hl
          refine ⟨_, rfl, iteF ?_⟩
          have S45 := Same.trans S4 S5
          have ht5 := sqt_same S5 ht4
          clear lD hD
          have hnl : (natV ns).length = ns.length := List.length_map _
          rw [hnl] at hl
          refine ⟨_, rfl, _, rfl, _, rfl, t, _, rfl, ht5, fun whole => ?_, fun part p1 hp1 => ?_⟩
          · refine ⟨_, rfl, _, rfl, t, _, rfl, ht5, fun whole2 => ?_, fun part => ?_⟩
            · have nil : ns = [] := by
                have h1 := whole.2
                rw [hnl] at h1
                cases ns with
                | nil => rfl
                | cons x r =>
                  exfalso
                  have : (if (-1 : Int) < 0 then ((-1 : Int) + ((x :: r).length : Int)).toNat else min (-1 : Int).toNat (x :: r).length) = (x :: r).length := h1
                  rw [if_pos (by decide), List.length_cons] at this
                  omega
              have h1 : SqT K H5 t (natV ns).dropLast := by
                rw [nil] at ht5 ⊢
                exact ht5
              have h2 : SqT K H5 t ((natV ns).drop 1) := by
                rw [nil] at ht5 ⊢
                exact ht5
              have SB := S45
              have hmin : (natV ns).dropLast.length = min (natV ns).dropLast.length ((natV ns).drop 1).length := by
                rw [List.length_dropLast, List.length_drop]
                omega
              refine ⟨t, t, _, _, rfl, .inr ⟨h1, h2, fun D hD => ?_⟩⟩
              refine lc_it (walk_zq (K := K) (a := t) (b := t) hmin) (fun i H4 => Same H5 H4 ∧ H4 D = some (.lst (((incB ns).take i).map V.bl))) ⟨Same.upd hD, upd_same⟩ (fun i H4 _ z => ⟨sqt_same z.1 h1, sqt_same z.1 h2⟩) ?_ ?_
              · rintro i v H0 H5 hi ⟨S4, lD⟩ ⟨T, x0, y0, rfl, hT, rfl, e0, e1⟩
                have s5 : Same H0 (upd H0 T (.tup [x0, y0])) := Same.upd hT
                have lT : upd H0 T (HO.tup [x0, y0]) T = some (.tup [x0, y0]) := upd_same
                generalize upd H0 T (HO.tup [x0, y0]) = H5 at s5 lT ⊢
                obtain ⟨m1, m2, rfl, rfl, g1, g2⟩ := zip_at e0 e1
                refine ⟨T, _, rfl, SqT.of lT, rfl, _, _, rfl, _, _, rfl, rfl, rfl, ?_⟩
                refine ⟨_, rfl, _, rfl, _, _, rfl, rfl, ?_⟩
                rw [List.length_dropLast, List.length_map] at hi
                refine ⟨_, s5 _ _ lD, ?_, EX.Same.updN (Same.trans S4 s5) hD, ?_⟩
                · rw [List.length_map, List.length_take, sizeLine_eq]
                  omega
                · rw [upd_same, List.take_add_one, incB_get g1 g2, List.map_append]
                  dsimp only
                  rw [show decide ((m1 : Int) < (m2 : Int)) = decide (m1 < m2) from decide_eq_decide.mpr (by omega)]
                  rfl
              · rintro H4 ⟨S4, lD⟩
                rw [show (natV ns).dropLast.length = (incB ns).length by rw [List.length_dropLast, incB_len, List.length_map], List.take_length] at lD
                refine ⟨D, _, rfl, SqL.of lD, ?_⟩
                refine k _ _ ?_ (Same.trans SB S4)
                rw [incB_up]
                exact ⟨fun z => ⟨ns, rfl, z, rng⟩, fun ⟨ns', e, R⟩ => by rw [natV_inj (Option.some.inj e)]; exact R.up⟩
            · exfalso
              refine part ?_
              rw [hnl] at whole ⊢
              cases ns with
              | nil => exact ⟨rfl, rfl⟩
              | cons x r =>
                exfalso
                have h1 := whole.2
                have : (if (-1 : Int) < 0 then ((-1 : Int) + ((x :: r).length : Int)).toNat else min (-1 : Int).toNat (x :: r).length) = (x :: r).length := h1
                rw [if_pos (by decide), List.length_cons] at this
                omega
          · have ne : natV ns ≠ [] := fun z => part (by rw [z]; exact ⟨rfl, rfl⟩)
            rw [cut_dl ne]
            have s6 : Same H5 (upd H5 p1 (.tup (natV ns).dropLast)) := Same.upd hp1
            have l6 : upd H5 p1 (HO.tup (natV ns).dropLast) p1 = some (.tup (natV ns).dropLast) := upd_same
            generalize upd H5 p1 (HO.tup (natV ns).dropLast) = H6 at s6 l6 ⊢
            refine ⟨_, rfl, _, rfl, t, _, rfl, sqt_same s6 ht5, fun whole2 => ?_, fun part2 p2 hp2 => ?_⟩
            · exfalso
              have h1 : min (1 : Int).toNat (natV ns).length = 0 := whole2.1
              have : 0 < (natV ns).length := List.length_pos_iff.mpr ne
              have e1 : (1 : Int).toNat = 1 := rfl
              rw [e1] at h1
              omega
            · rw [cut_d1]
              have s7 : Same H6 (upd H6 p2 (.tup ((natV ns).drop 1))) := Same.upd hp2
              have l7 : upd H6 p2 (HO.tup ((natV ns).drop 1)) p2 = some (.tup ((natV ns).drop 1)) := upd_same
              generalize upd H6 p2 (HO.tup ((natV ns).drop 1)) = H7 at s7 l7 ⊢
              have h1 : SqT K H7 p1 (natV ns).dropLast := SqT.of (s7 _ _ l6)
              have h2 : SqT K H7 p2 ((natV ns).drop 1) := SqT.of l7
              have SB := Same.trans S45 (Same.trans s6 s7)
              have hmin : (natV ns).dropLast.length = min (natV ns).dropLast.length ((natV ns).drop 1).length := by
                rw [List.length_dropLast, List.length_drop]
                omega
              refine ⟨p1, p2, _, _, rfl, .inr ⟨h1, h2, fun D hD => ?_⟩⟩
              refine lc_it (walk_zq (K := K) (a := p1) (b := p2) hmin) (fun i H4 => Same H7 H4 ∧ H4 D = some (.lst (((incB ns).take i).map V.bl))) ⟨Same.upd hD, upd_same⟩ (fun i H4 _ z => ⟨sqt_same z.1 h1, sqt_same z.1 h2⟩) ?_ ?_
              · rintro i v H0 H5 hi ⟨S4, lD⟩ ⟨T, x0, y0, rfl, hT, rfl, e0, e1⟩
                have s5 : Same H0 (upd H0 T (.tup [x0, y0])) := Same.upd hT
                have lT : upd H0 T (HO.tup [x0, y0]) T = some (.tup [x0, y0]) := upd_same
                generalize upd H0 T (HO.tup [x0, y0]) = H5 at s5 lT ⊢
                obtain ⟨m1, m2, rfl, rfl, g1, g2⟩ := zip_at e0 e1
                refine ⟨T, _, rfl, SqT.of lT, rfl, _, _, rfl, _, _, rfl, rfl, rfl, ?_⟩
                refine ⟨_, rfl, _, rfl, _, _, rfl, rfl, ?_⟩
                rw [List.length_dropLast, List.length_map] at hi
                refine ⟨_, s5 _ _ lD, ?_, EX.Same.updN (Same.trans S4 s5) hD, ?_⟩
                · rw [List.length_map, List.length_take, sizeLine_eq]
                  omega
                · rw [upd_same, List.take_add_one, incB_get g1 g2, List.map_append]
                  dsimp only
                  rw [show decide ((m1 : Int) < (m2 : Int)) = decide (m1 < m2) from decide_eq_decide.mpr (by omega)]
                  rfl
              · rintro H4 ⟨S4, lD⟩
                rw [show (natV ns).dropLast.length = (incB ns).length by rw [List.length_dropLast, incB_len, List.length_map], List.take_length] at lD
                refine ⟨D, _, rfl, SqL.of lD, ?_⟩
                refine k _ _ ?_ (Same.trans SB S4)
                rw [incB_up]
                exact ⟨fun z => ⟨ns, rfl, z, rng⟩, fun ⟨ns', e, R⟩ => by rw [natV_inj (Option.some.inj e)]; exact R.up⟩
end
/-- are_served(sequence, pushes) -/
def spSrvd (K : PySem.W.Frag) : Sp := fun vs H Q _ => ∃ (a t : Addr) (xs : List V) (its : List Item) (ps : List Nat), vs = [.ref a, .ref t] ∧ SqL K H a xs ∧ SeqV K H xs its ∧ SqT K H t (natV ps) ∧ ∀ H', Same H H' → Q (.bl (served its ps)) H'
abbrev sSv : Stmt := top 12
theorem scSv : FnScope ["sequence", "pushes", "age", "at", "item"] ["sequence", "pushes"] (defScope sSv) := ⟨rfl, rfl, rfl, by decide +kernel, rfl, by decide +kernel, by decide +kernel⟩
section
variable {P : Program} {w : World} {K : PySem.W.Frag} {mg : Str → Option Value} {base : Heap}
theorem ok_srvd {f : Addr} {fd : FuncData} (F : Fun K "are_served" "are_served" sSv f fd) (B : Bn mg) (C : Bq mg) : FnOk P w K mg base CX0 1 f fd ["sequence", "pushes"] (spSrvd K) := by
  refine F.ok scSv (fun vs H Q E h => ?_) (fun cdv A outer s H vs Q E hr h => ?_)
  · obtain ⟨a, t, xs, its, ps, rfl, _⟩ := h
    rfl
  · obtain ⟨a, t, xs, its, ps, rfl, ho, sv, ht, k⟩ := h
    have hlen : xs.length = its.length := Paired.length sv
    refine ⟨_, (pss_cons (ps_set (i := 2) scSv.nd rfl (Or.inl rfl) pe_int)
          (pss_cons (ps_for PassesOwn.never rfl (pi_enum (by rfl) C.enumerate (pa_cons (pv 0) pa_nil)) (pg_tup rfl (pgs_cons (pg_name (i := 3) scSv.nd rfl (Or.inl rfl)) (pgs_cons (pg_name (i := 4) scSv.nd rfl (Or.inl rfl)) pgs_nil))) (pss_one (ps_if (pt_val (pe_callB call_isi (by rfl) B.isi PyProof.Rows.boot_isinstance (pa_cons (pv 4) (pa_cons (pe_bltn (v := .ty "str") (by rfl) C.str (by decide +kernel) rfl) pa_nil)))) (pss_one (ps_set (i := 2) scSv.nd rfl (Or.inl rfl) (pe_ifExp (pt_cmpR op_in_seq (pv 3) (pv 1) rfl) pe_int (pe_op op_add (pv 2) pe_int)))) (pss_one (ps_if (pt_cmpR op_gt (pv 2) (pe_ix ix_tup (pv 4) pe_int (fun _ _ => rfl)) (nomark _)) (pss_one (ps_ret pe_bl)) pss_nil)))))
          (pss_one (ps_ret pe_bl)))), ?_⟩
    refine ⟨_, rfl, a, xs, rfl, ho, ?_⟩
    refine for_it (walk_enum (K := K) (a := a) (xs := xs)) (fun i σ H' => ∃ (age : Nat) (v3 v4 : Option V), σ = [some (.ref a), some (.ref t), some (.int (age : Int)), v3, v4] ∧ Same H H' ∧ servedGo (its.drop i) i ps age = served its ps) ⟨0, _, _, rfl, Same.refl _, rfl⟩ ?_ ?_ ?_
    · rintro i σ H' _ ⟨age, v3, v4, rfl, S, _⟩
      exact S.seq ho
    · rintro i v σ H0 H2 hi ⟨age, v3, v4, rfl, S, hg⟩ ⟨T, x0, x, rfl, hT, rfl, e0, hx⟩
      obtain rfl : V.int (i : Nat) = x0 := Option.some.inj e0
      obtain ⟨x', it, e1, e2, hit⟩ := getI sv (i := i) hi
      obtain rfl : x = x' := Option.some.inj (hx.symm.trans e1)
      have s2 : Same H0 (upd H0 T (.tup [.int (i : Nat), x])) := Same.upd hT
      have lT : upd H0 T (HO.tup [.int (i : Nat), x]) T = some (.tup [.int (i : Nat), x]) := upd_same
      generalize upd H0 T (HO.tup [.int (i : Nat), x]) = H2 at s2 lT ⊢
      have S2 := Same.trans S s2
      have hdrop : its.drop i = it :: its.drop (i + 1) := by
        obtain ⟨h3, h4⟩ := List.getElem?_eq_some_iff.mp e2
        rw [List.drop_eq_getElem_cons h3, h4]
      rw [hdrop] at hg
      refine ⟨T, _, rfl, SqT.of lT, rfl, _, _, rfl, _, _, rfl, rfl, ?_⟩
      cases hit with
      | w =>
        refine ⟨_, rfl, _, _, _, _, true, rfl, .ty _, .base (.str _), kit_ty (by decide +kernel), _, rfl, iteT ?_⟩
        refine ⟨_, rfl, _, rfl, t, natV ps, rfl, .inr (sqt_same S2 ht), rfl, flatNat ps, _, rfl, ?_⟩
        have hin : (if false = true then !inV (.int (i : Nat)) (natV ps) else inV (.int (i : Nat)) (natV ps)) = decide (i ∈ ps) := by
          rw [if_neg Bool.false_ne_true]
          exact inNat i ps
        rw [hin]
        have hg2 : servedGo (its.drop (i + 1)) (i + 1) ps (if i ∈ ps then 0 else age + 1) = served its ps := hg
        by_cases hp : i ∈ ps
        · rw [decide_eq_true hp]
          rw [if_pos hp] at hg2
          exact iteT ⟨0, some (.int (i : Nat)), some (.str "write"), rfl, S2, hg2⟩
        · rw [decide_eq_false hp]
          rw [if_neg hp] at hg2
          exact iteF ⟨_, rfl, _, _, rfl, rfl, age + 1, some (.int (i : Nat)), some (.str "write"), rfl, S2, hg2⟩
      | @r r n hr =>
        have hg2 : (if n < age then false else servedGo (its.drop (i + 1)) (i + 1) ps age) = served its ps := hg
        have hr2 := sqt_same S2 hr
        refine ⟨_, rfl, _, _, _, _, false, rfl, .ty _, tyx_tup hr2, kit_ty (by decide +kernel), _, rfl, iteF ?_⟩
        refine ⟨_, rfl, _, rfl, r, _, _, _, rfl, rfl, hr2, atI_nat (j := 1) rfl, _, _, rfl, rfl, _, rfl, ite2 (fun z => ?_) (fun z => ?_)⟩
        · have hn : n < age := by
            have := of_decide_eq_true z
            omega
          rw [if_pos hn] at hg2
          show Q (.bl false) _
          rw [hg2]
          exact k _ S2
        · have hn : ¬ n < age := fun y => z (decide_eq_true (by omega))
          rw [if_neg hn] at hg2
          exact ⟨age, some (.int (i : Nat)), some (.ref r), rfl, S2, hg2⟩
    · rintro σ H' ⟨age, v3, v4, rfl, S, hg⟩
      rw [hlen, List.drop_length] at hg
      have hg : true = served its ps := hg
      show Q (.bl true) _
      rw [hg]
      exact k H' S
end
end K73
set_option Elab.async false
set_option linter.all false
set_option maxRecDepth 100000
set_option maxHeartbeats 4000000
namespace K73
open PySem L2 EX PyProof.Rows M72
abbrev sCp : Stmt := top 13
def sCpN : List Str := ["sequence", "obj", "pushes", "reads", "at", "found", "latest", "part", "first", "last"]
theorem scCp : FnScope ["sequence", "obj", "pushes", "reads", "at", "found", "latest", "part", "first", "last"] ["sequence", "obj"] (defScope sCp) := ⟨rfl, rfl, rfl, by decide +kernel, rfl, by decide +kernel, by decide +kernel⟩
/-- the dict of the spans: at each place its own tuple -/
abbrev DicAt (H : Hp) : List (Int × Addr) → List Sp3 → Prop := Paired fun (e : Int × Addr) (p : Sp3) => e.1 = (p.1 : Nat) ∧ H e.2 = some (.tup [.int (p.2.1 : Nat), .int (p.2.2 : Nat)])
abbrev entK (es : List (Int × Addr)) : List (Key × V) := es.map fun e => (Sum.inl e.1, V.ref e.2)
theorem DicAt.upd {H H' : Hp} (b : ∀ a o, H a = some (.tup o) → H' a = some (.tup o)) : ∀ {es : List (Int × Addr)} {S : List Sp3}, DicAt H es S → DicAt H' es S
  | _, _, .nil => .nil
  | _, _, .cons h t => .cons ⟨h.1, b _ _ h.2⟩ (DicAt.upd b t)
theorem DicAt.val {H : Hp} : ∀ {es : List (Int × Addr)} {S : List Sp3}, DicAt H es S → S.Pairwise (fun p q => p.1 < q.1 ∧ p.2.2 ≤ q.2.2) → ∀ p ∈ S, ∃ u, valV (entK es) (Sum.inl ((p.1 : Nat) : Int)) = some (.ref u) ∧ H u = some (.tup [.int (p.2.1 : Nat), .int (p.2.2 : Nat)])
  | _, _, .nil, _, p, hp => by cases hp
  | _, _, .cons (a := e) (b := s) h t, pw, p, hp => by
    obtain ⟨h1, h2⟩ := List.pairwise_cons.mp pw
    rcases List.mem_cons.mp hp with e1 | e1
    · subst e1
      exact ⟨e.2, valV_pos (show (Sum.inl e.1 : Key) = Sum.inl ((p.1 : Nat) : Int) by rw [h.1]), h.2⟩
    · obtain ⟨u, q1, q2⟩ := DicAt.val t h2 p e1
      refine ⟨u, ?_, q2⟩
      have ne : (Sum.inl e.1 : Key) ≠ Sum.inl ((p.1 : Nat) : Int) := fun z => by
        have z := Sum.inl.inj z
        rw [h.1] at z
        have := (h1 p e1).1
        omega
      show valV ((Sum.inl e.1, V.ref e.2) :: entK _) _ = _
      rw [valV_neg ne]
      exact q1
theorem DicAt.new {H : Hp} : ∀ {es : List (Int × Addr)} {S : List Sp3}, DicAt H es S → ∀ a : Nat, (∀ p ∈ S, p.1 < a) → valV (entK es) (Sum.inl (a : Int)) = none
  | _, _, .nil, _, _ => rfl
  | _, _, .cons (a := e) (b := s) h t, a, lt => by
    have ne : (Sum.inl e.1 : Key) ≠ Sum.inl (a : Int) := fun z => by
      have z := Sum.inl.inj z
      rw [h.1] at z
      have := lt s (by simp)
      omega
    show valV ((Sum.inl e.1, V.ref e.2) :: entK _) _ = _
    rw [valV_neg ne]
    exact DicAt.new t a fun p hp => lt p (List.mem_cons_of_mem _ hp)

theorem entK_len (es : List (Int × Addr)) : (entK es).length = es.length := List.length_map _
theorem DicAt.none {H : Hp} : ∀ {es : List (Int × Addr)} {S : List Sp3}, DicAt H es S → ∀ a : Nat, (∀ p ∈ S, p.1 ≠ a) → valV (entK es) (Sum.inl (a : Int)) = none
  | _, _, .nil, _, _ => rfl
  | _, _, .cons (a := e) (b := s) h t, a, lt => by
    have ne : (Sum.inl e.1 : Key) ≠ Sum.inl (a : Int) := fun z => by
      have z := Sum.inl.inj z
      rw [h.1] at z
      have := lt s (by simp)
      omega
    show valV ((Sum.inl e.1, V.ref e.2) :: entK _) _ = _
    rw [valV_neg ne]
    exact DicAt.none t a fun p hp => lt p (List.mem_cons_of_mem _ hp)
theorem sp_uniq {its : List Item} {q f z f' z' : Nat} (h : (q, f, z) ∈ spTo its its.length) (h' : (q, f', z') ∈ spTo its its.length) : f = f' ∧ z = z' := by
  obtain ⟨_, n, a1, a2, a3, a4⟩ := mem_spTo h
  obtain ⟨_, m, b1, b2, b3, b4⟩ := mem_spTo h'
  simp only [] at a1 a3 a4 b1 b3 b4
  rw [a1] at b1
  cases b1
  exact ⟨by omega, by omega⟩
/-- a pair that check_pushes is asked of, or what is none -/
inductive TgA (K : PySem.W.Frag) (H : Hp) : V → Option (Option (List V) × Option (List V)) → Prop where
  | non : TgA K H .non none
  | lst {a : Addr} {xs : List V} (h : SqL K H a xs) : TgA K H (.ref a) none
  | tup {a : Addr} {xs : List V} (h : SqT K H a xs) (z : xs.length ≠ 2) : TgA K H (.ref a) none
  | pair {a : Addr} {x y : V} {p r : Option (List V)} (h : SqT K H a [x, y]) (hx : PtA K H x p) (hy : PtA K H y r) : TgA K H (.ref a) (some (p, r))
theorem TgA.mono {K : PySem.W.Frag} {H H' : Hp} (s : Same H H') {x : V} {t : Option (Option (List V) × Option (List V))} (h : TgA K H x t) : TgA K H' x t := by
  cases h with
  | non => exact .non
  | lst h => exact .lst (s.seq h)
  | tup h z => exact .tup (sqt_same s h) z
  | pair h a b => exact .pair (sqt_same s h) (a.mono s) (b.mono s)
def SmallP (p : Option (List V)) : Prop := ∀ xs, p = some xs → xs.length ≤ 1000
def SmallT (t : Option (Option (List V) × Option (List V))) : Prop := ∀ p r, t = some (p, r) → SmallP p ∧ SmallP r
/-- what is accepted -/
def CkP (its : List Item) (t : Option (Option (List V) × Option (List V))) : Prop := ∃ ps rs, t = some (some (natV ps), some (natV rs)) ∧ IsRow its.length ps ∧ IsRow its.length rs ∧ ps.length = rs.length ∧ (∀ p ∈ ps, its[p]? = some .w) ∧ Barred its rs ∧ served its ps = true
theorem CkP.inv {its : List Item} {ps rs : List Nat} (h : CkP its (some (some (natV ps), some (natV rs)))) : ps.length = rs.length ∧ (∀ p ∈ ps, its[p]? = some .w) ∧ Barred its rs ∧ served its ps = true := by
  obtain ⟨ps', rs', e, _, _, h1, h2, h3, h4⟩ := h
  have e := Option.some.inj e
  have e1 := natV_inj (Option.some.inj (congrArg Prod.fst e))
  have e2 := natV_inj (Option.some.inj (congrArg Prod.snd e))
  subst e1 e2
  exact ⟨h1, h2, h3, h4⟩
noncomputable def rowB (m : Nat) (p : Option (List V)) : Bool := @decide (RowP m p) (Classical.propDecidable _)
theorem rowB_iff {m : Nat} {p : Option (List V)} : rowB m p = true ↔ RowP m p := by
  unfold rowB
  exact @decide_eq_true_iff (RowP m p) (Classical.propDecidable _)
/-- check_pushes(sequence, obj) -/
def spCP (K : PySem.W.Frag) (CS : Addr) : Sp := fun vs H Q E => (∃ x n, vs = [x, n] ∧ spBad K CS x H E) ∨ ∃ (a : Addr) (x : V) (xs : List V) (its : List Item) (t : Option (Option (List V) × Option (List V))), vs = [.ref a, x] ∧ SqL K H a xs ∧ SeqV K H xs its ∧ xs.length ≤ 1000 ∧
  TgA K H x t ∧ SmallT t ∧ ∀ b H', (b = true ↔ CkP its t) → Same H H' → Q (.bl b) H'
section
variable {P : Program} {w : World} {K : PySem.W.Frag} {mg : Str → Option Value} {base : Heap}
theorem ok_check {CS : Addr} {f : Addr} {fd : FuncData} (F : Fun K "check_pushes" "check_pushes" sCp f fd) (B : Bn mg) (C : Bq mg) (GK : DefX P w K mg base 3 "check_sequence" ["obj"] (spChkS K CS)) (GS : DefAt P w K mg base 1 "spans" ["sequence"] (spSpans K))
    (GX : DefAt P w K mg base 2 "are_indexes" ["obj", "sequence"] (spIdx K)) (GV : DefAt P w K mg base 1 "are_served" ["sequence", "pushes"] (spSrvd K)) : FnOk P w K mg base (L2.CX P w) 4 f fd ["sequence", "obj"] (spCP K CS) := by
  refine F.okX scCp (fun vs H Q E h => ?_) (fun cdv A outer s H vs Q E hr h => ?_)
  · rcases h with ⟨x, n, rfl, _⟩ | ⟨a, x, xs, its, t, rfl, _⟩ <;> rfl
  · have hu := hu_of hr
    have hr3 : Room 3 _ := hr
    have hr2 : Room 2 _ := hr.mono (by omega)
    have hr1 : Room 1 _ := hr.mono (by omega)
    rcases h with ⟨x, n, rfl, hb⟩ | ⟨a, x, xs, its, t, rfl, ho, sv, hl, ht, hsm, k⟩
    · refine ⟨_, pss_cons (ps_expr (pe_callU GK hr3 (takes_of rfl rfl rfl rfl) (pa_cons (pv 0) pa_nil))) pss_deadS, ?_⟩
      exact ⟨_, rfl, .inl ⟨x, rfl, hb⟩⟩
    have hlen : xs.length = its.length := Paired.length sv
    have hSsort := spTo_sorted its its.length
    have hSl : (spTo its its.length).length ≤ 1000 := by
      have := spTo_len its its.length
      omega
    refine ⟨_, PSs.nox (pss_cons (ps_expr (pe_callX GK hr3 (pa_cons (pv 0) pa_nil)))
          (pss_cons (ps_if (PW.pt (pw_or (pt_not (pt_val (pe_callB call_isi (by rfl) B.isi PyProof.Rows.boot_isinstance (pa_cons (pv 1) (pa_cons (pe_bltn (v := .ty "tuple") (by rfl) B.tuple (by decide +kernel) rfl) pa_nil))))) (pw_or1 (pt_cmpR op_ne (pe_callB call_len_seq (by rfl) B.len PySem.boot_len (pa_cons (pv 1) pa_nil)) pe_int (nomark _))))) (pss_one (ps_ret pe_bl)) pss_nil)
          (pss_cons (ps_if (PW.pt (pw_or (pt_not (pt_val (pe_callB (cr_all rfl) (by rfl) C.all (by decide +kernel) (pa_cons (pe_lc (own := [("part", 7)]) (g := gName 7) (tt := tYes) (te := tCall (spIdx K) [] E0 (tCons (tVar 7) (tCons (tVar 0) tNil))) rfl scCp.nd (pi_tup (pv 1)) (blkOk_by (N := sCpN) (sc := defScope sCp) (by decide +kernel)) (fun _ _ _ _ _ => (pg_name (i := 7) scCp.nd rfl (Or.inl rfl))) (fun _ _ _ _ _ => pts_nil) (fun _ _ _ _ _ => (pe_callD GX hr2 (pa_cons (pv 7) (pa_cons (pv 0) pa_nil))))) pa_nil)))) (pw_or1 (pt_cmpR op_ne (pe_callB call_len_seq (by rfl) B.len PySem.boot_len (pa_cons (pe_ix ix_tup (pv 1) pe_int (fun _ _ => rfl)) pa_nil)) (pe_callB call_len_seq (by rfl) B.len PySem.boot_len (pa_cons (pe_ix ix_tup (pv 1) pe_int (fun _ _ => rfl)) pa_nil)) (nomark _))))) (pss_one (ps_ret pe_bl)) pss_nil)
          (pss_cons (ps_asg (pv 1) (pg_tup rfl (pgs_cons (pg_name (i := 2) scCp.nd rfl (Or.inl rfl)) (pgs_cons (pg_name (i := 3) scCp.nd rfl (Or.inl rfl)) pgs_nil))))
          (pss_cons (ps_if (pt_not (pt_val (pe_callB (cr_all rfl) (by rfl) C.all (by decide +kernel) (pa_cons (pe_lc (own := [("at", 4)]) (g := gName 4) (tt := tYes) (te := tCB (rIsi K) (tCons (tOp (rIxL K) (tVar 0) (tVar 4)) (tCons (tC (.ty "str")) tNil))) rfl scCp.nd (pi_tup (pv 2)) (blkOk_by (N := sCpN) (sc := defScope sCp) (by decide +kernel)) (fun _ _ _ _ _ => (pg_name (i := 4) scCp.nd rfl (Or.inl rfl))) (fun _ _ _ _ _ => pts_nil) (fun _ _ _ _ _ => (pe_callB call_isi (by rfl) B.isi PyProof.Rows.boot_isinstance (pa_cons (pe_ix ix_list (pv 0) (pv 4) (fun _ _ => rfl)) (pa_cons (pe_bltn (v := .ty "str") (by rfl) C.str (by decide +kernel) rfl) pa_nil))))) pa_nil)))) (pss_one (ps_ret pe_bl)) pss_nil)
          (pss_cons (ps_setDc (j := 5) (own := [("at", 4), ("first", 8), ("last", 9)]) (tg := (gTup K 3 (gCons (gName 4) (gCons (gName 8) (gCons (gName 9) gNil))))) (tt := tYes) (tk := tVar 4) (tv := tTup (tCons (tVar 8) (tCons (tVar 9) tNil))) rfl scCp.nd rfl rfl (sw_dc rfl rfl rfl (by decide +kernel)) (pi_list (pe_callD GS hr1 (pa_cons (pv 0) pa_nil))) (blkOk_by (N := sCpN) (sc := defScope sCp) (by decide +kernel)) (fun _ _ _ _ _ => (pg_tup rfl (pgs_cons (pg_name (i := 4) scCp.nd rfl (Or.inl rfl)) (pgs_cons (pg_name (i := 8) scCp.nd rfl (Or.inl rfl)) (pgs_cons (pg_name (i := 9) scCp.nd rfl (Or.inl rfl)) pgs_nil))))) (fun _ _ _ _ _ => pts_nil) (fun _ _ _ _ _ => pv 4) (fun _ _ _ _ _ => pe_tup (pa_cons (pv 8) (pa_cons (pv 9) pa_nil))))
          (pss_cons (ps_set (i := 6) scCp.nd rfl (Or.inl rfl) pe_int)
          (pss_cons (ps_for PassesOwn.never rfl (pi_tup (pv 3)) (pg_name (i := 4) scCp.nd rfl (Or.inl rfl)) (pss_cons (ps_if (PW.pt (pw_or (pt_cmp (pc_dnotin hu (pv 4) (pv 5))) (pw_or1 (pt_cmpR op_le (pe_ix ix_tup (pe_dget hu (pv 5) (pv 4) (fun _ _ => rfl)) pe_int (fun _ _ => rfl)) (pv 6) (nomark _))))) (pss_one (ps_ret pe_bl)) pss_nil)
          (pss_one (ps_set (i := 6) scCp.nd rfl (Or.inl rfl) (pe_ix ix_tup (pe_dget hu (pv 5) (pv 4) (fun _ _ => rfl)) pe_int (fun _ _ => rfl))))))
          (pss_one (ps_ret (pe_callD GV hr1 (pa_cons (pv 0) (pa_cons (pv 2) pa_nil))))))))))))), ?_⟩
    refine ⟨_, rfl, .inr ⟨a, xs, its, rfl, .inl ho, sv, hl, fun H1 S1 => ?_⟩⟩
    replace ho := S1.seq ho
    replace sv := sv.mono S1
    replace ht := ht.mono S1
    have no : ∀ {t : Option (Option (List V) × Option (List V))}, t = none → ¬ CkP its t := fun e h => by
      obtain ⟨_, _, e2, _⟩ := h
      rw [e] at e2
      cases e2
    cases ht with
    | non => exact ⟨_, rfl, _, _, _, _, false, rfl, .ty _, .base .non, kit_ty (by decide +kernel), _, rfl, iteT (k false _ ⟨(fun z => nomatch z), fun z => absurd z (no rfl)⟩ S1)⟩
    | lst h => exact ⟨_, rfl, _, _, _, _, false, rfl, .ty _, tyx_lst h, kit_ty (by decide +kernel), _, rfl, iteT (k false _ ⟨(fun z => nomatch z), fun z => absurd z (no rfl)⟩ S1)⟩
    | @tup r ys h z =>
      refine ⟨_, rfl, _, _, _, _, true, rfl, .ty _, tyx_tup h, kit_ty (by decide +kernel), _, rfl, iteF ?_⟩
      refine ⟨_, rfl, r, _, rfl, .inr h, rfl, _, rfl, ?_⟩
      rw [show (!decide (V.int (ys.length : Nat) = V.int 2)) = true by
        rw [decide_eq_false (fun e => z (by have := V.int.inj e; omega))]
        rfl]
      exact iteT (k false _ ⟨(fun z => nomatch z), fun z => absurd z (no rfl)⟩ S1)
    | @pair r x y p q hR hx hy =>
    obtain ⟨sp, sq⟩ := hsm p q rfl
    refine ⟨_, rfl, _, _, _, _, true, rfl, .ty _, tyx_tup hR, kit_ty (by decide +kernel), _, rfl, iteF ?_⟩
    refine ⟨_, rfl, r, _, rfl, .inr hR, rfl, _, rfl, iteNS rfl ?_⟩
    refine ⟨_, rfl, r, rfl, ⟨_, hR⟩, fun D hD => ?_⟩
    refine lc_tup (K := K) (a := r) (xs := [x, y]) (fun i H4 => Same H1 H4 ∧ H4 D = some (.lst ((([rowB xs.length p, rowB xs.length q] : List Bool).take i).map V.bl))) ⟨Same.upd hD, upd_same⟩ (fun i H4 _ z => sqt_same z.1 hR) ?_ ?_
    · rintro i v H4 hv ⟨S4, lD⟩
      have hi : i < 2 := (List.getElem?_eq_some_iff.mp hv).1
      obtain ⟨c, hc, hcs, hcg⟩ : ∃ c, PtA K H1 v c ∧ SmallP c ∧ ([rowB xs.length p, rowB xs.length q] : List Bool)[i]? = some (rowB xs.length c) := by
        obtain rfl | rfl : i = 0 ∨ i = 1 := by omega
        · obtain rfl : x = v := Option.some.inj hv
          exact ⟨p, hx, sp, rfl⟩
        · obtain rfl : y = v := Option.some.inj hv
          exact ⟨q, hy, sq, rfl⟩
      refine ⟨rfl, _, rfl, _, rfl, v, c, a, xs, rfl, hc.mono S4, hcs, .inl (S4.seq ho), fun b H5 hb S5 => ?_⟩
      obtain rfl : b = rowB xs.length c := Bool.eq_iff_iff.mpr (hb.trans rowB_iff.symm)
      refine ⟨_, S5 _ _ lD, ?_, EX.Same.updN (Same.trans S4 S5) hD, ?_⟩
      · rw [List.length_map, List.length_take, sizeLine_eq]
        omega
      · rw [upd_same, List.take_add_one, hcg, List.map_append]
        rfl
    rintro H2 ⟨S2, lD⟩
    have lD : H2 D = some (.lst (([rowB xs.length p, rowB xs.length q] : List Bool).map V.bl)) := lD
    refine ⟨D, [rowB xs.length p, rowB xs.length q], rfl, SqL.of lD, ?_⟩
    have S02 := Same.trans S1 S2
    have hal : ([rowB xs.length p, rowB xs.length q] : List Bool).all id = (rowB xs.length p && rowB xs.length q) := by simp
    rw [hal]
    cases hpq : (rowB xs.length p && rowB xs.length q) with
    | false =>
      refine ⟨_, rfl, iteT (k false _ ⟨(fun z => nomatch z), fun z => ?_⟩ S02)⟩
      obtain ⟨ps, rs, e, h1, h2, _⟩ := z
      obtain ⟨rfl, rfl⟩ := Prod.mk.inj (Option.some.inj e)
      rw [hlen, rowB_iff.mpr ⟨ps, rfl, h1⟩, rowB_iff.mpr ⟨rs, rfl, h2⟩] at hpq
      cases hpq
    | true =>
    rw [Bool.and_eq_true, rowB_iff, rowB_iff] at hpq
    obtain ⟨⟨ps, rfl, IP⟩, ⟨rs, rfl, IR⟩⟩ := hpq
    rw [hlen] at IP IR
    replace sp := sp _ rfl
    replace sq := sq _ rfl
    rw [List.length_map] at sp sq
    refine ⟨_, rfl, iteF ?_⟩
    clear lD hD hal
    obtain ⟨pa, rfl, hP⟩ : ∃ pa, x = .ref pa ∧ SqT K H1 pa (natV ps) := by
      cases hx with
      | tup h _ => exact ⟨_, rfl, h⟩
    obtain ⟨ra, rfl, hA⟩ : ∃ ra, y = .ref ra ∧ SqT K H1 ra (natV rs) := by
      cases hy with
      | tup h _ => exact ⟨_, rfl, h⟩
    replace ho := S2.seq ho
    replace sv := sv.mono S2
    replace hR := sqt_same S2 hR
    replace hP := sqt_same S2 hP
    replace hA := sqt_same S2 hA
    refine ⟨_, rfl, r, _, _, _, rfl, rfl, hR, atI_nat (j := 0) rfl, pa, _, rfl, .inr hP, _, rfl, r, _, _, _, rfl, rfl, hR, atI_nat (j := 1) rfl, ra, _, rfl, .inr hA, rfl, _, rfl, ?_⟩
    have hlN : ∀ ns : List Nat, (natV ns).length = ns.length := fun ns => List.length_map _
    by_cases hfe : ps.length = rs.length
    case neg =>
      rw [show (!decide (V.int ((natV ps).length : Nat) = V.int ((natV rs).length : Nat))) = true by
        rw [decide_eq_false (fun e => hfe (by have := V.int.inj e; rw [hlN, hlN] at this; omega))]
        rfl]
      exact iteT (k false _ ⟨(fun z => nomatch z), fun z => absurd z.inv.1 hfe⟩ S02)
    have hll : (natV ps).length = (natV rs).length := by
      rw [hlN, hlN]
      exact hfe
    rw [hll]
    refine iteNS rfl ?_
    refine ⟨_, rfl, r, _, rfl, hR, rfl, _, _, rfl, _, _, rfl, rfl, ?_⟩
    refine ⟨_, rfl, pa, rfl, ⟨_, hP⟩, fun D hD => ?_⟩
    refine lc_tup (K := K) (a := pa) (xs := natV ps) (fun i H4 => Same H2 H4 ∧ H4 D = some (.lst (((ps.take i).map fun n => isW its[n]?).map V.bl))) ⟨Same.upd hD, upd_same⟩ (fun i H4 _ z => sqt_same z.1 hP) ?_ ?_
    · rintro i x H4 hx ⟨S4, lD⟩
      obtain ⟨n, rfl, hn⟩ := natV_at hx
      have hi := (List.getElem?_eq_some_iff.mp hn).1
      have hnl := IP.lt n (List.mem_of_getElem? hn)
      obtain ⟨x, it, e1, e2, hit⟩ := getI (sv.mono S4) (i := n) (by omega)
      have fin : ∃ acc, H4 D = some (.lst acc) ∧ acc.length < sizeLine ∧ Same H2 (upd H4 D (.lst (acc ++ [.bl (isW its[n]?)]))) ∧ upd H4 D (.lst (acc ++ [.bl (isW its[n]?)])) D = some (.lst (((ps.take (i + 1)).map fun n => isW its[n]?).map V.bl)) := by
        refine ⟨_, lD, ?_, EX.Same.updN S4 hD, ?_⟩
        · rw [List.length_map, List.length_map, List.length_take, sizeLine_eq]
          omega
        · rw [upd_same, List.take_add_one, hn, List.map_append, List.map_append]
          rfl
      cases hit with
      | w =>
        rw [e2] at fin
        exact ⟨rfl, _, rfl, _, rfl, a, _, _, _, rfl, rfl, S4.seq ho, atI_nat e1, _, _, _, _, true, rfl, .ty _, .base (.str _), kit_ty (by decide +kernel), fin⟩
      | r h =>
        rw [e2] at fin
        exact ⟨rfl, _, rfl, _, rfl, a, _, _, _, rfl, rfl, S4.seq ho, atI_nat e1, _, _, _, _, false, rfl, .ty _, tyx_tup h, kit_ty (by decide +kernel), fin⟩
    rintro H3 ⟨S3, lD⟩
    rw [hlN, List.take_length] at lD
    refine ⟨D, _, rfl, SqL.of lD, ?_⟩
    have S03 := Same.trans S02 S3
    cases hw : (ps.map fun n => isW its[n]?).all id with
    | false =>
      refine ⟨_, rfl, iteT (k false _ ⟨(fun z => nomatch z), fun z => ?_⟩ S03)⟩
      have : (ps.map fun n => isW its[n]?).all id = true := by
        rw [List.all_eq_true]
        intro b hb
        obtain ⟨n, hn, rfl⟩ := List.mem_map.mp hb
        rw [z.inv.2.1 n hn]
        rfl
      rw [this] at hw
      cases hw
    | true =>
    have hws : ∀ n ∈ ps, its[n]? = some .w := fun n hn => isW_eq (List.all_eq_true.mp hw _ (List.mem_map.mpr ⟨n, hn, rfl⟩))
    refine ⟨_, rfl, iteF ?_⟩
    clear lD hD
    replace ho := S3.seq ho
    replace sv := sv.mono S3
    replace hP := sqt_same S3 hP
    replace hA := sqt_same S3 hA
    refine ⟨_, rfl, a, xs, its, rfl, .inl ho, sv, hl, fun q ts H4 S4 hq lq tr => ?_⟩
    have hup : ∀ {q f z}, (q, f, z) ∈ spTo its its.length ↔ (q, f, z) ∈ spTo its its.length := Iff.rfl
    generalize hS : spTo its its.length = S at tr hSsort hSl
    replace ho := S4.seq ho
    replace sv := sv.mono S4
    replace hP := sqt_same S4 hP
    replace hA := sqt_same S4 hA
    have S04 := Same.trans S03 S4
    have htl : ts.length = S.length := Paired.length tr
    refine ⟨q, rfl, ⟨_, SqL.of lq⟩, fun D hD => ?_⟩
    refine dc_it (walk_list (K := K) (a := q) (xs := ts.map V.ref)) (fun j H6 => ∃ es, But D H4 H6 ∧ H6 D = some (.dK (entK es)) ∧ DicAt H6 es (S.take j)) ⟨[], fun c o n e => by rw [upd_ne n]; exact e, upd_same, .nil⟩ (fun i H6 _ z => by
      obtain ⟨es, b, _, _⟩ := z
      exact b.seqN hD (SqL.of lq)) ?_ ?_
    · rintro j x H0 H6 hj ⟨es, b, lD, da⟩ ⟨rfl, hx⟩
      rw [List.getElem?_map] at hx
      obtain ⟨t, ht0, rfl⟩ : ∃ t, ts[j]? = some t ∧ x = .ref t := by
        cases z : ts[j]? with
        | none => rw [z] at hx; cases hx
        | some s => rw [z] at hx; exact ⟨s, rfl, (Option.some.inj hx).symm⟩
      obtain ⟨⟨a', f, z⟩, hSj, hsq⟩ := tr.get ht0
      have hj2 : j < S.length := (List.getElem?_eq_some_iff.mp hSj).1
      have htk : S.take (j + 1) = S.take j ++ [(a', f, z)] := by rw [List.take_add_one, hSj]; rfl
      have hsq6 := b.sqtN hD hsq
      have hel : es.length ≤ 1000 := by
        have := Paired.length da
        rw [List.length_take] at this
        omega
      refine ⟨t, _, rfl, hsq6, rfl, _, _, rfl, _, _, rfl, _, _, rfl, rfl, rfl, _, rfl, _, rfl, _, rfl, by show 2 ≤ sizeLine; decide, fun u hu2 => ?_⟩
      have s7 : Same H6 (upd H6 u (.tup [.int (f : Nat), .int (z : Nat)])) := Same.upd hu2
      have lu : upd H6 u (HO.tup [.int (f : Nat), .int (z : Nat)]) u = some (.tup [.int (f : Nat), .int (z : Nat)]) := upd_same
      generalize upd H6 u (HO.tup [.int (f : Nat), .int (z : Nat)]) = H7 at s7 lu ⊢
      have lD7 := s7 _ _ lD
      have new : valV (entK es) (Sum.inl ((a' : Nat) : Int)) = none := DicAt.new da a' fun p hp => by
        obtain ⟨i, hi⟩ := List.mem_iff_getElem?.mp hp
        rw [List.getElem?_take] at hi
        split at hi
        · rename_i hij
          obtain ⟨b1, q1⟩ := List.getElem?_eq_some_iff.mp hi
          obtain ⟨b2, q2⟩ := List.getElem?_eq_some_iff.mp hSj
          have := (List.pairwise_iff_getElem.mp hSsort i j b1 b2 hij).1
          rw [q1, q2] at this
          exact this
        · cases hi
      refine ⟨entK es, Sum.inl ((a' : Nat) : Int), rfl, lD7, by rw [entK_len, sizeLine_eq]; omega, es ++ [((a' : Int), u)], fun c o n e => ?_, ?_, ?_⟩
      · rw [upd_ne n]
        exact s7 _ _ (b c o n e)
      · rw [upd_same, L2.putK_new _ new]
        unfold entK
        rw [List.map_append]
        rfl
      · rw [htk]
        have da7 : DicAt (upd H7 D (.dK (putK (entK es) (Sum.inl ((a' : Nat) : Int)) (.ref u)))) es (S.take j) := DicAt.upd (fun c o e => by
          rw [upd_ne (fun q => by rw [q, lD] at e; cases e)]
          exact s7 _ _ e) da
        refine Paired.snoc da7 ⟨rfl, ?_⟩
        have uD : u ≠ D := fun q => by rw [q, lD7] at lu; cases lu
        show upd H7 D _ u = _
        rw [upd_ne uD]
        exact lu
    rintro H5 ⟨es, b, lD, da⟩
    rw [show (ts.map V.ref).length = S.length by rw [List.length_map]; exact htl, List.take_length] at da
    have S45 : Same H4 H5 := fun c o e => b c o (fun z => by rw [z, hD] at e; cases e) e
    replace ho := S45.seq ho
    replace sv := sv.mono S45
    replace hP := sqt_same S45 hP
    replace hA := sqt_same S45 hA
    have S05 := Same.trans S04 S45
    refine ⟨_, rfl, ra, rfl, ⟨_, hA⟩, ?_⟩
    refine for_it (walk_tup (K := K) (a := ra) (xs := natV rs)) (fun j σ H' => ∃ (v4 : Option V) (l : Nat), σ = [some (.ref a), some (.ref r), some (.ref pa), some (.ref ra), v4, some (.ref D), some (.int (l : Nat)), none, none, none] ∧ H' = H5 ∧ (Barred its rs ↔ RdGo its l (rs.drop j))) ⟨_, 0, rfl, rfl, rd_bar0.symm⟩ ?_ ?_ ?_
    · rintro j σ H' _ ⟨v4, l, rfl, rfl, _⟩
      exact hA
    · rintro j v σ H0 H6 hj ⟨v4, l, rfl, rfl, hgo⟩ ⟨rfl, hx⟩
      obtain ⟨n, rfl, hn⟩ := natV_at hx
      have hdrop : rs.drop j = n :: rs.drop (j + 1) := by
        obtain ⟨h3, h4⟩ := List.getElem?_eq_some_iff.mp hn
        rw [List.drop_eq_getElem_cons h3, h4]
      rw [hdrop] at hgo
      have bad : (∀ f z, (n, f, z) ∈ S → ¬ l < f) → Q (.bl false) H6 := fun hno => k false _ ⟨(fun z => nomatch z), fun z => by
        obtain ⟨f, y, h1, h2, _⟩ := hgo.mp z.inv.2.2.1
        rw [hS] at h1
        exact absurd h2 (hno f y h1)⟩ S05
      by_cases hm : ∃ f z, (n, f, z) ∈ S
      · obtain ⟨f, z, hf⟩ := hm
        obtain ⟨u, vu, lu⟩ := da.val hSsort _ hf
        have dg : DGet H6 D (.int (n : Nat)) (some (.ref u)) := .inl ⟨_, Sum.inl ((n : Nat) : Int), .inl lD, rfl, vu.symm⟩
        have lu : H6 u = some (.tup [.int (f : Nat), .int (z : Nat)]) := lu
        refine ⟨_, rfl, _, rfl, D, _, rfl, dg, _, rfl, iteF ?_⟩
        refine ⟨_, rfl, _, rfl, D, _, rfl, dg, u, _, _, _, rfl, rfl, SqT.of lu, atI_nat (j := 0) rfl, _, rfl, _, _, rfl, rfl, _, rfl, ?_⟩
        refine ite2 (fun h => ?_) (fun h => ?_)
        · refine bad fun f' z' hf' hlt => ?_
          have h := of_decide_eq_true h
          rw [← hS] at hf hf'
          have := (sp_uniq hf hf').1
          omega
        · have hlt : l < f := by
            rcases Nat.lt_or_ge l f with z | z
            · exact z
            · exact absurd (decide_eq_true (show (f : Int) ≤ (l : Int) by omega)) h
          refine ⟨_, rfl, _, rfl, D, _, rfl, dg, u, _, _, _, rfl, rfl, SqT.of lu, atI_nat (j := 1) rfl, some (.int (n : Nat)), z, rfl, rfl, hgo.trans ⟨fun h => ?_, fun h => ⟨f, z, by rw [hS]; exact hf, hlt, h⟩⟩⟩
          obtain ⟨f', z', h1, _, h3⟩ := h
          rw [← hS] at hf
          rw [(sp_uniq hf h1).2]
          exact h3
      · have dg : DGet H6 D (.int (n : Nat)) none := .inl ⟨_, Sum.inl ((n : Nat) : Int), .inl lD, rfl, (da.none n fun p hp e => hm ⟨p.2.1, p.2.2, by rw [← e]; exact hp⟩).symm⟩
        exact ⟨_, rfl, _, rfl, D, _, rfl, dg, _, rfl, iteT (bad fun f z h => absurd ⟨f, z, h⟩ hm)⟩
    · rintro σ H' ⟨v4, l, rfl, rfl, hgo⟩
      rw [hlN, List.drop_length] at hgo
      have hbar := hgo.mpr True.intro
      refine ⟨_, rfl, _, rfl, a, pa, xs, its, ps, rfl, ho, sv, hP, fun H7 S7 => k _ _ ⟨fun z => ⟨ps, rs, rfl, IP, IR, hfe, hws, hbar, z⟩, fun z => z.inv.2.2.2⟩ (Same.trans S05 S7)⟩
end
end K73
set_option Elab.async false
set_option linter.all false
set_option maxRecDepth 100000
set_option maxHeartbeats 4000000
namespace K73
open PySem L2 EX PyProof.Rows M72
abbrev sRp : Stmt := top 14
def rpN : List Str := ["sequence", "policy", "age", "pushes", "questions", "at", "item"]
theorem scRp : FnScope rpN ["sequence", "policy"] (defScope sRp) := ⟨rfl, rfl, rfl, by decide +kernel, rfl, by decide +kernel, by decide +kernel⟩
/-- what run_policy makes of a policy: tl tells what a call of it does; c what it answers -/
def TRun (K : PySem.W.Frag) (a : Addr) (xs : List V) (its : List Item) (c : Nat → Bool) : V → (V → V → Hp → VK → Prop) → Hp → VK → Prop := fun v0 tl H Q => v0 = .ref a ∧ SqL K H a xs ∧ SeqV K H xs its ∧ xs.length ≤ 1000 ∧ ∃ Pv : Nat → Hp → Prop, Pv 0 H ∧
  (∀ i H', Pv i H' → SqL K H' a xs ∧ SeqV K H' xs its ∧ ∀ c' q, H c' = some (LamX.CodeO c' q) → H' c' = some (LamX.CodeO c' q)) ∧ (∀ i H' H'', Pv i H' → Same H' H'' → Pv i H'') ∧
  (∀ i H', its[i]? = some .w → Pv i H' → ∀ R : VK, (∀ H'', Pv (i + 1) H'' → R (.bl (c i)) H'') → tl (.int (i : Nat)) (.int (((runSt its c i).age : Int) + 1)) H' R) ∧
  (∀ i n H', its[i]? = some (.r n) → Pv i H' → Pv (i + 1) H') ∧
  ∀ H' t, Pv its.length H' → H' t = none → Q (.ref t) (upd H' t (.tup [.int ((runSt its c its.length).p : Int), .int ((runSt its c its.length).q : Int)]))
theorem policy_gives {X : Cx} {CS g a : Addr} {cdg : Value} {q : Str} {xs : List V} {its : List Item} {c : Nat → Bool} (B : Bn X.mg) (C : Bq X.mg) (GK : DefX X.prog X.w X.K X.mg X.base 3 "check_sequence" ["obj"] (spChkS X.K CS)) (hro : Room 4 X.A) :
    GivesTo2 X rpN "run_policy" (defScope sRp) g cdg (defBody sRp) "policy" "at" "age" 1 5 2 q (TRun X.K a xs its c) := by
  intro v0 f c' s H Q tl act hc h
  obtain ⟨rfl, ho, sv, hl, Pv, P0, Pk, Ps, Pw, Pr, k⟩ := h
  have hr3 : Room 3 (X.A.deeper (envOfC "run_policy" (defScope sRp) s.heap.objs.size g cdg)) := hro.deeper _
  have hlen : xs.length = its.length := Paired.length sv
  refine ⟨_, (pss_cons (ps_expr (pe_callX GK hr3 (pa_cons (pv 0) pa_nil)))
          (pss_cons (ps_set (i := 2) scRp.nd rfl (Or.inl rfl) pe_int)
          (pss_cons (ps_set (i := 3) scRp.nd rfl (Or.inl rfl) pe_int)
          (pss_cons (ps_set (i := 4) scRp.nd rfl (Or.inl rfl) pe_int)
          (pss_cons (ps_for PassesOwn.never rfl (pi_enum (by rfl) C.enumerate (pa_cons (pv 0) pa_nil)) (pg_tup rfl (pgs_cons (pg_name (i := 5) scRp.nd rfl (Or.inl rfl)) (pgs_cons (pg_name (i := 6) scRp.nd rfl (Or.inl rfl)) pgs_nil))) (pss_one (ps_if (pt_val (pe_callB call_isi (by rfl) B.isi PyProof.Rows.boot_isinstance (pa_cons (pv 6) (pa_cons (pe_bltn (v := .ty "str") (by rfl) C.str (by decide +kernel) rfl) pa_nil)))) (pss_cons (ps_aug (i := 2) scRp.nd rfl (.inl rfl) pe_int ip_add)
          (pss_one (ps_if (pt_val (act _ _ _ _)) (pss_cons (ps_aug (i := 3) scRp.nd rfl (.inl rfl) pe_int ip_add)
          (pss_one (ps_set (i := 2) scRp.nd rfl (Or.inl rfl) pe_int))) pss_nil))) (pss_one (ps_if (pt_cmpR op_lt (pe_ix ix_tup (pv 6) pe_int (fun _ _ => rfl)) (pv 2) (nomark _)) (pss_cons (ps_aug (i := 4) scRp.nd rfl (.inl rfl) pe_int ip_add)
          (pss_one (ps_set (i := 2) scRp.nd rfl (Or.inl rfl) pe_int))) pss_nil)))))
          (pss_one (ps_ret (pe_tup (pa_cons (pv 3) (pa_cons (pv 4) pa_nil)))))))))), ?_⟩
  refine ⟨_, rfl, .inr ⟨a, xs, its, rfl, .inl ho, sv, hl, fun H1 S1 => ?_⟩⟩
  have P1 := Ps _ _ _ P0 S1
  refine ⟨_, rfl, a, xs, rfl, S1.seq ho, ?_⟩
  refine for_it (walk_enum (K := X.K) (a := a) (xs := xs)) (fun i σ H' => ∃ (v5 v6 : Option V), σ = [some (.ref a), some (.ref f), some (.int ((runSt its c i).age : Int)), some (.int ((runSt its c i).p : Int)), some (.int ((runSt its c i).q : Int)), v5, v6] ∧ Pv i H') ⟨_, _, rfl, P1⟩ ?_ ?_ ?_
  · rintro i σ H' _ ⟨v5, v6, rfl, Pi⟩
    exact (Pk _ _ Pi).1
  · rintro i v σ H0 H2 hi ⟨v5, v6, rfl, Pi⟩ ⟨T, x0, x, rfl, hT, rfl, e0, hx⟩
    obtain rfl : V.int (i : Nat) = x0 := Option.some.inj e0
    have s2 : Same H0 (upd H0 T (.tup [.int (i : Nat), x])) := Same.upd hT
    have lT : upd H0 T (HO.tup [.int (i : Nat), x]) T = some (.tup [.int (i : Nat), x]) := upd_same
    generalize upd H0 T (HO.tup [.int (i : Nat), x]) = H2 at s2 lT ⊢
    replace Pi := Ps _ _ _ Pi s2
    obtain ⟨_, sv2, hcd⟩ := Pk _ _ Pi
    obtain ⟨x', it, e1, e2, hit⟩ := getI sv2 (i := i) hi
    obtain rfl : x = x' := Option.some.inj (hx.symm.trans e1)
    refine ⟨T, _, rfl, SqT.of lT, rfl, _, _, rfl, _, _, rfl, rfl, ?_⟩
    cases hit with
    | w =>
      refine ⟨_, rfl, _, _, _, _, true, rfl, .ty _, .base (.str _), kit_ty (by decide +kernel), _, rfl, iteT ?_⟩
      refine ⟨_, rfl, _, _, rfl, rfl, ?_⟩
      refine ⟨rfl, _, rfl, _, rfl, hcd _ _ hc, ?_⟩
      refine Pw i H2 e2 Pi _ fun H3 P3 => ⟨_, rfl, ?_⟩
      cases hci : c i with
      | true =>
        refine iteT ?_
        refine ⟨_, rfl, _, _, rfl, rfl, some (.int (i : Nat)), some (.str "write"), ?_, P3⟩
        rw [run_w1 e2 hci]
        rfl
      | false =>
        refine iteF ⟨some (.int (i : Nat)), some (.str "write"), ?_, P3⟩
        rw [run_w0 e2 (by rw [hci]; exact fun z => nomatch z)]
        rfl
    | @r t n ht =>
      refine ⟨_, rfl, _, _, _, _, false, rfl, .ty _, tyx_tup ht, kit_ty (by decide +kernel), _, rfl, iteF ?_⟩
      have P3 := Pr _ _ _ e2 Pi
      refine ⟨_, rfl, t, _, _, _, rfl, rfl, ht, atI_nat (j := 1) rfl, _, rfl, _, _, rfl, rfl, _, rfl, ite2 (fun z => ?_) (fun z => ?_)⟩
      · have hn : n < (runSt its c i).age := by
          have := of_decide_eq_true z
          omega
        refine ⟨_, rfl, _, _, rfl, rfl, some (.int (i : Nat)), some (.ref t), ?_, P3⟩
        rw [run_r1 e2 hn]
        rfl
      · have hn : ¬ n < (runSt its c i).age := fun y => z (decide_eq_true (by omega))
        refine ⟨some (.int (i : Nat)), some (.ref t), ?_, P3⟩
        rw [run_r0 e2 hn]
        rfl
  · rintro σ H' ⟨v5, v6, rfl, Pi⟩
    rw [hlen] at Pi ⊢
    exact ⟨_, rfl, _, rfl, by show 2 ≤ sizeLine; decide, fun t ht => k H' t Pi ht⟩

/-- run_policy of what is no sequence -/
def spRP (K : PySem.W.Frag) (CS : Addr) : Sp := fun vs H Q E => ∃ x n, vs = [x, n] ∧ spBad K CS x H E
section
variable {P : Program} {w : World} {K : PySem.W.Frag} {mg : Str → Option Value} {base : Heap}
theorem ok_run {CS : Addr} {f : Addr} {fd : FuncData} (F : Fun K "run_policy" "run_policy" sRp f fd) (B : Bn mg) (C : Bq mg) (GK : DefX P w K mg base 3 "check_sequence" ["obj"] (spChkS K CS)) : FnOk P w K mg base (L2.CX P w) 4 f fd ["sequence", "policy"] (spRP K CS) := by
  refine F.okX scRp (fun vs H Q E h => ?_) (fun cdv A outer s H vs Q E hr h => ?_)
  · obtain ⟨x, n, rfl, _⟩ := h
    rfl
  · have hr3 : Room 3 _ := hr
    obtain ⟨x, n, rfl, hb⟩ := h
    refine ⟨_, pss_cons (ps_expr (pe_callU GK hr3 (takes_of rfl rfl rfl rfl) (pa_cons (pv 0) pa_nil))) pss_deadS, ?_⟩
    exact ⟨_, rfl, .inl ⟨x, rfl, hb⟩⟩
end
end K73
set_option Elab.async false
set_option linter.all false
set_option maxRecDepth 100000
set_option maxHeartbeats 4000000
namespace K73
open PySem L2 EX PyProof.Rows M72
theorem natV_last {ns : List Nat} {i m : Nat} {xs : List V} (h : xs.take (i + 1) = natV ns) (hi : i < xs.length) (e : ns[i]? = some m) : xs[i]? = some (.int (m : Nat)) := by
  have : (xs.take (i + 1))[i]? = (natV ns)[i]? := by rw [h]
  rw [List.getElem?_take, if_pos (by omega), natV_get e] at this
  exact this
theorem row_take {m : Nat} {ns : List Nat} (h : IsRow m ns) (i : Nat) : IsRow m (ns.take i) := ⟨h.up.sublist (List.take_sublist _ _), fun n hn => h.lt n (List.mem_of_mem_take hn)⟩
theorem row_snoc {m n : Nat} {ns : List Nat} (h : IsRow m ns) (hn : n < m) (up : ∀ k, ns.getLast? = some k → k < n) : IsRow m (ns ++ [n]) := by
  refine ⟨List.pairwise_append.mpr ⟨h.up, by simp, fun a ha b hb => ?_⟩, fun k hk => ?_⟩
  · rw [List.mem_singleton.mp hb]
    obtain ⟨i, hi⟩ := List.mem_iff_getElem?.mp ha
    obtain ⟨h1, h2⟩ := List.getElem?_eq_some_iff.mp hi
    have hl : ns.getLast? = some (ns[ns.length - 1]'(by omega)) := by
      rw [List.getLast?_eq_getElem?, List.getElem?_eq_getElem]
    have h3 := up _ hl
    rcases Nat.lt_or_ge i (ns.length - 1) with z | z
    · have := List.pairwise_iff_getElem.mp h.up i (ns.length - 1) h1 (by omega) z
      omega
    · have : i = ns.length - 1 := by omega
      subst this
      rw [h2] at h3
      exact h3
  · rcases List.mem_append.mp hk with hk | hk
    · exact h.lt k hk
    · rw [List.mem_singleton.mp hk]
      exact hn
def spRows (K : PySem.W.Frag) : Sp := fun vs H Q _ => ∃ (x : V) (p : Option (List V)) (m : Nat), vs = [x, .int (m : Nat)] ∧ PtA K H x p ∧ SmallP p ∧ ∀ b, (b = true ↔ RowP m p) → Q (.bl b) H
abbrev sRw : Stmt := top 21
theorem scRw : FnScope ["_law_thing", "_law_size", "_law_at"] ["_law_thing", "_law_size"] (defScope sRw) := ⟨rfl, rfl, rfl, by decide +kernel, rfl, by decide +kernel, by decide +kernel⟩
section
variable {P : Program} {w : World} {K : PySem.W.Frag} {mg : Str → Option Value} {base : Heap}
theorem ok_rows {f : Addr} {fd : FuncData} (F : Fun K "_law_is_rows" "_law_is_rows" sRw f fd) (B : Bn mg) (C : Bq mg) : FnOk P w K mg base CX0 1 f fd ["_law_thing", "_law_size"] (spRows K) := by
  refine F.ok scRw (fun vs H Q E h => ?_) (fun cdv A outer s H vs Q E hr h => ?_)
  · obtain ⟨x, p, m, rfl, _⟩ := h
    rfl
  · obtain ⟨x, p, m, rfl, hx, hs, k⟩ := h
    refine ⟨_, (pss_cons (ps_if (pt_not (pt_val (pe_callB call_isi (by rfl) B.isi PyProof.Rows.boot_isinstance (pa_cons (pv 0) (pa_cons (pe_bltn (v := .ty "tuple") (by rfl) B.tuple (by decide +kernel) rfl) pa_nil))))) (pss_one (ps_ret pe_bl)) pss_nil)
          (pss_cons (ps_for PassesOwn.never rfl (pi_range1 (by rfl) B.range (pa_cons (pe_callB call_len_seq (by rfl) B.len PySem.boot_len (pa_cons (pv 0) pa_nil)) pa_nil)) (pg_name (i := 2) scRw.nd rfl (Or.inl rfl)) (pss_cons (ps_if (PW.pt (pw_or (pt_not (pt_val (pe_callB call_isi (by rfl) B.isi PyProof.Rows.boot_isinstance (pa_cons (pe_ix ix_tup (pv 0) (pv 2) (fun _ _ => rfl)) (pa_cons (pe_bltn (v := .ty "int") (by rfl) C.int (by decide +kernel) rfl) pa_nil))))) (pw_or (pt_val (pe_callB call_isi (by rfl) B.isi PyProof.Rows.boot_isinstance (pa_cons (pe_ix ix_tup (pv 0) (pv 2) (fun _ _ => rfl)) (pa_cons (pe_bltn (v := .ty "bool") (by rfl) C.bool (by decide +kernel) rfl) pa_nil)))) (pw_or1 (pt_not (pt_chain op_le op_lt pe_int (pe_ix ix_tup (pv 0) (pv 2) (fun _ _ => rfl)) (pv 1))))))) (pss_one (ps_ret pe_bl)) pss_nil)
          (pss_one (ps_if (PW.pt (pw_and (pt_cmpR op_gt (pv 2) pe_int (nomark _)) (pw_and1 (pt_cmpR op_le (pe_ix ix_tup (pv 0) (pv 2) (fun _ _ => rfl)) (pe_ix ix_tup (pv 0) (pe_op op_sub (pv 2) pe_int) (fun _ _ => rfl)) (nomark _))))) (pss_one (ps_ret pe_bl)) pss_nil))))
          (pss_one (ps_ret pe_bl)))), ?_⟩
    cases hx with
    | lst h => exact ⟨_, rfl, _, _, _, _, false, rfl, .ty _, tyx_lst h, kit_ty (by decide +kernel), _, rfl, iteT (k false ⟨(fun z => nomatch z), (fun ⟨_, e, _⟩ => nomatch e)⟩)⟩
    | @tup t xs ht hat =>
      have hl := hs xs rfl
      refine ⟨_, rfl, _, _, _, _, true, rfl, .ty _, tyx_tup ht, kit_ty (by decide +kernel), _, rfl, iteF ?_⟩
      refine ⟨_, rfl, t, _, rfl, .inr ht, _, rfl, by omega, by omega, ?_⟩
      refine for_range (fun i σ H' => ∃ v2 ns, σ = [some (V.ref t), some (.int (m : Nat)), v2] ∧ H' = H ∧ xs.take i = natV ns ∧ IsRow m ns) ⟨none, [], rfl, rfl, rfl, ⟨.nil, by simp⟩⟩ ?_ ?_
      · rintro i σ H' hi ⟨v2, ns, rfl, rfl, htk, row⟩
        have hi : i < xs.length := by simpa using hi
        obtain ⟨v, hv⟩ : ∃ v, xs[i]? = some v := ⟨_, List.getElem?_eq_getElem hi⟩
        have at_ : atI xs (0 + (i : Int)) = some v := by rw [Int.zero_add]; exact atI_nat hv
        have hnl : ns.length = i := by
          have := congrArg List.length htk
          rw [List.length_take, List.length_map] at this
          omega
        obtain ⟨b, hia⟩ := hat v (List.mem_of_getElem? hv)
        cases hia with
        | bl b =>
          refine ⟨_, rfl, _, rfl, t, _, _, _, rfl, rfl, ht, at_, _, _, _, _, true, rfl, .ty _, .base (.bl _), kit_ty (by decide +kernel), _, rfl, iteF ?_⟩
          refine ⟨_, rfl, _, rfl, t, _, _, _, rfl, rfl, ht, at_, _, _, _, _, true, rfl, .ty _, .base (.bl _), kit_ty (by decide +kernel), _, rfl, iteT ?_⟩
          refine k false ⟨(fun z => nomatch z), fun ⟨ns', e, _⟩ => ?_⟩
          rw [Option.some.inj e] at hv
          obtain ⟨n, e, _⟩ := natV_at hv
          cases e
        | int n =>
          refine ⟨_, rfl, _, rfl, t, _, _, _, rfl, rfl, ht, at_, _, _, _, _, true, rfl, .ty _, .base (.int _), kit_ty (by decide +kernel), _, rfl, iteF ?_⟩
          refine ⟨_, rfl, _, rfl, t, _, _, _, rfl, rfl, ht, at_, _, _, _, _, false, rfl, .ty _, .base (.int _), kit_ty (by decide +kernel), _, rfl, iteF ?_⟩
          refine ⟨_, rfl, _, rfl, t, _, _, _, rfl, rfl, ht, at_, _, _, rfl, rfl, _, rfl, ite2 (fun h0 => ?_) (fun h0 => ⟨_, rfl, iteT ?_⟩)⟩
          · have h0 : 0 ≤ n := of_decide_eq_true h0
            obtain ⟨n, rfl⟩ := Int.eq_ofNat_of_zero_le h0
            refine ⟨_, rfl, _, _, rfl, rfl, _, rfl, ?_⟩
            by_cases hm : n < m
            case neg =>
              rw [decide_eq_false (show ¬ (n : Int) < (m : Int) by omega)]
              refine iteT (k false ⟨(fun z => nomatch z), fun ⟨ns', e, R⟩ => ?_⟩)
              rw [Option.some.inj e] at hv
              obtain ⟨n', e, h'⟩ := natV_at hv
              have := R.lt n' (List.mem_of_getElem? h')
              have := V.int.inj e
              omega
            rw [decide_eq_true (show (n : Int) < (m : Int) by omega)]
            refine iteF ?_
            have next : (∀ k, ns.getLast? = some k → k < n) → ∃ v2 ns, [some (V.ref t), some (.int (m : Nat)), some (.int (0 + (i : Int)))] = [some (V.ref t), some (.int (m : Nat)), v2] ∧ H' = H' ∧ xs.take (i + 1) = natV ns ∧ IsRow m ns := fun up => ⟨_, ns ++ [n], rfl, rfl, by
              rw [List.take_add_one, hv, htk]
              show natV ns ++ [V.int (n : Nat)] = natV (ns ++ [n])
              unfold natV
              rw [List.map_append]
              rfl, row_snoc row hm up⟩
            refine ⟨_, rfl, _, _, rfl, rfl, _, rfl, ?_⟩
            by_cases hz : i = 0
            · rw [decide_eq_false (show ¬ (0 + (i : Int)) > 0 by omega)]
              refine iteF (iteF (next fun k hk => ?_))
              have : ns = [] := List.length_eq_zero_iff.mp (by omega)
              rw [this] at hk
              cases hk
            · rw [decide_eq_true (show (0 + (i : Int)) > 0 by omega)]
              refine iteT ?_
              obtain ⟨kk, hk⟩ : ∃ kk, ns[i - 1]? = some kk := ⟨_, List.getElem?_eq_getElem (by omega)⟩
              have hv2 : xs[i - 1]? = some (.int (kk : Nat)) := by
                have : (xs.take i)[i - 1]? = (natV ns)[i - 1]? := by rw [htk]
                rw [List.getElem?_take, if_pos (by omega), natV_get hk] at this
                exact this
              refine ⟨_, rfl, _, rfl, t, _, _, _, rfl, rfl, ht, at_, _, rfl, _, rfl, _, _, rfl, rfl, t, _, _, _, rfl, rfl, ht, (by
                rw [show (0 + (i : Int)) - 1 = ((i - 1 : Nat) : Int) by omega]
                exact atI_nat hv2), _, _, rfl, rfl, _, rfl, ?_⟩
              by_cases hle : n ≤ kk
              · rw [decide_eq_true (show (n : Int) ≤ (kk : Int) by omega)]
                refine iteT (k false ⟨(fun z => nomatch z), fun ⟨ns', e, R⟩ => ?_⟩)
                have e := Option.some.inj e
                rw [e] at hv hv2
                obtain ⟨n1, e1, g1⟩ := natV_at hv
                obtain ⟨n2, e2, g2⟩ := natV_at hv2
                obtain ⟨b1, q1⟩ := List.getElem?_eq_some_iff.mp g1
                obtain ⟨b2, q2⟩ := List.getElem?_eq_some_iff.mp g2
                have := List.pairwise_iff_getElem.mp R.up (i - 1) i b2 b1 (by omega)
                have e1 := V.int.inj e1
                have e2 := V.int.inj e2
                rw [q1, q2] at this
                omega
              · rw [decide_eq_false (show ¬ (n : Int) ≤ (kk : Int) by omega)]
                refine iteF (next fun k hk' => ?_)
                rw [List.getLast?_eq_getElem?, hnl, hk] at hk'
                cases hk'
                omega
          · refine k false ⟨(fun z => nomatch z), fun ⟨ns', e, R⟩ => ?_⟩
            rw [Option.some.inj e] at hv
            obtain ⟨n', e, h'⟩ := natV_at hv
            have e := V.int.inj e
            exact absurd (decide_eq_true (by omega)) h0
      · rintro σ H' ⟨v2, ns, rfl, rfl, htk, row⟩
        rw [show ((xs.length : Nat) : Int).toNat = xs.length from rfl, List.take_length] at htk
        exact k true ⟨fun _ => ⟨ns, by rw [htk], row⟩, fun _ => rfl⟩
end
end K73
set_option Elab.async false
set_option linter.all false
set_option maxRecDepth 100000
set_option maxHeartbeats 4000000
namespace K73
open PySem L2 EX PyProof.Rows M72
def dN (c : List Nat) : List PyData := c.map fun n : Nat => PyData.int n
theorem lay_dN : ∀ c : List Nat, PyData.canLayAll0 (dN c) = true
  | [] => rfl
  | n :: c => by
    show (PyData.canLay0 (.int n) && PyData.canLayAll0 (dN c)) = true
    rw [lay_dN c]
    rfl
theorem depth_dN : ∀ c : List Nat, PyData.depthAll (dN c) = 0
  | [] => rfl
  | n :: c => by
    show max (PyData.depth (.int n)) (PyData.depthAll (dN c)) = 0
    rw [depth_dN c]
    rfl

theorem shaped_dN (c : List Nat) : SeqAt.shaped (.list (dN c)) = true := by
  show (PyData.canLayAll0 (dN c) && decide (PyData.depthAll (dN c) + 1 ≤ 64)) = true
  rw [lay_dN c, depth_dN c]
  rfl
theorem shaped_dT (c : List Nat) : SeqAt.shaped (.tuple (dN c)) = true := by
  show (PyData.canLayAll0 (dN c) && decide (PyData.depthAll (dN c) + 1 ≤ 64)) = true
  rw [lay_dN c, depth_dN c]
  rfl
theorem dp_N {K : PySem.W.Frag} {H : Hp} : ∀ c : List Nat, DpAll K H (natV c) (dN c)
  | [] => .nil
  | n :: c => .cons (.int _) (dp_N c)

theorem eqv_nil (ds : List PyData) : PyData.eqv (.list ds) (.list []) = ds.isEmpty := by
  cases ds <;> rfl
theorem eqvAll_dN : ∀ c d : List Nat, PyData.eqvAll (dN c) (dN d) = decide (c = d)
  | [], [] => rfl
  | [], _ :: _ => rfl
  | _ :: _, [] => rfl
  | n :: c, m :: d => by
    show (((n : Int) == (m : Int)) && PyData.eqvAll (dN c) (dN d)) = _
    rw [eqvAll_dN c d]
    by_cases h : n = m
    · subst h
      by_cases h2 : c = d <;> simp [h2]
    · have : ¬ (n : Int) = (m : Int) := by omega
      simp [h, this]

theorem filt_len {α : Type} (p : α → Bool) (l : List α) (i : Nat) : ((l.take i).filter p).length ≤ l.length := Nat.le_trans (List.length_filter_le _ _) (List.length_take_le' _ _)
theorem filt_succ {α : Type} {p : α → Bool} {l : List α} {i : Nat} {x : α} (h : l[i]? = some x) : (l.take (i + 1)).filter p = (l.take i).filter p ++ (if p x = true then [x] else []) := by
  rw [List.take_add_one, h, List.filter_append]
  show _ ++ List.filter p [x] = _
  by_cases hp : p x = true <;> simp [hp]
theorem natV_app (a b : List Nat) : natV (a ++ b) = natV a ++ natV b := List.map_append
/-- from where on the reads need a push -/
abbrev stV (its : List Item) (rs : List Nat) : List V := rs.map fun q => optV (startAt its q)
theorem flat_st (its : List Item) : ∀ rs : List Nat, (stV its rs).all flatV = true
  | [] => rfl
  | q :: t => by
    show (flatV (optV (startAt its q)) && (stV its t).all flatV) = true
    rw [flat_st its t]
    cases startAt its q <;> rfl
theorem none_st (its : List Item) : ∀ rs : List Nat, inV .non (stV its rs) = true ↔ ∃ q ∈ rs, startAt its q = none
  | [] => by simp [inV]
  | q :: t => by
    have e : inV .non (stV its (q :: t)) = (eqV (optV (startAt its q)) .non || inV .non (stV its t)) := rfl
    rw [e, Bool.or_eq_true, none_st its t]
    constructor
    · rintro (h | ⟨x, h1, h2⟩)
      · refine ⟨q, List.mem_cons_self .., ?_⟩
        cases z : startAt its q with
        | none => rfl
        | some s => rw [z] at h; cases h
      · exact ⟨x, List.mem_cons_of_mem _ h1, h2⟩
    · rintro ⟨x, h1, h2⟩
      rcases List.mem_cons.mp h1 with rfl | h1
      · left
        rw [h2]
        rfl
      · exact .inr ⟨x, h1, h2⟩
theorem st_get {its : List Item} {rs : List Nat} {i q : Nat} (h : rs[i]? = some q) : (stV its rs)[i]? = some (optV (startAt its q)) := by
  rw [List.getElem?_map, h]
  rfl
def stG (its : List Item) (q : Nat) : Nat := (startAt its q).getD 0
/-- where a read's start stands before the read before it -/
def badG (its : List Item) (rs : List Nat) (i : Nat) : Bool := decide (stG its (rs.getD (i + 1) 0) < rs.getD i 0)
theorem bad_bar {its : List Item} {rs : List Nat} (all : ∀ q ∈ rs, ∃ s, startAt its q = some s) : ((List.range (rs.length - 1)).filter (badG its rs)).isEmpty = true ↔ Barred its rs := by
  rw [bar_law, List.isEmpty_iff, List.filter_eq_nil_iff]
  constructor
  · intro h
    refine ⟨all, fun i q q2 s2 e1 e2 es => ?_⟩
    have hi : i + 1 < rs.length := (List.getElem?_eq_some_iff.mp e2).1
    have := h i (List.mem_range.mpr (by omega))
    unfold badG stG at this
    rw [List.getD_eq_getElem?_getD, List.getD_eq_getElem?_getD, e1, e2] at this
    simp only [Option.getD_some, es, decide_eq_true_eq] at this
    omega
  · rintro ⟨_, h⟩ i hi hb
    have hi := List.mem_range.mp hi
    obtain ⟨q, e1⟩ : ∃ q, rs[i]? = some q := ⟨_, List.getElem?_eq_getElem (by omega)⟩
    obtain ⟨q2, e2⟩ : ∃ q, rs[i + 1]? = some q := ⟨_, List.getElem?_eq_getElem (by omega)⟩
    obtain ⟨s, hs⟩ := all q2 (List.mem_of_getElem? e2)
    have := h i q q2 s e1 e2 hs
    unfold badG stG at hb
    rw [List.getD_eq_getElem?_getD, List.getD_eq_getElem?_getD, e1, e2] at hb
    simp only [Option.getD_some, hs, decide_eq_true_eq] at hb
    omega
theorem range_get {n i : Nat} (h : i < n) : (List.range n)[i]? = some i := by simp [h]
theorem bar_read {its : List Item} {rs : List Nat} (h : Barred its rs) {q : Nat} (hq : q ∈ rs) : isW its[q]? = false := by
  obtain ⟨s, hs⟩ := (bar_law.mp h).1 q hq
  obtain ⟨n, e, _⟩ := startAt_some.mp hs
  rw [e]
  rfl
/-- _law_accepts(sequence, thing) -/
def spAcc (K : PySem.W.Frag) : Sp := fun vs H Q _ => ∃ (a : Addr) (x : V) (xs : List V) (its : List Item) (t : Option (Option (List V) × Option (List V))), vs = [.ref a, x] ∧ SqL K H a xs ∧ SeqV K H xs its ∧ xs.length ≤ 1000 ∧
  TgA K H x t ∧ SmallT t ∧ ∀ b H', (b = true ↔ CkP its t) → Same H H' → Q (.bl b) H'
abbrev sAc : Stmt := top 22
def sAcN : List Str := ["_law_sequence_here", "_law_thing", "_law_pushes", "_law_reads", "_law_starts", "_law_at"]
theorem scAc : FnScope ["_law_sequence_here", "_law_thing", "_law_pushes", "_law_reads", "_law_starts", "_law_at"] ["_law_sequence_here", "_law_thing"] (defScope sAc) := ⟨rfl, rfl, rfl, by decide +kernel, rfl, by decide +kernel, by decide +kernel⟩
section
variable {P : Program} {w : World} {K : PySem.W.Frag} {mg : Str → Option Value} {base : Heap}
theorem ok_accepts {f : Addr} {fd : FuncData} (F : Fun K "_law_accepts" "_law_accepts" sAc f fd) (B : Bn mg) (C : Bq mg) (GR : DefAt P w K mg base 1 "_law_is_rows" ["_law_thing", "_law_size"] (spRows K)) (GV : DefAt P w K mg base 1 "_law_served" ["_law_sequence_here", "_law_pushes"] (spServed K)) (GF : DefAt P w K mg base 1 "_law_first_push" ["_law_sequence_here", "_law_at"] (spFirst K)) :
    FnOk P w K mg base CX0 2 f fd ["_law_sequence_here", "_law_thing"] (spAcc K) := by
  refine F.ok scAc (fun vs H Q E h => ?_) (fun cdv A outer s H vs Q E hr h => ?_)
  · obtain ⟨a, x, xs, its, t, rfl, _⟩ := h
    rfl
  · obtain ⟨a, x, xs, its, t, rfl, ho, sv, hl, ht, hsm, k⟩ := h
    have hu64 : _ + 64 < cLine := hr.units
    have hr1 : Room 1 _ := hr
    have hlen : xs.length = its.length := Paired.length sv
    refine ⟨_, (pss_cons (ps_if (PW.pt (pw_or (pt_not (pt_val (pe_callB call_isi (by rfl) B.isi PyProof.Rows.boot_isinstance (pa_cons (pv 1) (pa_cons (pe_bltn (v := .ty "tuple") (by rfl) B.tuple (by decide +kernel) rfl) pa_nil))))) (pw_or1 (pt_cmpR op_ne (pe_callB call_len_seq (by rfl) B.len PySem.boot_len (pa_cons (pv 1) pa_nil)) pe_int (nomark _))))) (pss_one (ps_ret pe_bl)) pss_nil)
          (pss_cons (ps_if (PW.pt (pw_or (pt_not (pt_val (pe_callD GR hr1 (pa_cons (pe_ix ix_tup (pv 1) pe_int (fun _ _ => rfl)) (pa_cons (pe_callB call_len_seq (by rfl) B.len PySem.boot_len (pa_cons (pv 0) pa_nil)) pa_nil))))) (pw_or1 (pt_not (pt_val (pe_callD GR hr1 (pa_cons (pe_ix ix_tup (pv 1) pe_int (fun _ _ => rfl)) (pa_cons (pe_callB call_len_seq (by rfl) B.len PySem.boot_len (pa_cons (pv 0) pa_nil)) pa_nil)))))))) (pss_one (ps_ret pe_bl)) pss_nil)
          (pss_cons (ps_asg (pv 1) (pg_tup rfl (pgs_cons (pg_name (i := 2) scAc.nd rfl (Or.inl rfl)) (pgs_cons (pg_name (i := 3) scAc.nd rfl (Or.inr rfl)) pgs_nil))))
          (pss_cons (ps_if (PW.pt (pw_or (pt_cmpR op_ne (pe_callB call_len_seq (by rfl) B.len PySem.boot_len (pa_cons (pv 2) pa_nil)) (pe_callB call_len_seq (by rfl) B.len PySem.boot_len (pa_cons (pv 3) pa_nil)) (nomark _)) (pw_or1 (pt_cmpR (op_neD hu64) (pe_lc (own := [("_law_at", 5)]) (g := gName 5) (tt := tTest (tOp (rNeD K) (tOp (rIxL K) (tVar 0) (tVar 5)) (tC (.str "write")))) (te := tVar 5) rfl scAc.nd (pi_tup (pv 2)) (blkOk_by (N := sAcN) (sc := defScope sAc) (by decide +kernel)) (fun _ _ _ _ _ => pg_name (i := 5) scAc.nd rfl (Or.inl rfl)) (fun _ _ _ _ _ => (pts_one (pt_cmpR (op_neD hu64) (pe_ix ix_list (pv 0) (pv 5) (fun _ _ => rfl)) pe_str (nomark _)))) (fun _ _ _ _ _ => (pv 5))) (pe_lst pa_nil) (nomark _))))) (pss_one (ps_ret pe_bl)) pss_nil)
          (pss_cons (ps_if (PW.pt (pw_or (pt_cmpR (op_neD hu64) (pe_lc (own := [("_law_at", 5)]) (g := gName 5) (tt := tTest (tOp (rEqD K) (tOp (rIxL K) (tVar 0) (tVar 5)) (tC (.str "write")))) (te := tVar 5) rfl scAc.nd (pi_tup (pv 3)) (blkOk_by (N := sAcN) (sc := defScope sAc) (by decide +kernel)) (fun _ _ _ _ _ => pg_name (i := 5) scAc.nd rfl (Or.inl rfl)) (fun _ _ _ _ _ => (pts_one (pt_cmpR (op_eqD hu64) (pe_ix ix_list (pv 0) (pv 5) (fun _ _ => rfl)) pe_str (nomark _)))) (fun _ _ _ _ _ => (pv 5))) (pe_lst pa_nil) (nomark _)) (pw_or1 (pt_not (pt_val (pe_callD GV hr1 (pa_cons (pv 0) (pa_cons (pv 2) pa_nil)))))))) (pss_one (ps_ret pe_bl)) pss_nil)
          (pss_cons (ps_set (i := 4) scAc.nd rfl (Or.inr rfl) (pe_lc (own := [("_law_at", 5)]) (g := gName 5) (tt := tYes) (te := tCall (spFirst K) [] E0 (tCons (tVar 0) (tCons (tVar 5) tNil))) rfl scAc.nd (pi_tup (pv 3)) (blkOk_by (N := sAcN) (sc := defScope sAc) (by decide +kernel)) (fun _ _ _ _ _ => pg_name (i := 5) scAc.nd rfl (Or.inl rfl)) (fun _ _ _ _ _ => pts_nil) (fun _ _ _ _ _ => (pe_callD GF hr1 (pa_cons (pv 0) (pa_cons (pv 5) pa_nil))))))
          (pss_cons (ps_if (pt_cmpR op_in_seq pe_non (pv 4) rfl) (pss_one (ps_ret pe_bl)) pss_nil)
          (pss_one (ps_ret (pe_cmpR (op_eqD hu64) (pe_lc (own := [("_law_at", 5)]) (g := gName 5) (tt := tTest (tOp (rI0 fun i j => V.bl (decide (i < j))) (tOp (rIxL K) (tVar 4) (tOp (rI0 fun i j => V.int (i + j)) (tVar 5) (tC (.int 1)))) (tOp (rIxT K) (tVar 3) (tVar 5)))) (te := tVar 5) rfl scAc.nd (pi_range1 (by rfl) B.range (pa_cons (pe_op op_sub (pe_callB call_len_seq (by rfl) B.len PySem.boot_len (pa_cons (pv 3) pa_nil)) pe_int) pa_nil)) (blkOk_by (N := sAcN) (sc := defScope sAc) (by decide +kernel)) (fun _ _ _ _ _ => pg_name (i := 5) scAc.nd rfl (Or.inl rfl)) (fun _ _ _ _ _ => (pts_one (pt_cmpR op_lt (pe_ix ix_list (pv 4) (pe_op op_add (pv 5) pe_int) (fun _ _ => rfl)) (pe_ix ix_tup (pv 3) (pv 5) (fun _ _ => rfl)) (nomark _)))) (fun _ _ _ _ _ => (pv 5))) (pe_lst pa_nil) (nomark _))))))))))), ?_⟩
    have no : ∀ {t : Option (Option (List V) × Option (List V))}, t = none → ¬ CkP its t := fun e h => by
      obtain ⟨_, _, e2, _⟩ := h
      rw [e] at e2
      cases e2
    cases ht with
    | non => exact ⟨_, rfl, _, _, _, _, false, rfl, .ty _, .base .non, kit_ty (by decide +kernel), _, rfl, iteT (k false _ ⟨(fun z => nomatch z), fun z => absurd z (no rfl)⟩ (Same.refl _))⟩
    | lst h => exact ⟨_, rfl, _, _, _, _, false, rfl, .ty _, tyx_lst h, kit_ty (by decide +kernel), _, rfl, iteT (k false _ ⟨(fun z => nomatch z), fun z => absurd z (no rfl)⟩ (Same.refl _))⟩
    | @tup r ys h z =>
      refine ⟨_, rfl, _, _, _, _, true, rfl, .ty _, tyx_tup h, kit_ty (by decide +kernel), _, rfl, iteF ?_⟩
      refine ⟨_, rfl, r, _, rfl, .inr h, rfl, _, rfl, ?_⟩
      rw [show (!decide (V.int (ys.length : Nat) = V.int 2)) = true by
        rw [decide_eq_false (fun e => z (by have := V.int.inj e; omega))]
        rfl]
      exact iteT (k false _ ⟨(fun z => nomatch z), fun z => absurd z (no rfl)⟩ (Same.refl _))
    | @pair r x y p q hR hx hy =>
    obtain ⟨sp, sq⟩ := hsm p q rfl
    refine ⟨_, rfl, _, _, _, _, true, rfl, .ty _, tyx_tup hR, kit_ty (by decide +kernel), _, rfl, iteF ?_⟩
    refine ⟨_, rfl, r, _, rfl, .inr hR, rfl, _, rfl, iteNS rfl ?_⟩
    -- the rows
    refine ⟨_, rfl, r, _, _, _, rfl, rfl, hR, atI_nat (j := 0) rfl, _, rfl, a, _, rfl, .inl ho, x, p, xs.length, rfl, hx, sp, fun b1 hb1 => ?_⟩
    cases b1 with
    | false =>
      refine ⟨_, rfl, iteT (k false _ ⟨(fun z => nomatch z), fun z => ?_⟩ (Same.refl _))⟩
      obtain ⟨ps, rs, e, h1, _⟩ := z
      obtain ⟨rfl, rfl⟩ := Prod.mk.inj (Option.some.inj e)
      exact hb1.mpr ⟨ps, rfl, by rw [hlen]; exact h1⟩
    | true =>
    refine ⟨_, rfl, iteF ?_⟩
    refine ⟨_, rfl, r, _, _, _, rfl, rfl, hR, atI_nat (j := 1) rfl, _, rfl, a, _, rfl, .inl ho, y, q, xs.length, rfl, hy, sq, fun b2 hb2 => ?_⟩
    cases b2 with
    | false =>
      refine ⟨_, rfl, iteT (k false _ ⟨(fun z => nomatch z), fun z => ?_⟩ (Same.refl _))⟩
      obtain ⟨ps, rs, e, _, h1, _⟩ := z
      obtain ⟨rfl, rfl⟩ := Prod.mk.inj (Option.some.inj e)
      exact hb2.mpr ⟨rs, rfl, by rw [hlen]; exact h1⟩
    | true =>
    refine ⟨_, rfl, iteF ?_⟩
    obtain ⟨ps, rfl, IP⟩ := hb1.mp rfl
    obtain ⟨rs, rfl, IR⟩ := hb2.mp rfl
    rw [hlen] at IP IR
    clear hb1 hb2
    replace sp := sp _ rfl
    replace sq := sq _ rfl
    rw [List.length_map] at sp sq
    obtain ⟨pa, rfl, hP⟩ : ∃ pa, x = .ref pa ∧ SqT K H pa (natV ps) := by
      cases hx with
      | tup h _ => exact ⟨_, rfl, h⟩
    obtain ⟨ra, rfl, hA⟩ : ∃ ra, y = .ref ra ∧ SqT K H ra (natV rs) := by
      cases hy with
      | tup h _ => exact ⟨_, rfl, h⟩
    refine ⟨_, rfl, r, _, rfl, hR, rfl, _, _, rfl, _, _, rfl, rfl, ?_⟩
    have hlN : ∀ ns : List Nat, (natV ns).length = ns.length := fun ns => List.length_map _
    refine ⟨_, rfl, pa, _, rfl, .inr hP, _, rfl, ra, _, rfl, .inr hA, rfl, _, rfl, ?_⟩
    by_cases hfe : ps.length = rs.length
    case neg =>
      rw [show (!decide (V.int ((natV ps).length : Nat) = V.int ((natV rs).length : Nat))) = true by
        rw [decide_eq_false (fun e => hfe (by have := V.int.inj e; rw [hlN, hlN] at this; omega))]
        rfl]
      exact iteT (k false _ ⟨(fun z => nomatch z), fun z => absurd z.inv.1 hfe⟩ (Same.refl _))
    rw [show (natV ps).length = (natV rs).length by rw [hlN, hlN]; exact hfe]
    refine iteNS rfl ?_
    -- the pushes are writes
    refine ⟨_, rfl, pa, rfl, ⟨_, hP⟩, fun D hD => ?_⟩
    refine lc_tup (K := K) (a := pa) (xs := natV ps) (fun i H4 => Same H H4 ∧ H4 D = some (.lst (natV ((ps.take i).filter fun n => !isW its[n]?)))) ⟨Same.upd hD, upd_same⟩ (fun i H4 _ z => sqt_same z.1 hP) ?_ ?_
    · rintro i x H4 hx ⟨S4, lD⟩
      obtain ⟨n, rfl, hn⟩ := natV_at hx
      have hnl := IP.lt n (List.mem_of_getElem? hn)
      obtain ⟨x, it, e1, e2, hit⟩ := getI (sv.mono S4) (i := n) (by omega)
      obtain ⟨d, hd, hsh, heq⟩ := eqW hit
      refine ⟨rfl, ?_⟩
      refine ⟨_, rfl, _, rfl, a, _, _, _, rfl, rfl, S4.seq ho, atI_nat e1, d, _, hd, .str _, hsh, okWrite, _, rfl, ?_⟩
      rw [heq, filt_succ hn, ← e2]
      cases hw : isW its[n]? with
      | true =>
        refine iteF ⟨S4, ?_⟩
        rw [show (if (!true) = true then [n] else []) = ([] : List Nat) from rfl, List.append_nil]
        exact lD
      | false =>
        refine iteT ⟨_, rfl, _, lD, ?_, EX.Same.updN S4 hD, ?_⟩
        · rw [hlN, sizeLine_eq]
          have := filt_len (fun n => !isW its[n]?) ps i
          omega
        · rw [upd_same, natV_app]
          rfl
    rintro H1 ⟨S1, lD⟩
    rw [hlN, List.take_length] at lD
    refine ⟨by show 0 ≤ sizeLine; decide, fun e he => ?_⟩
    have s2 : Same H1 (upd H1 e (.lst [])) := Same.upd he
    have le : upd H1 e (HO.lst []) e = some (.lst []) := upd_same
    generalize upd H1 e (HO.lst []) = H2 at s2 le ⊢
    refine ⟨_, _, .lst (SqL.of (s2 _ _ lD)) (dp_N _), .lst (SqL.of le) .nil, shaped_dN _, rfl, _, rfl, ?_⟩
    rw [eqv_nil]
    have S2 := Same.trans S1 s2
    clear lD le s2 hD he S1
    cases hw : (dN (ps.filter fun n => !isW its[n]?)).isEmpty with
    | false =>
      refine iteT (k false _ ⟨(fun z => nomatch z), fun z => ?_⟩ S2)
      have : ps.filter (fun n => !isW its[n]?) = [] := by
        rw [List.filter_eq_nil_iff]
        intro n hn
        rw [z.inv.2.1 n hn]
        simp [isW]
      rw [this] at hw
      cases hw
    | true =>
    have hws : ∀ n ∈ ps, its[n]? = some .w := fun n hn => by
      have h0 : ps.filter (fun n => !isW its[n]?) = [] := by
        cases z : ps.filter (fun n => !isW its[n]?) with
        | nil => rfl
        | cons y l => rw [z] at hw; cases hw
      have := List.filter_eq_nil_iff.mp h0 n hn
      exact isW_eq (by simpa using this)
    refine iteF ?_
    replace ho := S2.seq ho
    replace sv := sv.mono S2
    replace hP := sqt_same S2 hP
    replace hA := sqt_same S2 hA
    -- the reads are none
    refine ⟨_, rfl, ra, rfl, ⟨_, hA⟩, fun D hD => ?_⟩
    refine lc_tup (K := K) (a := ra) (xs := natV rs) (fun i H4 => Same H2 H4 ∧ H4 D = some (.lst (natV ((rs.take i).filter fun n => isW its[n]?)))) ⟨Same.upd hD, upd_same⟩ (fun i H4 _ z => sqt_same z.1 hA) ?_ ?_
    · rintro i x H4 hx ⟨S4, lD⟩
      obtain ⟨n, rfl, hn⟩ := natV_at hx
      have hnl := IR.lt n (List.mem_of_getElem? hn)
      obtain ⟨x, it, e1, e2, hit⟩ := getI (sv.mono S4) (i := n) (by omega)
      obtain ⟨d, hd, hsh, heq⟩ := eqW hit
      refine ⟨rfl, ?_⟩
      refine ⟨_, rfl, _, rfl, a, _, _, _, rfl, rfl, S4.seq ho, atI_nat e1, d, _, hd, .str _, hsh, okWrite, _, rfl, ?_⟩
      rw [heq, filt_succ hn, ← e2]
      cases hw : isW its[n]? with
      | false =>
        refine iteF ⟨S4, ?_⟩
        rw [show (if false = true then [n] else []) = ([] : List Nat) from rfl, List.append_nil]
        exact lD
      | true =>
        refine iteT ⟨_, rfl, _, lD, ?_, EX.Same.updN S4 hD, ?_⟩
        · rw [hlN, sizeLine_eq]
          have := filt_len (fun n => isW its[n]?) rs i
          omega
        · rw [upd_same, natV_app]
          rfl
    rintro H3 ⟨S3, lD⟩
    rw [hlN, List.take_length] at lD
    refine ⟨by show 0 ≤ sizeLine; decide, fun e he => ?_⟩
    have s2 : Same H3 (upd H3 e (.lst [])) := Same.upd he
    have le : upd H3 e (HO.lst []) e = some (.lst []) := upd_same
    generalize upd H3 e (HO.lst []) = H4 at s2 le ⊢
    refine ⟨_, _, .lst (SqL.of (s2 _ _ lD)) (dp_N _), .lst (SqL.of le) .nil, shaped_dN _, rfl, _, rfl, ?_⟩
    rw [eqv_nil]
    have S24 := Same.trans S3 s2
    have S4 := Same.trans S2 S24
    clear lD le s2 hD he S3
    cases hw2 : (dN (rs.filter fun n => isW its[n]?)).isEmpty with
    | false =>
      refine iteT (k false _ ⟨(fun z => nomatch z), fun z => ?_⟩ S4)
      have : rs.filter (fun n => isW its[n]?) = [] := by
        rw [List.filter_eq_nil_iff]
        intro n hn
        rw [bar_read z.inv.2.2.1 hn]
        exact fun z => nomatch z
      rw [this] at hw2
      cases hw2
    | true =>
    have hrd : ∀ q ∈ rs, ∃ n, its[q]? = some (.r n) := fun q hq => by
      have h0 : rs.filter (fun n => isW its[n]?) = [] := by
        cases z : rs.filter (fun n => isW its[n]?) with
        | nil => rfl
        | cons y l => rw [z] at hw2; cases hw2
      have h1 := List.filter_eq_nil_iff.mp h0 q hq
      have h2 := IR.lt q hq
      cases z : its[q]? with
      | none =>
        rw [List.getElem?_eq_none_iff] at z
        omega
      | some it =>
        cases it with
        | w => rw [z] at h1; exact absurd rfl h1
        | r n => exact ⟨n, rfl⟩
    refine iteF ?_
    replace ho := S24.seq ho
    replace sv := sv.mono S24
    replace hP := sqt_same S24 hP
    replace hA := sqt_same S24 hA
    -- served
    refine ⟨_, rfl, _, rfl, a, pa, xs, its, ps, rfl, ho, sv, .inr hP, hl, ?_⟩
    cases hsv : served its ps with
    | false => exact ⟨_, rfl, iteT (k false _ ⟨(fun z => nomatch z), fun z => by rw [z.inv.2.2.2] at hsv; cases hsv⟩ S4)⟩
    | true =>
    refine ⟨_, rfl, iteF ?_⟩
    -- the starts
    refine ⟨_, rfl, ra, rfl, ⟨_, hA⟩, fun D hD => ?_⟩
    refine lc_tup (K := K) (a := ra) (xs := natV rs) (fun i H5 => Same H4 H5 ∧ H5 D = some (.lst (stV its (rs.take i)))) ⟨Same.upd hD, upd_same⟩ (fun i H5 _ z => sqt_same z.1 hA) ?_ ?_
    · rintro i x H5 hx ⟨S5, lD⟩
      obtain ⟨q, rfl, hq⟩ := natV_at hx
      obtain ⟨n, hn⟩ := hrd q (List.mem_of_getElem? hq)
      refine ⟨rfl, ?_⟩
      refine ⟨_, rfl, _, rfl, a, q, n, xs, its, rfl, S5.seq ho, sv.mono S5, hl, hn, fun H6 s6 => ?_⟩
      refine ⟨_, s6 _ _ lD, ?_, EX.Same.updN (Same.trans S5 s6) hD, ?_⟩
      · rw [List.length_map, List.length_take, sizeLine_eq]
        omega
      · rw [upd_same, List.take_add_one, hq]
        unfold stV
        rw [List.map_append]
        have : startAt its q = wstart its q n := by
          unfold startAt
          rw [hn]
          rfl
        rw [show (some q).toList = [q] from rfl, List.map_cons, this]
        rfl
    rintro H5 ⟨S5, lD⟩
    rw [hlN, List.take_length] at lD
    refine ⟨_, rfl, D, stV its rs, rfl, .inl (SqL.of lD), rfl, flat_st its rs, _, rfl, ?_⟩
    rw [if_neg Bool.false_ne_true]
    have S05 := Same.trans S4 S5
    cases hnn : inV .non (stV its rs) with
    | true =>
      refine iteT (k false _ ⟨(fun z => nomatch z), fun z => ?_⟩ S05)
      obtain ⟨q, hq, e⟩ := (none_st its rs).mp hnn
      obtain ⟨s, hs⟩ := (bar_law.mp z.inv.2.2.1).1 q hq
      rw [e] at hs
      cases hs
    | false =>
    refine iteF ?_
    have hall : ∀ q ∈ rs, ∃ s, startAt its q = some s := fun q hq => by
      cases z : startAt its q with
      | some s => exact ⟨s, rfl⟩
      | none =>
        rw [(none_st its rs).mpr ⟨q, hq, z⟩] at hnn
        cases hnn
    replace hA := sqt_same S5 hA
    refine ⟨_, rfl, ra, _, rfl, .inr hA, _, _, rfl, rfl, _, rfl, by rw [hlN]; omega, by rw [hlN]; omega, fun D3 hD3 => ?_⟩
    refine lc_range (lo := 0) (n := (((natV rs).length : Int) - 1).toNat) (fun i H7 => Same H5 H7 ∧ H7 D3 = some (.lst (natV (((List.range (rs.length - 1)).take i).filter (badG its rs))))) ⟨Same.upd hD3, upd_same⟩ ?_ ?_
    · rintro i H7 hi ⟨S7, lD3⟩
      rw [hlN] at hi
      have hi' : i + 1 < rs.length := by omega
      obtain ⟨q2, hq2⟩ : ∃ q, rs[i + 1]? = some q := ⟨_, List.getElem?_eq_getElem (by omega)⟩
      obtain ⟨q, hq⟩ : ∃ q, rs[i]? = some q := ⟨_, List.getElem?_eq_getElem (by omega)⟩
      obtain ⟨s2, hs2⟩ := hall q2 (List.mem_of_getElem? hq2)
      have g1 : atI (stV its rs) (0 + (i : Int) + 1) = some (.int (s2 : Int)) := by
        have : 0 + (i : Int) + 1 = ((i + 1 : Nat) : Int) := by omega
        rw [this]
        have := st_get (its := its) hq2
        rw [hs2] at this
        exact atI_nat this
      have g2 : atI (natV rs) (0 + (i : Int)) = some (.int (q : Int)) := by
        rw [Int.zero_add]
        exact atI_nat (natV_get hq)
      have hb : badG its rs i = decide (s2 < q) := by
        unfold badG stG
        rw [List.getD_eq_getElem?_getD, List.getD_eq_getElem?_getD, hq, hq2]
        simp only [Option.getD_some, hs2]
      refine ⟨rfl, ?_⟩
      refine ⟨_, rfl, _, rfl, _, _, rfl, rfl, D, _, _, _, rfl, rfl, SqL.of (S7 _ _ lD), g1, _, rfl, _, rfl, ra, _, _, _, rfl, rfl, sqt_same S7 hA, g2, _, _, rfl, rfl, _, rfl, ?_⟩
      rw [show decide ((s2 : Int) < (q : Int)) = decide (s2 < q) from decide_eq_decide.mpr (by omega), ← hb, filt_succ (range_get (show i < rs.length - 1 by omega))]
      cases hbb : badG its rs i with
      | false =>
        refine iteF ⟨S7, ?_⟩
        rw [show (if false = true then [i] else []) = ([] : List Nat) from rfl, List.append_nil]
        exact lD3
      | true =>
        refine iteT ⟨_, rfl, _, lD3, ?_, EX.Same.updN S7 hD3, ?_⟩
        · rw [hlN, sizeLine_eq]
          have := filt_len (badG its rs) (List.range (rs.length - 1)) i
          rw [List.length_range] at this
          omega
        · rw [upd_same, natV_app, Int.zero_add]
          rfl
    rintro H7 ⟨S7, lD3⟩
    rw [hlN, show ((rs.length : Int) - 1).toNat = rs.length - 1 by omega, List.take_of_length_le (by rw [List.length_range]; omega)] at lD3
    refine ⟨by show 0 ≤ sizeLine; decide, fun e he => ?_⟩
    have s6 : Same H7 (upd H7 e (.lst [])) := Same.upd he
    have le : upd H7 e (HO.lst []) e = some (.lst []) := upd_same
    refine ⟨_, _, .lst (SqL.of (s6 _ _ lD3)) (dp_N _), .lst (SqL.of le) .nil, shaped_dN _, rfl, ?_⟩
    rw [eqv_nil]
    refine k _ _ ?_ (Same.trans S05 (Same.trans S7 s6))
    have em : (dN ((List.range (rs.length - 1)).filter (badG its rs))).isEmpty = ((List.range (rs.length - 1)).filter (badG its rs)).isEmpty := by
      cases (List.range (rs.length - 1)).filter (badG its rs) <;> rfl
    rw [em, bad_bar hall]
    exact ⟨fun z => ⟨ps, rs, rfl, IP, IR, hfe, hws, z, hsv⟩, fun z => z.inv.2.2.1⟩
end
end K73
set_option Elab.async false
set_option linter.all false
set_option maxRecDepth 100000
set_option maxHeartbeats 4000000
/-! a tuple's [::-1] -/
namespace EX
open PySem L2 PySem.Spec PyProof.Rows HT
section
variable {prog : Program} {w : World} {A : Around} {E : Value → Shared → Prop} {s : Shared}
theorem adjust_rev (n : Nat) : Builtin.Slice.sliceAdjust none none (-1) (n : Int) = ((n : Int) - 1, -1) := by
  unfold Builtin.Slice.sliceAdjust
  simp
theorem places_rev (n : Nat) : Builtin.Slice.slicePlaces ((n : Int) - 1) (-1) (-1) = n := by
  unfold Builtin.Slice.slicePlaces
  have h1 : ¬ ((-1 : Int) > 0) := by omega
  simp only [h1, if_false, Int.neg_neg, Int.ediv_one]
  split <;> omega
theorem pick_rev (xs : Array Value) : ((List.range xs.size).filterMap fun (m : Nat) => xs[((xs.size : Int) - 1 + (m : Int) * -1).toNat]?).toArray = xs.toList.reverse.toArray := by
  have e : (fun (m : Nat) => xs[((xs.size : Int) - 1 + (m : Int) * -1).toNat]?) = (fun i => xs[i]?) ∘ fun m => xs.size - 1 - m := by
    funext m
    have : ((xs.size : Int) - 1 + (m : Int) * -1).toNat = xs.size - 1 - m := by omega
    show xs[_]? = xs[_]?
    rw [this]
  rw [e, ← List.filterMap_map, PySem.W.krv_range, List.filterMap_reverse, PySem.W.krv_all]
theorem sliceApplied_rev {sl : Addr} {vs : Value} {n : Nat} {Q : Int × Int × Nat → Shared → Prop} (hs : s.heap.IsSliceOf sl .none .none vs) (ps : IsPart vs (some (-1)))
    (h : Q ((n : Int) - 1, -1, n) s) : wpAny (model prog w) A (Builtin.Slice.sliceApplied (.ref sl) (pure (n : Int))) Q E s := by
  obtain ⟨os, hos, hcs, hds⟩ := id hs
  unfold Builtin.Slice.sliceApplied Builtin.Slice.sliceFields
  refine wpAny_bind (wpAny_bind (wpAny_field hos hds (x := .none) rfl (wpAny_bind (wpAny_field hos hds (x := .none) rfl (wpAny_bind (wpAny_field hos hds (x := vs) rfl (wpAny_pure ?_)))))))
  refine wpAny_bind (slicePart_ ps ?_)
  show wpAny _ _ (if ((-1 : Int) == 0) = true then _ else _) _ _ s
  rw [if_neg (by decide)]
  refine wpAny_bind (slicePart_none (wpAny_bind (slicePart_none (wpAny_bind (wpAny_pure ?_)))))
  show wpAny _ _ (match Builtin.Slice.sliceAdjust none none (-1) (n : Int) with | (lo, hi) => pure (lo, (-1 : Int), Builtin.Slice.slicePlaces lo hi (-1))) _ _ s
  rw [adjust_rev n]
  show wpAny _ _ (pure ((n : Int) - 1, (-1 : Int), Builtin.Slice.slicePlaces ((n : Int) - 1) (-1) (-1))) _ _ s
  rw [places_rev]
  exact wpAny_pure h
theorem getItem_tuple_rev {t sl : Addr} {items : Array Value} {vs : Value} {Q : Value → Shared → Prop} (ht : IsTup s.heap t items) (hs : s.heap.IsSliceOf sl .none .none vs) (ps : IsPart vs (some (-1)))
    (h : Q (.ref s.heap.objs.size) { s with heap := s.heap.push { cls := .type "tuple", data := .seq items.toList.reverse.toArray } })
    (hsz : items.size ≤ sizeLine) : wpAny (model prog w) A (getItem (.ref t) (.ref sl)) Q E s := by
  have htake : sizeOk (.seq items.toList.reverse.toArray) := by
    show items.toList.reverse.toArray.size ≤ sizeLine
    rw [List.size_toArray, List.length_reverse, Array.length_toList]
    exact hsz
  obtain ⟨os, hos, hcs, hds⟩ := id hs
  have hTs : s.TypeIs (.ref sl) "slice" := ⟨os, hos, hcs⟩
  unfold getItem
  try with_reducible refine wpAny_holding ?_
  first | refine wpAny_bind (wpAny_pure ?_) | skip
  refine wpAny_bind (wpAny_sequenceKey ht.typeIs (by decide) ?_)
  refine wpAny_bind (wpAny_callSpecial?_slot (name := Str.ofString "__getitem__") ht.typeIs PyProof.Rows.slot_tuple_getitem
    (wpAny_call_entry PyProof.Rows.slot_tuple_getitem ht.typeIs entry_tuple_getitem ?_ (args_tuple_getitem _ _)))
  show wpAny _ _ (Builtin.Tuple.tupleItemsOf (.ref t) >>= _) _ _ s
  refine wpAny_bind (tupleItemsOf_ ht ?_)
  refine wpAny_bind (wpAny_typeOf hTs ?_)
  rw [if_pos (by decide)]
  refine wpAny_bind (sliceApplied_rev (n := items.size) hs ps ?_)
  show wpAny _ _ (if (((items.size : Int) - 1) == 0 && (-1 : Int) == 1 && items.size == items.size) = true then _ else _) _ _ s
  rw [if_neg (by simp), pick_rev]
  first
    | exact wpAny_bind (m := Builtin.Tuple.tupleExact _) (wpAny_newObj_type (wpAny_pure ⟨_, rfl, wpAny_pure h⟩) htake)
    | exact wpAny_bind (m := Builtin.Tuple.tupleExact _) (wpAny_newObj_type (wpAny_bind (wpAny_pure (wpAny_pure ⟨_, rfl, wpAny_pure h⟩))) htake)
    | exact wpAny_bind (wpAny_bind (m := Builtin.Tuple.tupleExact _) (wpAny_newObj_type (wpAny_pure (wpAny_pure ⟨_, rfl, wpAny_pure h⟩)) htake))
    | exact wpAny_bind (wpAny_bind (m := Builtin.Tuple.tupleExact _) (wpAny_newObj_type (wpAny_pure ⟨_, rfl, wpAny_pure h⟩) htake))
end
def tRevT (K : PySem.W.Frag) (te : TE) : TE := fun σ H Q => te σ H fun x H1 => ∃ a xs, x = .ref a ∧ SqT K H1 a xs ∧ ∀ p, H1 p = none → Q (.ref p) (upd H1 p (.tup xs.reverse))
theorem pe_revT {X : Cx} {e : Expr} {te : TE} {k : Nat} {p1 p2 p3 pos : Pos} (he : PE X e te) : PE X (.Subscript e (.Slice none none (some (.UnaryOp .USub (.Constant (.int 1) k p1) p2)) p3) pos) (tRevT X.K te) := by
  refine ⟨fun pins s σ H Q I h => ?_⟩
  refine Subscript_ (thn (he.run pins s σ H _ I h) fun v s1 ⟨x, H1, I1, r1, q1⟩ => ?_)
  obtain ⟨a, xs, ex, hx, q⟩ := q1
  subst ex
  cases r1
  have hst : PO X (some (.UnaryOp .USub (.Constant (.int 1) k p1) p2)) (tPart (tUn (rU fun i => .int (-i)) (tC (.int 1)))) := po_some (pe_un un_neg pe_int)
  refine wpAny_Slice ?_
  rw [evalPart_none]
  refine wpAny_pure ?_
  refine wpAny_pure ?_
  refine thn (hst.run pins s1 σ H1 (fun o H4 => o = some (-1) ∧ H4 = H1) I1 ⟨1, rfl, -1, rfl, rfl, rfl⟩) fun vs s4 ⟨o, H4, I4, ps, eo, e4⟩ => ?_
  subst eo e4
  have I5 : Inv X pins σ H4 { s4 with heap := s4.heap.push { cls := .type "slice", data := .fields #[.none, .none, vs] } } := I4.kept (t' := s4.toks) fun b ob q => Heap.get?_push_of_some _ q
  obtain ⟨its, r, ht, hz⟩ := I5.tuple hx
  have hlen := r.length
  show wpAny (model X.prog X.w) X.A (subscriptTail e (.Slice none none (some (.UnaryOp .USub (.Constant (.int 1) k p1) p2)) p3) (.ref a) (.ref s4.heap.objs.size)) (EP X pins σ Q) X.xe { s4 with heap := s4.heap.push { cls := .type "slice", data := .fields #[.none, .none, vs] } }
  refine tail_any (ops := [.ref a, .ref s4.heap.objs.size]) ht.typeIs (PyProof.Rows.slot_tuple_getitem.lookup) ?_ (by with_unfolding_all rfl)
  refine getItem_tuple_rev ht (Heap.IsSliceOf.new _ .none .none vs) ps ?_ (by rw [List.size_toArray]; omega)
  refine ⟨.ref _, _, I5.laid (t' := s4.toks) (o := .tup xs.reverse) (fun b ob q => Heap.get?_push_of_some _ q) (Nat.le_refl _) ?_, rfl, q _ (I5.hok.fresh (Nat.le_refl _))⟩
  exact ⟨by rw [List.length_reverse]; omega, _, r.reverse, IsTup.new _ _⟩
end EX
set_option Elab.async false
set_option linter.all false
set_option maxRecDepth 100000
set_option maxHeartbeats 4000000
namespace EX
open PySem L2 PySem.Spec PyProof.Rows
/-! ### several new objects at once -/
theorem mem_lk {β : Type} : ∀ {l : List (Addr × β)} {a : Addr} {b : β}, l.lookup a = some b → (a, b) ∈ l
  | [], a, b, h => by simp at h
  | (x, y) :: t, a, b, h => by
    rw [List.lookup_cons] at h
    by_cases e : (a == x) = true
    · rw [e] at h
      rw [beq_iff_eq.mp e, Option.some.inj h]
      exact List.mem_cons_self ..
    · rw [show (a == x) = false by simpa using e] at h
      exact List.mem_cons_of_mem _ (mem_lk h)
def manyH (H : Hp) (N : List (Addr × HO)) : Hp := fun b => match N.lookup b with
  | some o => some o
  | none => H b
theorem manyH_some {H : Hp} {N : List (Addr × HO)} {b : Addr} {o : HO} (h : N.lookup b = some o) : manyH H N b = some o := by
  unfold manyH
  rw [h]
theorem manyH_none {H : Hp} {N : List (Addr × HO)} {b : Addr} (h : N.lookup b = none) : manyH H N b = H b := by
  unfold manyH
  rw [h]
section
variable {X : Cx} {pins : List (Addr × Obj)} {σ : L2.St} {H : Hp} {s : Shared} {h' : Heap}
theorem lookup_new {N : List (Addr × HO)} (hp : ∀ p ∈ N, s.heap.objs.size ≤ p.1) {b : Addr} (hb : b < s.heap.objs.size) : N.lookup b = none := by
  cases q : N.lookup b with
  | none => rfl
  | some o => exact absurd (Nat.lt_of_lt_of_le hb (hp (b, o) (mem_lk q))) (Nat.lt_irrefl _)
theorem same_many {N : List (Addr × HO)} (I : Inv X pins σ H s) (hp : ∀ p ∈ N, s.heap.objs.size ≤ p.1) : Same H (manyH H N) := fun b o e => by
  rw [manyH_none (lookup_new hp ?_)]
  · exact e
  · rcases Nat.lt_or_ge b s.heap.objs.size with h | h
    · exact h
    · rw [I.hok.fresh h] at e
      cases e
theorem laidN {N : List (Addr × HO)} {t' : Nat} (I : Inv X pins σ H s) (k : ∀ b u, s.heap.get? b = some u → h'.get? b = some u) (hp : ∀ p ∈ N, s.heap.objs.size ≤ p.1) (new : ∀ p ∈ N, ObjOk X.prog X.w (manyH H N) h' p.1 p.2) :
    Inv X pins σ (manyH H N) { s with heap := h', toks := t' } := by
  have sm := same_many I hp
  have at_ : ∀ {b u}, s.heap.get? b = some u → manyH H N b = H b := fun {b u} e => manyH_none (lookup_new hp (Heap.lt_size e))
  refine I.un ⟨fun b u q _ _ _ => k b u q, fun b u q _ _ _ => ⟨u.slots, k b u q⟩, fun b u q n _ => by rw [at_ q]; exact n, fun b u q _ => ⟨u, k b u q⟩, fun b xs q => sm _ _ q, fun b u xs q => sm _ _ q, fun b ps q => ⟨#[], by rw [sm _ _ q]; simp⟩⟩ ?_
  intro b u e
  cases q : N.lookup b with
  | some o =>
    rw [manyH_some q] at e
    cases e
    exact new (b, _) (mem_lk q)
  | none =>
    rw [manyH_none q] at e
    exact (I.hok b u e).stay (fun c v _ q => k c v q) (fun c q => sm _ _ q) fun c xs q => sm _ _ q
end
/-! ### d.items(), list(d.items()) -/
/-- the view of d's pairs -/
def itvO (v d : Addr) : HO := .ext fun h => h.get? v = some { cls := .type "dict_items", data := .fields #[.ref d] }
def rItems : V → List V → Hp → VK → Prop := fun x xs H Q => ∃ (d : Addr) (kvs : List (Key × V)), x = .ref d ∧ xs = [] ∧ H d = some (.dK kvs) ∧ ∀ v, H v = none → Q (.ref v) (upd H v (itvO v d))
theorem mt_items {X : Cx} : MtR X "dict.items" rItems := by
  intro pins s σ H x xs v us Q I rx rv h
  obtain ⟨a, kvs, ex, ev, e, q⟩ := h
  subst ex
  subst ev
  obtain rfl : v = Value.ref a := rx
  have hus := rv.zero
  subst hus
  obtain ⟨z, lo, vs, rk, dd⟩ := (show ObjOk X.prog X.w H s.heap a (.dK kvs) from I.hok a _ e)
  have hT : s.TypeIs (.ref a) "dict" := by
    obtain ⟨ep, hat⟩ := dd.dictAt
    exact hat.dictOf.typeIs
  refine call_meetsIn PySem.F.slot_dict_items hT PySem.F.entry_dict_items (PySem.F.args_dict_items_1 _) (meets_dict_items (mixKind X.prog X.w) a lo) ⟨⟨vs, dd⟩, ?_⟩
  have J := I.laid (t' := s.toks) (a := s.heap.objs.size) (o := itvO s.heap.objs.size a) (h' := s.heap.push { cls := .type "dict_items", data := .fields #[.ref a] }) (fun b u e => Heap.get?_push_of_some _ e) (Nat.le_refl _)
    ⟨Heap.get?_push_size _ rfl, ⟨_, Heap.get?_push_size _ rfl⟩, fun h1 h2 q k => k _ q⟩
  exact ⟨.ref s.heap.objs.size, _, J, rfl, q _ (I.hok.fresh (Nat.le_refl _))⟩
def rListI : List V → Hp → VK → Prop := fun xs H Q => ∃ (v d : Addr) (kvs : List (Key × V)), xs = [.ref v] ∧ H v = some (itvO v d) ∧ H d = some (.dK kvs) ∧
  ∀ (l : Addr) (ts : List Addr) (H' : Hp), Same H H' → H l = none → H' l = some (.lst (ts.map V.ref)) → Paired (fun (t : Addr) (kv : Key × V) => H' t = some (.tup [kV kv.1, kv.2])) ts kvs → Q (.ref l) H'
theorem pairs_at {X : Cx} {h' : Heap} : ∀ {kvs : List (Key × V)} {vs : List (Key × Value)} {es : List DictEntry}, KV kvs vs → Pairs (mixKind X.prog X.w) es vs →
    ∀ {as : List Addr}, as.length = es.length → (∀ (j : Nat) (a : Addr) (e : DictEntry), as[j]? = some a → es[j]? = some e → h'.get? a = some { cls := .type "tuple", data := .seq #[e.key, e.val] }) →
    Paired (fun (a : Addr) (kv : Key × V) => ∀ H', ObjOk X.prog X.w H' h' a (.tup [kV kv.1, kv.2])) as kvs
  | _, _, _, .nil, .nil, as, hl, _ => by
    cases as with
    | nil => exact .nil
    | cons a t => simp at hl
  | _, _, _, .cons hk t, .cons (e := e) h1 h2 te, as, hl, g => by
    cases as with
    | nil => simp at hl
    | cons a as =>
      refine .cons (fun H' => ?_) (pairs_at t te (by simpa using hl) fun j a' e' h1 h2 => g (j + 1) a' e' (by simpa using h1) (by simpa using h2))
      have ho := g 0 a e rfl rfl
      refine ⟨by show 2 ≤ sizeLine; decide, [e.key, e.val], .cons ?_ (.cons ?_ .nil), _, ho, rfl, ?_⟩
      · exact keyIs_rel (by rw [hk.1]; exact h1)
      · rw [h2]
        exact hk.2
      · exact ⟨_, rfl⟩
theorem paired_zip {α β : Type} {F : α → β → Prop} : ∀ {l : List α} {m : List β}, Paired F l m → ∀ p ∈ l.zip m, F p.1 p.2
  | _, _, .nil, p, h => by simp at h
  | _, _, .cons a t, p, h => by
    rcases List.mem_cons.mp (show p ∈ _ :: _ from h) with e | e
    · rw [e]
      exact a
    · exact paired_zip t p e
theorem lookup_zip {β : Type} : ∀ {l : List Addr} {m : List β}, l.Nodup → l.length = m.length → Paired (fun (a : Addr) (b : β) => (l.zip m).lookup a = some b) l m
  | [], [], _, _ => .nil
  | a :: l, b :: m, hn, hl => by
    rw [List.nodup_cons] at hn
    have ih := lookup_zip (l := l) (m := m) hn.2 (by simpa using hl)
    refine .cons (by simp [List.lookup]) ?_
    have : ∀ {l' : List Addr} {m' : List β}, (∀ x ∈ l', x ≠ a) → Paired (fun (x : Addr) (y : β) => (l.zip m).lookup x = some y) l' m' → Paired (fun (x : Addr) (y : β) => ((a :: l).zip (b :: m)).lookup x = some y) l' m' := by
      intro l' m' hne p
      induction p with
      | nil => exact .nil
      | cons e t iht =>
        rename_i x y xs ys
        refine .cons ?_ (iht fun z hz => hne z (List.mem_cons_of_mem _ hz))
        have hx : x ≠ a := hne x (List.mem_cons_self ..)
        show List.lookup x ((a, b) :: l.zip m) = some y
        rw [List.lookup_cons, show (x == a) = false from beq_eq_false_iff_ne.mpr hx]
        exact e
    exact this (fun x hx z => hn.1 (z ▸ hx)) ih
theorem cr_listItems {X : Cx} (hc : X.calm = true) : CallR X (.type "list") rListI := by
  intro pins s σ H xs us Q I r h
  obtain ⟨v, d, kvs, rfl, ev, ed, q⟩ := h
  obtain ⟨u, rfl, ru⟩ := vals1 r
  obtain rfl : u = Value.ref v := ru
  obtain ⟨hv, _, _⟩ := I.hok v _ ev
  have hv : s.heap.get? v = some { cls := .type "dict_items", data := .fields #[.ref d] } := hv
  obtain ⟨hz, lo, vs, kv, o, es, ep, ho, hx, hd, hsz, hp, _⟩ := (show ObjOk X.prog X.w H s.heap d (.dK kvs) from I.hok d _ ed)
  have hl1 : kvs.length = vs.length := Paired.length kv
  have hl2 : es.toList.length = vs.length := Pairs.length hp
  have hes : es.size = kvs.length := by rw [← Array.length_toList, hl2, hl1]
  refine PySem.W.dil_call (I.ok.hd hc) ⟨_, hv, rfl, rfl⟩ ⟨o, ho, hx, hd⟩ (by rw [hes]; exact hz) fun h' tk acc c as k hS hlen G hacc => ?_
  have hal : as.length = kvs.length := by rw [hlen, hes]
  have PA : Paired (fun (a : Addr) (kv : Key × V) => ∀ H', ObjOk X.prog X.w H' h' a (.tup [kV kv.1, kv.2])) as kvs := pairs_at kv hp (by rw [hal, ← hes, Array.length_toList]) fun j a e h1 h2 => by
    obtain ⟨hj, e3⟩ := G.pairs j a h1
    have e4 : es[j] = e := by
      rw [Array.getElem?_toList, Array.getElem?_eq_getElem hj] at h2
      exact Option.some.inj h2
    rw [e4] at e3
    exact e3
  have nd : as.Nodup := G.rise.imp fun h => Nat.ne_of_lt h
  have hS0 : ∀ a ∈ as, s.heap.objs.size < a := G.above
  have hP := lookup_zip (m := kvs.map fun kv => HO.tup [kV kv.1, kv.2]) nd (by rw [List.length_map]; exact hal)
  have lkS : ∀ {a : Addr} {o : HO}, (as.zip (kvs.map fun kv => HO.tup [kV kv.1, kv.2])).lookup a = some o → ((s.heap.objs.size, HO.lst (as.map V.ref)) :: as.zip (kvs.map fun kv => HO.tup [kV kv.1, kv.2])).lookup a = some o := fun {a o} e => by
    have hm := List.of_mem_zip (mem_lk e)
    rw [List.lookup_cons, show (a == s.heap.objs.size) = false from beq_eq_false_iff_ne.mpr (Nat.ne_of_gt (hS0 a hm.1))]
    exact e
  have le : ∀ p ∈ ((s.heap.objs.size, HO.lst (as.map V.ref)) :: as.zip (kvs.map fun kv => HO.tup [kV kv.1, kv.2])), s.heap.objs.size ≤ p.1 := fun p hp => by
    rcases List.mem_cons.mp hp with e | e
    · rw [e]
      exact Nat.le_refl _
    · exact Nat.le_of_lt (hS0 _ (List.of_mem_zip e).1)
  have J := laidN (t' := tk) I k le fun p hp => by
    rcases List.mem_cons.mp hp with e | e
    · rw [e]
      refine ⟨by rw [List.length_map, hal]; exact hz, acc.toList, c, ?_, ?_⟩
      · rw [hacc]
        exact vals_refs as
      · rw [Array.toArray_toList]
        exact hS
    · obtain ⟨a, o2⟩ := p
      have hm : (a, o2) ∈ as.zip (kvs.map fun kv => HO.tup [kV kv.1, kv.2]) := e
      rw [List.zip_map_right] at hm
      obtain ⟨⟨a', kv'⟩, h1, h2⟩ := List.mem_map.mp hm
      cases h2
      exact paired_zip PA _ h1 _
  refine ⟨.ref s.heap.objs.size, _, J, rfl, q _ as _ (same_many I le) (I.hok.fresh (Nat.le_refl _)) (manyH_some (by rw [List.lookup_cons]; simp)) ?_⟩
  have conv : ∀ {l : List Addr} {m : List (Key × V)}, Paired (fun (a : Addr) (b : HO) => (as.zip (kvs.map fun kv => HO.tup [kV kv.1, kv.2])).lookup a = some b) l (m.map fun kv => HO.tup [kV kv.1, kv.2]) →
      Paired (fun (t : Addr) (kv : Key × V) => manyH H ((s.heap.objs.size, HO.lst (as.map V.ref)) :: as.zip (kvs.map fun kv => HO.tup [kV kv.1, kv.2])) t = some (.tup [kV kv.1, kv.2])) l m := by
    intro l m p
    induction m generalizing l with
    | nil => cases p; exact .nil
    | cons x m ih =>
      cases p with
      | cons e t => exact .cons (manyH_some (lkS e)) (ih t)
  exact conv hP
end EX
set_option Elab.async false
set_option linter.all false
set_option maxRecDepth 100000
set_option maxHeartbeats 4000000
/-! dict(list(d.items()) + [(k, v)]) as one step -/
namespace EX
open PySem PySem.Spec L2 PyProof.Rows
theorem pe_weak {X : Cx} {e : Expr} {t t' : TE} (h : PE X e t) (w : ∀ σ H Q, t' σ H Q → t σ H Q) : PE X e t' := ⟨fun pins s σ H Q I q => h.run pins s σ H Q I (w σ H Q q)⟩
theorem same_laid {H : Hp} {p : Addr} {o : HO} (h : H p = none) : Same H (L2.upd H p o) := fun b u e => by
  rw [upd_ne (ne_of_none e h)]
  exact e
def tDX (i : Nat) (ta : TA) : TE := fun σ H Q => ∃ (g : Addr) (kvs : List (Key × V)), σ[i]? = some (some (.ref g)) ∧ H g = some (.dK kvs) ∧ kvs.length ≤ 1000 ∧
  ∀ H1, Same H H1 → ta σ H1 fun vs H3 => ∃ k v, vs = [kV k, v] ∧ Same H1 H3 ∧ ∀ q H4, Same H3 H4 → H3 q = none → H4 q = some (.dK (mergeK [] (kvs ++ [(k, v)]))) → Q (.ref q) H4
theorem paired_snoc' {α β : Type} {F : α → β → Prop} : ∀ {l : List α} {m : List β} {a : α} {b : β}, Paired F l m → F a b → Paired F (l ++ [a]) (m ++ [b])
  | _, _, _, _, .nil, e => .cons e .nil
  | _, _, _, _, .cons h t, e => .cons h (paired_snoc' t e)
theorem paired_imp {α β : Type} {F G : α → β → Prop} (w : ∀ a b, F a b → G a b) : ∀ {l : List α} {m : List β}, Paired F l m → Paired G l m
  | _, _, .nil => .nil
  | _, _, .cons h t => .cons (w _ _ h) (paired_imp w t)
section
variable {X : Cx} {ta : TA} {k v : Expr} {i : Nat} {y : Str} {p1 p2 p3 p4 p5 p6 p7 p8 p9 pos : Pos} {c1 : Nat}
theorem pe_dx (calm : X.calm = true) (md : X.mg "dict" = none) (ml : X.mg "list" = none) (hy : PE X (.Name y p1) (tVar i)) (hkv : PA X [k, v] ta) (mono : ∀ (σ : L2.St) (H : Hp) (R R' : List V → Hp → Prop), (∀ vs H1, R vs H1 → R' vs H1) → ta σ H R → ta σ H R')
    (gd : Gl X "dict" := by rfl) (gl : Gl X "list" := by rfl)
    (base : attributeBase (.Name y p1) "items" X.env (eval (.Name y p1) X.env) = eval (.Name y p1) X.env := by rfl) (line : (p2.endLine == p3.line) = true := by rfl) :
    PE X (.Call (.Name "dict" p4) [.BinOp (.Call (.Name "list" p5) [.Call (.Attribute (.Name y p1) "items" p2) [] [] p3] [] p6) .Add (.List [.Tuple [k, v] c1 p7] p8) p9] [] pos) (tDX i ta) := by
  refine pe_weak (pe_callTy (call_dictP calm) gd md (by decide +kernel) (pa_cons (pe_op op_cat (pe_callTy (cr_listItems calm) gl ml (by decide +kernel) (pa_cons (pe_bm0 PySem.F.plainAttrs_dict PySem.F.slot_dict_items PySem.F.type_dict_items mt_items hy base line) pa_nil)) (pe_lst (pa_cons (pe_tup hkv) pa_nil))) pa_nil)) fun σ H Q h => ?_
  obtain ⟨g, kvs, hσ, hg, hl, h⟩ := h
  refine ⟨_, hσ, .inr (.inr (.inl ⟨rfl, .inl ⟨kvs, hg⟩⟩)), g, kvs, rfl, rfl, hg, fun w hw => ?_⟩
  have s1 : Same H (L2.upd H w (itvO w g)) := same_laid hw
  have l1 : L2.upd H w (itvO w g) w = some (itvO w g) := upd_same
  generalize L2.upd H w (itvO w g) = H1 at s1 l1 ⊢
  refine ⟨w, g, kvs, rfl, l1, s1 _ _ hg, fun l ts H2 s2 hl2 ll pt => ?_⟩
  have s02 : Same H H2 := fun b o e => s2 _ _ (s1 _ _ e)
  have tl : ts.length = kvs.length := Paired.length pt
  refine mono _ _ _ _ ?_ (h H2 s02)
  rintro vs H3 ⟨k, v, rfl, s3, fin⟩
  refine ⟨by show 2 ≤ sizeLine; decide, fun t ht => ?_⟩
  have s4 : Same H3 (L2.upd H3 t (.tup [kV k, v])) := same_laid ht
  have l4 : L2.upd H3 t (HO.tup [kV k, v]) t = some (.tup [kV k, v]) := upd_same
  generalize L2.upd H3 t (HO.tup [kV k, v]) = H4 at s4 l4 ⊢
  refine ⟨by show 1 ≤ sizeLine; decide, fun l2 hl2' => ?_⟩
  have s5 : Same H4 (L2.upd H4 l2 (.lst [.ref t])) := same_laid hl2'
  have l5 : L2.upd H4 l2 (HO.lst [.ref t]) l2 = some (.lst [.ref t]) := upd_same
  generalize L2.upd H4 l2 (HO.lst [.ref t]) = H5 at s5 l5 ⊢
  have s35 : Same H3 H5 := fun b o e => s5 _ _ (s4 _ _ e)
  have s25 : Same H2 H5 := fun b o e => s35 _ _ (s3 _ _ e)
  have tl2 : (ts.map V.ref).length = kvs.length := by rw [List.length_map]; exact tl
  refine ⟨l, l2, _, _, rfl, rfl, s25 _ _ ll, l5, ?_, fun p hp => ?_⟩
  · rw [tl2, sizeLine_eq]
    show kvs.length + 1 ≤ _
    omega
  have s6 : Same H5 (L2.upd H5 p (.lst (ts.map V.ref ++ [.ref t]))) := same_laid hp
  have l6 : L2.upd H5 p (HO.lst (ts.map V.ref ++ [.ref t])) p = some (.lst ((ts ++ [t]).map V.ref)) := by
    rw [upd_same, List.map_append]
    rfl
  generalize L2.upd H5 p (HO.lst (ts.map V.ref ++ [.ref t])) = H6 at s6 l6 ⊢
  have s36 : Same H3 H6 := fun b o e => s6 _ _ (s35 _ _ e)
  have s26 : Same H2 H6 := fun b o e => s6 _ _ (s25 _ _ e)
  refine ⟨p, ts ++ [t], kvs ++ [(k, v)], rfl, SqL.of l6, paired_snoc' (paired_imp (fun a kv e => SqT.of (s26 _ _ e)) pt) (SqT.of (s6 _ _ (s5 _ _ l4))), fun q hq => ?_⟩
  refine fin q _ (fun b o e => same_laid hq _ _ (s36 _ _ e)) ?_ upd_same
  cases e : H3 q with
  | none => rfl
  | some o => rw [s36 _ _ e] at hq; cases hq
end
end EX
set_option Elab.async false
set_option linter.all false
set_option maxRecDepth 100000
set_option maxHeartbeats 4000000
namespace K73
open PySem L2 EX PyProof.Rows M72
abbrev rTupO (K : PySem.W.Frag) : List V → Hp → VK → Prop := fun xs H Q => ∃ p ys, xs = [.ref p] ∧ ((SqL K H p ys ∧ ∀ l, H l = none → Q (.ref l) (upd H l (.tup ys))) ∨ (SqT K H p ys ∧ Q (.ref p) H))
/-- a cut of a tuple that stands in the i-th slot -/
def tCut (K : PySem.W.Frag) (i : Nat) : TE := fun σ H Q => ∃ v, σ[i]? = some (some v) ∧ ∃ a xs, v = .ref a ∧ SqT K H a xs ∧ ∀ (q : Addr) (ys : List V) (H' : Hp), Same H H' → SqT K H' q ys → (∀ y ∈ ys, y ∈ xs) → ys.length ≤ xs.length → Q (.ref q) H'
theorem cut1_h {K : PySem.W.Frag} {i : Nat} {σ : L2.St} {H : Hp} {Q : VK} (h : tCut K i σ H Q) : tSl (rSlA K) (tVar i) (tPart (tC (.int 1))) tNoPart σ H Q := by
  obtain ⟨v, hv, a, xs, rfl, hx, h⟩ := h
  exact ⟨_, hv, _, rfl, a, xs, rfl, hx, fun _ => h a xs H (Same.refl _) hx (fun _ z => z) (Nat.le_refl _), fun _ p hp => h p _ _ (Same.upd hp) (SqT.of upd_same) (fun y hy => List.mem_of_mem_drop (List.mem_of_mem_take hy)) (cutV_length _ _ _)⟩
theorem cut2_h {K : PySem.W.Frag} {i : Nat} {σ : L2.St} {H : Hp} {Q : VK} (h : tCut K i σ H Q) : tSl (rSlA K) (tVar i) tNoPart (tPart (tUn (rU fun i => .int (-i)) (tC (.int 1)))) σ H Q := by
  obtain ⟨v, hv, a, xs, rfl, hx, h⟩ := h
  exact ⟨_, hv, _, rfl, _, rfl, a, xs, rfl, hx, fun _ => h a xs H (Same.refl _) hx (fun _ z => z) (Nat.le_refl _), fun _ p hp => h p _ _ (Same.upd hp) (SqT.of upd_same) (fun y hy => List.mem_of_mem_drop (List.mem_of_mem_take hy)) (cutV_length _ _ _)⟩
/-- a part, a pair, or none -/
def PtOk (K : PySem.W.Frag) (H : Hp) (v : V) : Prop := ∃ p, PtA K H v p ∧ SmallP p
def ThOk (K : PySem.W.Frag) (H : Hp) (v : V) : Prop := ∃ t, TgA K H v t ∧ SmallT t
theorem PtOk.mono {K : PySem.W.Frag} {H H' : Hp} (s : Same H H') {v : V} (h : PtOk K H v) : PtOk K H' v := h.elim fun p h => ⟨p, h.1.mono s, h.2⟩
theorem ThOk.mono {K : PySem.W.Frag} {H H' : Hp} (s : Same H H') {v : V} (h : ThOk K H v) : ThOk K H' v := h.elim fun p h => ⟨p, h.1.mono s, h.2⟩
theorem pt_tup {K : PySem.W.Frag} {H : Hp} {a : Addr} {xs : List V} (h : SqT K H a xs) (i : ∀ v ∈ xs, ∃ b, IntA v b) (l : xs.length ≤ 1000) : PtOk K H (.ref a) := ⟨_, .tup h i, fun ys e => by cases e; exact l⟩
theorem pt_lst {K : PySem.W.Frag} {H : Hp} {a : Addr} {xs : List V} (h : SqL K H a xs) : PtOk K H (.ref a) := ⟨_, .lst h, fun ys e => by cases e⟩
theorem int_nat (ns : List Nat) : ∀ v ∈ natV ns, ∃ b, IntA v b := fun v hv => by
  obtain ⟨n, _, rfl⟩ := List.mem_map.mp hv
  exact ⟨_, .int _⟩
theorem int_int (ns : List Int) : ∀ v ∈ ns.map V.int, ∃ b, IntA v b := fun v hv => by
  obtain ⟨n, _, rfl⟩ := List.mem_map.mp hv
  exact ⟨_, .int _⟩
theorem th_pair {K : PySem.W.Frag} {H : Hp} {a : Addr} {x y : V} (h : SqT K H a [x, y]) (hx : PtOk K H x) (hy : PtOk K H y) : ThOk K H (.ref a) := by
  obtain ⟨p, h1, h2⟩ := hx
  obtain ⟨q, h3, h4⟩ := hy
  exact ⟨_, .pair h h1 h3, fun p' q' e => by cases e; exact ⟨h2, h4⟩⟩
theorem th_non {K : PySem.W.Frag} {H : Hp} : ThOk K H .non := ⟨_, .non, fun p' q' e => by cases e⟩
theorem th_lst {K : PySem.W.Frag} {H : Hp} {a : Addr} {xs : List V} (h : SqL K H a xs) : ThOk K H (.ref a) := ⟨_, .lst h, fun p' q' e => by cases e⟩
theorem th_tup {K : PySem.W.Frag} {H : Hp} {a : Addr} {xs : List V} (h : SqT K H a xs) (z : xs.length ≠ 2) : ThOk K H (.ref a) := ⟨_, .tup h z, fun p' q' e => by cases e⟩
theorem PtOk.but {K : PySem.W.Frag} {H H' : Hp} {p : Addr} {ys zs : List V} (b : But p H H') (h1 : H p = some (.lst ys)) (h2 : H' p = some (.lst zs)) {v : V} (h : PtOk K H v) : PtOk K H' v := by
  obtain ⟨q, h, sm⟩ := h
  cases h with
  | tup h i => exact pt_tup (b.sqt h1 h) i (sm _ rfl)
  | @lst a xs h =>
    by_cases e : a = p
    · subst e
      exact pt_lst (SqL.of h2)
    · rcases h with (h | ⟨o, h⟩) | h
      · exact pt_lst (.inl (.inl (b _ _ e h)))
      · exact pt_lst (.inl (.inr ⟨o, b _ _ e h⟩))
      · exact pt_lst (.inr h)
theorem ThOk.but {K : PySem.W.Frag} {H H' : Hp} {p : Addr} {ys zs : List V} (b : But p H H') (h1 : H p = some (.lst ys)) (h2 : H' p = some (.lst zs)) {v : V} (h : ThOk K H v) : ThOk K H' v := by
  obtain ⟨q, h, sm⟩ := h
  cases h with
  | non => exact th_non
  | @lst a xs h =>
    by_cases e : a = p
    · subst e
      exact th_lst (SqL.of h2)
    · rcases h with (h | ⟨o, h⟩) | h
      · exact th_lst (.inl (.inl (b _ _ e h)))
      · exact th_lst (.inl (.inr ⟨o, b _ _ e h⟩))
      · exact th_lst (.inr h)
  | tup h z => exact th_tup (b.sqt h1 h) z
  | pair h hx hy =>
    obtain ⟨s1, s2⟩ := sm _ _ rfl
    exact th_pair (b.sqt h1 h) (PtOk.but b h1 h2 ⟨_, hx, s1⟩) (PtOk.but b h1 h2 ⟨_, hy, s2⟩)
def OkL (K : PySem.W.Frag) (H : Hp) (vs : List V) : Prop := ∀ v ∈ vs, ThOk K H v
theorem OkL.mono {K : PySem.W.Frag} {H H' : Hp} (s : Same H H') {vs : List V} (h : OkL K H vs) : OkL K H' vs := fun v hv => (h v hv).mono s
theorem OkL.snoc {K : PySem.W.Frag} {H : Hp} {vs : List V} {v : V} (h : OkL K H vs) (hv : ThOk K H v) : OkL K H (vs ++ [v]) := fun u hu => by
  rcases List.mem_append.mp hu with hu | hu
  · exact h u hu
  · rw [List.mem_singleton.mp hu]
    exact hv
/-- what stands while the things are made -/
structure BtS (K : PySem.W.Frag) (p r pa ra D t0 t1 : Addr) (x y : Int) (ps rs : List Nat) (n0 n1 : List Int) (H0 H : Hp) : Prop where
  but : But p H0 H
  lp : H p = some (.lst [.int x, .int y])
  hF : SqT K H r [.ref pa, .ref ra]
  hP : SqT K H pa (natV ps)
  hA : SqT K H ra (natV rs)
  lD : H D = some (.lst [.ref t0, .ref t1])
  l0 : H t0 = some (.tup (n0.map V.int))
  l1 : H t1 = some (.tup (n1.map V.int))
theorem BtS.mono {K : PySem.W.Frag} {p r pa ra D t0 t1 : Addr} {x y : Int} {ps rs : List Nat} {n0 n1 : List Int} {H0 H H' : Hp} (B : BtS K p r pa ra D t0 t1 x y ps rs n0 n1 H0 H) (s : Same H H') : BtS K p r pa ra D t0 t1 x y ps rs n0 n1 H0 H' :=
  ⟨fun b o n e => s _ _ (B.but b o n e), s _ _ B.lp, sqt_same s B.hF, sqt_same s B.hP, sqt_same s B.hA, s _ _ B.lD, s _ _ B.l0, s _ _ B.l1⟩
/-- _law_bent(source, sequence, found) -/
def spBent (K : PySem.W.Frag) : Sp := fun vs H Q _ => ∃ (p a r pa ra : Addr) (x y : Int) (xs : List V) (ps rs : List Nat), vs = [.ref p, .ref a, .ref r] ∧ H p = some (.lst [.int x, .int y]) ∧ SrcOk x y ∧ SqL K H a xs ∧ xs.length ≤ 1000 ∧
  SqT K H r [.ref pa, .ref ra] ∧ SqT K H pa (natV ps) ∧ SqT K H ra (natV rs) ∧ ps.length ≤ 1000 ∧ rs.length ≤ 1000 ∧
  ∀ (v : V) (x' y' : Int) (H' : Hp), But p H H' → H' p = some (.lst [.int x', .int y']) → SrcOk x' y' → ThOk K H' v → Q v H'
abbrev sBt : Stmt := top 23
def sBtN : List Str := ["_law_source_here", "_law_sequence_here", "_law_found", "_law_size", "_law_drawn", "_law_pushes", "_law_reads", "_law_some", "_law_shifted", "_law_part", "_law_one", "_law_at"]
theorem scBt : FnScope ["_law_source_here", "_law_sequence_here", "_law_found", "_law_size", "_law_drawn", "_law_pushes", "_law_reads", "_law_some", "_law_shifted", "_law_part", "_law_one", "_law_at"] ["_law_source_here", "_law_sequence_here", "_law_found"] (defScope sBt) := ⟨rfl, rfl, rfl, by decide +kernel, rfl, by decide +kernel, by decide +kernel⟩
section
variable {P : Program} {w : World} {K : PySem.W.Frag} {mg : Str → Option Value} {base : Heap}
theorem ok_bent {f : Addr} {fd : FuncData} (F : Fun K "_law_bent" "_law_bent" sBt f fd) (B : Bn mg) (GD : DefAt P w K mg base 1 "_law_draw" ["_law_source_here", "_law_amount"] spDraw) : FnOk P w K mg base CX0 2 f fd ["_law_source_here", "_law_sequence_here", "_law_found"] (spBent K) := by
  refine F.ok scBt (fun vs H Q E h => ?_) (fun cdv A outer s H vs Q E hr h => ?_)
  · obtain ⟨p, a, r, pa, ra, x, y, xs, ps, rs, rfl, _⟩ := h
    rfl
  · obtain ⟨p, a, r, pa, ra, x, y, xs, ps, rs, rfl, hp, src, ha, hl, hF, hP, hA, lps, lrs, k⟩ := h
    have hr1 : Room 1 _ := hr
    have hlN : ∀ ns : List Nat, (natV ns).length = ns.length := fun ns => List.length_map _
    refine ⟨_, (pss_cons (ps_set (i := 3) scBt.nd rfl (Or.inr rfl) (pe_op op_add (pe_callB call_len_seq (by rfl) B.len PySem.boot_len (pa_cons (pv 1) pa_nil)) pe_int))
          (pss_cons (ps_setLc (i := 4) (own := [("_law_part", 9)]) (g := gName 9) (tt := tYes) (te := tCB (rTupO K) (tCons (tCB (rSorted K) (tCons (tLc (iRng1 (tCons (tCall spDraw [] E0 (tCons (tVar 0) (tCons (tC (.int 4)) tNil))) tNil)) (gName 10) tYes (tCall spDraw [] E0 (tCons (tVar 0) (tCons (tVar 3) tNil))) [10]) tNil)) tNil)) rfl scBt.nd rfl rfl (sw_true rfl rfl rfl (by decide +kernel)) (pi_range1 (by rfl) B.range (pa_cons pe_int pa_nil)) (blkOk_by (N := sBtN) (sc := defScope sBt) (by decide +kernel)) (fun _ _ _ _ _ => pg_name (i := 9) scBt.nd rfl (Or.inl rfl)) (fun _ _ _ _ _ => pts_nil) (fun _ _ _ _ _ => (pe_callTy call_tuple_of (by rfl) B.tuple (by decide +kernel) (pa_cons (pe_callB cr_sorted (by rfl) B.sorted (by decide +kernel) (pa_cons (pe_lc (own := [("_law_one", 10)]) (g := gName 10) (tt := tYes) (te := tCall spDraw [] E0 (tCons (tVar 0) (tCons (tVar 3) tNil))) rfl scBt.nd (pi_range1 (by rfl) B.range (pa_cons (pe_callD GD hr1 (pa_cons (pv 0) (pa_cons pe_int pa_nil))) pa_nil)) (blkOk_by (by rfl)) (fun _ _ _ _ _ => pg_name (i := 10) scBt.nd rfl (Or.inl rfl)) (fun _ _ _ _ _ => pts_nil) (fun _ _ _ _ _ => (pe_callD GD hr1 (pa_cons (pv 0) (pa_cons (pv 3) pa_nil))))) pa_nil)) pa_nil))))
          (pss_cons (ps_asg (pv 2) (pg_tup rfl (pgs_cons (pg_name (i := 5) scBt.nd rfl (Or.inl rfl)) (pgs_cons (pg_name (i := 6) scBt.nd rfl (Or.inl rfl)) pgs_nil))))
          (pss_cons (ps_set (i := 7) scBt.nd rfl (Or.inl rfl) (pe_lst (pa_cons (pe_tup (pa_cons (pv 5) (pa_cons (pe_ix ix_list (pv 4) pe_int (fun _ _ => rfl)) pa_nil))) (pa_cons (pe_tup (pa_cons (pe_ix ix_list (pv 4) pe_int (fun _ _ => rfl)) (pa_cons (pv 6) pa_nil))) (pa_cons (pe_callTy call_tuple_of (by rfl) B.tuple (by decide +kernel) (pa_cons (pv 4) pa_nil)) (pa_cons (pe_tup (pa_cons (EX.pe_weak (pe_slice sl_tupA (pv 5) (po_some pe_int) po_none) (fun σ H Q h => cut1_h (K := K) (i := 5) h)) (pa_cons (EX.pe_weak (pe_slice sl_tupA (pv 6) (po_some pe_int) po_none) (fun σ H Q h => cut1_h (K := K) (i := 6) h)) pa_nil))) (pa_cons (pe_tup (pa_cons (pv 6) (pa_cons (pv 5) pa_nil))) (pa_cons (pe_callTy call_list_of (by rfl) B.list (by decide +kernel) (pa_cons (pv 2) pa_nil)) pa_nil))))))))
          (pss_cons (ps_set (i := 7) scBt.nd rfl (Or.inl rfl) (pe_op op_cat (pv 7) (pe_lst (pa_cons (pe_tup (pa_cons (pv 5) (pa_cons (pe_callTy call_list_of (by rfl) B.list (by decide +kernel) (pa_cons (pv 6) pa_nil)) pa_nil))) (pa_cons (pe_tup (pa_cons (pv 5) pa_nil)) (pa_cons pe_non (pa_cons (pe_tup (pa_cons (pv 5) (pa_cons (pv 6) (pa_cons (pe_tup pa_nil) pa_nil)))) (pa_cons (pe_tup (pa_cons (pe_revT (pv 5)) (pa_cons (pv 6) pa_nil))) (pa_cons (pe_tup (pa_cons (pe_tup (pa_cons pe_bl pa_nil)) (pa_cons (pv 6) pa_nil))) pa_nil)))))))))
          (pss_cons (ps_set (i := 7) scBt.nd rfl (Or.inl rfl) (pe_op op_cat (pv 7) (pe_lst (pa_cons (pe_tup (pa_cons (EX.pe_weak (pe_slice sl_tupA (pv 5) po_none (po_some (pe_un un_neg pe_int))) (fun σ H Q h => cut2_h (K := K) (i := 5) h)) (pa_cons (EX.pe_weak (pe_slice sl_tupA (pv 6) po_none (po_some (pe_un un_neg pe_int))) (fun σ H Q h => cut2_h (K := K) (i := 6) h)) pa_nil))) (pa_cons (pe_tup (pa_cons (pv 5) (pa_cons (pe_callTy call_tuple_of (by rfl) B.tuple (by decide +kernel) (pa_cons (pe_lc (own := [("_law_at", 11)]) (g := gName 11) (tt := tYes) (te := tOp (rI0 fun i j => .int (i - j)) (tVar 11) (tC (.int 1))) rfl scBt.nd (pi_tup (pv 6)) (blkOk_by (N := sBtN) (sc := defScope sBt) (by decide +kernel)) (fun _ _ _ _ _ => pg_name (i := 11) scBt.nd rfl (Or.inl rfl)) (fun _ _ _ _ _ => pts_nil) (fun _ _ _ _ _ => (pe_op op_sub (pv 11) pe_int))) pa_nil)) pa_nil))) (pa_cons (pe_tup (pa_cons (pe_tup (pa_cons (pe_un un_neg pe_int) pa_nil)) (pa_cons (pe_tup (pa_cons pe_int pa_nil)) pa_nil))) pa_nil))))))
          (pss_cons (ps_set (i := 8) scBt.nd rfl (Or.inl rfl) (pe_callTy call_tuple_of (by rfl) B.tuple (by decide +kernel) (pa_cons (pe_lc (own := [("_law_at", 11)]) (g := gName 11) (tt := tYes) (te := tOp (rI0 fun i j => .int (i - j)) (tOp (rI0 fun i j => .int (i + j)) (tVar 11) (tC (.int 1))) (tOp (rI CMul fun i j => .int (i * j)) (tC (.int 2)) (tCall spDraw [] E0 (tCons (tVar 0) (tCons (tC (.int 2)) tNil))))) rfl scBt.nd (pi_tup (pv 5)) (blkOk_by (N := sBtN) (sc := defScope sBt) (by decide +kernel)) (fun _ _ _ _ _ => pg_name (i := 11) scBt.nd rfl (Or.inl rfl)) (fun _ _ _ _ _ => pts_nil) (fun _ _ _ _ _ => (pe_op op_sub (pe_op op_add (pv 11) pe_int) (pe_op op_mul pe_int (pe_callD GD hr1 (pa_cons (pv 0) (pa_cons pe_int pa_nil))))))) pa_nil)))
          (pss_one (ps_ret (pe_ix ix_list (pe_op op_cat (pv 7) (pe_lst (pa_cons (pe_tup (pa_cons (pv 8) (pa_cons (pv 6) pa_nil))) (pa_cons (pv 2) pa_nil)))) (pe_callD GD hr1 (pa_cons (pv 0) (pa_cons pe_int pa_nil))) (fun _ _ => rfl))))))))))), ?_⟩
    refine ⟨_, rfl, a, _, rfl, .inl ha, _, _, rfl, rfl, ?_⟩
    refine ⟨_, rfl, by decide, by decide, fun D hD => ?_⟩
    have nDp : D ≠ p := fun z => by rw [z, hp] at hD; cases hD
    refine lc_range (lo := 0) (n := 2) (fun i H4 => But p H H4 ∧ (∃ x y, H4 p = some (.lst [.int x, .int y]) ∧ SrcOk x y) ∧ ∃ ts : List Addr, H4 D = some (.lst (ts.map V.ref)) ∧ ts.length = i ∧ ∀ t ∈ ts, ∃ ns : List Int, H4 t = some (.tup (ns.map V.int)) ∧ ns.length ≤ 3)
      ⟨fun b o n e => by rw [upd_ne (ne_of_none e hD)]; exact e, ⟨x, y, by rw [upd_ne (Ne.symm nDp)]; exact hp, src⟩, [], upd_same, rfl, fun t ht => by cases ht⟩ ?_ ?_
    · rintro i H4 hi ⟨b4, ⟨x4, y4, lp4, src4⟩, ts, lD, hts, tt⟩
      refine ⟨rfl, ?_⟩
      refine ⟨_, rfl, p, x4, y4, 4, rfl, lp4, src4, by decide, by decide, fun x5 y5 m src5 m0 m1 => ?_⟩
      have c5 : But p H4 (upd H4 p (.lst [.int x5, .int y5])) := fun b o hb e => by rw [upd_ne hb]; exact e
      have lp5 : upd H4 p (HO.lst [.int x5, .int y5]) p = some (.lst [.int x5, .int y5]) := upd_same
      generalize upd H4 p (HO.lst [.int x5, .int y5]) = H5 at c5 lp5 ⊢
      refine ⟨_, rfl, by omega, by omega, fun D2 hD2 => ?_⟩
      have nD2p : D2 ≠ p := fun z => by rw [z, lp5] at hD2; cases hD2
      refine lc_range (lo := 0) (n := m.toNat) (fun j H6 => But p H5 H6 ∧ (∃ x y, H6 p = some (.lst [.int x, .int y]) ∧ SrcOk x y) ∧ ∃ ns : List Int, H6 D2 = some (.lst (ns.map V.int)) ∧ ns.length = j)
        ⟨fun b o n e => by rw [upd_ne (ne_of_none e hD2)]; exact e, ⟨x5, y5, by rw [upd_ne (Ne.symm nD2p)]; exact lp5, src5⟩, [], upd_same, rfl⟩ ?_ ?_
      · rintro j H6 hj ⟨b6, ⟨x6, y6, lp6, src6⟩, ns, lD2, hns⟩
        refine ⟨rfl, ?_⟩
        refine ⟨_, rfl, _, rfl, p, x6, y6, _, rfl, lp6, src6, by omega, by omega, fun x7 y7 dd src7 d0 d1 => ?_⟩
        have lp7 : upd H6 p (HO.lst [.int x7, .int y7]) p = some (.lst [.int x7, .int y7]) := upd_same
        have b7 : But p H5 (upd H6 p (.lst [.int x7, .int y7])) := fun b o hb e => by rw [upd_ne hb]; exact b6 b o hb e
        have lD7 : upd H6 p (HO.lst [.int x7, .int y7]) D2 = some (.lst (ns.map V.int)) := by rw [upd_ne nD2p]; exact lD2
        generalize upd H6 p (HO.lst [.int x7, .int y7]) = H7 at lp7 b7 lD7 ⊢
        refine ⟨_, lD7, by rw [List.length_map, hns, sizeLine_eq]; omega, fun b o n e => ?_, ⟨x7, y7, by rw [upd_ne (Ne.symm nD2p)]; exact lp7, src7⟩, ns ++ [dd], ?_, ?_⟩
        · rw [upd_ne (ne_of_none e hD2)]
          exact b7 b o n e
        · rw [upd_same, List.map_append]
          rfl
        · rw [List.length_append, hns]
          rfl
      · rintro H6 ⟨b6, ⟨x6, y6, lp6, src6⟩, ns, lD2, hns⟩
        refine ⟨D2, ns, rfl, SqL.of lD2, by omega, fun ns' q2 pm _ hq2 => ?_⟩
        have s7 : Same H6 (upd H6 q2 (.lst (ns'.map V.int))) := Same.upd hq2
        have l7 : upd H6 q2 (HO.lst (ns'.map V.int)) q2 = some (.lst (ns'.map V.int)) := upd_same
        generalize upd H6 q2 (HO.lst (ns'.map V.int)) = H7 at s7 l7 ⊢
        refine ⟨q2, _, rfl, .inl ⟨SqL.of l7, fun q3 hq3 => ?_⟩⟩
        have s8 : Same H7 (upd H7 q3 (.tup (ns'.map V.int))) := Same.upd hq3
        have l8 : upd H7 q3 (HO.tup (ns'.map V.int)) q3 = some (.tup (ns'.map V.int)) := upd_same
        generalize upd H7 q3 (HO.tup (ns'.map V.int)) = H8 at s8 l8 ⊢
        have b8 : But p H4 H8 := fun b o n e => s8 _ _ (s7 _ _ (b6 b o n (c5 b o n e)))
        have lD8 := b8 _ _ nDp lD
        have bD : But D H8 (upd H8 D (.lst (ts.map V.ref ++ [.ref q3]))) := fun b o hb e => by rw [upd_ne hb]; exact e
        have tne : ∀ {t : Addr} {ys : List V}, H8 t = some (.tup ys) → t ≠ D := fun {t ys} e z => by rw [z, lD8] at e; cases e
        refine ⟨_, lD8, by rw [List.length_map, hts, sizeLine_eq]; omega, fun b o n e => ?_, ⟨x6, y6, by rw [upd_ne (Ne.symm nDp)]; exact s8 _ _ (s7 _ _ lp6), src6⟩, ts ++ [q3], ?_, ?_, fun t ht => ?_⟩
        · rw [upd_ne (ne_of_none e hD)]
          exact b8 b o n (b4 b o n e)
        · rw [upd_same, List.map_append]
          rfl
        · rw [List.length_append, hts]
          rfl
        · rcases List.mem_append.mp ht with ht | ht
          · obtain ⟨ns2, e1, e2⟩ := tt t ht
            have ntp : t ≠ p := fun z => by rw [z, lp4] at e1; cases e1
            have := b8 _ _ ntp e1
            exact ⟨ns2, bD _ _ (tne this) this, e2⟩
          · rw [List.mem_singleton.mp ht]
            exact ⟨ns', bD _ _ (tne l8) l8, by rw [pm.length_eq, hns]; omega⟩
    rintro H2 ⟨b2, ⟨x2, y2, lp2, src2⟩, ts, lD, hts, tt⟩
    obtain ⟨t0, t1, rfl⟩ : ∃ t0 t1, ts = [t0, t1] := by
      match ts, hts with
      | [t0, t1], _ => exact ⟨t0, t1, rfl⟩
    obtain ⟨n0, l0, z0⟩ := tt t0 (by simp)
    obtain ⟨n1, l1, z1⟩ := tt t1 (by simp)
    have B : BtS K p r pa ra D t0 t1 x2 y2 ps rs n0 n1 H H2 := ⟨b2, lp2, b2.sqt hp hF, b2.sqt hp hP, b2.sqt hp hA, lD, l0, l1⟩
    clear b2 lp2 lD l0 l1 tt hts hD
    refine ⟨_, rfl, r, _, rfl, B.hF, rfl, _, _, rfl, _, _, rfl, rfl, ?_⟩
    have TS : OkL K H2 [] := fun v hv => by cases hv
    refine ⟨_, rfl, _, rfl, D, _, _, _, rfl, rfl, SqL.of B.lD, atI_nat (j := 1) rfl, by show 2 ≤ sizeLine; decide, fun q1 hq1 => ?_⟩
    have s1 : Same H2 (upd H2 q1 (.tup [.ref pa, .ref t1])) := Same.upd hq1
    have l1 : upd H2 q1 (HO.tup [.ref pa, .ref t1]) q1 = some (.tup [.ref pa, .ref t1]) := upd_same
    generalize upd H2 q1 (HO.tup [.ref pa, .ref t1]) = A1 at s1 l1 ⊢
    replace B := B.mono s1
    replace TS := TS.mono s1
    clear hq1
    replace TS := TS.snoc (th_pair (SqT.of l1) (pt_tup B.hP (int_nat _) (by rw [hlN]; omega)) (pt_tup (SqT.of B.l1) (int_int _) (by rw [List.length_map]; omega)))
    refine ⟨_, rfl, D, _, _, _, rfl, rfl, SqL.of B.lD, atI_nat (j := 0) rfl, _, rfl, by show 2 ≤ sizeLine; decide, fun q2 hq2 => ?_⟩
    have s2 : Same A1 (upd A1 q2 (.tup [.ref t0, .ref ra])) := Same.upd hq2
    have l2 : upd A1 q2 (HO.tup [.ref t0, .ref ra]) q2 = some (.tup [.ref t0, .ref ra]) := upd_same
    generalize upd A1 q2 (HO.tup [.ref t0, .ref ra]) = A2 at s2 l2 ⊢
    replace B := B.mono s2
    replace TS := TS.mono s2
    clear hq2
    replace TS := TS.snoc (th_pair (SqT.of l2) (pt_tup (SqT.of B.l0) (int_int _) (by rw [List.length_map]; omega)) (pt_tup B.hA (int_nat _) (by rw [hlN]; omega)))
    refine ⟨_, rfl, D, _, rfl, .inl ⟨SqL.of B.lD, fun q3 hq3 => ?_⟩⟩
    have s3 : Same A2 (upd A2 q3 (.tup [.ref t0, .ref t1])) := Same.upd hq3
    have l3 : upd A2 q3 (HO.tup [.ref t0, .ref t1]) q3 = some (.tup [.ref t0, .ref t1]) := upd_same
    generalize upd A2 q3 (HO.tup [.ref t0, .ref t1]) = A3 at s3 l3 ⊢
    replace B := B.mono s3
    replace TS := TS.mono s3
    clear hq3
    replace TS := TS.snoc (th_pair (SqT.of l3) (pt_tup (SqT.of B.l0) (int_int _) (by rw [List.length_map]; omega)) (pt_tup (SqT.of B.l1) (int_int _) (by rw [List.length_map]; omega)))
    refine ⟨_, rfl, pa, _, rfl, B.hP, fun u4a c4a A4a s4a k4a m4a z4a => ?_⟩
    replace B := B.mono s4a
    replace TS := TS.mono s4a
    have o4a : PtOk K A4a (.ref u4a) := pt_tup k4a (fun v hv => int_nat _ v (m4a v hv)) (by rw [hlN] at z4a; omega)
    refine ⟨_, rfl, ra, _, rfl, B.hA, fun u4b c4b A4b s4b k4b m4b z4b => ?_⟩
    replace B := B.mono s4b
    replace TS := TS.mono s4b
    replace o4a := o4a.mono s4b
    have o4b : PtOk K A4b (.ref u4b) := pt_tup k4b (fun v hv => int_nat _ v (m4b v hv)) (by rw [hlN] at z4b; omega)
    refine ⟨by show 2 ≤ sizeLine; decide, fun q4 hq4 => ?_⟩
    have s4 : Same A4b (upd A4b q4 (.tup [.ref u4a, .ref u4b])) := Same.upd hq4
    have l4 : upd A4b q4 (HO.tup [.ref u4a, .ref u4b]) q4 = some (.tup [.ref u4a, .ref u4b]) := upd_same
    generalize upd A4b q4 (HO.tup [.ref u4a, .ref u4b]) = A4 at s4 l4 ⊢
    replace B := B.mono s4
    replace TS := TS.mono s4
    clear hq4
    replace TS := TS.snoc (th_pair (SqT.of l4) (o4a.mono s4) (o4b.mono s4))
    refine ⟨_, rfl, _, rfl, by show 2 ≤ sizeLine; decide, fun q5 hq5 => ?_⟩
    have s5 : Same A4 (upd A4 q5 (.tup [.ref ra, .ref pa])) := Same.upd hq5
    have l5 : upd A4 q5 (HO.tup [.ref ra, .ref pa]) q5 = some (.tup [.ref ra, .ref pa]) := upd_same
    generalize upd A4 q5 (HO.tup [.ref ra, .ref pa]) = A5 at s5 l5 ⊢
    replace B := B.mono s5
    replace TS := TS.mono s5
    clear hq5
    replace TS := TS.snoc (th_pair (SqT.of l5) (pt_tup B.hA (int_nat _) (by rw [hlN]; omega)) (pt_tup B.hP (int_nat _) (by rw [hlN]; omega)))
    refine ⟨_, rfl, r, _, rfl, .inr B.hF, fun q6 hq6 => ?_⟩
    have s6 : Same A5 (upd A5 q6 (.lst [.ref pa, .ref ra])) := Same.upd hq6
    have l6 : upd A5 q6 (HO.lst [.ref pa, .ref ra]) q6 = some (.lst [.ref pa, .ref ra]) := upd_same
    generalize upd A5 q6 (HO.lst [.ref pa, .ref ra]) = A6 at s6 l6 ⊢
    replace B := B.mono s6
    replace TS := TS.mono s6
    clear hq6
    replace TS := TS.snoc (th_lst (SqL.of l6))
    refine ⟨by show 6 ≤ sizeLine; decide, fun w1 hw1 => ?_⟩
    have s7 : Same A6 (upd A6 w1 (.lst [.ref q1, .ref q2, .ref q3, .ref q4, .ref q5, .ref q6])) := Same.upd hw1
    have l7 : upd A6 w1 (HO.lst [.ref q1, .ref q2, .ref q3, .ref q4, .ref q5, .ref q6]) w1 = some (.lst [.ref q1, .ref q2, .ref q3, .ref q4, .ref q5, .ref q6]) := upd_same
    generalize upd A6 w1 (HO.lst [.ref q1, .ref q2, .ref q3, .ref q4, .ref q5, .ref q6]) = B0 at s7 l7 ⊢
    replace B := B.mono s7
    replace TS := TS.mono s7
    clear hw1
    have lw1 := l7
    refine ⟨_, rfl, _, rfl, _, rfl, ra, _, rfl, .inr B.hA, fun q7 hq7 => ?_⟩
    have s8 : Same B0 (upd B0 q7 (.lst (natV rs))) := Same.upd hq7
    have l8 : upd B0 q7 (HO.lst (natV rs)) q7 = some (.lst (natV rs)) := upd_same
    generalize upd B0 q7 (HO.lst (natV rs)) = B1 at s8 l8 ⊢
    replace B := B.mono s8
    replace TS := TS.mono s8
    replace lw1 := s8 _ _ lw1
    clear hq7
    refine ⟨by show 2 ≤ sizeLine; decide, fun q8 hq8 => ?_⟩
    have s9 : Same B1 (upd B1 q8 (.tup [.ref pa, .ref q7])) := Same.upd hq8
    have l9 : upd B1 q8 (HO.tup [.ref pa, .ref q7]) q8 = some (.tup [.ref pa, .ref q7]) := upd_same
    generalize upd B1 q8 (HO.tup [.ref pa, .ref q7]) = B2 at s9 l9 ⊢
    replace B := B.mono s9
    replace TS := TS.mono s9
    replace lw1 := s9 _ _ lw1
    replace l8 := s9 _ _ l8
    clear hq8
    replace TS := TS.snoc (th_pair (SqT.of l9) (pt_tup B.hP (int_nat _) (by rw [hlN]; omega)) (pt_lst (SqL.of l8)))
    refine ⟨_, rfl, by show 1 ≤ sizeLine; decide, fun q9 hq9 => ?_⟩
    have s10 : Same B2 (upd B2 q9 (.tup [.ref pa])) := Same.upd hq9
    have l10 : upd B2 q9 (HO.tup [.ref pa]) q9 = some (.tup [.ref pa]) := upd_same
    generalize upd B2 q9 (HO.tup [.ref pa]) = B3 at s10 l10 ⊢
    replace B := B.mono s10
    replace TS := TS.mono s10
    replace lw1 := s10 _ _ lw1
    clear hq9
    replace TS := TS.snoc (th_tup (SqT.of l10) (by show 1 ≠ 2; decide))
    replace TS := TS.snoc (th_non)
    refine ⟨_, rfl, _, rfl, by show 0 ≤ sizeLine; decide, fun q10 hq10 => ?_⟩
    have s11 : Same B3 (upd B3 q10 (.tup [])) := Same.upd hq10
    have l11 : upd B3 q10 (HO.tup []) q10 = some (.tup []) := upd_same
    generalize upd B3 q10 (HO.tup []) = B4 at s11 l11 ⊢
    replace B := B.mono s11
    replace TS := TS.mono s11
    replace lw1 := s11 _ _ lw1
    clear hq10
    refine ⟨by show 3 ≤ sizeLine; decide, fun q11 hq11 => ?_⟩
    have s12 : Same B4 (upd B4 q11 (.tup [.ref pa, .ref ra, .ref q10])) := Same.upd hq11
    have l12 : upd B4 q11 (HO.tup [.ref pa, .ref ra, .ref q10]) q11 = some (.tup [.ref pa, .ref ra, .ref q10]) := upd_same
    generalize upd B4 q11 (HO.tup [.ref pa, .ref ra, .ref q10]) = B5 at s12 l12 ⊢
    replace B := B.mono s12
    replace TS := TS.mono s12
    replace lw1 := s12 _ _ lw1
    clear hq11
    replace TS := TS.snoc (th_tup (SqT.of l12) (by show 3 ≠ 2; decide))
    refine ⟨_, rfl, pa, _, rfl, B.hP, fun q12 hq12 => ?_⟩
    have s13 : Same B5 (upd B5 q12 (.tup (natV ps).reverse)) := Same.upd hq12
    have l13 : upd B5 q12 (HO.tup (natV ps).reverse) q12 = some (.tup (natV ps).reverse) := upd_same
    generalize upd B5 q12 (HO.tup (natV ps).reverse) = B6 at s13 l13 ⊢
    replace B := B.mono s13
    replace TS := TS.mono s13
    replace lw1 := s13 _ _ lw1
    clear hq12
    refine ⟨_, rfl, by show 2 ≤ sizeLine; decide, fun q13 hq13 => ?_⟩
    have s14 : Same B6 (upd B6 q13 (.tup [.ref q12, .ref ra])) := Same.upd hq13
    have l14 : upd B6 q13 (HO.tup [.ref q12, .ref ra]) q13 = some (.tup [.ref q12, .ref ra]) := upd_same
    generalize upd B6 q13 (HO.tup [.ref q12, .ref ra]) = B7 at s14 l14 ⊢
    replace B := B.mono s14
    replace TS := TS.mono s14
    replace lw1 := s14 _ _ lw1
    replace l13 := s14 _ _ l13
    clear hq13
    replace TS := TS.snoc (th_pair (SqT.of l14) (pt_tup (SqT.of l13) (fun v hv => int_nat _ v (List.mem_reverse.mp hv)) (by rw [List.length_reverse, hlN]; omega)) (pt_tup B.hA (int_nat _) (by rw [hlN]; omega)))
    refine ⟨by show 1 ≤ sizeLine; decide, fun q14 hq14 => ?_⟩
    have s15 : Same B7 (upd B7 q14 (.tup [.bl true])) := Same.upd hq14
    have l15 : upd B7 q14 (HO.tup [.bl true]) q14 = some (.tup [.bl true]) := upd_same
    generalize upd B7 q14 (HO.tup [.bl true]) = B8 at s15 l15 ⊢
    replace B := B.mono s15
    replace TS := TS.mono s15
    replace lw1 := s15 _ _ lw1
    clear hq14
    refine ⟨_, rfl, by show 2 ≤ sizeLine; decide, fun q15 hq15 => ?_⟩
    have s16 : Same B8 (upd B8 q15 (.tup [.ref q14, .ref ra])) := Same.upd hq15
    have l16 : upd B8 q15 (HO.tup [.ref q14, .ref ra]) q15 = some (.tup [.ref q14, .ref ra]) := upd_same
    generalize upd B8 q15 (HO.tup [.ref q14, .ref ra]) = B9 at s16 l16 ⊢
    replace B := B.mono s16
    replace TS := TS.mono s16
    replace lw1 := s16 _ _ lw1
    replace l15 := s16 _ _ l15
    clear hq15
    replace TS := TS.snoc (th_pair (SqT.of l16) (pt_tup (SqT.of l15) (fun v hv => by rw [List.mem_singleton.mp hv]; exact ⟨_, .bl _⟩) (by show 1 ≤ 1000; decide)) (pt_tup B.hA (int_nat _) (by rw [hlN]; omega)))
    refine ⟨by show 6 ≤ sizeLine; decide, fun w2 hw2 => ?_⟩
    have s17 : Same B9 (upd B9 w2 (.lst [.ref q8, .ref q9, .non, .ref q11, .ref q13, .ref q15])) := Same.upd hw2
    have l17 : upd B9 w2 (HO.lst [.ref q8, .ref q9, .non, .ref q11, .ref q13, .ref q15]) w2 = some (.lst [.ref q8, .ref q9, .non, .ref q11, .ref q13, .ref q15]) := upd_same
    generalize upd B9 w2 (HO.lst [.ref q8, .ref q9, .non, .ref q11, .ref q13, .ref q15]) = C0 at s17 l17 ⊢
    replace B := B.mono s17
    replace TS := TS.mono s17
    replace lw1 := s17 _ _ lw1
    clear hw2
    refine ⟨w1, w2, _, _, rfl, rfl, lw1, l17, by show 12 ≤ sizeLine; decide, fun w3 hw3 => ?_⟩
    generalize hv1 : ([V.ref q1, .ref q2, .ref q3, .ref q4, .ref q5, .ref q6] ++ [V.ref q8, .ref q9, .non, .ref q11, .ref q13, .ref q15] : List V) = vs1
    replace TS : OkL K C0 vs1 := by rw [← hv1]; exact TS
    have hl1 : vs1.length = 12 := by rw [← hv1]; rfl
    clear lw1
    have s18 : Same C0 (upd C0 w3 (.lst vs1)) := Same.upd hw3
    have l18 : upd C0 w3 (HO.lst vs1) w3 = some (.lst vs1) := upd_same
    generalize upd C0 w3 (HO.lst vs1) = C1 at s18 l18 ⊢
    replace B := B.mono s18
    replace TS := TS.mono s18
    clear hw3
    have lw3 := l18
    refine ⟨_, rfl, ?_⟩
    refine ⟨_, rfl, pa, _, rfl, B.hP, fun u6a c6a C2a s6a k6a m6a z6a => ?_⟩
    replace B := B.mono s6a
    replace TS := TS.mono s6a
    replace lw3 := s6a _ _ lw3
    have o6a : PtOk K C2a (.ref u6a) := pt_tup k6a (fun v hv => int_nat _ v (m6a v hv)) (by rw [hlN] at z6a; omega)
    refine ⟨_, rfl, ra, _, rfl, B.hA, fun u6b c6b C2b s6b k6b m6b z6b => ?_⟩
    replace B := B.mono s6b
    replace TS := TS.mono s6b
    replace lw3 := s6b _ _ lw3
    replace o6a := o6a.mono s6b
    have o6b : PtOk K C2b (.ref u6b) := pt_tup k6b (fun v hv => int_nat _ v (m6b v hv)) (by rw [hlN] at z6b; omega)
    refine ⟨by show 2 ≤ sizeLine; decide, fun q16 hq16 => ?_⟩
    have s19 : Same C2b (upd C2b q16 (.tup [.ref u6a, .ref u6b])) := Same.upd hq16
    have l19 : upd C2b q16 (HO.tup [.ref u6a, .ref u6b]) q16 = some (.tup [.ref u6a, .ref u6b]) := upd_same
    generalize upd C2b q16 (HO.tup [.ref u6a, .ref u6b]) = C2 at s19 l19 ⊢
    replace B := B.mono s19
    replace TS := TS.mono s19
    replace lw3 := s19 _ _ lw3
    clear hq16
    replace TS := TS.snoc (th_pair (SqT.of l19) (o6a.mono s19) (o6b.mono s19))
    refine ⟨_, rfl, _, rfl, ra, rfl, ⟨_, B.hA⟩, fun D2 hD2 => ?_⟩
    refine lc_tup (K := K) (a := ra) (xs := natV rs) (fun i H4 => Same C2 H4 ∧ H4 D2 = some (.lst (((rs.take i).map fun n : Nat => (n : Int) - 1).map V.int))) ⟨Same.upd hD2, upd_same⟩ (fun i H4 _ z => sqt_same z.1 B.hA) ?_ ?_
    · rintro i v H4 hv ⟨S4, lD⟩
      obtain ⟨n, rfl, hn⟩ := natV_at hv
      refine ⟨rfl, ?_⟩
      refine ⟨_, rfl, _, _, rfl, rfl, _, lD, ?_, EX.Same.updN S4 hD2, ?_⟩
      · rw [List.length_map, List.length_map, List.length_take, sizeLine_eq]
        omega
      · rw [upd_same, List.take_add_one, hn, List.map_append, List.map_append]
        rfl
    rintro C3 ⟨S3, lD2⟩
    rw [hlN, List.take_length] at lD2
    replace B := B.mono S3
    replace TS := TS.mono S3
    replace lw3 := S3 _ _ lw3
    refine ⟨D2, _, rfl, .inl ⟨SqL.of lD2, fun q17 hq17 => ?_⟩⟩
    have s20 : Same C3 (upd C3 q17 (.tup ((rs.map fun n : Nat => (n : Int) - 1).map V.int))) := Same.upd hq17
    have l20 : upd C3 q17 (HO.tup ((rs.map fun n : Nat => (n : Int) - 1).map V.int)) q17 = some (.tup ((rs.map fun n : Nat => (n : Int) - 1).map V.int)) := upd_same
    generalize upd C3 q17 (HO.tup ((rs.map fun n : Nat => (n : Int) - 1).map V.int)) = C4 at s20 l20 ⊢
    replace B := B.mono s20
    replace TS := TS.mono s20
    replace lw3 := s20 _ _ lw3
    clear hq17
    refine ⟨by show 2 ≤ sizeLine; decide, fun q18 hq18 => ?_⟩
    have s21 : Same C4 (upd C4 q18 (.tup [.ref pa, .ref q17])) := Same.upd hq18
    have l21 : upd C4 q18 (HO.tup [.ref pa, .ref q17]) q18 = some (.tup [.ref pa, .ref q17]) := upd_same
    generalize upd C4 q18 (HO.tup [.ref pa, .ref q17]) = C5 at s21 l21 ⊢
    replace B := B.mono s21
    replace TS := TS.mono s21
    replace lw3 := s21 _ _ lw3
    replace l20 := s21 _ _ l20
    clear hq18
    replace TS := TS.snoc (th_pair (SqT.of l21) (pt_tup B.hP (int_nat _) (by rw [hlN]; omega)) (pt_tup (SqT.of l20) (int_int _) (by rw [List.length_map, List.length_map]; omega)))
    refine ⟨_, rfl, by show 1 ≤ sizeLine; decide, fun q19 hq19 => ?_⟩
    have s22 : Same C5 (upd C5 q19 (.tup [.int (-1)])) := Same.upd hq19
    have l22 : upd C5 q19 (HO.tup [.int (-1)]) q19 = some (.tup [.int (-1)]) := upd_same
    generalize upd C5 q19 (HO.tup [.int (-1)]) = C6 at s22 l22 ⊢
    replace B := B.mono s22
    replace TS := TS.mono s22
    replace lw3 := s22 _ _ lw3
    clear hq19
    refine ⟨by show 1 ≤ sizeLine; decide, fun q20 hq20 => ?_⟩
    have s23 : Same C6 (upd C6 q20 (.tup [.int 0])) := Same.upd hq20
    have l23 : upd C6 q20 (HO.tup [.int 0]) q20 = some (.tup [.int 0]) := upd_same
    generalize upd C6 q20 (HO.tup [.int 0]) = C7 at s23 l23 ⊢
    replace B := B.mono s23
    replace TS := TS.mono s23
    replace lw3 := s23 _ _ lw3
    replace l22 := s23 _ _ l22
    clear hq20
    refine ⟨by show 2 ≤ sizeLine; decide, fun q21 hq21 => ?_⟩
    have s24 : Same C7 (upd C7 q21 (.tup [.ref q19, .ref q20])) := Same.upd hq21
    have l24 : upd C7 q21 (HO.tup [.ref q19, .ref q20]) q21 = some (.tup [.ref q19, .ref q20]) := upd_same
    generalize upd C7 q21 (HO.tup [.ref q19, .ref q20]) = C8 at s24 l24 ⊢
    replace B := B.mono s24
    replace TS := TS.mono s24
    replace lw3 := s24 _ _ lw3
    replace l22 := s24 _ _ l22
    replace l23 := s24 _ _ l23
    clear hq21
    replace TS := TS.snoc (th_pair (SqT.of l24) (pt_tup (SqT.of l22) (int_int [-1]) (by show 1 ≤ 1000; decide)) (pt_tup (SqT.of l23) (int_int [0]) (by show 1 ≤ 1000; decide)))
    refine ⟨by show 3 ≤ sizeLine; decide, fun w4 hw4 => ?_⟩
    have s25 : Same C8 (upd C8 w4 (.lst [.ref q16, .ref q18, .ref q21])) := Same.upd hw4
    have l25 : upd C8 w4 (HO.lst [.ref q16, .ref q18, .ref q21]) w4 = some (.lst [.ref q16, .ref q18, .ref q21]) := upd_same
    generalize upd C8 w4 (HO.lst [.ref q16, .ref q18, .ref q21]) = C9 at s25 l25 ⊢
    replace B := B.mono s25
    replace TS := TS.mono s25
    replace lw3 := s25 _ _ lw3
    clear hw4
    refine ⟨w3, w4, _, _, rfl, rfl, lw3, l25, by rw [hl1]; show 15 ≤ sizeLine; decide, fun w5 hw5 => ?_⟩
    generalize hv2 : (vs1 ++ [V.ref q16, .ref q18, .ref q21] : List V) = vs2
    replace TS : OkL K C9 vs2 := by rw [← hv2]; simpa using TS
    have hl2 : vs2.length = 15 := by rw [← hv2, List.length_append, hl1]; rfl
    clear lw3
    have s26 : Same C9 (upd C9 w5 (.lst vs2)) := Same.upd hw5
    have l26 : upd C9 w5 (HO.lst vs2) w5 = some (.lst vs2) := upd_same
    generalize upd C9 w5 (HO.lst vs2) = E0 at s26 l26 ⊢
    replace B := B.mono s26
    replace TS := TS.mono s26
    clear hw5
    have lw5 := l26
    have nw5 : w5 ≠ p := fun z => by
      have := B.lp
      rw [← z, lw5] at this
      have e := HO.lst.inj (Option.some.inj this)
      have := congrArg List.length e
      rw [hl2] at this
      cases this
    refine ⟨_, rfl, pa, rfl, ⟨_, B.hP⟩, fun D3 hD3 => ?_⟩
    have nD3p : D3 ≠ p := fun z => by rw [z, B.lp] at hD3; cases hD3
    refine lc_tup (K := K) (a := pa) (xs := natV ps) (fun i H4 => But p E0 H4 ∧ (∃ x y, H4 p = some (.lst [.int x, .int y]) ∧ SrcOk x y) ∧ ∃ ns : List Int, H4 D3 = some (.lst (ns.map V.int)) ∧ ns.length = i)
      ⟨fun b o n e => by rw [upd_ne (ne_of_none e hD3)]; exact e, ⟨x2, y2, by rw [upd_ne (Ne.symm nD3p)]; exact B.lp, src2⟩, [], upd_same, rfl⟩ (fun i H4 _ z => z.1.sqt B.lp B.hP) ?_ ?_
    · rintro i v H4 hv ⟨b4, ⟨x4, y4, lp4, src4⟩, ns, lD, hns⟩
      obtain ⟨n, rfl, hn⟩ := natV_at hv
      have hi := (List.getElem?_eq_some_iff.mp hn).1
      refine ⟨rfl, ?_⟩
      refine ⟨_, rfl, _, _, rfl, rfl, _, rfl, p, x4, y4, 2, rfl, lp4, src4, by decide, by decide, fun x5 y5 dd src5 d0 d1 => ?_⟩
      have b5 : But p E0 (upd H4 p (.lst [.int x5, .int y5])) := fun b o hb e => by rw [upd_ne hb]; exact b4 b o hb e
      have lp5 : upd H4 p (HO.lst [.int x5, .int y5]) p = some (.lst [.int x5, .int y5]) := upd_same
      have lD5 : upd H4 p (HO.lst [.int x5, .int y5]) D3 = some (.lst (ns.map V.int)) := by rw [upd_ne nD3p]; exact lD
      generalize upd H4 p (HO.lst [.int x5, .int y5]) = H5 at b5 lp5 lD5 ⊢
      refine ⟨_, _, rfl, rfl, Or.inl ⟨by omega, by omega⟩, _, _, rfl, rfl, _, lD5, ?_, fun b o hb e => ?_, ⟨x5, y5, by rw [upd_ne (Ne.symm nD3p)]; exact lp5, src5⟩, ns ++ [(n : Int) + 1 - 2 * dd], ?_, ?_⟩
      · rw [List.length_map, hns, sizeLine_eq]
        omega
      · rw [upd_ne (ne_of_none e hD3)]
        exact b5 b o hb e
      · rw [upd_same, List.map_append]
        rfl
      · rw [List.length_append, hns]
        rfl
    rintro E1 ⟨b1, ⟨x6, y6, lp6, src6⟩, ns, lD3, hns⟩
    rw [hlN] at hns
    have hP := b1.sqt B.lp B.hP
    have hA := b1.sqt B.lp B.hA
    have hF := b1.sqt B.lp B.hF
    have bb : But p H E1 := fun b o n e => b1 b o n (B.but b o n e)
    replace TS : OkL K E1 vs2 := fun v hv => (TS v hv).but b1 B.lp lp6
    replace lw5 := b1 _ _ nw5 lw5
    clear B
    refine ⟨D3, _, rfl, .inl ⟨SqL.of lD3, fun q22 hq22 => ?_⟩⟩
    have s90 : Same E1 (upd E1 q22 (.tup (ns.map V.int))) := Same.upd hq22
    have l90 : upd E1 q22 (HO.tup (ns.map V.int)) q22 = some (.tup (ns.map V.int)) := upd_same
    generalize upd E1 q22 (HO.tup (ns.map V.int)) = E2 at s90 l90 ⊢
    refine ⟨_, rfl, _, rfl, _, rfl, by show 2 ≤ sizeLine; decide, fun q23 hq23 => ?_⟩
    have s91 : Same E2 (upd E2 q23 (.tup [.ref q22, .ref ra])) := Same.upd hq23
    have l91 : upd E2 q23 (HO.tup [.ref q22, .ref ra]) q23 = some (.tup [.ref q22, .ref ra]) := upd_same
    generalize upd E2 q23 (HO.tup [.ref q22, .ref ra]) = E3 at s91 l91 ⊢
    refine ⟨_, rfl, by show 2 ≤ sizeLine; decide, fun w6 hw6 => ?_⟩
    have s92 : Same E3 (upd E3 w6 (.lst [.ref q23, .ref r])) := Same.upd hw6
    have l92 : upd E3 w6 (HO.lst [.ref q23, .ref r]) w6 = some (.lst [.ref q23, .ref r]) := upd_same
    generalize upd E3 w6 (HO.lst [.ref q23, .ref r]) = E4 at s92 l92 ⊢
    have s14 := Same.trans s90 (Same.trans s91 s92)
    have s13 := Same.trans s91 s92
    refine ⟨w5, w6, _, _, rfl, rfl, s14 _ _ lw5, l92, by rw [hl2]; show 17 ≤ sizeLine; decide, fun w7 hw7 => ?_⟩
    replace TS : OkL K E4 (vs2 ++ [.ref q23, .ref r]) := fun v hv => by
      rcases List.mem_append.mp hv with hv | hv
      · exact (TS v hv).mono s14
      · rcases List.mem_cons.mp hv with rfl | hv
        · exact th_pair (SqT.of (s92 _ _ l91)) (pt_tup (SqT.of (s13 _ _ l90)) (int_int _) (by rw [List.length_map]; omega)) (pt_tup (sqt_same s14 hA) (int_nat _) (by rw [hlN]; omega))
        · rw [List.mem_singleton.mp hv]
          exact th_pair (sqt_same s14 hF) (pt_tup (sqt_same s14 hP) (int_nat _) (by rw [hlN]; omega)) (pt_tup (sqt_same s14 hA) (int_nat _) (by rw [hlN]; omega))
    have s93 : Same E4 (upd E4 w7 (.lst (vs2 ++ [.ref q23, .ref r]))) := Same.upd hw7
    have l93 : upd E4 w7 (HO.lst (vs2 ++ [.ref q23, .ref r])) w7 = some (.lst (vs2 ++ [.ref q23, .ref r])) := upd_same
    have hl3 : (vs2 ++ [V.ref q23, .ref r]).length = 17 := by rw [List.length_append, hl2]; rfl
    replace TS := TS.mono s93
    generalize upd E4 w7 (HO.lst (vs2 ++ [.ref q23, .ref r])) = E5 at s93 l93 TS ⊢
    have s15 := Same.trans s14 s93
    replace bb : But p H E5 := fun b o n e => s15 _ _ (bb b o n e)
    replace lp6 := s15 _ _ lp6
    generalize vs2 ++ [V.ref q23, .ref r] = vs3 at l93 TS hl3
    have nw7 : w7 ≠ p := fun z => by
      rw [z, lp6] at l93
      have := congrArg List.length (HO.lst.inj (Option.some.inj l93))
      rw [hl3] at this
      cases this
    refine ⟨_, rfl, p, x6, y6, 17, rfl, lp6, src6, by decide, by decide, fun x7 y7 dd src7 d0 d1 => ?_⟩
    obtain ⟨j, rfl⟩ := Int.eq_ofNat_of_zero_le d0
    have hj : j < vs3.length := by omega
    have b6 : But p E5 (upd E5 p (.lst [.int x7, .int y7])) := fun b o hb e => by rw [upd_ne hb]; exact e
    refine ⟨w7, _, _, _, rfl, rfl, SqL.of (b6 _ _ nw7 l93), atI_nat (List.getElem?_eq_getElem hj), ?_⟩
    exact k _ x7 y7 _ (fun b o n e => b6 b o n (bb b o n e)) upd_same src7 ((TS _ (List.getElem_mem hj)).but b6 lp6 upd_same)
end
end K73
set_option Elab.async false
set_option linter.all false
set_option maxRecDepth 100000
set_option maxHeartbeats 4000000
namespace K73
open PySem L2 EX PyProof.Rows M72
/-- the calls as they stand -/
abbrev CallsAt (K : PySem.W.Frag) (H : Hp) : List Addr → List (Nat × Nat) → Prop := Paired fun (u : Addr) (z : Nat × Nat) => SqT K H u [.int (z.1 : Nat), .int (z.2 : Nat)]
theorem CallsAt.mono {K : PySem.W.Frag} {H H' : Hp} (s : Same H H') : ∀ {ts : List Addr} {l : List (Nat × Nat)}, CallsAt K H ts l → CallsAt K H' ts l
  | _, _, .nil => .nil
  | _, _, .cons h t => .cons (sqt_same s h) (CallsAt.mono s t)
theorem CallsAt.but {K : PySem.W.Frag} {H H' : Hp} {q : Addr} {ys : List V} (s : But q H H') (hq : H q = some (.lst ys)) : ∀ {ts : List Addr} {l : List (Nat × Nat)}, CallsAt K H ts l → CallsAt K H' ts l
  | _, _, .nil => .nil
  | _, _, .cons h t => .cons (s.sqt hq h) (CallsAt.but s hq t)
theorem CallsAt.snoc {K : PySem.W.Frag} {H : Hp} {ts : List Addr} {l : List (Nat × Nat)} {u : Addr} {z : Nat × Nat} (h : CallsAt K H ts l) (e : SqT K H u [.int (z.1 : Nat), .int (z.2 : Nat)]) : CallsAt K H (ts ++ [u]) (l ++ [z]) := Paired.snoc h e
/-- what is chosen -/
def cF (cs : List Nat) (i : Nat) : Bool := decide (cs.getD i 0 = 1)
theorem cF_get {cs : List Nat} {i n : Nat} (h : cs[i]? = some n) : cF cs i = decide (n = 1) := by
  unfold cF
  rw [List.getD_eq_getElem?_getD, h]
  rfl
theorem calls_w {its : List Item} {c : Nat → Bool} {i : Nat} (h : its[i]? = some .w) : callsTo its c (i + 1) = callsTo its c i ++ [(i, (runSt its c i).age + 1)] := by
  show callsTo its c i ++ (if isW its[i]? = true then _ else _) = _
  rw [h]
  rfl
theorem calls_r {its : List Item} {c : Nat → Bool} {i n : Nat} (h : its[i]? = some (.r n)) : callsTo its c (i + 1) = callsTo its c i := by
  show callsTo its c i ++ (if isW its[i]? = true then _ else _) = _
  rw [h]
  exact List.append_nil _
theorem calls_len (its : List Item) (c : Nat → Bool) : ∀ i, (callsTo its c i).length ≤ i
  | 0 => Nat.le_refl _
  | i + 1 => by
    have := calls_len its c i
    show (callsTo its c i ++ (if isW its[i]? = true then _ else _)).length ≤ _
    rw [List.length_append]
    split <;> simp <;> omega
/-- _law_run(sequence, choice) -/
def spRun (K : PySem.W.Frag) : Sp := fun vs H Q _ => ∃ (a b : Addr) (xs : List V) (its : List Item) (cs : List Nat), vs = [.ref a, .ref b] ∧ SqL K H a xs ∧ SeqV K H xs its ∧ xs.length ≤ 1000 ∧ SqL K H b (natV cs) ∧ cs.length = xs.length ∧ (∀ n ∈ cs, n ≤ 1) ∧
  ∀ (q t l : Addr) (ts : List Addr) (H' : Hp), Same H H' → H' q = some (.lst [.ref t, .ref l]) → H' t = some (.tup [.int ((runSt its (cF cs) its.length).p : Int), .int ((runSt its (cF cs) its.length).q : Int)]) → H' l = some (.lst (ts.map V.ref)) → CallsAt K H' ts (callsTo its (cF cs) its.length) → Q (.ref q) H'
abbrev sRn : Stmt := top 24
theorem scRn : FnScope ["_law_sequence_here", "_law_choice", "_law_pushes", "_law_questions", "_law_age", "_law_calls", "_law_at"] ["_law_sequence_here", "_law_choice"] (defScope sRn) := ⟨rfl, rfl, rfl, by decide +kernel, rfl, by decide +kernel, by decide +kernel⟩
section
variable {P : Program} {w : World} {K : PySem.W.Frag} {mg : Str → Option Value} {base : Heap}
theorem ok_lrun {f : Addr} {fd : FuncData} (F : Fun K "_law_run" "_law_run" sRn f fd) (B : Bn mg) : FnOk P w K mg base CX0 1 f fd ["_law_sequence_here", "_law_choice"] (spRun K) := by
  refine F.ok scRn (fun vs H Q E h => ?_) (fun cdv A outer s H vs Q E hr h => ?_)
  · obtain ⟨a, b, xs, its, cs, rfl, _⟩ := h
    rfl
  · obtain ⟨a, b, xs, its, cs, rfl, ha, sv, hl, hb, hlc, hc1, k⟩ := h
    have hu64 : _ + 64 < cLine := hr.units
    have hlen : xs.length = its.length := Paired.length sv
    refine ⟨_, (pss_cons (ps_asg (pe_tup (pa_cons pe_int (pa_cons pe_int (pa_cons pe_int (pa_cons (pe_lst pa_nil) pa_nil))))) (pg_tup rfl (pgs_cons (pg_name (i := 2) scRn.nd rfl (Or.inl rfl)) (pgs_cons (pg_name (i := 3) scRn.nd rfl (Or.inl rfl)) (pgs_cons (pg_name (i := 4) scRn.nd rfl (Or.inl rfl)) (pgs_cons (pg_name (i := 5) scRn.nd rfl (Or.inl rfl)) pgs_nil))))))
          (pss_cons (ps_for PassesOwn.never rfl (pi_range1 (by rfl) B.range (pa_cons (pe_callB call_len_seq (by rfl) B.len PySem.boot_len (pa_cons (pv 0) pa_nil)) pa_nil)) (pg_name (i := 6) scRn.nd rfl (Or.inl rfl)) (pss_one (ps_if (pt_cmpR (op_eqD hu64) (pe_ix ix_list (pv 0) (pv 6) (fun _ _ => rfl)) pe_str (nomark _)) (pss_cons (ps_set (i := 4) scRn.nd rfl (Or.inl rfl) (pe_op op_add (pv 4) pe_int))
          (pss_cons (ps_expr (pe_bm PySem.F.plainAttrs_list PySem.F.slot_list_append PySem.F.type_list_append mt_append (pv 5) (pa_cons (pe_tup (pa_cons (pv 6) (pa_cons (pv 4) pa_nil))) pa_nil)))
          (pss_one (ps_if (pt_truth (pe_ix ix_list (pv 1) (pv 6) (fun _ _ => rfl)) (by intro _; rfl)) (pss_one (ps_par (i := 2) (j := 4) (by rfl) scRn.nd rfl rfl (by decide) rfl rfl (pa_cons (pe_op op_add (pv 2) pe_int) (pa_cons pe_int pa_nil)) (by rfl))) pss_nil)))) (pss_one (ps_if (pt_cmpR op_lt (pe_ix ix_tup (pe_ix ix_list (pv 0) (pv 6) (fun _ _ => rfl)) pe_int (fun _ _ => rfl)) (pv 4) (nomark _)) (pss_one (ps_par (i := 3) (j := 4) (by rfl) scRn.nd rfl rfl (by decide) rfl rfl (pa_cons (pe_op op_add (pv 3) pe_int) (pa_cons pe_int pa_nil)) (by rfl))) pss_nil)))))
          (pss_one (ps_ret (pe_lst (pa_cons (pe_tup (pa_cons (pv 2) (pa_cons (pv 3) pa_nil))) (pa_cons (pv 5) pa_nil))))))), ?_⟩
    refine ⟨by show 0 ≤ sizeLine; decide, fun lc hlc0 => ?_⟩
    have s1 : Same H (upd H lc (.lst [])) := Same.upd hlc0
    have l1 : upd H lc (HO.lst []) lc = some (.lst []) := upd_same
    generalize upd H lc (HO.lst []) = H1 at s1 l1 ⊢
    refine ⟨by show 4 ≤ sizeLine; decide, fun T hT => ?_⟩
    have s2 : Same H1 (upd H1 T (.tup [.int 0, .int 0, .int 0, .ref lc])) := Same.upd hT
    have lT : upd H1 T (HO.tup [.int 0, .int 0, .int 0, .ref lc]) T = some (.tup [.int 0, .int 0, .int 0, .ref lc]) := upd_same
    generalize upd H1 T (HO.tup [.int 0, .int 0, .int 0, .ref lc]) = H2 at s2 lT ⊢
    refine ⟨T, _, rfl, SqT.of lT, rfl, _, _, rfl, _, _, rfl, _, _, rfl, _, _, rfl, rfl, ?_⟩
    have S2 := Same.trans s1 s2
    have l2 := s2 _ _ l1
    clear s1 l1 s2 lT
    have nk : ∀ {H' : Hp}, But lc H H' → Same H H' := fun b c o e => b c o (fun z => by rw [z, hlc0] at e; cases e) e
    refine ⟨_, rfl, a, _, rfl, .inl (S2.seq ha), _, rfl, by omega, by omega, ?_⟩
    refine for_range (fun i σ H' => ∃ (v6 : Option V) (ts : List Addr), σ = [some (.ref a), some (.ref b), some (.int ((runSt its (cF cs) i).p : Int)), some (.int ((runSt its (cF cs) i).q : Int)), some (.int ((runSt its (cF cs) i).age : Int)), some (.ref lc), v6] ∧ But lc H H' ∧ H' lc = some (.lst (ts.map V.ref)) ∧ CallsAt K H' ts (callsTo its (cF cs) i))
      ⟨_, [], rfl, fun b o _ e => S2 _ _ e, l2, .nil⟩ ?_ ?_
    · rintro i σ H' hi ⟨v6, ts, rfl, bb, lL, ca⟩
      have hi : i < xs.length := by simpa using hi
      have S := nk bb
      obtain ⟨x, it, e1, e2, hit⟩ := getI (sv.mono S) (i := i) hi
      obtain ⟨d, hd, hsh, heq⟩ := eqW hit
      have at_ : atI xs (0 + (i : Int)) = some x := by rw [Int.zero_add]; exact atI_nat e1
      have htl : ts.length ≤ 1000 := by
        have := calls_len its (cF cs) i
        rw [← Paired.length ca] at this
        omega
      refine ⟨_, rfl, _, rfl, a, _, _, _, rfl, rfl, S.seq ha, at_, d, _, hd, .str _, hsh, okWrite, _, rfl, ?_⟩
      rw [heq]
      cases hit with
      | w =>
        refine iteT ?_
        refine ⟨_, rfl, _, _, rfl, rfl, ?_⟩
        refine ⟨_, rfl, .inl ⟨rfl, _, SqL.of lL⟩, _, rfl, _, rfl, by show 2 ≤ sizeLine; decide, fun u hu => ?_⟩
        dsimp only
        rw [show (0 + (i : Int)) = ((i : Nat) : Int) by omega, show ((runSt its (cF cs) i).age : Int) + 1 = (((runSt its (cF cs) i).age + 1 : Nat) : Int) by omega]
        have s3 : Same H' (upd H' u (.tup [.int ((i : Nat) : Int), .int (((runSt its (cF cs) i).age + 1 : Nat) : Int)])) := Same.upd hu
        have lu : upd H' u (HO.tup [.int ((i : Nat) : Int), .int (((runSt its (cF cs) i).age + 1 : Nat) : Int)]) u = some (.tup [.int ((i : Nat) : Int), .int (((runSt its (cF cs) i).age + 1 : Nat) : Int)]) := upd_same
        generalize upd H' u (HO.tup [.int ((i : Nat) : Int), .int (((runSt its (cF cs) i).age + 1 : Nat) : Int)]) = H3 at s3 lu ⊢
        have lL3 := s3 _ _ lL
        refine ⟨lc, _, _, rfl, rfl, lL3, by rw [List.length_map, sizeLine_eq]; omega, ?_⟩
        have b4 : But lc H3 (upd H3 lc (.lst (ts.map V.ref ++ [.ref u]))) := fun c o n e => by rw [upd_ne n]; exact e
        have bb4 : But lc H (upd H3 lc (.lst (ts.map V.ref ++ [.ref u]))) := fun c o n e => b4 c o n (s3 _ _ (bb c o n e))
        have l4 : upd H3 lc (HO.lst (ts.map V.ref ++ [.ref u])) lc = some (.lst ((ts ++ [u]).map V.ref)) := by rw [upd_same, List.map_append]; rfl
        have ca4 : CallsAt K (upd H3 lc (.lst (ts.map V.ref ++ [.ref u]))) (ts ++ [u]) (callsTo its (cF cs) (i + 1)) := by
          rw [calls_w e2]
          exact CallsAt.snoc (CallsAt.but b4 lL3 (ca.mono s3)) (z := (i, (runSt its (cF cs) i).age + 1)) (b4.sqt lL3 (SqT.of lu))
        generalize upd H3 lc (HO.lst (ts.map V.ref ++ [.ref u])) = H4 at bb4 l4 ca4 ⊢
        obtain ⟨n, hn⟩ : ∃ n, cs[i]? = some n := ⟨_, List.getElem?_eq_getElem (by omega)⟩
        have hn1 := hc1 n (List.mem_of_getElem? hn)
        refine ⟨_, rfl, _, rfl, b, _, _, _, rfl, rfl, (nk bb4).seq hb, atI_nat (natV_get hn), _, rfl, ?_⟩
        rw [show (((n : Nat) : Int) != 0) = cF cs i by
          rw [cF_get hn]
          obtain rfl | rfl : n = 0 ∨ n = 1 := by omega
          · rfl
          · rfl]
        cases hci : cF cs i with
        | true =>
          refine iteT ?_
          refine ⟨_, rfl, _, _, rfl, rfl, _, _, rfl, some (.int ((i : Nat) : Int)), ts ++ [u], ?_, bb4, l4, ca4⟩
          rw [run_w1 e2 hci]
          rfl
        | false =>
          refine iteF ⟨some (.int ((i : Nat) : Int)), ts ++ [u], ?_, bb4, l4, ca4⟩
          rw [run_w0 e2 (by rw [hci]; exact fun z => nomatch z)]
          rfl
      | @r t n ht =>
        refine iteF ?_
        have ca' : CallsAt K H' ts (callsTo its (cF cs) (i + 1)) := by
          rw [calls_r e2]
          exact ca
        refine ⟨_, rfl, _, rfl, a, _, _, _, rfl, rfl, S.seq ha, at_, t, _, _, _, rfl, rfl, ht, atI_nat (j := 1) rfl, _, rfl, _, _, rfl, rfl, _, rfl, ite2 (fun z => ?_) (fun z => ?_)⟩
        · have hn : n < (runSt its (cF cs) i).age := by
            have := of_decide_eq_true z
            omega
          refine ⟨_, rfl, _, _, rfl, rfl, _, _, rfl, some (.int (0 + (i : Int))), ts, ?_, bb, lL, ca'⟩
          rw [run_r1 e2 hn]
          rfl
        · have hn : ¬ n < (runSt its (cF cs) i).age := fun y => z (decide_eq_true (by omega))
          refine ⟨some (.int (0 + (i : Int))), ts, ?_, bb, lL, ca'⟩
          rw [run_r0 e2 hn]
          rfl
    · rintro σ H' ⟨v6, ts, rfl, bb, lL, ca⟩
      rw [show ((xs.length : Nat) : Int).toNat = its.length by rw [hlen]; rfl] at *
      refine ⟨_, rfl, _, rfl, by show 2 ≤ sizeLine; decide, fun t ht => ?_⟩
      have s5 : Same H' (upd H' t (.tup [.int ((runSt its (cF cs) its.length).p : Int), .int ((runSt its (cF cs) its.length).q : Int)])) := Same.upd ht
      have lt : upd H' t (HO.tup [.int ((runSt its (cF cs) its.length).p : Int), .int ((runSt its (cF cs) its.length).q : Int)]) t = some (.tup [.int ((runSt its (cF cs) its.length).p : Int), .int ((runSt its (cF cs) its.length).q : Int)]) := upd_same
      generalize upd H' t (HO.tup [.int ((runSt its (cF cs) its.length).p : Int), .int ((runSt its (cF cs) its.length).q : Int)]) = H5 at s5 lt ⊢
      refine ⟨_, rfl, by show 2 ≤ sizeLine; decide, fun q hq => ?_⟩
      have s6 : Same H5 (upd H5 q (.lst [.ref t, .ref lc])) := Same.upd hq
      have s56 := Same.trans s5 s6
      exact k q t lc ts _ (Same.trans (nk bb) s56) upd_same (s6 _ _ lt) (s56 _ _ lL) (ca.mono s56)
end
end K73
set_option Elab.async false
set_option linter.all false
set_option maxRecDepth 100000
set_option maxHeartbeats 4000000
namespace K73
open PySem L2 EX PyProof.Rows M72 LamX
def TRunE (K : PySem.W.Frag) : V → (V → V → Hp → VK → Prop) → Hp → VK → Prop := fun v0 tl H Q => ∃ a xs its c, TRun K a xs its c v0 tl H Q
theorem policy_givesE {X : Cx} {CS g : Addr} {cdg : Value} {q : Str} (B : Bn X.mg) (C : Bq X.mg) (GK : DefX X.prog X.w X.K X.mg X.base 3 "check_sequence" ["obj"] (spChkS X.K CS)) (hro : Room 4 X.A) :
    GivesTo2 X rpN "run_policy" (defScope sRp) g cdg (defBody sRp) "policy" "at" "age" 1 5 2 q (TRunE X.K) := by
  intro v0 f c' s H Q tl act hc h
  obtain ⟨a, xs, its, c, h⟩ := h
  exact policy_gives B C GK hro v0 f c' s H Q tl act hc h
/-- all but p and the tables of code objects is kept -/
def ButN (p : Addr) (H H' : Hp) : Prop := ∀ b o, b ≠ p → H b = some o → (∀ ps, o ≠ .tbl ps) → H' b = some o
theorem ButN.trans {p : Addr} {H H1 H2 : Hp} (a : ButN p H H1) (b : ButN p H1 H2) : ButN p H H2 := fun c o n e t => b c o n (a c o n e t) t
theorem ButN.of {p : Addr} {H H' : Hp} (e : ExtN H H') : ButN p H H' := fun b o _ h t => e b o h t
theorem ButN.but {p : Addr} {H H' : Hp} (e : But p H H') : ButN p H H' := fun b o n h _ => e b o n h
theorem ButN.sqt {K : PySem.W.Frag} {H H' : Hp} {p a : Addr} {xs ys : List V} (s : ButN p H H') (hp : H p = some (.lst ys)) (h : SqT K H a xs) : SqT K H' a xs := by
  have ne : ∀ {o}, H a = some o → o ≠ .lst ys → a ≠ p := fun {o} e d z => by rw [z, hp] at e; exact d (Option.some.inj e).symm
  rcases h with (h | ⟨o, h⟩) | h
  · exact .inl (.inl (s _ _ (ne h (fun z => by cases z)) h (fun _ z => by cases z)))
  · exact .inl (.inr ⟨o, s _ _ (ne h (fun z => by cases z)) h (fun _ z => by cases z)⟩)
  · exact .inr h
theorem SeqV.butN {K : PySem.W.Frag} {H H' : Hp} {p : Addr} {ys : List V} (s : ButN p H H') (hp : H p = some (.lst ys)) : ∀ {xs : List V} {its : List Item}, SeqV K H xs its → SeqV K H' xs its
  | _, _, .nil => .nil
  | _, _, .cons h t => .cons (by cases h with | w => exact .w | r h => exact .r (s.sqt hp h)) (SeqV.butN s hp t)
theorem SeqV.ext {K : PySem.W.Frag} {H H' : Hp} (s : ExtN H H') : ∀ {xs : List V} {its : List Item}, SeqV K H xs its → SeqV K H' xs its
  | _, _, .nil => .nil
  | _, _, .cons h t => .cons (by cases h with | w => exact .w | r h => exact .r (EX.ExtN.sqt s h)) (SeqV.ext s t)
/-! ### the calls as data -/
def dC (l : List (Nat × Nat)) : List PyData := l.map fun z => .tuple [.int (z.1 : Nat), .int (z.2 : Nat)]
theorem lay_dC : ∀ l, PyData.canLayAll0 (dC l) = true
  | [] => rfl
  | z :: l => by
    show (PyData.canLay0 (.tuple [.int (z.1 : Nat), .int (z.2 : Nat)]) && PyData.canLayAll0 (dC l)) = true
    rw [lay_dC l]
    rfl
theorem depth_dC : ∀ l, PyData.depthAll (dC l) ≤ 1
  | [] => Nat.zero_le _
  | z :: l => by
    show max (PyData.depth (.tuple [.int (z.1 : Nat), .int (z.2 : Nat)])) (PyData.depthAll (dC l)) ≤ 1
    have := depth_dC l
    have e : PyData.depth (.tuple [.int (z.1 : Nat), .int (z.2 : Nat)]) = 1 := rfl
    omega
theorem eqv_dC : ∀ l, PyData.eqvAll (dC l) (dC l) = true
  | [] => rfl
  | z :: l => by
    show ((((z.1 : Int) == (z.1 : Int)) && (((z.2 : Int) == (z.2 : Int)) && true)) && PyData.eqvAll (dC l) (dC l)) = true
    rw [eqv_dC l]
    simp
def dRun (p q : Int) (l : List (Nat × Nat)) : PyData := .list [.tuple [.int p, .int q], .list (dC l)]
theorem shaped_run (p q : Int) (l : List (Nat × Nat)) : SeqAt.shaped (dRun p q l) = true := by
  show ((true && (PyData.canLayAll0 (dC l) && true)) && decide (max 1 (max (PyData.depthAll (dC l) + 1) 0) + 1 ≤ 64)) = true
  rw [lay_dC l]
  have := depth_dC l
  simp
  omega
theorem eqv_run (p q : Int) (l : List (Nat × Nat)) : PyData.eqv (dRun p q l) (dRun p q l) = true := by
  show (((p == p) && ((q == q) && true)) && (PyData.eqvAll (dC l) (dC l) && true)) = true
  rw [eqv_dC l]
  simp
theorem dp_C {K : PySem.W.Frag} {H : Hp} : ∀ {ts : List Addr} {l : List (Nat × Nat)}, CallsAt K H ts l → DpAll K H (ts.map V.ref) (dC l)
  | _, _, .nil => .nil
  | _, _, .cons h t => .cons (.tup h (.cons (.int _) (.cons (.int _) .nil))) (dp_C t)
abbrev sPo : Stmt := top 25
def sPoN : List Str := ["_law_source_here", "_law_sequence_here", "_law_fewest", "_law_way", "_law_told", "_law_calls", "_law_choice", "_law_at"]
theorem scPo : FnScope ["_law_source_here", "_law_sequence_here", "_law_fewest", "_law_way", "_law_told", "_law_calls", "_law_choice", "_law_at"] ["_law_source_here", "_law_sequence_here"] (defScope sPo) := ⟨rfl, rfl, rfl, by decide +kernel, rfl, by decide +kernel, by decide +kernel⟩
def qPo : Str := "_law_policies_right.<locals>.<lambda>"
theorem one_P {Pt : Addr} {q : Str} : ∀ p ∈ [(Pt, q)], p.1 = Pt → p.2 = q := fun p hp _ => by
  rw [List.mem_singleton.mp hp]
/-- _law_policies_right(source, sequence) -/
def spPol (K : PySem.W.Frag) (T : List (Addr × Str)) : Sp := fun vs H Q _ => ∃ (p a : Addr) (x y : Int) (xs : List V) (its : List Item), vs = [.ref p, .ref a] ∧ H p = some (.lst [.int x, .int y]) ∧ SrcOk x y ∧ a ≠ p ∧ H a = some (.lst xs) ∧ SeqV K H xs its ∧ xs.length ≤ 1000 ∧ Tabs T H ∧
  ∀ x' y' H', ButN p H H' → H' p = some (.lst [.int x', .int y']) → SrcOk x' y' → Tabs T H' → Q (.bl true) H'
section
variable {P : Program} {w : World} {K : PySem.W.Frag} {mg : Str → Option Value} {base : Heap}
theorem ok_policies {CS c Pt gR : Addr} {fdR : FuncData} {f : Addr} {fd : FuncData} (F : Fun K "_law_policies_right" "_law_policies_right" sPo f fd) (hc : fd.code = .ref c) (B : Bn mg) (C : Bq mg)
    (FR : Fun K "run_policy" "run_policy" sRp gR fdR) (bR : Binds K fdR ["sequence", "policy"] []) (mRP : mg "run_policy" = some (.ref gR)) (TB : TabB base mg c Pt)
    (GK : DefX P w K mg base 3 "check_sequence" ["obj"] (spChkS K CS)) (GFP : DefX P w K mg base 4 "fewest_pushes" ["sequence"] (spFP K CS)) (GD : DefAt P w K mg base 1 "_law_draw" ["_law_source_here", "_law_amount"] spDraw) (GR : DefAt P w K mg base 1 "_law_run" ["_law_sequence_here", "_law_choice"] (spRun K)) :
    FnG P w K mg base CX0 6 f fd ["_law_source_here", "_law_sequence_here"] (spPol K [(Pt, qPo)]) := by
  refine fn_atC F hc scPo (fun vs H Q E h => ?_) (fun A outer s H vs Q E hgu hr h => ?_)
  · obtain ⟨p, a, x, y, xs, its, rfl, _⟩ := h
    rfl
  · obtain ⟨p, a, x, y, xs, its, rfl, hp, src, nap, ha, sv, hl, hT, k⟩ := h
    have hu64 : _ + 64 < cLine := hr.units
    have hro : Room 5 _ := hr
    have hr4 : Room 4 _ := hr.mono (by omega)
    have hr1 : Room 1 _ := hr.mono (by omega)
    have hlen : xs.length = its.length := Paired.length sv
    obtain ⟨oc, od, kV, doc, pm, an, cdv, ct, osl, rfl, lk, hcg⟩ := FR.ex
    have bRP := bR
    refine ⟨_, PSs.nox (pss_cons (ps_set (i := 2) scPo.nd rfl (Or.inl rfl) (pe_callB call_len_seq (by rfl) B.len PySem.boot_len (pa_cons (pe_ix ix_tup (pe_callX GFP hr4 (pa_cons (pv 1) pa_nil)) pe_int (fun _ _ => rfl)) pa_nil)))
          (pss_cons (ps_for PassesOwn.never rfl (pi_range1 (by rfl) B.range (pa_cons pe_int pa_nil)) (pg_name (i := 3) scPo.nd rfl (Or.inr rfl)) (pss_cons (ps_set (i := 6) scPo.nd rfl (Or.inr rfl) (pe_lc (own := [("_law_at", 7)]) (g := gName 7) (tt := tYes) (te := tOp (rIxL K) (tLst (tCons (tC (.int 0)) (tCons (tC (.int 1)) (tCons (tOp (rI (fun _ j => 0 < j) fun i j => .int (i % j)) (tVar 7) (tC (.int 2))) (tCons (tCall spDraw [] E0 (tCons (tVar 0) (tCons (tC (.int 2)) tNil))) tNil))))) (tVar 3)) rfl scPo.nd (pi_range1 (by rfl) B.range (pa_cons (pe_callB call_len_seq (by rfl) B.len PySem.boot_len (pa_cons (pv 1) pa_nil)) pa_nil)) (blkOk_by (N := sPoN) (sc := defScope sPo) (by decide +kernel)) (fun _ _ _ _ _ => pg_name (i := 7) scPo.nd rfl (Or.inl rfl)) (fun _ _ _ _ _ => pts_nil) (fun _ _ _ _ _ => (pe_ix ix_list (pe_lst (pa_cons pe_int (pa_cons pe_int (pa_cons (pe_op op_mod (pv 7) pe_int) (pa_cons (pe_callD GD hr1 (pa_cons (pv 0) (pa_cons pe_int pa_nil))) pa_nil))))) (pv 3) (fun _ _ => rfl)))))
          (pss_cons (ps_set (i := 5) scPo.nd rfl (Or.inr rfl) (pe_lst pa_nil))
          (pss_cons (ps_set (i := 4) scPo.nd rfl (Or.inl rfl) (pe_lam2call (T := [(Pt, qPo)]) (TT := TRunE K) (t := tOp (rIxL K) (tLst (tCons (tBM K "list" rAppend (tVar 7) (tCons (tTup (tCons (tVar 0) (tCons (tVar 1) tNil))) tNil)) (tCons (tOp rEq (tOp (rIxL K) (tVar 8) (tVar 0)) (tC (.int 1))) tNil))) (tC (.int 1))) (a1 := "_law_index") (a2 := "_law_age") (i := 1) (j1 := 5) (j2 := 2) (k := 1) (by rfl) mRP FR.kp lk hcg bRP scRp rfl (.inl rfl) rfl (.inl rfl) rfl (.inl rfl) (policy_givesE B C GK (Room.mono (j := 4) (k := 5) hro (by omega))) TB rfl (List.mem_singleton.mpr rfl) one_P (Room.mono (j := 3) (k := 5) hro (by omega)) (lam2S_by (sc := defScope sPo) (N := sPoN) (by decide +kernel)) rfl (fun _ _ _ _ _ _ _ => rfl) (pv 1) (fun A outer s H f c' hr2 => (pe_ix ix_list (pe_lst (pa_cons (pe_bm PySem.F.plainAttrs_list PySem.F.slot_list_append PySem.F.type_list_append mt_append (pv 7) (pa_cons (pe_tup (pa_cons (pv 0) (pa_cons (pv 1) pa_nil))) pa_nil)) (pa_cons (pe_cmpR op_eq (pe_ix ix_list (pv 8) (pv 0) (fun _ _ => rfl)) pe_int (nomark _)) pa_nil))) pe_int (fun _ _ => rfl)))))
          (pss_cons (ps_if (PW.pt (pw_or (pt_cmpR (op_neD hu64) (pe_lst (pa_cons (pv 4) (pa_cons (pv 5) pa_nil))) (pe_callD GR hr1 (pa_cons (pv 1) (pa_cons (pv 6) pa_nil))) (nomark _)) (pw_or1 (PW.pt (pw_and (pt_cmpR op_eq (pe_ix ix_tup (pv 4) pe_int (fun _ _ => rfl)) pe_int (nomark _)) (pw_and1 (pt_cmpR op_lt (pe_ix ix_tup (pv 4) pe_int (fun _ _ => rfl)) (pv 2) (nomark _)))))))) (pss_one (ps_ret pe_bl)) pss_nil)
          (pss_one (ps_if (pt_cmpR op_lt (pe_op op_add (pe_ix ix_tup (pv 4) pe_int (fun _ _ => rfl)) (pe_ix ix_tup (pv 4) pe_int (fun _ _ => rfl))) (pv 2) (nomark _)) (pss_one (ps_ret pe_bl)) pss_nil)))))))
          (pss_one (ps_ret pe_bl)))), ?_⟩
    refine ⟨_, rfl, .inr ⟨a, xs, its, rfl, .inl (SqL.of ha), sv, hl, fun r0 pa ra H0 S0 hR hP hA => ⟨r0, _, _, _, rfl, rfl, hR, atI_nat (j := 0) rfl, pa, _, rfl, .inr hP, ?_⟩⟩⟩
    have FO := M72.few_ok its
    have hF : (natV (M72.few its).1).length = (M72.few its).2.length := by
      rw [List.length_map]
      exact FO.len
    rw [hF]
    have hrun : ∀ c : Nat → Bool, (M72.few its).2.length ≤ (runSt its c its.length).p + (runSt its c its.length).q := fun c => run_fewest c FO.bar
    generalize (M72.few its).2.length = fw at hrun ⊢
    clear hR hP hA hF FO
    refine ⟨4, rfl, by decide, by decide, ?_⟩
    refine for_range (fun i σ H' => ∃ v3 v4 v5 v6 v7 x y, σ = [some (V.ref p), some (V.ref a), some (.int (fw : Int)), v3, v4, v5, v6, v7] ∧ ButN p H H' ∧ H' p = some (.lst [.int x, .int y]) ∧ SrcOk x y ∧ Tabs [(Pt, qPo)] H') ⟨_, _, _, _, _, x, y, rfl, ButN.of (ExtN.of S0), S0 _ _ hp, src, hT.ext S0⟩ ?_ ?_
    · rintro w σ H' hw4 ⟨v3, v4, v5, v6, v7, x1, y1, rfl, bN, lp, src1, T'⟩
      have hw4 : w < 4 := hw4
      have ha' := bN _ _ nap ha (fun _ z => by cases z)
      have sv' := sv.butN bN hp
      -- the choice
      refine ⟨_, rfl, a, _, rfl, .inl (SqL.of ha'), _, rfl, by omega, by omega, fun D hD => ?_⟩
      have nDp : D ≠ p := fun z => by rw [z, lp] at hD; cases hD
      have nDa : D ≠ a := fun z => by rw [z, ha'] at hD; cases hD
      refine lc_range (lo := 0) (n := ((xs.length : Nat) : Int).toNat) (fun i H2 => But p H' H2 ∧ (∃ x y, H2 p = some (.lst [.int x, .int y]) ∧ SrcOk x y) ∧ ∃ cs : List Nat, H2 D = some (.lst (natV cs)) ∧ cs.length = i ∧ ∀ n ∈ cs, n ≤ 1)
        ⟨fun b o n e => by rw [upd_ne (ne_of_none e hD)]; exact e, ⟨x1, y1, by rw [upd_ne (Ne.symm nDp)]; exact lp, src1⟩, [], upd_same, rfl, fun n hn => by cases hn⟩ ?_ ?_
      · rintro i H2 hi ⟨b2, ⟨x2, y2, lp2, src2⟩, cs, lD, hcs, hc1⟩
        have hi : i < xs.length := by simpa using hi
        refine ⟨rfl, ?_⟩
        refine ⟨_, rfl, _, _, rfl, rfl, by show (0 : Int) < 2; decide, _, rfl, p, x2, y2, 2, rfl, lp2, src2, by decide, by decide, fun x3 y3 dd src3 d0 d1 => ?_⟩
        have b3 : But p H' (upd H2 p (.lst [.int x3, .int y3])) := fun b o hb e => by rw [upd_ne hb]; exact b2 b o hb e
        have lp3 : upd H2 p (HO.lst [.int x3, .int y3]) p = some (.lst [.int x3, .int y3]) := upd_same
        have lD3 : upd H2 p (HO.lst [.int x3, .int y3]) D = some (.lst (natV cs)) := by rw [upd_ne nDp]; exact lD
        generalize upd H2 p (HO.lst [.int x3, .int y3]) = H3 at b3 lp3 lD3 ⊢
        obtain ⟨mn, hm1, hm⟩ : ∃ mn : Nat, mn ≤ 1 ∧ (0 + (i : Int)) % 2 = (mn : Int) := ⟨i % 2, by omega, by omega⟩
        obtain ⟨dn, hd1, rfl⟩ : ∃ dn : Nat, dn ≤ 1 ∧ dd = (dn : Int) := ⟨dd.toNat, by omega, by omega⟩
        dsimp only
        rw [hm]
        obtain ⟨n, hn1, hat⟩ : ∃ n : Nat, n ≤ 1 ∧ atI [V.int 0, .int 1, .int (mn : Int), .int (dn : Int)] (0 + (w : Int)) = some (.int (n : Int)) := by
          rw [show (0 + (w : Int)) = ((w : Nat) : Int) by omega]
          match w, hw4 with
          | 0, _ => exact ⟨0, by omega, atI_nat rfl⟩
          | 1, _ => exact ⟨1, by omega, atI_nat rfl⟩
          | 2, _ => exact ⟨mn, hm1, atI_nat rfl⟩
          | 3, _ => exact ⟨dn, hd1, atI_nat rfl⟩
          | n + 4, h => omega
        refine ⟨by show 4 ≤ sizeLine; decide, fun e he => ?_⟩
        have s4 : Same H3 (upd H3 e (.lst [.int 0, .int 1, .int (mn : Int), .int (dn : Int)])) := Same.upd he
        have le : upd H3 e (HO.lst [.int 0, .int 1, .int (mn : Int), .int (dn : Int)]) e = some (.lst [.int 0, .int 1, .int (mn : Int), .int (dn : Int)]) := upd_same
        generalize upd H3 e (HO.lst [.int 0, .int 1, .int (mn : Int), .int (dn : Int)]) = H4 at s4 le ⊢
        refine ⟨_, rfl, e, _, _, _, rfl, rfl, SqL.of le, hat, ?_⟩
        refine ⟨_, s4 _ _ lD3, by rw [List.length_map, hcs, sizeLine_eq]; omega, fun b o n e => ?_, ⟨x3, y3, by rw [upd_ne (Ne.symm nDp)]; exact s4 _ _ lp3, src3⟩, cs ++ [n], ?_, ?_, fun m hm => ?_⟩
        · rw [upd_ne (ne_of_none e hD)]
          exact s4 _ _ (b3 b o n e)
        · rw [upd_same]
          unfold natV
          rw [List.map_append]
          rfl
        · rw [List.length_append, hcs]
          rfl
        · rcases List.mem_append.mp hm with hm | hm
          · exact hc1 m hm
          · rw [List.mem_singleton.mp hm]
            exact hn1
      rintro H2 ⟨b2, ⟨x2, y2, lp2, src2⟩, cs, lD, hcs, hc1⟩
      rw [show ((xs.length : Nat) : Int).toNat = xs.length from rfl] at hcs
      have T2 : Tabs [(Pt, qPo)] H2 := EX.Tabs.but (p := p) T' (fun b o hb e => b2 b o hb e) lp (fun ps z => by cases z) (fun c q => codeO_lst _)
      have bN2 := bN.trans (ButN.but b2)
      have ha2 := b2 _ _ nap ha'
      have sv2 : SeqV K H2 xs its := sv'.but b2 lp
      clear b2 hD lp ha' sv' T' bN
      -- the calls
      refine ⟨by show 0 ≤ sizeLine; decide, fun lc hlc => ?_⟩
      have nlp : p ≠ lc := ne_of_none lp2 hlc
      have nla : a ≠ lc := ne_of_none ha2 hlc
      have nlD : D ≠ lc := ne_of_none lD hlc
      have s3 : Same H2 (upd H2 lc (.lst [])) := Same.upd hlc
      have l3 : upd H2 lc (HO.lst []) lc = some (.lst []) := upd_same
      have T3 := T2.ext s3
      generalize upd H2 lc (HO.lst []) = H3 at s3 l3 T3 ⊢
      -- the run
      refine ⟨_, rfl, T3, fun H4 e4 T4 => ?_⟩
      have l4 := EX.ExtN.lst e4 l3
      have lD4 := EX.ExtN.lst e4 (s3 _ _ lD)
      have ha4 := EX.ExtN.lst e4 (s3 _ _ ha2)
      have lp4 := EX.ExtN.lst e4 (s3 _ _ lp2)
      have sv4 : SeqV K H4 xs its := (sv2.mono s3).ext e4
      refine ⟨a, xs, its, cF cs, rfl, SqL.of ha4, sv4, hl, (fun i H' => But lc H4 H' ∧ ∃ ts : List Addr, H' lc = some (.lst (ts.map V.ref)) ∧ CallsAt K H' ts (callsTo its (cF cs) i)), ⟨fun _ _ _ e => e, [], l4, .nil⟩, ?_, ?_, ?_, ?_, ?_⟩
      · rintro i H' ⟨b, ts, l, ca⟩
        exact ⟨SqL.of (b _ _ nla ha4), sv4.but b l4, fun c' q e => b _ _ (fun z => by rw [z, l4] at e; exact codeO_lst _ (Option.some.inj e)) e⟩
      · rintro i H' H'' ⟨b, ts, l, ca⟩ s
        exact ⟨fun c o n e => s _ _ (b c o n e), ts, s _ _ l, ca.mono s⟩
      · rintro i H' e2 ⟨b, ts, l, ca⟩ R hRR
        have hil : i < its.length := (List.getElem?_eq_some_iff.mp e2).1
        obtain ⟨n, hn⟩ : ∃ n, cs[i]? = some n := ⟨_, List.getElem?_eq_getElem (by omega)⟩
        have htl : ts.length ≤ 1000 := by
          have := calls_len its (cF cs) i
          rw [← Paired.length ca] at this
          omega
        refine ⟨_, rfl, .inl ⟨rfl, _, SqL.of l⟩, _, rfl, _, rfl, by show 2 ≤ sizeLine; decide, fun u hu => ?_⟩
        rw [show ((runSt its (cF cs) i).age : Int) + 1 = (((runSt its (cF cs) i).age + 1 : Nat) : Int) by omega]
        have s5 : Same H' (upd H' u (.tup [.int (i : Nat), .int (((runSt its (cF cs) i).age + 1 : Nat) : Int)])) := Same.upd hu
        have lu : upd H' u (HO.tup [.int (i : Nat), .int (((runSt its (cF cs) i).age + 1 : Nat) : Int)]) u = some (.tup [.int (i : Nat), .int (((runSt its (cF cs) i).age + 1 : Nat) : Int)]) := upd_same
        generalize upd H' u (HO.tup [.int (i : Nat), .int (((runSt its (cF cs) i).age + 1 : Nat) : Int)]) = H5 at s5 lu ⊢
        have l5 := s5 _ _ l
        refine ⟨lc, _, _, rfl, rfl, l5, by rw [List.length_map, sizeLine_eq]; omega, ?_⟩
        have b6 : But lc H5 (upd H5 lc (.lst (ts.map V.ref ++ [.ref u]))) := fun c o n e => by rw [upd_ne n]; exact e
        have bb6 : But lc H4 (upd H5 lc (.lst (ts.map V.ref ++ [.ref u]))) := fun c o n e => b6 c o n (s5 _ _ (b c o n e))
        have l6 : upd H5 lc (HO.lst (ts.map V.ref ++ [.ref u])) lc = some (.lst ((ts ++ [u]).map V.ref)) := by rw [upd_same, List.map_append]; rfl
        have ca6 : CallsAt K (upd H5 lc (.lst (ts.map V.ref ++ [.ref u]))) (ts ++ [u]) (callsTo its (cF cs) (i + 1)) := by
          rw [calls_w e2]
          exact CallsAt.snoc (CallsAt.but b6 l5 (ca.mono s5)) (z := (i, (runSt its (cF cs) i).age + 1)) (b6.sqt l5 (SqT.of lu))
        generalize upd H5 lc (HO.lst (ts.map V.ref ++ [.ref u])) = H6 at bb6 l6 ca6 ⊢
        refine ⟨_, rfl, _, rfl, D, _, _, _, rfl, rfl, SqL.of (bb6 _ _ nlD lD4), atI_nat (natV_get hn), rfl, ?_⟩
        refine ⟨by show 2 ≤ sizeLine; decide, fun e he => ?_⟩
        have s7 : Same H6 (upd H6 e (.lst [.non, .bl (decide (V.int (n : Int) = V.int 1))])) := Same.upd he
        have le : upd H6 e (HO.lst [.non, .bl (decide (V.int (n : Int) = V.int 1))]) e = some (.lst [.non, .bl (decide (V.int (n : Int) = V.int 1))]) := upd_same
        refine ⟨e, _, _, _, rfl, rfl, SqL.of le, atI_nat (j := 1) rfl, ?_⟩
        have hdec : decide (V.int (n : Int) = V.int 1) = cF cs i := by
          rw [cF_get hn]
          refine decide_eq_decide.mpr ⟨fun z => ?_, fun z => by rw [z]; rfl⟩
          have := V.int.inj z
          omega
        have fin := hRR _ ⟨fun c o n e => s7 _ _ (bb6 c o n e), ts ++ [u], s7 _ _ l6, ca6.mono s7⟩
        rw [← hdec] at fin
        exact fin
      · rintro i n H' e2 ⟨b, ts, l, ca⟩
        exact ⟨b, ts, l, by rw [calls_r e2]; exact ca⟩
      rintro H5 t ⟨b5, ts, l5, ca5⟩ ht
      have T5 : Tabs [(Pt, qPo)] H5 := EX.Tabs.but (p := lc) T4 (fun b o hb e => b5 b o hb e) l4 (fun ps z => by cases z) (fun c q => codeO_lst _)
      have bN5 : ButN p H H5 := fun b o n h nt => by
        have h2 := bN2 b o n h nt
        exact b5 _ _ (ne_of_none h2 hlc) (e4 _ _ (s3 _ _ h2) nt)
      have lp5 := b5 _ _ nlp lp4
      have ha5 := b5 _ _ nla ha4
      have lD5 := b5 _ _ nlD lD4
      have sv5 : SeqV K H5 xs its := sv4.but b5 l4
      clear T4 lp4 ha4 lD4 sv4 b5 l4 e4 T3 l3 s3 sv2 ha2 lp2 lD hlc bN2 T2
      generalize hP : ((runSt its (cF cs) its.length).p : Int) = P1
      generalize hQ : ((runSt its (cF cs) its.length).q : Int) = Q1
      have s6 : Same H5 (upd H5 t (.tup [.int P1, .int Q1])) := Same.upd ht
      have lt6 : upd H5 t (HO.tup [.int P1, .int Q1]) t = some (.tup [.int P1, .int Q1]) := upd_same
      generalize upd H5 t (HO.tup [.int P1, .int Q1]) = H6 at s6 lt6 ⊢
      refine ⟨_, rfl, _, rfl, by show 2 ≤ sizeLine; decide, fun e he => ?_⟩
      have s7 : Same H6 (upd H6 e (.lst [.ref t, .ref lc])) := Same.upd he
      have le7 : upd H6 e (HO.lst [.ref t, .ref lc]) e = some (.lst [.ref t, .ref lc]) := upd_same
      generalize upd H6 e (HO.lst [.ref t, .ref lc]) = H7 at s7 le7 ⊢
      have s57 := Same.trans s6 s7
      refine ⟨_, rfl, _, rfl, a, D, xs, its, cs, rfl, SqL.of (s57 _ _ ha5), sv5.mono s57, hl, SqL.of (s57 _ _ lD5), hcs, hc1, fun q2 t2 l2 ts2 H8 s8 z1 z2 z3 z4 => ?_⟩
      rw [hP, hQ] at z2
      have s58 := Same.trans s57 s8
      have lt8 := s8 _ _ (s7 _ _ lt6)
      refine ⟨dRun P1 Q1 (callsTo its (cF cs) its.length), dRun P1 Q1 (callsTo its (cF cs) its.length), .lst (SqL.of (s8 _ _ le7)) (.cons (.tup (SqT.of lt8) (.cons (.int _) (.cons (.int _) .nil))) (.cons (.lst (SqL.of (s58 _ _ l5)) (dp_C (ca5.mono s58))) .nil)), .lst (SqL.of z1) (.cons (.tup (SqT.of z2) (.cons (.int _) (.cons (.int _) .nil))) (.cons (.lst (SqL.of z3) (dp_C z4)) .nil)), shaped_run _ _ _, shaped_run _ _ _, _, rfl, ?_⟩
      rw [eqv_run]
      refine iteF ?_
      have hpq := hrun (cF cs)
      have third : ∀ {A B : Prop}, B → (if decide (P1 + Q1 < (fw : Int)) = true then A else B) := fun {A B} h => by
        rw [decide_eq_false (show ¬ P1 + Q1 < (fw : Int) by omega)]
        exact iteF h
      refine ⟨_, rfl, t, _, _, _, rfl, rfl, SqT.of lt8, atI_nat (j := 1) rfl, rfl, _, rfl, ?_⟩
      refine ite2 (fun z => ?_) (fun _ => iteF ?_)
      · have z := V.int.inj (of_decide_eq_true z)
        refine ⟨_, rfl, t, _, _, _, rfl, rfl, SqT.of lt8, atI_nat (j := 0) rfl, _, rfl, _, _, rfl, rfl, _, rfl, ?_⟩
        rw [decide_eq_false (show ¬ P1 < (fw : Int) by omega)]
        refine iteF ?_
        refine ⟨_, rfl, t, _, _, _, rfl, rfl, SqT.of lt8, atI_nat (j := 0) rfl, _, rfl, t, _, _, _, rfl, rfl, SqT.of lt8, atI_nat (j := 1) rfl, _, _, rfl, rfl, _, rfl, _, _, rfl, rfl, _, rfl, third ?_⟩
        exact ⟨_, _, _, _, _, x2, y2, rfl, bN5.trans (ButN.of (ExtN.of s58)), s58 _ _ lp5, src2, T5.ext s58⟩
      · refine ⟨_, rfl, t, _, _, _, rfl, rfl, SqT.of lt8, atI_nat (j := 0) rfl, _, rfl, t, _, _, _, rfl, rfl, SqT.of lt8, atI_nat (j := 1) rfl, _, _, rfl, rfl, _, rfl, _, _, rfl, rfl, _, rfl, third ?_⟩
        exact ⟨_, _, _, _, _, x2, y2, rfl, bN5.trans (ButN.of (ExtN.of s58)), s58 _ _ lp5, src2, T5.ext s58⟩
    · rintro σ H' ⟨v3, v4, v5, v6, v7, x1, y1, rfl, bN, lp, src1, T'⟩
      exact k x1 y1 H' bN lp src1 T'
end
end K73
set_option Elab.async false
set_option linter.all false
set_option maxRecDepth 100000
set_option maxHeartbeats 4000000
namespace K73
open PySem L2 EX PyProof.Rows M72
abbrev tEq2 (n : Int) : TT := tTest (tOp rEq (tVar 2) (tC (.int n)))
/-- what is tried -/
def tRefB (K : PySem.W.Frag) (CS : Addr) : WX → TS := fun W => tIfS (tEq2 0) (tDrop (tCallS (spFP K CS) (WE W) (tCons (tVar 0) tNil))) (tIfS (tEq2 1) (tDrop (tCallS (spCP K CS) (WE W) (tCons (tVar 0) (tCons (tC .non) tNil)))) (tDrop (tCallS (spRP K CS) (WE W) (tCons (tVar 0) (tCons (tC .non) tNil)))))
/-- what is noted of what was raised -/
def tRef1 (K : PySem.W.Frag) (CS cb : Addr) (a : Addr) (cls : Value) (d : Option Addr) : TS := tDrop (tBM K "list" rAppend (tVar 1) (tCons (tLst (tCons (tSl rSlS (tCB (rRepq K) (tCons (tXf a cls d CS "given" (tVar 3)) tNil)) tNoPart (tPart (tC (.int 20)))) (tCons (tCB (rIsD K a cls d) (tCons (tVar 3) (tCons (tC (.ref cb)) tNil))) tNil))) tNil))
structure RefOk (dv : PyData) : Prop where
  sh : dv.showable = true
  dp : dv.depth ≤ 60
  len : dv.shown.length ≤ sizeLine
  ok : PyData.strOk dv.shown = true
def refB (dv : PyData) : Bool := dv.showable && (decide (dv.depth ≤ 60) && (decide (dv.shown.length ≤ 1000) && PyData.strOk dv.shown))
theorem refB_ok {dv : PyData} (h : refB dv = true) : RefOk dv := by
  unfold refB at h
  simp only [Bool.and_eq_true, decide_eq_true_eq] at h
  exact ⟨h.1, h.2.1, Nat.le_trans h.2.2.1 (by rw [sizeLine_eq]; decide), h.2.2.2⟩
def cut20 (z : Str) : Str := cutS z none (some 20)
theorem cut_ok {z : Str} (h : PyData.strOk z = true) : PyData.strOk (cut20 z) = true := by
  unfold PyData.strOk at h ⊢
  rw [Array.all_eq_true'] at h ⊢
  intro x hx
  refine h x ?_
  unfold cut20 cutS at hx
  rw [List.mem_toArray] at hx
  exact Array.mem_toList_iff.mp (List.mem_of_mem_drop (List.mem_of_mem_take hx))
def dRow (s : Str) : PyData := .list [.str s, .bool true]
theorem shaped_ref {s : Str} (h : PyData.strOk s = true) : SeqAt.shaped (.list [dRow s, dRow s, dRow s]) = true := by
  show (((PyData.strOk s && (true && true)) && ((PyData.strOk s && (true && true)) && ((PyData.strOk s && (true && true)) && true))) && decide (PyData.depthAll [dRow s, dRow s, dRow s] + 1 ≤ 64)) = true
  rw [h]
  rfl
theorem eqv_ref (s : Str) : PyData.eqv (.list [dRow s, dRow s, dRow s]) (.list [dRow s, dRow s, dRow s]) = true := by
  show (((s == s) && (true && true)) && (((s == s) && (true && true)) && (((s == s) && (true && true)) && true))) = true
  simp
/-- _law_refused(thing) -/
def spRef (K : PySem.W.Frag) : Sp := fun vs H Q _ => ∃ (v : V) (dv : PyData), vs = [v] ∧ BadS K H v ∧ DqS K H v dv ∧ RefOk dv ∧ ∀ H', Same H H' → Q (.bl true) H'
abbrev sRf : Stmt := top 26
theorem scRf : FnScope ["_law_thing", "_law_found", "_law_way", "e"] ["_law_thing"] (defScope sRf) := ⟨rfl, rfl, rfl, by decide +kernel, rfl, by decide +kernel, by decide +kernel⟩
theorem dqs_same {K : PySem.W.Frag} {H H' : Hp} (s : Same H H') {v : V} {d : PyData} (h : DqS K H v d) : DqS K H' v d := EX.DqS.ext (LamX.ExtN.of s) h
theorem ref_note {K : PySem.W.Frag} {CS cb lf d' : Addr} {v : V} {dv : PyData} {v2 v3 : Option V} {xs : List V} {Wout : WX} {D : Ends} {H2 : Hp} (EC : EcC K CS) (hex : PySem.W.exmOne K (.ref CS) (.ref CS) = some true) (hkit : PySem.W.kitOne K (.ref CS) (.ref cb) = some true)
    (hdd : H2 d' = some (.xd [(("given" : Str), v)])) (hd : DqS K H2 v dv) (ok : RefOk dv) (lF : H2 lf = some (.lst xs)) (hl : xs.length < sizeLine)
    (k : ∀ H3 u, Same H2 H3 → H3 u = some (.lst [.str (cut20 dv.shown), .bl true]) → D.nx [some v, some (.ref lf), v2, none] (upd H3 lf (.lst (xs ++ [.ref u])))) : wCls K Wout D [⟨.ref CS, some 3, tRef1 K CS cb⟩] (.ref CS) (some d') [some v, some (.ref lf), v2, v3] H2 := by
  refine ⟨true, hex, fun _ a ha => ?_, (fun z => nomatch z)⟩
  show tRef1 K CS cb a (.ref CS) (some d') (endsOut D (some 3)) [some v, some (.ref lf), v2, some (.ref a)] H2
  refine ⟨_, rfl, .inl ⟨rfl, _, SqL.of lF⟩, _, rfl, rfl, rfl, d', _, v, rfl, hdd, rfl, v, dv, rfl, hd, ok.sh, ok.dp, ok.len, _, rfl, _, rfl, ok.len, ?_⟩
  refine ⟨_, rfl, d', rfl, CS, _, _, .ref cb, true, rfl, rfl, EC, hdd, .own cb, hkit, by show 2 ≤ sizeLine; decide, fun u hu => ?_⟩
  have s : Same H2 (upd H2 u (.lst [.str (cutS dv.shown none (some 20)), .bl true])) := Same.upd hu
  refine ⟨lf, xs, _, rfl, rfl, s _ _ lF, hl, ?_⟩
  exact k _ u s upd_same
section
variable {P : Program} {w : World} {K : PySem.W.Frag} {mg : Str → Option Value} {base : Heap}
theorem ok_refused {CS cb : Addr} {f : Addr} {fd : FuncData} (F : Fun K "_law_refused" "_law_refused" sRf f fd) (B : Bn mg) (XS : XrAt P w K mg base "InvalidSequence" "given" CS) (mIS : mg "InvalidSequence" = some (.ref CS)) (mcb : mg "CacheError" = some (.ref cb)) (hex : PySem.W.exmOne K (.ref CS) (.ref CS) = some true) (hkit : PySem.W.kitOne K (.ref CS) (.ref cb) = some true)
    (GFP : DefX P w K mg base 4 "fewest_pushes" ["sequence"] (spFP K CS)) (GCP : DefX P w K mg base 4 "check_pushes" ["sequence", "obj"] (spCP K CS)) (GRP : DefX P w K mg base 4 "run_policy" ["sequence", "policy"] (spRP K CS)) : FnG P w K mg base CX0 5 f fd ["_law_thing"] (spRef K) := by
  refine okG F scRf (fun vs H Q E h => ?_) (fun cdv A outer s H vs Q E hgu hr h => ?_)
  · obtain ⟨v, dv, rfl, _⟩ := h
    rfl
  · obtain ⟨v, dv, rfl, hb, hd, hok, k⟩ := h
    have hu64 : _ + 64 < cLine := hr.units
    have hu70 : (A.deeper (envOfC "_law_refused" (defScope sRf) s.heap.objs.size f cdv)).units + 70 < cLine := by
      have := hr.un
      omega
    have hr4 : Room 4 _ := hr
    refine ⟨_, PSs.nox (pss_cons (ps_set (i := 1) scRf.nd rfl (Or.inl rfl) (pe_lst pa_nil))
          (pss_cons (ps_for PassesOwn.never rfl (pi_range1 (by rfl) B.range (pa_cons pe_int pa_nil)) (pg_name (i := 2) scRf.nd rfl (Or.inl rfl)) (pss_one (ps_try_cls (tb := tRefB K CS) (l := [⟨.ref CS, some 3, tRef1 K CS cb⟩]) rfl rfl scRf.nd takes0 (fun W pn xe tk _ => (pss_one (ps_if (pt_cmpR op_eq (pv 2) pe_int (nomark _)) (pss_one (ps_expr (pe_callU GFP hr4 tk (pa_cons (pv 0) pa_nil)))) (pss_one (ps_if (pt_cmpR op_eq (pv 2) pe_int (nomark _)) (pss_one (ps_expr (pe_callU GCP hr4 tk (pa_cons (pv 0) (pa_cons pe_non pa_nil))))) (pss_one (ps_expr (pe_callU GRP hr4 tk (pa_cons (pv 0) (pa_cons pe_non pa_nil)))))))))) (ClsOk.as ⟨by rfl, by decide, .inl mIS⟩ rfl rfl (fun a oe cls d pn hz hf => (pss_one (ps_expr (pe_bm PySem.F.plainAttrs_list PySem.F.slot_list_append PySem.F.type_list_append mt_append (pv 1) (pa_cons (pe_lst (pa_cons (pe_slice sl_str (pe_callB (call_reprq hgu hu70) (by rfl) B.repr (by decide +kernel) (pa_cons (pe_xf XS.T.xf XS.no hz hf (pv 3)) pa_nil)) po_none (po_some pe_int)) (pa_cons (pe_callB (call_isD hz hf) (by rfl) B.isi PyProof.Rows.boot_isinstance (pa_cons (pv 3) (pa_cons (pe_glob (v := .ref cb) (by rfl) mcb rfl) pa_nil))) pa_nil))) pa_nil))))) .nil))))
          (pss_one (ps_ret (pe_cmpR (op_eqD hu64) (pv 1) (pe_op op_rep (pe_lst (pa_cons (pe_lst (pa_cons (pe_slice sl_str (pe_callB (call_reprq hgu hu70) (by rfl) B.repr (by decide +kernel) (pa_cons (pv 0) pa_nil)) po_none (po_some pe_int)) (pa_cons pe_bl pa_nil))) pa_nil)) pe_int) (nomark _)))))), ?_⟩
    refine ⟨by show 0 ≤ sizeLine; decide, fun lf hlf => ?_⟩
    have s1 : Same H (upd H lf (.lst [])) := Same.upd hlf
    have l1 : upd H lf (HO.lst []) lf = some (.lst []) := upd_same
    generalize upd H lf (HO.lst []) = H1 at s1 l1 ⊢
    have nk : ∀ {H' : Hp}, But lf H H' → Same H H' := fun b c o e => b c o (fun z => by rw [z, hlf] at e; cases e) e
    have b1 : But lf H H1 := fun c o _ e => s1 _ _ e
    refine ⟨3, rfl, by decide, by decide, ?_⟩
    refine for_range (lo := 0) (n := 3) (tb := fun D σ H => tRefB K CS (wCls K (fun _ _ _ _ => False) D [⟨.ref CS, some 3, tRef1 K CS cb⟩]) D σ H) (fun i σ H' => ∃ (v2 v3 : Option V) (ts : List Addr), σ = [some v, some (.ref lf), v2, v3] ∧ But lf H H' ∧ H' lf = some (.lst (ts.map V.ref)) ∧ ts.length = i ∧ ∀ u ∈ ts, H' u = some (.lst [.str (cut20 dv.shown), .bl true])) ⟨none, none, [], rfl, b1, l1, rfl, fun u hu => by cases hu⟩ ?_ ?_
    · rintro i σ H' hi ⟨v2, v3, ts, rfl, b, lF, hts, tt⟩
      have hi : i < 3 := hi
      have S := nk b
      have hb' := hb.mono S
      have h20 : ∀ {n m : Int} {A B : Prop}, n = m → A → (if decide (V.int n = V.int m) = true then A else B) := fun {n m A B} e h => by
        rw [decide_eq_true (by rw [e])]
        exact iteT h
      have h21 : ∀ {n m : Int} {A B : Prop}, n ≠ m → B → (if decide (V.int n = V.int m) = true then A else B) := fun {n m A B} e h => by
        rw [decide_eq_false (fun z => e (V.int.inj z))]
        exact iteF h
      by_cases h0 : i = 0
      · refine ⟨_, rfl, rfl, _, rfl, h20 (by omega) ?_⟩
        refine ⟨_, rfl, .inl ⟨v, rfl, hb', fun d' H2 S2 hdd => ref_note XS.T hex hkit hdd (dqs_same (Same.trans S S2) hd) hok (S2 _ _ lF) (by rw [List.length_map, sizeLine_eq]; omega) fun H3 u s3 hu => ?_⟩⟩
        have S3 := Same.trans S2 s3
        have l3 := S3 _ _ lF
        have nel : ∀ {w : Addr}, H3 w = some (.lst [.str (cut20 dv.shown), .bl true]) → w ≠ lf := fun {w} e z => by
          rw [z, l3] at e
          have e := HO.lst.inj (Option.some.inj e)
          cases ts with
          | nil => cases e
          | cons y l => cases e
        refine ⟨_, _, ts ++ [u], rfl, fun c o n e => by rw [upd_ne n]; exact S3 _ _ (b c o n e), by rw [upd_same, List.map_append]; rfl, by rw [List.length_append, hts]; rfl, fun w hw => ?_⟩
        rcases List.mem_append.mp hw with hw | hw
        · have := S3 _ _ (tt w hw)
          rw [upd_ne (nel this)]
          exact this
        · rw [List.mem_singleton.mp hw, upd_ne (nel hu)]
          exact hu
      · refine ⟨_, rfl, rfl, _, rfl, h21 (by omega) ?_⟩
        by_cases h1 : i = 1
        · refine ⟨_, rfl, rfl, _, rfl, h20 (by omega) ?_⟩
          refine ⟨_, rfl, .inl ⟨v, .non, rfl, hb', fun d' H2 S2 hdd => ref_note XS.T hex hkit hdd (dqs_same (Same.trans S S2) hd) hok (S2 _ _ lF) (by rw [List.length_map, sizeLine_eq]; omega) fun H3 u s3 hu => ?_⟩⟩
          have S3 := Same.trans S2 s3
          have l3 := S3 _ _ lF
          have nel : ∀ {w : Addr}, H3 w = some (.lst [.str (cut20 dv.shown), .bl true]) → w ≠ lf := fun {w} e z => by
            rw [z, l3] at e
            have e := HO.lst.inj (Option.some.inj e)
            cases ts with
            | nil => cases e
            | cons y l => cases e
          refine ⟨_, _, ts ++ [u], rfl, fun c o n e => by rw [upd_ne n]; exact S3 _ _ (b c o n e), by rw [upd_same, List.map_append]; rfl, by rw [List.length_append, hts]; rfl, fun w hw => ?_⟩
          rcases List.mem_append.mp hw with hw | hw
          · have := S3 _ _ (tt w hw)
            rw [upd_ne (nel this)]
            exact this
          · rw [List.mem_singleton.mp hw, upd_ne (nel hu)]
            exact hu
        · refine ⟨_, rfl, rfl, _, rfl, h21 (by omega) ?_⟩
          refine ⟨_, rfl, v, .non, rfl, hb', fun d' H2 S2 hdd => ref_note XS.T hex hkit hdd (dqs_same (Same.trans S S2) hd) hok (S2 _ _ lF) (by rw [List.length_map, sizeLine_eq]; omega) fun H3 u s3 hu => ?_⟩
          have S3 := Same.trans S2 s3
          have l3 := S3 _ _ lF
          have nel : ∀ {w : Addr}, H3 w = some (.lst [.str (cut20 dv.shown), .bl true]) → w ≠ lf := fun {w} e z => by
            rw [z, l3] at e
            have e := HO.lst.inj (Option.some.inj e)
            cases ts with
            | nil => cases e
            | cons y l => cases e
          refine ⟨_, _, ts ++ [u], rfl, fun c o n e => by rw [upd_ne n]; exact S3 _ _ (b c o n e), by rw [upd_same, List.map_append]; rfl, by rw [List.length_append, hts]; rfl, fun w hw => ?_⟩
          rcases List.mem_append.mp hw with hw | hw
          · have := S3 _ _ (tt w hw)
            rw [upd_ne (nel this)]
            exact this
          · rw [List.mem_singleton.mp hw, upd_ne (nel hu)]
            exact hu
    · rintro σ H' ⟨v2, v3, ts, rfl, b, lF, hts, tt⟩
      have S := nk b
      obtain ⟨u0, u1, u2, rfl⟩ : ∃ u0 u1 u2, ts = [u0, u1, u2] := by
        match ts, hts with
        | [u0, u1, u2], _ => exact ⟨u0, u1, u2, rfl⟩
      refine ⟨_, rfl, _, rfl, v, dv, rfl, dqs_same S hd, hok.sh, hok.dp, hok.len, _, rfl, _, rfl, hok.len, by show 2 ≤ sizeLine; decide, fun e he => ?_⟩
      have s2 : Same H' (upd H' e (.lst [.str (cutS dv.shown none (some 20)), .bl true])) := Same.upd he
      have le : upd H' e (HO.lst [.str (cutS dv.shown none (some 20)), .bl true]) e = some (.lst [.str (cut20 dv.shown), .bl true]) := upd_same
      generalize upd H' e (HO.lst [.str (cutS dv.shown none (some 20)), .bl true]) = H2 at s2 le ⊢
      refine ⟨by show 1 ≤ sizeLine; decide, fun e2 he2 => ?_⟩
      have s3 : Same H2 (upd H2 e2 (.lst [.ref e])) := Same.upd he2
      have le2 : upd H2 e2 (HO.lst [.ref e]) e2 = some (.lst [.ref e]) := upd_same
      generalize upd H2 e2 (HO.lst [.ref e]) = H3 at s3 le2 ⊢
      refine ⟨e2, 3, _, rfl, rfl, le2, by decide, by decide, by show 1 * 3 ≤ sizeLine; decide, fun e3 he3 => ?_⟩
      have s4 : Same H3 (upd H3 e3 (.lst [.ref e, .ref e, .ref e])) := Same.upd he3
      have le3 : upd H3 e3 (HO.lst [.ref e, .ref e, .ref e]) e3 = some (.lst [.ref e, .ref e, .ref e]) := upd_same
      show _
      have s24 := Same.trans s3 s4
      have s14 := Same.trans s2 s24
      have row : ∀ {w : Addr}, upd H3 e3 (HO.lst [.ref e, .ref e, .ref e]) w = some (.lst [.str (cut20 dv.shown), .bl true]) → Dp K (upd H3 e3 (HO.lst [.ref e, .ref e, .ref e])) (.ref w) (dRow (cut20 dv.shown)) := fun {w} h => .lst (SqL.of h) (.cons (.str _) (.cons (.bl _) .nil))
      have rowE := row (s24 _ _ le)
      refine ⟨.list [dRow (cut20 dv.shown), dRow (cut20 dv.shown), dRow (cut20 dv.shown)], .list [dRow (cut20 dv.shown), dRow (cut20 dv.shown), dRow (cut20 dv.shown)], .lst (SqL.of (s14 _ _ lF)) (.cons (row (s14 _ _ (tt u0 (by simp)))) (.cons (row (s14 _ _ (tt u1 (by simp)))) (.cons (row (s14 _ _ (tt u2 (by simp)))) .nil))), .lst (SqL.of le3) (.cons rowE (.cons rowE (.cons rowE .nil))), shaped_ref (cut_ok hok.ok), shaped_ref (cut_ok hok.ok), ?_⟩
      rw [eqv_ref]
      exact k _ (Same.trans S s14)
end
end K73
set_option Elab.async false
set_option linter.all false
set_option maxRecDepth 100000
set_option maxHeartbeats 4000000
namespace K73
open PySem L2 EX PyProof.Rows M72 LamX
def rRepN : R2 := fun x y H Q => ∃ l k xs, x = .ref l ∧ y = .int k ∧ H l = some (.lst xs) ∧ -(2 ^ 63) ≤ k ∧ k < 2 ^ 63 ∧ xs.length * k.toNat ≤ sizeLine ∧ ∀ p, H p = none → p ≠ sysModules → Q (.ref p) (upd H p (.lst (List.replicate k.toNat xs).flatten))
theorem op_repN {X : Cx} : OpR X (binaryOp .Mult) rRepN := by
  intro pins s σ H x y v u Q I rx ry h
  obtain ⟨l, k, xs, rfl, rfl, hH, h1, h2, hz, q⟩ := h
  obtain rfl : v = Value.ref l := rx
  obtain ⟨t, rfl⟩ := ry
  obtain ⟨z, its, n, r, hl, e⟩ := I.lstM hH
  have hk : its.toArray.size * k.toNat ≤ sizeLine := by
    rw [List.size_toArray, ← hl]
    exact hz
  have hb : sizeLine ≤ (2 ^ 63 - 1) / 8 := by decide
  refine wpAny_binaryOp_repeat_ref (T := "list") (U := "int") (by decide) ⟨_, e, rfl⟩ (fun s2 => typeIs_int s2 k t) noFill_list_mul F.fills_int_mul F.slot_int_rmul repeat_list F.slot_int_index.lookup
    (call_meets F.slot_int_rmul (typeIs_int s k t) F.entry_int_rmul (F.args_int_rmul_2 _ _) (int___rmul___int_list k t l its.toArray n) ⟨e, rfl, ⟨_, e, rfl⟩, call_meets F.slot_list_mul ⟨_, e, rfl⟩ F.entry_list_mul (F.args_list_mul_2 _ _)
      (AutoListH.list___mul___list_int_3 l its.toArray n k t (by rw [fitsIndex_both h1 h2]; exact Bool.false_ne_true) (by omega) (by rw [notLongL hk]; exact Bool.false_ne_true)) ⟨e, ?_⟩⟩)
  have en : List.foldl (fun x1 x2 => x1 ++ x2) #[] (List.replicate (if its.toArray.isEmpty = true then 0 else k.toNat) its.toArray) = (List.replicate k.toNat its).flatten.toArray := by
    rw [PyProof.Rows.listMul_foldl]
    cases its with
    | nil =>
      have : (List.replicate k.toNat ([] : List Value)).flatten = [] := by simp
      rw [this]
      simp
    | cons a r => simp
  rw [en]
  have hf : H s.heap.objs.size = none := I.fresh
  exact ⟨.ref s.heap.objs.size, _, I.lnew (t' := s.toks) (r.rep k.toNat) (by rw [PyProof.Rows.lm_len_rep_flat, Nat.mul_comm]; exact hz), rfl, q _ hf fun z => by
    have := I.big
    rw [z] at this
    exact Nat.lt_irrefl _ this⟩
def spLaw (K : PySem.W.Frag) (T : List (Addr × Str)) : Sp := fun vs H Q _ => ∃ (a : Addr) (ns : List Int), vs = [.ref a] ∧ SqL K H a (ns.map V.int) ∧ ns.length ≤ 63 ∧ Tabs T H ∧ ∀ H', Q (.bl true) H'
theorem But.trans {p : Addr} {H H1 H2 : Hp} (a : But p H H1) (b : But p H1 H2) : But p H H2 := fun c o n e => b c o n (a c o n e)
theorem sbut {p : Addr} {H H' : Hp} (s : Same H H') : But p H H' := fun b o _ e => s b o e
theorem few_len (its : List Item) : (M72.few its).1.length ≤ its.length := by
  have h1 := few_le (M72.few_ok its)
  have : (wr its).length ≤ its.length := by
    unfold wr wrTo
    exact Nat.le_trans (List.length_filter_le _ _) (by simp)
  omega
theorem flat_rep (n : Nat) (v : V) : (List.replicate n [v]).flatten = List.replicate n v := by
  induction n with
  | zero => rfl
  | succ n ih => rw [List.replicate_succ, List.flatten_cons, ih]; rfl
theorem seq_rep {K : PySem.W.Frag} {H : Hp} {v : V} {it : Item} (h : ItV K H v it) : ∀ n : Nat, SeqV K H (List.replicate n v) (List.replicate n it)
  | 0 => .nil
  | n + 1 => .cons h (seq_rep h n)
theorem seq_rep2 {K : PySem.W.Frag} {H : Hp} {v u : V} {it jt : Item} (h : ItV K H v it) (h2 : ItV K H u jt) : ∀ n : Nat, SeqV K H (List.replicate n [v, u]).flatten (List.replicate n [it, jt]).flatten
  | 0 => .nil
  | n + 1 => by
    rw [List.replicate_succ, List.replicate_succ, List.flatten_cons, List.flatten_cons]
    exact .cons h (.cons h2 (seq_rep2 h h2 n))
theorem len_rep2 {α : Type} (a b : α) (n : Nat) : (List.replicate n [a, b]).flatten.length = 2 * n := by
  induction n with
  | zero => rfl
  | succ n ih =>
    rw [List.replicate_succ, List.flatten_cons, List.length_append, ih]
    show 2 + 2 * n = _
    omega
theorem few_w (n : Nat) : (M72.few (List.replicate n .w)).1 = [] ∧ (M72.few (List.replicate n .w)).2 = [] := by
  have F := M72.few_ok (List.replicate n .w)
  have h2 : (M72.few (List.replicate n .w)).2 = [] := by
    cases e : (M72.few (List.replicate n .w)).2 with
    | nil => rfl
    | cons q t =>
      have hb := F.bar
      rw [e] at hb
      obtain ⟨m, s, h1, _⟩ := Barred.head hb
      have := List.mem_of_getElem? h1
      have := (List.mem_replicate.mp this).2
      cases this
  have := F.len
  rw [h2] at this
  exact ⟨List.length_eq_zero_iff.mp this, h2⟩
abbrev alt (n : Nat) : List Item := (List.replicate n [Item.w, Item.r 0]).flatten
theorem few_alt : ∃ rest, (M72.few (alt 500)).1 = 0 :: 2 :: rest ∧ rest ≠ [] := by
  have F := M72.few_ok (alt 500)
  have i1 : (alt 500)[1]? = some (.r 0) := by rfl
  have i3 : (alt 500)[3]? = some (.r 0) := by rfl
  have i5 : (alt 500)[5]? = some (.r 0) := by rfl
  have w1 : wstart (alt 500) 1 0 = some 0 := by rfl
  have w3 : wstart (alt 500) 3 0 = some 2 := by rfl
  have w5 : wstart (alt 500) 5 0 = some 4 := by rfl
  obtain ⟨p1, m1, a1, b1⟩ := window F.srv i1 w1
  obtain ⟨p3, m3, a3, b3⟩ := window F.srv i3 w3
  obtain ⟨p5, m5, a5, b5⟩ := window F.srv i5 w5
  obtain rfl : p1 = 0 := by omega
  obtain rfl : p3 = 2 := by omega
  obtain rfl : p5 = 4 := by omega
  have n1 : 1 ∉ (M72.few (alt 500)).1 := fun h => by
    have := F.ws 1 h
    rw [i1] at this
    cases this
  have up := F.up
  generalize (M72.few (alt 500)).1 = ps at m1 m3 m5 n1 up
  cases ps with
  | nil => cases m1
  | cons x t =>
    obtain ⟨u1, u2⟩ := List.pairwise_cons.mp up
    have hx : x = 0 := by
      rcases List.mem_cons.mp m1 with h | h
      · exact h.symm
      · have := u1 0 h
        omega
    subst hx
    have m3 : 2 ∈ t := (List.mem_cons.mp m3).resolve_left (by decide)
    have m5 : 4 ∈ t := (List.mem_cons.mp m5).resolve_left (by decide)
    cases t with
    | nil => cases m3
    | cons y t =>
      obtain ⟨v1, v2⟩ := List.pairwise_cons.mp u2
      have hy : y = 2 := by
        have h0 := u1 y (List.mem_cons_self ..)
        have h1 : y ≠ 1 := fun e => n1 (by rw [← e]; exact List.mem_cons_of_mem _ (List.mem_cons_self ..))
        rcases List.mem_cons.mp m3 with h | h
        · exact h.symm
        · have := v1 2 h
          omega
      subst hy
      have m5 : 4 ∈ t := (List.mem_cons.mp m5).resolve_left (by decide)
      exact ⟨t, rfl, fun e => by rw [e] at m5; cases m5⟩
theorem run_r (n : Nat) (c : Nat → Bool) : ∀ k, runSt (List.replicate n (.r 0)) c k = ⟨0, 0, 0, []⟩
  | 0 => rfl
  | k + 1 => by
    have ih := run_r n c k
    rcases run_cases (List.replicate n (.r 0)) c k with ⟨h, _⟩ | ⟨h, _⟩ | ⟨m, _, h, _⟩ | ⟨m, _, _, e⟩ | ⟨_, e⟩
    · have := (List.mem_replicate.mp (List.mem_of_getElem? h)).2
      cases this
    · have := (List.mem_replicate.mp (List.mem_of_getElem? h)).2
      cases this
    · rw [ih] at h
      exact absurd h (Nat.not_lt_zero _)
    · rw [e, ih]
    · rw [e, ih]
theorem served_w : ∀ (n i age : Nat) (ps : List Nat), servedGo (List.replicate n .w) i ps age = true
  | 0, _, _, _ => rfl
  | n + 1, i, age, ps => by
    show servedGo (List.replicate n .w) (i + 1) ps (if i ∈ ps then 0 else age + 1) = true
    exact served_w n _ _ ps
theorem ck_w (n : Nat) : CkP (List.replicate n .w) (some (some [], some [])) := ⟨[], [], rfl, ⟨.nil, by simp⟩, ⟨.nil, by simp⟩, rfl, by simp, True.intro, served_w n 0 0 []⟩
/-- what is no sequence, with its words -/
def OddR (K : PySem.W.Frag) (H : Hp) (v : V) : Prop := BadS K H v ∧ ∃ dv, DqS K H v dv ∧ RefOk dv
theorem OddR.mono {K : PySem.W.Frag} {H H' : Hp} (s : Same H H') {v : V} (h : OddR K H v) : OddR K H' v := ⟨h.1.mono s, h.2.elim fun dv z => ⟨dv, dqs_same s z.1, z.2⟩⟩
def OddRL (K : PySem.W.Frag) (H : Hp) (vs : List V) : Prop := ∀ v ∈ vs, OddR K H v
theorem OddRL.mono {K : PySem.W.Frag} {H H' : Hp} (s : Same H H') {vs : List V} (h : OddRL K H vs) : OddRL K H' vs := fun v hv => (h v hv).mono s
theorem OddRL.snoc {K : PySem.W.Frag} {H : Hp} {vs : List V} {v : V} (h : OddRL K H vs) (hv : OddR K H v) : OddRL K H (vs ++ [v]) := fun u hu => by
  rcases List.mem_append.mp hu with hu | hu
  · exact h u hu
  · rw [List.mem_singleton.mp hu]
    exact hv
theorem itF {K : PySem.W.Frag} {H : Hp} {v : V} {b : Bool} (h : ItA K H v b) (e : b = false) : ItA K H v false := by
  rw [← e]
  exact h
theorem nw : decide (("Write" : Str) = "write") = false := by decide +kernel
theorem odd3 {K : PySem.W.Frag} {H : Hp} : OddRL K H [.non, .str "write", .int 5] := fun v hv => by
  rcases List.mem_cons.mp hv with rfl | hv
  · exact ⟨.non, _, .non, refB_ok (by decide +kernel)⟩
  rcases List.mem_cons.mp hv with rfl | hv
  · exact ⟨.str _, _, .str _, refB_ok (by decide +kernel)⟩
  rw [List.mem_singleton.mp hv]
  exact ⟨.int _, _, .int _, refB_ok (by decide +kernel)⟩
theorem odd_one {K : PySem.W.Frag} {H : Hp} {p : Addr} {v : V} {d : PyData} (h : H p = some (.lst [v])) (hm : p ≠ sysModules) (i : ItA K H v false) (hd : DqS K H v d) (ok : refB (.list [d]) = true) : OddR K H (.ref p) :=
  ⟨.items (SqL.of h) (by show 1 ≤ 1000; decide) (.cons i .nil) rfl, _, .lst hm (SqL.of h) (.cons hd .nil), refB_ok ok⟩
theorem ok1 : refB (.list [.str "Write"]) = true := by decide +kernel
theorem ok2 : refB (.list [.tuple [.str "read"]]) = true := by decide +kernel
theorem ok3 : refB (.list [.tuple [.str "read", .int (-1)]]) = true := by decide +kernel
theorem ok4 : refB (.list [.tuple [.str "read", .bool true]]) = true := by decide +kernel
theorem ok5 : refB (.list [.list [.str "read", .int 1]]) = true := by decide +kernel
theorem ok6 : refB (.list [.none]) = true := by decide +kernel
theorem ok7 : refB (.list [.tuple [.str "read", .int 1, .int 2]]) = true := by decide +kernel
theorem ok8 : refB (.list [.tuple [.str "write", .int 1]]) = true := by decide +kernel
/-! the words of a thousand and one writes -/
theorem strOk_app {a b : Str} (ha : PyData.strOk a = true) (hb : PyData.strOk b = true) : PyData.strOk (a ++ b) = true := by
  unfold PyData.strOk at *
  show (a.cps ++ b.cps).all _ = true
  rw [Array.all_append, ha, hb]
  rfl
theorem text_ok : ∀ (ts : List Str) (k : Nat) (acc : Str), PyData.strOk acc = true → (∀ t ∈ ts, PyData.strOk t = true) → PyData.strOk (textFrom k acc ts) = true
  | [], _, _, h, _ => h
  | t :: ts, k, acc, h, hs => by
    show PyData.strOk (textFrom (k + 1) (acc ++ (if k > 0 then ", " else "" : String) ++ t) ts) = true
    refine text_ok ts (k + 1) _ (strOk_app (strOk_app h ?_) (hs t (List.mem_cons_self ..))) fun u hu => hs u (List.mem_cons_of_mem _ hu)
    split <;> decide +kernel
theorem shownAll_w : ∀ n : Nat, PyData.shownAll (List.replicate n (.str "write")) = List.replicate n (PyData.shown (.str "write"))
  | 0 => rfl
  | n + 1 => by
    show PyData.shown (.str "write") :: PyData.shownAll (List.replicate n (.str "write")) = _
    rw [shownAll_w n]
    rfl
theorem text_len : ∀ (ts : List Str) (k : Nat) (acc : Str) (c : Nat), (∀ t ∈ ts, t.length ≤ c) → (textFrom k acc ts).length ≤ acc.length + ts.length * (c + 2)
  | [], _, _, _, _ => by show _ ≤ _; simp [textFrom]
  | t :: ts, k, acc, c, hs => by
    have h1 := text_len ts (k + 1) (acc ++ (if k > 0 then ", " else "" : String) ++ t) c fun u hu => hs u (List.mem_cons_of_mem _ hu)
    have h2 := hs t (List.mem_cons_self ..)
    show (textFrom (k + 1) (acc ++ (if k > 0 then ", " else "" : String) ++ t) ts).length ≤ _
    rw [PySem.Str.length_append, PySem.Str.length_append] at h1
    have h3 : ((if k > 0 then ", " else "" : String) : Str).length ≤ 2 := by split <;> decide +kernel
    rw [List.length_cons, Nat.add_mul]
    omega
theorem show_w : ∀ n : Nat, PyData.showableAll (List.replicate n (.str "write")) = true
  | 0 => rfl
  | n + 1 => by
    show (PyData.showable (.str "write") && PyData.showableAll (List.replicate n (.str "write"))) = true
    rw [show_w n]
    decide +kernel
theorem depth_w : ∀ n : Nat, PyData.depthAll (List.replicate n (.str "write")) = 0
  | 0 => rfl
  | n + 1 => by
    show max (PyData.depth (.str "write")) (PyData.depthAll (List.replicate n (.str "write"))) = 0
    rw [depth_w n]
    rfl
theorem ref_w : RefOk (.list (List.replicate 1001 (.str "write"))) := by
  have e : PyData.shown (.list (List.replicate 1001 (.str "write"))) = textFrom 0 "[" (List.replicate 1001 (PyData.shown (.str "write"))) ++ "]" := by
    show listText (PyData.shownAll (List.replicate 1001 (.str "write"))) = _
    rw [shownAll_w]
    rfl
  refine ⟨show_w 1001, ?_, ?_, ?_⟩
  · show PyData.depthAll (List.replicate 1001 (.str "write")) + 1 ≤ 60
    rw [depth_w]
    decide
  · rw [e, PySem.Str.length_append]
    have := text_len (List.replicate 1001 (PyData.shown (.str "write"))) 0 "[" 7 fun t ht => by
      rw [(List.mem_replicate.mp ht).2]
      decide +kernel
    rw [List.length_replicate] at this
    have h1 : (("[" : String) : Str).length = 1 := by decide +kernel
    have h2 : (("]" : String) : Str).length = 1 := by decide +kernel
    rw [sizeLine_eq]
    omega
  · rw [e]
    refine strOk_app (text_ok _ _ _ (by decide +kernel) fun t ht => ?_) (by decide +kernel)
    rw [(List.mem_replicate.mp ht).2]
    decide +kernel
theorem dqs_w {K : PySem.W.Frag} {H : Hp} : ∀ n : Nat, DqSAll K H (List.replicate n (.str "write")) (List.replicate n (.str "write"))
  | 0 => .nil
  | n + 1 => .cons (.str _) (dqs_w n)
abbrev sLaw : Stmt := top 27
def lawN : List Str := ["_law_script", "_law_told", "_law_turn", "_law_source_here", "_law_sequence_here", "_law_found", "_law_attempt", "_law_thing", "_law_odd"]
theorem scL : FnScope lawN ["_law_script"] (defScope sLaw) := ⟨rfl, rfl, rfl, by decide +kernel, rfl, by decide +kernel, by decide +kernel⟩
def qL : Str := "law.<locals>.<lambda>"
section
variable {P : Program} {w : World} {K : PySem.W.Frag} {mg : Str → Option Value} {base : Heap}
theorem run_law {CS PtL Pt cL gR : Addr} {fdR : FuncData} {f a : Addr} {fd : FuncData} {s : Shared} {H : Hp} {ns : List Int} (F : Fun K "law" "law" sLaw f fd) (hcL : fd.code = .ref cL) (B : Bn mg) (C : Bq mg)
    (FR : Fun K "run_policy" "run_policy" sRp gR fdR) (bR : Binds K fdR ["sequence", "policy"] []) (mRP : mg "run_policy" = some (.ref gR)) (TBL : TabB base mg cL PtL) (nPt : Pt ≠ PtL)
    (GK : DefX P w K mg base 3 "check_sequence" ["obj"] (spChkS K CS)) (GFP : DefX P w K mg base 4 "fewest_pushes" ["sequence"] (spFP K CS)) (GCP : DefX P w K mg base 4 "check_pushes" ["sequence", "obj"] (spCP K CS))
    (GSo : DefAt P w K mg base 1 "_law_source" ["_law_script", "_law_turn"] (spSource K)) (GSq : DefAt P w K mg base 2 "_law_sequence" ["_law_source_here", "_law_most"] (spSeq K)) (GB : DefAt P w K mg base 2 "_law_bent" ["_law_source_here", "_law_sequence_here", "_law_found"] (spBent K))
    (GA : DefAt P w K mg base 2 "_law_accepts" ["_law_sequence_here", "_law_thing"] (spAcc K)) (GPo : DefG P w K mg base 6 "_law_policies_right" ["_law_source_here", "_law_sequence_here"] (spPol K [(Pt, qPo)])) (GRf : DefG P w K mg base 5 "_law_refused" ["_law_thing"] (spRef K))
    (hb : ∀ (s : Shared) (u : Value), BindsTo s fd ⟨[u], []⟩ [("_law_script", u)]) (e0 : Env0 P w K mg base callerA [] s H) (hS : SqL K H a (ns.map V.int)) (hns : ns.length ≤ 63) (hT : Tabs [(PtL, qL), (Pt, qPo)] H) :
    codeAny (model P w) callerA (.call (.ref f) ⟨[.ref a], []⟩) (CR CX0 [] P w H s (fun v _ => v = .bl true) E0) s := by
  have hroom : Room 40 callerA := ⟨rfl, by decide, by decide⟩
  suffices G : FnG P w K mg base CX0 40 f fd ["_law_script"] (spLaw K [(PtL, qL), (Pt, qPo)]) from
    G.run callerA [] s H _ [Value.ref a] [V.ref a] _ _ hroom rfl e0 (hb s (.ref a)) (.cons rfl .nil) ⟨a, ns, rfl, hS, hns, hT, fun _ => rfl⟩
  clear hT hS e0 hroom hns
  refine fn_atC F hcL scL (fun vs H Q E h => ?_) (fun A outer s H vs Q E hgu hr h => ?_)
  · obtain ⟨a, ns, rfl, _⟩ := h
    rfl
  obtain ⟨a, ns, rfl, hS, hns, hT, k⟩ := h
  have hr1 : Room 1 _ := hr.mono (by decide)
  have hr2 : Room 2 _ := hr.mono (by decide)
  have hr4 : Room 4 _ := hr.mono (by decide)
  have hr5 : Room 5 _ := hr.mono (by decide)
  have hr6 : Room 6 _ := hr.mono (by decide)
  have hu64 : _ + 64 < cLine := hr.units
  have hu70 : (A.deeper (envOfC "law" (defScope sLaw) s.heap.objs.size f (.ref cL))).units + 70 < cLine := by
    have := hr.un
    omega
  have two_P : ∀ p ∈ [(PtL, qL), (Pt, qPo)], p.1 = PtL → p.2 = qL := fun p hp e => by
    rcases List.mem_cons.mp hp with rfl | hp
    · rfl
    · rw [List.mem_singleton.mp hp] at e
      exact absurd e nPt
  obtain ⟨oc, od, kV, doc, pm, an, cdv, ct, osl, rfl, lk, hcg⟩ := FR.ex
  refine ⟨_, PSs.nox (pss_cons (ps_if (PW.pt (pw_or (pt_cmpR (op_neD hu64) (pe_callX GFP hr4 (pa_cons (pe_op op_rep (pe_lst (pa_cons pe_str pa_nil)) pe_int) pa_nil)) (pe_tup (pa_cons (pe_tup pa_nil) (pa_cons (pe_tup pa_nil) pa_nil))) (nomark _)) (pw_or1 (pt_cmpR (op_neD hu64) (pe_slice sl_tupA (pe_ix ix_tup (pe_callX GFP hr4 (pa_cons (pe_op op_rep (pe_lst (pa_cons pe_str (pa_cons (pe_tup (pa_cons pe_str (pa_cons pe_int pa_nil))) pa_nil))) pe_int) pa_nil)) pe_int (fun _ _ => rfl)) po_none (po_some pe_int)) (pe_tup (pa_cons pe_int (pa_cons pe_int pa_nil))) (nomark _))))) (pss_one (ps_ret pe_bl)) pss_nil)
          (pss_cons (ps_set (i := 1) scL.nd rfl (Or.inl rfl) (pe_lam2call (T := [(PtL, qL), (Pt, qPo)]) (TT := TRunE K) (t := tC (.bl true)) (a1 := "_law_index") (a2 := "_law_age") (i := 1) (j1 := 5) (j2 := 2) (k := 1) (by rfl) mRP FR.kp lk hcg bR scRp rfl (.inl rfl) rfl (.inl rfl) rfl (.inl rfl) (policy_givesE B C GK hr4) TBL rfl (List.mem_cons_self ..) two_P (Room.mono (j := 3) (k := 39) hr (by decide)) (lam2S_by (sc := defScope sLaw) (N := lawN) (by decide +kernel)) rfl (fun _ _ _ _ _ _ _ => rfl) (pe_op op_rep (pe_lst (pa_cons (pe_tup (pa_cons pe_str (pa_cons pe_int pa_nil))) pa_nil)) pe_int) (fun A outer s H f c' hr2 => pe_bl)))
          (pss_cons (ps_if (PW.pt (pw_or (pt_cmpR (op_neD hu64) (pv 1) (pe_tup (pa_cons pe_int (pa_cons pe_int pa_nil))) (nomark _)) (pw_or1 (pt_not (pt_val (pe_callX GCP hr4 (pa_cons (pe_op op_rep (pe_lst (pa_cons pe_str pa_nil)) pe_int) (pa_cons (pe_tup (pa_cons (pe_tup pa_nil) (pa_cons (pe_tup pa_nil) pa_nil))) pa_nil)))))))) (pss_one (ps_ret pe_bl)) pss_nil)
          (pss_cons (ps_for PassesOwn.never rfl (pi_range1 (by rfl) B.range (pa_cons (pe_callB (call_max2 rfl) (by rfl) B.max PyProof.Rows.boot_max (pa_cons pe_int (pa_cons (pe_callB (call_min2 rfl) (by rfl) B.min PyProof.Rows.boot_min (pa_cons (pe_callB call_len_seq (by rfl) B.len PySem.boot_len (pa_cons (pv 0) pa_nil)) (pa_cons pe_int pa_nil))) pa_nil))) pa_nil)) (pg_name (i := 2) scL.nd rfl (Or.inl rfl)) (pss_cons (ps_set (i := 3) scL.nd rfl (Or.inl rfl) (pe_callD GSo hr1 (pa_cons (pv 0) (pa_cons (pv 2) pa_nil))))
          (pss_cons (ps_set (i := 4) scL.nd rfl (Or.inl rfl) (pe_callD GSq hr2 (pa_cons (pv 3) (pa_cons pe_int pa_nil))))
          (pss_cons (ps_set (i := 5) scL.nd rfl (Or.inl rfl) (pe_callX GFP hr4 (pa_cons (pv 4) pa_nil)))
          (pss_cons (ps_for PassesOwn.never rfl (pi_range1 (by rfl) B.range (pa_cons pe_int pa_nil)) (pg_name (i := 6) scL.nd rfl (Or.inl rfl)) (pss_cons (ps_set (i := 7) scL.nd rfl (Or.inl rfl) (pe_callD GB hr2 (pa_cons (pv 3) (pa_cons (pv 4) (pa_cons (pv 5) pa_nil)))))
          (pss_one (ps_if (pt_cmpR op_ne (pe_callB (call_reprq hgu hu70) (by rfl) B.repr (by decide +kernel) (pa_cons (pe_callX GCP hr4 (pa_cons (pv 4) (pa_cons (pv 7) pa_nil))) pa_nil)) (pe_callB (call_reprq hgu hu70) (by rfl) B.repr (by decide +kernel) (pa_cons (pe_callD GA hr2 (pa_cons (pv 4) (pa_cons (pv 7) pa_nil))) pa_nil)) (nomark _)) (pss_one (ps_ret pe_bl)) pss_nil))))
          (pss_cons (ps_if (pt_not (pt_val (pe_callG GPo hr6 hgu (pa_cons (pv 3) (pa_cons (pv 4) pa_nil))))) (pss_one (ps_ret pe_bl)) pss_nil)
          (pss_one (ps_for PassesOwn.never rfl (pi_list (pe_lst (pa_cons pe_non (pa_cons pe_str (pa_cons pe_int (pa_cons (pe_lstN (pa_cons pe_str pa_nil)) (pa_cons (pe_lstN (pa_cons (pe_tup (pa_cons pe_str pa_nil)) pa_nil)) (pa_cons (pe_lstN (pa_cons (pe_tup (pa_cons pe_str (pa_cons (pe_un un_neg pe_int) pa_nil))) pa_nil)) (pa_cons (pe_lstN (pa_cons (pe_tup (pa_cons pe_str (pa_cons pe_bl pa_nil))) pa_nil)) (pa_cons (pe_lstN (pa_cons (pe_lstN (pa_cons pe_str (pa_cons pe_int pa_nil))) pa_nil)) (pa_cons (pe_lstN (pa_cons pe_non pa_nil)) pa_nil))))))))))) (pg_name (i := 8) scL.nd rfl (Or.inl rfl)) (pss_one (ps_if (pt_not (pt_val (pe_callG GRf hr5 hgu (pa_cons (pv 8) pa_nil)))) (pss_one (ps_ret pe_bl)) pss_nil))))))))))
          (pss_one (ps_ret (pe_and (pe_callG GRf hr5 hgu (pa_cons (pe_op op_repN (pe_lst (pa_cons pe_str pa_nil)) pe_int) pa_nil)) (pe_and (pe_callG GRf hr5 hgu (pa_cons (pe_lstN (pa_cons (pe_tup (pa_cons pe_str (pa_cons pe_int (pa_cons pe_int pa_nil)))) pa_nil)) pa_nil)) (pe_one (pe_callG GRf hr5 hgu (pa_cons (pe_lstN (pa_cons (pe_tup (pa_cons pe_str (pa_cons pe_int pa_nil))) pa_nil)) pa_nil))))))))))), ?_⟩
  -- a thousand writes
  refine ⟨by show 1 ≤ sizeLine; decide, fun l hl => ?_⟩
  refine ⟨l, _, _, rfl, rfl, upd_same, by decide, by decide, by rw [sizeLine_eq]; decide, fun l1 hl1 => ?_⟩
  have hW : ∀ (X : V), (List.replicate (1000 : Int).toNat [X]).flatten = List.replicate 1000 X := fun X => flat_rep 1000 X
  rw [hW]
  have ls1 : upd (upd H l (.lst [.str "write"])) l1 (HO.lst (List.replicate 1000 (.str "write"))) l1 = some (.lst (List.replicate 1000 (.str "write"))) := upd_same
  have s1 : Same H (upd (upd H l (.lst [.str "write"])) l1 (.lst (List.replicate 1000 (.str "write")))) := Same.trans (Same.upd hl) (Same.upd hl1)
  generalize upd (upd H l (.lst [.str "write"])) l1 (HO.lst (List.replicate 1000 (.str "write"))) = H1 at ls1 s1 ⊢
  have svW : ∀ (H : Hp) (n : Nat), SeqV K H (List.replicate n (.str "write")) (List.replicate n .w) := fun H n => seq_rep .w n
  have hlr : ∀ {α : Type} (x : α), (List.replicate 1000 x).length ≤ 1000 := fun x => Nat.le_of_eq (List.length_replicate ..)
  refine .inr ⟨l1, _, _, rfl, .inl (SqL.of ls1), svW _ _, hlr _, fun r0 pa ra H2 s2 hR hP hA => ?_⟩
  obtain ⟨e1, e2⟩ := few_w 1000
  rw [e1] at hP
  rw [e2] at hA
  clear e1 e2
  refine ⟨by show 0 ≤ sizeLine; decide, fun u0 hu0 => ?_⟩
  refine ⟨by show 0 ≤ sizeLine; decide, fun u1 hu1 => ?_⟩
  refine ⟨by show 2 ≤ sizeLine; decide, fun u2 hu2 => ?_⟩
  have t1 : Same H2 (upd H2 u0 (.tup [])) := Same.upd hu0
  have lu0 : upd H2 u0 (HO.tup []) u0 = some (.tup []) := upd_same
  generalize upd H2 u0 (HO.tup []) = H3 at hu1 hu2 t1 lu0 ⊢
  have t2 : Same H3 (upd H3 u1 (.tup [])) := Same.upd hu1
  have lu1 : upd H3 u1 (HO.tup []) u1 = some (.tup []) := upd_same
  generalize upd H3 u1 (HO.tup []) = H4 at hu2 t2 lu1 ⊢
  have t3 : Same H4 (upd H4 u2 (.tup [.ref u0, .ref u1])) := Same.upd hu2
  have lu2 : upd H4 u2 (HO.tup [.ref u0, .ref u1]) u2 = some (.tup [.ref u0, .ref u1]) := upd_same
  generalize upd H4 u2 (HO.tup [.ref u0, .ref u1]) = H5 at t3 lu2 ⊢
  have t23 := Same.trans t2 t3
  have t123 := Same.trans t1 t23
  refine ⟨.tuple [.tuple [], .tuple []], .tuple [.tuple [], .tuple []], .tup (sqt_same t123 hR) (.cons (.tup (sqt_same t123 hP) .nil) (.cons (.tup (sqt_same t123 hA) .nil) .nil)), .tup (SqT.of lu2) (.cons (.tup (SqT.of (t23 _ _ lu0)) .nil) (.cons (.tup (SqT.of (t3 _ _ lu1)) .nil) .nil)), rfl, rfl, _, rfl, iteF ?_⟩
  have s5 := Same.trans (Same.trans s1 s2) t123
  have hS5 := s5.seq hS
  clear hl hl1 hu0 hu1 hu2 lu0 lu1 lu2 t1 t2 t3 t23 t123 hR hP hA s1 s2 ls1
  -- five hundred writes, each before a read
  refine ⟨by show 2 ≤ sizeLine; decide, fun t ht => ⟨by show 2 ≤ sizeLine; decide, fun l hl => ?_⟩⟩
  have r1 : Same H5 (upd H5 t (.tup [.str "read", .int 0])) := Same.upd ht
  have lt1 : upd H5 t (HO.tup [.str "read", .int 0]) t = some (.tup [.str "read", .int 0]) := upd_same
  generalize upd H5 t (HO.tup [.str "read", .int 0]) = H6 at r1 lt1 hl ⊢
  refine ⟨l, _, _, rfl, rfl, upd_same, by decide, by decide, by rw [sizeLine_eq]; show 2 * 500 ≤ 16777216; decide, fun l1 hl1 => ?_⟩
  rw [show (List.replicate (500 : Int).toNat [V.str "write", .ref t]).flatten = (List.replicate 500 [V.str "write", .ref t]).flatten from rfl]
  have s1 : Same H6 (upd (upd H6 l (.lst [.str "write", .ref t])) l1 (.lst (List.replicate 500 [V.str "write", .ref t]).flatten)) := Same.trans (Same.upd hl) (Same.upd hl1)
  have ls1 : upd (upd H6 l (.lst [.str "write", .ref t])) l1 (HO.lst (List.replicate 500 [V.str "write", .ref t]).flatten) l1 = some (.lst (List.replicate 500 [V.str "write", .ref t]).flatten) := upd_same
  generalize upd (upd H6 l (.lst [.str "write", .ref t])) l1 (HO.lst (List.replicate 500 [V.str "write", .ref t]).flatten) = H7 at s1 ls1 ⊢
  have lt7 := s1 _ _ lt1
  refine .inr ⟨l1, _, alt 500, rfl, .inl (SqL.of ls1), seq_rep2 .w (.r (n := 0) (SqT.of lt7)) 500, Nat.le_of_eq (len_rep2 _ _ 500), fun r0 pa ra H8 s2 hR hP hA => ?_⟩
  obtain ⟨rest, e1, e2⟩ := few_alt
  rw [e1] at hP
  refine ⟨r0, _, _, _, rfl, rfl, hR, atI_nat (j := 0) rfl, _, rfl, pa, _, rfl, hP, fun z => ?_, fun _ u hu => ?_⟩
  · have z := z.2
    have h2 : (natV (0 :: 2 :: rest)).length = rest.length + 2 := by
      unfold natV
      rw [List.length_map]
      rfl
    rw [h2] at z
    have : rest.length ≠ 0 := fun y => e2 (List.length_eq_zero_iff.mp y)
    have hs : HT.sIx (rest.length + 2) (rest.length + 2) (some 2) = 2 := by
      have := HT.sIx_nat (rest.length + 2) (rest.length + 2) 2
      rw [Nat.min_eq_left (by omega)] at this
      exact this
    rw [hs] at z
    omega
  have hcut : cutV (natV (0 :: 2 :: rest)) none (some 2) = [.int 0, .int 2] := by
    have h2 : (natV (0 :: 2 :: rest)).length = rest.length + 2 := by
      unfold natV
      rw [List.length_map]
      rfl
    have hs : HT.sIx (rest.length + 2) (rest.length + 2) (some 2) = 2 := by
      have := HT.sIx_nat (rest.length + 2) (rest.length + 2) 2
      rw [Nat.min_eq_left (by omega)] at this
      exact this
    unfold cutV
    rw [h2, hs]
    rfl
  rw [hcut]
  have r3 : Same H8 (upd H8 u (.tup [.int 0, .int 2])) := Same.upd hu
  have lu3 : upd H8 u (HO.tup [.int 0, .int 2]) u = some (.tup [.int 0, .int 2]) := upd_same
  generalize upd H8 u (HO.tup [.int 0, .int 2]) = H9 at r3 lu3 ⊢
  refine ⟨by show 2 ≤ sizeLine; decide, fun u2 hu2 => ?_⟩
  have r4 : Same H9 (upd H9 u2 (.tup [.int 0, .int 2])) := Same.upd hu2
  have lu4 : upd H9 u2 (HO.tup [.int 0, .int 2]) u2 = some (.tup [.int 0, .int 2]) := upd_same
  generalize upd H9 u2 (HO.tup [.int 0, .int 2]) = H10 at r4 lu4 ⊢
  refine ⟨.tuple [.int 0, .int 2], .tuple [.int 0, .int 2], .tup (SqT.of (r4 _ _ lu3)) (.cons (.int _) (.cons (.int _) .nil)), .tup (SqT.of lu4) (.cons (.int _) (.cons (.int _) .nil)), rfl, rfl, _, rfl, iteF ?_⟩
  have s10 := Same.trans s5 (Same.trans r1 (Same.trans s1 (Same.trans s2 (Same.trans r3 r4))))
  clear hcut e1 e2 hP hA hR lu3 lu4 hu hu2 r1 r3 r4 s1 s2 ls1 lt1 lt7 ht hl hl1 s5 hS5
  -- told
  refine ⟨by show 2 ≤ sizeLine; decide, fun t ht => ⟨by show 1 ≤ sizeLine; decide, fun l hl => ?_⟩⟩
  have r1 : Same H10 (upd H10 t (.tup [.str "read", .int 0])) := Same.upd ht
  have lt1 : upd H10 t (HO.tup [.str "read", .int 0]) t = some (.tup [.str "read", .int 0]) := upd_same
  generalize upd H10 t (HO.tup [.str "read", .int 0]) = H11 at r1 lt1 hl ⊢
  refine ⟨l, _, _, rfl, rfl, upd_same, by decide, by decide, by rw [sizeLine_eq]; show 1 * 1000 ≤ 16777216; decide, fun l1 hl1 => ?_⟩
  rw [hW]
  have s1 : Same H11 (upd (upd H11 l (.lst [.ref t])) l1 (.lst (List.replicate 1000 (.ref t)))) := Same.trans (Same.upd hl) (Same.upd hl1)
  have ls1 : upd (upd H11 l (.lst [.ref t])) l1 (HO.lst (List.replicate 1000 (.ref t))) l1 = some (.lst (List.replicate 1000 (.ref t))) := upd_same
  generalize upd (upd H11 l (.lst [.ref t])) l1 (HO.lst (List.replicate 1000 (.ref t))) = H12 at s1 ls1 ⊢
  have lt12 := s1 _ _ lt1
  have s12 := Same.trans s10 (Same.trans r1 s1)
  have T12 := hT.ext s12
  clear s1 r1 s10 hl1 hl ht lt1
  refine ⟨T12, fun H13 e13 T13 => ?_⟩
  have E13 : ExtN H H13 := ExtN.trans (ExtN.of s12) e13
  have lt13 := e13 _ _ lt12 (fun _ z => by cases z)
  have ls13 := e13 _ _ ls1 (fun _ z => by cases z)
  clear s12 T12 e13 lt12 ls1
  refine ⟨l1, _, List.replicate 1000 (.r 0), fun _ => true, rfl, SqL.of ls13, seq_rep (.r (n := 0) (SqT.of lt13)) 1000, hlr _, fun _ H' => Same H13 H', fun _ _ e => e, ?_, ?_, ?_, ?_, ?_⟩
  · exact fun i H' sm => ⟨SqL.of (sm _ _ ls13), seq_rep (.r (n := 0) (SqT.of (sm _ _ lt13))) 1000, fun c' q e => sm _ _ e⟩
  · exact fun i H' H'' sm sm2 => Same.trans sm sm2
  · intro i H' h
    have := (List.mem_replicate.mp (List.mem_of_getElem? h)).2
    cases this
  · exact fun i n H' _ sm => sm
  rintro H14 t2 s14 ht2
  rw [run_r]
  have E14 : ExtN H H14 := ExtN.trans E13 (ExtN.of s14)
  have T14 := T13.ext s14
  clear ls13 lt13 s14 E13 T13
  have r1 : Same H14 (upd H14 t2 (.tup [.int ((0 : Nat) : Int), .int ((0 : Nat) : Int)])) := Same.upd ht2
  have lt1 : upd H14 t2 (HO.tup [.int ((0 : Nat) : Int), .int ((0 : Nat) : Int)]) t2 = some (.tup [.int 0, .int 0]) := upd_same
  generalize upd H14 t2 (HO.tup [.int ((0 : Nat) : Int), .int ((0 : Nat) : Int)]) = H15 at r1 lt1 ⊢
  refine ⟨_, rfl, by show 2 ≤ sizeLine; decide, fun u hu => ?_⟩
  have r2 : Same H15 (upd H15 u (.tup [.int 0, .int 0])) := Same.upd hu
  have lu : upd H15 u (HO.tup [.int 0, .int 0]) u = some (.tup [.int 0, .int 0]) := upd_same
  generalize upd H15 u (HO.tup [.int 0, .int 0]) = H16 at r2 lu ⊢
  refine ⟨.tuple [.int 0, .int 0], .tuple [.int 0, .int 0], .tup (SqT.of (r2 _ _ lt1)) (.cons (.int _) (.cons (.int _) .nil)), .tup (SqT.of lu) (.cons (.int _) (.cons (.int _) .nil)), rfl, rfl, _, rfl, iteF ?_⟩
  have E16 : ExtN H H16 := ExtN.trans E14 (ExtN.of (Same.trans r1 r2))
  have T16 := T14.ext (Same.trans r1 r2)
  clear r1 r2 lt1 lu hu ht2 E14 T14
  -- a thousand writes need no push
  refine ⟨by show 1 ≤ sizeLine; decide, fun l hl => ?_⟩
  refine ⟨l, _, _, rfl, rfl, upd_same, by decide, by decide, by rw [sizeLine_eq]; decide, fun l1 hl1 => ?_⟩
  rw [hW]
  have ls1 : upd (upd H16 l (.lst [.str "write"])) l1 (HO.lst (List.replicate 1000 (.str "write"))) l1 = some (.lst (List.replicate 1000 (.str "write"))) := upd_same
  have s1 : Same H16 (upd (upd H16 l (.lst [.str "write"])) l1 (.lst (List.replicate 1000 (.str "write")))) := Same.trans (Same.upd hl) (Same.upd hl1)
  generalize upd (upd H16 l (.lst [.str "write"])) l1 (HO.lst (List.replicate 1000 (.str "write"))) = H17 at ls1 s1 ⊢
  refine ⟨by show 0 ≤ sizeLine; decide, fun u0 hu0 => ?_⟩
  refine ⟨by show 0 ≤ sizeLine; decide, fun u1 hu1 => ?_⟩
  refine ⟨by show 2 ≤ sizeLine; decide, fun u2 hu2 => ?_⟩
  have t1 : Same H17 (upd H17 u0 (.tup [])) := Same.upd hu0
  have lu0 : upd H17 u0 (HO.tup []) u0 = some (.tup []) := upd_same
  generalize upd H17 u0 (HO.tup []) = H18 at hu1 hu2 t1 lu0 ⊢
  have t2 : Same H18 (upd H18 u1 (.tup [])) := Same.upd hu1
  have lu1 : upd H18 u1 (HO.tup []) u1 = some (.tup []) := upd_same
  generalize upd H18 u1 (HO.tup []) = H19 at hu2 t2 lu1 ⊢
  have t3 : Same H19 (upd H19 u2 (.tup [.ref u0, .ref u1])) := Same.upd hu2
  have lu2 : upd H19 u2 (HO.tup [.ref u0, .ref u1]) u2 = some (.tup [.ref u0, .ref u1]) := upd_same
  generalize upd H19 u2 (HO.tup [.ref u0, .ref u1]) = H20 at t3 lu2 ⊢
  have t23 := Same.trans t2 t3
  have t123 := Same.trans t1 t23
  refine .inr ⟨l1, .ref u2, _, _, some (some [], some []), rfl, SqL.of (t123 _ _ ls1), svW _ _, hlr _, .pair (SqT.of lu2) (.tup (SqT.of (t23 _ _ lu0)) (fun v hv => by cases hv)) (.tup (SqT.of (t3 _ _ lu1)) (fun v hv => by cases hv)), (fun p r e => by cases e; exact ⟨fun xs e => by cases e; exact Nat.zero_le _, fun xs e => by cases e; exact Nat.zero_le _⟩), fun b H21 hb s21 => ?_⟩
  obtain rfl : b = true := hb.mpr (ck_w 1000)
  refine ⟨_, rfl, iteF ?_⟩
  have E21 : ExtN H H21 := ExtN.trans E16 (ExtN.of (Same.trans s1 (Same.trans t123 s21)))
  have T21 := T16.ext (Same.trans s1 (Same.trans t123 s21))
  clear s1 t1 t2 t3 t23 t123 s21 hb ls1 lu0 lu1 lu2 hu0 hu1 hu2 hl hl1 E16 T16
  have TP : Tabs [(Pt, qPo)] H21 := fun z hz => T21 z (List.mem_cons_of_mem _ hz)
  clear T21 hT hlr
  generalize V.ref t2 = told
  -- the turns
  refine ⟨_, rfl, a, _, rfl, .inl (EX.ExtN.seq E21 hS), _, _, rfl, _, _, rfl, _, rfl, ?_, ?_, ?_⟩
  · rw [List.length_map]; split <;> split <;> omega
  · rw [List.length_map]; split <;> split <;> omega
  refine for_range (fun i σ H' => ∃ v2 v3 v4 v5 v6 v7 v8, σ = [some (V.ref a), some told, v2, v3, v4, v5, v6, v7, v8] ∧ ExtN H H' ∧ Tabs [(Pt, qPo)] H') ⟨_, _, _, _, _, _, _, rfl, E21, TP⟩ ?_ ?_
  · rintro i σ H' hi ⟨v2, v3, v4, v5, v6, v7, v8, rfl, E, T⟩
    have hi63 : i ≤ 1000 := by
      rw [List.length_map] at hi
      split at hi <;> split at hi <;> omega
    clear hi E21 TP
    refine ⟨_, rfl, _, rfl, a, ns, i, by rw [Int.zero_add]; rfl, EX.ExtN.seq E hS, hi63, fun p x0 y0 hp hsrc => ?_⟩
    have npH : ∀ b o, H b = some o → (∀ ps, o ≠ .tbl ps) → b ≠ p := fun b o h n z => by
      subst z
      have := E _ _ h n
      rw [hp] at this
      cases this
    have E1 : ExtN H (upd H' p (.lst [.int x0, .int y0])) := ExtN.trans E (ExtN.of (Same.upd hp))
    have T1 : Tabs [(Pt, qPo)] (upd H' p (.lst [.int x0, .int y0])) := T.ext (Same.upd hp)
    have lp1 : upd H' p (HO.lst [.int x0, .int y0]) p = some (.lst [.int x0, .int y0]) := upd_same
    generalize upd H' p (HO.lst [.int x0, .int y0]) = H1 at E1 T1 lp1 ⊢
    clear E T hp
    -- the sequence
    refine ⟨_, rfl, p, x0, y0, 12, rfl, lp1, hsrc, by decide, fun q xs its x2 y2 H2 b2 lp2 src2 hq0 _ lq2 sv2 hxs _ => ?_⟩
    have nqp : q ≠ p := fun z => by
      rw [z, lp1] at hq0
      cases hq0
    have hxs : xs.length ≤ 1000 := Nat.le_trans hxs (by decide)
    have hlen : xs.length = its.length := Paired.length sv2
    -- the fewest
    refine ⟨_, rfl, .inr ⟨q, xs, its, rfl, .inl (SqL.of lq2), sv2, hxs, fun r pa ra H3 s3 hR hP hA => ?_⟩⟩
    have l1 : (M72.few its).1.length ≤ 1000 := Nat.le_trans (few_len its) (by omega)
    have l2 : (M72.few its).2.length ≤ 1000 := by
      rw [← (M72.few_ok its).len]
      exact l1
    generalize (M72.few its).1 = ps at hP l1
    generalize (M72.few its).2 = rs at hA l2
    have b3 := b2.trans (sbut (p := p) s3)
    have lp3 := s3 _ _ lp2
    have lq3 := s3 _ _ lq2
    have sv3 := sv2.mono s3
    clear b2 lp2 lq2 sv2 s3 hq0
    -- the things
    refine ⟨20, rfl, by decide, by decide, ?_⟩
    refine for_range (fun j σ H' => ∃ v6 v7 x y, σ = [some (V.ref a), some told, some (.int (0 + (i : Int))), some (.ref p), some (.ref q), some (.ref r), v6, v7, v8] ∧ But p H3 H' ∧ H' p = some (.lst [.int x, .int y]) ∧ SrcOk x y) ⟨_, _, x2, y2, rfl, fun _ _ _ e => e, lp3, src2⟩ ?_ ?_
    · rintro j σ H4 _ ⟨v6, v7, x4, y4, rfl, b4, lp4, src4⟩
      have lq4 := b4 _ _ nqp lq3
      refine ⟨_, rfl, _, rfl, _, rfl, p, q, r, pa, ra, x4, y4, xs, ps, rs, rfl, lp4, src4, SqL.of lq4, hxs, b4.sqt lp3 hR, b4.sqt lp3 hP, b4.sqt lp3 hA, l1, l2, fun v x5 y5 H5 b5 lp5 src5 th => ?_⟩
      obtain ⟨t, tg, sm⟩ := th
      have b45 := b4.trans b5
      have lq5 := b45 _ _ nqp lq3
      have sv5 := sv3.but b45 lp3
      clear b4 lp4 src4 lq4 b5
      refine ⟨_, rfl, _, rfl, .inr ⟨q, v, xs, its, t, rfl, SqL.of lq5, sv5, hxs, tg, sm, fun bb H6 hb s6 => ?_⟩⟩
      refine ⟨_, _, rfl, .bl bb, by cases bb <;> rfl, by show 0 ≤ 60; decide, by cases bb <;> (rw [sizeLine_eq]; decide), ?_⟩
      refine ⟨_, rfl, _, rfl, q, v, xs, its, t, rfl, SqL.of (s6 _ _ lq5), sv5.mono s6, hxs, tg.mono s6, sm, fun b2 H7 hb2 s7 => ?_⟩
      have eb : b2 = bb := Bool.eq_iff_iff.mpr (hb2.trans hb.symm)
      subst eb
      refine ⟨_, _, rfl, .bl b2, by cases b2 <;> rfl, by show 0 ≤ 60; decide, by cases b2 <;> (rw [sizeLine_eq]; decide), ?_⟩
      refine ⟨rfl, ?_⟩
      rw [decide_eq_true rfl]
      have s67 := Same.trans s6 s7
      exact ⟨_, rfl, iteF ⟨_, _, x5, y5, rfl, b45.trans (sbut (p := p) s67), s67 _ _ lp5, src5⟩⟩
    rintro σ H4 ⟨v6, v7, x4, y4, rfl, b34, lp4, src4⟩
    have b4 := b3.trans b34
    have lq4 := b34 _ _ nqp lq3
    have sv4 := sv3.but b34 lp3
    have T4 : Tabs [(Pt, qPo)] H4 := EX.Tabs.but (p := p) T1 (fun b o hb e => b4 b o hb e) lp1 (fun ps z => by cases z) (fun c q => codeO_lst _)
    have E4 : ExtN H H4 := fun b o h n => b4 b o (npH b o h n) (E1 b o h n)
    clear hR hP hA b3 b34 b4 lq3 lp3 sv3 T1 E1 lp1
    -- the policies
    refine ⟨_, rfl, _, rfl, p, q, x4, y4, xs, its, rfl, lp4, src4, nqp, lq4, sv4, hxs, T4, fun x5 y5 H5 b45 lp5 src5 T5 => ⟨_, rfl, iteF ?_⟩⟩
    have E5 : ExtN H H5 := fun b o h n => b45 b o (npH b o h n) (E4 b o h n) n
    clear E4 T4 lp4 src4 b45 sv4 lq4 lp5
    -- what is no sequence
    have O0 : OddRL K H5 [.non, .str "write", .int 5] := odd3
    refine ⟨by show 1 ≤ sizeLine; decide, fun p1 hp1 hm1 => ?_⟩
    have s6 : Same H5 (upd H5 p1 (.lst [.str "Write"])) := Same.upd hp1
    have lp1 : upd H5 p1 (HO.lst [.str "Write"]) p1 = some (.lst [.str "Write"]) := upd_same
    generalize upd H5 p1 (HO.lst [.str "Write"]) = H6 at s6 lp1 ⊢
    have O1 : OddRL K H6 [.non, .str "write", .int 5, .ref p1] := OddRL.snoc ((O0).mono s6) (odd_one lp1 hm1 (itF (.str _) nw) (.str _) ok1)
    refine ⟨by show 1 ≤ sizeLine; decide, fun t2 ht2 => ?_⟩
    have s7 : Same H6 (upd H6 t2 (.tup [.str "read"])) := Same.upd ht2
    have lt2 : upd H6 t2 (HO.tup [.str "read"]) t2 = some (.tup [.str "read"]) := upd_same
    generalize upd H6 t2 (HO.tup [.str "read"]) = H7 at s7 lt2 ⊢
    refine ⟨by show 1 ≤ sizeLine; decide, fun p2 hp2 hm2 => ?_⟩
    have s8 : Same H7 (upd H7 p2 (.lst [.ref t2])) := Same.upd hp2
    have lp2 : upd H7 p2 (HO.lst [.ref t2]) p2 = some (.lst [.ref t2]) := upd_same
    generalize upd H7 p2 (HO.lst [.ref t2]) = H8 at s8 lp2 ⊢
    have O2 : OddRL K H8 [.non, .str "write", .int 5, .ref p1, .ref p2] := OddRL.snoc (((O1).mono s7).mono s8) (odd_one lp2 hm2 (.tup (SqT.of (s8 _ _ lt2)) (by show 1 ≠ 2; decide)) (.tup (SqT.of (s8 _ _ lt2)) (.cons (.str _) .nil)) ok2)
    refine ⟨_, rfl, by show 2 ≤ sizeLine; decide, fun t3 ht3 => ?_⟩
    have s9 : Same H8 (upd H8 t3 (.tup [.str "read", .int (-1)])) := Same.upd ht3
    have lt3 : upd H8 t3 (HO.tup [.str "read", .int (-1)]) t3 = some (.tup [.str "read", .int (-1)]) := upd_same
    generalize upd H8 t3 (HO.tup [.str "read", .int (-1)]) = H9 at s9 lt3 ⊢
    refine ⟨by show 1 ≤ sizeLine; decide, fun p3 hp3 hm3 => ?_⟩
    have s10 : Same H9 (upd H9 p3 (.lst [.ref t3])) := Same.upd hp3
    have lp3 : upd H9 p3 (HO.lst [.ref t3]) p3 = some (.lst [.ref t3]) := upd_same
    generalize upd H9 p3 (HO.lst [.ref t3]) = H10 at s10 lp3 ⊢
    have O3 : OddRL K H10 [.non, .str "write", .int 5, .ref p1, .ref p2, .ref p3] := OddRL.snoc (((O2).mono s9).mono s10) (odd_one lp3 hm3 (itF (.two (SqT.of (s10 _ _ lt3)) (.int _)) (by decide +kernel)) (.tup (SqT.of (s10 _ _ lt3)) (.cons (.str _) (.cons (.int _) .nil))) ok3)
    refine ⟨by show 2 ≤ sizeLine; decide, fun t4 ht4 => ?_⟩
    have s11 : Same H10 (upd H10 t4 (.tup [.str "read", .bl true])) := Same.upd ht4
    have lt4 : upd H10 t4 (HO.tup [.str "read", .bl true]) t4 = some (.tup [.str "read", .bl true]) := upd_same
    generalize upd H10 t4 (HO.tup [.str "read", .bl true]) = H11 at s11 lt4 ⊢
    refine ⟨by show 1 ≤ sizeLine; decide, fun p4 hp4 hm4 => ?_⟩
    have s12 : Same H11 (upd H11 p4 (.lst [.ref t4])) := Same.upd hp4
    have lp4 : upd H11 p4 (HO.lst [.ref t4]) p4 = some (.lst [.ref t4]) := upd_same
    generalize upd H11 p4 (HO.lst [.ref t4]) = H12 at s12 lp4 ⊢
    have O4 : OddRL K H12 [.non, .str "write", .int 5, .ref p1, .ref p2, .ref p3, .ref p4] := OddRL.snoc (((O3).mono s11).mono s12) (odd_one lp4 hm4 (itF (.two (SqT.of (s12 _ _ lt4)) (.bl _)) (by decide +kernel)) (.tup (SqT.of (s12 _ _ lt4)) (.cons (.str _) (.cons (.bl _) .nil))) ok4)
    refine ⟨by show 2 ≤ sizeLine; decide, fun t5 ht5 hm5 => ?_⟩
    have s13 : Same H12 (upd H12 t5 (.lst [.str "read", .int 1])) := Same.upd ht5
    have lt5 : upd H12 t5 (HO.lst [.str "read", .int 1]) t5 = some (.lst [.str "read", .int 1]) := upd_same
    generalize upd H12 t5 (HO.lst [.str "read", .int 1]) = H13 at s13 lt5 ⊢
    refine ⟨by show 1 ≤ sizeLine; decide, fun p5 hp5 hn5 => ?_⟩
    have s14 : Same H13 (upd H13 p5 (.lst [.ref t5])) := Same.upd hp5
    have lp5 : upd H13 p5 (HO.lst [.ref t5]) p5 = some (.lst [.ref t5]) := upd_same
    generalize upd H13 p5 (HO.lst [.ref t5]) = H14 at s14 lp5 ⊢
    have O5 : OddRL K H14 [.non, .str "write", .int 5, .ref p1, .ref p2, .ref p3, .ref p4, .ref p5] := OddRL.snoc (((O4).mono s13).mono s14) (odd_one lp5 hn5 (.lst (SqL.of (s14 _ _ lt5))) (.lst hm5 (SqL.of (s14 _ _ lt5)) (.cons (.str _) (.cons (.int _) .nil))) ok5)
    refine ⟨by show 1 ≤ sizeLine; decide, fun p6 hp6 hm6 => ?_⟩
    have s15 : Same H14 (upd H14 p6 (.lst [.non])) := Same.upd hp6
    have lp6 : upd H14 p6 (HO.lst [.non]) p6 = some (.lst [.non]) := upd_same
    generalize upd H14 p6 (HO.lst [.non]) = H15 at s15 lp6 ⊢
    have O6 : OddRL K H15 [.non, .str "write", .int 5, .ref p1, .ref p2, .ref p3, .ref p4, .ref p5, .ref p6] := OddRL.snoc ((O5).mono s15) (odd_one lp6 hm6 .non .non ok6)
    refine ⟨by show 9 ≤ sizeLine; decide, fun la hla => ?_⟩
    have sA : Same H5 H15 := Same.trans (Same.trans (Same.trans (Same.trans (Same.trans (Same.trans (Same.trans (Same.trans (Same.trans (s6) s7) s8) s9) s10) s11) s12) s13) s14) s15
    generalize hws : [V.non, V.str "write", V.int 5, V.ref p1, V.ref p2, V.ref p3, V.ref p4, V.ref p5, V.ref p6] = ws at O6 ⊢
    have s16 : Same H15 (upd H15 la (.lst ws)) := Same.upd hla
    have lla : upd H15 la (HO.lst ws) la = some (.lst ws) := upd_same
    generalize upd H15 la (HO.lst ws) = HL at s16 lla ⊢
    have sL := Same.trans sA s16
    have OL := O6.mono s16
    clear hws s6 s7 s8 s9 s10 s11 s12 s13 s14 s15 s16 sA hla hp1 lp1 hp2 lp2 hp3 lp3 hp4 lp4 hp5 lp5 hp6 lp6 ht2 lt2 ht3 lt3 ht4 lt4 ht5 lt5 O0 O1 O2 O3 O4 O5 O6
    have EL := ExtN.trans E5 (ExtN.of sL)
    have TL := T5.ext sL
    refine ⟨la, rfl, ⟨_, SqL.of lla⟩, ?_⟩
    refine for_list (K := K) (a := la) (xs := ws) (fun j σ H' => ∃ v8, σ = [some (V.ref a), some told, some (.int (0 + (i : Int))), some (.ref p), some (.ref q), some (.ref r), v6, v7, v8] ∧ Same HL H') ⟨_, rfl, fun _ _ e => e⟩ ?_ ?_ ?_
    · rintro j σ H' _ ⟨v8, rfl, S⟩
      exact SqL.of (S _ _ lla)
    · rintro j x σ H12 hx ⟨v8, rfl, S⟩
      obtain ⟨bd, dv, hd, ok⟩ := (OL x (List.mem_of_getElem? hx)).mono S
      exact ⟨_, rfl, x, dv, rfl, bd, hd, ok, fun H13 s13 => ⟨_, rfl, iteF ⟨_, rfl, Same.trans S s13⟩⟩⟩
    rintro σ H12 ⟨v8, rfl, S⟩
    exact ⟨_, _, _, _, _, _, _, rfl, ExtN.trans EL (ExtN.of S), TL.ext S⟩
  · rintro σ H21' ⟨v2, v3, v4, v5, v6, v7, v8, rfl, _⟩
    clear E21 TP
    generalize H21' = H1
    -- one write too many
    refine ⟨by show 1 ≤ sizeLine; decide, fun l hl => ?_⟩
    refine ⟨l, _, _, rfl, rfl, upd_same, by decide, by decide, by rw [sizeLine_eq]; decide, fun l1 hl1 hm1 => ?_⟩
    rw [show (List.replicate (1001 : Int).toNat [V.str "write"]).flatten = List.replicate 1001 (V.str "write") from flat_rep 1001 _]
    have ls1 : upd (upd H1 l (.lst [.str "write"])) l1 (HO.lst (List.replicate 1001 (.str "write"))) l1 = some (.lst (List.replicate 1001 (.str "write"))) := upd_same
    generalize upd (upd H1 l (.lst [.str "write"])) l1 (HO.lst (List.replicate 1001 (.str "write"))) = H2 at ls1 ⊢
    refine ⟨_, _, rfl, .long (SqL.of ls1) (by rw [List.length_replicate]; decide), .lst hm1 (SqL.of ls1) (dqs_w 1001), ref_w, fun H3 _ => ⟨_, rfl, iteT ?_⟩⟩
    clear ls1
    refine ⟨by show 3 ≤ sizeLine; decide, fun t2 ht2 => ?_⟩
    have lt2 : upd H3 t2 (HO.tup [.str "read", .int 1, .int 2]) t2 = some (.tup [.str "read", .int 1, .int 2]) := upd_same
    generalize upd H3 t2 (HO.tup [.str "read", .int 1, .int 2]) = H4 at lt2 ⊢
    refine ⟨by show 1 ≤ sizeLine; decide, fun p2 hp2 hm2 => ?_⟩
    have s5 : Same H4 (upd H4 p2 (.lst [.ref t2])) := Same.upd hp2
    have lp2 : upd H4 p2 (HO.lst [.ref t2]) p2 = some (.lst [.ref t2]) := upd_same
    generalize upd H4 p2 (HO.lst [.ref t2]) = H5 at s5 lp2 ⊢
    obtain ⟨b1, d1, q1, q2⟩ : OddR K H5 (.ref p2) := odd_one lp2 hm2 (.tup (SqT.of (s5 _ _ lt2)) (by show 3 ≠ 2; decide)) (.tup (SqT.of (s5 _ _ lt2)) (.cons (.str _) (.cons (.int _) (.cons (.int _) .nil)))) ok7
    refine ⟨_, _, rfl, b1, q1, q2, fun H6 _ => ⟨_, rfl, iteT ?_⟩⟩
    clear b1 q1 q2 lp2 lt2 s5 hp2 ht2
    refine ⟨by show 2 ≤ sizeLine; decide, fun t3 ht3 => ?_⟩
    have lt3 : upd H6 t3 (HO.tup [.str "write", .int 1]) t3 = some (.tup [.str "write", .int 1]) := upd_same
    generalize upd H6 t3 (HO.tup [.str "write", .int 1]) = H7 at lt3 ⊢
    refine ⟨by show 1 ≤ sizeLine; decide, fun p3 hp3 hm3 => ?_⟩
    have s8 : Same H7 (upd H7 p3 (.lst [.ref t3])) := Same.upd hp3
    have lp3 : upd H7 p3 (HO.lst [.ref t3]) p3 = some (.lst [.ref t3]) := upd_same
    generalize upd H7 p3 (HO.lst [.ref t3]) = H8 at s8 lp3 ⊢
    obtain ⟨b1, d1, q1, q2⟩ : OddR K H8 (.ref p3) := odd_one lp3 hm3 (itF (.two (SqT.of (s8 _ _ lt3)) (.int _)) (by decide +kernel)) (.tup (SqT.of (s8 _ _ lt3)) (.cons (.str _) (.cons (.int _) .nil))) ok8
    exact ⟨_, _, rfl, b1, q1, q2, fun H9 _ => k H9⟩

end
end K73
set_option Elab.async false
set_option linter.all false
set_option maxRecDepth 100000
set_option maxHeartbeats 4000000
/-! the law's end with tables of code objects, the law's own call met at callerA -/
namespace EX
open PySem L2 PySem.Spec PyProof.Rows LamX
/-- the tables as they stand at the head: empty, no part of what is written, each with its code object -/
structure TabsAt (K : PySem.W.Frag) (h : Heap) (cs : List (Addr × Addr)) : Prop where
  emp : ∀ p ∈ cs, h.get? p.2 = some { cls := .none, data := .fields #[] }
  out : ∀ p ∈ cs, K.lookup p.2 = none
  cod : ∀ p ∈ cs, PySem.W.CodeHd h p.1 p.2
/-- a table told by its def's name -/
structure TabOf (q : Program) (K : PySem.W.Frag) (x : Str) (c P : Addr) : Prop where
  has : ∃ d, (recsOf q).find? (fun e => e.name == x) = some d
  tab : PySem.W.tabIn K x = some (c, P)
  out : K.lookup P = none
theorem tab_by {K : PySem.W.Frag} {x : Str} {f c P : Addr} {oc oc2 : Value} {od od2 : Option Addr} {fd : FuncData} {vs : Array Value} {os1 os2 : Array (Option Value)} (h1 : PySem.W.nsIn K mainGlobals x = some (some (.ref f))) (h2 : K.lookup f = some ⟨oc, od, .func fd, os1⟩) (h3 : fd.code = .ref c)
    (h4 : K.lookup c = some ⟨oc2, od2, .fields vs, os2⟩) (h5 : (vs[11]? : Option Value) = some (.ref P)) : PySem.W.tabIn K x = some (c, P) := by
  unfold PySem.W.tabIn
  rw [h1]
  show (match K.lookup f with | some ⟨_, _, .func fd, _⟩ => _ | _ => _) = _
  rw [h2]
  show (match fd.code with | .ref c => _ | _ => _) = _
  rw [h3]
  show (match K.lookup c with | some ⟨_, _, .fields vs, _⟩ => _ | _ => _) = _
  rw [h4]
  show (match (vs[11]? : Option Value) with | some (.ref P) => some (c, P) | _ => none) = _
  rw [h5]
theorem walkT {l : PySem.W.OpenLaw} {n : Nat} {q : Program} {loose : List Str} {XP : (Str → Option Value) → Heap → Prop} {YP : World → Heap → Prop} {d : DefRec} {K : Params → PySem.W.Frag}
    (hn : l.most = some n) (hn2 : n ≤ sizeLine) (hdf : d.params.defaults = []) (hY : ∀ (w : World) (h : Heap), YP w h → (K w.params).In h)
    (F : ∀ (w : World) (mg : Str → Option Value) (fa : Addr) (h : Heap), YP w h → (K w.params).In h → h.Ns mainGlobals mg → mg d.name = some (.ref fa) → ∃ cs : List (Addr × Addr), (∀ p ∈ cs, ∃ x, TabOf q (K w.params) x p.1 p.2) ∧
      ∀ base : Heap, (K w.params).In base → base.Ns mainGlobals mg → (∀ p ∈ cs, TabB base mg p.1 p.2) → ∀ (s : Shared) (H : Hp) (a : Addr) (ns : List Int), ns.length ≤ n → (∀ p ∈ cs, H p.2 = some (.tbl #[])) → SqL (K w.params) H a (ns.map V.int) →
        Env0 l.prog w (K w.params) mg base callerA [] s H → codeAny (model l.prog w) callerA (.call (.ref fa) ⟨[.ref a], []⟩) (CR CX0 [] l.prog w H s (fun v _ => v = .bl true) E0) s) :
    PySem.W.WalkO q loose XP YP l.row.toRowW d [] (fun f vs => PySem.call f vs) := by
  refine Att.attach_callB hn hdf ?_
  intro w s₀ s₁ mg mb fa o pm cd doc a vs ns G Y ho hd hcd hmg hobj hints hlen hbits hg
  have kin := hY w _ Y
  obtain ⟨cs, TO, run⟩ := F w mg fa _ Y kin G.T.g hmg
  have TA : TabsAt (K w.params) s₁.heap cs := by
    refine ⟨fun p hp => ?_, fun p hp => ?_, fun p hp => ?_⟩ <;> obtain ⟨x, ⟨d2, hd2⟩, ht, ho2⟩ := TO p hp
    · exact (PySem.W.tab_of G.T kin hd2 ht).2
    · exact ho2
    · exact (PySem.W.tab_of G.T kin hd2 ht).1
  have rv := vals_ints hints
  have lv := hints.length
  have tabOf : ∀ b, b ∈ cs.map (·.2) → ∃ p ∈ cs, p.2 = b := fun b hb => List.mem_map.mp hb
  have emp : ∀ b, b ∈ cs.map (·.2) → s₁.heap.get? b = some { cls := .none, data := .fields #[] } := fun b hb => by
    obtain ⟨p, hp, rfl⟩ := tabOf b hb
    exact TA.emp p hp
  have aOut : a ∉ cs.map (·.2) := fun z => by
    have e := emp a z
    rw [hobj] at e
    have d2 := congrArg Obj.data (Option.some.inj e)
    cases d2
  have key : ∀ H : Hp, (∀ b, b ∈ cs.map (·.2) → H b = some (.tbl #[])) → (∀ b, b ∈ cs.map (·.2) ∨ H b = none ∨ ∃ ob xs, H b = some (.frz ob (.lst xs))) → SqL (K w.params) H a (ns.map V.int) → HOk l.prog w H s₁.heap → (∀ b, H b ≠ none → b = a ∨ b ∈ cs.map (·.2)) → (H a ≠ none → (K w.params).lookup a = none) →
      codeAny (model l.prog w) callerA (.call (.ref fa) ⟨[.ref a], []⟩) (fun r s' => r = .ok (.ret (.bool true)) ∧ OldK s₁.heap s'.heap ∧ s'.os = s₁.os ∧ AllBare s'.gens) s₁ := by
    intro H tab only sq hok who notK
    -- what is no list and no table is not tracked
    have plain : ∀ {b : Addr} {o : Obj}, s₁.heap.get? b = some o → (∀ xs m, o.data ≠ .seq xs m) → o.data ≠ .fields #[] → H b = none := by
      intro b o e1 e2 e3
      cases h : H b with
      | none => rfl
      | some u =>
        rcases who b (by rw [h]; exact fun z => nomatch z) with e4 | e4
        · rw [e4, hobj] at e1
          cases e1
          exact absurd rfl (e2 _ _)
        · rw [emp b e4] at e1
          cases e1
          exact absurd rfl e3
    have dicts : ∀ {b : Addr} {o : Obj} {es : Array DictEntry} {ep : Nat}, s₁.heap.get? b = some o → o.data = .dict es ep → H b = none := by
      intro b o es ep e1 e2
      refine plain e1 (fun xs m z => ?_) fun z => ?_ <;> rw [e2] at z <;> cases z
    have nsB : ∀ {b : Addr} {m : Str → Option Value}, s₁.heap.Ns b m → (hidT s₁.heap H).Ns b m := by
      rintro b m ⟨o, es, ep, e1, e2, r⟩
      exact ⟨o, es, ep, hidT_get e1 (dicts e1 e2), e2, r⟩
    have kinB : (K w.params).In (hidT s₁.heap H) := by
      intro b o e
      refine hidT_get (kin b o e) ?_
      cases h : H b with
      | none => rfl
      | some u =>
        rcases who b (by rw [h]; exact fun z => nomatch z) with e3 | e3
        · rw [e3, notK (by rw [← e3, h]; exact fun z => nomatch z)] at e
          cases e
        · obtain ⟨p, hp, rfl⟩ := tabOf b e3
          rw [TA.out p hp] at e
          cases e
    have TB : ∀ p ∈ cs, TabB (hidT s₁.heap H) mg p.1 p.2 := by
      intro p hp
      have ep := TA.emp p hp
      obtain ⟨o, us, file, tf, flags, tg, inF, text, tt, e1, r1, r2, r3, r4, r5, r6, r7, r8, hne⟩ := TA.cod p hp
      obtain ⟨bm, ob, b1, b2, b3, b4, b5, b6⟩ := G.T.bmain
      have bmG : bm ≠ mainGlobals := by
        intro z
        obtain ⟨o2, es, ep2, e2, hd2, _⟩ := G.T.g
        rw [z, e2] at b3
        cases b3
        rw [hd2] at b6
        cases b6
      have bmP : bm ≠ p.2 := by
        intro z
        rw [z, ep] at b3
        cases b3
        cases b6
      refine ⟨⟨o, us, file, tf, flags, tg, inF, text, tt, hidT_get e1 (plain e1 (fun xs m z => ?_) fun z => ?_), r1, r2, r3, r4, r5, r6, r7, r8, hne⟩, ⟨bm, ob, b1, b2, bmG, bmP, hidT_get b3 (plain b3 (fun xs m z => ?_) fun z => ?_), b4, b5, b6⟩, fun z => ?_⟩
      · rw [r2] at z
        cases z
      · rw [r2] at z
        cases z
        simp at r3
      · rw [b6] at z
        cases z
      · rw [b6] at z
        cases z
      · obtain ⟨o2, es, ep2, e2, hd2, _⟩ := G.T.g
        rw [z, ep] at e2
        cases e2
        cases hd2
    have e0 : Env0 l.prog w (K w.params) mg (hidT s₁.heap H) callerA [] s₁ H := by
      refine ⟨rfl, ⟨kinB, nsB G.T.g, ⟨mb, nsB G.T.b, G.T.builtins⟩, ?_⟩, fun b o e => of_hidT e, Nat.le_of_eq (hidT_size _ _), trivial, (fun b hb => absurd hb (List.not_mem_nil)), hok, .of_eq hg⟩
      obtain ⟨mc, h1, h2⟩ := G.T.nolimit
      exact ⟨mc, nsB h1, h2⟩
    refine codeAny_mono (run _ kinB (nsB G.T.g) TB s₁ H a ns hlen (fun p hp => tab p.2 (List.mem_map.mpr ⟨p, hp, rfl⟩)) sq e0) ?_
    intro r s' z
    cases r with
    | error e => exact z.elim
    | ok fl =>
      cases fl with
      | next => exact z.elim
      | brk => exact z.elim
      | cont => exact z.elim
      | ret u =>
        obtain ⟨v, H', os, bare, un, hok', rr, qq⟩ := z
        subst qq
        obtain rfl : u = Value.bool true := rr
        have kept : ∀ b o, b ∉ cs.map (·.2) → s₁.heap.get? b = some o → s'.heap.get? b = some o := by
          intro b o out e
          rcases only b with h | h | ⟨ob, xs, h⟩
          · exact absurd h out
          · exact un.keep b o e h (fun z => nomatch z) (fun z => nomatch z)
          · have h1 := (hok b _ h).1
            have h2 := (hok' b _ (un.frzs b ob _ h)).1
            rw [e] at h1
            cases h1
            exact h2
        have more : ∀ p ∈ cs, ∃ xs : Array Value, s'.heap.get? p.2 = some { cls := .none, data := .fields xs } := by
          intro p hp
          obtain ⟨xs, z⟩ := un.tbls p.2 #[] (tab p.2 (List.mem_map.mpr ⟨p, hp, rfl⟩))
          exact ⟨_, hok' p.2 _ z⟩
        refine ⟨rfl, ⟨fun b o e => ?_, fun b o e => ?_⟩, os, bare⟩
        · by_cases hb : b ∈ cs.map (·.2)
          · obtain ⟨p, hp, rfl⟩ := tabOf b hb
            obtain ⟨xs, hx⟩ := more p hp
            rw [TA.emp p hp] at e
            cases e
            exact .inr (.inl ⟨((TA.cod p hp).tab (TA.emp p hp)).isCodeTable, rfl, #[], xs, rfl, by rw [Array.empty_append]; exact hx⟩)
          · exact .inl (kept b o hb e)
        · by_cases hb : b ∈ cs.map (·.2)
          · obtain ⟨p, hp, rfl⟩ := tabOf b hb
            obtain ⟨xs, hx⟩ := more p hp
            exact ⟨_, hx⟩
          · exact ⟨o, kept b o hb e⟩
  have hz : ns.length ≤ sizeLine := Nat.le_trans hlen hn2
  -- the heap that tracks the tables, and the script where it is not written
  have start : ∀ (H : Hp) (keepA : Bool), (∀ b, H b = if b ∈ cs.map (·.2) then some (.tbl #[]) else if keepA = true ∧ b = a then some (HO.frz { cls := .type "list", data := .seq vs.toArray } (.lst (ns.map V.int))) else none) →
      (keepA = true → (K w.params).lookup a = none) → SqL (K w.params) H a (ns.map V.int) → codeAny (model l.prog w) callerA (.call (.ref fa) ⟨[.ref a], []⟩) (fun r s' => r = .ok (.ret (.bool true)) ∧ OldK s₁.heap s'.heap ∧ s'.os = s₁.os ∧ AllBare s'.gens) s₁ := by
    intro H keepA eH ok sq
    have inT : ∀ b, b ∈ cs.map (·.2) → H b = some (.tbl #[]) := fun b hb => by rw [eH, if_pos hb]
    have offT : ∀ b, b ∉ cs.map (·.2) → H b = if keepA = true ∧ b = a then some (HO.frz { cls := .type "list", data := .seq vs.toArray } (.lst (ns.map V.int))) else none := fun b hb => by rw [eH, if_neg hb]
    refine key H inT (fun b => ?_) sq (fun b u e => ?_) (fun b e => ?_) fun e => ?_
    · by_cases hb : b ∈ cs.map (·.2)
      · exact .inl hb
      · have q1 := offT b hb
        by_cases h2 : keepA = true ∧ b = a
        · rw [if_pos h2] at q1
          exact .inr (.inr ⟨_, _, q1⟩)
        · rw [if_neg h2] at q1
          exact .inr (.inl q1)
    · by_cases hb : b ∈ cs.map (·.2)
      · rw [inT b hb] at e
        cases e
        exact emp b hb
      · rw [offT b hb] at e
        by_cases h2 : keepA = true ∧ b = a
        · rw [if_pos h2] at e
          obtain ⟨_, rfl⟩ := h2
          cases e
          exact ⟨hobj, by rw [List.length_map]; exact hz, vs, _, rv, hobj⟩
        · rw [if_neg h2] at e
          cases e
    · by_cases hb : b ∈ cs.map (·.2)
      · exact .inr hb
      · rw [offT b hb] at e
        by_cases h2 : keepA = true ∧ b = a
        · exact .inl h2.2
        · exact absurd (if_neg h2) e
    · rw [offT a aOut] at e
      by_cases h2 : keepA = true ∧ a = a
      · exact ok h2.1
      · exact absurd (if_neg h2) e
  cases hk : (K w.params).lookup a with
  | some o =>
    have e := kin a o hk
    rw [hobj] at e
    cases e
    refine start (fun b => if b ∈ cs.map (·.2) then some (.tbl #[]) else none) false (fun b => by simp) (fun z => nomatch z) (.inr ⟨_, vs.toArray, _, hk, rfl, rfl, rfl, ?_, ?_⟩)
    · rw [List.size_toArray, lv]
      exact hz
    · simpa using rv
  | none =>
    refine start (fun b => if b ∈ cs.map (·.2) then some (.tbl #[]) else if b = a then some (.frz { cls := .type "list", data := .seq vs.toArray } (.lst (ns.map V.int))) else none) true (fun b => by simp) (fun _ => hk) (.inl (.inr ⟨{ cls := .type "list", data := .seq vs.toArray }, ?_⟩))
    show (if a ∈ cs.map (·.2) then _ else _) = _
    rw [if_neg aOut, if_pos rfl]
end EX

set_option Elab.async false
set_option linter.all false
set_option maxRecDepth 100000
set_option maxHeartbeats 4000000
namespace K73
open PySem L2 EX PyProof.Rows M72 LamX
/-- a def that stands in the written part -/
structure FnAt (K : PySem.W.Frag) (x qual : Str) (st : Stmt) (f : Addr) : Prop where
  ex : ∃ fd, Fun K x qual st f fd
theorem fnAt {K : PySem.W.Frag} {x qual : Str} {st : Stmt} {f : Addr} {oc : Value} {od an : Option Addr} {osl : Array (Option Value)} {kV doc pm cdv ct : Value} (l : K.lookup f = some ⟨oc, od, .func (PySem.W.fnOf x qual (defArgs st) (defBody st) (defScope st) .none kV doc pm an cdv ct), osl⟩)
    (c : PySem.W.codeIn K cdv qual = true) (k : PySem.W.keepIn K (.ref f) = true) : FnAt K x qual st f := ⟨_, fun_mk (st := st) l c k⟩
/-- a def with its code object and the table of what it makes -/
structure FnC (K : PySem.W.Frag) (x qual : Str) (st : Stmt) (f c T : Addr) : Prop where
  ex : ∃ fd, Fun K x qual st f fd ∧ fd.code = .ref c
  tab : PySem.W.tabIn K x = some (c, T)
  out : K.lookup T = none
theorem fnC {K : PySem.W.Frag} {x qual : Str} {st : Stmt} {f c T : Addr} {oc oc2 : Value} {od od2 an : Option Addr} {osl os2 : Array (Option Value)} {kV doc pm ct : Value} {vs : Array Value} (l : K.lookup f = some ⟨oc, od, .func (PySem.W.fnOf x qual (defArgs st) (defBody st) (defScope st) .none kV doc pm an (.ref c) ct), osl⟩)
    (cc : PySem.W.codeIn K (.ref c) qual = true) (k : PySem.W.keepIn K (.ref f) = true) (a : PySem.W.nsIn K mainGlobals x = some (some (.ref f))) (h4 : K.lookup c = some ⟨oc2, od2, .fields vs, os2⟩) (h5 : (vs[11]? : Option Value) = some (.ref T)) (out : K.lookup T = none) : FnC K x qual st f c T :=
  ⟨⟨_, fun_mk (st := st) l cc k, rfl⟩, tab_by a l rfl h4 h5, out⟩
/-- the facts of a class, reckoned over the written part -/
def ecB (K : PySem.W.Frag) (C : Addr) : Bool :=
  PySem.W.excInitIn K C exT "Exception.__new__" && (PySem.W.excOver K C exT && (decide (PySem.W.findIn K (.ref C) "__setattr__" = some (some (.builtin "object.__setattr__"))) &&
  (decide (PySem.W.findIn K (.ref C) "__getattribute__" = some (some (.builtin "BaseException.__getattribute__"))) && (decide (PySem.W.findIn K (.ref C) "__getattr__" = some none) && (decide (PySem.W.subIn K (.ref C) (.type "BaseException") = some true) &&
  (PySem.W.hasDictIn K C && (PySem.W.keepIn K (.ref C) && ((PySem.W.clsIn K C).isSome && (decide (PySem.W.findIn K (.ref C) "__class__" = some (some (.builtin "object.__class__"))) && (decide (PySem.W.mroIn K C (.type "object") = some true) &&
  (decide (PySem.W.specialIn K (.builtin "object.__class__") "__get__" = some (some (.builtin "getset_descriptor.__get__"))) && decide (PySem.W.takesIn K (.builtin "object.__class__") = some true))))))))))))
theorem ecB_ok {K : PySem.W.Frag} {C : Addr} (h : ecB K C = true) : EcC K C := by
  simp only [ecB, Bool.and_eq_true, decide_eq_true_eq] at h
  obtain ⟨h1, h2, h3, h4, h5, h6, h7, h8, h9, h10, h11, h12, h13⟩ := h
  exact ⟨h1, h2, h3, h4, h5, h6, h7, h8, h9, h10, h11, h12, h13⟩

def xcB (K : PySem.W.Frag) (cb C : Addr) : Bool :=
  ecB K C && (decide (PySem.W.findIn K (.ref C) "given" = some none) && (decide (PySem.W.takerIn K C "given" = some none) && (decide (PySem.W.typeIn K (.ref C) = some (.type "type")) && (decide (PySem.W.kitOne K (.ref C) (.ref cb) = some true) &&
  decide (PySem.W.exmOne K (.ref C) (.ref C) = some true)))))
theorem xcB_ok {K : PySem.W.Frag} {cb C : Addr} (h : xcB K cb C = true) : EcC K C ∧ PySem.W.findIn K (.ref C) "given" = some none ∧ PySem.W.takerIn K C "given" = some none ∧ PySem.W.typeIn K (.ref C) = some (.type "type") ∧ PySem.W.kitOne K (.ref C) (.ref cb) = some true ∧ PySem.W.exmOne K (.ref C) (.ref C) = some true := by
  simp only [xcB, Bool.and_eq_true, decide_eq_true_eq] at h
  exact ⟨ecB_ok h.1, h.2⟩
section
variable {P : Program} {w : World} {K : PySem.W.Frag} {mg : Str → Option Value} {base : Heap}
abbrev sI0 : Stmt := inClass (top 2) 0
theorem scI0 : FnScope ["self", "given"] ["self", "given"] (defScope sI0) := ⟨rfl, rfl, rfl, by decide +kernel, rfl, by decide +kernel, by decide +kernel⟩
theorem okI0 {C f : Addr} {fd : FuncData} (F : Fun K "__init__" "InvalidSequence.__init__" sI0 f fd) (T : EcC K C) (tk : PySem.W.takerIn K C "given" = some none) : FnOk P w K mg base CX0 1 f fd ["self", "given"] (spI1 K C "given") := by
  refine F.ok scI0 (fun vs H Q E h => ?_) (fun cdv A outer s H vs Q E hr h => ?_)
  · obtain ⟨a, v, rfl, _⟩ := h
    rfl
  · obtain ⟨a, v, rfl, e, q⟩ := h
    exact ⟨_, pss_one (ps_est (pv 0) (pv 1)), _, rfl, _, rfl, a, C, rfl, T, tk, .inl ⟨e, q⟩⟩
end
theorem all_mk {l : PySem.W.OpenLaw} {w : World} {K : PySem.W.Frag} {h : Heap} {mg : Str → Option Value} {q : Program} {fa : Addr} {fL cL PtL fPo c Pt CS cb i0 fInt fItm fChk fSpn fFP fIx fSvd fCP fRP fSource fDraw fSeq fServed fFirst fRows fAcc fBent fRun fRef : Addr} (KX : K.In h) (G : h.Ns mainGlobals mg) (hfa : mg "law" = some (.ref fa))
    (aL : PySem.W.nsIn K mainGlobals "law" = some (some (.ref fL)))
    (C_L : FnC K "law" "law" sLaw fL cL PtL)
    (aInt : PySem.W.nsIn K mainGlobals "is_integer" = some (some (.ref fInt)))
    (FInt : FnAt K "is_integer" "is_integer" sInt fInt)
    (aItm : PySem.W.nsIn K mainGlobals "is_item" = some (some (.ref fItm)))
    (FItm : FnAt K "is_item" "is_item" sItm fItm)
    (aChk : PySem.W.nsIn K mainGlobals "check_sequence" = some (some (.ref fChk)))
    (FChk : FnAt K "check_sequence" "check_sequence" sChk fChk)
    (aSpn : PySem.W.nsIn K mainGlobals "spans" = some (some (.ref fSpn)))
    (FSpn : FnAt K "spans" "spans" sSpn fSpn)
    (aFP : PySem.W.nsIn K mainGlobals "fewest_pushes" = some (some (.ref fFP)))
    (FFP : FnAt K "fewest_pushes" "fewest_pushes" sFw fFP)
    (aIx : PySem.W.nsIn K mainGlobals "are_indexes" = some (some (.ref fIx)))
    (FIx : FnAt K "are_indexes" "are_indexes" sIx fIx)
    (aSvd : PySem.W.nsIn K mainGlobals "are_served" = some (some (.ref fSvd)))
    (FSvd : FnAt K "are_served" "are_served" sSv fSvd)
    (aCP : PySem.W.nsIn K mainGlobals "check_pushes" = some (some (.ref fCP)))
    (FCP : FnAt K "check_pushes" "check_pushes" sCp fCP)
    (aRP : PySem.W.nsIn K mainGlobals "run_policy" = some (some (.ref fRP)))
    (FRP : FnAt K "run_policy" "run_policy" sRp fRP)
    (aSource : PySem.W.nsIn K mainGlobals "_law_source" = some (some (.ref fSource)))
    (FSource : FnAt K "_law_source" "_law_source" sSource fSource)
    (aDraw : PySem.W.nsIn K mainGlobals "_law_draw" = some (some (.ref fDraw)))
    (FDraw : FnAt K "_law_draw" "_law_draw" sDraw fDraw)
    (aSeq : PySem.W.nsIn K mainGlobals "_law_sequence" = some (some (.ref fSeq)))
    (FSeq : FnAt K "_law_sequence" "_law_sequence" sSeq fSeq)
    (aServed : PySem.W.nsIn K mainGlobals "_law_served" = some (some (.ref fServed)))
    (FServed : FnAt K "_law_served" "_law_served" sSrv fServed)
    (aFirst : PySem.W.nsIn K mainGlobals "_law_first_push" = some (some (.ref fFirst)))
    (FFirst : FnAt K "_law_first_push" "_law_first_push" sFst fFirst)
    (aRows : PySem.W.nsIn K mainGlobals "_law_is_rows" = some (some (.ref fRows)))
    (FRows : FnAt K "_law_is_rows" "_law_is_rows" sRw fRows)
    (aAcc : PySem.W.nsIn K mainGlobals "_law_accepts" = some (some (.ref fAcc)))
    (FAcc : FnAt K "_law_accepts" "_law_accepts" sAc fAcc)
    (aBent : PySem.W.nsIn K mainGlobals "_law_bent" = some (some (.ref fBent)))
    (FBent : FnAt K "_law_bent" "_law_bent" sBt fBent)
    (aRun : PySem.W.nsIn K mainGlobals "_law_run" = some (some (.ref fRun)))
    (FRun : FnAt K "_law_run" "_law_run" sRn fRun)
    (aRef : PySem.W.nsIn K mainGlobals "_law_refused" = some (some (.ref fRef)))
    (FRef : FnAt K "_law_refused" "_law_refused" sRf fRef)
    (aPo : PySem.W.nsIn K mainGlobals "_law_policies_right" = some (some (.ref fPo)))
    (C_P : FnC K "_law_policies_right" "_law_policies_right" sPo fPo c Pt)
    (aCS : PySem.W.nsIn K mainGlobals "InvalidSequence" = some (some (.ref CS)))
    (aCB : PySem.W.nsIn K mainGlobals "CacheError" = some (some (.ref cb)))
    (i0_ : PySem.W.findIn K (.ref CS) "__init__" = some (some (.ref i0)))
    (t0_ : PySem.W.typeIn K (.ref i0) = some (.type "function"))
    (FI0 : FnAt K "__init__" "InvalidSequence.__init__" sI0 i0)
    (tbS : xcB K cb CS = true)
    (has1 : ∃ d, (recsOf q).find? (fun e => e.name == ("law" : Str)) = some d)
    (has2 : ∃ d, (recsOf q).find? (fun e => e.name == ("_law_policies_right" : Str)) = some d)
    (nPt : Pt ≠ PtL)
    (z_str : PySem.W.nsIn K mainGlobals "str" = some none)
    (z_int : PySem.W.nsIn K mainGlobals "int" = some none)
    (z_bool : PySem.W.nsIn K mainGlobals "bool" = some none)
    (z_all : PySem.W.nsIn K mainGlobals "all" = some none)
    (z_enumerate : PySem.W.nsIn K mainGlobals "enumerate" = some none)
    (z_zip : PySem.W.nsIn K mainGlobals "zip" = some none)
    (c_ls : ∃ t, PySem.W.nsIn K mainGlobals "LONGEST_SEQUENCE" = some (some (.int 1000 t)))
    (z_range : PySem.W.nsIn K mainGlobals "range" = some none)
    (z_max : PySem.W.nsIn K mainGlobals "max" = some none)
    (z_min : PySem.W.nsIn K mainGlobals "min" = some none)
    (z_len : PySem.W.nsIn K mainGlobals "len" = some none)
    (z_repr : PySem.W.nsIn K mainGlobals "repr" = some none)
    (z_isinstance : PySem.W.nsIn K mainGlobals "isinstance" = some none)
    (z_tuple : PySem.W.nsIn K mainGlobals "tuple" = some none)
    (z_list : PySem.W.nsIn K mainGlobals "list" = some none)
    (z_sorted : PySem.W.nsIn K mainGlobals "sorted" = some none)
    (z_set : PySem.W.nsIn K mainGlobals "set" = some none)
    : ∃ cs : List (Addr × Addr), (∀ p ∈ cs, ∃ x, TabOf q K x p.1 p.2) ∧
      ∀ base : Heap, K.In base → base.Ns mainGlobals mg → (∀ p ∈ cs, TabB base mg p.1 p.2) → ∀ (s : Shared) (H : Hp) (a : Addr) (ns : List Int), ns.length ≤ 63 → (∀ p ∈ cs, H p.2 = some (.tbl #[])) → SqL K H a (ns.map V.int) → Env0 l.prog w K mg base callerA [] s H →
        codeAny (model l.prog w) callerA (.call (.ref fa) ⟨[.ref a], []⟩) (CR CX0 [] l.prog w H s (fun v _ => v = .bl true) E0) s := by
  refine ⟨[(cL, PtL), (c, Pt)], fun p hp => ?_, ?_⟩
  · rcases List.mem_cons.mp hp with rfl | hp
    · exact ⟨"law", has1, C_L.tab, C_L.out⟩
    · rw [List.mem_singleton.mp hp]
      exact ⟨"_law_policies_right", has2, C_P.tab, C_P.out⟩
  intro base KB GB TBs s H a ns hns hTb hS e0
  have TBL := TBs (cL, PtL) (List.mem_cons_self ..)
  have TB := TBs (c, Pt) (List.mem_cons_of_mem _ (List.mem_singleton.mpr rfl))
  have hTL : H PtL = some (.tbl #[]) := hTb (cL, PtL) (List.mem_cons_self ..)
  have hT0 : H Pt = some (.tbl #[]) := hTb (c, Pt) (List.mem_cons_of_mem _ (List.mem_singleton.mpr rfl))
  have e := hfa.symm.trans (PySem.W.mg_of KX G aL)
  cases e
  have B : Bn mg := ⟨PySem.W.mg_none_of KX G z_range, PySem.W.mg_none_of KX G z_max, PySem.W.mg_none_of KX G z_min, PySem.W.mg_none_of KX G z_len, PySem.W.mg_none_of KX G z_repr, PySem.W.mg_none_of KX G z_isinstance, PySem.W.mg_none_of KX G z_tuple, PySem.W.mg_none_of KX G z_list, PySem.W.mg_none_of KX G z_sorted, PySem.W.mg_none_of KX G z_set⟩
  have C : Bq mg := ⟨PySem.W.mg_none_of KX G z_str, PySem.W.mg_none_of KX G z_int, PySem.W.mg_none_of KX G z_bool, PySem.W.mg_none_of KX G z_all, PySem.W.mg_none_of KX G z_enumerate, PySem.W.mg_none_of KX G z_zip, ⟨_, PySem.W.mg_of KX G c_ls.choose_spec⟩⟩
  obtain ⟨dL, GL, cLe⟩ := C_L.ex
  obtain ⟨dInt, GInt⟩ := FInt.ex
  obtain ⟨dItm, GItm⟩ := FItm.ex
  obtain ⟨dChk, GChk⟩ := FChk.ex
  obtain ⟨dSpn, GSpn⟩ := FSpn.ex
  obtain ⟨dFP, GFP⟩ := FFP.ex
  obtain ⟨dIx, GIx⟩ := FIx.ex
  obtain ⟨dSvd, GSvd⟩ := FSvd.ex
  obtain ⟨dCP, GCP⟩ := FCP.ex
  obtain ⟨dRP, GRP⟩ := FRP.ex
  obtain ⟨dSource, GSource⟩ := FSource.ex
  obtain ⟨dDraw, GDraw⟩ := FDraw.ex
  obtain ⟨dSeq, GSeq⟩ := FSeq.ex
  obtain ⟨dServed, GServed⟩ := FServed.ex
  obtain ⟨dFirst, GFirst⟩ := FFirst.ex
  obtain ⟨dRows, GRows⟩ := FRows.ex
  obtain ⟨dAcc, GAcc⟩ := FAcc.ex
  obtain ⟨dBent, GBent⟩ := FBent.ex
  obtain ⟨dRun, GRun⟩ := FRun.ex
  obtain ⟨dRef, GRef⟩ := FRef.ex
  have bInt := GInt.binds (ps := ["obj"]) fun _ _ _ _ _ _ us hl => match us, hl with | [_], _ => rfl
  have bItm := GItm.binds (ps := ["obj"]) fun _ _ _ _ _ _ us hl => match us, hl with | [_], _ => rfl
  have bChk := GChk.binds (ps := ["obj"]) fun _ _ _ _ _ _ us hl => match us, hl with | [_], _ => rfl
  have bSpn := GSpn.binds (ps := ["sequence"]) fun _ _ _ _ _ _ us hl => match us, hl with | [_], _ => rfl
  have bFP := GFP.binds (ps := ["sequence"]) fun _ _ _ _ _ _ us hl => match us, hl with | [_], _ => rfl
  have bIx := GIx.binds (ps := ["obj", "sequence"]) fun _ _ _ _ _ _ us hl => match us, hl with | [_, _], _ => rfl
  have bSvd := GSvd.binds (ps := ["sequence", "pushes"]) fun _ _ _ _ _ _ us hl => match us, hl with | [_, _], _ => rfl
  have bCP := GCP.binds (ps := ["sequence", "obj"]) fun _ _ _ _ _ _ us hl => match us, hl with | [_, _], _ => rfl
  have bRP := GRP.binds (ps := ["sequence", "policy"]) fun _ _ _ _ _ _ us hl => match us, hl with | [_, _], _ => rfl
  have bSource := GSource.binds (ps := ["_law_script", "_law_turn"]) fun _ _ _ _ _ _ us hl => match us, hl with | [_, _], _ => rfl
  have bDraw := GDraw.binds (ps := ["_law_source_here", "_law_amount"]) fun _ _ _ _ _ _ us hl => match us, hl with | [_, _], _ => rfl
  have bSeq := GSeq.binds (ps := ["_law_source_here", "_law_most"]) fun _ _ _ _ _ _ us hl => match us, hl with | [_, _], _ => rfl
  have bServed := GServed.binds (ps := ["_law_sequence_here", "_law_pushes"]) fun _ _ _ _ _ _ us hl => match us, hl with | [_, _], _ => rfl
  have bFirst := GFirst.binds (ps := ["_law_sequence_here", "_law_at"]) fun _ _ _ _ _ _ us hl => match us, hl with | [_, _], _ => rfl
  have bRows := GRows.binds (ps := ["_law_thing", "_law_size"]) fun _ _ _ _ _ _ us hl => match us, hl with | [_, _], _ => rfl
  have bAcc := GAcc.binds (ps := ["_law_sequence_here", "_law_thing"]) fun _ _ _ _ _ _ us hl => match us, hl with | [_, _], _ => rfl
  have bBent := GBent.binds (ps := ["_law_source_here", "_law_sequence_here", "_law_found"]) fun _ _ _ _ _ _ us hl => match us, hl with | [_, _, _], _ => rfl
  have bRun := GRun.binds (ps := ["_law_sequence_here", "_law_choice"]) fun _ _ _ _ _ _ us hl => match us, hl with | [_, _], _ => rfl
  have bRef := GRef.binds (ps := ["_law_thing"]) fun _ _ _ _ _ _ us hl => match us, hl with | [_], _ => rfl
  obtain ⟨dPo, GPo, cPo⟩ := C_P.ex
  have bPo := GPo.binds (ps := ["_law_source_here", "_law_sequence_here"]) fun _ _ _ _ _ _ us hl => match us, hl with | [_, _], _ => rfl
  obtain ⟨e0S, e1S, e2S, e3S, e4S, e5S⟩ := xcB_ok tbS
  obtain ⟨dI0, GI0⟩ := FI0.ex
  have XS : XrAt l.prog w K mg base "InvalidSequence" "given" CS := ⟨e0S, PySem.W.mg_of KX G aCS, e3S, e1S, i0, dI0, i0_, t0_, okI0 GI0 e0S e2S, GI0.binds fun _ _ _ _ _ _ us hl => match us, hl with | [_, _], _ => rfl⟩
  have bL : ∀ (s : Shared) (u : Value), BindsTo s dL ⟨[u], []⟩ [("_law_script", u)] := by
    obtain ⟨oc, od, kV, doc, pm, an, cdv, ct, osl, rfl, _⟩ := GL.ex
    exact fun s u => .of_eq rfl
  have DSo : DefAt l.prog w K mg base 1 "_law_source" ["_law_script", "_law_turn"] (spSource K) := ⟨_, _, ok_source GSource ⟨B.len, B.max⟩, PySem.W.mg_of KX G aSource, GSource.kp, bSource⟩
  have DDr : DefAt l.prog w K mg base 1 "_law_draw" ["_law_source_here", "_law_amount"] (spDraw) := ⟨_, _, ok_draw GDraw, PySem.W.mg_of KX G aDraw, GDraw.kp, bDraw⟩
  have DSq : DefAt l.prog w K mg base 2 "_law_sequence" ["_law_source_here", "_law_most"] (spSeq K) := ⟨_, _, ok_sequence GSeq B DDr, PySem.W.mg_of KX G aSeq, GSeq.kp, bSeq⟩
  have DSd : DefAt l.prog w K mg base 1 "_law_served" ["_law_sequence_here", "_law_pushes"] (spServed K) := ⟨_, _, ok_served GServed B, PySem.W.mg_of KX G aServed, GServed.kp, bServed⟩
  have DFi : DefAt l.prog w K mg base 1 "_law_first_push" ["_law_sequence_here", "_law_at"] (spFirst K) := ⟨_, _, ok_first GFirst B, PySem.W.mg_of KX G aFirst, GFirst.kp, bFirst⟩
  have DIn : DefAt l.prog w K mg base 1 "is_integer" ["obj"] (spInt) := ⟨_, _, ok_int GInt B C, PySem.W.mg_of KX G aInt, GInt.kp, bInt⟩
  have DIm : DefAt l.prog w K mg base 2 "is_item" ["obj"] (spItem K) := ⟨_, _, ok_item GItm B C DIn, PySem.W.mg_of KX G aItm, GItm.kp, bItm⟩
  have DCk : DefX l.prog w K mg base 3 "check_sequence" ["obj"] (spChkS K CS) := ⟨_, _, ok_chk GChk B C DIm XS, PySem.W.mg_of KX G aChk, GChk.kp, bChk⟩
  have DSp : DefAt l.prog w K mg base 1 "spans" ["sequence"] (spSpans K) := ⟨_, _, ok_spans GSpn B C, PySem.W.mg_of KX G aSpn, GSpn.kp, bSpn⟩
  have DFP : DefX l.prog w K mg base 4 "fewest_pushes" ["sequence"] (spFP K CS) := ⟨_, _, ok_fewest GFP B C DCk DSp, PySem.W.mg_of KX G aFP, GFP.kp, bFP⟩
  have DIx : DefAt l.prog w K mg base 2 "are_indexes" ["obj", "sequence"] (spIdx K) := ⟨_, _, ok_indexes GIx B C DIn, PySem.W.mg_of KX G aIx, GIx.kp, bIx⟩
  have DSv : DefAt l.prog w K mg base 1 "are_served" ["sequence", "pushes"] (spSrvd K) := ⟨_, _, ok_srvd GSvd B C, PySem.W.mg_of KX G aSvd, GSvd.kp, bSvd⟩
  have DCP : DefX l.prog w K mg base 4 "check_pushes" ["sequence", "obj"] (spCP K CS) := ⟨_, _, ok_check GCP B C DCk DSp DIx DSv, PySem.W.mg_of KX G aCP, GCP.kp, bCP⟩
  have DRP : DefX l.prog w K mg base 4 "run_policy" ["sequence", "policy"] (spRP K CS) := ⟨_, _, ok_run GRP B C DCk, PySem.W.mg_of KX G aRP, GRP.kp, bRP⟩
  have DRw : DefAt l.prog w K mg base 1 "_law_is_rows" ["_law_thing", "_law_size"] (spRows K) := ⟨_, _, ok_rows GRows B C, PySem.W.mg_of KX G aRows, GRows.kp, bRows⟩
  have DAc : DefAt l.prog w K mg base 2 "_law_accepts" ["_law_sequence_here", "_law_thing"] (spAcc K) := ⟨_, _, ok_accepts GAcc B C DRw DSd DFi, PySem.W.mg_of KX G aAcc, GAcc.kp, bAcc⟩
  have DBt : DefAt l.prog w K mg base 2 "_law_bent" ["_law_source_here", "_law_sequence_here", "_law_found"] (spBent K) := ⟨_, _, ok_bent GBent B DDr, PySem.W.mg_of KX G aBent, GBent.kp, bBent⟩
  have DRn : DefAt l.prog w K mg base 1 "_law_run" ["_law_sequence_here", "_law_choice"] (spRun K) := ⟨_, _, ok_lrun GRun B, PySem.W.mg_of KX G aRun, GRun.kp, bRun⟩
  have DRf : DefG l.prog w K mg base 5 "_law_refused" ["_law_thing"] (spRef K) := ⟨_, _, ok_refused GRef B XS (PySem.W.mg_of KX G aCS) (PySem.W.mg_of KX G aCB) e5S e4S DFP DCP DRP, PySem.W.mg_of KX G aRef, GRef.kp, bRef⟩
  have DPo : DefG l.prog w K mg base 6 "_law_policies_right" ["_law_source_here", "_law_sequence_here"] (spPol K [(Pt, qPo)]) := ⟨_, _, ok_policies GPo cPo B C GRP bRP (PySem.W.mg_of KX G aRP) TB DCk DFP DDr DRn, PySem.W.mg_of KX G aPo, GPo.kp, bPo⟩
  refine run_law GL cLe B C GRP bRP (PySem.W.mg_of KX G aRP) TBL nPt DCk DFP DCP DSo DSq DBt DAc DPo DRf bL e0 hS hns fun p hp => ?_
  rcases List.mem_cons.mp hp with rfl | hp
  · exact TabS.nil hTL
  · rw [List.mem_singleton.mp hp]
    exact TabS.nil hT0
end K73
set_option Elab.async false
set_option linter.all false
set_option maxRecDepth 100000

open PySem PySem.W PyProof.Rows in
set_option maxRecDepth 100000 in
set_option maxHeartbeats 0 in
theorem PySem.Challenge.cw_slackcache_k73_pushes_checked_and_polici_holds : PySem.Challenge.rw_slackcache_k73_pushes_checked_and_polici.Holds := by
  w_on; o_law; k_head; (case hw => w_witness2)
  k_fill
  refine EX.walkT (l := PySem.Challenge.rw_slackcache_k73_pushes_checked_and_polici) (n := 63) rfl (by decide) rfl (fun w h Y => PySem.W.km_in_of Y) ?F
  case F =>
    intro w mg fa h Y KX G hmg
    refine' K73.all_mk KX G hmg ?h_aL ?h_C_L ?h_aInt ?h_FInt ?h_aItm ?h_FItm ?h_aChk ?h_FChk ?h_aSpn ?h_FSpn ?h_aFP ?h_FFP ?h_aIx ?h_FIx ?h_aSvd ?h_FSvd ?h_aCP ?h_FCP ?h_aRP ?h_FRP ?h_aSource ?h_FSource ?h_aDraw ?h_FDraw ?h_aSeq ?h_FSeq ?h_aServed ?h_FServed ?h_aFirst ?h_FFirst ?h_aRows ?h_FRows ?h_aAcc ?h_FAcc ?h_aBent ?h_FBent ?h_aRun ?h_FRun ?h_aRef ?h_FRef ?h_aPo ?h_C_P ?h_aCS ?h_aCB ?h_i0_ ?h_t0_ ?h_FI0 ?h_tbS ?h_has1 ?h_has2 ?h_nPt ?h_z_str ?h_z_int ?h_z_bool ?h_z_all ?h_z_enumerate ?h_z_zip ?h_c_ls ?h_z_range ?h_z_max ?h_z_min ?h_z_len ?h_z_repr ?h_z_isinstance ?h_z_tuple ?h_z_list ?h_z_sorted ?h_z_set
    (case h_aL => k_is)
    (case h_C_L => refine' K73.fnC ?l ?cc ?k ?a ?h4 ?h5 ?out; (case l => k_is); (case cc => k_is); (case k => k_is); (case a => k_is); (case h4 => k_is); (case h5 => rfl); (case out => kernel_rfl))
    (case h_aInt => k_is)
    (case h_FInt => refine' K73.fnAt ?l ?c ?k; (case l => k_is); (case c => k_is); (case k => k_is))
    (case h_aItm => k_is)
    (case h_FItm => refine' K73.fnAt ?l ?c ?k; (case l => k_is); (case c => k_is); (case k => k_is))
    (case h_aChk => k_is)
    (case h_FChk => refine' K73.fnAt ?l ?c ?k; (case l => k_is); (case c => k_is); (case k => k_is))
    (case h_aSpn => k_is)
    (case h_FSpn => refine' K73.fnAt ?l ?c ?k; (case l => k_is); (case c => k_is); (case k => k_is))
    (case h_aFP => k_is)
    (case h_FFP => refine' K73.fnAt ?l ?c ?k; (case l => k_is); (case c => k_is); (case k => k_is))
    (case h_aIx => k_is)
    (case h_FIx => refine' K73.fnAt ?l ?c ?k; (case l => k_is); (case c => k_is); (case k => k_is))
    (case h_aSvd => k_is)
    (case h_FSvd => refine' K73.fnAt ?l ?c ?k; (case l => k_is); (case c => k_is); (case k => k_is))
    (case h_aCP => k_is)
    (case h_FCP => refine' K73.fnAt ?l ?c ?k; (case l => k_is); (case c => k_is); (case k => k_is))
    (case h_aRP => k_is)
    (case h_FRP => refine' K73.fnAt ?l ?c ?k; (case l => k_is); (case c => k_is); (case k => k_is))
    (case h_aSource => k_is)
    (case h_FSource => refine' K73.fnAt ?l ?c ?k; (case l => k_is); (case c => k_is); (case k => k_is))
    (case h_aDraw => k_is)
    (case h_FDraw => refine' K73.fnAt ?l ?c ?k; (case l => k_is); (case c => k_is); (case k => k_is))
    (case h_aSeq => k_is)
    (case h_FSeq => refine' K73.fnAt ?l ?c ?k; (case l => k_is); (case c => k_is); (case k => k_is))
    (case h_aServed => k_is)
    (case h_FServed => refine' K73.fnAt ?l ?c ?k; (case l => k_is); (case c => k_is); (case k => k_is))
    (case h_aFirst => k_is)
    (case h_FFirst => refine' K73.fnAt ?l ?c ?k; (case l => k_is); (case c => k_is); (case k => k_is))
    (case h_aRows => k_is)
    (case h_FRows => refine' K73.fnAt ?l ?c ?k; (case l => k_is); (case c => k_is); (case k => k_is))
    (case h_aAcc => k_is)
    (case h_FAcc => refine' K73.fnAt ?l ?c ?k; (case l => k_is); (case c => k_is); (case k => k_is))
    (case h_aBent => k_is)
    (case h_FBent => refine' K73.fnAt ?l ?c ?k; (case l => k_is); (case c => k_is); (case k => k_is))
    (case h_aRun => k_is)
    (case h_FRun => refine' K73.fnAt ?l ?c ?k; (case l => k_is); (case c => k_is); (case k => k_is))
    (case h_aRef => k_is)
    (case h_FRef => refine' K73.fnAt ?l ?c ?k; (case l => k_is); (case c => k_is); (case k => k_is))
    (case h_aPo => k_is)
    (case h_C_P => refine' K73.fnC ?l ?cc ?k ?a ?h4 ?h5 ?out; (case l => k_is); (case cc => k_is); (case k => k_is); (case a => k_is); (case h4 => k_is); (case h5 => rfl); (case out => kernel_rfl))
    (case h_aCS => k_is)
    (case h_aCB => k_is)
    (case h_i0_ => k_is)
    (case h_t0_ => k_is)
    (case h_FI0 => refine' K73.fnAt ?l ?c ?k; (case l => k_is); (case c => k_is); (case k => k_is))
    (case h_tbS => kernel_rfl)
    (case h_has1 => exact ⟨_, rfl⟩)
    (case h_has2 => exact ⟨_, rfl⟩)
    (case h_nPt => decide)
    (case h_z_str => k_is)
    (case h_z_int => k_is)
    (case h_z_bool => k_is)
    (case h_z_all => k_is)
    (case h_z_enumerate => k_is)
    (case h_z_zip => k_is)
    (case h_c_ls => apply Exists.intro; k_is)
    (case h_z_range => k_is)
    (case h_z_max => k_is)
    (case h_z_min => k_is)
    (case h_z_len => k_is)
    (case h_z_repr => k_is)
    (case h_z_isinstance => k_is)
    (case h_z_tuple => k_is)
    (case h_z_list => k_is)
    (case h_z_sorted => k_is)
    (case h_z_set => k_is)

