import PyProof.Rows.All
import Wide.All
import OpenK.AllK
import Wide.FinOn
import HandS.ForMost
import HandS.Wide
import HandS.Exc
import HandS.ExcInit
import HandS.IsInst
import KE.KExcInit
import KE.KExcIs
import KE.KIsAll
import PyProof.ReprRoads
import HandS.ExcField
import HandS.ExcIs
import HandS.TryMany
import HandS.ExcOwn
import PyProof.InstNe
import HandS.Flow
import HandS.SlotsOwn
import HandS.Strs
import HandS.SetFor
import HandS.SortInts
import HandS.WordsExc
import HandS.Walk
import HandS.WordsDict
import HandS.DictComp
import PyProof.Rows.SortStr
import HandS.Lambda
import HandS.EndTab
import HandS.Style
import HandS.Conv
import HandS.Finally
import HandS.StrMore
import HandS.Text
import KE.KDictItemsList
import PySem.Challenge.RW_slackcache_k69_allowances_that_serve
set_option Elab.async false
set_option linter.all false
set_option maxRecDepth 100000
set_option maxHeartbeats 4000000
namespace EX
open PySem L2 PySem.Spec PyProof.Rows
abbrev exT : List Value := [.type "Exception", .type "BaseException", .type "object"]
/-- what the written part says of an own exception class below Exception -/
structure EcC (K : PySem.W.Frag) (C : Addr) : Prop where
  ini : PySem.W.excInitIn K C exT "Exception.__new__" = true
  ovr : PySem.W.excOver K C exT = true
  sa : PySem.W.findIn K (.ref C) "__setattr__" = some (some (.builtin "object.__setattr__"))
  ga : PySem.W.findIn K (.ref C) "__getattribute__" = some (some (.builtin "BaseException.__getattribute__"))
  gg : PySem.W.findIn K (.ref C) "__getattr__" = some none
  exC : PySem.W.subIn K (.ref C) (.type "BaseException") = some true
  hdC : PySem.W.hasDictIn K C = true
  kC : PySem.W.keepIn K (.ref C) = true
  cl : (PySem.W.clsIn K C).isSome = true
  cA : PySem.W.findIn K (.ref C) "__class__" = some (some (.builtin "object.__class__"))
  mo : PySem.W.mroIn K C (.type "object") = some true
  sp : PySem.W.specialIn K (.builtin "object.__class__") "__get__" = some (some (.builtin "getset_descriptor.__get__"))
  tk : PySem.W.takesIn K (.builtin "object.__class__") = some true
theorem upd_comm {H : Hp} {a b : Addr} {o u : HO} (h : a ≠ b) : upd (upd H a o) b u = upd (upd H b u) a o := by
  funext c
  by_cases hb : c = b
  · subst hb
    rw [upd_same, upd_ne (Ne.symm h), upd_same]
  · rw [upd_ne hb]
    by_cases ha : c = a
    · subst ha
      rw [upd_same, upd_same]
    · rw [upd_ne ha, upd_ne ha, upd_ne hb]
theorem upd_upd {H : Hp} {a : Addr} {o u : HO} : upd (upd H a o) a u = upd H a u := by
  funext c
  by_cases ha : c = a
  · subst ha
    rw [upd_same, upd_same]
  · rw [upd_ne ha, upd_ne ha, upd_ne ha]
section
variable {X : Cx} {pins : List (Addr × Obj)} {σ : L2.St} {H : Hp} {s : Shared} {a C dx : Addr} {f : Str} {y : V} {u : Value} {fs : List (Str × V)} {Q : Unit → Shared → Prop} {E : Value → Shared → Prop} {A : Around}
/-- the first field of a new exception -/
theorem est_new (T : EcC X.K C) (I : Inv X pins σ H s) (e : H a = some (exo a C none)) (htk : PySem.W.takerIn X.K C f = some none) (ry : RelV y u)
    (h : ∀ dx s', H dx = none → dx ≠ a → Inv X pins σ (upd (upd H dx (exd dx [(f, y)])) a (exo a C (some dx))) s' → Q () s') :
    wpAny (model X.prog X.w) A (setAttr (.ref a) f u) Q E s := by
  obtain ⟨t1, ho⟩ := exo_at I.hok e
  obtain ⟨cd, hc, hd'⟩ := PySem.W.any_some T.hdC
  obtain ⟨hp, g, d, t, os⟩ := s
  have hlt : a < hp.objs.size := Heap.lt_size ho
  refine PySem.W.set_plain I.kIn (od := none) ⟨ho, rfl, rfl, trivial⟩ T.sa ?_
  refine PySem.W.osa_openX (od := none) PySem.F.store_Exception I.kIn ⟨ho, rfl, rfl, trivial⟩ T.ovr htk fun b => ?_
  refine wpAny_bind (wpAny_pure (wpAny_bind (PySem.W.instanceDict_exc ho (PySem.W.looks_clsIn I.kIn hc) hd' ?_)))
  show wpAny _ _ (Builtin.ObjectAttr.storeInDict hp.objs.size (.str f _) f u) _ _ _
  have hn0 : H hp.objs.size = none := I.hok.fresh (Nat.le_refl _)
  have hne : hp.objs.size ≠ a := Nat.ne_of_gt hlt
  -- the new dict is laid
  have J1 := I.laid (t' := t) (a := hp.objs.size) (o := exd hp.objs.size []) (h' := hp.push (PySem.W.dictOf [] 0)) (fun b o q => Heap.get?_push_of_some _ q) (Nat.le_refl _)
    (exd_ok (mA := fun _ => none) (Heap.Ns1.of_empty ⟨_, #[], _, Heap.get?_push_at rfl rfl, rfl, fun x hx => absurd hx (by simp), fun _ => rfl⟩) fun _ => True.intro)
  have e1 : upd H hp.objs.size (exd hp.objs.size []) a = some (exo a C none) := by rw [upd_ne (Ne.symm hne)]; exact e
  have ho1 : (hp.push (PySem.W.dictOf [] 0)).get? a = some { cls := .ref C, dict := none, data := .fields #[.ref t1, .none, .none, .none, .bool false, .none] } := Heap.get?_push_of_some _ ho
  -- the object gets it
  have ho2 : ((hp.push (PySem.W.dictOf [] 0)).update a fun o => { o with dict := some hp.objs.size }).get? a = some { cls := .ref C, dict := some hp.objs.size, data := .fields #[.ref t1, .none, .none, .none, .bool false, .none] } :=
    Heap.get?_update_self _ ho1 rfl
  have J2 := J1.write (t' := t) (x := a) (e := a) (o := exo a C (some hp.objs.size)) (h' := (hp.push (PySem.W.dictOf [] 0)).update a fun o => { o with dict := some hp.objs.size })
    (by rw [e1]; exact True.intro) (.inl rfl) (fun b o hb q => (Heap.get?_update_ne _ _ _ _ hb).trans q) ⟨_, ho2⟩ (exo_ok ho2)
  have hD : ((hp.push (PySem.W.dictOf [] 0)).update a fun o => { o with dict := some hp.objs.size }).get? hp.objs.size = some (PySem.W.dictOf [] 0) :=
    (Heap.get?_update_ne _ _ _ _ hne).trans (Heap.get?_push_at rfl rfl)
  refine PySem.HandSPX.store_in_new ⟨_, #[], _, hD, rfl, fun x hx => absurd hx (by simp), fun _ => rfl⟩ fun h' tk' hn' hs => ?_
  have hd2 : ∃ o, h'.get? hp.objs.size = some o := by
    obtain ⟨o, _, _, q, _⟩ := hn'
    exact ⟨o, q⟩
  have e2 : upd (upd H hp.objs.size (exd hp.objs.size [])) a (exo a C (some hp.objs.size)) hp.objs.size = some (exd hp.objs.size []) := by rw [upd_ne hne, upd_same]
  have J3 := J2.write (t' := tk') (x := hp.objs.size) (e := hp.objs.size) (o := exd hp.objs.size [(f, y)]) (h' := h') (by rw [e2]; exact True.intro) (.inl rfl)
    (fun b o hb q => (hs.2 b hb).trans q) hd2 (exd_ok hn' (relO_put (fs := []) ry fun _ => True.intro))
  have eH : upd (upd (upd H hp.objs.size (exd hp.objs.size [])) a (exo a C (some hp.objs.size))) hp.objs.size (exd hp.objs.size [(f, y)]) =
      upd (upd H hp.objs.size (exd hp.objs.size [(f, y)])) a (exo a C (some hp.objs.size)) := by
    rw [upd_comm (Ne.symm hne), upd_upd]
  rw [eH] at J3
  exact h _ _ hn0 hne J3
/-- a further field of an exception -/
theorem est_old (T : EcC X.K C) (I : Inv X pins σ H s) (e : H a = some (exo a C (some dx))) (ed : H dx = some (exd dx fs)) (hl : fs.length ≤ 900) (htk : PySem.W.takerIn X.K C f = some none) (ry : RelV y u)
    (h : ∀ s', Inv X pins σ (upd H dx (exd dx ((f, y) :: fs))) s' → Q () s') : wpAny (model X.prog X.w) A (setAttr (.ref a) f u) Q E s := by
  obtain ⟨t1, ho⟩ := exo_at I.hok e
  obtain ⟨mA, hns, rel⟩ := exd_at I.hok ed
  have hw := within_of rel
  obtain ⟨cd, hc, hd'⟩ := PySem.W.any_some T.hdC
  obtain ⟨hp, g, d, t, os⟩ := s
  obtain ⟨oD, es, ep, hoD, hdD, hcD⟩ := hns.count hw
  refine PySem.W.set_plain I.kIn (od := some oD) ⟨ho, rfl, rfl, hoD⟩ T.sa ?_
  refine PySem.W.osa_openX (od := some oD) PySem.F.store_Exception I.kIn ⟨ho, rfl, rfl, hoD⟩ T.ovr htk fun b => ?_
  refine wpAny_bind (wpAny_pure (wpAny_bind (wpAny_bind (wpAny_loadPart ho (wpAny_bind ((PySem.W.looks_clsIn I.kIn hc).at ?_))))))
  rw [hd']
  refine wpAny_pure (a := some dx) ?_
  show wpAny _ _ (Builtin.ObjectAttr.storeInDict dx (.str f _) f u) _ _ _
  refine PySem.OEX.store_in_old hns hw (by rw [List.length_map]; omega) fun h' tk' hn' hs => ?_
  have hd2 : ∃ o, h'.get? dx = some o := by
    obtain ⟨o, _, _, q, _⟩ := hn'
    exact ⟨o, q⟩
  exact h _ (I.write (t' := tk') (x := dx) (e := dx) (o := exd dx ((f, y) :: fs)) (h' := h') (by rw [ed]; exact True.intro) (.inl rfl) (fun b o hb q => (hs.2 b hb).trans q) hd2 (exd_ok hn' (relO_put ry rel)))
end

/-! ### readings and rules -/
/-- self.f = e, self an exception -/
def tEst (K : PySem.W.Frag) (f : Str) (to te : TE) : TS := fun D σ H => te σ H fun y H1 => to σ H1 fun x H2 => ∃ a C : Addr, x = .ref a ∧ EcC K C ∧ PySem.W.takerIn K C f = some none ∧
  ((H2 a = some (exo a C none) ∧ ∀ dx, H2 dx = none → dx ≠ a → D.nx σ (upd (upd H2 dx (exd dx [(f, y)])) a (exo a C (some dx)))) ∨
    ∃ (dx : Addr) (fs : List (Str × V)), H2 a = some (exo a C (some dx)) ∧ H2 dx = some (exd dx fs) ∧ fs.length ≤ 900 ∧ D.nx σ (upd H2 dx (exd dx ((f, y) :: fs))))
/-- C(e, ..), an exception as a value -/
def tMkE (C : Addr) (sp : Sp) (dvs : List V) (ta : TA) : TE := fun σ H Q => ta σ H fun vs H1 => vs.length ≤ 1000 ∧ ∀ a, H1 a = none →
  sp (.ref a :: (vs ++ dvs)) (upd H1 a (exo a C none)) (fun v H2 => v = .non ∧ Q (.ref a) H2) (fun _ _ _ => False)
/-- e.f, e an exception -/
def tEf (K : PySem.W.Frag) (f : Str) (te : TE) : TE := fun σ H Q => te σ H fun x H1 => ∃ (a C dx : Addr) (fs : List (Str × V)) (v : V), x = .ref a ∧ EcC K C ∧ PySem.W.findIn K (.ref C) f = some none ∧
  H1 a = some (exo a C (some dx)) ∧ H1 dx = some (exd dx fs) ∧ fs.lookup f = some v ∧ Q v H1
section
variable {X : Cx} {o e : Expr} {es : List Expr} {to te : TE} {ta : TA} {f : Str} {p p' pos : Pos}
theorem ps_est (ho : PE X o to) (he : PE X e te) (hs : swapsWith e (some (.Attribute o f p')) pos.line X.env = pure false := by rfl) : PS X (.Assign [.Attribute o f p'] e pos) (tEst X.K f to te) := by
  refine ⟨fun pins s σ H D I h => plainObj_wpAny_Assign_Attribute (thn (he.run pins s σ H _ I h) ?_) hs⟩
  intro v s1 ⟨y, H1, I1, r1, q1⟩
  refine thn (ho.run pins s1 σ H1 _ I1 q1) ?_
  intro u s2 ⟨x, H2, I2, r2, a, C, ex, T, hno, q⟩
  subst ex
  obtain rfl : u = Value.ref a := r2
  rcases q with ⟨ea, q⟩ | ⟨dx, fs, ea, ed, hl, q⟩
  · exact est_new T I2 ea hno r1 fun dx s' n ne J => ⟨σ, _, J, q dx n ne⟩
  · exact est_old T I2 ea ed hl hno r1 fun s' J => ⟨σ, _, J, q⟩
theorem pe_ef (he : PE X e te) (hb : attributeBase e f X.env (eval e X.env) = eval e X.env := by rfl) : PE X (.Attribute e f pos) (tEf X.K f te) := by
  refine ⟨fun pins s σ H Q I h => attr_of hb (thn (he.run pins s σ H _ I h) ?_)⟩
  intro u s1 ⟨x, H1, I1, rx, a, C, dx, fs, v, ex, T, hno, ea, ed, l, q⟩
  subst ex
  obtain rfl : u = Value.ref a := rx
  obtain ⟨t1, ho⟩ := exo_at I1.hok ea
  obtain ⟨mA, hns, rel⟩ := exd_at I1.hok ed
  obtain ⟨od, hod, hl⟩ := lookIn_ns hns
  obtain ⟨w0, hu, ru⟩ := RelO.some_of (v := v) (o := mA f) (by rw [← l]; exact rel f)
  have J : PySem.W.InstAt s1.heap a _ C (some od) := ⟨ho, rfl, rfl, hod⟩
  exact HandSPX.exc_get I1.kIn J T.ga T.gg T.exC (PySem.W.findObj_own T.hdC hno rfl (by rw [hl, hu])) (handed_of ru) ⟨v, H1, I1.tok _, ru, q⟩
theorem pe_mkE {CX : CXT} {x : Str} {C fI : Addr} {k : Nat} {fd : FuncData} {ps : List Str} {sp : Sp} {ds : List Value} {dvs : List V} (T : EcC X.K C) (iC : PySem.W.findIn X.K (.ref C) "__init__" = some (some (.ref fI)))
    (tI : PySem.W.typeIn X.K (.ref fI) = some (.type "function")) (F1 : FnOk X.prog X.w X.K X.mg X.base CX k fI fd ps sp) (hr : Room (k + 1) X.A) (hb : Binds X.K fd ps ds) (hd : Vals dvs ds) (hx : Passes CX X (fun _ _ _ => False))
    (hg : Gl X x) (hm : X.mg x = some (.ref C)) (ha : PA X (e :: es) ta)
    (hdb : (x == ("__debug__" : Str)) = false := by decide) (he : starEach (e :: es) X.env = (false, eval e X.env) :: starEach es X.env := by rfl) (hpl : (backTo pos (starEach es X.env)).any (·.1) = false := by rfl) :
    PE X (.Call (.Name x p) (e :: es) [] pos) (tMkE C sp dvs ta) := by
  refine ⟨fun pins s σ H Q I h => wpAny_Call_Name_kw (ld_glob I hg hm ?_ hdb)⟩
  refine PySem.W.callWith_K (h₀ := X.base) I.ok.mod.kin T.kC (thn (ha.run pos pins s σ H _ I h) ?_) he hpl
  intro us s1 ⟨vs, H1, I1, r1, hz, q1⟩
  refine ⟨I1.kIn, ?_⟩
  show wpAny _ _ (call (.ref C) us) _ _ _
  obtain ⟨nm, N', qn, bs, bm, hdct, sn, sub, ab, col, dd, k0, k1, k2, k3, k5, hC, hT⟩ := PySem.W.excInit_of I1.kIn T.ini
  obtain ⟨hp, g, dr, tk, os⟩ := s1
  have hsz : hp.objs.size ≤ hp.objs.size + 1 := Nat.le_succ _
  have hn : H1 (hp.objs.size + 1) = none := I1.hok.fresh hsz
  have hq := q1 _ hn
  have hget : ((hp.push (PySem.W.kdv_tup us)).push (PySem.HandSPX.excO C hp.objs.size)).get? (hp.objs.size + 1) = some (PySem.HandSPX.excO C hp.objs.size) := by heap_get
  have I2 := I1.laid (t' := tk) (a := hp.objs.size + 1) (o := exo (hp.objs.size + 1) C none) (h' := (hp.push (PySem.W.kdv_tup us)).push (PySem.HandSPX.excO C hp.objs.size))
    (fun b o z => Heap.get?_push_of_some _ (Heap.get?_push_of_some _ z)) hsz (exo_ok hget)
  have r2 : Vals (V.ref (hp.objs.size + 1) :: (vs ++ dvs)) (Value.ref (hp.objs.size + 1) :: (us ++ ds)) := .cons rfl (r1.append hd)
  have hl : (Value.ref (hp.objs.size + 1) :: us ++ ds).length = ps.length := r2.length.symm.trans (F1.len _ _ _ _ hq)
  have hus : us.length ≤ sizeLine := by
    have := Paired.length r1
    rw [sizeLine_eq]
    omega
  refine wpAny_call (PySem.HandSPX.call_own PySem.F.excBase_Exception hT hC (PySem.W.looks_findIn I1.kIn iC) (fun self => PySem.W.bind_fn I1.kIn self tI) hus (codeAny_mono
    (F1.run _ X.stack _ _ ⟨Value.ref (hp.objs.size + 1) :: us, []⟩ (Value.ref (hp.objs.size + 1) :: (us ++ ds)) _ _ (fun _ _ _ => False) (hr.make C us []) (I2.env0.make C us []) (hb _ (Value.ref (hp.objs.size + 1) :: us) I2.kIn hl) r2 hq) ?_))
  intro r s' hq'
  cases r with
  | error er => exact hx pins σ _ _ er s' I2 hq'
  | ok fl =>
    cases fl with
    | ret u =>
      obtain ⟨v, H2, os2, bare2, un2, hok2, rv, ev, q2⟩ := hq'
      subst ev
      obtain ⟨h2, g2, d2, t2, os'⟩ := s'
      refine ⟨rv, V.ref (hp.objs.size + 1), H2, I2.call' (ch := []) os2 un2 hok2 bare2 (fun b z => absurd z (by simp)), rfl, q2⟩
    | next => exact False.elim hq'
    | brk => exact False.elim hq'
    | cont => exact False.elim hq'
/-- isinstance(e, c), e an exception, one class -/
def rIsiE (K : PySem.W.Frag) : List V → Hp → VK → Prop := fun xs H Q => ∃ (a C dx : Addr) (fs : List (Str × V)) (c : V) (u : Value) (b : Bool), xs = [.ref a, c] ∧ H a = some (exo a C (some dx)) ∧ H dx = some (exd dx fs) ∧ EcC K C ∧ ClsV c u ∧
  PySem.W.kitOne K (.ref C) u = some b ∧ Q (.bl b) H
/-- isinstance(e, (c1, c2, ..)), the tuple just laid -/
def rIsiET (K : PySem.W.Frag) : List V → Hp → VK → Prop := fun xs H Q => ∃ (a C dx tp : Addr) (fs : List (Str × V)) (cs : List V) (us : List Value) (b : Bool), xs = [.ref a, .ref tp] ∧ H a = some (exo a C (some dx)) ∧ H dx = some (exd dx fs) ∧ EcC K C ∧
  H tp = some (.tup cs) ∧ Paired ClsV cs us ∧ PySem.W.kitAny K (.ref C) us = some b ∧ Q (.bl b) H
theorem kit_exc {K : PySem.W.Frag} {C : Addr} (T : EcC K C) {x : Addr} {ox : Obj} {od : Option Obj} : PySem.W.KitX K (.ref x) (.ref C) (fun h => PySem.W.InstAt h x ox C od) :=
  PySem.W.kitx_exc T.cl T.ga T.gg T.exC T.cA T.sp T.tk T.mo
theorem call_isiE : CallR X (.builtin "isinstance") (rIsiE X.K) := by
  intro pins s σ H xs us Q I r h
  obtain ⟨a, C, dx, fs, c, u, b, rfl, ea, ed, T, k, e, q⟩ := h
  obtain ⟨u1, u2, rfl, r1, r2⟩ := vals2 r
  obtain rfl := k.eq r2
  obtain rfl : u1 = Value.ref a := r1
  obtain ⟨t1, ho⟩ := exo_at I.hok ea
  obtain ⟨mA, hns, rel⟩ := exd_at I.hok ed
  obtain ⟨od, hod, _⟩ := lookIn_ns hns
  exact PySem.W.kia_one (kit_exc T (od := some od)) I.kIn ⟨ho, rfl, rfl, hod⟩ e (fun z => nomatch z) fun tk => ⟨.bl b, H, I.tok tk, rfl, q⟩
theorem call_isiET : CallR X (.builtin "isinstance") (rIsiET X.K) := by
  intro pins s σ H xs us Q I r h
  obtain ⟨a, C, dx, tp, fs, cs, vs, b, rfl, ea, ed, T, et, pr, e, q⟩ := h
  obtain ⟨u1, u2, rfl, r1, r2⟩ := vals2 r
  obtain rfl : u1 = Value.ref a := r1
  obtain rfl : u2 = Value.ref tp := r2
  obtain ⟨t1, ho⟩ := exo_at I.hok ea
  obtain ⟨mA, hns, rel⟩ := exd_at I.hok ed
  obtain ⟨od, hod, _⟩ := lookIn_ns hns
  have z : ObjOk X.prog X.w H s.heap tp (.tup cs) := I.hok tp _ et
  obtain ⟨_, its, rv, o, h1, h2, n, h3⟩ := z
  obtain rfl := ClsV.all pr rv
  obtain ⟨oc, od', dt, sl⟩ := o
  dsimp only at h2 h3
  subst h2 h3
  exact PySem.W.kia_tup (kit_exc T (od := some od)) I.kIn ⟨ho, rfl, rfl, hod⟩ h1 e (fun z => nomatch z) fun tk => ⟨.bl b, H, I.tok tk, rfl, q⟩
end
/-- plain data, or a dict of one int -/
inductive Rp (K : PySem.W.Frag) (H : Hp) : V → PyData → Prop where
  | dp {v : V} {d : PyData} : Dp K H v d → d.hasDict = false → Rp K H v d
  | dic {a : Addr} {k n : Int} : H a = some (.dK [(Sum.inl k, .int n)]) → Rp K H (.ref a) (.dict [(.int k, .int n)])
  | dis {a : Addr} {k : Str} {n : Int} : H a = some (.dK [(Sum.inr k, .int n)]) → Rp K H (.ref a) (.dict [(.str k, .int n)])
def rRepr (K : PySem.W.Frag) : List V → Hp → VK → Prop := fun xs H Q => ∃ (x : V) (d : PyData), xs = [x] ∧ Rp K H x d ∧ d.showable = true ∧ d.depth ≤ 60 ∧ d.shown.length ≤ sizeLine ∧ Q (.str d.shown) H
section
variable {X : Cx} {pins : List (Addr × Obj)} {σ : L2.St} {H : Hp} {s : Shared}
theorem Rp.reads (I : Inv X pins σ H s) {v : V} {d : PyData} {u : Value} (h : Rp X.K H v d) (r : RelV v u) : ∃ as, Reads s.heap u d as ∧ (d.hasDict = true → sysModules ∉ as) := by
  cases h with
  | dp h nd =>
    obtain ⟨as, q⟩ := Dp.reads I d v u h r
    exact ⟨as, q, fun z => by rw [nd] at z; cases z⟩
  | @dic a k n e =>
    obtain rfl : u = Value.ref a := r
    have z : ObjOk X.prog X.w H s.heap a (.dK [(Sum.inl k, .int n)]) := I.hok a _ e
    obtain ⟨_, hsm, vs, kv, o, es, ep, ho, hx, hd, _, hp, _⟩ := z
    cases kv with
    | @cons _ q0 _ qs k1 kr =>
      cases kr
      obtain ⟨ek, rv⟩ := k1
      obtain ⟨kk, vv⟩ := q0
      dsimp only at ek rv
      subst ek
      obtain ⟨t, rfl⟩ : ∃ t, vv = Value.int n t := rv
      generalize el : es.toList = l at hp
      cases hp with
      | @cons e1 kv1 es1 kvs1 p1 p2 p3 =>
        cases p3
        obtain ⟨hsh, key, val⟩ := e1
        dsimp only at p1 p2
        subst p2
        have p1 : Value.isInt k key = true := p1
        obtain ⟨t2, rfl⟩ : ∃ t2, key = Value.int k t2 := by
          cases key <;> simp_all [Value.isInt]
        refine ⟨a :: [] ++ [], Reads.dict ho hx.1 hd (as := []) (bs := []) ?_ ?_, fun _ z => ?_⟩
        · rw [el]
          exact ReadsAll.cons (bs := []) (Reads.int k t2) ReadsAll.nil
        · rw [el]
          exact ReadsAll.cons (bs := []) (Reads.int n t) ReadsAll.nil
        · rw [List.append_nil, List.mem_singleton] at z
          rw [z] at hsm
          simp at hsm
  | @dis a k n e =>
    obtain rfl : u = Value.ref a := r
    have z : ObjOk X.prog X.w H s.heap a (.dK [(Sum.inr k, .int n)]) := I.hok a _ e
    obtain ⟨_, hsm, vs, kv, o, es, ep, ho, hx, hd, _, hp, _⟩ := z
    cases kv with
    | @cons _ q0 _ qs k1 kr =>
      cases kr
      obtain ⟨ek, rv⟩ := k1
      obtain ⟨kk, vv⟩ := q0
      dsimp only at ek rv
      subst ek
      obtain ⟨t, rfl⟩ : ∃ t, vv = Value.int n t := rv
      generalize el : es.toList = l at hp
      cases hp with
      | @cons e1 kv1 es1 kvs1 p1 p2 p3 =>
        cases p3
        obtain ⟨hsh, key, val⟩ := e1
        dsimp only at p1 p2
        subst p2
        have p1 : Value.isStrOf k key = true := p1
        obtain ⟨t2, rfl⟩ := Value.isStrOf_shape p1
        refine ⟨a :: [] ++ [], Reads.dict ho hx.1 hd (as := []) (bs := []) ?_ ?_, fun _ z => ?_⟩
        · rw [el]
          exact ReadsAll.cons (bs := []) (Reads.str k t2) ReadsAll.nil
        · rw [el]
          exact ReadsAll.cons (bs := []) (Reads.int n t) ReadsAll.nil
        · rw [List.append_nil, List.mem_singleton] at z
          rw [z] at hsm
          simp at hsm
theorem call_reprD (hg : X.A.guards = some []) (hu : X.A.units + 70 < cLine) : CallR X (.builtin "repr") (rRepr X.K) := by
  intro pins s σ H xs us Q I r h
  obtain ⟨x, d, rfl, hR, hs, hdp, hz, q⟩ := h
  obtain ⟨u, rfl, ru⟩ := vals1 r
  obtain ⟨as, hr, hsm⟩ := hR.reads I ru
  have sc : ∀ (b : Str), d.shown = b → ∀ tk, EP X pins σ Q (.str b tk) { s with toks := s.toks + 1 } := fun b e tk => ⟨.str b, H, I.tok _, ⟨_, rfl⟩, e ▸ q⟩
  cases hr with
  | none => exact PySem.P.repr_of_none (sc _ rfl _)
  | bool b => exact PySem.P.repr_of_bool (sc _ (by cases b <;> rfl) _)
  | int i t => exact PySem.P.repr_of_int (of_decide_eq_true hs) (sc _ rfl _)
  | str y t => exact PySem.P.repr_of_str (sc _ rfl _) hz
  | list h1 h2 h3 h4 =>
    refine repr_of_reads' (Reads.list h1 h2 h3 h4) hs hsm hg (by omega) (fun _ _ e => e) (fun h' u tk k => ?_) hz
    exact ⟨.str _, H, I.kept k, ⟨_, rfl⟩, q⟩
  | tuple h1 h2 h3 h4 =>
    refine repr_of_reads' (Reads.tuple h1 h2 h3 h4) hs hsm hg (by omega) (fun _ _ e => e) (fun h' u tk k => ?_) hz
    exact ⟨.str _, H, I.kept k, ⟨_, rfl⟩, q⟩
  | dict h1 h2 h3 h4 h5 =>
    refine repr_of_reads' (Reads.dict h1 h2 h3 h4 h5) hs hsm hg (by omega) (fun _ _ e => e) (fun h' u tk k => ?_) hz
    exact ⟨.str _, H, I.kept k, ⟨_, rfl⟩, q⟩
end

/-! ### a def at one call, what runs around it known (so repr of what holds other things may be said) -/
theorem fn_at {P : Program} {w : World} {K : PySem.W.Frag} {mg : Str → Option Value} {base : Heap} {k : Nat} {x qual : Str} {st : Stmt} {f : Addr} {fd : FuncData} {N ps : List Str} (F : Fun K x qual st f fd) (S : FnScope N ps (defScope st))
    {A : Around} {outer : List Env} {s : Shared} {H : Hp} {args : Args} {us : List Value} {vs : List V} {Q : VK} {E : XK} (hr : Room (k + 1) A) (e0 : Env0 P w K mg base A outer s H) (hb : BindsTo s fd args (ps.zip us)) (rv : Vals vs us) (hl : vs.length = ps.length)
    (body : ∀ cdv : Value, Room k (A.deeper (envOfC qual (defScope st) s.heap.objs.size f cdv)) → ∃ t, PSs (cxOf CX0 P w K mg base N qual (defScope st) f cdv A outer s H E) (defBody st) t ∧ t { nx := fun _ H' => Q .non H', rt := Q } (start N vs) H) :
    codeAny (model P w) A (.call (.ref f) args) (CR CX0 outer P w H s Q E) s := by
  obtain ⟨oc, od, kV, doc, pm, an, cdv, ct, osl, rfl, lk, hcd⟩ := F.ex
  have kin : K.In s.heap := e0.mod.kin.keeps fun b o z => (e0.bs b o z).1
  have lim : s.heap.NoLimit := e0.mod.nolimit.keeps fun b o z => (e0.bs b o z).1
  have par : ∀ y ∈ ps.zip us, (defScope st).names.lookup y.1 = some .local ∨ ((defScope st).names.lookup y.1 = some .cell ∧ ((cellsFrom (s.heap.objs.size + 1) (defScope st).names []).lookup y.1).isSome = true) := by
    rintro ⟨n, v⟩ hy
    cases S.par n (List.of_mem_zip hy).1 with
    | inl q => exact .inl q
    | inr q => exact .inr ⟨q, PySem.W.cellsFrom_some _ _ _ (.inl q)⟩
  refine codeAny_call_function hr.depth (kin _ _ lk) rfl S.co S.gen rfl (PySem.W.codeRec_of kin hcd) (hb _ _ _ _ (wpAny_newFunctionEnv_cells S.kind par ?_))
  rintro env he s1 hin
  subst he
  refine ⟨lim.keeps hin.toInCall.keep, codeAny_func ?_⟩
  obtain ⟨t, ht, hq⟩ := body cdv (hr.deeper _)
  refine wpAny_mono (ht.run [] s1 (start N vs) H _ (inv_start S hr.hd e0 hl rv hin) hq) ?_ fun _ _ z => z
  rintro fl s' hs
  cases fl with
  | next =>
    obtain ⟨σ', H', J, q⟩ := hs
    exact ⟨V.non, H', J.os, J.bare, J.base, J.hok, rfl, q⟩
  | ret u =>
    obtain ⟨v, σ', H', J, r, q⟩ := hs
    exact ⟨v, H', J.os, J.bare, J.base, J.hok, r, q⟩
  | brk =>
    obtain ⟨_, _, _, q⟩ := hs
    exact q.elim
  | cont =>
    obtain ⟨_, _, _, q⟩ := hs
    exact q.elim
/-- the law's end, the law's own call met at callerA -/
theorem walkG {l : PySem.W.OpenLaw} {n : Nat} {q : Program} {loose : List Str} {XP : (Str → Option Value) → Heap → Prop} {YP : World → Heap → Prop} {d : DefRec} {K : Params → PySem.W.Frag}
    (hn : l.most = some n) (hn2 : n ≤ sizeLine) (hdf : d.params.defaults = []) (hY : ∀ (w : World) (h : Heap), YP w h → (K w.params).In h)
    (F : ∀ (w : World) (mg : Str → Option Value) (fa : Addr) (h : Heap), (K w.params).In h → h.Ns mainGlobals mg → mg d.name = some (.ref fa) →
      ∀ base : Heap, (K w.params).In base → base.Ns mainGlobals mg → ∀ (s : Shared) (H : Hp) (a : Addr) (ns : List Int), ns.length ≤ n → SqL (K w.params) H a (ns.map V.int) → Env0 l.prog w (K w.params) mg base callerA [] s H →
        codeAny (model l.prog w) callerA (.call (.ref fa) ⟨[.ref a], []⟩) (CR CX0 [] l.prog w H s (fun v _ => v = .bl true) E0) s) :
    PySem.W.WalkO q loose XP YP l.row.toRowW d [] (fun f vs => PySem.call f vs) := by
  refine Att.attach_call hn hdf ?_
  intro w s₀ s₁ mg mb fa o pm cd doc a vs ns G Y ho hd hcd hmg hobj hints hlen hg
  have kin := hY w _ Y
  have rv := vals_ints hints
  have lv := hints.length
  have key : ∀ H : Hp, Only H → SqL (K w.params) H a (ns.map V.int) → HOk l.prog w H s₁.heap → (∀ b, H b ≠ none → b = a) → (H a ≠ none → (K w.params).lookup a = none) →
      codeAny (model l.prog w) callerA (.call (.ref fa) ⟨[.ref a], []⟩) (fun r s' => r = .ok (.ret (.bool true)) ∧ OldK s₁.heap s'.heap ∧ s'.os = s₁.os ∧ AllBare s'.gens) s₁ := by
    intro H only sq hok onlyA notK
    have freeD : ∀ {b : Addr} {o : Obj} {es : Array DictEntry} {ep : Nat}, s₁.heap.get? b = some o → o.data = .dict es ep → H b = none := by
      intro b o es ep e1 e2
      cases h : H b with
      | none => rfl
      | some u =>
        have e3 : b = a := onlyA b (by rw [h]; exact fun z => nomatch z)
        rw [e3, hobj] at e1
        cases e1
        cases e2
    have nsB : ∀ {b : Addr} {m : Str → Option Value}, s₁.heap.Ns b m → (hidT s₁.heap H).Ns b m := by
      rintro b m ⟨o, es, ep, e1, e2, r⟩
      exact ⟨o, es, ep, hidT_get e1 (freeD e1 e2), e2, r⟩
    have kinB : (K w.params).In (hidT s₁.heap H) := by
      intro b o e
      refine hidT_get (kin b o e) ?_
      cases h : H b with
      | none => rfl
      | some u =>
        have e3 : b = a := onlyA b (by rw [h]; exact fun z => nomatch z)
        rw [e3, notK (by rw [← e3, h]; exact fun z => nomatch z)] at e
        cases e
    have e0 : Env0 l.prog w (K w.params) mg (hidT s₁.heap H) callerA [] s₁ H := by
      refine ⟨rfl, ⟨kinB, nsB G.T.g, ⟨mb, nsB G.T.b, G.T.builtins⟩, ?_⟩, fun b o e => of_hidT e, Nat.le_of_eq (hidT_size _ _), trivial, (fun b hb => absurd hb (List.not_mem_nil)), hok, .of_eq hg⟩
      obtain ⟨mc, h1, h2⟩ := G.T.nolimit
      exact ⟨mc, nsB h1, h2⟩
    refine codeAny_mono (F w mg fa _ kin G.T.g hmg _ kinB (nsB G.T.g) s₁ H a ns hlen sq e0) ?_
    intro r s' z
    cases r with
    | error e => exact z.elim
    | ok fl =>
      cases fl with
      | next => exact z.elim
      | brk => exact z.elim
      | cont => exact z.elim
      | ret u =>
        obtain ⟨v, H', os, bare, un, hok', rr, qq⟩ := z
        subst qq
        obtain rfl : u = Value.bool true := rr
        refine ⟨rfl, OldK.of_keep ?_, os, bare⟩
        intro b o e
        rcases only b with h | ⟨ob, xs, h⟩
        · exact un.keep b o e h (fun z => nomatch z) (fun z => nomatch z)
        · have h1 := (hok b _ h).1
          have h2 := (hok' b _ (un.frzs b ob _ h)).1
          rw [e] at h1
          cases h1
          exact h2
  have hz : ns.length ≤ sizeLine := Nat.le_trans hlen hn2
  cases hk : (K w.params).lookup a with
  | some o =>
    have e := kin a o hk
    rw [hobj] at e
    cases e
    refine key (fun _ => none) (fun _ => .inl rfl) (.inr ⟨_, vs.toArray, _, hk, rfl, rfl, rfl, ?_, ?_⟩) (fun _ _ z => nomatch z) (fun _ z => absurd rfl z) fun z => absurd rfl z
    · rw [List.size_toArray, lv]
      exact hz
    · simpa using rv
  | none =>
    have hs : ∀ b u, (if b = a then some (HO.frz { cls := .type "list", data := .seq vs.toArray } (.lst (ns.map V.int))) else none) = some u → b = a ∧ u = HO.frz { cls := .type "list", data := .seq vs.toArray } (.lst (ns.map V.int)) := by
      intro b u z
      by_cases hb : b = a
      · rw [if_pos hb] at z
        exact ⟨hb, (Option.some.inj z).symm⟩
      · rw [if_neg hb] at z
        cases z
    refine key (fun b => if b = a then some (.frz { cls := .type "list", data := .seq vs.toArray } (.lst (ns.map V.int))) else none) ?_ (.inl (.inr ⟨_, if_pos rfl⟩)) ?_ ?_ fun _ => hk
    · intro b
      by_cases hb : b = a
      · exact .inr ⟨_, _, if_pos hb⟩
      · exact .inl (if_neg hb)
    · intro b u z
      obtain ⟨rfl, rfl⟩ := hs b u z
      exact ⟨hobj, by rw [List.length_map]; exact hz, vs, _, rv, hobj⟩
    · intro b z
      cases h : (if b = a then some (HO.frz { cls := .type "list", data := .seq vs.toArray } (.lst (ns.map V.int))) else none) with
      | none => exact absurd h z
      | some u => exact (hs b u h).1

/-! ### defs and exception classes of the text, each as one fact -/
structure DefAt (P : Program) (w : World) (K : PySem.W.Frag) (mg : Str → Option Value) (base : Heap) (k : Nat) (x : Str) (ps : List Str) (sp : Sp) : Prop where
  ex : ∃ (f : Addr) (fd : FuncData), FnOk P w K mg base CX0 k f fd ps sp ∧ mg x = some (.ref f) ∧ PySem.W.keepIn K (.ref f) = true ∧ Binds K fd ps []
structure XcAt (P : Program) (w : World) (K : PySem.W.Frag) (mg : Str → Option Value) (base : Heap) (x : Str) (ps : List Str) (C : Addr) (sp : Sp) : Prop where
  T : EcC K C
  m : mg x = some (.ref C)
  ex : ∃ (fI : Addr) (fd : FuncData), PySem.W.findIn K (.ref C) "__init__" = some (some (.ref fI)) ∧ PySem.W.typeIn K (.ref fI) = some (.type "function") ∧ FnOk P w K mg base CX0 1 fI fd ps sp ∧ Binds K fd ps []
section
variable {X : Cx} {e : Expr} {es : List Expr} {ta : TA} {p pos : Pos} {x : Str} {k : Nat} {ps : List Str} {sp : Sp} {C : Addr}
theorem pe_callD (D : DefAt X.prog X.w X.K X.mg X.base k x ps sp) (hr : Room k X.A) (ha : PA X (e :: es) ta) (hg : Gl X x := by rfl) (hdb : (x == ("__debug__" : Str)) = false := by decide)
    (he : starEach (e :: es) X.env = (false, eval e X.env) :: starEach es X.env := by rfl) (hpl : (backTo pos (starEach es X.env)).any (·.1) = false := by rfl) : PE X (.Call (.Name x p) (e :: es) [] pos) (tCall sp [] E0 ta) := by
  obtain ⟨f, fd, F, m, kp, b⟩ := D.ex
  exact pe_call F hr hg m kp b .nil pass0 ha hdb he hpl
theorem pe_mkD (D : XcAt X.prog X.w X.K X.mg X.base x ps C sp) (hr : Room 2 X.A) (ha : PA X (e :: es) ta) (hg : Gl X x := by rfl) (hdb : (x == ("__debug__" : Str)) = false := by decide)
    (he : starEach (e :: es) X.env = (false, eval e X.env) :: starEach es X.env := by rfl) (hpl : (backTo pos (starEach es X.env)).any (·.1) = false := by rfl) : PE X (.Call (.Name x p) (e :: es) [] pos) (tMkE C sp [] ta) := by
  obtain ⟨fI, fd, iC, tI, F, b⟩ := D.ex
  exact pe_mkE D.T iC tI F hr b .nil (fun _ _ _ _ _ _ _ h => h.elim) hg D.m ha hdb he hpl
theorem pe_cls (D : XcAt X.prog X.w X.K X.mg X.base x ps C sp) (hg : Gl X x := by rfl) (hd : (x == ("__debug__" : Str)) = false := by decide) : PE X (.Name x pos) (tC (.ref C)) := pe_glob hg D.m rfl hd
end
/-- __init__(self, f): self.f = f -/
def spI1 (K : PySem.W.Frag) (C : Addr) (f : Str) : Sp := fun vs H Q _ => ∃ (a : Addr) (v : V), vs = [.ref a, v] ∧ H a = some (exo a C none) ∧ ∀ dx, H dx = none → dx ≠ a → Q .non (upd (upd H dx (exd dx [(f, v)])) a (exo a C (some dx)))
/-- __init__(self, f, g): self.f = f; self.g = g -/
def spI2 (K : PySem.W.Frag) (C : Addr) (f g : Str) : Sp := fun vs H Q _ => ∃ (a : Addr) (v u : V), vs = [.ref a, v, u] ∧ H a = some (exo a C none) ∧
  ∀ dx, H dx = none → dx ≠ a → Q .non (upd (upd (upd H dx (exd dx [(f, v)])) a (exo a C (some dx))) dx (exd dx [(g, u), (f, v)]))
theorem Same.upd {H : Hp} {p : Addr} {o : HO} (h : H p = none) : Same H (L2.upd H p o) := fun b u e => by
  rw [upd_ne (ne_of_none e h)]
  exact e
theorem mk1 {K : PySem.W.Frag} {C : Addr} {f : Str} {v : V} {H : Hp} {Q : V → Hp → Prop} (h : ∀ a d H', Same H H' → H' a = some (exo a C (some d)) → H' d = some (exd d [(f, v)]) → Q (.ref a) H') :
    [v].length ≤ 1000 ∧ ∀ a, H a = none → spI1 K C f (.ref a :: ([v] ++ [])) (upd H a (exo a C none)) (fun x H2 => x = .non ∧ Q (.ref a) H2) (fun _ _ _ => False) := by
  refine ⟨by show 1 ≤ 1000; decide, fun a ha => ⟨a, v, rfl, upd_same, fun d hd hne => ⟨rfl, h a d _ ?_ upd_same ?_⟩⟩⟩
  · have hd0 : H d = none := by rw [upd_ne hne] at hd; exact hd
    intro b o e
    rw [upd_ne (ne_of_none e ha), upd_ne (ne_of_none e hd0), upd_ne (ne_of_none e ha)]
    exact e
  · rw [upd_ne hne, upd_same]
theorem mk2 {K : PySem.W.Frag} {C : Addr} {f g : Str} {v u : V} {H : Hp} {Q : V → Hp → Prop} (h : ∀ a d H', Same H H' → H' a = some (exo a C (some d)) → H' d = some (exd d [(g, u), (f, v)]) → Q (.ref a) H') :
    [v, u].length ≤ 1000 ∧ ∀ a, H a = none → spI2 K C f g (.ref a :: ([v, u] ++ [])) (upd H a (exo a C none)) (fun x H2 => x = .non ∧ Q (.ref a) H2) (fun _ _ _ => False) := by
  refine ⟨by show 2 ≤ 1000; decide, fun a ha => ⟨a, v, u, rfl, upd_same, fun d hd hne => ⟨rfl, h a d _ ?_ ?_ upd_same⟩⟩⟩
  · have hd0 : H d = none := by rw [upd_ne hne] at hd; exact hd
    intro b o e
    rw [upd_ne (ne_of_none e hd0), upd_ne (ne_of_none e ha), upd_ne (ne_of_none e hd0), upd_ne (ne_of_none e ha)]
    exact e
  · rw [upd_ne (Ne.symm hne), upd_same]
/-- a new object, the heap from then on a letter -/
theorem new1 {o : HO} {H : Hp} {Q : V → Hp → Prop} (h : ∀ p H', Same H H' → H' p = some o → Q (.ref p) H') : ∀ p, H p = none → Q (.ref p) (upd H p o) := fun p hp => h p _ (Same.upd hp) upd_same
/-- exceptions that stand: their classes and fields -/
def AllX (H : Hp) (cs : List (Addr × List (Str × V))) (as : List (Addr × Addr)) : Prop := Paired (fun (c : Addr × List (Str × V)) (x : Addr × Addr) => H x.1 = some (exo x.1 c.1 (some x.2)) ∧ H x.2 = some (exd x.2 c.2)) cs as
theorem AllX.mono {H H' : Hp} (s : Same H H') : ∀ {cs : List (Addr × List (Str × V))} {as : List (Addr × Addr)}, AllX H cs as → AllX H' cs as
  | _, _, .nil => .nil
  | _, _, .cons h t => .cons ⟨s _ _ h.1, s _ _ h.2⟩ (AllX.mono s t)
theorem AllX.snoc {H : Hp} {c : Addr × List (Str × V)} {a d : Addr} (h1 : H a = some (exo a c.1 (some d))) (h2 : H d = some (exd d c.2)) : ∀ {cs : List (Addr × List (Str × V))} {as : List (Addr × Addr)}, AllX H cs as → AllX H (cs ++ [c]) (as ++ [(a, d)])
  | _, _, .nil => .cons ⟨h1, h2⟩ .nil
  | _, _, .cons h t => .cons h (AllX.snoc h1 h2 t)
theorem rd_mk1 {K : PySem.W.Frag} {C : Addr} {f : Str} {σ : L2.St} {i : Nat} {v : V} {H : Hp} {Q : V → Hp → Prop} (hv : σ[i]? = some (some v)) (h : ∀ a d H', Same H H' → H' a = some (exo a C (some d)) → H' d = some (exd d [(f, v)]) → Q (.ref a) H') :
    tMkE C (spI1 K C f) [] (tCons (tVar i) tNil) σ H Q := ⟨v, hv, mk1 h⟩
theorem rd_mk2 {K : PySem.W.Frag} {C : Addr} {f g : Str} {σ : L2.St} {i : Nat} {v u : V} {H : Hp} {Q : V → Hp → Prop} (hv : σ[i]? = some (some v)) (h : ∀ a d H', Same H H' → H' a = some (exo a C (some d)) → H' d = some (exd d [(g, u), (f, v)]) → Q (.ref a) H') :
    tMkE C (spI2 K C f g) [] (tCons (tVar i) (tCons (tC u) tNil)) σ H Q := ⟨v, hv, mk2 h⟩
theorem rd_mk2' {K : PySem.W.Frag} {C : Addr} {f g : Str} {σ : L2.St} {i : Nat} {v u : V} {H : Hp} {Q : V → Hp → Prop} (hv : σ[i]? = some (some v)) (h : ∀ a d H', Same H H' → H' a = some (exo a C (some d)) → H' d = some (exd d [(g, v), (f, u)]) → Q (.ref a) H') :
    tMkE C (spI2 K C f g) [] (tCons (tC u) (tCons (tVar i) tNil)) σ H Q := ⟨v, hv, mk2 h⟩
theorem rd_lst {ta : TA} {σ : L2.St} {H : Hp} {Q : V → Hp → Prop} (h : ta σ H fun xs H1 => xs.length ≤ sizeLine ∧ ∀ p H', Same H1 H' → H' p = some (.lst xs) → Q (.ref p) H') (mono : ∀ σ H (R R' : List V → Hp → Prop), (∀ xs H1, R xs H1 → R' xs H1) → ta σ H R → ta σ H R') : tLst ta σ H Q :=
  mono _ _ _ _ (fun xs H1 z => ⟨z.1, new1 z.2⟩) h
/-! ### a reading opened by one combinator -/
section
variable {D : Ends} {σ : L2.St} {H : Hp} {Q : V → Hp → Prop} {QL : List V → Hp → Prop} {t u : TS} {te to' tb : TE} {ta tl : TA} {g : TG} {r : R2}
theorem rd_seq (h : t { D with nx := u D } σ H) : tSeq t u D σ H := h
theorem rd_asg (h : te σ H fun x H1 => g x σ H1 D.nx) : tAsg te g D σ H := h
theorem rd_ret (h : te σ H D.rt) : tRet te D σ H := h
theorem rd_disp (h : ta σ H fun xs H1 => xs.length ≤ sizeLine ∧ ∀ p, H1 p = none → Q (.ref p) (upd H1 p (.lst xs))) : tLst ta σ H Q := h
theorem rd_cons (h : te σ H fun x H1 => tl σ H1 fun xs H2 => QL (x :: xs) H2) : tCons te tl σ H QL := h
theorem rd_nil (h : QL [] H) : tNil σ H QL := h
theorem rd_op (h : te σ H fun x H1 => tb σ H1 fun y H2 => r x y H2 Q) : tOp r te tb σ H Q := h
theorem rd_var {i : Nat} {v : V} (hv : σ[i]? = some (some v)) (h : Q v H) : tVar i σ H Q := ⟨v, hv, h⟩
theorem rd_c {v : V} (h : Q v H) : tC v σ H Q := h
end
section
variable {D : Ends} {σ : L2.St} {H : Hp} {Q : V → Hp → Prop} {QB : Bool → Hp → Prop} {te : TE} {ta : TA} {tc : TT} {t u : TS} {r : List V → Hp → VK → Prop} {K : PySem.W.Frag} {f : Str}
theorem rd_if (h : tc σ H fun b H1 => if b = true then t D σ H1 else u D σ H1) : tIfS tc t u D σ H := h
theorem rd_test (h : te σ H fun x H' => ∃ k, x = .bl k ∧ QB k H') : tTest te σ H QB := h
theorem rd_cb (h : ta σ H fun vs H1 => r vs H1 Q) : tCB r ta σ H Q := h
theorem rd_ef (h : te σ H fun x H1 => ∃ (a C dx : Addr) (fs : List (Str × V)) (v : V), x = .ref a ∧ EcC K C ∧ PySem.W.findIn K (.ref C) f = some none ∧ H1 a = some (exo a C (some dx)) ∧ H1 dx = some (exd dx fs) ∧ fs.lookup f = some v ∧ Q v H1) : tEf K f te σ H Q := h
end
end EX
set_option Elab.async false
set_option linter.all false
set_option maxRecDepth 100000
set_option maxHeartbeats 4000000
namespace EX
open PySem L2 PyProof.Rows
/-- the eight objects, n the drawn number, each with what it is as plain data -/
inductive ItemOk (H : Hp) (n : Int) : V → PyData → Prop where
  | int : ItemOk H n (.int n) (.int n)
  | non : ItemOk H n .non .none
  | bl : ItemOk H n (.bl true) (.bool true)
  | str : ItemOk H n (.str "text") (.str "text")
  | tup {t : Addr} (h : H t = some (.tup [.int 1, .int 2])) : ItemOk H n (.ref t) (.tuple [.int 1, .int 2])
  | lst {t : Addr} (h : H t = some (.lst [.int n])) : ItemOk H n (.ref t) (.list [.int n])
  | dic {t : Addr} (h : H t = some (.dK [(Sum.inl 1, .int n)])) : ItemOk H n (.ref t) (.dict [(.int 1, .int n)])
  | nil {t : Addr} (h : H t = some (.tup [])) : ItemOk H n (.ref t) (.tuple [])
theorem ItemOk.mono {H H' : Hp} {n : Int} {v : V} {d : PyData} (s : Same H H') (h : ItemOk H n v d) : ItemOk H' n v d := by
  cases h with
  | int => exact .int
  | non => exact .non
  | bl => exact .bl
  | str => exact .str
  | tup h => exact .tup (s _ _ h)
  | lst h => exact .lst (s _ _ h)
  | dic h => exact .dic (s _ _ h)
  | nil h => exact .nil (s _ _ h)
theorem ItemOk.rp {K : PySem.W.Frag} {H : Hp} {n : Int} {v : V} {d : PyData} (h : ItemOk H n v d) : Rp K H v d := by
  cases h with
  | int => exact .dp (.int n) rfl
  | non => exact .dp .non rfl
  | bl => exact .dp (.bl true) rfl
  | str => exact .dp (.str _) rfl
  | tup h => exact .dp (.tup (SqT.of h) (.cons (.int 1) (.cons (.int 2) .nil))) (by decide)
  | lst h => exact .dp (.lst (SqL.of h) (.cons (.int n) .nil)) rfl
  | dic h => exact .dic h
  | nil h => exact .dp (.tup (SqT.of h) .nil) rfl
theorem ItemOk.small {H : Hp} {n : Int} {v : V} {d : PyData} (h : ItemOk H n v d) (h0 : -500 ≤ n) (h1 : n < 1000000) : d.showable = true ∧ d.depth ≤ 60 ∧ d.shown.length ≤ sizeLine := by
  have hn : (toString n).length ≤ 8 := int_text_length_le10 (k := 7) (by decide) (by omega)
  have hl : n.natAbs.log2 < 1920 := Nat.lt_of_lt_of_le (PySem.Flt.log2_lt_of (k := 20) (by decide) (by omega)) (by decide)
  have hs : PyData.showable (.int n) = true := by
    show decide (n.natAbs.log2 < 1920) = true
    exact decide_eq_true hl
  have hz : (PyData.shown (.int n)).length ≤ 8 := by
    show (Str.ofString (toString n)).length ≤ 8
    rw [PySem.ofString_length]
    exact hn
  cases h with
  | int => exact ⟨hs, (show 0 ≤ 60 by decide), Nat.le_trans hz (by decide)⟩
  | non => exact ⟨rfl, by decide, by decide +kernel⟩
  | bl => exact ⟨rfl, by decide, by decide +kernel⟩
  | str => exact ⟨rfl, by decide, by decide +kernel⟩
  | tup h => exact ⟨by decide +kernel, by decide, by decide +kernel⟩
  | lst h =>
    refine ⟨by show (PyData.showable (.int n) && true) = true; rw [hs]; rfl, (show 0 + 1 ≤ 60 by decide), ?_⟩
    show (listText [PyData.shown (.int n)]).length ≤ sizeLine
    show ((((("[" : Str) ++ ("" : String)) ++ PyData.shown (.int n)) ++ "]" : Str)).length ≤ sizeLine
    rw [strLen_append, strLen_append, strLen_append]
    have e1 : ("[" : Str).length = 1 := rfl
    have e2 : ((("" : String) : Str)).length = 0 := rfl
    have e3 : ((("]" : String) : Str)).length = 1 := rfl
    rw [sizeLine_eq]
    omega
  | dic h =>
    refine ⟨by show (PyData.showable (.int 1) && PyData.showable (.int n) && true) = true; rw [hs]; rfl, (show 0 + 1 ≤ 60 by decide), ?_⟩
    show (dictText [PyData.shown (.int 1) ++ ": " ++ PyData.shown (.int n)]).length ≤ sizeLine
    show (((("{" : Str) ++ (PyData.shown (.int 1) ++ ": " ++ PyData.shown (.int n))) ++ "}" : Str)).length ≤ sizeLine
    rw [strLen_append, strLen_append, strLen_append, strLen_append]
    have e1 : ("{" : Str).length = 1 := rfl
    have e2 : (PyData.shown (.int 1)).length = 1 := by decide +kernel
    have e3 : (((": " : String) : Str)).length = 2 := rfl
    have e4 : ((("}" : String) : Str)).length = 1 := rfl
    rw [sizeLine_eq]
    omega
  | nil h => exact ⟨rfl, by decide, by decide +kernel⟩
/-- lists of bools as data -/
theorem canB : ∀ bs : List Bool, PyData.canLayAll0 (bs.map PyData.bool) = true
  | [] => rfl
  | b :: r => by
    show (PyData.canLay0 (.bool b) && PyData.canLayAll0 (r.map PyData.bool)) = true
    rw [canB r]
    rfl
theorem depB : ∀ bs : List Bool, PyData.depthAll (bs.map PyData.bool) = 0
  | [] => rfl
  | b :: r => by
    show max (PyData.depth (.bool b)) (PyData.depthAll (r.map PyData.bool)) = 0
    rw [depB r]
    rfl
theorem shapedB (bs : List Bool) : SeqAt.shaped (.list (bs.map PyData.bool)) = true := by
  show (PyData.canLayAll0 (bs.map PyData.bool) && decide (PyData.depthAll (bs.map PyData.bool) + 1 ≤ 64)) = true
  rw [canB, depB]
  rfl
theorem eqvB (bs : List Bool) : PyData.eqv (.list (bs.map PyData.bool)) (.list (bs.map PyData.bool)) = true := SeqAt.eqv_refl _ (canB bs)
theorem dpB {K : PySem.W.Frag} {H : Hp} : ∀ bs : List Bool, DpAll K H (bs.map V.bl) (bs.map PyData.bool)
  | [] => .nil
  | b :: r => .cons (.bl b) (dpB r)
theorem Same.updN {H H1 : Hp} {p : Addr} {o : HO} (s : Same H H1) (h : H p = none) : Same H (L2.upd H1 p o) := fun b u e => by
  rw [upd_ne (ne_of_none e h)]
  exact s b u e
theorem AllX.get {H : Hp} : ∀ {cs : List (Addr × List (Str × V))} {as : List (Addr × Addr)} {i : Nat} {a d : Addr}, AllX H cs as → as[i]? = some (a, d) → ∃ C fs, cs[i]? = some (C, fs) ∧ H a = some (exo a C (some d)) ∧ H d = some (exd d fs)
  | _, _, 0, _, _, .cons h _, e => by
    cases e
    exact ⟨_, _, rfl, h.1, h.2⟩
  | _, _, i + 1, _, _, .cons _ t, e => AllX.get (i := i) t e
end EX
set_option Elab.async false
set_option linter.all false
set_option maxRecDepth 100000
set_option maxHeartbeats 4000000
namespace EX
open PySem L2 PySem.Spec PyProof.Rows
/-! ### raising an own exception (below Exception) whose __init__ is walked -/
/-- what stands of an own exception class of one field f -/
structure XrAt (P : Program) (w : World) (K : PySem.W.Frag) (mg : Str → Option Value) (base : Heap) (x f : Str) (C : Addr) : Prop where
  T : EcC K C
  m : mg x = some (.ref C)
  tC : PySem.W.typeIn K (.ref C) = some (.type "type")
  no : PySem.W.findIn K (.ref C) f = some none
  ex : ∃ (fI : Addr) (fd : FuncData), PySem.W.findIn K (.ref C) "__init__" = some (some (.ref fI)) ∧ PySem.W.typeIn K (.ref fI) = some (.type "function") ∧ FnOk P w K mg base CX0 1 fI fd [("self" : Str), f] (spI1 K C f) ∧ Binds K fd [("self" : Str), f] []
/-- C(e), to be raised: its dict d is new and holds the field -/
def tMkR (C : Addr) (f : Str) (te : TE) : L2.St → Hp → XK → Prop := fun σ H Q => te σ H fun v H1 => ∀ d H', Same H1 H' → H1 d = none → H' d = some (.xd [(f, v)]) → Q (.ref C) (some d) H'
def one1 (R : V → Hp → Prop) : List V → Hp → Prop := fun vs H => match vs with
  | [v] => R v H
  | _ => False
section
variable {X : Cx} {e : Expr} {te : TE} {p pos kp : Pos} {x f : Str} {C : Addr} {W : WX}
theorem pmk_ec (D : XrAt X.prog X.w X.K X.mg X.base x f C) (hr : Room 2 X.A) (hg : Gl X x) (he : PE X e te)
    (hdb : (x == ("__debug__" : Str)) = false := by decide) (hse : starEach [e] X.env = (false, eval e X.env) :: starEach [] X.env := by rfl) (hpl : (backTo pos (starEach [] X.env)).any (·.1) = false := by rfl) :
    PMk X (.Call (.Name x p) [e] [] pos) (tMkR C f te) := by
  intro pins s σ H Q I h
  obtain ⟨fI, fd, iC, tI, F1, hb⟩ := D.ex
  have ha : PA X [e] (tCons te tNil) := pa_cons he pa_nil hse
  refine wpAny_Call_Name_kw (ld_glob I hg D.m (PySem.W.callWith_K (h₀ := X.base) I.ok.mod.kin D.T.kC (thn (ha.run pos pins s σ H (one1 fun v H1 => ∀ d H', Same H1 H' → H1 d = none → H' d = some (.xd [(f, v)]) → Q (.ref C) (some d) H') I h) ?_) hse hpl) hdb)
  intro us s1 ⟨vs, H1, I1, r1, q1⟩
  refine ⟨I1.kIn, (?_ : wpAny _ _ (call (.ref C) us) _ _ _)⟩
  obtain ⟨v, rfl⟩ : ∃ v, vs = [v] := by
    match vs, q1 with
    | [v], _ => exact ⟨v, rfl⟩
  replace q1 : ∀ d H', Same H1 H' → H1 d = none → H' d = some (.xd [(f, v)]) → Q (.ref C) (some d) H' := q1
  obtain ⟨u, rfl, ru⟩ := vals1 r1
  obtain ⟨nm, N', qn, bs, bm, hdct, sn, sub, ab, col, dd, k0, k1, k2, k3, k5, hC, hT⟩ := PySem.W.excInit_of I1.kIn D.T.ini
  obtain ⟨hp, g, dr, tk, os⟩ := s1
  have le1 : hp.objs.size ≤ hp.objs.size + 1 := Nat.le_succ _
  have new : H1 (hp.objs.size + 1) = none := I1.hok.fresh le1
  have grow : ∀ b o, hp.get? b = some o → ((hp.push (PySem.W.kdv_tup [u])).push (PySem.HandSPX.excO C hp.objs.size)).get? b = some o := fun b o z => Heap.get?_push_of_some _ (Heap.get?_push_of_some _ z)
  have there : ((hp.push (PySem.W.kdv_tup [u])).push (PySem.HandSPX.excO C hp.objs.size)).get? (hp.objs.size + 1) = some (PySem.HandSPX.excO C hp.objs.size) := by heap_get
  have I2 := I1.laid (t' := tk) (a := hp.objs.size + 1) (o := exo (hp.objs.size + 1) C none) (h' := (hp.push (PySem.W.kdv_tup [u])).push (PySem.HandSPX.excO C hp.objs.size)) grow le1 (exo_ok there)
  have r2 : Vals [V.ref (hp.objs.size + 1), v] [Value.ref (hp.objs.size + 1), u] := .cons rfl (.cons ru .nil)
  have hsp : spI1 X.K C f [V.ref (hp.objs.size + 1), v] (upd H1 (hp.objs.size + 1) (exo (hp.objs.size + 1) C none)) (fun w H2 => w = .non ∧ ∃ (d : Addr) (fs : List (Str × V)), H2 (hp.objs.size + 1) = some (exo (hp.objs.size + 1) C (some d)) ∧ H2 d = some (exd d fs) ∧ H1 d = none ∧ Q (.ref C) (some d) (upd (del H2 (hp.objs.size + 1)) d (.xd fs))) (fun _ _ _ => False) := by
    refine ⟨_, v, rfl, upd_same, fun d hd hne => ⟨rfl, d, [(f, v)], upd_same, ?_, ?_, ?_⟩⟩
    · rw [upd_ne hne, upd_same]
    · rw [upd_ne hne] at hd
      exact hd
    · rw [upd_ne hne] at hd
      refine q1 d _ (fun b o z => ?_) hd upd_same
      have nb : b ≠ hp.objs.size + 1 := ne_of_none z new
      rw [upd_ne (ne_of_none z hd), del_ne nb, upd_ne nb, upd_ne (ne_of_none z hd), upd_ne nb]
      exact z
  have hbt : BindsTo _ fd ⟨[Value.ref (hp.objs.size + 1), u], []⟩ ([("self" : Str), f].zip [Value.ref (hp.objs.size + 1), u]) := hb _ [Value.ref (hp.objs.size + 1), u] I2.kIn rfl
  refine wpAny_call (PySem.HandSPX.call_own PySem.F.excBase_Exception hT hC (PySem.W.looks_findIn I1.kIn iC) (fun self => PySem.W.bind_fn I1.kIn self tI) (by rw [sizeLine_eq]; show 1 ≤ _; omega) (codeAny_mono
    (F1.run _ X.stack _ _ ⟨[Value.ref (hp.objs.size + 1), u], []⟩ [Value.ref (hp.objs.size + 1), u] _ _ (fun _ _ _ => False) (hr.make C [u] []) (I2.env0.make C [u] []) hbt r2 hsp) ?_))
  rintro (er | fl) s' hq'
  · exact False.elim hq'
  · cases fl with
    | ret uu =>
      obtain ⟨w, H2, os2, bare2, un2, hok2, rv, ev, d, fs, ea, ed, hd1, q2⟩ := hq'
      subst ev
      obtain ⟨h2, g2, d2, t2, os'⟩ := s'
      exact ⟨rv, mk_end (raises_own D.T.exC D.tC) I1 le1 grow un2 hok2 os2 bare2 ea ed hd1 q2⟩
    | next => exact False.elim hq'
    | brk => exact False.elim hq'
    | cont => exact False.elim hq'
/-- raise C(e) -/
def tRaE (C : Addr) (f : Str) (te : TE) (W : WX) : TS := fun _ σ H => tMkR C f te σ H fun cls d H' => W cls d σ H'
theorem ps_raiseE (D : XrAt X.prog X.w X.K X.mg X.base x f C) (hr : Room 2 X.A) (hc : X.calm = true) (tk : Takes X W) (he : PE X e te) (hg : Gl X x := by rfl) (hdb : (x == ("__debug__" : Str)) = false := by decide)
    (hse : starEach [e] X.env = (false, eval e X.env) :: starEach [] X.env := by rfl) : PS X (.Raise (some (.Call (.Name x p) [e] [] pos)) none kp) (tRaE C f te W) := ps_raise hc tk (pmk_ec D hr hg he hdb hse (by rfl))
end

/-! ### except clauses, with and without names -/
/-- what a clause does: the class, the slot of its name, its suite -/
structure Cls1 where
  c : Value
  i : Option Nat
  ts : Addr → Value → Option Addr → TS
def slotIn (σ : L2.St) (i : Option Nat) (v : Option V) : L2.St := match i with
  | some j => σ.set j v
  | none => σ
def endsOut (D : Ends) (i : Option Nat) : Ends := { nx := fun σ' H' => D.nx (slotIn σ' i none) H', rt := D.rt, bk := fun σ' H' => D.bk (slotIn σ' i none) H', ct := fun σ' H' => D.ct (slotIn σ' i none) H' }
def wCls (K : PySem.W.Frag) (Wout : WX) (D : Ends) : List Cls1 → WX
  | [] => Wout
  | q :: r => fun cls d σ H => ∃ b, PySem.W.exmOne K cls q.c = some b ∧ (b = true → ∀ a, H a = none → q.ts a cls d (endsOut D q.i) (slotIn σ q.i (some (.ref a))) H) ∧ (b = false → wCls K Wout D r cls d σ H)
inductive ClsOk (X : Cx) : List ExceptHandler → List Cls1 → Prop
  | nil : ClsOk X [] []
  | bare {x : Str} {c : Value} {ts : Addr → Value → Option Addr → TS} {b₀ : Stmt} {suite : List Stmt} {np pos' : Pos} {hds : List ExceptHandler} {l : List Cls1} (hc : Names X x c)
      (hsu : ∀ (a : Addr) (oe : Obj) (cls : Value) (d : Option Addr) (pn : List (Addr × Obj)), Zc cls d oe → (∃ vs, oe.data = .fields vs) → PSs (X.suite a ((a, oe) :: pn)) (b₀ :: suite) (ts a cls d)) (r : ClsOk X hds l) :
      ClsOk X (.ExceptHandler (some (.Name x np)) none (b₀ :: suite) pos' :: hds) (⟨c, none, ts⟩ :: l)
  | as {x n : Str} {i : Nat} {c : Value} {ts : Addr → Value → Option Addr → TS} {b₀ : Stmt} {suite : List Stmt} {np pos' : Pos} {hds : List ExceptHandler} {l : List Cls1} (hc : Names X x c) (hi : X.N[i]? = some n) (hln : X.env.kindOf n = some .local)
      (hsu : ∀ (a : Addr) (oe : Obj) (cls : Value) (d : Option Addr) (pn : List (Addr × Obj)), Zc cls d oe → (∃ vs, oe.data = .fields vs) → PSs (X.suite a ((a, oe) :: pn)) (b₀ :: suite) (ts a cls d)) (r : ClsOk X hds l) :
      ClsOk X (.ExceptHandler (some (.Name x np)) (some n) (b₀ :: suite) pos' :: hds) (⟨c, some i, ts⟩ :: l)
section
variable {X : Cx} {body : List Stmt} {h₀ : ExceptHandler} {hds : List ExceptHandler} {l : List Cls1} {pos : Pos} {tb : WX → TS} {Wout : WX}
theorem ps_try_cls (hs : X.stack = X.env :: X.outer) (hf : X.env.frame = some X.env.locals) (hN : X.N.Nodup) (tk : Takes X Wout)
    (hb : ∀ (W : WX) (pn : List (Addr × Obj)) (xe : Value → Shared → Prop), Takes (X.tr pn xe) W → PassesOwn (model X.prog X.w) X.A X.env xe → PSs (X.tr pn xe) body (tb W))
    (hh : ClsOk X (h₀ :: hds) l) : PS X (.Try body (h₀ :: hds) [] [] pos) (fun D σ H => tb (wCls X.K Wout D l) D σ H) := by
  refine ⟨fun pins s σ H D I h => ?_⟩
  have ok := I.ok
  have hfr : X.A.frames = some (X.env :: X.outer) := by rw [ok.frames, hs]
  refine wpAny_Try_except (wpAny_mono ((hb (wCls X.K Wout D l) (X.pn ++ pins) (fun e s₁ => wpAny (model X.prog X.w) X.A (noteFrame e X.env) (fun _ s₂ => wpAny (model X.prog X.w) X.A (setFlight e none) (fun _ s₃ =>
    wpAny (model X.prog X.w) X.A (handleBy e X.env (h₀ :: hds)) (SP X pins D) X.xe s₃) X.xe s₂) X.xe s₁) (fun u s' xx => ?_) PassesOwn.looking).run [] s σ H D (I.toTry _) h) (fun f s1 hsp => ?_) (fun e s1 he => he))
  · -- it is caught here: the frame is noted, then the clauses are tried
    obtain ⟨a, B, sI, pins', σ', H', cls, d, rfl, J', nb, up, sky, na, os, ag, w⟩ := xx
    have J : Inv X pins σ' H' sI := J'.ofTry ok
    rw [show (X.tr (X.pn ++ pins) _).stack = X.env :: X.outer from hs] at sky
    refine Sky.land Zc.steady hfr hf sky fun h3 fl3 up3 => ?_
    have J3 : Inv X pins σ' H' { s' with heap := h3 } := J.landed nb fl3.1 (up.trans up3) os ag
    obtain ⟨oe3, vs3, he3, hz3, hd3⟩ := fl3.there
    have nfr : a ∉ frs (X.env :: X.outer) := fun hm => by
      obtain ⟨_, o', e', hnf⟩ := fl3.2.2.1.mem hm
      rw [he3] at e'
      cases e'
      exact hnf _ hd3
    have nL : a ≠ X.env.locals := fun z => nfr (List.mem_filterMap.mpr ⟨X.env, List.mem_cons_self, by rw [hf, z]⟩)
    have nF : a ∉ X.fs := fun hm => by
      obtain ⟨ev, hev, q⟩ := List.mem_filterMap.mp hm
      exact nfr (List.mem_filterMap.mpr ⟨ev, List.mem_cons_of_mem _ hev, q⟩)
    have S3 := J3.suite he3 hd3 na nL nF
    have LT : PySem.W.Looks (model X.prog X.w) h3 (typeOf (.ref a)) cls := fun A Q E s k q => wpAny_typeOf_ref (k _ _ he3) (by rw [hz3.1]; exact q)
    have test : ∀ {x : Str} {c : Value} {np : Pos} {Q : Value → Shared → Prop} {E : Value → Shared → Prop}, Names X x c → Q c { s' with heap := h3 } → wpAny (model X.prog X.w) (X.A.mark (some (.ref a))) (eval (.Name x np) X.env) Q E { s' with heap := h3 } := by
      intro x c np Q E hc q
      obtain ⟨hg, hdbg, hm | ⟨hm, hv, hnn⟩⟩ := hc
      · exact ld_glob (X := X.suite a ((a, oe3) :: (X.pn ++ pins))) S3 hg hm q hdbg
      · exact ld_blt (X := X.suite a ((a, oe3) :: (X.pn ++ pins))) S3 hg hm hv q hnn hdbg
    -- no clause takes it: it flies on
    have out : Wout cls d σ' H' → wpAny (model X.prog X.w) X.A (handleBy (.ref a) X.env []) (SP X pins D) X.xe { s' with heap := h3 } := by
      intro w
      refine wpAny_handleBy_nil ?_
      obtain ⟨k1, k2, k3, oe, vs, T, oT, ts', he, hz, hd, h1, hr⟩ := id fl3
      unfold PySem.passOn
      refine wpAny_bind (wpAny_field he hd h1 ?_)
      rw [if_neg (show ¬ ((Value.ref T == Value.none) = true) from by simp)]
      have fin : wpAny (model X.prog X.w) X.A (setFlight (.ref a) X.env.frame) (fun _ s4 => wpAny (model X.prog X.w) X.A (throw (.ref a) : Sem Flow) (SP X pins D) X.xe s4) X.xe { s' with heap := h3 } := by
        rw [hf]
        exact HandSPX.setFlight_upZ fl3 fun h4 hh4 up4 => wpAny_throw (tk _ _ ⟨a, B, sI, pins, σ', H', cls, d, rfl, J, nb, (up.trans up3).trans up4, .inr (.inr (by rw [hs]; exact hh4)), na, os, ag, w⟩)
      first
        | exact wpAny_bind (wpAny_pure (wpAny_bind fin))
        | exact wpAny_bind fin
    have go : ∀ {hds' : List ExceptHandler} {l' : List Cls1}, ClsOk X hds' l' → wCls X.K Wout D l' cls d σ' H' → wpAny (model X.prog X.w) X.A (handleBy (.ref a) X.env hds') (SP X pins D) X.xe { s' with heap := h3 } := by
      intro hds' l' hk
      induction hk with
      | nil => exact out
      | @bare x c ts b₀ suite np pos' hds2 l2 hc hsu r ih =>
        intro w
        obtain ⟨b, hb1, hyes, hno⟩ := w
        refine wpAny_handleBy_cons (codeAny_handlers_test (test hc ((PySem.W.exm_one (M := model X.prog X.w) (J3.kIn) LT hb1).here ?_))) (by intro q; cases q)
        cases b with
        | false => exact ih (hno rfl)
        | true =>
          refine codeAny_handlers_suite (HandSPX.lands_againZ fl3 fun h4 fl4 up4 => ?_)
          have J4 : Inv X pins σ' H' { s' with heap := h4 } := J.landed nb fl4.1 ((up.trans up3).trans up4) os ag
          obtain ⟨oe4, vs4, he4, hz4, hd4⟩ := fl4.there
          refine wpAny_mono ((hsu a oe4 cls d (X.pn ++ pins) hz4 ⟨_, hd4⟩).run [] _ _ H' _ (J4.suite he4 hd4 na nL nF) (hyes rfl a na)) (fun f s6 hsp => ?_) (fun _ _ z => False.elim z)
          cases f with
          | ret u =>
            obtain ⟨v6, σ6, H6, S6, r6, q6⟩ := hsp
            exact ⟨_, _, _, S6.unsuite ok, r6, q6⟩
          | next => exact let ⟨σ6, H6, S6, q6⟩ := hsp; ⟨_, _, S6.unsuite ok, q6⟩
          | brk => exact let ⟨σ6, H6, S6, q6⟩ := hsp; ⟨_, _, S6.unsuite ok, q6⟩
          | cont => exact let ⟨σ6, H6, S6, q6⟩ := hsp; ⟨_, _, S6.unsuite ok, q6⟩
      | @as x n i c ts b₀ suite np pos' hds2 l2 hc hi hln hsu r ih =>
        intro w
        obtain ⟨b, hb1, hyes, hno⟩ := w
        refine wpAny_handleBy_cons (codeAny_handlers_test (test hc ((PySem.W.exm_one (M := model X.prog X.w) (J3.kIn) LT hb1).here ?_))) (by intro q; cases q)
        cases b with
        | false => exact ih (hno rfl)
        | true =>
          refine codeAny_handlers_suite_as (HandSPX.lands_againZ fl3 fun h4 fl4 up4 => ?_)
          have J4 : Inv X pins σ' H' { s' with heap := h4 } := J.landed nb fl4.1 ((up.trans up3).trans up4) os ag
          obtain ⟨oe4, vs4, he4, hz4, hd4⟩ := fl4.there
          have S4 := J4.suite he4 hd4 na nL nF
          refine store_ok (X := X.suite a ((a, oe4) :: (X.pn ++ pins))) (v := .ref a) S4 hN hi (.inl hln) rfl (fun s5 S5 => ?_) (.inr hln)
          refine wpAny_mono ((hsu a oe4 cls d (X.pn ++ pins) hz4 ⟨_, hd4⟩).run [] s5 _ H' _ S5 (hyes rfl a na)) (fun f s6 hsp => ?_) (fun _ _ z => False.elim z)
          have last : ∀ {σ6 : L2.St} {H6 : Hp} {Q : Shared → Prop}, Inv (X.suite a ((a, oe4) :: (X.pn ++ pins))) [] σ6 H6 s6 → (∀ s7, Inv X pins (σ6.set i none) H6 s7 → Q s7) →
              wpAny (model X.prog X.w) X.A (do bindName X.env n .none; unbindBehindTheSuite X.env n pos') (fun _ s7 => Q s7) X.xe s6 := fun S6 hq => gone_ok (S6.unsuite ok) hN hi hln hq
          cases f with
          | ret u =>
            obtain ⟨v6, σ6, H6, S6, r6, q6⟩ := hsp
            exact last S6 fun s7 J7 => ⟨_, _, _, J7, r6, q6⟩
          | next => exact let ⟨σ6, H6, S6, q6⟩ := hsp; last S6 fun s7 J7 => ⟨_, _, J7, q6⟩
          | brk => exact let ⟨σ6, H6, S6, q6⟩ := hsp; last S6 fun s7 J7 => ⟨_, _, J7, q6⟩
          | cont => exact let ⟨σ6, H6, S6, q6⟩ := hsp; last S6 fun s7 J7 => ⟨_, _, J7, q6⟩
    exact go hh w
  · cases f with
    | ret u => exact let ⟨v, σ', H', J', r, q⟩ := hsp; ⟨v, σ', H', J'.ofTry ok, r, q⟩
    | next => exact let ⟨σ', H', J', q⟩ := hsp; wpAny_execs_nil ⟨σ', H', J'.ofTry ok, q⟩
    | brk => exact let ⟨σ', H', J', q⟩ := hsp; ⟨σ', H', J'.ofTry ok, q⟩
    | cont => exact let ⟨σ', H', J', q⟩ := hsp; ⟨σ', H', J'.ofTry ok, q⟩
end
/-! ### in a suite: the caught error's field, isinstance of it -/
theorem EcC.xf {K : PySem.W.Frag} {C : Addr} (T : EcC K C) : XfC K C := ⟨T.ga, T.gg, T.exC, T.hdC⟩
/-- isinstance(e, c), e caught -/
def rIsS (K : PySem.W.Frag) (a : Addr) (cls : Value) : List V → Hp → VK → Prop := fun xs H Q => ∃ (C dd : Addr) (fs : List (Str × V)) (c : V) (cv : Value) (b : Bool), xs = [.ref a, c] ∧ cls = .ref C ∧ EcC K C ∧ H dd = some (.xd fs) ∧ ClsV c cv ∧ PySem.W.kitOne K (.ref C) cv = some b ∧ Q (.bl b) H
theorem call_isS {X : Cx} {a dd : Addr} {cls : Value} {oe : Obj} {pn : List (Addr × Obj)} (hz : Zc cls (some dd) oe) (hf : ∃ vs, oe.data = .fields vs) :
    CallR (X.suite a ((a, oe) :: pn)) (.builtin "isinstance") (fun xs H Q => ∃ (C : Addr) (fs : List (Str × V)) (c : V) (cv : Value) (b : Bool), xs = [.ref a, c] ∧ cls = .ref C ∧ EcC X.K C ∧ H dd = some (.xd fs) ∧ ClsV c cv ∧ PySem.W.kitOne X.K (.ref C) cv = some b ∧ Q (.bl b) H) := by
  intro pins s σ H xs us Q I r h
  obtain ⟨C, fs, c, cv, b, rfl, rfl, T, ed, kc, e, q⟩ := h
  obtain ⟨u1, u2, rfl, r1, r2⟩ := vals2 r
  obtain rfl := kc.eq r2
  obtain rfl : u1 = Value.ref a := r1
  obtain ⟨ha, _⟩ := I.pin (a, oe) (List.mem_append_left _ List.mem_cons_self)
  obtain ⟨vs, hd⟩ := hf
  obtain ⟨mA, hns, hr⟩ := (show ObjOk X.prog X.w H s.heap dd (.xd fs) from I.hok dd _ ed)
  obtain ⟨od, ho, hl⟩ := lookIn_ns hns
  have J : PySem.W.InstAt s.heap a oe C (some od) := ⟨ha, hz.1, by unfold PySem.W.notCls; rw [hd] <;> rfl, by rw [hz.2]; exact ho⟩
  exact PySem.W.kia_one (kit_exc T (od := some od)) I.kIn J e (fun z => nomatch z) fun tk => ⟨.bl b, H, I.tok tk, rfl, q⟩
end EX
set_option Elab.async false
set_option linter.all false
set_option maxRecDepth 100000
set_option maxHeartbeats 4000000
namespace EX
open PySem L2 PySem.Spec PyProof.Rows
/-! ### operators of own classes -/
/-- the class at C has the method nm, whose def keeps sp -/
structure Dun (P : Program) (w : World) (K : PySem.W.Frag) (mg : Str → Option Value) (base : Heap) (CX : CXT) (k : Nat) (C : Addr) (nm : Str) (ps : List Str) (sp : Sp) : Prop where
  ex : ∃ (f : Addr) (fd : FuncData), PySem.W.findIn K (.ref C) nm = some (some (.ref f)) ∧ PySem.W.isFn K (.ref f) = true ∧ PySem.W.fnIn K f = true ∧ FnOk P w K mg base CX k f fd ps sp ∧ Binds K fd ps []
section
variable {X : Cx} {CX : CXT} {k : Nat} {C : Addr} {nm : Str} {ps : List Str} {sp : Sp} {E : XK} {pins : List (Addr × Obj)} {σ : L2.St} {H : Hp} {s : Shared}
theorem vref (a : Addr) : RelV (.ref a) (.ref a) := rfl
/-- a def run at A, which stands at the frames of X -/
theorem run_in {A : Around} {f : Addr} {fd : FuncData} {Q : VK} {us : List Value} {vs : List V} (F : FnOk X.prog X.w X.K X.mg X.base CX k f fd ps sp) (hr : Room k A) (e0 : Env0 X.prog X.w X.K X.mg X.base A X.stack s H) (hb : Binds X.K fd ps []) (hx : Passes CX X E)
    (I : Inv X pins σ H s) (r : Vals vs us) (h : sp vs H Q E) : wpAny (model X.prog X.w) A (call (.ref f) us) (EP X pins σ Q) X.xe s := by
  have hl : us.length = ps.length := by rw [← r.length]; exact F.len _ _ _ _ h
  have b : BindsTo s fd ⟨us, []⟩ (ps.zip us) := by
    have := hb s us I.kIn (by rw [List.append_nil]; exact hl)
    rwa [List.append_nil] at this
  refine wpAny_call (codeAny_mono (F.run A X.stack s H ⟨us, []⟩ us vs Q E hr e0 b r h) ?_)
  rintro (e | fl) s' hq
  · exact hx pins σ H s e s' I hq
  · cases fl with
    | ret u => exact I.after hq
    | next => exact False.elim hq
    | brk => exact False.elim hq
    | cont => exact False.elim hq
theorem inst_at {a dx : Addr} {fs : List (Str × V)} (I : Inv X pins σ H s) (e : H a = some (.ins C dx fs)) : ∃ od, PySem.W.InstAt s.heap a (PySem.W.instObj C dx) C (some od) := by
  obtain ⟨mA, O, _⟩ := ins_get I.hok e
  obtain ⟨od, J, _⟩ := O.look
  exact ⟨od, J⟩
/-- o[i] -/
def tGetO (C : Addr) (sp : Sp) (E : XK) (to ti : TE) : TE := fun σ H Q => to σ H fun x H1 => ti σ H1 fun y H2 => ∃ a dx fs, x = .ref a ∧ H2 a = some (.ins C dx fs) ∧ sp [.ref a, y] H2 Q E
theorem pe_getO {o i : Expr} {to ti : TE} {pos : Pos} (D : Dun X.prog X.w X.K X.mg X.base CX k C "__getitem__" ps sp) (hr : Room (k + 1) X.A) (hx : Passes CX X E) (ho : PE X o to) (hi : PE X i ti)
    (hsl : ∀ x y, subscripted i true x y = runValue (.builtin "lifetime.subscript" ⟨[x, y], []⟩) := by intro _ _; with_unfolding_all rfl) : PE X (.Subscript o i pos) (tGetO C sp E to ti) := by
  refine ⟨fun pins s σ H Q I h => Subscript_ (binT ho hi I h ?_)⟩
  intro v u s2 x y H2 I2 rx ry ⟨a, dx, fs, ex, ea, q⟩
  subst ex
  obtain rfl : v = Value.ref a := rx
  obtain ⟨f, fd, at_, hf, hfi, F, hb⟩ := D.ex
  obtain ⟨od, J⟩ := inst_at I2 ea
  obtain ⟨m, hF⟩ := I2.fr
  exact PySem.W.sub_K hF I2.ok.mod.kin J at_ hfi hf (run_in F hr.in1 I2.env0.in1 hb hx I2 (.cons (vref a) (.cons ry .nil)) q) (hsl _ _)
/-- k in o, k not in o; the method hands back a bool -/
def rInO (C : Addr) (sp : Sp) (E : XK) (neg : Bool) : R2 := fun y x H Q => ∃ a dx fs, x = .ref a ∧ H a = some (.ins C dx fs) ∧ sp [.ref a, y] H (fun z H' => ∃ b, z = .bl b ∧ Q (.bl (if neg then !b else b)) H') E
theorem op_inO (D : Dun X.prog X.w X.K X.mg X.base CX k C "__contains__" ps sp) (hr : Room k X.A) (hx : Passes CX X E) : OpR X (compareOp .In) (rInO C sp E false) := by
  intro pins s σ H y x u v Q I ry rx h
  obtain ⟨a, dx, fs, ex, ea, q⟩ := h
  subst ex
  obtain rfl : v = Value.ref a := rx
  obtain ⟨f, fd, at_, hf, hfi, F, hb⟩ := D.ex
  obtain ⟨od, J⟩ := inst_at I ea
  obtain ⟨m, hF⟩ := I.fr
  refine PySem.W.in_K hF I.ok.mod.kin J at_ hf (thn (run_in F hr I.env0 hb hx I (.cons (vref a) (.cons ry .nil)) q) ?_)
  rintro r s1 ⟨z, H1, I1, rz, b, rfl, q1⟩
  obtain rfl : r = Value.bool b := rz
  exact wpAny_truthy_bool ⟨.bl b, H1, I1, rfl, q1⟩
theorem op_notInO (D : Dun X.prog X.w X.K X.mg X.base CX k C "__contains__" ps sp) (hr : Room k X.A) (hx : Passes CX X E) : OpR X (compareOp .NotIn) (rInO C sp E true) := by
  intro pins s σ H y x u v Q I ry rx h
  obtain ⟨a, dx, fs, ex, ea, q⟩ := h
  subst ex
  obtain rfl : v = Value.ref a := rx
  obtain ⟨f, fd, at_, hf, hfi, F, hb⟩ := D.ex
  obtain ⟨od, J⟩ := inst_at I ea
  obtain ⟨m, hF⟩ := I.fr
  refine PySem.W.notIn_K hF I.ok.mod.kin J at_ hf (thn (run_in F hr I.env0 hb hx I (.cons (vref a) (.cons ry .nil)) q) ?_)
  rintro r s1 ⟨z, H1, I1, rz, b, rfl, q1⟩
  obtain rfl : r = Value.bool b := rz
  exact wpAny_truthy_bool ⟨.bl (!b), H1, I1, rfl, q1⟩
/-- the type of any value, as the library looks at it -/
theorem tyx_looks {x : V} {u t : Value} (I : Inv X pins σ H s) (rx : RelV x u) (ty : TyX X.K H x t) : PySem.W.Looks (model X.prog X.w) s.heap (typeOf u) t := by
  obtain ⟨P, Z, p, _⟩ := kit_of I rx ty
  exact Z.ty _ _ I.kIn p
/-- x == y by x's own method; y anything whose type is not below x's class -/
def rEqO (K : PySem.W.Frag) (C : Addr) (sp : Sp) (E : XK) : R2 := fun x y H Q => ∃ a dx fs t, x = .ref a ∧ H a = some (.ins C dx fs) ∧ TyX K H y t ∧ PySem.W.notFirst K C t = true ∧ sp [.ref a, y] H Q E
theorem op_eqO (D : Dun X.prog X.w X.K X.mg X.base CX k C "__eq__" ps sp) (hr : Room k X.A) (hx : Passes CX X E) : OpR X (compareOp .Eq) (rEqO X.K C sp E) := by
  intro pins s σ H x y v u Q I rx ry h
  obtain ⟨a, dx, fs, t, ex, ea, ty, hn, q⟩ := h
  subst ex
  obtain rfl : v = Value.ref a := rx
  obtain ⟨f, fd, at_, hf, hfi, F, hb⟩ := D.ex
  obtain ⟨od, J⟩ := inst_at I ea
  obtain ⟨m, hF⟩ := I.fr
  refine PySem.W.cmp_K (op := .Eq) hr.units0 hF I.ok.mod.kin J (tyx_looks I ry ty) hn at_ hf (wpAny_mono (run_in F hr I.env0 hb hx I (.cons (vref a) (.cons ry .nil)) q) ?_ fun _ _ z => z)
  rintro r s1 ⟨z, H1, I1, rz, q1⟩
  exact SlX.cmpback rz ⟨z, H1, I1, rz, q1⟩
/-- x != y where the class has its own == alone: the other answer -/
def rNeO (K : PySem.W.Frag) (C : Addr) (sp : Sp) (E : XK) : R2 := fun x y H Q => ∃ a dx fs t, x = .ref a ∧ H a = some (.ins C dx fs) ∧ TyX K H y t ∧ PySem.W.notFirst K C t = true ∧ sp [.ref a, y] H (fun z H' => ∃ b, z = .bl b ∧ Q (.bl (!b)) H') E
/-- what != asks of the class -/
structure NeC (K : PySem.W.Frag) (C : Addr) : Prop where
  ne : PySem.W.findIn K (.ref C) "__ne__" = some (some (.builtin "object.__ne__"))
  ob : PySem.W.mroIn K C (.type "object") = some true
theorem op_neO (D : Dun X.prog X.w X.K X.mg X.base CX k C "__eq__" ps sp) (N : NeC X.K C) (hr : Room (k + 1) X.A) (hx : Passes CX X E) : OpR X (compareOp .NotEq) (rNeO X.K C sp E) := by
  intro pins s σ H x y v u Q I rx ry h
  obtain ⟨a, dx, fs, t, ex, ea, ty, hn, q⟩ := h
  subst ex
  obtain rfl : v = Value.ref a := rx
  obtain ⟨f, fd, at_, hf, hfi, Fn, hb⟩ := D.ex
  obtain ⟨od, J⟩ := inst_at I ea
  have KX := I.kIn
  have LTy := tyx_looks I ry ty
  have call1 := run_in Fn hr.in1 I.env0.in1 hb hx I (.cons (vref a) (.cons ry .nil)) q
  have sub : PySem.W.Looks (model X.prog X.w) s.heap (isInstance (.ref a) (.type "object")) true := J.type.andThen (PySem.W.looks_mroIn KX N.ob)
  have entry : wpAny (model X.prog X.w) X.A.in1 (Builtin.«object.__ne__» ⟨[.ref a, u], []⟩) (fun fin s' => ∃ b, fin = .done (.ret (.bool b)) ∧ EP X pins σ Q (.bool b) s') X.xe s := by
    unfold Builtin.«object.__ne__»
    refine wpAny_bind (wpAny_of_eq (a := ((Value.ref a : Value), [u])) (by first | rfl | (simp only [slotArgs]; rfl)) ?_)
    refine wpAny_bind (wpAny_cRoomFor hr.in1.units0 ?_)
    refine wpAny_bind (PySem.W.ifBound_K KX J at_ hf (wpAny_mono call1 ?_ fun _ _ z => z))
    rintro r s1 ⟨z, H1, I1, rz, b, rfl, q1⟩
    obtain rfl : r = Value.bool b := rz
    exact wpAny_bind (wpAny_truthy_bool (wpAny_pure ⟨!b, rfl, .bl (!b), H1, I1, rfl, q1⟩))
  have one : wpAny (model X.prog X.w) X.A (tryCompare (.ref a) "__ne__" u) (fun r s' => ∃ b, r = some (.bool b) ∧ EP X pins σ Q (.bool b) s') X.xe s := by
    unfold tryCompare
    have bnd : wpAny (model X.prog X.w) X.A (call (.builtin "object.__ne__") [.ref a, u]) (fun r s' => ∃ b, r = .bool b ∧ EP X pins σ Q (.bool b) s') X.xe s := by
      refine wpAny_call (codeAny_call_builtin PySem.F.cmp_object.ne.plain PySem.F.cmpEntry_ne (PySem.W.check_slot PySem.F.cmpKind_ne PySem.F.cmpSplit_ne sub (PySem.F.cmpArgs_ne _ _) (wpAny_mono entry ?_ fun _ _ z => z)))
      rintro fin s1 ⟨b, rfl, e⟩
      exact ⟨b, rfl, e⟩
    refine wpAny_bind (m := callSpecialIfBound? (.ref a) "__ne__" [u]) ?_
    simp only [callSpecialIfBound?, bindSpecialIfBound?]
    refine wpAny_holding (wpAny_bind (wpAny_bind (wpAny_bind (J.type.here ((PySem.W.looks_findIn KX N.ne).here ?_)))))
    simp only [PySem.F.cmp_object.ne.bind]
    refine wpAny_bind (wpAny_askSetting (wpAny_ite ?_))
    have fin : wpAny (model X.prog X.w) X.A (call (.builtin "object.__ne__") ([.ref a] ++ [u]) >>= fun v => pure (some v)) (fun r s' => wpAny (model X.prog X.w) X.A (match r with | some .notImplemented | none => pure none | some v => pure (some v)) (fun r s' => ∃ b, r = some (.bool b) ∧ EP X pins σ Q (.bool b) s') X.xe s') X.xe s := by
      refine wpAny_bind (wpAny_mono bnd ?_ fun _ _ z => z)
      rintro r s1 ⟨b, rfl, e⟩
      exact wpAny_pure (wpAny_pure ⟨b, rfl, e⟩)
    split
    · first | exact fin | exact wpAny_pure (by exact fin) | exact wpAny_bind (wpAny_pure (by exact fin))
    · first | exact wpAny_tryCatch fin | exact wpAny_tryCatch (wpAny_pure (by exact fin)) | exact wpAny_tryCatch (wpAny_bind (wpAny_pure (by exact fin)))
  show wpAny _ _ (richCompare .NotEq (.ref a) u) _ _ _
  unfold richCompare
  simp only [oneThing_ref]
  refine wpAny_holding (wpAny_bind (wpAny_cRoomFor hr.units0 ?_))
  refine wpAny_bind (J.type.here (wpAny_bind (LTy.here ?_)))
  have tail : ∀ {R : Value → Shared → Prop}, (∀ b s', EP X pins σ Q (.bool b) s' → R (.bool b) s') → True := fun _ => trivial
  split
  · rename_i hne
    have e : PySem.W.subIn X.K t (.ref C) = some false := by
      rcases Bool.or_eq_true_iff.mp hn with e | e
      · rw [beq_iff_eq.mp e] at hne
        simp at hne
      · exact beq_iff_eq.mp e
    refine wpAny_bind ((PySem.W.looks_subIn KX e).here ?_)
    simp only [Bool.false_eq_true, if_false]
    refine wpAny_bind (wpAny_mono one ?_ fun _ _ z => z)
    rintro r s1 ⟨b, rfl, q1⟩
    exact wpAny_pure q1
  · refine wpAny_bind (wpAny_pure ?_)
    simp only [Bool.false_eq_true, if_false]
    refine wpAny_bind (wpAny_mono one ?_ fun _ _ z => z)
    rintro r s1 ⟨b, rfl, q1⟩
    exact wpAny_pure q1
/-- truth by an own __bool__ -/
theorem tru_own (D : Dun X.prog X.w X.K X.mg X.base CX k C "__bool__" ps sp) (hr : Room k X.A) (hx : Passes CX X E) : TruR X (fun x H Q => ∃ a dx fs, x = .ref a ∧ H a = some (.ins C dx fs) ∧ sp [.ref a] H (fun z H' => ∃ b, z = .bl b ∧ Q b H') E) := by
  intro pins s σ H x v Q I rx h
  obtain ⟨a, dx, fs, ex, ea, q⟩ := h
  subst ex
  obtain rfl : v = Value.ref a := rx
  obtain ⟨f, fd, at_, hf, hfi, F, hb⟩ := D.ex
  obtain ⟨od, J⟩ := inst_at I ea
  obtain ⟨m, hF⟩ := I.fr
  refine PySem.W.truthy_K hF I.ok.mod.kin J at_ hf (wpAny_mono (run_in F hr I.env0 hb hx I (.cons (vref a) .nil) q) ?_ fun _ _ z => z)
  rintro r s1 ⟨z, H1, I1, rz, b, rfl, q1⟩
  obtain rfl : r = Value.bool b := rz
  exact ⟨H1, I1, q1⟩
/-- len(o) -/
def rLenO (C : Addr) (sp : Sp) (E : XK) : List V → Hp → VK → Prop := fun xs H Q => ∃ a dx fs, xs = [.ref a] ∧ H a = some (.ins C dx fs) ∧ sp [.ref a] H (fun z H' => ∃ n : Int, z = .int n ∧ 0 ≤ n ∧ n < 2 ^ 63 ∧ Q (.int n) H') E
theorem call_lenO (D : Dun X.prog X.w X.K X.mg X.base CX k C "__len__" ps sp) (hr : Room (k + 1) X.A) (hx : Passes CX X E) : CallR X (.builtin "len") (rLenO C sp E) := by
  intro pins s σ H xs us Q I r h
  obtain ⟨a, dx, fs, rfl, ea, q⟩ := h
  obtain ⟨u, rfl, ru⟩ := vals1 r
  obtain rfl : u = Value.ref a := ru
  obtain ⟨f, fd, at_, hf, hfi, F, hb⟩ := D.ex
  obtain ⟨od, J⟩ := inst_at I ea
  obtain ⟨m, hF⟩ := I.fr
  refine PySem.W.len_K hF I.ok.mod.kin J at_ hf (wpAny_mono (run_in F hr.in1 I.env0.in1 hb hx I (.cons (vref a) .nil) q) ?_ fun _ _ z => z)
  rintro r s1 ⟨z, H1, I1, rz, n, rfl, h0, h1, q1⟩
  obtain ⟨t, rfl⟩ : ∃ t, r = Value.int n t := rz
  exact ⟨⟨h0, h1⟩, .int n, H1, I1.tok _, ⟨_, rfl⟩, q1⟩
/-- a test by truth, the rule given -/
theorem pt_tru {e : Expr} {te : TE} {r : V → Hp → (Bool → Hp → Prop) → Prop} (hr : TruR X r) (he : PE X e te) (hw : ∀ whole, isTrue e X.env whole = (do let v ← whole; standAt e.pos; holding [v] (truthy v)) := by intro _; rfl) : PT X e (fun σ H Q => te σ H fun x H' => r x H' Q) := by
  refine ⟨fun pins s σ H Q I h => isTrue_plain (thn (he.run pins s σ H _ I h) ?_) (hw _)⟩
  rintro v s1 ⟨x, H1, I1, r1, q1⟩
  exact hr pins s1 σ H1 x v Q I1 r1 q1
end
end EX
set_option Elab.async false
set_option linter.all false
set_option maxRecDepth 100000
set_option maxHeartbeats 4000000
namespace EX
open PySem L2 PySem.Spec PyProof.Rows
/-! ### data of any depth, dicts among them; repr -/
def keyD : Key → PyData
  | .inl i => .int i
  | .inr x => .str x
mutual
/-- the value v is the data d: lists, tuples, dicts (keys ints and texts) of such -/
inductive Dq (K : PySem.W.Frag) (H : Hp) : V → PyData → Prop
  | non : Dq K H .non .none
  | bl (b : Bool) : Dq K H (.bl b) (.bool b)
  | int (i : Int) : Dq K H (.int i) (.int i)
  | str (x : Str) : Dq K H (.str x) (.str x)
  | lst {a : Addr} {xs : List V} {ds : List PyData} : SqL K H a xs → DqAll K H xs ds → Dq K H (.ref a) (.list ds)
  | tup {a : Addr} {xs : List V} {ds : List PyData} : SqT K H a xs → DqAll K H xs ds → Dq K H (.ref a) (.tuple ds)
  | dic {a : Addr} {kvs : List (Key × V)} {ds : List PyData} : H a = some (.dK kvs) → DqAll K H (kvs.map (·.2)) ds → Dq K H (.ref a) (.dict ((kvs.map fun p => keyD p.1).zip ds))
inductive DqAll (K : PySem.W.Frag) (H : Hp) : List V → List PyData → Prop
  | nil : DqAll K H [] []
  | cons {v : V} {vs : List V} {d : PyData} {ds : List PyData} : Dq K H v d → DqAll K H vs ds → DqAll K H (v :: vs) (d :: ds)
end
theorem sqt_same {K : PySem.W.Frag} {H H' : Hp} {a : Addr} {xs : List V} (s : Same H H') (h : SqT K H a xs) : SqT K H' a xs :=
  h.elim (fun z => .inl (z.elim (fun z => .inl (s _ _ z)) fun ⟨o, z⟩ => .inr ⟨o, s _ _ z⟩)) .inr
mutual
theorem Dq.mono {K : PySem.W.Frag} {H H' : Hp} (s : Same H H') : ∀ {v : V} {d : PyData}, Dq K H v d → Dq K H' v d
  | _, _, .non => .non
  | _, _, .bl b => .bl b
  | _, _, .int i => .int i
  | _, _, .str x => .str x
  | _, _, .lst h a => .lst (s.seq h) (DqAll.mono s a)
  | _, _, .tup h a => .tup (sqt_same s h) (DqAll.mono s a)
  | _, _, .dic h a => .dic (s _ _ h) (DqAll.mono s a)
theorem DqAll.mono {K : PySem.W.Frag} {H H' : Hp} (s : Same H H') : ∀ {vs : List V} {ds : List PyData}, DqAll K H vs ds → DqAll K H' vs ds
  | _, _, .nil => .nil
  | _, _, .cons h t => .cons (Dq.mono s h) (DqAll.mono s t)
end
theorem DqAll.length {K : PySem.W.Frag} {H : Hp} : ∀ {vs : List V} {ds : List PyData}, DqAll K H vs ds → vs.length = ds.length
  | _, _, .nil => rfl
  | _, _, .cons _ t => congrArg (· + 1) (DqAll.length t)
section
variable {X : Cx} {pins : List (Addr × Obj)} {σ : L2.St} {H : Hp} {s : Shared}
theorem Dq.key {u : Value} {k : Key} (h : (mixKind X.prog X.w).is k u = true) : Reads s.heap u (keyD k) [] := by
  rcases keyIs_shape (show keyIs k u = true from h) with ⟨i, t, rfl, rfl⟩ | ⟨x, t, rfl, rfl⟩
  · exact Reads.int i t
  · exact Reads.str x t
theorem keys_read : ∀ {kvs : List (Key × V)} {vs : List (Key × Value)} {es : List DictEntry}, KV kvs vs → Pairs (mixKind X.prog X.w) es vs →
    ReadsAll s.heap (es.map (·.key)) (kvs.map fun p => keyD p.1) [] ∧ Vals (kvs.map (·.2)) (es.map (·.val))
  | _, _, _, .nil, .nil => ⟨ReadsAll.nil, .nil⟩
  | _, _, _, .cons hk t, .cons h1 h2 te => by
    obtain ⟨r1, r2⟩ := keys_read t te
    refine ⟨ReadsAll.cons (as := []) (Dq.key (by rw [hk.1]; exact h1)) r1, .cons ?_ r2⟩
    show L2.RelV _ (DictEntry.val _)
    rw [h2]
    exact hk.2
/-- the addresses that are read: none of them the table of modules -/
def AsOk (as : List Addr) : Prop := sysModules ∉ as
mutual
/-- where every list (not tuple) that stands in the data is known not to be the table of modules -/
inductive DqS (K : PySem.W.Frag) (H : Hp) : V → PyData → Prop
  | non : DqS K H .non .none
  | bl (b : Bool) : DqS K H (.bl b) (.bool b)
  | int (i : Int) : DqS K H (.int i) (.int i)
  | str (x : Str) : DqS K H (.str x) (.str x)
  | lst {a : Addr} {xs : List V} {ds : List PyData} : a ≠ sysModules → SqL K H a xs → DqSAll K H xs ds → DqS K H (.ref a) (.list ds)
  | tup {a : Addr} {xs : List V} {ds : List PyData} : SqT K H a xs → DqSAll K H xs ds → DqS K H (.ref a) (.tuple ds)
  | dic {a : Addr} {kvs : List (Key × V)} {ds : List PyData} : H a = some (.dK kvs) → DqSAll K H (kvs.map (·.2)) ds → DqS K H (.ref a) (.dict ((kvs.map fun p => keyD p.1).zip ds))
inductive DqSAll (K : PySem.W.Frag) (H : Hp) : List V → List PyData → Prop
  | nil : DqSAll K H [] []
  | cons {v : V} {vs : List V} {d : PyData} {ds : List PyData} : DqS K H v d → DqSAll K H vs ds → DqSAll K H (v :: vs) (d :: ds)
end
theorem DqSAll.length {K : PySem.W.Frag} {H : Hp} : ∀ {vs : List V} {ds : List PyData}, DqSAll K H vs ds → vs.length = ds.length
  | _, _, .nil => rfl
  | _, _, .cons _ t => congrArg (· + 1) (DqSAll.length t)
mutual
theorem DqS.reads (I : Inv X pins σ H s) : ∀ {v : V} {d : PyData} {u : Value}, DqS X.K H v d → RelV v u → ∃ as, Reads s.heap u d as ∧ sysModules ∉ as
  | _, _, _, .non, r => by
    cases r
    exact ⟨_, Reads.none, by simp⟩
  | _, _, _, .bl b, r => by
    cases r
    exact ⟨_, Reads.bool b, by simp⟩
  | _, _, _, .int i, r => by
    obtain ⟨t, rfl⟩ := r
    exact ⟨_, Reads.int i t, by simp⟩
  | _, _, _, .str x, r => by
    obtain ⟨t, rfl⟩ := r
    exact ⟨_, Reads.str x t, by simp⟩
  | _, _, _, .lst na hs ha, r => by
    cases r
    obtain ⟨its, rv, ⟨o, n, ho, hc, _, hd⟩, _⟩ := I.list hs
    obtain ⟨as, hr, hn⟩ := DqSAll.reads I ha rv
    exact ⟨_, Reads.list ho hc hd hr, by simp only [List.mem_cons, not_or]; exact ⟨fun z => na z.symm, hn⟩⟩
  | _, _, _, .tup hs ha, r => by
    cases r
    obtain ⟨its, rv, ⟨o, ho, hc, n, hd⟩, _⟩ := I.tuple hs
    obtain ⟨as, hr, hn⟩ := DqSAll.reads I ha rv
    exact ⟨_, Reads.tuple ho hc hd hr, hn⟩
  | _, _, _, .dic (a := a) (kvs := kvs) (ds := ds) e ha, r => by
    cases r
    obtain ⟨_, hsm, vs, kv, o, es, ep, ho, hx, hd, _, hp, _⟩ := (show ObjOk X.prog X.w H s.heap a (.dK kvs) from I.hok a _ e)
    obtain ⟨rk, rv⟩ := keys_read (s := s) kv hp
    obtain ⟨bs, hr, hn⟩ := DqSAll.reads I ha rv
    have hl : (kvs.map fun p => keyD p.1).length = ds.length := by
      have := ha.length
      simpa using this
    have z1 : ((kvs.map fun p => keyD p.1).zip ds).map (·.1) = kvs.map fun p => keyD p.1 := List.map_fst_zip (by omega)
    have z2 : ((kvs.map fun p => keyD p.1).zip ds).map (·.2) = ds := List.map_snd_zip (by omega)
    refine ⟨a :: [] ++ bs, Reads.dict ho hx.1 hd (by rw [z1]; exact rk) (by rw [z2]; exact hr), ?_⟩
    simp only [List.cons_append, List.nil_append, List.mem_cons, not_or]
    exact ⟨fun z => by rw [← z] at hsm; simp at hsm, hn⟩
theorem DqSAll.reads (I : Inv X pins σ H s) : ∀ {vs : List V} {ds : List PyData} {us : List Value}, DqSAll X.K H vs ds → Vals vs us → ∃ as, ReadsAll s.heap us ds as ∧ sysModules ∉ as
  | _, _, _, .nil, r => by
    cases r
    exact ⟨_, ReadsAll.nil, by simp⟩
  | _, _, _, .cons h1 h2, r => by
    cases r with
    | cons r1 r2 =>
      obtain ⟨as, q1, n1⟩ := DqS.reads I h1 r1
      obtain ⟨bs, q2, n2⟩ := DqSAll.reads I h2 r2
      exact ⟨_, ReadsAll.cons q1 q2, by simp only [List.mem_append, not_or]; exact ⟨n1, n2⟩⟩
end
/-- repr(x) -/
def rRepq (K : PySem.W.Frag) : List V → Hp → VK → Prop := fun xs H Q => ∃ (x : V) (d : PyData), xs = [x] ∧ DqS K H x d ∧ d.showable = true ∧ d.depth ≤ 60 ∧ d.shown.length ≤ sizeLine ∧ Q (.str d.shown) H
theorem call_reprq (hg : X.A.guards = some []) (hu : X.A.units + 70 < cLine) : CallR X (.builtin "repr") (rRepq X.K) := by
  intro pins s σ H xs us Q I r h
  obtain ⟨x, d, rfl, hR, hs, hdp, hz, q⟩ := h
  obtain ⟨u, rfl, ru⟩ := vals1 r
  obtain ⟨as, hr, hsm⟩ := hR.reads I ru
  have sc : ∀ (b : Str), d.shown = b → ∀ tk, EP X pins σ Q (.str b tk) { s with toks := s.toks + 1 } := fun b e tk => ⟨.str b, H, I.tok _, ⟨_, rfl⟩, e ▸ q⟩
  have big : ∀ {a : Addr}, Reads s.heap (.ref a) d as → wpAny (model X.prog X.w) X.A (call (.builtin "repr") [.ref a]) (EP X pins σ Q) X.xe s := fun {a} hr =>
    repr_of_reads' hr hs (fun _ => hsm) hg (by omega) (fun _ _ e => e) (fun h' u tk k => ⟨.str _, H, I.kept k, ⟨_, rfl⟩, q⟩) hz
  cases hr with
  | none => exact PySem.P.repr_of_none (sc _ rfl _)
  | bool b => exact PySem.P.repr_of_bool (sc _ (by cases b <;> rfl) _)
  | int i t => exact PySem.P.repr_of_int (of_decide_eq_true hs) (sc _ rfl _)
  | str y t => exact PySem.P.repr_of_str (sc _ rfl _) hz
  | list h1 h2 h3 h4 => exact big (Reads.list h1 h2 h3 h4)
  | tuple h1 h2 h3 h4 => exact big (Reads.tuple h1 h2 h3 h4)
  | dict h1 h2 h3 h4 h5 => exact big (Reads.dict h1 h2 h3 h4 h5)
/-- a list display, its place not the table of modules -/
def tLstN (t : TA) : TE := fun σ H Q => t σ H fun xs H1 => xs.length ≤ sizeLine ∧ ∀ p, H1 p = none → p ≠ sysModules → Q (.ref p) (upd H1 p (.lst xs))
theorem pe_lstN {es : List Expr} {t : TA} {pos : Pos} (h : PA X es t) : PE X (.List es pos) (tLstN t) := by
  refine ⟨fun pins s σ H Q I hq => wpAny_List_spliced (thn (h.run pos pins s σ H _ I hq) ?_)⟩
  rintro us s1 ⟨xs, H1, I1, r, z, q⟩
  have hf : H1 s1.heap.objs.size = none := I1.hok.fresh (Nat.le_refl _)
  have J := I1.laid (t' := s1.toks) (a := s1.heap.objs.size) (o := .lst xs) (h' := s1.heap.push { cls := .type "list", data := .seq us.toArray 0 }) (fun b u e => Heap.get?_push_of_some _ e) (Nat.le_refl _) ⟨z, us, 0, r, Heap.get?_push_size _ rfl⟩
  exact ⟨by rw [← r.length]; exact z, .ref s1.heap.objs.size, _, J, rfl, q _ hf (fun e => by have := I1.big; rw [e] at this; exact Nat.lt_irrefl _ this)⟩
end
/-! ### defs that want to know that nothing is being shown (for repr) -/
structure FnG (P : Program) (w : World) (K : PySem.W.Frag) (mg : Str → Option Value) (base : Heap) (CX : CXT) (k : Nat) (f : Addr) (fd : FuncData) (ps : List Str) (sp : Sp) : Prop where
  run : ∀ (A : Around) (outer : List Env) (s : Shared) (H : Hp) (args : Args) (us : List Value) (vs : List V) (Q : VK) (E : XK), Room k A → A.guards = some [] → Env0 P w K mg base A outer s H → BindsTo s fd args (ps.zip us) → Vals vs us → sp vs H Q E →
    codeAny (model P w) A (.call (.ref f) args) (CR CX outer P w H s Q E) s
  len : ∀ (vs : List V) (H : Hp) (Q : VK) (E : XK), sp vs H Q E → vs.length = ps.length
theorem FnG.of {P : Program} {w : World} {K : PySem.W.Frag} {mg : Str → Option Value} {base : Heap} {CX : CXT} {k : Nat} {f : Addr} {fd : FuncData} {ps : List Str} {sp : Sp} (F : FnOk P w K mg base CX k f fd ps sp) : FnG P w K mg base CX k f fd ps sp :=
  ⟨fun A outer s H args us vs Q E hr _ e0 hb rv h => F.run A outer s H args us vs Q E hr e0 hb rv h, fun vs H Q E h => F.len vs H Q E h⟩
theorem guards_deeper {A : Around} {env : Env} (h : A.guards = some []) : (A.deeper env).guards = some [] := by
  first | exact h | simpa [Around.deeper] using h
theorem okG {P : Program} {w : World} {K : PySem.W.Frag} {mg : Str → Option Value} {base : Heap} {x qual : Str} {st : Stmt} {f : Addr} {fd : FuncData} {N ps : List Str} {k : Nat} {sp : Sp} (F : Fun K x qual st f fd) (S : FnScope N ps (defScope st))
    (len : ∀ vs H Q E, sp vs H Q E → vs.length = ps.length)
    (body : ∀ (cdv : Value) (A : Around) (outer : List Env) (s : Shared) (H : Hp) (vs : List V) (Q : VK) (E : XK), (A.deeper (envOfC qual (defScope st) s.heap.objs.size f cdv)).guards = some [] → Room k (A.deeper (envOfC qual (defScope st) s.heap.objs.size f cdv)) → sp vs H Q E →
      ∃ t, PSs (cxOf CX0 P w K mg base N qual (defScope st) f cdv A outer s H E) (defBody st) t ∧ t { nx := fun _ H' => Q .non H', rt := Q } (start N vs) H) : FnG P w K mg base CX0 (k + 1) f fd ps sp :=
  ⟨fun A outer s H args us vs Q E hr hg e0 hb rv h => fn_at F S hr e0 hb rv (len _ _ _ _ h) fun cdv hr' => body cdv A outer s H vs Q E (guards_deeper hg) hr' h, len⟩
structure DefG (P : Program) (w : World) (K : PySem.W.Frag) (mg : Str → Option Value) (base : Heap) (k : Nat) (x : Str) (ps : List Str) (sp : Sp) : Prop where
  ex : ∃ (f : Addr) (fd : FuncData), FnG P w K mg base CX0 k f fd ps sp ∧ mg x = some (.ref f) ∧ PySem.W.keepIn K (.ref f) = true ∧ Binds K fd ps []
section
variable {X : Cx} {e : Expr} {es : List Expr} {ta : TA} {p pos : Pos} {x : Str} {k : Nat} {ps : List Str} {sp : Sp}
theorem pe_callG (D : DefG X.prog X.w X.K X.mg X.base k x ps sp) (hr : Room k X.A) (hgu : X.A.guards = some []) (ha : PA X (e :: es) ta) (hg : Gl X x := by rfl) (hdb : (x == ("__debug__" : Str)) = false := by decide)
    (he : starEach (e :: es) X.env = (false, eval e X.env) :: starEach es X.env := by rfl) (hpl : (backTo pos (starEach es X.env)).any (·.1) = false := by rfl) : PE X (.Call (.Name x p) (e :: es) [] pos) (tCall sp [] E0 ta) := by
  obtain ⟨f, fd, F, m, kp, hb⟩ := D.ex
  refine ⟨fun pins s σ H Q I h => wpAny_Call_Name_kw (ld_glob I hg m (PySem.W.callWith_K (h₀ := X.base) I.ok.mod.kin kp (thn (ha.run pos pins s σ H _ I h) ?_) he hpl) hdb)⟩
  rintro us s1 ⟨vs, H1, I1, r, q⟩
  refine ⟨I1.kIn, ?_⟩
  have q' : sp vs H1 Q E0 := by
    have := q
    rwa [List.append_nil] at this
  have hl : us.length = ps.length := by rw [← r.length]; exact F.len _ _ _ _ q'
  have bt : BindsTo s1 fd ⟨us, []⟩ (ps.zip us) := by
    have := hb s1 us I1.kIn (by rw [List.append_nil]; exact hl)
    rwa [List.append_nil] at this
  refine wpAny_call (codeAny_mono (F.run X.A X.stack s1 H1 ⟨us, []⟩ us vs Q E0 hr hgu I1.env0 bt r q') ?_)
  rintro (er | fl) s' hq
  · exact False.elim hq
  · cases fl with
    | ret u => exact I1.after hq
    | next => exact False.elim hq
    | brk => exact False.elim hq
    | cont => exact False.elim hq
end
end EX
set_option Elab.async false
set_option linter.all false
set_option maxRecDepth 100000
set_option maxHeartbeats 4000000
/-! set(tuple of ints) as a value, sorted of a set of ints: up to a thousand of them -/
namespace L2
open PySem PySem.Spec PyProof.Rows Srt
section
variable {P : Program} {w : World} {A : Around} {E : Value → Shared → Prop} {s : Shared} {a : Addr}
theorem sorted_set_many {S : Int → Bool} {n : Nat} {Q : Value → Shared → Prop} (R : SetR w s.heap a S n) (hh : A.handled = none) (h64 : n ≤ 1000)
    (hQ : ∀ s' p (out : Array Value) (c : Nat) (ns : List Int), (∀ b o, s.heap.get? b = some o → s'.heap.get? b = some o) → s'.gens = s.gens → s'.os = s.os → s.heap.objs.size ≤ p →
      s'.heap.get? p = some (seqObj "list" out c) → IntsAre out.toList ns → ns.Pairwise (· < ·) → (∀ k, k ∈ ns ↔ S k = true) → ns.length = n → Q (.ref p) s') :
    wpAny (model P w) A (call (.builtin "sorted") [.ref a]) Q E s := by
  obtain ⟨o, es, ep, t, ho, hex, hd, g, nd, hm, hb, hf, hn, hr, hl⟩ := R
  refine Calls.call_function_entry kind_sorted plain_sorted entry_sorted (args_sorted1 _) ?_
  unfold Builtin.«sorted»
  refine wpAny_bind (m := checkCount "sorted" 1 1 _) (wpAny_pure ?_)
  refine wpAny_bind (collect_set (A := A.in1) hh ⟨o, ho, hex.1, hd⟩ hf hb hr hl fun s1 vs k1 hz g1 o1 pm => ?_)
  have hvl : vs.length = n := by rw [pm.length_eq, List.length_map, Array.length_toList]; exact hn
  have hI : IntsAre vs (vs.map Builtin.Re.reRawOf) := ints_of vs fun v hv => by
    obtain ⟨e, he, q⟩ := List.mem_map.mp (pm.mem_iff.mp hv)
    obtain ⟨k, tk, h1, _⟩ := g e he
    exact ⟨k, tk, by rw [← q]; exact h1⟩
  have pk : (vs.map Builtin.Re.reRawOf).Perm (es.toList.map keyOf) := by
    have q := pm.map Builtin.Re.reRawOf
    rw [List.map_map] at q
    exact q
  have hzl : vs.length ≤ sizeLine := by rw [hvl, sizeLine_eq]; omega
  refine wpAny_bind (wpAny_newList ?_ hzl)
  have hoL : (s1.heap.push (seqObj "list" vs.toArray 0)).get? s1.heap.objs.size = some (seqObj "list" vs.toArray 0) := Heap.get?_push_size _ rfl
  refine wpAny_bind (wpAny_holding (wpAny_call_entry slot_list_sort ⟨_, hoL, rfl⟩ entry_list_sort (SrtO.list_sort_ord SrtO.swo_int hoL hzl (fun h2 => SrtO.ints_sortable hI h2) fun out b1 b2 => ⟨_, rfl, ?_⟩) (args_list_sort _)))
  obtain ⟨a1, a2, a3⟩ := SrtO.ints_out hI b1 b2
  generalize hns : out.map SrtO.iv = ns' at a1 a2 a3
  obtain ⟨c, hc⟩ := sortedHeap_at (vs := vs) (out := out.toArray) hoL
  have pn : ns'.Perm (es.toList.map keyOf) := a2.trans pk
  refine wpAny_pure ⟨_, rfl, hQ _ s1.heap.objs.size out.toArray c ns' (fun b u e => ?_) g1 o1 hz hc a1 (lt_of_le_nodup ns' a3 (pn.nodup_iff.mpr nd)) (fun k => by rw [pn.mem_iff, ← hm k]) ?_⟩
  · have q := k1 b u e
    have hlt := Heap.lt_size q
    show (sortedHeap (s1.heap.push (seqObj "list" vs.toArray 0)) s1.heap.objs.size vs out.toArray).get? b = some u
    rw [sortedHeap_old (Nat.ne_of_lt hlt) (by rw [size_push']; exact Nat.lt_succ_of_lt hlt)]
    exact Heap.get?_push_of_some _ q
  · rw [pn.length_eq, List.length_map, Array.length_toList]; exact hn
end
section
variable {X : Cx}
/-- set(t), a tuple of ints -/
def rSetTup (K : PySem.W.Frag) (w : World) : List V → Hp → VK → Prop := fun xs H Q => ∃ (p : Addr) (ns : List Int), xs = [.ref p] ∧ SqT K H p (ns.map V.int) ∧ ns.length ≤ 1000 ∧
  ∀ (a : Addr) (c : Nat) (H' : Hp), Same H H' → H' a = some (SetO w a (fun j => decide (j ∈ ns)) c) → c ≤ ns.length → Q (.ref a) H'
theorem cr_setTup (hc : X.calm = true) : CallR X (.type "set") (rSetTup X.K X.w) := by
  intro pins s σ H xs us Q I r h
  obtain ⟨p0, ns, rfl, hq, hl, q⟩ := h
  rw [Vals.ref1 r]
  obtain ⟨its, rv, pt, hz⟩ := I.tuple hq
  have hi : IntsAre its.toArray.toList ns := ints_of_vals rv
  refine call_set_tupI ns (I.ok.hd hc) (show s.heap.IsTuple p0 its.toArray from pt) hi (by unfold scanBound; omega) fun h' tk c R1 hcn k => ?_
  exact ⟨.ref _, upd H s.heap.objs.size (SetO X.w s.heap.objs.size (fun j => decide (j ∈ ns)) c), I.laid (t' := tk) (fun b u e => k b u e) (Nat.le_refl _) (setO_new R1), rfl, q _ c _ (EX.Same.upd (I.hok.fresh (Nat.le_refl _))) upd_same hcn⟩
/-- sorted(found), up to a thousand members -/
def rSortedMany (w : World) : List V → Hp → VK → Prop := fun vs H Q => ∃ (a : Addr) (S : Int → Bool) (n : Nat), vs = [V.ref a] ∧ H a = some (SetO w a S n) ∧ n ≤ 1000 ∧
  ∀ (ns : List Int) (p : Addr) (H' : Hp), Same H H' → H' p = some (.lst (ns.map V.int)) → ns.Pairwise (· < ·) → (∀ k : Int, k ∈ ns ↔ S k = true) → ns.length = n → Q (.ref p) H'
theorem cr_sortedMany (hc : X.calm = true) : CallR X (.builtin "sorted") (rSortedMany X.w) := by
  intro pins s σ H vs us Q I r h
  obtain ⟨a, S, n, rfl, ha, h64, q⟩ := h
  have R := setO_get I ha
  rw [Vals.ref1 r]
  refine sorted_set_many R (I.ok.hd hc) h64 fun s' p out c ns k g o hp hg hi hs hm hl => ?_
  have hlen : (ns.map V.int).length ≤ sizeLine := by rw [List.length_map, hl, sizeLine_eq]; omega
  have hn : H p = none := I.hok.fresh hp
  have J : Inv X pins σ (upd H p (.lst (ns.map V.int))) { s with heap := s'.heap, gens := s'.gens, drawn := s'.drawn, toks := s'.toks } :=
    I.call (ch := []) (Un.laid k hp hn) (I.hok.laid k hp ⟨hlen, out.toList, c, vals_of_ints hi, hg⟩) (by rw [g]; exact I.bare) (fun _ z => nomatch z)
  have e : s' = { s with heap := s'.heap, gens := s'.gens, drawn := s'.drawn, toks := s'.toks } := by
    cases s'
    cases s
    cases o
    rfl
  rw [e]
  exact ⟨.ref p, _, J, rfl, q ns p _ (EX.Same.upd hn) upd_same hs hm hl⟩
end
/-- two rising lists with the same members are one -/
theorem rising_eq : ∀ {l m : List Int}, l.Pairwise (· < ·) → m.Pairwise (· < ·) → (∀ k, k ∈ l ↔ k ∈ m) → l = m
  | [], [], _, _, _ => rfl
  | [], y :: m, _, _, h => absurd ((h y).mpr List.mem_cons_self) (by simp)
  | x :: l, [], _, _, h => absurd ((h x).mp List.mem_cons_self) (by simp)
  | x :: l, y :: m, hl, hm, h => by
    have l1 := List.pairwise_cons.mp hl
    have m1 := List.pairwise_cons.mp hm
    have e : x = y := by
      rcases List.mem_cons.mp ((h x).mp List.mem_cons_self) with e | e
      · exact e
      · rcases List.mem_cons.mp ((h y).mpr List.mem_cons_self) with e2 | e2
        · exact e2.symm
        · have a := m1.1 x e
          have b := l1.1 y e2
          omega
    subst e
    have : l = m := rising_eq l1.2 m1.2 fun k => by
      constructor
      · intro hk
        rcases List.mem_cons.mp ((h k).mp (List.mem_cons_of_mem _ hk)) with e | e
        · have := l1.1 k hk
          omega
        · exact e
      · intro hk
        rcases List.mem_cons.mp ((h k).mpr (List.mem_cons_of_mem _ hk)) with e | e
        · have := m1.1 k hk
          omega
        · exact e
    rw [this]
end L2
set_option Elab.async false
set_option linter.all false
set_option maxRecDepth 100000
set_option maxHeartbeats 4000000
namespace EX
open PySem L2 PySem.Spec PyProof.Rows
/-! ### defs that may raise -/
structure DefX (P : Program) (w : World) (K : PySem.W.Frag) (mg : Str → Option Value) (base : Heap) (k : Nat) (x : Str) (ps : List Str) (sp : Sp) : Prop where
  ex : ∃ (f : Addr) (fd : FuncData), FnOk P w K mg base (L2.CX P w) k f fd ps sp ∧ mg x = some (.ref f) ∧ PySem.W.keepIn K (.ref f) = true ∧ Binds K fd ps []
section
variable {X : Cx} {e : Expr} {es : List Expr} {ta : TA} {p pos : Pos} {x : Str} {k : Nat} {ps : List Str} {sp : Sp}
/-- called where it doesn't raise -/
theorem pe_callX (D : DefX X.prog X.w X.K X.mg X.base k x ps sp) (hr : Room k X.A) (ha : PA X (e :: es) ta) (hg : Gl X x := by rfl) (hdb : (x == ("__debug__" : Str)) = false := by decide)
    (he : starEach (e :: es) X.env = (false, eval e X.env) :: starEach es X.env := by rfl) (hpl : (backTo pos (starEach es X.env)).any (·.1) = false := by rfl) : PE X (.Call (.Name x p) (e :: es) [] pos) (tCall sp [] E0 ta) := by
  obtain ⟨f, fd, F, m, kp, b⟩ := D.ex
  exact pe_call F hr hg m kp b .nil passL ha hdb he hpl
/-- called where what it raises goes on -/
theorem pe_callU {W : WX} (D : DefX X.prog X.w X.K X.mg X.base k x ps sp) (hr : Room k X.A) (tk : Takes X W) (ha : PA X (e :: es) ta) (hg : Gl X x := by rfl) (hdb : (x == ("__debug__" : Str)) = false := by decide)
    (he : starEach (e :: es) X.env = (false, eval e X.env) :: starEach es X.env := by rfl) (hpl : (backTo pos (starEach es X.env)).any (·.1) = false := by rfl) : PE X (.Call (.Name x p) (e :: es) [] pos) (tCallS sp (WE W) ta) := by
  obtain ⟨f, fd, F, m, kp, b⟩ := D.ex
  exact pe_callS F hr hg m kp b (fun σ => passAt tk σ) ha hdb he hpl
end
end EX
set_option Elab.async false
set_option linter.all false
set_option maxRecDepth 100000
set_option maxHeartbeats 4000000
namespace EX
open PySem PySem.Spec L2 PyProof.Rows
section
variable {X : Cx}
/-- len of a dict, locked or not -/
theorem call_lenR : CallR X (.builtin "len") (fun us H Q => ∃ d kvs, us = [V.ref d] ∧ Rd H d (.dK kvs) ∧ Q (.int kvs.length) H) := by
  intro pins s σ H us vs Q I r h
  obtain ⟨d, kvs, rfl, hd, q⟩ := h
  obtain ⟨v, rfl, rv⟩ := vals1 r
  cases rv
  exact d_len I hd fun t s' I' => ⟨.int kvs.length, H, I', ⟨t, rfl⟩, q⟩
/-- a statement that is never reached -/
def tDead : TS := fun _ _ _ => False
theorem ps_dead {st : Stmt} : PS X st tDead := ⟨fun _ _ _ _ _ _ h => h.elim⟩
/-- name = {..: .. for ..} -/
theorem ps_setDc {j : Nat} {nm : Str} {pn : Pos} {ke ve tgt src : Expr} {conds : List Expr} {sc : Scope} {own : List (Str × Nat)} {p1 p2 : Pos} {ti : TI} {tg : TG} {tt : TT} {tk tv : TE}
    (calm : X.calm = true) (nd : X.N.Nodup) (at_ : X.N[j]? = some nm) (loc : X.env.scope.names.lookup nm = some .local) (sw : swapsWith (.DictComp ke ve [⟨tgt, src, conds, 0⟩] sc p1) (some (.Name nm pn)) p2.line X.env = pure true)
    (walk : PI X tgt src ti) (ok : BlkOk X.N X.env.scope sc own)
    (ht : ∀ (s : Shared) (H : Hp) (C : Addr) (cl : List (Str × Addr)) (fp : List Addr), PG (X.blk s H sc (compEnvC sc cl C X.env) fp) tgt tg)
    (hc : ∀ (s : Shared) (H : Hp) (C : Addr) (cl : List (Str × Addr)) (fp : List Addr), PTs (X.blk s H sc (compEnvC sc cl C X.env) fp) conds tt)
    (hk : ∀ (s : Shared) (H : Hp) (C : Addr) (cl : List (Str × Addr)) (fp : List Addr), PE (X.blk s H sc (compEnvC sc cl C X.env) fp) ke tk)
    (hv : ∀ (s : Shared) (H : Hp) (C : Addr) (cl : List (Str × Addr)) (fp : List Addr), PE (X.blk s H sc (compEnvC sc cl C X.env) fp) ve tv)
    (fold : ∀ x, foldedSetIterable src X.env x = pure x := by intro _; rfl) :
    PS X (.Assign [.Name nm pn] (.DictComp ke ve [⟨tgt, src, conds, 0⟩] sc p1) p2) (tAsg (tDc ti tg tt tk tv (own.map (·.2))) (gName j)) := by
  refine ⟨fun pins s0 σ0 H0 D0 I0 rd => ?_⟩
  rw [exec_Assign_Name_used _ _ _ _ sw]
  refine wpAny_bind (wpAny_standAt (wpAny_bind ?_))
  show wpAny _ X.A (do let _ ← comprehension (.DictComp ke ve [⟨tgt, src, conds, 0⟩] sc p1) sc X.env (firstIterPos [⟨tgt, src, conds, 0⟩] p1) newDict false (eval src X.env) (some (assign (.Name nm pn) X.env))) _ _ s0
  have rd' : tDc ti tg tt tk tv (own.map (·.2)) σ0 H0 (fun x Hx => gName j x σ0 Hx D0.nx) := rd
  refine wpAny_bind (thn (dc_core (Qf := fun _ se => SP X pins D0 .next se) calm nd I0 walk ok ht hc hk hv fold rd' fun L C se me He Ie q hn f => ?_) fun _ se hq => wpAny_pure (wpAny_pure hq))
  show wpAny _ _ (assign (.Name nm pn) X.env (.ref L)) _ _ _
  refine wpAny_assign_Name (store_ok2 (v := V.ref L) Ie nd at_ (.inl loc) rfl (fun sf If ⟨b, sb, hb⟩ => ?_) (.inr loc))
  obtain ⟨g0, g1, g2, g3, g4, g5⟩ := f
  have cb : C ≠ b := by
    rcases hb with z | z
    · rw [z]
      exact g1
    · exact fun e => g4 nm b z e.symm
  exact ⟨me, hn.sameBut sb cb, fun hl sl => ⟨_, He, If.turned (t' := sf.toks) (fun a o ha e => (sl.2 a ha).trans e) g0 g1 g3 g4 g5, q⟩⟩
theorem sw_dc {ke ve : Expr} {cs : List Comprehension} {sc : Scope} {p1 pn : Pos} {nm : Str} {l : Nat} {env : Env} (kd : env.scope.kind = .function) (loc : env.scope.names.lookup nm = some .local) (line : (pn.line == p1.line) = true)
    (free : (sc.names.any fun (m, k) => m == nm && (k == .local || k == .cell)) = false) : swapsWith (.DictComp ke ve cs sc p1) (some (.Name nm pn)) l env = pure true := by
  have k1 : env.kindOf nm = some .local := loc
  have k2 : env.blockKind = .function := by
    unfold Env.blockKind
    rw [kd]
    rfl
  unfold swapsWith
  simp only [k2, k1, free, Expr.pos, line]
  rfl
end
section
variable {J : It} {n : Nat} {G : Hp → Prop} {Y : Nat → Hp → V → Hp → Prop}
/-- a dict comprehension over a walk -/
theorem dc_it (wk : Walk J n G Y) {tg : TG} {tt : TT} {tk tv : TE} {vs : List Nat} {σ : L2.St} {H1 : Hp} {D : Addr} {Qd : Hp → Prop} (Pv : Nat → Hp → Prop) (h0 : Pv 0 (L2.upd H1 D (.dK []))) (hG : ∀ i H, i ≤ n → Pv i H → G H)
    (turn : ∀ i x H H', i < n → Pv i H → Y i H x H' → tg x (wipe σ vs) H' fun σ2 H2 => wipe σ2 vs = wipe σ vs ∧ tt σ2 H2 fun b H3 =>
      if b = true then tk σ2 H3 fun y H4 => tv σ2 H4 fun z H5 => ∃ kvs k, y = kV k ∧ H5 D = some (.dK kvs) ∧ kvs.length < sizeLine ∧ Pv (i + 1) (L2.upd H5 D (.dK (putK kvs k z))) else Pv (i + 1) H3) (fin : ∀ H, Pv n H → Qd H) :
    ∃ W : Nat → Nat → Hp → Prop, (∃ m, W 0 m (L2.upd H1 D (.dK []))) ∧ ∀ i m H, W i m H →
      (J.stop i H ∧ Qd H) ∨ (J.go i H ∧ ∃ Nx : Hp → Prop, (∀ H', Nx H' → ∃ m', m' < m ∧ W (i + 1) m' H') ∧ ∀ x H', J.yld i H x H' → tg x (wipe σ vs) H' fun σ2 H2 => wipe σ2 vs = wipe σ vs ∧ tt σ2 H2 fun b H3 =>
        if b = true then tk σ2 H3 fun y H4 => tv σ2 H4 fun z H5 => ∃ kvs k, y = kV k ∧ H5 D = some (.dK kvs) ∧ kvs.length < sizeLine ∧ Nx (L2.upd H5 D (.dK (putK kvs k z))) else Nx H3) := by
  refine ⟨fun i m H => (i ≤ n ∧ m = n - i) ∧ Pv i H, ⟨n, ⟨Nat.zero_le _, by simp⟩, h0⟩, fun i m H hw => ?_⟩
  obtain ⟨⟨hi, rfl⟩, p⟩ := hw
  have g := hG i H hi p
  rcases Nat.lt_or_ge i n with lt | ge
  · exact .inr ⟨wk.goes i H lt g, Pv (i + 1), fun H' p' => ⟨n - (i + 1), by omega, ⟨lt, rfl⟩, p'⟩, fun x H' y => turn i x H H' lt p (wk.yields i H x H' lt g y)⟩
  · obtain rfl : i = n := by omega
    exact .inl ⟨wk.stops H g, fin H p⟩
end
end EX
set_option linter.all false
set_option autoImplicit false
namespace M68
open PySem PySem.Spec PyProof.Rows
/-! ### the order of texts -/
def leS (a b : Str) : Prop := ltCps b.cps.toList a.cps.toList = false
theorem lt_tri : ∀ a b : List Nat, ltCps a b = false → ltCps b a = false → a = b
  | [], [], _, _ => rfl
  | [], _ :: _, h, _ => by simp [ltCps] at h
  | _ :: _, [], _, h => by simp [ltCps] at h
  | x :: a, y :: b, h1, h2 => by
    simp only [ltCps, Bool.or_eq_false_iff, decide_eq_false_iff_not] at h1 h2
    have e : x = y := by omega
    subst e
    simp at h1 h2
    rw [lt_tri a b h1 h2]
theorem leS_anti {a b : Str} (h1 : leS a b) (h2 : leS b a) : a = b := by
  have e := lt_tri _ _ h2 h1
  cases a
  cases b
  simp at e
  rw [e]
theorem lt_trans : ∀ a b c : List Nat, ltCps b a = false → ltCps c b = false → ltCps c a = false
  | [], b, [], _, _ => by simp [ltCps]
  | [], [], _ :: _, _, h => by simp [ltCps]
  | [], _ :: _, _ :: _, _, _ => by simp [ltCps]
  | x :: a, [], c, h, _ => by simp [ltCps] at h
  | x :: a, y :: b, [], _, h => by simp [ltCps] at h
  | x :: a, y :: b, z :: c, h1, h2 => by
    simp only [ltCps, Bool.or_eq_false_iff, Bool.and_eq_false_iff, decide_eq_false_iff_not, beq_eq_false_iff_ne, ne_eq] at h1 h2 ⊢
    refine ⟨by omega, ?_⟩
    by_cases e : z = x
    · right
      have e1 : y = x := by omega
      have e2 : z = y := by omega
      rcases h1.2 with h | h
      · exact absurd e1 h
      · rcases h2.2 with h' | h'
        · exact absurd e2 h'
        · exact lt_trans a b c h h'
    · exact .inl e
theorem leS_trans {a b c : Str} (h1 : leS a b) (h2 : leS b c) : leS a c := lt_trans _ _ _ h1 h2
theorem rising_head : ∀ (p : Str) (l : List Str), risingS p l = true → ∀ x ∈ l, leS p x
  | _, [], _, x, h => by cases h
  | p, y :: r, h, x, hx => by
    simp only [risingS, Bool.and_eq_true, Bool.not_eq_true'] at h
    rcases List.mem_cons.mp hx with e | e
    · subst e
      exact h.1
    · exact leS_trans h.1 (rising_head y r h.2 x e)
theorem sorted_head {p : Str} {l : List Str} (h : sortedS (p :: l) = true) : ∀ x ∈ l, leS p x := rising_head p l h
theorem sorted_tail {p : Str} {l : List Str} (h : sortedS (p :: l) = true) : sortedS l = true := by
  cases l with
  | nil => rfl
  | cons x r =>
    have h : risingS p (x :: r) = true := h
    simp only [risingS, Bool.and_eq_true] at h
    exact h.2
/-- one list of texts has one sorted arrangement -/
theorem sorted_uniq : ∀ {l m : List Str}, l.Perm m → sortedS l = true → sortedS m = true → l = m
  | [], m, h, _, _ => h.nil_eq
  | x :: l, [], h, _, _ => by cases h.length_eq
  | x :: l, y :: m, h, h1, h2 => by
    have e : x = y := by
      rcases List.mem_cons.mp (h.mem_iff.mp List.mem_cons_self) with e | e
      · exact e
      · rcases List.mem_cons.mp (h.mem_iff.mpr List.mem_cons_self) with e2 | e2
        · exact e2.symm
        · exact leS_anti (sorted_head h1 y e2) (sorted_head h2 x e)
    subst e
    rw [sorted_uniq (List.Perm.cons_inv h) (sorted_tail h1) (sorted_tail h2)]
/-! ### trees -/
abbrev Tr := List (Str × Str)
abbrev Nd := List (Str × Nat)
def store : Str := "store"
structure TreeP (par : Tr) : Prop where
  nd : (par.map (·.1)).Nodup
  ne : par ≠ []
  len : par.length ≤ 11
  st : ∀ p ∈ par, p.1 ≠ store
  up : ∃ r : Str → Nat, ∀ p ∈ par, p.2 = store ∨ (p.2 ∈ par.map (·.1) ∧ r p.2 < r p.1)
structure NeedP (par : Tr) (need : Nd) : Prop where
  nd : (need.map (·.1)).Nodup
  key : ∀ p ∈ need, p.1 ∈ par.map (·.1)
  lo : ∀ p ∈ need, 1 ≤ p.2 ∧ p.2 ≤ 99
/-- y is x or stands below it -/
inductive Below (par : Tr) : Str → Str → Prop
  | refl (x : Str) : Below par x x
  | step {y z x : Str} : (y, z) ∈ par → z ≠ store → Below par z x → Below par y x
theorem Below.up {par : Tr} {y x z : Str} (h : Below par y x) (hz : (x, z) ∈ par) (ne : z ≠ store) : Below par y z := by
  induction h with
  | refl x => exact .step hz ne (.refl z)
  | step h1 h2 _ ih => exact .step h1 h2 (ih hz)
theorem uniq_par {par : Tr} (hn : (par.map (·.1)).Nodup) {x y z : Str} (h1 : (x, y) ∈ par) (h2 : (x, z) ∈ par) : y = z := by
  induction par with
  | nil => cases h1
  | cons q t ih =>
    simp only [List.map_cons, List.nodup_cons] at hn
    rcases List.mem_cons.mp h1 with e1 | e1 <;> rcases List.mem_cons.mp h2 with e2 | e2
    · rw [← e1] at e2
      cases e2
      rfl
    · exact absurd (List.mem_map.mpr ⟨_, e2, rfl⟩) (by rw [← e1] at hn; exact hn.1)
    · exact absurd (List.mem_map.mpr ⟨_, e1, rfl⟩) (by rw [← e2] at hn; exact hn.1)
    · exact ih hn.2 e1 e2
theorem Below.inv {par : Tr} (T : (par.map (·.1)).Nodup) {y x z : Str} (h : Below par y x) (hz : (y, z) ∈ par) : y = x ∨ (z ≠ store ∧ Below par z x) := by
  cases h with
  | refl => exact .inl rfl
  | step h1 h2 h3 =>
    rw [← uniq_par T h1 hz]
    exact .inr ⟨h2, h3⟩
theorem Below.mono {par par' : Tr} (h : ∀ p ∈ par, p ∈ par') {y x : Str} (b : Below par y x) : Below par' y x := by
  induction b with
  | refl x => exact .refl x
  | step h1 h2 _ ih => exact .step (h _ h1) h2 ih
/-- the greatest allowance of x and what bars more -/
structure Gr (par : Tr) (need : Nd) (x : Str) (n : Nat) (bar : Option Str) : Prop where
  le : ∀ y m, (y, m) ∈ need → Below par y x → n ≤ m
  or : (n = 99 ∧ bar = none) ∨ (n < 99 ∧ ∃ y, bar = some y ∧ (y, n) ∈ need ∧ Below par y x ∧ ∀ z, (z, n) ∈ need → Below par z x → leS y z)
theorem Gr.uniq {par : Tr} {need : Nd} {x : Str} {n m : Nat} {b c : Option Str} (h : Gr par need x n b) (k : Gr par need x m c) : n = m ∧ b = c := by
  rcases h.or with ⟨e1, e2⟩ | ⟨e1, y, e2, e3, e4, e5⟩ <;> rcases k.or with ⟨f1, f2⟩ | ⟨f1, z, f2, f3, f4, f5⟩
  · exact ⟨by omega, by rw [e2, f2]⟩
  · have := h.le _ _ f3 f4
    omega
  · have := k.le _ _ e3 e4
    omega
  · have h1 := h.le _ _ f3 f4
    have h2 := k.le _ _ e3 e4
    have e : n = m := by omega
    subst e
    exact ⟨rfl, by rw [e2, f2, leS_anti (e5 _ f3 f4) (f5 _ e3 e4)]⟩
theorem Gr.mono {par par' : Tr} {need need' : Nd} (hp : ∀ p, p ∈ par ↔ p ∈ par') (hn : ∀ p, p ∈ need ↔ p ∈ need') {x : Str} {n : Nat} {b : Option Str} (h : Gr par need x n b) : Gr par' need' x n b := by
  have up : ∀ {y x}, Below par y x → Below par' y x := fun b => b.mono fun p z => (hp p).mp z
  have dn : ∀ {y x}, Below par' y x → Below par y x := fun b => b.mono fun p z => (hp p).mpr z
  refine ⟨fun y m h1 h2 => h.le y m ((hn _).mpr h1) (dn h2), ?_⟩
  rcases h.or with e | ⟨e1, y, e2, e3, e4, e5⟩
  · exact .inl e
  · exact .inr ⟨e1, y, e2, (hn _).mp e3, up e4, fun z h1 h2 => e5 z ((hn _).mpr h1) (dn h2)⟩
theorem Gr.rng {par : Tr} {need : Nd} (N : NeedP par need) {x : Str} {n : Nat} {b : Option Str} (h : Gr par need x n b) : 1 ≤ n ∧ n ≤ 99 := by
  rcases h.or with ⟨e, _⟩ | ⟨e1, y, e2, e3, _⟩
  · omega
  · exact ⟨(N.lo _ e3).1, by omega⟩
/-- a parent has no more -/
theorem Gr.up {par : Tr} {need : Nd} (N : NeedP par need) {x z : Str} {n m : Nat} {b c : Option Str} (h : Gr par need x n b) (k : Gr par need z m c) (hz : (x, z) ∈ par) (ne : z ≠ store) : m ≤ n := by
  rcases h.or with ⟨e, _⟩ | ⟨e1, y, e2, e3, e4, _⟩
  · have := (k.rng N).2
    omega
  · exact k.le _ _ e3 (e4.up hz ne)
/-- what serves -/
def Serves (par : Tr) (need : Nd) (g : Str → Nat) : Prop := (∀ p ∈ par, p.2 ≠ store → g p.2 ≤ g p.1) ∧ ∀ p ∈ need, g p.1 ≤ p.2
theorem Serves.below {par : Tr} {need : Nd} {g : Str → Nat} (S : Serves par need g) {y x : Str} (h : Below par y x) : g x ≤ g y := by
  induction h with
  | refl x => exact Nat.le_refl _
  | step h1 h2 _ ih => exact Nat.le_trans ih (S.1 _ h1 h2)
theorem Gr.most {par : Tr} {need : Nd} {g : Str → Nat} (S : Serves par need g) {x : Str} {n : Nat} {b : Option Str} (h : Gr par need x n b) (h99 : g x ≤ 99) : g x ≤ n := by
  rcases h.or with ⟨e, _⟩ | ⟨e1, y, e2, e3, e4, _⟩
  · omega
  · exact Nat.le_trans (S.below e4) (S.2 _ e3)
/-- the law's own look upwards -/
def aboveN (par : Tr) (x : Str) : Nat → Str → Bool
  | 0, _ => false
  | k + 1, y => if y = store then false else if y = x then true else match par.find? (fun p => decide (p.1 = y)) with
    | some p => aboveN par x k p.2
    | none => false
end M68
set_option Elab.async false
set_option maxRecDepth 100000
set_option maxHeartbeats 4000000
namespace K69
open PySem L2
def top (i : Nat) : Stmt := PySem.Challenge.pw_slackcache_k69_allowances_that_serve.main.body.getD i (.Pass ⟨0, 0, 0, 0⟩)
abbrev sSource : Stmt := top 19
abbrev sDraw : Stmt := top 20
def M : Int := 2147483647
/-- what a source may hold -/
def SrcOk (x y : Int) : Prop := 0 ≤ x ∧ 0 ≤ y ∧ y < 2147483647
structure TxtC (mg : Str → Option Value) : Prop where
  len : mg "len" = none
  max : mg "max" = none
def spSource (K : PySem.W.Frag) : Sp := fun vs H Q _ => ∃ (a : Addr) (ns : List Int) (j : Nat), vs = [.ref a, .int (j : Int)] ∧ SqL K H a (ns.map V.int) ∧ j ≤ 1000 ∧
  ∀ p x y, H p = none → SrcOk x y → Q (.ref p) (upd H p (.lst [.int x, .int y]))
def spDraw : Sp := fun vs H Q _ => ∃ (p : Addr) (x y n : Int), vs = [.ref p, .int n] ∧ H p = some (.lst [.int x, .int y]) ∧ SrcOk x y ∧ 0 < n ∧ n < 2 ^ 100 ∧
  ∀ x' y' d, SrcOk x' y' → 0 ≤ d → d < n → Q (.int d) (upd H p (.lst [.int x', .int y']))
section
variable {P : Program} {w : World} {K : PySem.W.Frag} {mg : Str → Option Value} {base : Heap}
theorem scS : FnScope ["_law_script", "_law_turn", "_law_cell", "_law_number", "_law_seed"] ["_law_script", "_law_turn"] (defScope sSource) := ⟨rfl, rfl, rfl, by decide +kernel, rfl, by decide +kernel, by decide +kernel⟩
theorem scD : FnScope ["_law_source_here", "_law_amount", "_law_digit"] ["_law_source_here", "_law_amount"] (defScope sDraw) := ⟨rfl, rfl, rfl, by decide +kernel, rfl, by decide +kernel, by decide +kernel⟩
local macro_rules | `(tactic| walk_at "rd") => `(tactic| simp only [tSeq, tAsg, tOp, tC, tVar, tCB, tCons, tNil, tUn, tIfS, tTest, tNext, tRet, tLst, gName, gSub, rI0, rI, rU, L2.start, List.map_cons, List.map_nil, List.length_cons, List.length_nil, Nat.reduceAdd, Nat.reduceSub, List.replicate_succ, List.replicate_zero, List.cons_append, List.nil_append, List.set_cons_zero, List.set_cons_succ, List.getElem?_cons_zero, List.getElem?_cons_succ, Option.some.injEq, exists_eq_left', exists_eq_left, V.int.injEq, V.bl.injEq, V.ref.injEq, List.cons.injEq, and_true, true_and, and_assoc, exists_and_left, exists_eq', exists_const, decide_eq_true_eq, Cx.nox, Cx.wish])
set_option linter.all false
theorem ok_source {f : Addr} {fd : FuncData} (F : Fun K "_law_source" "_law_source" sSource f fd) (T : TxtC mg) : FnOk P w K mg base CX0 1 f fd ["_law_script", "_law_turn"] (spSource K) := by
  refine F.ok scS (fun vs H Q E h => ?_) (fun cdv A outer s H vs Q E hr h => ?_)
  · obtain ⟨a, ns, j, rfl, _⟩ := h
    rfl
  · obtain ⟨a, ns, j, rfl, hS, hj, k⟩ := h
    have hu := hu_of hr
    refine ⟨_, pss_cons (ps_set (i := 2) scS.nd rfl (Or.inl rfl) pe_int)
      (pss_cons (ps_if (pt_cmpR op_lt (pv 1) (pe_callB call_len_seq (by rfl) T.len PySem.boot_len (pa_cons (pv 0) pa_nil)) (nomark _))
         (pss_one (ps_set (i := 2) scS.nd rfl (Or.inl rfl) (pe_ix ix_list (pv 0) (pv 1) (fun _ _ => rfl)))) pss_nil)
      (pss_cons (ps_set (i := 3) scS.nd rfl (Or.inl rfl) (pe_callB (call_max2 rfl) (by rfl) T.max PyProof.Rows.boot_max (pa_cons (pv 2) (pa_cons (pe_op op_sub (pe_un un_neg pe_int) (pv 2)) pa_nil))))
      (pss_cons (ps_set (i := 4) scS.nd rfl (Or.inl rfl) (pe_op op_mod (pe_op op_add (pe_op op_add (pe_op op_mul (pe_op op_mod (pv 3) pe_int) pe_int) (pe_op op_mul pe_int (pv 1))) pe_int) pe_int))
      (pss_cons (ps_if (pt_cmpR op_lt (pv 3) (pe_op op_pow pe_int pe_int) (nomark _)) (pss_one (ps_set (i := 3) scS.nd rfl (Or.inl rfl) pe_int)) pss_nil)
      (pss_one (ps_ret (pe_lst (pa_cons (pv 3) (pa_cons (pv 4) pa_nil))))))))), ?_⟩
    walk_at "rd"
    have fin : ∀ (c : Int) (H1 : Hp), H1 = H →
        0 < (2147483629 : Int) ∧ CMul ((if -1 - c > c then -1 - c else c) % 2147483629) 16807 ∧ CMul 104729 (j : Int) ∧ (0 : Int) < 2147483647 ∧ CPow 10 18 ∧
        if (if -1 - c > c then -1 - c else c) < 10 ^ Int.toNat 18 then
          2 ≤ sizeLine ∧ ∀ p, H1 p = none → Q (V.ref p) (upd H1 p (HO.lst [V.int 0, V.int (((if -1 - c > c then -1 - c else c) % 2147483629 * 16807 + 104729 * (j : Int) + 11) % 2147483647)]))
        else 2 ≤ sizeLine ∧ ∀ p, H1 p = none → Q (V.ref p) (upd H1 p (HO.lst [V.int (if -1 - c > c then -1 - c else c), V.int (((if -1 - c > c then -1 - c else c) % 2147483629 * 16807 + 104729 * (j : Int) + 11) % 2147483647)])) := by
      rintro c H1 rfl
      have hm : 0 ≤ (if -1 - c > c then -1 - c else c) := by split <;> omega
      generalize (if -1 - c > c then -1 - c else c) = m at hm
      refine ⟨by decide, Or.inr ⟨by decide, by decide⟩, Or.inl ⟨by decide, by decide⟩, by decide, ⟨by decide, by decide, by decide⟩, ?_⟩
      have hs0 := Int.emod_nonneg (m % 2147483629 * 16807 + 104729 * (j : Int) + 11) (show (2147483647 : Int) ≠ 0 by decide)
      have hs1 := Int.emod_lt_of_pos (m % 2147483629 * 16807 + 104729 * (j : Int) + 11) (show (0 : Int) < 2147483647 by decide)
      split
      · exact ⟨by decide, fun p hp => k p _ _ hp ⟨by decide, hs0, hs1⟩⟩
      · exact ⟨by decide, fun p hp => k p _ _ hp ⟨hm, hs0, hs1⟩⟩
    refine ⟨_, .inl hS, ?_⟩
    split
    · rename_i hlt
      have hlt' : j < (ns.map V.int).length := by omega
      refine ⟨a, _, _, _, rfl, rfl, hS, atI_nat (List.getElem?_eq_getElem hlt'), ?_⟩
      have e : (ns.map V.int)[j] = V.int (ns[j]'(by simpa using hlt')) := by simp
      rw [e]
      walk_at "rd"
      exact fin _ _ rfl
    · exact fin 0 _ rfl
theorem ok_draw {f : Addr} {fd : FuncData} (F : Fun K "_law_draw" "_law_draw" sDraw f fd) : FnOk P w K mg base CX0 1 f fd ["_law_source_here", "_law_amount"] spDraw := by
  refine F.ok scD (fun vs H Q E h => ?_) (fun cdv A outer s H vs Q E hr h => ?_)
  · obtain ⟨p, x, y, n, rfl, _⟩ := h
    rfl
  · obtain ⟨p, x, y, n, rfl, hL, ⟨hx, hy, hy2⟩, hn, hn2, k⟩ := h
    have hu := hu_of hr
    refine ⟨_, pss_cons (ps_if (pt_cmpR op_gt (pe_ix ix_list (pv 0) pe_int (fun _ _ => rfl)) pe_int (nomark _))
        (pss_cons (ps_set (i := 2) scD.nd rfl (Or.inl rfl) (pe_op op_mod (pe_ix ix_list (pv 0) pe_int (fun _ _ => rfl)) (pv 1)))
        (pss_cons (ps_asg (pe_op op_fdivW (pe_ix ix_list (pv 0) pe_int (fun _ _ => rfl)) (pv 1)) (pg_sub (pv 0) pe_int set_list))
        (pss_one (ps_ret (pv 2))))) pss_nil)
      (pss_cons (ps_asg (pe_op op_mod (pe_op op_add (pe_op op_mul (pe_ix ix_list (pv 0) pe_int (fun _ _ => rfl)) pe_int) pe_int) pe_int) (pg_sub (pv 0) pe_int set_list))
      (pss_one (ps_ret (pe_op op_mod (pe_op op_fdivW (pe_op op_mod (pe_op op_mul (pe_ix ix_list (pv 0) pe_int (fun _ _ => rfl)) (pe_ix ix_list (pv 0) pe_int (fun _ _ => rfl))) pe_int) pe_int) (pv 1))))), ?_⟩
    have hS : SqL K H p [.int x, .int y] := SqL.of hL
    have r0 : ∀ (H' : Hp) (x y : Int) (Q' : V → Hp → Prop), H' p = some (.lst [.int x, .int y]) → Q' (.int x) H' → rIxL K (V.ref p) (V.int 0) H' Q' := fun H' x y Q' h q =>
      ⟨p, _, _, _, rfl, rfl, SqL.of h, atI_nat (j := 0) rfl, q⟩
    have r1 : ∀ (H' : Hp) (x y : Int) (Q' : V → Hp → Prop), H' p = some (.lst [.int x, .int y]) → Q' (.int y) H' → rIxL K (V.ref p) (V.int 1) H' Q' := fun H' x y Q' h q =>
      ⟨p, _, _, _, rfl, rfl, SqL.of h, atI_nat (j := 1) rfl, q⟩
    have w0 : ∀ (H' : Hp) (x y : Int) (v : V) (Q' : Hp → Prop), H' p = some (.lst [.int x, .int y]) → Q' (upd H' p (.lst [v, .int y])) → rSetL (V.ref p) (V.int 0) v H' Q' := fun H' x y v Q' h q =>
      ⟨p, _, _, _, rfl, rfl, h, rfl, q⟩
    have w1 : ∀ (H' : Hp) (x y : Int) (v : V) (Q' : Hp → Prop), H' p = some (.lst [.int x, .int y]) → Q' (upd H' p (.lst [.int x, v])) → rSetL (V.ref p) (V.int 1) v H' Q' := fun H' x y v Q' h q =>
      ⟨p, _, _, _, rfl, rfl, h, rfl, q⟩
    have hb : n.natAbs < 2 ^ 100 := by omega
    walk_at "rd"
    refine r0 _ _ _ _ hL ?_
    walk_at "rd"
    split
    · rename_i hpos
      refine r0 _ _ _ _ hL ?_
      walk_at "rd"
      refine ⟨hn, r0 _ _ _ _ hL ?_⟩
      walk_at "rd"
      refine ⟨wide_div hn hb (by decide) (by decide), w0 _ _ _ _ _ hL ?_⟩
      exact k _ _ _ ⟨Int.ediv_nonneg hx (by omega), hy, hy2⟩ (Int.emod_nonneg _ (by omega)) (Int.emod_lt_of_pos _ hn)
    · refine r1 _ _ _ _ hL ?_
      walk_at "rd"
      refine ⟨Or.inr ⟨by decide, by decide⟩, by decide, w1 _ _ _ _ _ hL ?_⟩
      have hs0 := Int.emod_nonneg (y * 48271 + 11) (show (2147483647 : Int) ≠ 0 by decide)
      have hs1 := Int.emod_lt_of_pos (y * 48271 + 11) (show (0 : Int) < 2147483647 by decide)
      generalize (y * 48271 + 11) % 2147483647 = z at hs0 hs1
      refine r1 _ x z _ upd_same (r1 _ x z _ upd_same ?_)
      walk_at "rd"
      refine ⟨Or.inr ⟨by omega, by omega⟩, by decide, ⟨by decide, by decide⟩, hn, ?_⟩
      exact k _ _ _ ⟨hx, hs0, hs1⟩ (Int.emod_nonneg _ (by omega)) (Int.emod_lt_of_pos _ hn)
end
end K69
set_option Elab.async false
set_option linter.all false
set_option maxRecDepth 100000
set_option maxHeartbeats 4000000
namespace EX
open PySem L2 PySem.Spec PyProof.Rows LamX
/-! ### a lambda handed to a def that tells what it raised -/
/-- a wish need hold only for as many slots as there are -/
theorem takes_len {X : Cx} {W : WX} (t : Takes X W) : Takes X (fun cls d σ H => σ.length = X.N.length → W cls d σ H) := fun u s' ⟨a, B, sI, pins, σ, H, cls, d, e, I, nb, up, sky, na, os, ag, w⟩ =>
  t u s' ⟨a, B, sI, pins, σ, H, cls, d, e, I, nb, up, sky, na, os, ag, w I.len⟩
/-- isinstance(e, c) in a suite -/
def rIsD (K : PySem.W.Frag) (a : Addr) (cls : Value) (d : Option Addr) : List V → Hp → VK → Prop := fun xs H Q => ∃ dd, d = some dd ∧ ∃ (C : Addr) (fs : List (Str × V)) (c : V) (cv : Value) (b : Bool), xs = [.ref a, c] ∧ cls = .ref C ∧ EcC K C ∧ H dd = some (.xd fs) ∧ ClsV c cv ∧ PySem.W.kitOne K (.ref C) cv = some b ∧ Q (.bl b) H
theorem call_isD {X : Cx} {a : Addr} {cls : Value} {d : Option Addr} {oe : Obj} {pn : List (Addr × Obj)} (hz : Zc cls d oe) (hf : ∃ vs, oe.data = .fields vs) : CallR (X.suite a ((a, oe) :: pn)) (.builtin "isinstance") (rIsD X.K a cls d) := by
  intro pins s σ H xs us Q I r h
  obtain ⟨dd, rfl, h⟩ := h
  exact call_isS hz hf pins s σ H xs us Q I r h
/-- e.f in a suite, for the classes of which f is a field -/
def tXfs (Cs : List Addr) (a : Addr) (cls : Value) (d : Option Addr) (f : Str) (te : TE) : TE := fun σ H Q => ∃ C ∈ Cs, tXf a cls d C f te σ H Q
theorem pe_xfs {X : Cx} {a : Addr} {Cs : List Addr} {oe : Obj} {cls : Value} {d : Option Addr} {pn : List (Addr × Obj)} {e : Expr} {te : TE} {pos : Pos} {n : Str} (T : ∀ C ∈ Cs, EcC X.K C ∧ PySem.W.findIn X.K (.ref C) n = some none)
    (hz : Zc cls d oe) (hf : ∃ vs, oe.data = .fields vs) (he : PE (X.suite a ((a, oe) :: pn)) e te) (hb : attributeBase e n X.env (eval e X.env) = eval e X.env := by rfl) :
    PE (X.suite a ((a, oe) :: pn)) (.Attribute e n pos) (tXfs Cs a cls d n te) := by
  refine ⟨fun pins s σ H Q I h => ?_⟩
  obtain ⟨C, hC, h⟩ := h
  exact (pe_xf (T C hC).1.xf (T C hC).2 hz hf he hb).run pins s σ H Q I h
/-- what such a def makes of it: cs the classes caught with their words -/
def TSaid (K : PySem.W.Frag) (cs : List (Addr × Str)) (made : Str) : (XK → Hp → VK → Prop) → Hp → VK → Prop := fun tl H Q =>
  tl (fun cls d H' => ∃ (i : Nat) (C : Addr) (lbl : Str) (dd : Addr) (v : V) (dv : PyData), cs[i]? = some (C, lbl) ∧ cls = .ref C ∧ d = some dd ∧ H' dd = some (.xd [("given", v)]) ∧ DqS K H' v dv ∧ dv.showable = true ∧ dv.depth ≤ 60 ∧ dv.shown.length ≤ sizeLine ∧
    ∀ p, H' p = none → Q (.ref p) (upd H' p (.lst [.str lbl, .str dv.shown, .bl true]))) H (fun _ H' => 1 ≤ sizeLine ∧ ∀ p, H' p = none → Q (.ref p) (upd H' p (.lst [.str made])))
/-- the reading of one clause -/
def tSaid1 (K : PySem.W.Frag) (Cs : List Addr) (cb : Addr) (lbl : Str) (i : Nat) (a : Addr) (cls : Value) (d : Option Addr) : TS :=
  tRet (tLst (tCons (tC (.str lbl)) (tCons (tCB (rRepq K) (tCons (tXfs Cs a cls d "given" (tVar i)) tNil)) (tCons (tCB (rIsD K a cls d) (tCons (tVar i) (tCons (tC (.ref cb)) tNil))) tNil))))
/-- what stands of the classes -/
structure SaidC (K : PySem.W.Frag) (cb : Addr) (cs : List (Addr × Str)) : Prop where
  ec : ∀ p ∈ cs, EcC K p.1 ∧ PySem.W.findIn K (.ref p.1) "given" = some none
  cbk : ∀ p ∈ cs, PySem.W.kitOne K (.ref p.1) (.ref cb) = some true
  ex : ∀ (i j : Nat) (p q : Addr × Str), cs[i]? = some p → cs[j]? = some q → PySem.W.exmOne K (.ref p.1) (.ref q.1) = some (decide (i = j))
/-- the wish of the clauses from the k-th on, for an exception of the i-th class -/
theorem said_wish {K : PySem.W.Frag} {cb : Addr} {cs : List (Addr × Str)} (S : SaidC K cb cs) {Wout : WX} {D : Ends} {σ : L2.St} {H : Hp} {sl i : Nat} {C dd : Addr} {lbl : Str} {v : V} {dv : PyData} (hσ : sl < σ.length)
    (hi : cs[i]? = some (C, lbl)) (hx : H dd = some (.xd [("given", v)])) (hd : DqS K H v dv) (h1 : dv.showable = true) (h2 : dv.depth ≤ 60) (h3 : dv.shown.length ≤ sizeLine) (hq : ∀ p, H p = none → D.rt (.ref p) (upd H p (.lst [.str lbl, .str dv.shown, .bl true]))) :
    ∀ (l : List (Addr × Str)) (k : Nat), cs.drop k = l → k ≤ i → wCls K Wout D (l.map fun p => ⟨.ref p.1, some sl, tSaid1 K (cs.map (·.1)) cb p.2 sl⟩) (.ref C) (some dd) σ H
  | [], k, hl, hk => by
    have := congrArg List.length hl
    rw [List.length_drop] at this
    have := (List.getElem?_eq_some_iff.mp hi).1
    simp at *
    omega
  | p :: l, k, hl, hk => by
    have hp : cs[k]? = some p := by
      have : (cs.drop k)[0]? = some p := by rw [hl]; rfl
      rw [List.getElem?_drop] at this
      simpa using this
    have hl' : cs.drop (k + 1) = l := by
      rw [← List.drop_drop, hl]
      rfl
    refine ⟨decide (i = k), S.ex i k (C, lbl) p hi hp, fun e => ?_, fun e => ?_⟩
    · have e : i = k := of_decide_eq_true e
      subst e
      rw [hi] at hp
      cases hp
      intro a ha
      have hm : (C, lbl) ∈ cs := List.mem_of_getElem? hi
      have hs : (slotIn σ (some sl) (some (.ref a)))[sl]? = some (some (.ref a)) := by
        show (σ.set sl (some (.ref a)))[sl]? = _
        rw [List.getElem?_set_self hσ]
      refine ⟨C, List.mem_map.mpr ⟨_, hm, rfl⟩, _, hs, rfl, rfl, dd, _, v, rfl, hx, rfl, v, dv, rfl, hd, h1, h2, h3, ?_⟩
      exact ⟨_, hs, dd, rfl, C, _, _, .ref cb, true, rfl, rfl, (S.ec _ hm).1, hx, .own cb, S.cbk _ hm, by show 3 ≤ sizeLine; decide, hq⟩
    · have e : ¬ i = k := of_decide_eq_false e
      exact said_wish S hσ hi hx hd h1 h2 h3 hq l (k + 1) hl' (by omega)
end EX
set_option Elab.async false
set_option linter.all false
set_option maxRecDepth 100000
set_option maxHeartbeats 4000000
namespace K69
open PySem L2 EX PyProof.Rows M68 LamX
abbrev sSaid : Stmt := top 24
theorem scSd : FnScope ["_law_call", "e"] ["_law_call"] (defScope sSaid) := ⟨rfl, rfl, rfl, by decide +kernel, rfl, by decide +kernel, by decide +kernel⟩
def saidN : List Str := ["_law_call", "e"]
theorem said_gives {X : Cx} {cb C1 C2 g : Addr} {cdg : Value} {q : Str} (S : SaidC X.K cb [(C1, "tree"), (C2, "need")]) (m1 : X.mg "InvalidTree" = some (.ref C1)) (m2 : X.mg "InvalidNeed" = some (.ref C2)) (mcb : X.mg "CacheError" = some (.ref cb)) (hr : X.mg "repr" = none) (hi : X.mg "isinstance" = none)
    (hg0 : X.A.guards = some []) (hro : Room 2 X.A) : GivesTo X saidN "_law_said" (defScope sSaid) g cdg (defBody sSaid) "_law_call" q (TSaid X.K [(C1, "tree"), (C2, "need")] "made") := by
  intro f c' s H Q tl act hc h
  have hgu : (X.A.deeper (envOfC "_law_said" (defScope sSaid) s.heap.objs.size g cdg)).guards = some [] := guards_deeper hg0
  have hu70 : (X.A.deeper (envOfC "_law_said" (defScope sSaid) s.heap.objs.size g cdg)).units + 70 < cLine := by
    have := (hro.deeper (envOfC "_law_said" (defScope sSaid) s.heap.objs.size g cdg)).un
    omega
  have ec' : ∀ C ∈ [C1, C2], EcC X.K C ∧ PySem.W.findIn X.K (.ref C) "given" = some none := fun C hC => by
    rcases List.mem_cons.mp hC with rfl | hC
    · exact S.ec (C, "tree") (List.mem_cons_self ..)
    · rw [List.mem_singleton.mp hC]
      exact S.ec (C2, "need") (List.mem_cons_of_mem _ (List.mem_cons_self ..))
  refine ⟨_, pss_cons (ps_try_cls (tb := fun W D σ H => ∃ Ech : XK, (∀ cls d σ' H', Ech cls d H' → σ'.length = 2 → W cls d σ' H') ∧ σ[0]? = some (some (.ref f)) ∧ H c' = some (CodeO c' q) ∧ tl Ech H fun _ H1 => D.nx σ H1) (l := [⟨.ref C1, some 1, tSaid1 X.K [C1, C2] cb "tree" 1⟩, ⟨.ref C2, some 1, tSaid1 X.K [C1, C2] cb "need" 1⟩])
      rfl rfl scSd.nd L2.takes0 (fun W pn xe tk _ => ?_) (ClsOk.as ⟨by rfl, by decide, .inl m1⟩ rfl rfl (fun a oe cls d pn hz hf => (pss_one (ps_ret (pe_lst (pa_cons pe_str (pa_cons (pe_callB (call_reprq hgu hu70) (by rfl) hr (by decide +kernel) (pa_cons (pe_xfs (Cs := [C1, C2]) ec' hz hf (pv 1)) pa_nil)) (pa_cons (pe_callB (call_isD hz hf) (by rfl) hi PyProof.Rows.boot_isinstance (pa_cons (pv 1) (pa_cons (pe_glob (v := .ref cb) (by rfl) mcb rfl) pa_nil))) pa_nil))))))) (ClsOk.as ⟨by rfl, by decide, .inl m2⟩ rfl rfl (fun a oe cls d pn hz hf => (pss_one (ps_ret (pe_lst (pa_cons pe_str (pa_cons (pe_callB (call_reprq hgu hu70) (by rfl) hr (by decide +kernel) (pa_cons (pe_xfs (Cs := [C1, C2]) ec' hz hf (pv 1)) pa_nil)) (pa_cons (pe_callB (call_isD hz hf) (by rfl) hi PyProof.Rows.boot_isinstance (pa_cons (pv 1) (pa_cons (pe_glob (v := .ref cb) (by rfl) mcb rfl) pa_nil))) pa_nil))))))) .nil))) (pss_one (ps_ret (pe_lst (pa_cons pe_str pa_nil)))), ?_⟩
  · refine ⟨fun pins s' σ H' D I h' => ?_⟩
    obtain ⟨Ech, hW, h1, h2, h3⟩ := h'
    exact (pss_one (ps_expr (act (fun cls d σ H => σ.length = 2 → W cls d σ H) pn xe Ech _ _ (takes_len tk) hW))).run pins s' σ H' D I ⟨h1, h2, h3⟩
  · refine ⟨_, fun cls d σ' H' hE hl => ?_, rfl, hc, h⟩
    obtain ⟨i, C, lbl, dd, v, dv, e1, rfl, rfl, e4, e5, e6, e7, e8, e9⟩ := hE
    exact said_wish S (cs := [(C1, "tree"), (C2, "need")]) (by rw [hl]; decide) e1 e4 e5 e6 e7 e8 e9 _ 0 rfl (Nat.zero_le _)
end K69
set_option Elab.async false
set_option linter.all false
set_option maxRecDepth 100000
set_option maxHeartbeats 4000000
namespace K69
open PySem L2 EX PyProof.Rows M68 LamX
structure Bn (mg : Str → Option Value) : Prop where
  range : mg "range" = none
  max : mg "max" = none
  min : mg "min" = none
  len : mg "len" = none
  repr : mg "repr" = none
  isi : mg "isinstance" = none
  dict : mg "dict" = none
  list : mg "list" = none
  int : mg "int" = none
  bool : mg "bool" = none
  sorted : mg "sorted" = none
/-! ### dicts with keys that are texts -/
abbrev mapK {β : Type} (f : β → V) (l : List (Str × β)) : List (Key × V) := l.map fun p => (Sum.inr p.1, f p.2)
abbrev parK (par : Tr) : List (Key × V) := mapK V.str par
abbrev numK (need : Nd) : List (Key × V) := mapK (fun n : Nat => V.int (n : Int)) need
theorem mapK_get {β : Type} {f : β → V} {l : List (Str × β)} {i : Nat} {k : Key} {v : V} (h : (mapK f l)[i]? = some (k, v)) : ∃ x b, k = Sum.inr x ∧ v = f b ∧ l[i]? = some (x, b) := by
  rw [List.getElem?_map] at h
  cases e : l[i]? with
  | none => rw [e] at h; cases h
  | some p =>
    rw [e] at h
    cases h
    exact ⟨_, _, rfl, rfl, rfl⟩
theorem mapK_val {β : Type} {f : β → V} {l : List (Str × β)} {x : Str} {b : β} (hn : (l.map (·.1)).Nodup) (h : (x, b) ∈ l) : valV (mapK f l) (Sum.inr x) = some (f b) := by
  induction l with
  | nil => cases h
  | cons q t ih =>
    simp only [List.map_cons, List.nodup_cons] at hn
    rcases List.mem_cons.mp h with e | e
    · subst e
      exact valV_pos rfl
    · have : q.1 ≠ x := fun z => hn.1 (z ▸ List.mem_map.mpr ⟨_, e, rfl⟩)
      show valV ((Sum.inr q.1, f q.2) :: mapK f t) (Sum.inr x) = _
      rw [valV_neg (fun z => this (Sum.inr.inj z))]
      exact ih hn.2 e
theorem mapK_val_none {β : Type} {f : β → V} {l : List (Str × β)} {x : Str} (h : x ∉ l.map (·.1)) : valV (mapK f l) (Sum.inr x) = none := by
  induction l with
  | nil => rfl
  | cons q t ih =>
    simp only [List.map_cons, List.mem_cons, not_or] at h
    show valV ((Sum.inr q.1, f q.2) :: mapK f t) (Sum.inr x) = _
    rw [valV_neg (fun z => h.1 (Sum.inr.inj z).symm)]
    exact ih h.2
theorem putK_new {β : Type} {f : β → V} {l : List (Str × β)} {x : Str} {b : β} (h : x ∉ l.map (·.1)) : putK (mapK f l) (Sum.inr x) (f b) = mapK f (l ++ [(x, b)]) := by
  unfold putK
  rw [if_neg]
  · simp [mapK]
  · intro z
    rw [List.any_eq_true] at z
    obtain ⟨p, hp, e⟩ := z
    obtain ⟨q, hq, rfl⟩ := List.mem_map.mp hp
    exact h (List.mem_map.mpr ⟨q, hq, Sum.inr.inj (of_decide_eq_true e)⟩)
theorem mergeK_app {β : Type} {f : β → V} : ∀ {l m : List (Str × β)}, ((m ++ l).map (·.1)).Nodup → mergeK (mapK f m) (mapK f l) = mapK f (m ++ l)
  | [], m, _ => by rw [List.append_nil]; rfl
  | q :: t, m, h => by
    have hq : q.1 ∉ m.map (·.1) := by
      rw [List.map_append, List.nodup_append] at h
      intro z
      exact h.2.2 _ z _ (by simp) rfl
    show mergeK (putK (mapK f m) (Sum.inr q.1) (f q.2)) (mapK f t) = _
    rw [putK_new hq, mergeK_app (by simpa using h)]
    simp
theorem mergeK_nil {β : Type} {f : β → V} {l : List (Str × β)} (h : (l.map (·.1)).Nodup) : mergeK [] (mapK f l) = mapK f l := by
  have := mergeK_app (f := f) (l := l) (m := []) (by simpa using h)
  simpa using this
theorem lock_same {H H1 : Hp} {d : Addr} {u : HO} {od : Obj} (h : H d = some u) (s : Same (upd H d (.frz od u)) H1) : Same H (upd H1 d u) := fun b o e => by
  by_cases hb : b = d
  · subst hb
    rw [upd_same, ← h, e]
  · rw [upd_ne hb]
    refine s b o ?_
    rw [upd_ne hb]
    exact e
/-! ### slices -/
theorem cutV_from (xs : List V) (k : Nat) : cutV xs (some (k : Int)) none = xs.drop k := by
  unfold cutV
  rw [HT.sIx_nat, HT.sIx_none]
  rcases Nat.le_total k xs.length with h | h
  · rw [Nat.min_eq_left h]
    exact List.take_of_length_le (by rw [List.length_drop]; omega)
  · rw [Nat.min_eq_right h, List.drop_of_length_le h, List.drop_of_length_le (Nat.le_refl _)]
    simp
theorem cutV_to (xs : List V) (k : Nat) : cutV xs none (some (k : Int)) = xs.take k := by
  unfold cutV
  rw [HT.sIx_nat, HT.sIx_none, List.drop_zero]
  rcases Nat.le_total k xs.length with h | h
  · rw [Nat.min_eq_left h]
    rfl
  · rw [Nat.min_eq_right h, List.take_of_length_le h, List.take_of_length_le (by omega)]
/-! ### pairs in a list -/
abbrev PrsAt (K : PySem.W.Frag) (H : Hp) (ts : List Addr) (l : Tr) : Prop := Paired (fun (t : Addr) (p : Str × Str) => SqT K H t [.str p.1, .str p.2]) ts l
theorem PrsAt.mono {K : PySem.W.Frag} {H H' : Hp} (s : Same H H') : ∀ {ts : List Addr} {l : Tr}, PrsAt K H ts l → PrsAt K H' ts l
  | _, _, .nil => .nil
  | _, _, .cons h t => .cons (sqt_same s h) (PrsAt.mono s t)
/-- all but p is kept -/
def But (p : Addr) (H H' : Hp) : Prop := ∀ b o, b ≠ p → H b = some o → H' b = some o
theorem But.trans {p : Addr} {H H1 H2 : Hp} (a : But p H H1) (b : But p H1 H2) : But p H H2 := fun c o n e => b c o n (a c o n e)
theorem Same.but {p : Addr} {H H' : Hp} (s : Same H H') : But p H H' := fun b o _ e => s b o e
theorem But.put {p q : Addr} {H H' : Hp} {o : HO} (b : But p H H') (hq : H q = none) : But p H (upd H' q o) := fun c u n e => by rw [upd_ne (ne_of_none e hq)]; exact b c u n e
theorem But.own {p : Addr} {H H' : Hp} {o : HO} (b : But p H H') : But p H (upd H' p o) := fun c u n e => by rw [upd_ne n]; exact b c u n e
theorem But.sqt {K : PySem.W.Frag} {H H' : Hp} {p a : Addr} {xs ys : List V} (s : But p H H') (hp : H p = some (.lst ys)) (h : SqT K H a xs) : SqT K H' a xs := by
  have ne : ∀ {o}, H a = some o → o ≠ .lst ys → a ≠ p := fun {o} e d z => by rw [z, hp] at e; exact d (Option.some.inj e).symm
  rcases h with (h | ⟨o, h⟩) | h
  · exact .inl (.inl (s _ _ (ne h (fun z => by cases z)) h))
  · exact .inl (.inr ⟨o, s _ _ (ne h (fun z => by cases z)) h⟩)
  · exact .inr h
theorem PrsAt.but {K : PySem.W.Frag} {H H' : Hp} {p : Addr} {ys : List V} (s : But p H H') (hp : H p = some (.lst ys)) : ∀ {ts : List Addr} {l : Tr}, PrsAt K H ts l → PrsAt K H' ts l
  | _, _, .nil => .nil
  | _, _, .cons h t => .cons (s.sqt hp h) (PrsAt.but s hp t)
theorem PrsAt.drop {K : PySem.W.Frag} {H : Hp} : ∀ {ts : List Addr} {l : Tr} (k : Nat), PrsAt K H ts l → PrsAt K H (ts.drop k) (l.drop k)
  | _, _, 0, h => h
  | _, _, k + 1, .nil => .nil
  | _, _, k + 1, .cons _ t => PrsAt.drop k t
theorem PrsAt.take {K : PySem.W.Frag} {H : Hp} : ∀ {ts : List Addr} {l : Tr} (k : Nat), PrsAt K H ts l → PrsAt K H (ts.take k) (l.take k)
  | _, _, 0, _ => .nil
  | _, _, k + 1, .nil => .nil
  | _, _, k + 1, .cons h t => .cons h (PrsAt.take k t)
theorem PrsAt.app {K : PySem.W.Frag} {H : Hp} : ∀ {ts us : List Addr} {l m : Tr}, PrsAt K H ts l → PrsAt K H us m → PrsAt K H (ts ++ us) (l ++ m)
  | _, _, _, _, .nil, h => h
  | _, _, _, _, .cons h t, h' => .cons h (PrsAt.app t h')
theorem PrsAt.rev {K : PySem.W.Frag} {H : Hp} : ∀ {ts : List Addr} {l : Tr}, PrsAt K H ts l → PrsAt K H ts.reverse l.reverse
  | _, _, .nil => .nil
  | _, _, .cons h t => by
    rw [List.reverse_cons, List.reverse_cons]
    exact PrsAt.app (PrsAt.rev t) (.cons h .nil)
theorem PrsAt.kv {K : PySem.W.Frag} {H : Hp} : ∀ {ts : List Addr} {l : Tr}, PrsAt K H ts l → Paired (fun (p : Addr) (kv : Key × V) => SqT K H p [kV kv.1, kv.2]) ts (parK l)
  | _, _, .nil => .nil
  | _, _, .cons h t => .cons h (PrsAt.kv t)
/-! ### the names of the law -/
def nm11 : List Str := ["d", "b", "a", "c", "f", "e", "h", "g", "k", "i", "j"]
abbrev l11 : List V := [V.str "d", V.str "b", V.str "a", V.str "c", V.str "f", V.str "e", V.str "h", V.str "g", V.str "k", V.str "i", V.str "j"]
theorem nm_nd : nm11.Nodup := by decide +kernel
theorem nm_st : ∀ x ∈ nm11, x ≠ store := by decide +kernel
/-- what the first loop makes: the i-th name below an earlier one, or the store -/
structure Born (n : Nat) (l : Tr) : Prop where
  keys : l.map (·.1) = nm11.take n
  up : ∀ (i : Nat) (k z : Str), l[i]? = some (k, z) → z = store ∨ ∃ j, j < i ∧ nm11[j]? = some z
theorem idx_at : ∀ i x, nm11[i]? = some x → nm11.idxOf x = i := by
  intro i x h
  have hi := (List.getElem?_eq_some_iff.mp h)
  obtain ⟨h1, h2⟩ := hi
  rw [← h2]
  exact List.Nodup.idxOf_getElem nm_nd i h1
theorem Born.snoc {n : Nat} {l : Tr} {x z : Str} (B : Born n l) (hx : nm11[n]? = some x) (hz : z = store ∨ ∃ j, j < n ∧ nm11[j]? = some z) : Born (n + 1) (l ++ [(x, z)]) := by
  have hlen : l.length = n := by
    have := congrArg List.length B.keys
    rw [List.length_map, List.length_take] at this
    have := (List.getElem?_eq_some_iff.mp hx).1
    omega
  refine ⟨by rw [List.map_append, B.keys, List.take_add_one, hx]; rfl, fun i k z' h => ?_⟩
  rw [List.getElem?_append] at h
  split at h
  · exact B.up i k z' h
  · rename_i hi
    have e : i = n := by
      have := (List.getElem?_eq_some_iff.mp h).1
      simp at this
      omega
    subst e
    rw [hlen] at h
    simp at h
    obtain ⟨_, rfl⟩ := h
    exact hz
theorem Born.tree {n : Nat} {l m : Tr} (B : Born n l) (h0 : 0 < n) (hn : n ≤ 11) (p : m.Perm l) : TreeP m ∧ (∀ q ∈ m, q.1 ∈ nm11) ∧ m.length = n := by
  have hk : (m.map (·.1)).Perm (nm11.take n) := B.keys ▸ p.map _
  have hl : m.length = n := by
    have := hk.length_eq
    rw [List.length_map, List.length_take] at this
    have e : nm11.length = 11 := rfl
    omega
  have hmem : ∀ q ∈ m, q.1 ∈ nm11 := fun q hq => List.mem_of_mem_take (hk.mem_iff.mp (List.mem_map.mpr ⟨q, hq, rfl⟩))
  refine ⟨⟨hk.nodup_iff.mpr (nm_nd.sublist (List.take_sublist _ _)), fun z => by rw [z] at hl; simp at hl; omega, by omega, fun q hq => nm_st _ (hmem q hq), nm11.idxOf, fun q hq => ?_⟩, hmem, hl⟩
  obtain ⟨i, hi⟩ := List.getElem?_of_mem (p.mem_iff.mp hq)
  have hi' : l[i]? = some (q.1, q.2) := hi
  rcases B.up i q.1 q.2 hi' with e | ⟨j, hj, e⟩
  · exact .inl e
  · right
    have hq1 : nm11[i]? = some q.1 := by
      have z : (l.map (·.1))[i]? = some q.1 := by rw [List.getElem?_map, hi]; rfl
      rw [B.keys] at z
      rw [List.getElem?_take] at z
      split at z
      · exact z
      · cases z
    refine ⟨?_, ?_⟩
    · have hjn : j < n := by
        have h1 := (List.getElem?_eq_some_iff.mp hi).1
        have h2 : l.length = n := by rw [← hl]; exact p.length_eq.symm
        omega
      have z : (nm11.take n)[j]? = some q.2 := by rw [List.getElem?_take, if_pos hjn]; exact e
      exact hk.mem_iff.mpr (List.mem_of_getElem? z)
    · show nm11.idxOf q.2 < nm11.idxOf q.1
      rw [idx_at _ _ e, idx_at _ _ hq1]
      exact hj
theorem perm_a (ts : Tr) (k : Nat) : (ts.drop k ++ ts.take k).Perm ts := (List.perm_append_comm).trans (by rw [List.take_append_drop])
theorem perm_b (ts : Tr) (k : Nat) : (ts.take k ++ (ts.drop k).reverse).Perm ts := (List.Perm.append_left _ (List.reverse_perm _)).trans (by rw [List.take_append_drop])
/-- _law_tree(source, most) -/
def spTree (K : PySem.W.Frag) : Sp := fun vs H Q _ => ∃ (p : Addr) (x y : Int) (most : Nat), vs = [.ref p, .int (most : Int)] ∧ H p = some (.lst [.int x, .int y]) ∧ SrcOk x y ∧ 0 < most ∧ most ≤ 11 ∧
  ∀ (q : Addr) (par : Tr) (x' y' : Int) (H' : Hp), But p H H' → H' p = some (.lst [.int x', .int y']) → SrcOk x' y' → H q = none → H' q = some (.dK (parK par)) → TreeP par → (∀ z ∈ par, z.1 ∈ nm11) → par.length ≤ most → Q (.ref q) H'
abbrev sTre : Stmt := top 21
theorem scT : FnScope ["_law_source_here", "_law_most", "_law_names", "_law_pairs", "_law_at", "_law_spot", "_law_attempt"] ["_law_source_here", "_law_most"] (defScope sTre) := ⟨rfl, rfl, rfl, by decide +kernel, rfl, by decide +kernel, by decide +kernel⟩
section
variable {P : Program} {w : World} {K : PySem.W.Frag} {mg : Str → Option Value} {base : Heap}
theorem ok_tree {f : Addr} {fd : FuncData} (F : Fun K "_law_tree" "_law_tree" sTre f fd) (B : Bn mg) (GD : DefAt P w K mg base 1 "_law_draw" ["_law_source_here", "_law_amount"] spDraw) : FnOk P w K mg base CX0 2 f fd ["_law_source_here", "_law_most"] (spTree K) := by
  refine F.ok scT (fun vs H Q E h => ?_) (fun cdv A outer s H vs Q E hr h => ?_)
  · obtain ⟨p, x, y, most, rfl, _⟩ := h
    rfl
  · obtain ⟨p, x, y, most, rfl, hp, src, hm0, hm, k⟩ := h
    have hr1 : Room 1 _ := hr
    refine ⟨_, (pss_cons (ps_set (i := 2) scT.nd rfl (Or.inl rfl) (pe_slice sl_list (pe_lst (pa_cons pe_str (pa_cons pe_str (pa_cons pe_str (pa_cons pe_str (pa_cons pe_str (pa_cons pe_str (pa_cons pe_str (pa_cons pe_str (pa_cons pe_str (pa_cons pe_str (pa_cons pe_str pa_nil)))))))))))) po_none (po_some (pe_op op_add pe_int (pe_callD GD hr1 (pa_cons (pv 0) (pa_cons (pv 1) pa_nil)))))))
        (pss_cons (ps_set (i := 3) scT.nd rfl (Or.inl rfl) (pe_lst pa_nil))
        (pss_cons (ps_for PassesOwn.never rfl (pi_range1 (by rfl) B.range (pa_cons (pe_callB call_len_seq (by rfl) B.len PySem.boot_len (pa_cons (pv 2) pa_nil)) pa_nil)) (pg_name (i := 4) scT.nd rfl (Or.inl rfl)) (pss_cons (ps_set (i := 5) scT.nd rfl (Or.inl rfl) (pe_callD GD hr1 (pa_cons (pv 0) (pa_cons (pe_op op_add (pv 4) pe_int) pa_nil))))
        (pss_one (ps_expr (pe_bm PySem.F.plainAttrs_list PySem.F.slot_list_append PySem.F.type_list_append mt_append (pv 3) (pa_cons (pe_tup (pa_cons (pe_ix ix_list (pv 2) (pv 4) (fun _ _ => rfl)) (pa_cons (pe_ifExp (pt_cmpR op_gt (pv 5) pe_int (nomark _)) (pe_ix ix_list (pv 2) (pe_op op_sub (pv 5) pe_int) (fun _ _ => rfl)) pe_str) pa_nil))) pa_nil))))))
        (pss_cons (ps_for PassesOwn.never rfl (pi_range1 (by rfl) B.range (pa_cons (pe_callB call_len_seq (by rfl) B.len PySem.boot_len (pa_cons (pv 3) pa_nil)) pa_nil)) (pg_name (i := 6) scT.nd rfl (Or.inl rfl)) (pss_cons (ps_set (i := 4) scT.nd rfl (Or.inl rfl) (pe_callD GD hr1 (pa_cons (pv 0) (pa_cons (pe_callB call_len_seq (by rfl) B.len PySem.boot_len (pa_cons (pv 3) pa_nil)) pa_nil))))
        (pss_one (ps_set (i := 3) scT.nd rfl (Or.inl rfl) (pe_ifExp (pt_cmpR op_eq (pe_op op_mod (pv 6) pe_int) pe_int (nomark _)) (pe_op op_cat (pe_slice sl_list (pv 3) (po_some (pv 4)) po_none) (pe_slice sl_list (pv 3) po_none (po_some (pv 4)))) (pe_op op_cat (pe_slice sl_list (pv 3) po_none (po_some (pv 4))) (pe_revL (pe_slice sl_list (pv 3) (po_some (pv 4)) po_none))))))))
        (pss_one (ps_ret (pe_callTy (call_dictP rfl) (by rfl) B.dict (by decide +kernel) (pa_cons (pv 3) pa_nil)))))))), ?_⟩
    refine ⟨by show 11 ≤ sizeLine; decide, fun n0 hn0 => ?_⟩
    have b0 : But p H (upd H n0 (.lst l11)) := Same.but (Same.upd hn0)
    have lp : upd H n0 (HO.lst l11) p = some (.lst [.int x, .int y]) := by rw [upd_ne (ne_of_none hp hn0)]; exact hp
    have ln0 : upd H n0 (HO.lst l11) n0 = some (.lst (nm11.map V.str)) := upd_same
    have hnp : n0 ≠ p := fun z => by rw [z, hp] at hn0; cases hn0
    generalize upd H n0 (HO.lst l11) = H1 at b0 lp ln0 ⊢
    refine ⟨_, rfl, _, rfl, p, x, y, _, rfl, lp, src, by omega, by omega, fun x1 y1 d src1 d0 d1 => ?_⟩
    obtain ⟨d, rfl⟩ := Int.eq_ofNat_of_zero_le d0
    refine ⟨_, _, rfl, rfl, _, rfl, n0, nm11.map V.str, rfl, SqL.of (by rw [upd_ne hnp]; exact ln0), fun n1 hn1 => ?_⟩
    have hcut : cutV (nm11.map V.str) none (some (1 + (d : Int))) = (nm11.take (d + 1)).map V.str := by
      have : (1 : Int) + (d : Int) = ((d + 1 : Nat) : Int) := by omega
      rw [this, cutV_to, List.map_take]
    rw [hcut]
    have hpn1 : p ≠ n1 := fun z => by rw [← z, upd_same] at hn1; cases hn1
    have nH : ∀ {b : Addr}, b ≠ p → upd H1 p (HO.lst [.int x1, .int y1]) b = none → H b = none := fun {b} hb z => by
      cases q : H b with
      | none => rfl
      | some o =>
        rw [upd_ne hb, b0 b o hb q] at z
        cases z
    have nn1 : H n1 = none := nH (Ne.symm hpn1) hn1
    have b1 : But p H (upd (upd H1 p (.lst [.int x1, .int y1])) n1 (.lst ((nm11.take (d + 1)).map V.str))) := (But.own b0).put nn1
    have lp1 : upd (upd H1 p (.lst [.int x1, .int y1])) n1 (.lst ((nm11.take (d + 1)).map V.str)) p = some (.lst [.int x1, .int y1]) := by rw [upd_ne hpn1, upd_same]
    have ln1 : upd (upd H1 p (.lst [.int x1, .int y1])) n1 (.lst ((nm11.take (d + 1)).map V.str)) n1 = some (.lst ((nm11.take (d + 1)).map V.str)) := upd_same
    generalize upd (upd H1 p (.lst [.int x1, .int y1])) n1 (.lst ((nm11.take (d + 1)).map V.str)) = H2 at b1 lp1 ln1 ⊢
    clear b0 lp ln0 nH hn1 hcut
    refine ⟨by show 0 ≤ sizeLine; decide, fun q hq => ?_⟩
    have hqp : q ≠ p := fun z => by rw [z, lp1] at hq; cases hq
    have hqn : n1 ≠ q := ne_of_none ln1 hq
    have nq : H q = none := by
      cases z : H q with
      | none => rfl
      | some o => rw [b1 q o hqp z] at hq; cases hq
    have b2 : But p H (upd H2 q (.lst [])) := b1.put nq
    have lp2 : upd H2 q (HO.lst []) p = some (.lst [.int x1, .int y1]) := by rw [upd_ne (Ne.symm hqp)]; exact lp1
    have ln2 : upd H2 q (HO.lst []) n1 = some (.lst ((nm11.take (d + 1)).map V.str)) := by rw [upd_ne hqn]; exact ln1
    have lq2 : upd H2 q (HO.lst []) q = some (.lst []) := upd_same
    generalize upd H2 q (HO.lst []) = H3 at b2 lp2 ln2 lq2 ⊢
    clear b1 lp1 ln1 hq
    have hd11 : d + 1 ≤ 11 := by omega
    have hlenN : ((nm11.take (d + 1)).map V.str).length = d + 1 := by
      rw [List.length_map, List.length_take]
      have e : nm11.length = 11 := rfl
      omega
    refine ⟨_, rfl, n1, _, rfl, .inl (SqL.of ln2), _, rfl, by rw [hlenN]; omega, by rw [hlenN]; omega, ?_⟩
    rw [show (((nm11.take (d + 1)).map V.str).length : Int) = ((d + 1 : Nat) : Int) by rw [hlenN]]
    refine for_range (lo := 0) (n := d + 1) (fun i σ H' => ∃ v4 v5 v6 x' y' ts l, σ = [some (.ref p), some (.int (most : Int)), some (.ref n1), some (.ref q), v4, v5, v6] ∧ But p H H' ∧ H' p = some (.lst [.int x', .int y']) ∧ SrcOk x' y' ∧ H' n1 = some (.lst ((nm11.take (d + 1)).map V.str)) ∧ H' q = some (.lst (ts.map V.ref)) ∧ PrsAt K H' ts l ∧ Born i l)
      ⟨_, _, _, x1, y1, [], [], rfl, b2, lp2, src1, ln2, lq2, .nil, ⟨by simp, fun i k z h => by simp at h⟩⟩ ?_ ?_
    · rintro i σ H' hi ⟨v4, v5, v6, x', y', ts, l, rfl, b3, lp3, src3, ln3, lq3, pa, BO⟩
      refine ⟨_, rfl, _, rfl, _, _, rfl, rfl, p, x', y', _, rfl, lp3, src3, by omega, by omega, fun x2 y2 sp srcs s0 s1 => ?_⟩
      obtain ⟨sp, rfl⟩ := Int.eq_ofNat_of_zero_le s0
      have b4 : But p H (upd H' p (.lst [.int x2, .int y2])) := But.own b3
      have s4 : But p H' (upd H' p (.lst [.int x2, .int y2])) := fun b o hb e => by rw [upd_ne hb]; exact e
      have lp4 : upd H' p (HO.lst [.int x2, .int y2]) p = some (.lst [.int x2, .int y2]) := upd_same
      have ln4 := s4 _ _ (Ne.symm hpn1) ln3
      have lq4 := s4 _ _ hqp lq3
      have pa4 := pa.but s4 lp3
      generalize upd H' p (HO.lst [.int x2, .int y2]) = H4 at b4 lp4 ln4 lq4 pa4 ⊢
      clear b3 s4 lp3 ln3 lq3 pa
      have hlen : ts.length = i := by
        have h1 := Paired.length pa4
        have h2 := congrArg List.length BO.keys
        rw [List.length_map, List.length_take] at h2
        have e : nm11.length = 11 := rfl
        omega
      obtain ⟨nx, hnx⟩ : ∃ nx, nm11[i]? = some nx := ⟨_, List.getElem?_eq_getElem (show i < 11 by omega)⟩
      have getN : ∀ {j : Nat} {z : Str}, j < d + 1 → nm11[j]? = some z → atI ((nm11.take (d + 1)).map V.str) (j : Int) = some (.str z) := fun {j z} hj e => by
        refine atI_nat ?_
        rw [List.getElem?_map, List.getElem?_take, if_pos hj, e]
        rfl
      have fin : ∀ (z : Str) (hz : z = store ∨ ∃ j, j < i ∧ nm11[j]? = some z), 2 ≤ sizeLine ∧ ∀ t, H4 t = none → ∃ (a : Addr) (ys : List V) (v : V), V.ref q = .ref a ∧ [V.ref t] = [v] ∧ upd H4 t (.tup [.str nx, .str z]) a = some (.lst ys) ∧ ys.length < sizeLine ∧
          ∃ w4 w5 w6 x' y' ts l, [some (V.ref p), some (.int (most : Int)), some (.ref n1), some (.ref q), some (.int (0 + (i : Int))), some (.int ((sp : Nat) : Int)), v6] = [some (V.ref p), some (.int (most : Int)), some (.ref n1), some (.ref q), w4, w5, w6] ∧ But p H (upd (upd H4 t (.tup [.str nx, .str z])) a (.lst (ys ++ [v]))) ∧ upd (upd H4 t (.tup [.str nx, .str z])) a (.lst (ys ++ [v])) p = some (.lst [.int x', .int y']) ∧ SrcOk x' y' ∧ upd (upd H4 t (.tup [.str nx, .str z])) a (.lst (ys ++ [v])) n1 = some (.lst ((nm11.take (d + 1)).map V.str)) ∧ upd (upd H4 t (.tup [.str nx, .str z])) a (.lst (ys ++ [v])) q = some (.lst (ts.map V.ref)) ∧ PrsAt K (upd (upd H4 t (.tup [.str nx, .str z])) a (.lst (ys ++ [v]))) ts l ∧ Born (i + 1) l := by
        intro z hz
        refine ⟨by decide, fun t ht => ?_⟩
        have s5 : Same H4 (upd H4 t (.tup [.str nx, .str z])) := Same.upd ht
        have lt5 : upd H4 t (HO.tup [.str nx, .str z]) t = some (.tup [.str nx, .str z]) := upd_same
        have b5 := b4.trans (Same.but (p := p) s5)
        have lp5 := s5 _ _ lp4
        have ln5 := s5 _ _ ln4
        have lq5 := s5 _ _ lq4
        have pa5 := pa4.mono s5
        generalize upd H4 t (HO.tup [.str nx, .str z]) = H5 at b5 lt5 lp5 ln5 lq5 pa5 ⊢
        refine ⟨q, ts.map V.ref, .ref t, rfl, rfl, lq5, by rw [List.length_map, hlen, sizeLine_eq]; omega, ?_⟩
        have s6 : But q H5 (upd H5 q (.lst (ts.map V.ref ++ [.ref t]))) := fun b o hb e => by rw [upd_ne hb]; exact e
        exact ⟨_, _, _, x2, y2, ts ++ [t], l ++ [(nx, z)], rfl, b5.put nq, s6 _ _ (Ne.symm hqp) lp5, srcs, s6 _ _ hqn ln5, by rw [upd_same, List.map_append]; rfl, (pa5.but s6 lq5).app (.cons (s6.sqt lq5 (SqT.of lt5)) .nil), BO.snoc hnx hz⟩
      refine ⟨_, rfl, .inl ⟨rfl, _, SqL.of lq4⟩, _, rfl, _, rfl, n1, _, _, _, rfl, rfl, SqL.of ln4, (by rw [Int.zero_add]; exact getN hi hnx), _, rfl, _, _, rfl, rfl, _, rfl, ite2 (fun hs => ?_) (fun hs => ?_)⟩
      · have hs' : (0 : Int) < (sp : Int) := by simpa using hs
        obtain ⟨z, hz⟩ : ∃ z, nm11[sp - 1]? = some z := ⟨_, List.getElem?_eq_getElem (show sp - 1 < 11 by omega)⟩
        refine ⟨_, rfl, _, rfl, _, _, rfl, rfl, n1, _, _, _, rfl, rfl, SqL.of ln4, (by
          have : (sp : Int) - 1 = ((sp - 1 : Nat) : Int) := by omega
          rw [this]
          exact getN (by omega) hz), ?_⟩
        exact fin z (.inr ⟨sp - 1, by omega, hz⟩)
      · exact fin store (.inl rfl)
    · rintro σ H' ⟨v4, v5, v6, x', y', ts, l, rfl, b3, lp3, src3, ln3, lq3, pa, BO⟩
      have hlen : ts.length = d + 1 := by
        have h1 := Paired.length pa
        have h2 := congrArg List.length BO.keys
        rw [List.length_map, List.length_take] at h2
        have e : nm11.length = 11 := rfl
        omega
      clear ln3 ln2 lq2 lp2 b2 src1
      have hlr : (ts.map V.ref).length = d + 1 := by rw [List.length_map, hlen]
      refine ⟨_, rfl, q, _, rfl, .inl (SqL.of lq3), _, rfl, by rw [hlr]; omega, by rw [hlr]; omega, ?_⟩
      refine for_range (lo := 0) (n := ((ts.map V.ref).length : Int).toNat) (fun i σ H' => ∃ v4 v5 v6 x' y' us m q2, σ = [some (.ref p), some (.int (most : Int)), some (.ref n1), some (.ref q2), v4, v5, v6] ∧ But p H H' ∧ H' p = some (.lst [.int x', .int y']) ∧ SrcOk x' y' ∧ H' q2 = some (.lst (us.map V.ref)) ∧ q2 ≠ p ∧ PrsAt K H' us m ∧ m.Perm l ∧ us.length = d + 1)
        ⟨_, _, _, x', y', ts, l, q, rfl, b3, lp3, src3, lq3, hqp, pa, List.Perm.refl _, hlen⟩ ?_ ?_
      · rintro i σ H4 hi ⟨v4, v5, v6, x1, y1, us, m, q2, rfl, b4, lp4, src4, lq4, hq2, pa4, pm, hul⟩
        have hlu : (us.map V.ref).length = d + 1 := by rw [List.length_map, hul]
        refine ⟨_, rfl, _, rfl, q2, _, rfl, .inl (SqL.of lq4), p, x1, y1, _, rfl, lp4, src4, by rw [hlu]; omega, by rw [hlu]; omega, fun x2 y2 a srca a0 a1 => ?_⟩
        obtain ⟨a, rfl⟩ := Int.eq_ofNat_of_zero_le a0
        have b5 : But p H (upd H4 p (.lst [.int x2, .int y2])) := But.own b4
        have s5 : But p H4 (upd H4 p (.lst [.int x2, .int y2])) := fun b o hb e => by rw [upd_ne hb]; exact e
        have lp5 : upd H4 p (HO.lst [.int x2, .int y2]) p = some (.lst [.int x2, .int y2]) := upd_same
        have lq5 := s5 _ _ hq2 lq4
        have pa5 := pa4.but s5 lp4
        generalize upd H4 p (HO.lst [.int x2, .int y2]) = H5 at b5 lp5 lq5 pa5 ⊢
        clear b4 s5 lp4 lq4 pa4
        have nfree : ∀ {H6 : Hp} {b : Addr}, But p H H6 → H6 p = some (.lst [.int x2, .int y2]) → H6 b = none → H b = none ∧ b ≠ p := fun {H6 b} bb ll z => by
          have hb : b ≠ p := fun e => by rw [e, ll] at z; cases z
          refine ⟨?_, hb⟩
          cases w : H b with
          | none => rfl
          | some o => rw [bb b o hb w] at z; cases z
        have step : ∀ (us' : List Addr) (m' : Tr) (H6 : Hp) (v4' v5' v6' : Option V), Same H5 H6 → PrsAt K H6 us' m' → m'.Perm l → us'.length = d + 1 → ∀ q3, H6 q3 = none → ∃ v4 v5 v6 x' y' us m q2, [some (V.ref p), some (.int (most : Int)), some (.ref n1), some (.ref q3), v4', v5', v6'] = [some (V.ref p), some (.int (most : Int)), some (.ref n1), some (.ref q2), v4, v5, v6] ∧ But p H (upd H6 q3 (.lst (us'.map V.ref))) ∧ upd H6 q3 (.lst (us'.map V.ref)) p = some (.lst [.int x', .int y']) ∧ SrcOk x' y' ∧ upd H6 q3 (.lst (us'.map V.ref)) q2 = some (.lst (us.map V.ref)) ∧ q2 ≠ p ∧ PrsAt K (upd H6 q3 (.lst (us'.map V.ref))) us m ∧ m.Perm l ∧ us.length = d + 1 := by
          intro us' m' H6 v4' v5' v6' S pa6 pm6 hl6 q3 hq3
          have b6 := b5.trans (Same.but (p := p) S)
          obtain ⟨n3, ne3⟩ := nfree b6 (S _ _ lp5) hq3
          exact ⟨_, _, _, x2, y2, us', m', q3, rfl, b6.put n3, by rw [upd_ne (Ne.symm ne3)]; exact S _ _ lp5, srca, upd_same, ne3, pa6.mono (Same.upd hq3), pm6, hl6⟩
        refine ⟨_, rfl, _, _, rfl, rfl, by show (0 : Int) < 2; decide, rfl, _, rfl, ite2 (fun _ => ?_) (fun _ => ?_)⟩
        · refine ⟨_, rfl, _, rfl, _, rfl, q2, _, rfl, SqL.of lq5, fun z1 hz1 => ?_⟩
          rw [cutV_from, ← List.map_drop]
          have t1 : Same H5 (upd H5 z1 (.lst ((us.drop a).map V.ref))) := Same.upd hz1
          have l1 : upd H5 z1 (HO.lst ((us.drop a).map V.ref)) z1 = some (.lst ((us.drop a).map V.ref)) := upd_same
          generalize upd H5 z1 (HO.lst ((us.drop a).map V.ref)) = H6 at t1 l1 ⊢
          refine ⟨_, rfl, _, rfl, _, rfl, q2, _, rfl, SqL.of (t1 _ _ lq5), fun z2 hz2 => ?_⟩
          rw [cutV_to, ← List.map_take]
          have t2 : Same H6 (upd H6 z2 (.lst ((us.take a).map V.ref))) := Same.upd hz2
          have l2 : upd H6 z2 (HO.lst ((us.take a).map V.ref)) z2 = some (.lst ((us.take a).map V.ref)) := upd_same
          generalize upd H6 z2 (HO.lst ((us.take a).map V.ref)) = H7 at t2 l2 ⊢
          refine ⟨z1, z2, _, _, rfl, rfl, t2 _ _ l1, l2, ?_, fun z3 hz3 => ?_⟩
          · rw [List.length_map, List.length_map, List.length_drop, List.length_take, sizeLine_eq]
            omega
          · rw [← List.map_append]
            have S := Same.trans t1 t2
            exact step (us.drop a ++ us.take a) (m.drop a ++ m.take a) H7 _ _ _ S (((pa5.drop a).app (pa5.take a)).mono S) ((perm_a m a).trans pm) (by rw [List.length_append, List.length_drop, List.length_take]; omega) z3 hz3
        · refine ⟨_, rfl, _, rfl, _, rfl, q2, _, rfl, SqL.of lq5, fun z1 hz1 => ?_⟩
          rw [cutV_to, ← List.map_take]
          have t1 : Same H5 (upd H5 z1 (.lst ((us.take a).map V.ref))) := Same.upd hz1
          have l1 : upd H5 z1 (HO.lst ((us.take a).map V.ref)) z1 = some (.lst ((us.take a).map V.ref)) := upd_same
          generalize upd H5 z1 (HO.lst ((us.take a).map V.ref)) = H6 at t1 l1 ⊢
          refine ⟨_, rfl, _, rfl, _, rfl, q2, _, rfl, SqL.of (t1 _ _ lq5), fun z2 hz2 => ?_⟩
          rw [cutV_from, ← List.map_drop]
          have t2 : Same H6 (upd H6 z2 (.lst ((us.drop a).map V.ref))) := Same.upd hz2
          have l2 : upd H6 z2 (HO.lst ((us.drop a).map V.ref)) z2 = some (.lst ((us.drop a).map V.ref)) := upd_same
          generalize upd H6 z2 (HO.lst ((us.drop a).map V.ref)) = H7 at t2 l2 ⊢
          refine ⟨z2, _, rfl, SqL.of l2, fun z3 hz3 => ?_⟩
          rw [← List.map_reverse]
          have t3 : Same H7 (upd H7 z3 (.lst ((us.drop a).reverse.map V.ref))) := Same.upd hz3
          have l3 : upd H7 z3 (HO.lst ((us.drop a).reverse.map V.ref)) z3 = some (.lst ((us.drop a).reverse.map V.ref)) := upd_same
          generalize upd H7 z3 (HO.lst ((us.drop a).reverse.map V.ref)) = H8 at t3 l3 ⊢
          refine ⟨z1, z3, _, _, rfl, rfl, t3 _ _ (t2 _ _ l1), l3, ?_, fun z4 hz4 => ?_⟩
          · rw [List.length_map, List.length_map, List.length_reverse, List.length_drop, List.length_take, sizeLine_eq]
            omega
          · rw [← List.map_append]
            have S := Same.trans t1 (Same.trans t2 t3)
            exact step (us.take a ++ (us.drop a).reverse) (m.take a ++ (m.drop a).reverse) H8 _ _ _ S (((pa5.take a).app (pa5.drop a).rev).mono S) ((perm_b m a).trans pm) (by rw [List.length_append, List.length_reverse, List.length_drop, List.length_take]; omega) z4 hz4
      · rintro σ H4 ⟨v4, v5, v6, x1, y1, us, m, q2, rfl, b4, lp4, src4, lq4, hq2, pa4, pm, hul⟩
        obtain ⟨T, h11, hln⟩ := BO.tree (by omega) hd11 pm
        refine ⟨_, rfl, q2, us, parK m, rfl, SqL.of lq4, pa4.kv, fun r hr' => ?_⟩
        rw [mergeK_nil T.nd]
        have hrp : r ≠ p := fun e => by rw [e, lp4] at hr'; cases hr'
        have nr : H r = none := by
          cases w : H r with
          | none => rfl
          | some o => rw [b4 r o hrp w] at hr'; cases hr'
        exact k r m x1 y1 _ (b4.put nr) (by rw [upd_ne (Ne.symm hrp)]; exact lp4) src4 nr upd_same T h11 (by omega)

end
end K69
set_option Elab.async false
set_option linter.all false
set_option maxRecDepth 100000
set_option maxHeartbeats 4000000
namespace K69
open PySem L2 EX PyProof.Rows M68 LamX
theorem dget_m {β : Type} {f : β → V} {l : List (Str × β)} {H : Hp} {g : Addr} {x : Str} {b : β} (h : Rd H g (.dK (mapK f l))) (nd : (l.map (·.1)).Nodup) (m : (x, b) ∈ l) : DGet H g (.str x) (some (f b)) := .inl ⟨_, Sum.inr x, h, rfl, (mapK_val nd m).symm⟩
theorem Rd.lock {H : Hp} {g d : Addr} {k u : List (Key × V)} {od : Obj} (h : Rd H g (.dK k)) (hd : H d = some (.dK u)) : Rd (upd H d (.frz od (.dK u))) g (.dK k) := by
  by_cases e : g = d
  · subst e
    rcases h with h | ⟨o, h⟩
    · rw [hd] at h
      cases h
      exact .inr ⟨od, upd_same⟩
    · rw [hd] at h
      cases h
  · rcases h with h | ⟨o, h⟩
    · exact .inl (by rw [upd_ne e]; exact h)
    · exact .inr ⟨o, by rw [upd_ne e]; exact h⟩
theorem Rd.same {H H' : Hp} {g : Addr} {o : HO} (s : Same H H') (h : Rd H g o) : Rd H' g o := h.elim (fun h => .inl (s _ _ h)) fun ⟨o', h⟩ => .inr ⟨o', s _ _ h⟩
theorem lock_but {p d : Addr} {H H1 : Hp} {u : HO} {od : Obj} (h : H d = some u) (s : But p (upd H d (.frz od u)) H1) : But p H (upd H1 d u) := fun b o n e => by
  by_cases hb : b = d
  · subst hb
    rw [upd_same, ← h, e]
  · rw [upd_ne hb]
    exact s b o n (by rw [upd_ne hb]; exact e)
theorem mem_keys {β : Type} {l : List (Str × β)} {x : Str} (h : x ∈ l.map (·.1)) : ∃ b, (x, b) ∈ l := by
  obtain ⟨p, hp, rfl⟩ := List.mem_map.mp h
  exact ⟨p.2, hp⟩
theorem key_mem {β : Type} {l : List (Str × β)} {x : Str} {b : β} (h : (x, b) ∈ l) : x ∈ l.map (·.1) := List.mem_map.mpr ⟨_, h, rfl⟩
/-- _law_needs(source, parents, most) -/
def spNeeds (K : PySem.W.Frag) : Sp := fun vs H Q _ => ∃ (p d : Addr) (x y : Int) (most : Nat) (par : Tr), vs = [.ref p, .ref d, .int (most : Int)] ∧ H p = some (.lst [.int x, .int y]) ∧ SrcOk x y ∧ 0 < most ∧ most ≤ 99 ∧ H d = some (.dK (parK par)) ∧ TreeP par ∧
  ∀ (q : Addr) (need : Nd) (x' y' : Int) (H' : Hp), But p H H' → H' p = some (.lst [.int x', .int y']) → SrcOk x' y' → H q = none → H' q = some (.dK (numK need)) → NeedP par need → Q (.ref q) H'
abbrev sNee : Stmt := top 22
theorem scN : FnScope ["_law_source_here", "_law_parents", "_law_most", "_law_found", "_law_name"] ["_law_source_here", "_law_parents", "_law_most"] (defScope sNee) := ⟨rfl, rfl, rfl, by decide +kernel, rfl, by decide +kernel, by decide +kernel⟩
section
variable {P : Program} {w : World} {K : PySem.W.Frag} {mg : Str → Option Value} {base : Heap}
theorem ok_needs {f : Addr} {fd : FuncData} (F : Fun K "_law_needs" "_law_needs" sNee f fd) (B : Bn mg) (GD : DefAt P w K mg base 1 "_law_draw" ["_law_source_here", "_law_amount"] spDraw) : FnOk P w K mg base CX0 2 f fd ["_law_source_here", "_law_parents", "_law_most"] (spNeeds K) := by
  refine F.ok scN (fun vs H Q E h => ?_) (fun cdv A outer s H vs Q E hr h => ?_)
  · obtain ⟨p, d, x, y, most, par, rfl, _⟩ := h
    rfl
  · obtain ⟨p, d, x, y, most, par, rfl, hp, src, hm0, hm, hd, T, k⟩ := h
    have hr1 : Room 1 _ := hr
    have hu := hu_of hr
    have hdp : d ≠ p := fun z => by rw [z, hp] at hd; cases hd
    refine ⟨_, (pss_cons (ps_set (i := 3) scN.nd rfl (Or.inl rfl) pe_dnewK)
        (pss_cons (ps_lock (ps_for PassesOwn.never rfl (pi_keys (pv 1)) (pg_name (i := 4) scN.nd rfl (Or.inl rfl)) (pss_one (ps_if (pt_cmpR op_eq (pe_callD GD hr1 (pa_cons (pv 0) (pa_cons pe_int pa_nil))) pe_int (nomark _)) (pss_one (ps_dput hu (pv 3) (pv 4) (pe_op op_add pe_int (pe_callD GD hr1 (pa_cons (pv 0) (pa_cons (pv 2) pa_nil)))) rfl)) pss_nil))))
        (pss_one (ps_ret (pv 3))))), ?_⟩
    refine fun q hq => ?_
    have hqp : q ≠ p := fun z => by rw [z, hp] at hq; cases hq
    have hqd : q ≠ d := fun z => by rw [z, hd] at hq; cases hq
    have b1 : But p H (upd H q (.dK [])) := Same.but (Same.upd hq)
    have lp1 : upd H q (HO.dK []) p = some (.lst [.int x, .int y]) := by rw [upd_ne (Ne.symm hqp)]; exact hp
    have ld1 : upd H q (HO.dK []) d = some (.dK (parK par)) := by rw [upd_ne (Ne.symm hqd)]; exact hd
    have lq1 : upd H q (HO.dK []) q = some (.dK []) := upd_same
    generalize upd H q (HO.dK []) = H1 at b1 lp1 ld1 lq1 ⊢
    refine ⟨d, .dK (parK par), ld1, trivial, fun od => ?_⟩
    have lp2 : upd H1 d (.frz od (.dK (parK par))) p = some (.lst [.int x, .int y]) := by rw [upd_ne (Ne.symm hdp)]; exact lp1
    have lq2 : upd H1 d (.frz od (.dK (parK par))) q = some (.dK []) := by rw [upd_ne hqd]; exact lq1
    have ld2 : upd H1 d (.frz od (.dK (parK par))) d = some (.frz od (.dK (parK par))) := upd_same
    have bk : ∀ H2, But p (upd H1 d (.frz od (.dK (parK par)))) H2 → But p H1 (upd H2 d (.dK (parK par))) := fun H2 z => lock_but ld1 z
    generalize upd H1 d (.frz od (.dK (parK par))) = H2 at lp2 lq2 ld2 bk ⊢
    refine ⟨_, rfl, d, od, rfl, .inl ⟨parK par, ld2, ?_⟩⟩
    have b1q : ∀ {H3 : Hp} {o : HO}, (∀ b u, b ≠ p → b ≠ q → H2 b = some u → H3 b = some u) → (∀ b u, b ≠ p → b ≠ q → H2 b = some u → (upd H3 q o) b = some u) := fun h b u h1 h2 e => by rw [upd_ne h2]; exact h b u h1 h2 e
    refine for_it (walk_keys (d := d) (o := od) (kvs := parK par)) (fun i σ H3 => ∃ v4 x' y' need, σ = [some (.ref p), some (.ref d), some (.int (most : Int)), some (.ref q), v4] ∧ (∀ b u, b ≠ p → b ≠ q → H2 b = some u → H3 b = some u) ∧ H3 p = some (.lst [.int x', .int y']) ∧ SrcOk x' y' ∧ H3 q = some (.dK (numK need)) ∧ (need.map (·.1)).Sublist ((par.take i).map (·.1)) ∧ ∀ z ∈ need, 1 ≤ z.2 ∧ z.2 ≤ 99)
      ⟨_, x, y, [], rfl, fun b u _ _ e => e, lp2, src, lq2, by simp, fun z h => by simp at h⟩ ?_ ?_ ?_
    · rintro i σ H3 _ ⟨v4, x', y', need, rfl, b3, lp3, src3, lq3, hs, hv⟩
      exact b3 _ _ hdp (Ne.symm hqd) ld2
    · rintro i v σ H0 H3 hi ⟨v4, x1, y1, need, rfl, b3, lp3, src3, lq3, hs, hv⟩ ⟨rfl, kk, vv, hg, rfl⟩
      obtain ⟨nx, np, rfl, rfl, hn⟩ := mapK_get hg
      have hi' : i < par.length := by simpa using hi
      have htake : par.take (i + 1) = par.take i ++ [(nx, np)] := by rw [List.take_add_one, hn]; rfl
      refine ⟨_, rfl, p, x1, y1, _, rfl, lp3, src3, by decide, by decide, fun x2 y2 c srcc c0 c1 => ?_⟩
      have b4 : ∀ b u, b ≠ p → b ≠ q → H2 b = some u → upd H3 p (.lst [.int x2, .int y2]) b = some u := fun b u h1 h2 e => by rw [upd_ne h1]; exact b3 b u h1 h2 e
      have lp4 : upd H3 p (HO.lst [.int x2, .int y2]) p = some (.lst [.int x2, .int y2]) := upd_same
      have lq4 : upd H3 p (HO.lst [.int x2, .int y2]) q = some (.dK (numK need)) := by rw [upd_ne hqp]; exact lq3
      generalize upd H3 p (HO.lst [.int x2, .int y2]) = H4 at b4 lp4 lq4 ⊢
      refine ⟨rfl, _, rfl, ite2 (fun _ => ?_) (fun _ => ?_)⟩
      · refine ⟨_, rfl, _, rfl, p, x2, y2, _, rfl, lp4, srcc, by omega, by omega, fun x3 y3 e srce e0 e1 => ?_⟩
        obtain ⟨e, rfl⟩ := Int.eq_ofNat_of_zero_le e0
        have b5 : ∀ b u, b ≠ p → b ≠ q → H2 b = some u → upd H4 p (.lst [.int x3, .int y3]) b = some u := fun b u h1 h2 e => by rw [upd_ne h1]; exact b4 b u h1 h2 e
        have lp5 : upd H4 p (HO.lst [.int x3, .int y3]) p = some (.lst [.int x3, .int y3]) := upd_same
        have lq5 : upd H4 p (HO.lst [.int x3, .int y3]) q = some (.dK (numK need)) := by rw [upd_ne hqp]; exact lq4
        generalize upd H4 p (HO.lst [.int x3, .int y3]) = H5 at b5 lp5 lq5 ⊢
        have hnew : nx ∉ need.map (·.1) := fun z => by
          have h1 := hs.subset z
          have h2 : ((par.take (i + 1)).map (·.1)).Nodup := T.nd.sublist ((List.take_sublist _ _).map _)
          rw [htake, List.map_append, List.nodup_append] at h2
          exact h2.2.2 _ h1 _ (by simp) rfl
        have hlen : need.length ≤ 11 := by
          have := hs.length_le
          rw [List.length_map, List.length_map, List.length_take] at this
          have := T.len
          omega
        have ev : (1 : Int) + (e : Int) = ((e + 1 : Nat) : Int) := by omega
        refine ⟨_, _, rfl, rfl, _, rfl, _, rfl, q, _, rfl, DPut.k (k := Sum.inr nx) lq5 (by rw [List.length_map, sizeLine_eq]; omega), ?_⟩
        refine ⟨_, x3, y3, need ++ [(nx, e + 1)], rfl, b1q b5, by rw [upd_ne (Ne.symm hqp)]; exact lp5, srce, upd_same.trans (by show some (HO.dK (putK (numK need) (Sum.inr nx) (V.int (1 + (e : Int))))) = _; rw [ev, putK_new (f := fun n : Nat => V.int (n : Int)) hnew]), ?_, fun z hz => ?_⟩
        · rw [htake, List.map_append, List.map_append]
          exact hs.append (List.Sublist.refl _)
        · rcases List.mem_append.mp hz with hz | hz
          · exact hv z hz
          · simp at hz
            subst hz
            show 1 ≤ e + 1 ∧ e + 1 ≤ 99
            omega
      · refine ⟨_, x2, y2, need, rfl, b4, lp4, srcc, lq4, ?_, hv⟩
        rw [htake, List.map_append]
        exact hs.trans (List.sublist_append_left _ _)
    · rintro σ H3 ⟨v4, x1, y1, need, rfl, b3, lp3, src3, lq3, hs, hv⟩
      have lens : (parK par).length = par.length := List.length_map _
      rw [lens, List.take_length] at hs
      refine ⟨b3 _ _ hdp (Ne.symm hqd) ld2, _, rfl, ?_⟩
      have bb : But p H (upd H3 d (.dK (parK par))) := fun b o hb e => by
        have hbq : b ≠ q := fun z => by rw [z, hq] at e; cases e
        have h1 := b1 b o hb e
        by_cases hbd : b = d
        · subst hbd
          rw [upd_same, ← ld1, h1]
        · rw [upd_ne hbd]
          refine b3 b o hb hbq ?_
          have := bk H2 (fun b o _ e => e) b o hb h1
          rw [upd_ne hbd] at this
          exact this
      exact k q need x1 y1 _ bb (by rw [upd_ne (Ne.symm hdp)]; exact lp3) src3 hq (by rw [upd_ne hqd]; exact lq3) ⟨T.nd.sublist hs, fun z hz => hs.subset (List.mem_map.mpr ⟨z, hz, rfl⟩), hv⟩
end
end K69
set_option Elab.async false
set_option linter.all false
set_option maxRecDepth 100000
set_option maxHeartbeats 4000000
namespace K69
open PySem L2 EX PyProof.Rows M68 LamX
theorem nodup_len : ∀ {l m : List Str}, l.Nodup → (∀ x ∈ l, x ∈ m) → l.length ≤ m.length
  | [], m, _, _ => Nat.zero_le _
  | x :: l, m, h, hs => by
    rw [List.nodup_cons] at h
    have hx := hs x (List.mem_cons_self ..)
    have ih := nodup_len (m := m.erase x) h.2 fun y hy => (List.mem_erase_of_ne (fun z => h.1 (by rw [← z]; exact hy))).mpr (hs y (List.mem_cons_of_mem _ hy))
    have := List.length_erase_of_mem hx
    have := List.length_pos_of_mem hx
    rw [List.length_cons]
    omega
/-! ### what an allowance is -/
def gv (giv : Nd) (x : Str) : Nat := ((giv.find? fun p => decide (p.1 = x)).map (·.2)).getD 0
theorem gv_of {giv : Nd} (hn : (giv.map (·.1)).Nodup) {x : Str} {n : Nat} (h : (x, n) ∈ giv) : gv giv x = n := by
  induction giv with
  | nil => cases h
  | cons q t ih =>
    simp only [List.map_cons, List.nodup_cons] at hn
    unfold gv
    rw [List.find?_cons]
    rcases List.mem_cons.mp h with e | e
    · subst e
      simp
    · have : q.1 ≠ x := fun z => hn.1 (z ▸ List.mem_map.mpr ⟨_, e, rfl⟩)
      simp only [this, decide_false]
      exact ih hn.2 e

/-! ### the plan, as far as it is made -/
theorem ltc_irr : ∀ l : List Nat, PySem.Spec.ltCps l l = false
  | [] => by simp [PySem.Spec.ltCps]
  | x :: l => by simp [PySem.Spec.ltCps, ltc_irr l]
theorem leS_self (a : Str) : leS a a := ltc_irr _
theorem sorted_pre : ∀ {a b : List Str} {s : Str}, sortedS (a ++ s :: b) = true → ∀ y ∈ a, leS y s
  | [], _, _, _, y, hy => by cases hy
  | x :: a, b, s, h, y, hy => by
    rcases List.mem_cons.mp hy with e | e
    · subst e
      exact sorted_head h s (by simp)
    · exact sorted_pre (sorted_tail h) y e
structure PG (par : Tr) (need : Nd) (T : Str → Prop) (x : Str) (n : Nat) (bar : Option Str) : Prop where
  le : ∀ y m, (y, m) ∈ need → T y → Below par y x → n ≤ m
  or : (n = 99 ∧ bar = none) ∨ (n < 99 ∧ ∃ y, bar = some y ∧ (y, n) ∈ need ∧ T y ∧ Below par y x ∧ ∀ z, (z, n) ∈ need → T z → Below par z x → leS y z)
theorem PG.gr {par : Tr} {need : Nd} {T : Str → Prop} {x : Str} {n : Nat} {bar : Option Str} (h : PG par need T x n bar) (all : ∀ y ∈ need.map (·.1), T y) : Gr par need x n bar := by
  have t : ∀ {y m}, (y, m) ∈ need → T y := fun h => all _ (List.mem_map.mpr ⟨_, h, rfl⟩)
  refine ⟨fun y m h1 h2 => h.le y m h1 (t h1) h2, ?_⟩
  rcases h.or with e | ⟨e1, y, e2, e3, e4, e5, e6⟩
  · exact .inl e
  · exact .inr ⟨e1, y, e2, e3, e5, fun z h1 h2 => e6 z h1 (t h1) h2⟩
theorem PG.start {par : Tr} {need : Nd} {T : Str → Prop} {x : Str} (no : ∀ y, ¬ T y) : PG par need T x 99 none := ⟨fun y m _ t => absurd t (no y), .inl ⟨rfl, rfl⟩⟩
theorem PG.congr {par : Tr} {need : Nd} {T T' : Str → Prop} {x : Str} {n : Nat} {bar : Option Str} (h : PG par need T x n bar) (e : ∀ y, Below par y x → (T' y ↔ T y)) : PG par need T' x n bar := by
  refine ⟨fun y m h1 h2 h3 => h.le y m h1 ((e y h3).mp h2) h3, ?_⟩
  rcases h.or with f | ⟨f1, y, f2, f3, f4, f5, f6⟩
  · exact .inl f
  · exact .inr ⟨f1, y, f2, f3, (e y f5).mpr f4, f5, fun z h1 h2 h3 => f6 z h1 ((e z h3).mp h2) h3⟩
theorem PG.n99 {par : Tr} {need : Nd} {T : Str → Prop} {x : Str} {n : Nat} {bar : Option Str} (h : PG par need T x n bar) : n ≤ 99 := by
  rcases h.or with e | ⟨e, _⟩ <;> omega
theorem uniq_nd {need : Nd} (hn : (need.map (·.1)).Nodup) {x : Str} {m k : Nat} (h1 : (x, m) ∈ need) (h2 : (x, k) ∈ need) : m = k := by
  rw [← gv_of hn h1, ← gv_of hn h2]
theorem PG.less {par : Tr} {need : Nd} {T T' : Str → Prop} {x s : Str} {n m : Nat} {bar : Option Str} (h : PG par need T x n bar) (hn : (need.map (·.1)).Nodup) (hs : (s, m) ∈ need) (b : Below par s x) (lt : m < n) (e : ∀ y, T' y ↔ T y ∨ y = s) : PG par need T' x m (some s) := by
  have h99 := h.n99
  refine ⟨fun y k h1 h2 h3 => ?_, .inr ⟨by omega, s, rfl, hs, (e s).mpr (.inr rfl), b, fun z h1 h2 h3 => ?_⟩⟩
  · rcases (e y).mp h2 with h2 | h2
    · have := h.le y k h1 h2 h3
      omega
    · subst h2
      exact Nat.le_of_eq (uniq_nd hn hs h1)
  · rcases (e z).mp h2 with h2 | h2
    · have := h.le z m h1 h2 h3
      omega
    · subst h2
      exact leS_self _
theorem PG.more {par : Tr} {need : Nd} {T T' : Str → Prop} {x s : Str} {n m : Nat} {bar : Option Str} (h : PG par need T x n bar) (hn : (need.map (·.1)).Nodup) (hs : (s, m) ∈ need) (ge : n ≤ m) (e : ∀ y, T' y ↔ T y ∨ y = s) (before : ∀ y, T y → leS y s) : PG par need T' x n bar := by
  refine ⟨fun y k h1 h2 h3 => ?_, ?_⟩
  · rcases (e y).mp h2 with h2 | h2
    · exact h.le y k h1 h2 h3
    · subst h2
      rw [← uniq_nd hn hs h1]
      exact ge
  · rcases h.or with f | ⟨f1, y, f2, f3, f4, f5, f6⟩
    · exact .inl f
    · refine .inr ⟨f1, y, f2, f3, (e y).mpr (.inl f4), f5, fun z h1 h2 h3 => ?_⟩
      rcases (e z).mp h2 with h2 | h2
      · exact f6 z h1 h2 h3
      · subst h2
        exact before y f4
/-! ### the way up -/
structure IsUps (par : Tr) (x : Str) (ys : List Str) : Prop where
  mem : ∀ y, y ∈ ys ↔ Below par x y
  keys : ∀ y ∈ ys, y ∈ par.map (·.1)
  nd : ys.Nodup
def isW (s : Str) : Bool := !decide (8 < (s.length : Int)) && (Txt.isascii s && (Txt.isalpha s && Txt.islower s))
theorem isW_nm : ∀ x ∈ nm11, isW x = true := by decide +kernel
theorem isW_st : isW store = true := by decide +kernel
theorem isW_len {x : Str} (h : isW x = true) : x.length ≤ sizeLine := by
  unfold isW at h
  rw [Bool.and_eq_true] at h
  have h1 := h.1
  simp at h1
  rw [sizeLine_eq]
  omega
structure Bp (mg : Str → Option Value) : Prop where
  all : mg "all" = none
  str : mg "str" = none
  lw : ∃ t, mg "LONGEST_WORD" = some (.int 8 t)
  ga : ∃ t, mg "GREATEST_ALLOWANCE" = some (.int 99 t)
  mt : ∃ t, mg "MOST_IN_TREE" = some (.int 11 t)
  st : ∃ t, mg "STORE" = some (.str store t)

theorem tyx_lst {K : PySem.W.Frag} {H : Hp} {a : Addr} {xs : List V} (h : SqL K H a xs) : TyX K H (.ref a) (.type "list") := by
  rcases h with (h | ⟨o, h⟩) | ⟨o, its, n, h1, h2, _⟩
  · exact .base (.lst h)
  · exact .base (.frz h)
  · exact .kList h1 h2
/-- what is_word is asked of, and its answer -/
inductive WdA (K : PySem.W.Frag) (H : Hp) : V → Bool → Prop where
  | str {s : Str} (h : s.length ≤ sizeLine) : WdA K H (.str s) (isW s)
  | int (n : Int) : WdA K H (.int n) false
  | non : WdA K H .non false
  | lst {a : Addr} {xs : List V} (h : SqL K H a xs) : WdA K H (.ref a) false
theorem WdA.mono {K : PySem.W.Frag} {H H' : Hp} (s : Same H H') {x : V} {b : Bool} (h : WdA K H x b) : WdA K H' x b := by
  cases h with
  | str h => exact .str h
  | int n => exact .int n
  | non => exact .non
  | lst h => exact .lst (s.seq h)
def spWord (K : PySem.W.Frag) : Sp := fun vs H Q _ => ∃ (x : V) (b : Bool), vs = [x] ∧ WdA K H x b ∧ Q (.bl b) H
abbrev sWrd : Stmt := top 8
theorem scWrd : FnScope ["obj"] ["obj"] (defScope sWrd) := ⟨rfl, rfl, rfl, by decide +kernel, rfl, by decide +kernel, by decide +kernel⟩
section
variable {P : Program} {w : World} {K : PySem.W.Frag} {mg : Str → Option Value} {base : Heap}
theorem ok_word {f : Addr} {fd : FuncData} (F : Fun K "is_word" "is_word" sWrd f fd) (B : Bn mg) (C : Bp mg) : FnOk P w K mg base CX0 1 f fd ["obj"] (spWord K) := by
  refine F.ok scWrd (fun vs H Q E h => ?_) (fun cdv A outer s H vs Q E hr h => ?_)
  · obtain ⟨x, b, rfl, _⟩ := h
    rfl
  · obtain ⟨x, b, rfl, hx, k⟩ := h
    refine ⟨_, (pss_cons (ps_if (PW.pt (pw_or (pt_not (pt_val (pe_callB call_isi (by rfl) B.isi PyProof.Rows.boot_isinstance (pa_cons (pv 0) (pa_cons (pe_bltn (v := .ty "str") (by rfl) C.str (by decide +kernel) rfl) pa_nil))))) (pw_or1 (pt_cmpR op_gt (pe_callB call_len_str (by rfl) B.len PySem.boot_len (pa_cons (pv 0) pa_nil)) (pe_glob (v := .int _) (by rfl) C.lw.choose_spec ⟨_, rfl⟩) (nomark _))))) (pss_one (ps_ret pe_bl)) pss_nil)
        (pss_one (ps_ret (pe_and (pe_m0 PySem.F.slot_str_isascii PySem.F.type_str_isascii mt_isascii (pv 0)) (pe_and (pe_m0 PySem.F.slot_str_isalpha PySem.F.type_str_isalpha mt_isalpha (pv 0)) (pe_one (pe_m0 PySem.F.slot_str_islower PySem.F.type_str_islower mt_islower (pv 0)))))))), ?_⟩
    cases hx with
    | @str x hz =>
      refine ⟨_, rfl, _, _, _, _, true, rfl, .ty _, .base (.str _), kit_ty (by decide +kernel), _, rfl, iteF ?_⟩
      refine ⟨_, rfl, x, rfl, hz, _, _, rfl, rfl, _, rfl, ite2 (fun h => ?_) (fun h => ?_)⟩
      · unfold isW at k
        rw [h, Bool.not_true, Bool.false_and] at k
        exact k
      · unfold isW at k
        rw [show decide (8 < (x.length : Int)) = false by simpa using h, Bool.not_false, Bool.true_and] at k
        refine ⟨_, rfl, ⟨_, rfl⟩, _, rfl, rfl, trivial, _, rfl, ite2 (fun h1 => ?_) (fun h1 => ?_)⟩
        · rw [h1, Bool.true_and] at k
          refine ⟨_, rfl, ⟨_, rfl⟩, _, rfl, rfl, trivial, _, rfl, ite2 (fun h2 => ?_) (fun h2 => ?_)⟩
          · rw [h2, Bool.true_and] at k
            exact ⟨_, rfl, ⟨_, rfl⟩, _, rfl, rfl, trivial, k⟩
          · rw [show Txt.isalpha x = false by simpa using h2, Bool.false_and] at k
            exact k
        · rw [show Txt.isascii x = false by simpa using h1, Bool.false_and] at k
          exact k
    | int n => exact ⟨_, rfl, _, _, _, _, false, rfl, .ty _, .base (.int _), kit_ty (by decide +kernel), _, rfl, iteT k⟩
    | non => exact ⟨_, rfl, _, _, _, _, false, rfl, .ty _, .base .non, kit_ty (by decide +kernel), _, rfl, iteT k⟩
    | lst h => exact ⟨_, rfl, _, _, _, _, false, rfl, .ty _, tyx_lst h, kit_ty (by decide +kernel), _, rfl, iteT k⟩
end
/-- what is_allowance is asked of, and its answer -/
inductive AlA : V → Bool → Prop where
  | int (n : Int) : AlA (.int n) (decide (1 ≤ n) && decide (n ≤ 99))
  | bl (b : Bool) : AlA (.bl b) false
  | non : AlA .non false
  | str (s : Str) : AlA (.str s) false
def spAllow : Sp := fun vs H Q _ => ∃ (x : V) (b : Bool), vs = [x] ∧ AlA x b ∧ Q (.bl b) H
abbrev sAlw : Stmt := top 9
theorem scAlw : FnScope ["obj"] ["obj"] (defScope sAlw) := ⟨rfl, rfl, rfl, by decide +kernel, rfl, by decide +kernel, by decide +kernel⟩
section
variable {P : Program} {w : World} {K : PySem.W.Frag} {mg : Str → Option Value} {base : Heap}
theorem ok_allow {f : Addr} {fd : FuncData} (F : Fun K "is_allowance" "is_allowance" sAlw f fd) (B : Bn mg) (C : Bp mg) : FnOk P w K mg base CX0 1 f fd ["obj"] spAllow := by
  refine F.ok scAlw (fun vs H Q E h => ?_) (fun cdv A outer s H vs Q E hr h => ?_)
  · obtain ⟨x, b, rfl, _⟩ := h
    rfl
  · obtain ⟨x, b, rfl, hx, k⟩ := h
    refine ⟨_, (pss_one (ps_ret (pe_and (pe_callB call_isi (by rfl) B.isi PyProof.Rows.boot_isinstance (pa_cons (pv 0) (pa_cons (pe_bltn (v := .ty "int") (by rfl) B.int (by decide +kernel) rfl) pa_nil))) (pe_and (pe_not (pe_callB call_isi (by rfl) B.isi PyProof.Rows.boot_isinstance (pa_cons (pv 0) (pa_cons (pe_bltn (v := .ty "bool") (by rfl) B.bool (by decide +kernel) rfl) pa_nil)))) (pe_one (pe_chain op_le op_le pe_int (pv 0) (pe_glob (v := .int _) (by rfl) C.ga.choose_spec ⟨_, rfl⟩))))))), ?_⟩
    cases hx with
    | int n =>
      refine ⟨_, rfl, _, _, _, _, true, rfl, .ty _, .base (.int _), kit_ty (by decide +kernel), _, rfl, iteT ?_⟩
      refine ⟨_, rfl, _, _, _, _, false, rfl, .ty _, .base (.int _), kit_ty (by decide +kernel), _, rfl, _, rfl, iteT ?_⟩
      refine ⟨_, rfl, _, _, rfl, rfl, _, rfl, ite2 (fun h1 => ?_) (fun h1 => ?_)⟩
      · rw [h1, Bool.true_and] at k
        exact ⟨_, _, rfl, rfl, k⟩
      · rw [show decide ((1 : Int) ≤ n) = false by simpa using h1, Bool.false_and] at k
        exact k
    | bl b =>
      refine ⟨_, rfl, _, _, _, _, true, rfl, .ty _, .base (.bl _), kit_ty (by decide +kernel), _, rfl, iteT ?_⟩
      exact ⟨_, rfl, _, _, _, _, true, rfl, .ty _, .base (.bl _), kit_ty (by decide +kernel), _, rfl, _, rfl, iteF k⟩
    | non => exact ⟨_, rfl, _, _, _, _, false, rfl, .ty _, .base .non, kit_ty (by decide +kernel), _, rfl, iteF k⟩
    | str s => exact ⟨_, rfl, _, _, _, _, false, rfl, .ty _, .base (.str _), kit_ty (by decide +kernel), _, rfl, iteF k⟩
end
/-! ### the way up, in any dict of texts -/
def fnd (par : Tr) (y : Str) : Option Str := (par.find? fun p => decide (p.1 = y)).map (·.2)
def ups (par : Tr) : Nat → Str → List Str
  | 0, y => [y]
  | n + 1, y => if y = store then [y] else match fnd par y with
    | none => [y]
    | some z => y :: ups par n z
theorem val_fnd (par : Tr) (y : Str) : valV (parK par) (Sum.inr y) = (fnd par y).map V.str := by
  induction par with
  | nil => rfl
  | cons p t ih =>
    by_cases e : p.1 = y
    · rw [show valV (parK (p :: t)) (Sum.inr y) = some (.str p.2) from valV_pos (show (Sum.inr p.1 : Key) = Sum.inr y by rw [e])]
      unfold fnd
      simp [e]
    · show valV ((Sum.inr p.1, V.str p.2) :: parK t) (Sum.inr y) = _
      rw [valV_neg (fun z => e (Sum.inr.inj z)), ih]
      unfold fnd
      simp [e]
theorem fnd_mem {par : Tr} (nd : (par.map (·.1)).Nodup) {y z : Str} (h : (y, z) ∈ par) : fnd par y = some z := by
  have := val_fnd par y
  rw [mapK_val (f := V.str) nd h] at this
  cases e : fnd par y with
  | none => rw [e] at this; cases this
  | some u =>
    rw [e] at this
    have := V.str.inj (Option.some.inj this)
    rw [this]
theorem ups_store (par : Tr) : ∀ n, ups par n store = [store]
  | 0 => rfl
  | n + 1 => by
    show (if store = store then [store] else _) = _
    rw [if_pos rfl]
theorem ups_len (par : Tr) : ∀ (n : Nat) (y : Str), (ups par n y).length ≤ n + 1
  | 0, y => Nat.le_refl _
  | n + 1, y => by
    unfold ups
    split
    · simp
    · split
      · simp
      · have := ups_len par n (by assumption)
        simp
        omega
/-- in a tree it ends at the store -/
theorem ups_chain {par : Tr} (T : TreeP par) {r : Str → Nat} (hr : ∀ p ∈ par, p.2 = store ∨ (p.2 ∈ par.map (·.1) ∧ r p.2 < r p.1)) : ∀ (m : Nat) (x : Str), r x = m → x ∈ par.map (·.1) →
    ∃ ys, IsUps par x ys ∧ (∀ y ∈ ys, r y ≤ r x) ∧ ∀ n, ys.length ≤ n → ups par n x = ys ++ [store] := by
  intro m
  induction m using Nat.strongRecOn with
  | ind m ih =>
    intro x hm hx
    obtain ⟨u, hu⟩ := mem_keys hx
    have hxs : x ≠ store := T.st _ hu
    have hf := fnd_mem T.nd hu
    have up1 : ∀ n, ups par (n + 1) x = x :: ups par n u := fun n => by
      show (if x = store then [x] else match fnd par x with | none => [x] | some z => x :: ups par n z) = _
      rw [if_neg hxs, hf]
    rcases hr _ hu with e | ⟨e1, e2⟩
    · have e : u = store := e
      refine ⟨[x], ⟨fun y => ⟨fun h => ?_, fun h => ?_⟩, fun y hy => ?_, by simp⟩, fun y hy => ?_, fun n hn => ?_⟩
      · rw [List.mem_singleton.mp h]
        exact .refl x
      · rcases h.inv T.nd hu with q | ⟨q, _⟩
        · rw [q]
          exact List.mem_singleton.mpr rfl
        · exact absurd e q
      · rw [List.mem_singleton.mp hy]
        exact hx
      · rw [List.mem_singleton.mp hy]
        exact Nat.le_refl _
      · cases n with
        | zero => simp at hn
        | succ n =>
          rw [up1, e, ups_store]
          rfl
    · have e2 : r u < r x := e2
      obtain ⟨ys, U, le, un⟩ := ih (r u) (by omega) u rfl e1
      have hus : u ≠ store := by
        obtain ⟨b, hb⟩ := mem_keys e1
        exact T.st _ hb
      refine ⟨x :: ys, ⟨fun y => ⟨fun h => ?_, fun h => ?_⟩, fun y hy => ?_, ?_⟩, fun y hy => ?_, fun n hn => ?_⟩
      · rcases List.mem_cons.mp h with q | q
        · rw [q]
          exact .refl x
        · exact .step hu hus ((U.mem y).mp q)
      · rcases h.inv T.nd hu with q | ⟨_, q⟩
        · rw [q]
          exact List.mem_cons_self
        · exact List.mem_cons_of_mem _ ((U.mem y).mpr q)
      · rcases List.mem_cons.mp hy with q | q
        · rw [q]
          exact hx
        · exact U.keys y q
      · refine List.nodup_cons.mpr ⟨fun h => ?_, U.nd⟩
        have := le x h
        omega
      · rcases List.mem_cons.mp hy with q | q
        · rw [q]
          exact Nat.le_refl _
        · have := le y q
          omega
      · cases n with
        | zero => simp at hn
        | succ n =>
          rw [up1, un n (by simpa using hn)]
          rfl
theorem ups_tree {par : Tr} (T : TreeP par) {x : Str} (hx : x ∈ par.map (·.1)) : ∃ ys, IsUps par x ys ∧ ups par (par.length + 1) x = ys ++ [store] := by
  obtain ⟨r, hr⟩ := T.up
  obtain ⟨ys, U, _, un⟩ := ups_chain T hr _ x rfl hx
  refine ⟨ys, U, un _ ?_⟩
  have := nodup_len U.nd U.keys
  rw [List.length_map] at this
  omega
/-- way_up(parents, name) -/
def spUpG (K : PySem.W.Frag) : Sp := fun vs H Q _ => ∃ (d : Addr) (x : Str) (par : Tr), vs = [.ref d, .str x] ∧ Rd H d (.dK (parK par)) ∧ par.length ≤ 1000 ∧
  ∀ (q : Addr) (H' : Hp), Same H H' → H q = none → H' q = some (.lst ((ups par (par.length + 1) x).map V.str)) → Q (.ref q) H'
/-- .. in a tree -/
def spUp (K : PySem.W.Frag) : Sp := fun vs H Q _ => ∃ (d : Addr) (x : Str) (par : Tr), vs = [.ref d, .str x] ∧ Rd H d (.dK (parK par)) ∧ TreeP par ∧ x ∈ par.map (·.1) ∧
  ∀ (q : Addr) (ys : List Str) (H' : Hp), Same H H' → H q = none → H' q = some (.lst ((ys ++ [store]).map V.str)) → IsUps par x ys → Q (.ref q) H'
theorem up_of_G {K : PySem.W.Frag} {vs : List V} {H : Hp} {Q : VK} {E : XK} (h : spUp K vs H Q E) : spUpG K vs H Q E := by
  obtain ⟨d, x, par, e, hd, T, hx, k⟩ := h
  obtain ⟨ys, U, eq⟩ := ups_tree T hx
  exact ⟨d, x, par, e, hd, by have := T.len; omega, fun q H' s hq lq => k q ys H' s hq (by rw [lq, eq]) U⟩
abbrev sWup : Stmt := top 12
theorem scWup : FnScope ["parents", "name", "found"] ["parents", "name"] (defScope sWup) := ⟨rfl, rfl, rfl, by decide +kernel, rfl, by decide +kernel, by decide +kernel⟩
section
variable {P : Program} {w : World} {K : PySem.W.Frag} {mg : Str → Option Value} {base : Heap}
theorem ok_up {f : Addr} {fd : FuncData} (F : Fun K "way_up" "way_up" sWup f fd) (B : Bn mg) (C : Bp mg) : FnOk P w K mg base CX0 1 f fd ["parents", "name"] (spUpG K) := by
  refine F.ok scWup (fun vs H Q E h => ?_) (fun cdv A outer s H vs Q E hr h => ?_)
  · obtain ⟨d, x, par, rfl, _⟩ := h
    rfl
  · obtain ⟨d, x, par, rfl, hd, hpl, k⟩ := h
    have hu := hu_of hr
    refine ⟨_, (pss_cons (ps_set (i := 2) scWup.nd rfl (Or.inl rfl) (pe_lst (pa_cons (pv 1) pa_nil)))
        (pss_cons (ps_while PassesOwn.never (PW.pt (pw_and (pt_cmpR op_ne (pv 1) (pe_glob (v := .str _) (by rfl) C.st.choose_spec ⟨_, rfl⟩) (nomark _)) (pw_and (pt_cmp (pc_din hu (pv 1) (pv 0))) (pw_and1 (pt_cmpR op_le (pe_callB call_len_seq (by rfl) B.len PySem.boot_len (pa_cons (pv 2) pa_nil)) (pe_op op_add (pe_callB call_lenR (by rfl) B.len PySem.boot_len (pa_cons (pv 0) pa_nil)) pe_int) (nomark _))))))
          (pss_cons (ps_set (i := 1) scWup.nd rfl (Or.inl rfl) (pe_dget hu (pv 0) (pv 1) (fun _ _ => rfl)))
            (pss_one (ps_expr (pe_bm PySem.F.plainAttrs_list PySem.F.slot_list_append PySem.F.type_list_append mt_append (pv 2) (pa_cons (pv 1) pa_nil))))))
        (pss_one (ps_ret (pv 2))))), ?_⟩
    refine ⟨_, rfl, by show 1 ≤ sizeLine; decide, fun q hq => ?_⟩
    have s1 : Same H (upd H q (.lst [.str x])) := Same.upd hq
    have l1 : upd H q (HO.lst [.str x]) q = some (.lst [.str x]) := upd_same
    generalize upd H q (HO.lst [.str x]) = H1 at s1 l1 ⊢
    refine ⟨fun m σ H' => ∃ (cur : Str) (ys : List Str), σ = [some (.ref d), some (.str cur), some (.ref q)] ∧ Same H H' ∧ H' q = some (.lst ((ys ++ [cur]).map V.str)) ∧ ys.length + m = par.length + 1 ∧ ups par (par.length + 1) x = ys ++ ups par m cur, ⟨par.length + 1, x, [], rfl, s1, l1, by simp, rfl⟩, ?_⟩
    rintro m σ H' ⟨cur, ys, rfl, S, lq, hm, hu1⟩
    have hlp : (parK par).length = par.length := List.length_map _
    have hlm : ((ys ++ [cur]).map V.str).length = ys.length + 1 := by rw [List.length_map, List.length_append]; rfl
    have out : ups par m cur = [cur] → Q (.ref q) H' := fun e => k q H' S hq (by rw [hu1, e]; exact lq)
    refine ⟨_, rfl, rfl, _, rfl, ?_⟩
    refine ite2 (fun ne => ?_) (fun eq => iteF ⟨_, rfl, out ?_⟩)
    · have ne : cur ≠ store := by simpa using ne
      have dg : DGet H' d (.str cur) ((fnd par cur).map V.str) := .inl ⟨_, Sum.inr cur, Rd.same S hd, rfl, (val_fnd par cur).symm⟩
      cases hf : fnd par cur with
      | none =>
        rw [hf] at dg
        refine ⟨_, rfl, _, rfl, d, _, rfl, dg, _, rfl, iteF (iteF ⟨_, rfl, out ?_⟩)⟩
        cases m with
        | zero => rfl
        | succ m =>
          show (if cur = store then [cur] else match fnd par cur with | none => [cur] | some z => cur :: ups par m z) = _
          rw [if_neg ne, hf]
      | some z =>
        rw [hf] at dg
        refine ⟨_, rfl, _, rfl, d, _, rfl, dg, _, rfl, iteT ?_⟩
        refine ⟨_, rfl, q, _, rfl, .inl (SqL.of lq), _, rfl, d, _, rfl, Rd.same S hd, _, _, rfl, rfl, _, _, rfl, rfl, _, rfl, ?_⟩
        rw [hlm, hlp]
        refine ite2 (fun c => ?_) (fun c => ⟨_, rfl, out ?_⟩)
        · have c : ys.length + 1 ≤ par.length + 1 := by
            have := of_decide_eq_true c
            omega
          obtain ⟨m, rfl⟩ : ∃ m', m = m' + 1 := ⟨m - 1, by omega⟩
          refine ⟨fun σ' H'' => σ' = [some (.ref d), some (.str z), some (.ref q)] ∧ Same H H'' ∧ H'' q = some (.lst ((ys ++ [cur] ++ [z]).map V.str)), ?_, ?_⟩
          · rintro σ' H'' ⟨rfl, S2, lq2⟩
            refine ⟨m, by omega, z, ys ++ [cur], rfl, S2, lq2, by rw [List.length_append]; show ys.length + 1 + m = _; omega, ?_⟩
            rw [hu1]
            show ys ++ (if cur = store then [cur] else match fnd par cur with | none => [cur] | some z => cur :: ups par m z) = _
            rw [if_neg ne, hf]
            simp
          · refine ⟨_, rfl, _, rfl, d, _, rfl, dg, ?_⟩
            refine ⟨_, rfl, .inl ⟨rfl, _, SqL.of lq⟩, _, rfl, q, _, _, rfl, rfl, lq, by rw [hlm, sizeLine_eq]; omega, ?_⟩
            refine ⟨rfl, EX.Same.updN S hq, ?_⟩
            rw [upd_same, List.map_append (l₂ := [z])]
            rfl
        · have c : ¬ ys.length + 1 ≤ par.length + 1 := fun z => c (decide_eq_true (by omega))
          obtain rfl : m = 0 := by omega
          rfl
    · have eq : cur = store := by simpa using eq
      rw [eq]
      exact ups_store par m
end
end K69
set_option Elab.async false
set_option linter.all false
set_option maxRecDepth 100000
set_option maxHeartbeats 4000000
namespace K69
open PySem L2 EX PyProof.Rows M68 LamX
theorem isW_of {par : Tr} {p : Str × Str} (T : TreeP par) (h11 : ∀ z ∈ par, z.1 ∈ nm11) (h : p ∈ par) : isW p.1 = true ∧ isW p.2 = true := by
  refine ⟨isW_nm _ (h11 _ h), ?_⟩
  obtain ⟨r, hr⟩ := T.up
  rcases hr _ h with e | ⟨e, _⟩
  · rw [e]
    exact isW_st
  · obtain ⟨b, hb⟩ := mem_keys e
    exact isW_nm _ (h11 _ hb)
theorem mapK_len {β : Type} {f : β → V} {l : List (Str × β)} : (mapK f l).length = l.length := List.length_map _

theorem sql_lock {K : PySem.W.Frag} {H : Hp} {a d : Addr} {xs : List V} {u : List (Key × V)} {od : Obj} (hd : H d = some (.dK u)) (h : SqL K H a xs) : SqL K (upd H d (.frz od (.dK u))) a xs := by
  rcases h with (h | ⟨o, h⟩) | h
  · exact .inl (.inl (by rw [upd_ne (fun q => by rw [q, hd] at h; cases h)]; exact h))
  · exact .inl (.inr ⟨o, by rw [upd_ne (fun q => by rw [q, hd] at h; cases h)]; exact h⟩)
  · exact .inr h
theorem WdA.lock {K : PySem.W.Frag} {H : Hp} {d : Addr} {u : List (Key × V)} {od : Obj} (hd : H d = some (.dK u)) {x : V} {b : Bool} (h : WdA K H x b) : WdA K (upd H d (.frz od (.dK u))) x b := by
  cases h with
  | str h => exact .str h
  | int n => exact .int n
  | non => exact .non
  | lst h => exact .lst (sql_lock hd h)
theorem WdA.t {K : PySem.W.Frag} {H : Hp} {x : V} (h : WdA K H x true) : ∃ s, x = .str s ∧ isW s = true := by
  have aux : ∀ b, WdA K H x b → b = true → ∃ s, x = .str s ∧ isW s = true := by
    intro b h e
    cases h with
    | str h => exact ⟨_, rfl, e⟩
    | int n => cases e
    | non => cases e
    | lst h => cases e
  exact aux _ h rfl
theorem valK_of {kvs : List (Key × V)} (nd : (kvs.map (·.1)).Nodup) {k : Key} {v : V} (h : (k, v) ∈ kvs) : valV kvs k = some v := by
  induction kvs with
  | nil => cases h
  | cons e t ih =>
    simp only [List.map_cons, List.nodup_cons] at nd
    rcases List.mem_cons.mp h with q | q
    · subst q
      exact valV_pos rfl
    · have ne : e.1 ≠ k := fun z => nd.1 (z ▸ List.mem_map.mpr ⟨_, q, rfl⟩)
      show valV (e :: t) k = _
      rw [valV_neg ne]
      exact ih nd.2 q
theorem ups_ne (par : Tr) : ∀ (n : Nat) (y : Str), ups par n y ≠ []
  | 0, y => by simp [ups]
  | n + 1, y => by
    unfold ups
    split
    · simp
    · split <;> simp
def good (e : Key × V) : Bool := match e with
  | (.inr x, .str z) => isW x && (decide (x ≠ store) && isW z)
  | _ => false
/-- an entry that is_tree may look at -/
def EntS (K : PySem.W.Frag) (H : Hp) (e : Key × V) : Prop := (match e.1 with | .inr x => x.length ≤ sizeLine | .inl _ => True) ∧ ∃ b, WdA K H e.2 b
theorem EntS.key {K : PySem.W.Frag} {H : Hp} {e : Key × V} (h : EntS K H e) : ∃ b, WdA K H (kV e.1) b := by
  obtain ⟨k, v⟩ := e
  cases k with
  | inl n => exact ⟨_, .int n⟩
  | inr x => exact ⟨_, .str h.1⟩
def lastB (par : Tr) : Bool := par.all fun p => decide ((ups par (par.length + 1) p.1).getLast? = some store)
theorem lastB_tree {par : Tr} (T : TreeP par) : lastB par = true := by
  unfold lastB
  rw [List.all_eq_true]
  intro p hp
  obtain ⟨ys, _, e⟩ := ups_tree T (key_mem (show (p.1, p.2) ∈ par from hp))
  rw [e]
  simp
/-- what is_tree is asked of, and its answer -/
inductive TrA (K : PySem.W.Frag) (H : Hp) : V → Bool → Prop where
  | non : TrA K H .non false
  | lst {a : Addr} {xs : List V} (h : SqL K H a xs) : TrA K H (.ref a) false
  | size {d : Addr} {kvs : List (Key × V)} (h : H d = some (.dK kvs)) (z : ¬ (1 ≤ kvs.length ∧ kvs.length ≤ 11)) : TrA K H (.ref d) false
  | ent {d : Addr} {kvs : List (Key × V)} (h : H d = some (.dK kvs)) (z : 1 ≤ kvs.length ∧ kvs.length ≤ 11) (nd : (kvs.map (·.1)).Nodup) (es : ∀ e ∈ kvs, EntS K H e) (bad : ∃ e ∈ kvs, good e = false) : TrA K H (.ref d) false
  | par {d : Addr} {par : Tr} (h : H d = some (.dK (parK par))) (z : 1 ≤ par.length ∧ par.length ≤ 11) (nd : (par.map (·.1)).Nodup) (g : ∀ p ∈ par, good (Sum.inr p.1, V.str p.2) = true) : TrA K H (.ref d) (lastB par)
theorem good_of {par : Tr} {p : Str × Str} (T : TreeP par) (h11 : ∀ z ∈ par, z.1 ∈ nm11) (h : p ∈ par) : good (Sum.inr p.1, V.str p.2) = true := by
  obtain ⟨w1, w2⟩ := isW_of T h11 h
  show (isW p.1 && (decide (p.1 ≠ store) && isW p.2)) = true
  rw [w1, w2, decide_eq_true (T.st _ h)]
  rfl
theorem TrA.tree {K : PySem.W.Frag} {H : Hp} {d : Addr} {par : Tr} (h : H d = some (.dK (parK par))) (T : TreeP par) (h11 : ∀ z ∈ par, z.1 ∈ nm11) : TrA K H (.ref d) true := by
  rw [← lastB_tree T]
  exact .par h ⟨List.length_pos_iff.mpr T.ne, T.len⟩ T.nd fun p hp => good_of T h11 hp
theorem good_W {x z : Str} (h : good (Sum.inr x, V.str z) = true) : isW x = true ∧ x ≠ store ∧ isW z = true := by
  have h : (isW x && (decide (x ≠ store) && isW z)) = true := h
  rw [Bool.and_eq_true, Bool.and_eq_true] at h
  exact ⟨h.1, of_decide_eq_true h.2.1, h.2.2⟩
/-- is_tree -/
def spTr (K : PySem.W.Frag) : Sp := fun vs H Q _ => ∃ (x : V) (b : Bool), vs = [x] ∧ TrA K H x b ∧ ∀ H', Same H H' → Q (.bl b) H'
abbrev sTr : Stmt := top 13
def sTrN : List Str := ["obj", "name"]
theorem scTr : FnScope ["obj", "name"] ["obj"] (defScope sTr) := ⟨rfl, rfl, rfl, by decide +kernel, rfl, by decide +kernel, by decide +kernel⟩
section
variable {P : Program} {w : World} {K : PySem.W.Frag} {mg : Str → Option Value} {base : Heap}
theorem ok_tr {f : Addr} {fd : FuncData} (F : Fun K "is_tree" "is_tree" sTr f fd) (B : Bn mg) (C : Bp mg) (GW : DefAt P w K mg base 1 "is_word" ["obj"] (spWord K)) (GU : DefAt P w K mg base 1 "way_up" ["parents", "name"] (spUpG K)) : FnOk P w K mg base CX0 2 f fd ["obj"] (spTr K) := by
  refine F.ok scTr (fun vs H Q E h => ?_) (fun cdv A outer s H vs Q E hr h => ?_)
  · obtain ⟨x, b, rfl, _⟩ := h
    rfl
  · obtain ⟨x, b, rfl, hx, k⟩ := h
    have hu := hu_of hr
    have hr1 : Room 1 _ := hr
    refine ⟨_, (pss_cons (ps_if (PW.pt (pw_or (pt_not (pt_val (pe_callB call_isi (by rfl) B.isi PyProof.Rows.boot_isinstance (pa_cons (pv 0) (pa_cons (pe_bltn (v := .ty "dict") (by rfl) B.dict (by decide +kernel) rfl) pa_nil))))) (pw_or1 (pt_not (pt_chain op_le op_le pe_int (pe_callB call_lenR (by rfl) B.len PySem.boot_len (pa_cons (pv 0) pa_nil)) (pe_glob (v := .int _) (by rfl) C.mt.choose_spec ⟨_, rfl⟩)))))) (pss_one (ps_ret pe_bl)) pss_nil)
          (pss_cons (ps_lock (ps_for PassesOwn.never rfl (pi_keys (pv 0)) (pg_name (i := 1) scTr.nd rfl (Or.inl rfl)) (pss_one (ps_if (PW.pt (pw_or (pt_not (pt_val (pe_callD GW hr1 (pa_cons (pv 1) pa_nil)))) (pw_or (pt_cmpR op_eq (pv 1) (pe_glob (v := .str _) (by rfl) C.st.choose_spec ⟨_, rfl⟩) (nomark _)) (pw_or1 (pt_not (pt_val (pe_callD GW hr1 (pa_cons (pe_dget hu (pv 0) (pv 1) (fun _ _ => rfl)) pa_nil)))))))) (pss_one (ps_ret pe_bl)) pss_nil))))
          (pss_one (ps_ret (pe_callB (cr_all rfl) (by rfl) C.all (by decide +kernel) (pa_cons (pe_lock (pe_lc (own := [("name", 1)]) (g := gName 1) (tt := tYes) (te := tOp rEq (tOp (rIxL K) (tCall (spUpG K) [] E0 (tCons (tVar 0) (tCons (tVar 1) tNil))) (tUn (rU fun i => .int (-i)) (tC (.int 1)))) (tC (.str store))) rfl scTr.nd (pi_keys (pv 0)) (blkOk_by (N := sTrN) (sc := defScope sTr) (by decide +kernel)) (fun _ _ _ _ _ => pg_name (i := 1) scTr.nd rfl (Or.inl rfl)) (fun _ _ _ _ _ => pts_nil) (fun _ _ _ _ _ => (pe_cmpR op_eq (pe_ix ix_list (pe_callD GU hr1 (pa_cons (pv 0) (pa_cons (pv 1) pa_nil))) (pe_un un_neg pe_int) (fun _ _ => rfl)) (pe_glob (v := .str _) (by rfl) C.st.choose_spec ⟨_, rfl⟩) (nomark _))))) pa_nil)))))), ?_⟩
    cases hx with
    | non => exact ⟨_, rfl, _, _, _, _, false, rfl, .ty _, .base .non, kit_ty (by decide +kernel), _, rfl, iteT (k H (Same.refl _))⟩
    | lst h => exact ⟨_, rfl, _, _, _, _, false, rfl, .ty _, tyx_lst h, kit_ty (by decide +kernel), _, rfl, iteT (k H (Same.refl _))⟩
    | @size d kvs hd z =>
      refine ⟨_, rfl, _, _, _, _, true, rfl, .ty _, .base (.dK hd), kit_ty (by decide +kernel), _, rfl, iteF ?_⟩
      refine ⟨_, rfl, d, _, rfl, .inl hd, _, _, rfl, rfl, _, rfl, ?_⟩
      refine ite2 (fun h1 => ?_) (fun h1 => ⟨_, rfl, iteT (k H (Same.refl _))⟩)
      have h1 : (1 : Int) ≤ (kvs.length : Int) := of_decide_eq_true h1
      refine ⟨_, _, rfl, rfl, _, rfl, ?_⟩
      rw [decide_eq_false (show ¬ (kvs.length : Int) ≤ 11 by omega)]
      exact iteT (k H (Same.refl _))
    | @ent d kvs hd z nd es bad =>
      refine ⟨_, rfl, _, _, _, _, true, rfl, .ty _, .base (.dK hd), kit_ty (by decide +kernel), _, rfl, iteF ?_⟩
      refine ⟨_, rfl, d, _, rfl, .inl hd, _, _, rfl, rfl, _, rfl, ?_⟩
      refine ite2 (fun _ => ?_) (fun h => absurd (decide_eq_true (show (1 : Int) ≤ (kvs.length : Int) by omega)) h)
      refine ⟨_, _, rfl, rfl, _, rfl, ?_⟩
      rw [decide_eq_true (show (kvs.length : Int) ≤ 11 by omega)]
      refine iteF ?_
      refine ⟨d, .dK kvs, hd, trivial, fun od => ?_⟩
      have fz : upd H d (.frz od (.dK kvs)) d = some (.frz od (.dK kvs)) := upd_same
      have bk : ∀ H2, Same (upd H d (.frz od (.dK kvs))) H2 → Same H (upd H2 d (.dK kvs)) := fun H2 z => lock_same hd z
      have esL : ∀ e ∈ kvs, EntS K (upd H d (.frz od (.dK kvs))) e := fun e he => by
        obtain ⟨e1, b, e2⟩ := es _ he
        exact ⟨e1, b, WdA.lock hd e2⟩
      generalize upd H d (.frz od (.dK kvs)) = L at fz bk esL ⊢
      refine ⟨_, rfl, d, od, rfl, .inl ⟨kvs, fz, ?_⟩⟩
      refine for_it (walk_keys (d := d) (o := od) (kvs := kvs)) (fun i σ H3 => ∃ v1, σ = [some (.ref d), v1] ∧ H3 = L ∧ ∀ e ∈ kvs.take i, good e = true) ⟨_, rfl, rfl, by simp⟩ ?_ ?_ ?_
      · rintro i σ H3 _ ⟨v1, rfl, rfl, _⟩
        exact fz
      · rintro i v σ H0 H3 hi ⟨v1, rfl, rfl, gs⟩ ⟨rfl, kk, vv, hg, rfl⟩
        have hm := List.mem_of_getElem? hg
        have he := esL _ hm
        have htk : kvs.take (i + 1) = kvs.take i ++ [(kk, vv)] := by rw [List.take_add_one, hg]; rfl
        obtain ⟨b1, w1⟩ := he.key
        have w1 : WdA K H3 (kV kk) b1 := w1
        refine ⟨_, rfl, _, b1, rfl, w1, ?_⟩
        cases b1 with
        | false => exact ⟨_, rfl, iteT ⟨fz, k _ (bk _ (Same.refl _))⟩⟩
        | true =>
          refine ⟨_, rfl, iteF ?_⟩
          obtain ⟨x, rfl, hw⟩ : ∃ x, kk = Sum.inr x ∧ isW x = true := by
            cases kk with
            | inl n => cases w1
            | inr x =>
              obtain ⟨s, e, h⟩ := w1.t
              cases e
              exact ⟨_, rfl, h⟩
          refine ⟨_, rfl, rfl, _, rfl, ?_⟩
          refine ite2 (fun _ => ⟨fz, k _ (bk _ (Same.refl _))⟩) (fun ns => ?_)
          have ns : x ≠ store := fun e => ns (by rw [e]; simp [kV])
          obtain ⟨b2, w2⟩ := he.2
          have w2 : WdA K H3 vv b2 := w2
          have dg : DGet H3 d (.str x) (some vv) := .inl ⟨_, Sum.inr x, .inr ⟨_, fz⟩, rfl, (valK_of nd hm).symm⟩
          refine ⟨_, rfl, _, rfl, d, _, rfl, dg, _, b2, rfl, w2, ?_⟩
          cases b2 with
          | false => exact ⟨_, rfl, iteT ⟨fz, k _ (bk _ (Same.refl _))⟩⟩
          | true =>
            refine ⟨_, rfl, iteF ⟨_, rfl, rfl, fun e he => ?_⟩⟩
            rw [htk] at he
            rcases List.mem_append.mp he with he | he
            · exact gs e he
            · rw [List.mem_singleton.mp he]
              obtain ⟨z, rfl, hz⟩ := w2.t
              show (isW x && (decide (x ≠ store) && isW z)) = true
              rw [hw, hz, decide_eq_true ns]
              rfl
      · rintro σ H3 ⟨v1, rfl, rfl, gs⟩
        rw [List.take_length] at gs
        obtain ⟨e, he, hb⟩ := bad
        rw [gs e he] at hb
        cases hb
    | @par d par hd z nd g =>
      have hlp : (parK par).length = par.length := List.length_map _
      refine ⟨_, rfl, _, _, _, _, true, rfl, .ty _, .base (.dK hd), kit_ty (by decide +kernel), _, rfl, iteF ?_⟩
      refine ⟨_, rfl, d, _, rfl, .inl hd, _, _, rfl, rfl, _, rfl, ?_⟩
      rw [hlp]
      refine ite2 (fun _ => ?_) (fun h => absurd (decide_eq_true (show (1 : Int) ≤ (par.length : Int) by omega)) h)
      refine ⟨_, _, rfl, rfl, _, rfl, ?_⟩
      rw [decide_eq_true (show (par.length : Int) ≤ 11 by omega)]
      refine iteF ?_
      refine ⟨d, .dK (parK par), hd, trivial, fun od => ?_⟩
      have fz : upd H d (.frz od (.dK (parK par))) d = some (.frz od (.dK (parK par))) := upd_same
      have bk : ∀ H2, Same (upd H d (.frz od (.dK (parK par)))) H2 → Same H (upd H2 d (.dK (parK par))) := fun H2 z => lock_same hd z
      generalize upd H d (.frz od (.dK (parK par))) = L at fz bk ⊢
      refine ⟨_, rfl, d, od, rfl, .inl ⟨parK par, fz, ?_⟩⟩
      refine for_it (walk_keys (d := d) (o := od) (kvs := parK par)) (fun i σ H3 => ∃ v1, σ = [some (.ref d), v1] ∧ H3 = L) ⟨_, rfl, rfl⟩ ?_ ?_ ?_
      · rintro i σ H3 _ ⟨v1, rfl, rfl⟩
        exact fz
      · rintro i v σ H0 H3 hi ⟨v1, rfl, rfl⟩ ⟨rfl, kk, vv, hg, rfl⟩
        obtain ⟨x, np, rfl, rfl, hn⟩ := mapK_get hg
        have hm := List.mem_of_getElem? hn
        obtain ⟨w1, ns, w2⟩ := good_W (g _ hm)
        have a1 : WdA K H3 (.str x) (isW x) := .str (isW_len w1)
        have a2 : WdA K H3 (.str np) (isW np) := .str (isW_len w2)
        rw [w1] at a1
        rw [w2] at a2
        refine ⟨_, rfl, _, _, rfl, a1, _, rfl, iteF ?_⟩
        refine ⟨_, rfl, rfl, _, rfl, ?_⟩
        refine ite2 (fun h => absurd (show x = store by simpa [kV] using h) ns) (fun _ => ?_)
        refine ⟨_, rfl, _, rfl, d, _, rfl, dget_m (f := V.str) (.inr ⟨_, fz⟩) nd hm, _, _, rfl, a2, _, rfl, iteF ⟨_, rfl, rfl⟩⟩
      · rintro σ H3 ⟨v1, rfl, rfl⟩
        refine ⟨fz, ?_⟩
        have s1 := bk _ (Same.refl _)
        have ld : upd H3 d (HO.dK (parK par)) d = some (.dK (parK par)) := upd_same
        generalize upd H3 d (HO.dK (parK par)) = H1 at s1 ld ⊢
        clear bk fz
        refine ⟨d, .dK (parK par), ld, trivial, fun od2 => ?_⟩
        have fz : upd H1 d (.frz od2 (.dK (parK par))) d = some (.frz od2 (.dK (parK par))) := upd_same
        have bk : ∀ H2, Same (upd H1 d (.frz od2 (.dK (parK par)))) H2 → Same H1 (upd H2 d (.dK (parK par))) := fun H2 z => lock_same ld z
        generalize upd H1 d (.frz od2 (.dK (parK par))) = L2 at fz bk ⊢
        refine ⟨_, rfl, d, od2, rfl, .inl ⟨parK par, fz, fun D hD => ?_⟩⟩
        have nD : D ≠ d := fun z => by rw [z, fz] at hD; cases hD
        refine lc_it (walk_keys (d := d) (o := od2) (kvs := parK par)) (fun i H4 => Same L2 H4 ∧ H4 D = some (.lst (((par.take i).map fun p => decide ((ups par (par.length + 1) p.1).getLast? = some store)).map V.bl))) ⟨Same.upd hD, upd_same⟩ (fun i H4 _ z => z.1 _ _ fz) ?_ ?_
        · rintro j v H0 H4 hj ⟨S4, lD⟩ ⟨rfl, kk, vv, hg, rfl⟩
          obtain ⟨x, np, rfl, rfl, hn⟩ := mapK_get hg
          have htk : par.take (j + 1) = par.take j ++ [(x, np)] := by rw [List.take_add_one, hn]; rfl
          refine ⟨rfl, ?_⟩
          refine ⟨_, rfl, _, rfl, d, x, par, rfl, .inr ⟨_, S4 _ _ fz⟩, by omega, fun q H5 S5 hq lq => ?_⟩
          obtain ⟨us, last, eu⟩ : ∃ us last, ups par (par.length + 1) x = us ++ [last] := by
            have ne : ups par (par.length + 1) x ≠ [] := ups_ne par _ _
            exact ⟨_, _, (List.dropLast_concat_getLast ne).symm⟩
          rw [eu, List.map_append] at lq
          refine ⟨_, rfl, q, _, _, _, rfl, rfl, SqL.of lq, atI_last _ _, rfl, ?_⟩
          refine ⟨_, S5 _ _ lD, ?_, EX.Same.updN (Same.trans S4 S5) hD, ?_⟩
          · rw [List.length_map, List.length_map, List.length_take, sizeLine_eq]
            omega
          · rw [upd_same, htk, List.map_append, List.map_append]
            simp [eu]
        · rintro H4 ⟨S4, lD⟩
          rw [hlp, List.take_length] at lD
          refine ⟨S4 _ _ fz, D, _, rfl, SqL.of (by rw [upd_ne nD]; exact lD), ?_⟩
          rw [List.all_map]
          exact k _ (Same.trans s1 (bk _ S4))
end
theorem AlA.t {x : V} (h : AlA x true) : ∃ m : Int, x = .int m ∧ 1 ≤ m ∧ m ≤ 99 := by
  have aux : ∀ b, AlA x b → b = true → ∃ m : Int, x = .int m ∧ 1 ≤ m ∧ m ≤ 99 := by
    intro b h e
    cases h with
    | int n =>
      rw [Bool.and_eq_true] at e
      exact ⟨n, rfl, of_decide_eq_true e.1, of_decide_eq_true e.2⟩
    | bl b => cases e
    | non => cases e
    | str s => cases e
  exact aux _ h rfl
def goodN (par : Tr) (e : Key × V) : Bool := match e with
  | (.inr x, .int m) => decide (x ∈ par.map (·.1)) && (decide (1 ≤ m) && decide (m ≤ 99))
  | _ => false
/-- what are_needs is asked of, and its answer -/
inductive NdA (K : PySem.W.Frag) (H : Hp) (par : Tr) : V → Bool → Prop where
  | need {e : Addr} {need : Nd} (h : H e = some (.dK (numK need))) (N : NeedP par need) : NdA K H par (.ref e) true
  | non : NdA K H par .non false
  | lst {a : Addr} {xs : List V} (h : SqL K H a xs) : NdA K H par (.ref a) false
  | ent {e : Addr} {kvs : List (Key × V)} (h : H e = some (.dK kvs)) (nd : (kvs.map (·.1)).Nodup) (vs : ∀ e ∈ kvs, ∃ b, AlA e.2 b) (bad : ∃ e ∈ kvs, goodN par e = false) : NdA K H par (.ref e) false
theorem NdA.mono {K : PySem.W.Frag} {H H' : Hp} {par : Tr} (s : Same H H') {x : V} {b : Bool} (h : NdA K H par x b) : NdA K H' par x b := by
  cases h with
  | need h N => exact .need (s _ _ h) N
  | non => exact .non
  | lst h => exact .lst (s.seq h)
  | ent h nd vs bad => exact .ent (s _ _ h) nd vs bad
/-- are_needs(needs, parents) -/
def spNd (K : PySem.W.Frag) : Sp := fun vs H Q _ => ∃ (x : V) (d : Addr) (par : Tr) (b : Bool), vs = [x, .ref d] ∧ H d = some (.dK (parK par)) ∧ TreeP par ∧ NdA K H par x b ∧ ∀ H', Same H H' → Q (.bl b) H'
abbrev sNd : Stmt := top 14
theorem scNd : FnScope ["obj", "parents", "name"] ["obj", "parents"] (defScope sNd) := ⟨rfl, rfl, rfl, by decide +kernel, rfl, by decide +kernel, by decide +kernel⟩
section
variable {P : Program} {w : World} {K : PySem.W.Frag} {mg : Str → Option Value} {base : Heap}
theorem ok_nd {f : Addr} {fd : FuncData} (F : Fun K "are_needs" "are_needs" sNd f fd) (B : Bn mg) (C : Bp mg) (GA : DefAt P w K mg base 1 "is_allowance" ["obj"] spAllow) : FnOk P w K mg base CX0 2 f fd ["obj", "parents"] (spNd K) := by
  refine F.ok scNd (fun vs H Q E h => ?_) (fun cdv A outer s H vs Q E hr h => ?_)
  · obtain ⟨x, d, par, b, rfl, _⟩ := h
    rfl
  · obtain ⟨x, d, par, b, rfl, hd, T, hx, k⟩ := h
    have hu := hu_of hr
    have hr1 : Room 1 _ := hr
    refine ⟨_, (pss_cons (ps_if (pt_not (pt_val (pe_callB call_isi (by rfl) B.isi PyProof.Rows.boot_isinstance (pa_cons (pv 0) (pa_cons (pe_bltn (v := .ty "dict") (by rfl) B.dict (by decide +kernel) rfl) pa_nil))))) (pss_one (ps_ret pe_bl)) pss_nil)
          (pss_cons (ps_lock (ps_for PassesOwn.never rfl (pi_keys (pv 0)) (pg_name (i := 2) scNd.nd rfl (Or.inl rfl)) (pss_one (ps_if (PW.pt (pw_or (pt_not (pt_val (pe_callB call_isi (by rfl) B.isi PyProof.Rows.boot_isinstance (pa_cons (pv 2) (pa_cons (pe_bltn (v := .ty "str") (by rfl) C.str (by decide +kernel) rfl) pa_nil))))) (pw_or (pt_cmp (pc_dnotin hu (pv 2) (pv 1))) (pw_or1 (pt_not (pt_val (pe_callD GA hr1 (pa_cons (pe_dget hu (pv 0) (pv 2) (fun _ _ => rfl)) pa_nil)))))))) (pss_one (ps_ret pe_bl)) pss_nil))))
          (pss_one (ps_ret pe_bl)))), ?_⟩
    cases hx with
    | non => exact ⟨_, rfl, _, _, _, _, false, rfl, .ty _, .base .non, kit_ty (by decide +kernel), _, rfl, iteT (k H (Same.refl _))⟩
    | lst h => exact ⟨_, rfl, _, _, _, _, false, rfl, .ty _, tyx_lst h, kit_ty (by decide +kernel), _, rfl, iteT (k H (Same.refl _))⟩
    | @need e need he N =>
      refine ⟨_, rfl, _, _, _, _, true, rfl, .ty _, .base (.dK he), kit_ty (by decide +kernel), _, rfl, iteF ?_⟩
      refine ⟨e, .dK (numK need), he, trivial, fun od => ?_⟩
      have fz : upd H e (.frz od (.dK (numK need))) e = some (.frz od (.dK (numK need))) := upd_same
      have bk : ∀ H2, Same (upd H e (.frz od (.dK (numK need)))) H2 → Same H (upd H2 e (.dK (numK need))) := fun H2 z => lock_same he z
      have rd : Rd (upd H e (.frz od (.dK (numK need)))) d (.dK (parK par)) := Rd.lock (.inl hd) he
      generalize upd H e (.frz od (.dK (numK need))) = L at fz bk rd ⊢
      refine ⟨_, rfl, e, od, rfl, .inl ⟨numK need, fz, ?_⟩⟩
      refine for_it (walk_keys (d := e) (o := od) (kvs := numK need)) (fun i σ H3 => ∃ v1, σ = [some (.ref e), some (.ref d), v1] ∧ H3 = L) ⟨_, rfl, rfl⟩ ?_ ?_ ?_
      · rintro i σ H3 _ ⟨v1, rfl, rfl⟩
        exact fz
      · rintro i v σ H0 H3 hi ⟨v1, rfl, rfl⟩ ⟨rfl, kk, vv, hg, rfl⟩
        obtain ⟨x, m, rfl, rfl, hn⟩ := mapK_get hg
        have hm := List.mem_of_getElem? hn
        obtain ⟨b, hb⟩ := mem_keys (N.key _ hm)
        obtain ⟨l1, l2⟩ := N.lo _ hm
        have l1 : 1 ≤ m := l1
        have l2 : m ≤ 99 := l2
        have al : AlA (.int (m : Int)) true := by
          have := AlA.int (m : Int)
          rw [decide_eq_true (show (1 : Int) ≤ (m : Int) by omega), decide_eq_true (show (m : Int) ≤ 99 by omega)] at this
          exact this
        refine ⟨_, rfl, _, _, _, _, true, rfl, .ty _, .base (.str _), kit_ty (by decide +kernel), _, rfl, iteF ?_⟩
        refine ⟨_, rfl, _, rfl, d, _, rfl, dget_m (f := V.str) rd T.nd hb, _, rfl, iteF ?_⟩
        exact ⟨_, rfl, _, rfl, e, _, rfl, dget_m (f := fun n : Nat => V.int (n : Int)) (.inr ⟨_, fz⟩) N.nd hm, _, true, rfl, al, _, rfl, iteF ⟨_, rfl, rfl⟩⟩
      · rintro σ H3 ⟨v1, rfl, rfl⟩
        exact ⟨fz, k _ (bk _ (Same.refl _))⟩
    | @ent e kvs he nd vals bad =>
      refine ⟨_, rfl, _, _, _, _, true, rfl, .ty _, .base (.dK he), kit_ty (by decide +kernel), _, rfl, iteF ?_⟩
      refine ⟨e, .dK kvs, he, trivial, fun od => ?_⟩
      have fz : upd H e (.frz od (.dK kvs)) e = some (.frz od (.dK kvs)) := upd_same
      have bk : ∀ H2, Same (upd H e (.frz od (.dK kvs))) H2 → Same H (upd H2 e (.dK kvs)) := fun H2 z => lock_same he z
      have rd : Rd (upd H e (.frz od (.dK kvs))) d (.dK (parK par)) := Rd.lock (.inl hd) he
      generalize upd H e (.frz od (.dK kvs)) = L at fz bk rd ⊢
      have kf : Q (.bl false) (upd L e (.dK kvs)) := k _ (bk _ (Same.refl _))
      refine ⟨_, rfl, e, od, rfl, .inl ⟨kvs, fz, ?_⟩⟩
      refine for_it (walk_keys (d := e) (o := od) (kvs := kvs)) (fun i σ H3 => ∃ v1, σ = [some (.ref e), some (.ref d), v1] ∧ H3 = L ∧ ∀ e ∈ kvs.take i, goodN par e = true) ⟨_, rfl, rfl, by simp⟩ ?_ ?_ ?_
      · rintro i σ H3 _ ⟨v1, rfl, rfl, _⟩
        exact fz
      · rintro i v σ H0 H3 hi ⟨v1, rfl, rfl, gs⟩ ⟨rfl, kk, vv, hg, rfl⟩
        have hm := List.mem_of_getElem? hg
        obtain ⟨b, al⟩ := vals _ hm
        have al : AlA vv b := al
        have htk : kvs.take (i + 1) = kvs.take i ++ [(kk, vv)] := by rw [List.take_add_one, hg]; rfl
        cases kk with
        | inl n => exact ⟨_, rfl, _, _, _, _, false, rfl, .ty _, .base (.int _), kit_ty (by decide +kernel), _, rfl, iteT ⟨fz, kf⟩⟩
        | inr x =>
          refine ⟨_, rfl, _, _, _, _, true, rfl, .ty _, .base (.str _), kit_ty (by decide +kernel), _, rfl, iteF ?_⟩
          by_cases hx : x ∈ par.map (·.1)
          · obtain ⟨z, hz⟩ := mem_keys hx
            refine ⟨_, rfl, _, rfl, d, _, rfl, dget_m (f := V.str) rd T.nd hz, _, rfl, iteF ?_⟩
            have dg : DGet H3 e (.str x) (some vv) := .inl ⟨_, Sum.inr x, .inr ⟨_, fz⟩, rfl, (valK_of nd hm).symm⟩
            refine ⟨_, rfl, _, rfl, e, _, rfl, dg, _, b, rfl, al, ?_⟩
            cases b with
            | false => exact ⟨_, rfl, iteT ⟨fz, kf⟩⟩
            | true =>
              refine ⟨_, rfl, iteF ⟨_, rfl, rfl, fun e he => ?_⟩⟩
              rw [htk] at he
              rcases List.mem_append.mp he with he | he
              · exact gs e he
              · rw [List.mem_singleton.mp he]
                obtain ⟨m, rfl, m1, m2⟩ := al.t
                show (decide (x ∈ par.map (·.1)) && (decide (1 ≤ m) && decide (m ≤ 99))) = true
                rw [decide_eq_true hx, decide_eq_true m1, decide_eq_true m2]
                rfl
          · exact ⟨_, rfl, _, rfl, d, _, rfl, .inl ⟨_, Sum.inr x, rd, rfl, (mapK_val_none hx).symm⟩, _, rfl, iteT ⟨fz, kf⟩⟩
      · rintro σ H3 ⟨v1, rfl, rfl, gs⟩
        rw [List.take_length] at gs
        obtain ⟨e', he', hb⟩ := bad
        rw [gs e' he'] at hb
        cases hb
end
/-- what the three of the program have in common: what they raise -/
def spBad (K : PySem.W.Frag) (CT CN : Addr) : List V → Hp → XK → Prop := fun vs H E =>
  (∃ (x n : V) (r : List V), vs = x :: n :: r ∧ TrA K H x false ∧ ∀ (d' : Addr) (H' : Hp), Same H H' → H' d' = some (.xd [(("given" : Str), x)]) → E (.ref CT) (some d') H') ∨
  ∃ (d : Addr) (n : V) (r : List V) (par : Tr), vs = .ref d :: n :: r ∧ H d = some (.dK (parK par)) ∧ TreeP par ∧ (∀ z ∈ par, z.1 ∈ nm11) ∧ NdA K H par n false ∧ ∀ (d' : Addr) (H' : Hp), Same H H' → H' d' = some (.xd [(("given" : Str), n)]) → E (.ref CN) (some d') H'
theorem spBad.two {K : PySem.W.Frag} {CT CN : Addr} {x n : V} {r : List V} {H : Hp} {E : XK} (h : spBad K CT CN (x :: n :: r) H E) : spBad K CT CN [x, n] H E := by
  rcases h with ⟨x', n', r', e, h⟩ | ⟨d, n', r', par, e, h⟩
  · cases e
    exact .inl ⟨x, n, [], rfl, h⟩
  · cases e
    exact .inr ⟨d, n, [], par, rfl, h⟩
/-- check_plan(parents, needs) -/
def spChk (K : PySem.W.Frag) (CT CN : Addr) : Sp := fun vs H Q E => (vs.length = 2 ∧ spBad K CT CN vs H E) ∨
  ∃ (d e : Addr) (par : Tr) (need : Nd), vs = [.ref d, .ref e] ∧ H d = some (.dK (parK par)) ∧ H e = some (.dK (numK need)) ∧ TreeP par ∧ (∀ z ∈ par, z.1 ∈ nm11) ∧ NeedP par need ∧ ∀ H', Same H H' → Q .non H'
abbrev sChk : Stmt := top 15
theorem scChk : FnScope ["parents", "needs"] ["parents", "needs"] (defScope sChk) := ⟨rfl, rfl, rfl, by decide +kernel, rfl, by decide +kernel, by decide +kernel⟩
section
variable {P : Program} {w : World} {K : PySem.W.Frag} {mg : Str → Option Value} {base : Heap}
theorem ok_chk {CT CN : Addr} {f : Addr} {fd : FuncData} (F : Fun K "check_plan" "check_plan" sChk f fd) (GT : DefAt P w K mg base 2 "is_tree" ["obj"] (spTr K)) (GN : DefAt P w K mg base 2 "are_needs" ["obj", "parents"] (spNd K))
    (XT : XrAt P w K mg base "InvalidTree" "given" CT) (XN : XrAt P w K mg base "InvalidNeed" "given" CN) : FnOk P w K mg base (L2.CX P w) 3 f fd ["parents", "needs"] (spChk K CT CN) := by
  refine F.okX scChk (fun vs H Q E h => ?_) (fun cdv A outer s H vs Q E hr h => ?_)
  · rcases h with ⟨h, _⟩ | ⟨d, e, par, need, rfl, _⟩
    · exact h
    · rfl
  · have hr2 : Room 2 _ := hr
    rcases h with ⟨h2, h⟩ | ⟨d, e, par, need, rfl, hd, he, T, h11, N, k⟩
    · rcases h with ⟨x, n, r, rfl, hx, k⟩ | ⟨d, n, r, par, rfl, hd, T, h11, hn, k⟩
      · obtain rfl : r = [] := by simpa using h2
        refine ⟨_, (pss_cons (ps_if (pt_not (pt_val (pe_callD GT hr2 (pa_cons (pv 0) pa_nil)))) (pss_one (ps_raiseE XT hr2 rfl (takes_of rfl rfl rfl rfl) (pv 0))) pss_nil)
        (pss_one (ps_if (pt_not (pt_val (pe_callD GN hr2 (pa_cons (pv 1) (pa_cons (pv 0) pa_nil))))) (pss_one (ps_raiseE XN hr2 rfl (takes_of rfl rfl rfl rfl) (pv 1))) pss_nil))), ?_⟩
        refine ⟨_, rfl, x, false, rfl, hx, fun H1 S1 => ⟨_, rfl, iteT ?_⟩⟩
        exact ⟨_, rfl, fun d' H' S2 _ hd => k d' H' (Same.trans S1 S2) hd⟩
      · obtain rfl : r = [] := by simpa using h2
        refine ⟨_, (pss_cons (ps_if (pt_not (pt_val (pe_callD GT hr2 (pa_cons (pv 0) pa_nil)))) (pss_one (ps_raiseE XT hr2 rfl (takes_of rfl rfl rfl rfl) (pv 0))) pss_nil)
        (pss_one (ps_if (pt_not (pt_val (pe_callD GN hr2 (pa_cons (pv 1) (pa_cons (pv 0) pa_nil))))) (pss_one (ps_raiseE XN hr2 rfl (takes_of rfl rfl rfl rfl) (pv 1))) pss_nil))), ?_⟩
        refine ⟨_, rfl, _, true, rfl, TrA.tree hd T h11, fun H1 S1 => ⟨_, rfl, iteF ?_⟩⟩
        refine ⟨_, rfl, _, rfl, n, d, par, false, rfl, S1 _ _ hd, T, hn.mono S1, fun H2 S2 => ⟨_, rfl, iteT ?_⟩⟩
        exact ⟨_, rfl, fun d' H' S3 _ hd => k d' H' (Same.trans S1 (Same.trans S2 S3)) hd⟩
    · refine ⟨_, (pss_cons (ps_if (pt_not (pt_val (pe_callD GT hr2 (pa_cons (pv 0) pa_nil)))) (pss_one (ps_raiseE XT hr2 rfl (takes_of rfl rfl rfl rfl) (pv 0))) pss_nil)
        (pss_one (ps_if (pt_not (pt_val (pe_callD GN hr2 (pa_cons (pv 1) (pa_cons (pv 0) pa_nil))))) (pss_one (ps_raiseE XN hr2 rfl (takes_of rfl rfl rfl rfl) (pv 1))) pss_nil))), ?_⟩
      refine ⟨_, rfl, _, true, rfl, TrA.tree hd T h11, fun H1 S1 => ⟨_, rfl, iteF ?_⟩⟩
      exact ⟨_, rfl, _, rfl, _, d, par, true, rfl, S1 _ _ hd, T, .need (S1 _ _ he) N, fun H2 S2 => ⟨_, rfl, iteF (k H2 (Same.trans S1 S2))⟩⟩
end
end K69
set_option Elab.async false
set_option linter.all false
set_option maxRecDepth 100000
set_option maxHeartbeats 4000000
namespace K69
open PySem L2 EX PyProof.Rows M68 LamX
def barV : Option Str → V
  | none => .non
  | some y => .str y
/-- the plan at q: for each node its allowance and what bars more -/
structure PlanAt (K : PySem.W.Frag) (H : Hp) (q : Addr) (par : Tr) (need : Nd) (pl : List (Str × Addr)) : Prop where
  at_ : H q = some (.dK (mapK V.ref pl))
  keys : (pl.map (·.1)).Perm (par.map (·.1))
  each : ∀ z ∈ pl, ∃ n bar, SqT K H z.2 [.int (n : Nat), barV bar] ∧ Gr par need z.1 n bar
theorem PlanAt.mono {K : PySem.W.Frag} {H H' : Hp} {q : Addr} {par : Tr} {need : Nd} {pl : List (Str × Addr)} (h : PlanAt K H q par need pl) (s : Same H H') : PlanAt K H' q par need pl :=
  ⟨s _ _ h.at_, h.keys, fun z hz => let ⟨n, b, h1, h2⟩ := h.each z hz; ⟨n, b, sqt_same s h1, h2⟩⟩

def setP (pl : List (Str × Addr)) (x : Str) (t : Addr) : List (Str × Addr) := pl.map fun z => if z.1 = x then (z.1, t) else z
theorem setP_keys {pl : List (Str × Addr)} {x : Str} {t : Addr} : (setP pl x t).map (·.1) = pl.map (·.1) := by
  unfold setP
  rw [List.map_map]
  refine List.map_congr_left fun z _ => ?_
  show (if z.1 = x then (z.1, t) else z).1 = z.1
  split <;> rfl
theorem putK_old {pl : List (Str × Addr)} {x : Str} {t : Addr} (h : x ∈ pl.map (·.1)) : putK (mapK V.ref pl) (Sum.inr x) (V.ref t) = mapK V.ref (setP pl x t) := by
  obtain ⟨p, hp, e⟩ := List.mem_map.mp h
  have any : ((mapK V.ref pl).any fun kv => decide (kv.1 = Sum.inr x)) = true := List.any_eq_true.mpr ⟨(Sum.inr p.1, V.ref p.2), List.mem_map.mpr ⟨p, hp, rfl⟩, decide_eq_true (by rw [e])⟩
  unfold putK
  rw [if_pos any]
  unfold setP mapK
  rw [List.map_map, List.map_map]
  refine List.map_congr_left fun z _ => ?_
  by_cases hz : z.1 = x
  · simp [hz]
  · simp [hz]
theorem cutV_last (ys : List V) (v : V) : cutV (ys ++ [v]) none (some (-1)) = ys := by
  have e : HT.sIx (ys ++ [v]).length (ys ++ [v]).length (some (-1)) = ys.length := by
    show (if (-1 : Int) < 0 then ((-1 : Int) + ((ys ++ [v]).length : Int)).toNat else min (-1 : Int).toNat (ys ++ [v]).length) = _
    rw [if_pos (by decide), List.length_append, List.length_singleton]
    omega
  unfold cutV
  rw [e, HT.sIx_none, List.drop_zero, Nat.sub_zero]
  simp
/-- the plan while it is made, at p -/
structure Plan (H : Hp) (p : Addr) (par : Tr) (need : Nd) (T : Str → Str → Prop) (pl : List (Str × Addr)) : Prop where
  at_ : H p = some (.dK (mapK V.ref pl))
  keys : pl.map (·.1) = par.map (·.1)
  each : ∀ z ∈ pl, ∃ n bar, H z.2 = some (.tup [.int (n : Nat), barV bar]) ∧ PG par need (T z.1) z.1 n bar
theorem Plan.congr {H : Hp} {p : Addr} {par : Tr} {need : Nd} {T T' : Str → Str → Prop} {pl : List (Str × Addr)} (h : Plan H p par need T pl) (e : ∀ x y, Below par y x → (T' x y ↔ T x y)) : Plan H p par need T' pl :=
  ⟨h.at_, h.keys, fun z hz => let ⟨n, b, h1, h2⟩ := h.each z hz; ⟨n, b, h1, h2.congr (e z.1)⟩⟩
theorem Plan.mono {H H' : Hp} {p : Addr} {par : Tr} {need : Nd} {T : Str → Str → Prop} {pl : List (Str × Addr)} (h : Plan H p par need T pl) (s : Same H H') : Plan H' p par need T pl :=
  ⟨s _ _ h.at_, h.keys, fun z hz => let ⟨n, b, h1, h2⟩ := h.each z hz; ⟨n, b, s _ _ h1, h2⟩⟩
theorem put_but {H0 H H' : Hp} {p : Addr} {o o' : HO} (b : But p H0 H) (s : Same H H') (ho : H p = some o) : But p H0 (upd H' p o') := fun a u n e => by
  rw [upd_ne n]
  exact s _ _ (b a u n e)

theorem FnOk.weak {P : Program} {w : World} {K : PySem.W.Frag} {mg : Str → Option Value} {base : Heap} {CX : CXT} {k : Nat} {f : Addr} {fd : FuncData} {ps : List Str} {sp sp' : Sp} (F : FnOk P w K mg base CX k f fd ps sp) (h : ∀ vs H Q E, sp' vs H Q E → sp vs H Q E) : FnOk P w K mg base CX k f fd ps sp' :=
  ⟨fun vs H Q E q => F.len vs H Q E (h _ _ _ _ q), fun A outer s H args us vs Q E hr e0 hb rv q => F.run A outer s H args us vs Q E hr e0 hb rv (h _ _ _ _ q)⟩
theorem DefAt.weak {P : Program} {w : World} {K : PySem.W.Frag} {mg : Str → Option Value} {base : Heap} {k : Nat} {x : Str} {ps : List Str} {sp sp' : Sp} (D : DefAt P w K mg base k x ps sp) (h : ∀ vs H Q E, sp' vs H Q E → sp vs H Q E) : DefAt P w K mg base k x ps sp' :=
  let ⟨f, fd, F, a, b, c⟩ := D.ex
  ⟨f, fd, FnOk.weak F h, a, b, c⟩
/-- greatest_allowances(parents, needs) -/
def spGA (K : PySem.W.Frag) (CT CN : Addr) : Sp := fun vs H Q E => (vs.length = 2 ∧ spBad K CT CN vs H E) ∨ ∃ (d e : Addr) (par : Tr) (need : Nd), vs = [.ref d, .ref e] ∧ H d = some (.dK (parK par)) ∧ H e = some (.dK (numK need)) ∧ TreeP par ∧ (∀ z ∈ par, z.1 ∈ nm11) ∧ NeedP par need ∧
  ∀ (q : Addr) (pl : List (Str × Addr)) (H' : Hp), Same H H' → H q = none → PlanAt K H' q par need pl → Q (.ref q) H'
abbrev sGA : Stmt := top 16
def sGAN : List Str := ["parents", "needs", "name", "found", "above"]
theorem scGA : FnScope ["parents", "needs", "name", "found", "above"] ["parents", "needs"] (defScope sGA) := ⟨rfl, rfl, rfl, by decide +kernel, rfl, by decide +kernel, by decide +kernel⟩
section
variable {P : Program} {w : World} {K : PySem.W.Frag} {mg : Str → Option Value} {base : Heap}
theorem ok_ga {CT CN : Addr} {f : Addr} {fd : FuncData} (F : Fun K "greatest_allowances" "greatest_allowances" sGA f fd) (B : Bn mg) (C : Bp mg) (GC : DefX P w K mg base 3 "check_plan" ["parents", "needs"] (spChk K CT CN)) (GUG : DefAt P w K mg base 1 "way_up" ["parents", "name"] (spUpG K)) : FnOk P w K mg base (L2.CX P w) 4 f fd ["parents", "needs"] (spGA K CT CN) := by
  have GU : DefAt P w K mg base 1 "way_up" ["parents", "name"] (spUp K) := DefAt.weak GUG fun _ _ _ _ h => up_of_G h
  refine F.okX scGA (fun vs H Q E h => ?_) (fun cdv A outer s H vs Q E hr h => ?_)
  · rcases h with ⟨h, _⟩ | ⟨d, e, par, need, rfl, _⟩
    · exact h
    · rfl
  · have hu := hu_of hr
    have hr3 : Room 3 _ := hr
    have hr1 : Room 1 _ := hr.mono (by omega)
    refine ⟨_, (pss_cons (ps_expr (pe_callU GC hr3 (takes_of rfl rfl rfl rfl) (pa_cons (pv 0) (pa_cons (pv 1) pa_nil))))
          (PSs.nox (pss_cons (ps_lock (ps_setDc (j := 3) (own := [("name", 2)]) (tg := gName 2) (tt := tYes) (tk := tVar 2) (tv := tTup (tCons (tC (.int 99)) (tCons (tC .non) tNil))) rfl scGA.nd rfl rfl (sw_dc rfl rfl rfl (by decide +kernel)) (pi_keys (pv 0)) (blkOk_by (N := sGAN) (sc := defScope sGA) (by decide +kernel)) (fun _ _ _ _ _ => pg_name (i := 2) scGA.nd rfl (Or.inl rfl)) (fun _ _ _ _ _ => pts_nil) (fun _ _ _ _ _ => pv 2) (fun _ _ _ _ _ => pe_tup (pa_cons (pe_glob (v := .int _) (by rfl) C.ga.choose_spec ⟨_, rfl⟩) (pa_cons pe_non pa_nil)))))
          (pss_cons (ps_for PassesOwn.never rfl (pi_list (pe_callB cr_sortedS (by rfl) B.sorted (by decide +kernel) (pa_cons (pe_callTy (call_list_dK rfl) (by rfl) B.list (by decide +kernel) (pa_cons (pv 1) pa_nil)) pa_nil))) (pg_name (i := 2) scGA.nd rfl (Or.inl rfl)) (pss_one (ps_for PassesOwn.never rfl (pi_list (pe_slice sl_list (pe_callD GU hr1 (pa_cons (pv 0) (pa_cons (pv 2) pa_nil))) po_none (po_some (pe_un un_neg pe_int)))) (pg_name (i := 4) scGA.nd rfl (Or.inl rfl)) (pss_one (ps_if (pt_cmpR op_lt (pe_dget hu (pv 1) (pv 2) (fun _ _ => rfl)) (pe_ix ix_tup (pe_dget hu (pv 3) (pv 4) (fun _ _ => rfl)) pe_int (fun _ _ => rfl)) (nomark _)) (pss_one (ps_dput hu (pv 3) (pv 4) (pe_tup (pa_cons (pe_dget hu (pv 1) (pv 2) (fun _ _ => rfl)) (pa_cons (pv 2) pa_nil))) rfl)) pss_nil)))))
          (pss_one (ps_ret (pv 3))))))), ?_⟩
    rcases h with ⟨h2, h⟩ | ⟨d, e, par, need, rfl, hd, he, T, h11, N, k⟩
    · obtain ⟨x, n, rfl⟩ : ∃ x n, vs = [x, n] := by
        match vs, h2 with
        | [x, n], _ => exact ⟨x, n, rfl⟩
      exact ⟨_, rfl, _, rfl, .inl ⟨rfl, h⟩⟩
    have hlen := T.len
    have hlp : (parK par).length = par.length := List.length_map _
    refine ⟨_, rfl, _, rfl, .inr ⟨d, e, par, need, rfl, hd, he, T, h11, N, fun H1 S1 => ?_⟩⟩
    have hd1 := S1 _ _ hd
    have he1 := S1 _ _ he
    -- the dict of all nodes
    refine ⟨d, .dK (parK par), hd1, trivial, fun od => ?_⟩
    have fz : upd H1 d (.frz od (.dK (parK par))) d = some (.frz od (.dK (parK par))) := upd_same
    have bk : ∀ H2, Same (upd H1 d (.frz od (.dK (parK par)))) H2 → Same H1 (upd H2 d (.dK (parK par))) := fun H2 z => lock_same hd1 z
    have nn : ∀ b, upd H1 d (.frz od (.dK (parK par))) b = none → H1 b = none := fun b hb => by
      by_cases e : b = d
      · subst e
        rw [fz] at hb
        cases hb
      · rw [upd_ne e] at hb
        exact hb
    generalize upd H1 d (.frz od (.dK (parK par))) = L at fz bk nn ⊢
    refine ⟨_, rfl, d, od, rfl, .inl ⟨parK par, fz, fun p hp => ?_⟩⟩
    have npd : p ≠ d := fun z => by rw [z, fz] at hp; cases hp
    have hp1 := nn p hp
    refine dc_it (walk_keys (d := d) (o := od) (kvs := parK par)) (fun i H4 => ∃ pl, But p L H4 ∧ H4 p = some (.dK (mapK V.ref pl)) ∧ pl.map (·.1) = (par.take i).map (·.1) ∧ ∀ z ∈ pl, H4 z.2 = some (.tup [.int (99 : Nat), barV none])) ⟨[], Same.but (Same.upd hp), upd_same, rfl, by simp⟩ (fun i H4 _ z => let ⟨_, b, _⟩ := z; b _ _ (Ne.symm npd) fz) ?_ ?_
    · rintro j v H0 H4 hj ⟨pl, b4, lp, hk, hv⟩ ⟨rfl, kk, vv, hg, rfl⟩
      obtain ⟨x, np, rfl, rfl, hn⟩ := mapK_get hg
      rw [hlp] at hj
      have htake : par.take (j + 1) = par.take j ++ [(x, np)] := by rw [List.take_add_one, hn]; rfl
      have hnew : x ∉ pl.map (·.1) := fun z => by
        rw [hk] at z
        have h2 : ((par.take (j + 1)).map (·.1)).Nodup := T.nd.sublist ((List.take_sublist _ _).map _)
        rw [htake, List.map_append, List.nodup_append] at h2
        exact h2.2.2 _ z _ (by simp) rfl
      have hl : pl.length ≤ 11 := by
        have := congrArg List.length hk
        rw [List.length_map, List.length_map, List.length_take] at this
        omega
      refine ⟨rfl, _, rfl, by show 2 ≤ sizeLine; decide, fun t ht => ?_⟩
      have tp : p ≠ t := fun z => by rw [z, ht] at lp; cases lp
      refine ⟨_, Sum.inr x, rfl, by rw [upd_ne tp]; exact lp, by rw [List.length_map, sizeLine_eq]; omega, pl ++ [(x, t)], put_but b4 (Same.upd ht) lp, ?_, ?_, fun z hz => ?_⟩
      · rw [upd_same, putK_new (f := V.ref) hnew]
      · rw [htake, List.map_append, List.map_append, hk]
        rfl
      · rcases List.mem_append.mp hz with hz | hz
        · have h1 := hv z hz
          rw [upd_ne (fun q => by rw [q, lp] at h1; cases h1), upd_ne (fun q => by rw [q, ht] at h1; cases h1)]
          exact h1
        · simp at hz
          subst hz
          rw [upd_ne (Ne.symm tp), upd_same]
          rfl
    · rintro H4 ⟨pl, b4, lp, hk, hv⟩
      refine ⟨b4 _ _ (Ne.symm npd) fz, ?_⟩
      rw [hlp, List.take_length] at hk
      have bH : But p H (upd H4 d (.dK (parK par))) := fun a u n e => by
        have e1 := S1 _ _ e
        by_cases hb : a = d
        · subst hb
          rw [upd_same, ← hd1, e1]
        · rw [upd_ne hb]
          refine b4 a u n ?_
          have := bk L (Same.refl _) a u e1
          rw [upd_ne hb] at this
          exact this
      have PL : Plan (upd H4 d (.dK (parK par))) p par need (fun _ _ => False) pl := ⟨by rw [upd_ne npd]; exact lp, hk, fun z hz => ⟨99, none, by
        rw [upd_ne (fun q => by
          have h1 := hv z hz
          have h2 := b4 _ _ (Ne.symm npd) fz
          rw [q, h2] at h1
          cases h1)]
        exact hv z hz, PG.start fun y h => h⟩⟩
      have hpn : H p = none := by
        cases z : H p with
        | none => rfl
        | some u => rw [S1 _ _ z] at hp1; cases hp1
      have pd : d ≠ p := Ne.symm npd
      have pe : e ≠ p := fun z => by rw [z, hpn] at he; cases he
      generalize upd H4 d (HO.dK (parK par)) = H5 at bH PL ⊢
      clear hv b4 lp hk bk nn fz hp hp1 hd1 he1 S1
      -- the needs in ascending order
      have he5 := bH _ _ pe he
      refine ⟨_, rfl, e, numK need, rfl, he5, fun l hl => ?_⟩
      have s6 : Same H5 (upd H5 l (.lst ((numK need).map fun kv => kV kv.1))) := Same.upd hl
      have ll : upd H5 l (HO.lst ((numK need).map fun kv => kV kv.1)) l = some (.lst ((need.map (·.1)).map V.str)) := by
        rw [upd_same, List.map_map, List.map_map]
        rfl
      generalize upd H5 l (HO.lst ((numK need).map fun kv => kV kv.1)) = H6 at s6 ll ⊢
      have needlen : need.length ≤ 11 := by
        have h1 := nodup_len N.nd (m := par.map (·.1)) fun y hy => by
          obtain ⟨b, hb⟩ := mem_keys hy
          exact N.key _ hb
        rw [List.length_map, List.length_map] at h1
        omega
      refine ⟨l, need.map (·.1), rfl, SqL.of ll, by rw [List.length_map]; omega, fun ns q perm srt hq => ?_⟩
      have s7 : Same H6 (upd H6 q (.lst (ns.map V.str))) := Same.upd hq
      have lq : upd H6 q (HO.lst (ns.map V.str)) q = some (.lst (ns.map V.str)) := upd_same
      generalize upd H6 q (HO.lst (ns.map V.str)) = H7 at s7 lq ⊢
      have s57 := Same.trans s6 s7
      have qp : q ≠ p := fun z => by rw [z, s6 _ _ PL.at_] at hq; cases hq
      have b7 : But p H H7 := fun a u n z => s57 _ _ (bH a u n z)
      replace PL := PL.mono s57
      clear s6 s7 s57 ll hl hq bH he5
      refine ⟨q, rfl, ⟨_, SqL.of lq⟩, ?_⟩
      refine for_list (K := K) (a := q) (xs := ns.map V.str) (fun i σ H' => ∃ v2 v4 pl, σ = [some (.ref d), some (.ref e), v2, some (.ref p), v4] ∧ But p H H' ∧ H' q = some (.lst (ns.map V.str)) ∧ Plan H' p par need (fun _ y => y ∈ ns.take i) pl) ⟨_, _, pl, rfl, b7, lq, PL.congr fun x y _ => by simp⟩ ?_ ?_ ?_
      · rintro i σ H' _ ⟨v2, v4, pl, rfl, b, l, _⟩
        exact SqL.of l
      · rintro i x σ H8 hx ⟨v2, v4, pl1, rfl, b8, l8, PL1⟩
        rw [List.getElem?_map] at hx
        obtain ⟨r, hr0, rfl⟩ : ∃ r, ns[i]? = some r ∧ x = .str r := by
          cases z : ns[i]? with
          | none => rw [z] at hx; cases hx
          | some s => rw [z] at hx; exact ⟨s, rfl, (Option.some.inj hx).symm⟩
        have htake : ns.take (i + 1) = ns.take i ++ [r] := by rw [List.take_add_one, hr0]; rfl
        have hrn : r ∈ need.map (·.1) := perm.mem_iff.mp (List.mem_of_getElem? hr0)
        obtain ⟨m, hm⟩ := mem_keys hrn
        have hrp := N.key _ hm
        have before : ∀ y ∈ ns.take i, leS y r := fun y hy => by
          have hi := (List.getElem?_eq_some_iff.mp hr0)
          have e : ns = ns.take i ++ r :: ns.drop (i + 1) := by
            obtain ⟨h1, h2⟩ := hi
            rw [← h2, ← List.drop_eq_getElem_cons h1, List.take_append_drop]
          exact sorted_pre (e ▸ srt) y hy
        refine ⟨_, rfl, _, rfl, d, r, par, rfl, .inl (b8 _ _ pd hd), T, hrp, fun u ys H9 S9 hu0 lu U => ?_⟩
        rw [List.map_append] at lu
        refine ⟨_, rfl, _, rfl, u, _, rfl, SqL.of lu, fun c hc => ?_⟩
        have sc : Same H9 (upd H9 c (.lst (ys.map V.str))) := Same.upd hc
        have PL1' := PL1
        have ec : cutV (ys.map V.str ++ [store].map V.str) none (some (-1)) = ys.map V.str := cutV_last _ _
        rw [ec]
        have lc : upd H9 c (HO.lst (ys.map V.str)) c = some (.lst (ys.map V.str)) := upd_same
        generalize upd H9 c (HO.lst (ys.map V.str)) = H10 at sc lc ⊢
        have s810 := Same.trans S9 sc
        have b10 : But p H H10 := fun a u n z => s810 _ _ (b8 a u n z)
        have l10 := s810 _ _ l8
        replace PL1 := PL1.mono s810
        have cp : c ≠ p := fun z => by rw [z, S9 _ _ PL1'.at_] at hc; cases hc
        clear S9 hu0 lu sc hc s810
        refine ⟨c, rfl, ⟨_, SqL.of lc⟩, ?_⟩
        refine for_list (K := K) (a := c) (xs := ys.map V.str) (fun j σ H' => ∃ v4 pl, σ = [some (.ref d), some (.ref e), some (.str r), some (.ref p), v4] ∧ But p H H' ∧ H' q = some (.lst (ns.map V.str)) ∧ H' c = some (.lst (ys.map V.str)) ∧ Plan H' p par need (fun x y => y ∈ ns.take i ∨ (y = r ∧ x ∈ ys.take j)) pl) ⟨_, pl1, rfl, b10, l10, lc, PL1.congr fun x y _ => by simp⟩ ?_ ?_ ?_
        · rintro j σ H' _ ⟨v4, pl, rfl, b, l, l', _⟩
          exact SqL.of l'
        · rintro j x σ H11 hx ⟨v4, pl2, rfl, b11, l11, lc11, PL2⟩
          rw [List.getElem?_map] at hx
          obtain ⟨a, ha0, rfl⟩ : ∃ a, ys[j]? = some a ∧ x = .str a := by
            cases z : ys[j]? with
            | none => rw [z] at hx; cases hx
            | some s => rw [z] at hx; exact ⟨s, rfl, (Option.some.inj hx).symm⟩
          have htj : ys.take (j + 1) = ys.take j ++ [a] := by rw [List.take_add_one, ha0]; rfl
          have hay := List.mem_of_getElem? ha0
          have bel : Below par r a := (U.mem a).mp hay
          have hak := U.keys a hay
          have hapl : a ∈ pl2.map (·.1) := by rw [PL2.keys]; exact hak
          obtain ⟨t, ht⟩ := mem_keys hapl
          have plnd : (pl2.map (·.1)).Nodup := by rw [PL2.keys]; exact T.nd
          obtain ⟨n, bar, htup, pg⟩ := PL2.each _ ht
          have he11 := b11 _ _ pe he
          have gm : DGet H11 e (.str r) (some (V.int (m : Int))) := dget_m (f := fun n : Nat => V.int (n : Int)) (.inl he11) N.nd hm
          have iffT : ∀ y, (y ∈ ns.take i ∨ (y = r ∧ a ∈ ys.take (j + 1))) ↔ (y ∈ ns.take i ∨ (y = r ∧ a ∈ ys.take j)) ∨ y = r := fun y => by
            rw [htj]
            simp only [List.mem_append, List.mem_singleton, or_true, and_true]
            constructor
            · rintro (h | h)
              · exact .inl (.inl h)
              · exact .inr h
            · rintro ((h | h) | h)
              · exact .inl h
              · exact .inr h.1
              · exact .inr h
          have other : ∀ {x y : Str}, x ≠ a → ((y ∈ ns.take i ∨ (y = r ∧ x ∈ ys.take (j + 1))) ↔ (y ∈ ns.take i ∨ (y = r ∧ x ∈ ys.take j))) := fun {x y} ne => by
            rw [htj]
            simp [ne]
          refine ⟨_, rfl, _, rfl, e, _, rfl, gm, _, rfl, _, rfl, p, _, rfl, dget_m (f := V.ref) (.inl PL2.at_) plnd ht, t, _, _, _, rfl, rfl, SqT.of htup, atI_nat (j := 0) rfl, _, _, rfl, rfl, _, rfl, ?_⟩
          refine ite2 (fun lt => ?_) (fun ge => ?_)
          · have lt : m < n := by
              have := of_decide_eq_true lt
              omega
            refine ⟨_, rfl, _, rfl, e, _, rfl, gm, _, rfl, by show 2 ≤ sizeLine; decide, fun t2 ht2 => ?_⟩
            have tp : p ≠ t2 := fun z => by
              have h := PL2.at_
              rw [z, ht2] at h
              cases h
            have lp2 : upd H11 t2 (.tup [.int (m : Int), .str r]) p = some (.dK (mapK V.ref pl2)) := by rw [upd_ne tp]; exact PL2.at_
            refine ⟨_, rfl, _, rfl, p, _, rfl, DPut.k (k := Sum.inr a) lp2 (by
              have := congrArg List.length PL2.keys
              rw [List.length_map, List.length_map] at this
              rw [List.length_map, sizeLine_eq]
              omega), ?_⟩
            have s12 : Same H11 (upd H11 t2 (.tup [.int (m : Int), .str r])) := Same.upd ht2
            have lt2 : upd H11 t2 (HO.tup [.int (m : Int), .str r]) t2 = some (.tup [.int (m : Int), .str r]) := upd_same
            generalize upd H11 t2 (HO.tup [.int (m : Int), .str r]) = H12 at s12 lp2 lt2 ⊢
            rw [putK_old hapl]
            have qp' : q ≠ p := qp
            refine ⟨_, setP pl2 a t2, rfl, put_but b11 s12 PL2.at_, by rw [upd_ne qp]; exact s12 _ _ l11, by rw [upd_ne cp]; exact s12 _ _ lc11, upd_same, by rw [setP_keys]; exact PL2.keys, fun z hz => ?_⟩
            obtain ⟨z0, hz0, rfl⟩ := List.mem_map.mp hz
            obtain ⟨n0, b0, e0, g0⟩ := PL2.each z0 hz0
            by_cases eq : z0.1 = a
            · rw [if_pos eq]
              show ∃ n bar, upd H12 p (HO.dK (mapK V.ref (setP pl2 a t2))) t2 = some (.tup [.int (n : Nat), barV bar]) ∧ PG par need (fun y => y ∈ ns.take i ∨ (y = r ∧ z0.1 ∈ ys.take (j + 1))) z0.1 n bar
              rw [upd_ne (Ne.symm tp), eq]
              exact ⟨m, some r, lt2, pg.less N.nd hm bel lt iffT⟩
            · rw [if_neg eq]
              have ne0 : z0.2 ≠ p := fun q => by rw [q, PL2.at_] at e0; cases e0
              rw [upd_ne ne0]
              exact ⟨n0, b0, s12 _ _ e0, g0.congr fun y _ => other eq⟩
          · have ge : n ≤ m := by
              have : ¬ ((m : Int) < (n : Int)) := fun z => ge (decide_eq_true z)
              omega
            refine ⟨_, pl2, rfl, b11, l11, lc11, PL2.at_, PL2.keys, fun z hz => ?_⟩
            obtain ⟨n0, b0, e0, g0⟩ := PL2.each z hz
            by_cases eq : z.1 = a
            · have ez : z = (a, t) := by
                have h1 := mapK_val (f := V.ref) plnd ht
                have h2 := mapK_val (f := V.ref) plnd (show (a, z.2) ∈ pl2 by rw [← eq]; exact hz)
                rw [h1] at h2
                have h3 : t = z.2 := V.ref.inj (Option.some.inj h2)
                rw [h3, ← eq]
              subst ez
              exact ⟨n, bar, htup, pg.more N.nd hm ge iffT fun y hy => by
                rcases hy with hy | ⟨hy, _⟩
                · exact before y hy
                · rw [hy]; exact leS_self _⟩
            · exact ⟨n0, b0, e0, g0.congr fun y _ => other eq⟩
        · rintro σ H11 ⟨v4, pl2, rfl, b11, l11, lc11, PL2⟩
          refine ⟨_, _, pl2, rfl, b11, l11, PL2.congr fun x y bl => ?_⟩
          rw [htake]
          simp only [List.mem_append, List.mem_singleton, List.length_map, List.take_length]
          constructor
          · rintro (h | h)
            · exact .inl h
            · subst h
              exact .inr ⟨rfl, (U.mem x).mpr bl⟩
          · rintro (h | h)
            · exact .inl h
            · exact .inr h.1
      · rintro σ H8 ⟨v2, v4, pl1, rfl, b8, l8, PL1⟩
        have lns : (ns.map V.str).length = ns.length := List.length_map _
        rw [lns, List.take_length] at PL1
        refine ⟨_, rfl, k p pl1 H8 (fun a u z => b8 a u (fun y => by rw [y, hpn] at z; cases z) z) hpn ⟨PL1.at_, by rw [PL1.keys], fun z hz => ?_⟩⟩
        obtain ⟨n, bar, h1, h2⟩ := PL1.each z hz
        exact ⟨n, bar, SqT.of h1, h2.gr fun y hy => perm.mem_iff.mpr hy⟩
end

theorem nodup_val {kvs : List (Str × V)} (nd : (kvs.map (·.1)).Nodup) {x : Str} {v u : V} (h1 : (x, v) ∈ kvs) (h2 : (x, u) ∈ kvs) : v = u := by
  have a := mapK_val (f := id) nd h1
  have b := mapK_val (f := id) nd h2
  rw [a] at b
  exact Option.some.inj b
theorem al_false {n : Nat} (r1 : 1 ≤ n) (r2 : n ≤ 99) (al : AlA (.int (n : Int)) false) : False := by
  have aux : ∀ x b, AlA x b → x = .int (n : Int) → b = false → False := by
    intro x b h e f
    cases h with
    | int m =>
      obtain rfl := V.int.inj e
      rw [decide_eq_true (show (1 : Int) ≤ (n : Int) by omega), decide_eq_true (show (n : Int) ≤ 99 by omega)] at f
      cases f
    | bl b => cases e
    | non => cases e
    | str s => cases e
  exact aux _ _ al rfl rfl
/-- what serve is asked of -/
inductive ThA (K : PySem.W.Frag) (H : Hp) : V → Option (List (Str × V)) → Prop where
  | non : ThA K H .non none
  | lst {a : Addr} {xs : List V} (h : SqL K H a xs) : ThA K H (.ref a) none
  | dic {g : Addr} {kvs : List (Str × V)} (h : H g = some (.dK (mapK id kvs))) (nd : (kvs.map (·.1)).Nodup) (vals : ∀ e ∈ kvs, ∃ b, AlA e.2 b) : ThA K H (.ref g) (some kvs)
theorem ThA.mono {K : PySem.W.Frag} {H H' : Hp} (s : Same H H') {x : V} {t : Option (List (Str × V))} (h : ThA K H x t) : ThA K H' x t := by
  cases h with
  | non => exact .non
  | lst h => exact .lst (s.seq h)
  | dic h nd vals => exact .dic (s _ _ h) nd vals
def ofNd (giv : Nd) : List (Str × V) := giv.map fun p => (p.1, V.int (p.2 : Nat))
/-- it serves -/
def SvP (par : Tr) (need : Nd) : Option (List (Str × V)) → Prop
  | none => False
  | some kvs => ∃ giv : Nd, kvs = ofNd giv ∧ (giv.map (·.1)).Perm (par.map (·.1)) ∧ (∀ z ∈ giv, 1 ≤ z.2 ∧ z.2 ≤ 99) ∧ Serves par need (gv giv)
theorem ofNd_keys (giv : Nd) : (ofNd giv).map (·.1) = giv.map (·.1) := by
  unfold ofNd
  rw [List.map_map]
  rfl
theorem ofNd_mem {giv : Nd} {x : Str} {v : V} : (x, v) ∈ ofNd giv ↔ ∃ n : Nat, (x, n) ∈ giv ∧ v = .int (n : Nat) := by
  unfold ofNd
  rw [List.mem_map]
  constructor
  · rintro ⟨p, hp, e⟩
    cases e
    exact ⟨p.2, hp, rfl⟩
  · rintro ⟨n, hn, rfl⟩
    exact ⟨(x, n), hn, rfl⟩
theorem perm_of_sub : ∀ {l m : List Str}, l.Nodup → (∀ x ∈ l, x ∈ m) → m.length ≤ l.length → l.Perm m
  | [], m, _, _, h => by
    have : m = [] := List.length_eq_zero_iff.mp (Nat.le_zero.mp h)
    rw [this]
  | x :: l, m, nd, hs, h => by
    rw [List.nodup_cons] at nd
    have hx := hs x (List.mem_cons_self ..)
    have le := List.length_erase_of_mem hx
    have := List.length_pos_of_mem hx
    rw [List.length_cons] at h
    have ih := perm_of_sub (m := m.erase x) nd.2 (fun y hy => (List.mem_erase_of_ne (fun z => nd.1 (by rw [← z]; exact hy))).mpr (hs y (List.mem_cons_of_mem _ hy))) (by omega)
    exact (List.Perm.cons x ih).trans (List.perm_cons_erase hx).symm
/-- allowances for all nodes make a plan of numbers -/
theorem giv_of {par : Tr} {kvs : List (Str × V)} (pnd : (par.map (·.1)).Nodup) (nd : (kvs.map (·.1)).Nodup) (len : kvs.length = par.length) (all : ∀ x ∈ par.map (·.1), ∃ m : Int, (x, V.int m) ∈ kvs ∧ 1 ≤ m ∧ m ≤ 99) :
    ∃ giv : Nd, kvs = ofNd giv ∧ (giv.map (·.1)).Perm (par.map (·.1)) ∧ ∀ z ∈ giv, 1 ≤ z.2 ∧ z.2 ≤ 99 := by
  have perm : (par.map (·.1)).Perm (kvs.map (·.1)) := perm_of_sub pnd (fun x hx => by
    obtain ⟨m, h, _⟩ := all x hx
    exact key_mem h) (by rw [List.length_map, List.length_map]; omega)
  have each : ∀ e ∈ kvs, ∃ n : Nat, e.2 = .int (n : Nat) ∧ 1 ≤ n ∧ n ≤ 99 := fun e he => by
    obtain ⟨m, h, h1, h2⟩ := all e.1 (perm.mem_iff.mpr (List.mem_map.mpr ⟨e, he, rfl⟩))
    have := nodup_val nd h (show (e.1, e.2) ∈ kvs from he)
    exact ⟨m.toNat, by rw [← this, Int.toNat_of_nonneg (by omega)], by omega, by omega⟩
  refine ⟨kvs.map fun e => (e.1, (match e.2 with | .int m => m.toNat | _ => 0)), ?_, ?_, ?_⟩
  · unfold ofNd
    rw [List.map_map]
    have : ∀ l : List (Str × V), (∀ e ∈ l, ∃ n : Nat, e.2 = .int (n : Nat) ∧ 1 ≤ n ∧ n ≤ 99) → l = l.map ((fun p : Str × Nat => (p.1, V.int (p.2 : Nat))) ∘ fun e => (e.1, (match e.2 with | .int m => m.toNat | _ => 0))) := by
      intro l hl
      induction l with
      | nil => rfl
      | cons e t ih =>
        rw [List.map_cons, ← ih fun e he => hl e (List.mem_cons_of_mem _ he)]
        obtain ⟨n, h, _, _⟩ := hl e (List.mem_cons_self ..)
        obtain ⟨x, v⟩ := e
        have h : v = .int (n : Nat) := h
        subst h
        simp
    exact this kvs each
  · rw [List.map_map]
    exact perm.symm
  · intro z hz
    obtain ⟨e, he, rfl⟩ := List.mem_map.mp hz
    obtain ⟨n, h, h1, h2⟩ := each e he
    show 1 ≤ (match e.2 with | .int m => m.toNat | _ => 0) ∧ (match e.2 with | .int m => m.toNat | _ => 0) ≤ 99
    rw [h]
    simp
    omega
theorem ofNd_inj : ∀ {a b : Nd}, ofNd a = ofNd b → a = b
  | [], [], _ => rfl
  | [], _ :: _, h => by cases h
  | _ :: _, [], h => by cases h
  | (x, n) :: a, (y, m) :: b, h => by
    have h : (x, V.int (n : Nat)) :: ofNd a = (y, V.int (m : Nat)) :: ofNd b := h
    obtain ⟨h1, h2⟩ := List.cons.inj h
    have e1 : x = y := congrArg Prod.fst h1
    have e2 : (n : Int) = (m : Int) := V.int.inj (congrArg Prod.snd h1)
    rw [ofNd_inj h2, e1, show n = m by omega]
/-- serve(parents, needs, allowances) -/
def spSV (K : PySem.W.Frag) (CT CN : Addr) : Sp := fun vs H Q E => (vs.length = 3 ∧ spBad K CT CN vs H E) ∨ ∃ (d e : Addr) (x : V) (par : Tr) (need : Nd) (t : Option (List (Str × V))), vs = [.ref d, .ref e, x] ∧ H d = some (.dK (parK par)) ∧ H e = some (.dK (numK need)) ∧ TreeP par ∧ (∀ z ∈ par, z.1 ∈ nm11) ∧ NeedP par need ∧ ThA K H x t ∧
  ∀ (b : Bool) (H' : Hp), (b = true ↔ SvP par need t) → Same H H' → Q (.bl b) H'
theorem gv_get {giv : Nd} (h : (giv.map (·.1)).Nodup) {x : Str} (hx : x ∈ giv.map (·.1)) : (x, gv giv x) ∈ giv := by
  obtain ⟨n, hn⟩ := mem_keys hx
  rw [gv_of h hn]
  exact hn
abbrev sSV : Stmt := top 17
theorem scSV : FnScope ["parents", "needs", "allowances", "name"] ["parents", "needs", "allowances"] (defScope sSV) := ⟨rfl, rfl, rfl, by decide +kernel, rfl, by decide +kernel, by decide +kernel⟩
section
variable {P : Program} {w : World} {K : PySem.W.Frag} {mg : Str → Option Value} {base : Heap}
theorem ok_sv {CT CN : Addr} {f : Addr} {fd : FuncData} (F : Fun K "serve" "serve" sSV f fd) (B : Bn mg) (C : Bp mg) (GC : DefX P w K mg base 3 "check_plan" ["parents", "needs"] (spChk K CT CN)) (GA : DefAt P w K mg base 1 "is_allowance" ["obj"] spAllow) : FnOk P w K mg base (L2.CX P w) 4 f fd ["parents", "needs", "allowances"] (spSV K CT CN) := by
  refine F.okX scSV (fun vs H Q E h => ?_) (fun cdv A outer s H vs Q E hr h => ?_)
  · rcases h with ⟨h, _⟩ | ⟨d, e, g, par, need, t, rfl, _⟩
    · exact h
    · rfl
  · have hu := hu_of hr
    have hr3 : Room 3 _ := hr
    have hr1 : Room 1 _ := hr.mono (by omega)
    refine ⟨_, (pss_cons (ps_expr (pe_callU GC hr3 (takes_of rfl rfl rfl rfl) (pa_cons (pv 0) (pa_cons (pv 1) pa_nil))))
          (PSs.nox (pss_cons (ps_if (PW.pt (pw_or (pt_not (pt_val (pe_callB call_isi (by rfl) B.isi PyProof.Rows.boot_isinstance (pa_cons (pv 2) (pa_cons (pe_bltn (v := .ty "dict") (by rfl) B.dict (by decide +kernel) rfl) pa_nil))))) (pw_or1 (pt_cmpR op_ne (pe_callB call_lenR (by rfl) B.len PySem.boot_len (pa_cons (pv 2) pa_nil)) (pe_callB call_lenR (by rfl) B.len PySem.boot_len (pa_cons (pv 0) pa_nil)) (nomark _))))) (pss_one (ps_ret pe_bl)) pss_nil)
          (pss_cons (ps_lock (ps_for PassesOwn.never rfl (pi_keys (pv 0)) (pg_name (i := 3) scSV.nd rfl (Or.inl rfl)) (pss_one (ps_if (PW.pt (pw_or (pt_cmp (pc_dnotin hu (pv 3) (pv 2))) (pw_or1 (pt_not (pt_val (pe_callD GA hr1 (pa_cons (pe_dget hu (pv 2) (pv 3) (fun _ _ => rfl)) pa_nil))))))) (pss_one (ps_ret pe_bl)) pss_nil))))
          (pss_cons (ps_lock (ps_for PassesOwn.never rfl (pi_keys (pv 0)) (pg_name (i := 3) scSV.nd rfl (Or.inl rfl)) (pss_cons (ps_if (PW.pt (pw_and (pt_cmpR op_ne (pe_dget hu (pv 0) (pv 3) (fun _ _ => rfl)) (pe_glob (v := .str _) (by rfl) C.st.choose_spec ⟨_, rfl⟩) (nomark _)) (pw_and1 (pt_cmpR op_lt (pe_dget hu (pv 2) (pv 3) (fun _ _ => rfl)) (pe_dget hu (pv 2) (pe_dget hu (pv 0) (pv 3) (fun _ _ => rfl)) (fun _ _ => rfl)) (nomark _))))) (pss_one (ps_ret pe_bl)) pss_nil)
          (pss_one (ps_if (PW.pt (pw_and (pt_cmp (pc_din hu (pv 3) (pv 1))) (pw_and1 (pt_cmpR op_gt (pe_dget hu (pv 2) (pv 3) (fun _ _ => rfl)) (pe_dget hu (pv 1) (pv 3) (fun _ _ => rfl)) (nomark _))))) (pss_one (ps_ret pe_bl)) pss_nil)))))
          (pss_one (ps_ret pe_bl))))))), ?_⟩
    rcases h with ⟨h2, h⟩ | ⟨d, e, x, par, need, t, rfl, hd, he, T, h11, N, hx, k⟩
    · obtain ⟨x, n, y, rfl⟩ : ∃ x n y, vs = [x, n, y] := by
        match vs, h2 with
        | [x, n, y], _ => exact ⟨x, n, y, rfl⟩
      exact ⟨_, rfl, _, rfl, .inl ⟨rfl, h.two⟩⟩
    have hlp : (parK par).length = par.length := List.length_map _
    refine ⟨_, rfl, _, rfl, .inr ⟨d, e, par, need, rfl, hd, he, T, h11, N, fun H1 S1 => ?_⟩⟩
    replace hd := S1 _ _ hd
    replace he := S1 _ _ he
    replace hx := hx.mono S1
    have no : ∀ {H'}, ¬ SvP par need t → Same H1 H' → Q (.bl false) H' := fun h s => k false _ ⟨fun z => (by cases z), fun z => absurd z h⟩ (Same.trans S1 s)
    cases hx with
    | non => exact ⟨_, rfl, _, _, _, _, false, rfl, .ty _, .base .non, kit_ty (by decide +kernel), _, rfl, iteT (no (fun z => z) (Same.refl _))⟩
    | lst h => exact ⟨_, rfl, _, _, _, _, false, rfl, .ty _, tyx_lst h, kit_ty (by decide +kernel), _, rfl, iteT (no (fun z => z) (Same.refl _))⟩
    | @dic g kvs hg gnd vals =>
      have hlg : (mapK id kvs).length = kvs.length := List.length_map _
      refine ⟨_, rfl, _, _, _, _, true, rfl, .ty _, .base (.dK hg), kit_ty (by decide +kernel), _, rfl, iteF ?_⟩
      refine ⟨_, rfl, g, _, rfl, .inl hg, _, rfl, d, _, rfl, .inl hd, rfl, _, rfl, ?_⟩
      rw [hlg, hlp]
      have perm_len : SvP par need (some kvs) → kvs.length = par.length := fun ⟨giv, e, p, _⟩ => by
        have := p.length_eq
        rw [List.length_map, List.length_map] at this
        rw [e]
        unfold ofNd
        rw [List.length_map]
        exact this
      by_cases len : kvs.length = par.length
      · rw [len]
        refine iteNS rfl ?_
        have lockR : ∀ {H2 : Hp} {L : Hp} {a : Addr} {kv : List (Key × V)} {od : Obj}, H2 d = some (.dK (parK par)) → L = upd H2 d (.frz od (.dK (parK par))) → Rd H2 a (.dK kv) → Rd L a (.dK kv) := fun h e r => by
          rw [e]
          exact Rd.lock r h
        -- every node has an allowance
        refine ⟨d, .dK (parK par), hd, trivial, fun od => ?_⟩
        have fz : upd H1 d (.frz od (.dK (parK par))) d = some (.frz od (.dK (parK par))) := upd_same
        have bk : ∀ H2, Same (upd H1 d (.frz od (.dK (parK par)))) H2 → Same H1 (upd H2 d (.dK (parK par))) := fun H2 z => lock_same hd z
        have rg := lockR (od := od) hd rfl (.inl hg)
        generalize upd H1 d (.frz od (.dK (parK par))) = L at fz bk rg ⊢
        refine ⟨_, rfl, d, od, rfl, .inl ⟨parK par, fz, ?_⟩⟩
        refine for_it (walk_keys (d := d) (o := od) (kvs := parK par)) (fun i σ H3 => ∃ v, σ = [some (.ref d), some (.ref e), some (.ref g), v] ∧ H3 = L ∧ ∀ p ∈ par.take i, ∃ m : Int, (p.1, V.int m) ∈ kvs ∧ 1 ≤ m ∧ m ≤ 99) ⟨_, rfl, rfl, by simp⟩ ?_ ?_ ?_
        · rintro i σ H3 _ ⟨v1, rfl, rfl, _⟩
          exact fz
        · rintro i v σ H0 H3 hi ⟨v1, rfl, rfl, gs⟩ ⟨rfl, kk, vv, hgg, rfl⟩
          obtain ⟨x, np, rfl, rfl, hn⟩ := mapK_get hgg
          have htk : par.take (i + 1) = par.take i ++ [(x, np)] := by rw [List.take_add_one, hn]; rfl
          have hxp := key_mem (List.mem_of_getElem? hn)
          by_cases hxk : x ∈ kvs.map (·.1)
          · obtain ⟨v, hv⟩ := mem_keys hxk
            have dg : DGet H3 g (.str x) (some v) := dget_m (f := id) rg gnd hv
            obtain ⟨b, al⟩ := vals _ hv
            refine ⟨_, rfl, _, rfl, g, _, rfl, dg, _, rfl, iteF ?_⟩
            refine ⟨_, rfl, _, rfl, g, _, rfl, dg, _, b, rfl, al, ?_⟩
            cases b with
            | false =>
              refine ⟨_, rfl, iteT ⟨fz, no (fun ⟨giv, e1, p, rng, _⟩ => ?_) (bk _ (Same.refl _))⟩⟩
              obtain ⟨n, hn1, hn2⟩ := ofNd_mem.mp (show (x, v) ∈ ofNd giv by rw [← e1]; exact hv)
              obtain ⟨r1, r2⟩ := rng _ hn1
              have r1 : 1 ≤ n := r1
              have r2 : n ≤ 99 := r2
              have al : AlA v false := al
              rw [hn2] at al
              exact al_false r1 r2 al
            | true =>
              refine ⟨_, rfl, iteF ⟨_, rfl, rfl, fun p hp => ?_⟩⟩
              rw [htk] at hp
              rcases List.mem_append.mp hp with hp | hp
              · exact gs p hp
              · rw [List.mem_singleton.mp hp]
                obtain ⟨m, e1, m1, m2⟩ := al.t
                have e1 : v = .int m := e1
                rw [e1] at hv
                exact ⟨m, hv, m1, m2⟩
          · refine ⟨_, rfl, _, rfl, g, _, rfl, .inl ⟨_, Sum.inr x, rg, rfl, (mapK_val_none hxk).symm⟩, _, rfl, iteT ⟨fz, no (fun ⟨giv, e1, p, _⟩ => ?_) (bk _ (Same.refl _))⟩⟩
            refine hxk ?_
            rw [e1, ofNd_keys]
            exact p.mem_iff.mpr hxp
        · rintro σ H3 ⟨v1, rfl, rfl, gs⟩
          rw [hlp, List.take_length] at gs
          refine ⟨fz, ?_⟩
          have s2 := bk _ (Same.refl _)
          have ld : upd H3 d (HO.dK (parK par)) d = some (.dK (parK par)) := upd_same
          generalize upd H3 d (HO.dK (parK par)) = H2 at s2 ld ⊢
          replace he := s2 _ _ he
          replace hg := s2 _ _ hg
          clear fz bk rg hd
          obtain ⟨giv, rfl, perm, rng⟩ := giv_of T.nd gnd len fun x hx => by
            obtain ⟨z, hz⟩ := mem_keys hx
            exact gs _ hz
          have gnd2 : (giv.map (·.1)).Nodup := perm.nodup_iff.mpr T.nd
          have get : ∀ {x}, x ∈ par.map (·.1) → (x, gv giv x) ∈ giv := fun hx => gv_get gnd2 (perm.mem_iff.mpr hx)
          have numE : mapK id (ofNd giv) = numK giv := by
            unfold ofNd mapK
            rw [List.map_map]
            rfl
          rw [numE] at hg
          have svI : Serves par need (gv giv) → SvP par need (some (ofNd giv)) := fun h => ⟨giv, rfl, perm, rng, h⟩
          have svE : SvP par need (some (ofNd giv)) → Serves par need (gv giv) := fun ⟨g2, e, _, _, h⟩ => by
            have : g2 = giv := ofNd_inj e.symm
            rw [← this]
            exact h
          obtain ⟨rk, up⟩ := T.up
          -- and they serve
          refine ⟨d, .dK (parK par), ld, trivial, fun od2 => ?_⟩
          have fz : upd H2 d (.frz od2 (.dK (parK par))) d = some (.frz od2 (.dK (parK par))) := upd_same
          have bk : ∀ H3, Same (upd H2 d (.frz od2 (.dK (parK par)))) H3 → Same H2 (upd H3 d (.dK (parK par))) := fun H2 z => lock_same ld z
          have rg := lockR (od := od2) ld rfl (.inl hg)
          have re := lockR (od := od2) ld rfl (.inl he)
          generalize upd H2 d (.frz od2 (.dK (parK par))) = L at fz bk rg re ⊢
          have stop : ¬ Serves par need (gv giv) → Q (.bl false) (upd L d (.dK (parK par))) := fun h => no (fun z => h (svE z)) (Same.trans s2 (bk _ (Same.refl _)))
          refine ⟨_, rfl, d, od2, rfl, .inl ⟨parK par, fz, ?_⟩⟩
          refine for_it (walk_keys (d := d) (o := od2) (kvs := parK par)) (fun i σ H3 => ∃ v, σ = [some (.ref d), some (.ref e), some (.ref g), v] ∧ H3 = L ∧ ∀ p ∈ par.take i, (p.2 ≠ store → gv giv p.2 ≤ gv giv p.1) ∧ ∀ m, (p.1, m) ∈ need → gv giv p.1 ≤ m) ⟨_, rfl, rfl, by simp⟩ ?_ ?_ ?_
          · rintro i σ H3 _ ⟨v1, rfl, rfl, _⟩
            exact fz
          · rintro i v σ H0 H3 hi ⟨v1, rfl, rfl, gs2⟩ ⟨rfl, kk, vv, hgg, rfl⟩
            obtain ⟨x, np, rfl, rfl, hn⟩ := mapK_get hgg
            have htk : par.take (i + 1) = par.take i ++ [(x, np)] := by rw [List.take_add_one, hn]; rfl
            have hxp := List.mem_of_getElem? hn
            have hm := get (key_mem hxp)
            have dg : DGet H3 g (.str x) (some (.int (gv giv x : Nat))) := dget_m (f := fun n : Nat => V.int (n : Int)) rg gnd2 hm
            have dp : DGet H3 d (.str x) (some (.str np)) := dget_m (f := V.str) (.inr ⟨_, fz⟩) T.nd hxp
            have next : (np ≠ store → gv giv np ≤ gv giv x) → (∀ m, (x, m) ∈ need → gv giv x ≤ m) → ∀ p ∈ par.take (i + 1), (p.2 ≠ store → gv giv p.2 ≤ gv giv p.1) ∧ ∀ m, (p.1, m) ∈ need → gv giv p.1 ≤ m := fun a1 a2 p hp => by
              rw [htk] at hp
              rcases List.mem_append.mp hp with hp | hp
              · exact gs2 p hp
              · rw [List.mem_singleton.mp hp]
                exact ⟨a1, a2⟩
            have tail : (∃ m, (x, m) ∈ need) ∨ x ∉ need.map (·.1) := by
              by_cases h : x ∈ need.map (·.1)
              · exact .inl (mem_keys h)
              · exact .inr h
            refine ⟨_, rfl, _, rfl, d, _, rfl, dp, rfl, _, rfl, ite2 (fun hne => ?_) (fun heq => iteF ?_)⟩
            · have hne : np ≠ store := by simpa using hne
              have hnp : np ∈ par.map (·.1) ∧ rk np < rk x := (up _ hxp).resolve_left hne
              have dn : DGet H3 g (.str np) (some (.int (gv giv np : Nat))) := dget_m (f := fun n : Nat => V.int (n : Int)) rg gnd2 (get hnp.1)
              refine ⟨_, rfl, _, rfl, g, _, rfl, dg, _, rfl, _, rfl, _, rfl, d, _, rfl, dp, g, _, rfl, dn, _, _, rfl, rfl, _, rfl, ite2 (fun lt => ⟨fz, stop fun S => ?_⟩) (fun ge => ?_)⟩
              · have lt : (gv giv x : Int) < (gv giv np : Int) := of_decide_eq_true lt
                have := S.1 _ hxp hne
                have : gv giv np ≤ gv giv x := this
                omega
              · have ge : gv giv np ≤ gv giv x := by
                  have : ¬ (gv giv x : Int) < (gv giv np : Int) := fun z => ge (decide_eq_true z)
                  omega
                rcases tail with ⟨m, hmm⟩ | nokey
                · have dn2 : DGet H3 e (.str x) (some (.int (m : Nat))) := dget_m (f := fun n : Nat => V.int (n : Int)) re N.nd hmm
                  refine ⟨_, rfl, _, rfl, e, _, rfl, dn2, _, rfl, iteT ?_⟩
                  refine ⟨_, rfl, _, rfl, g, _, rfl, dg, _, rfl, _, rfl, e, _, rfl, dn2, _, _, rfl, rfl, _, rfl, ite2 (fun gt => ⟨fz, stop fun S => ?_⟩) (fun le => ⟨_, rfl, rfl, next (fun _ => ge) fun m' hm' => ?_⟩)⟩
                  · have gt : (gv giv x : Int) > (m : Int) := of_decide_eq_true gt
                    have := S.2 _ hmm
                    have : gv giv x ≤ m := this
                    omega
                  · have : ¬ (gv giv x : Int) > (m : Int) := fun z => le (decide_eq_true z)
                    rw [← uniq_nd N.nd hmm hm']
                    omega
                · exact ⟨_, rfl, _, rfl, e, _, rfl, .inl ⟨_, Sum.inr x, re, rfl, (mapK_val_none nokey).symm⟩, _, rfl, iteF (iteF ⟨_, rfl, rfl, next (fun _ => ge) fun m' hm' => absurd (key_mem hm') nokey⟩)⟩
            · have heq : np = store := by simpa using heq
              rcases tail with ⟨m, hmm⟩ | nokey
              · have dn2 : DGet H3 e (.str x) (some (.int (m : Nat))) := dget_m (f := fun n : Nat => V.int (n : Int)) re N.nd hmm
                refine ⟨_, rfl, _, rfl, e, _, rfl, dn2, _, rfl, iteT ?_⟩
                refine ⟨_, rfl, _, rfl, g, _, rfl, dg, _, rfl, _, rfl, e, _, rfl, dn2, _, _, rfl, rfl, _, rfl, ite2 (fun gt => ⟨fz, stop fun S => ?_⟩) (fun le => ⟨_, rfl, rfl, next (fun ne => absurd heq ne) fun m' hm' => ?_⟩)⟩
                · have gt : (gv giv x : Int) > (m : Int) := of_decide_eq_true gt
                  have := S.2 _ hmm
                  have : gv giv x ≤ m := this
                  omega
                · have : ¬ (gv giv x : Int) > (m : Int) := fun z => le (decide_eq_true z)
                  rw [← uniq_nd N.nd hmm hm']
                  omega
              · exact ⟨_, rfl, _, rfl, e, _, rfl, .inl ⟨_, Sum.inr x, re, rfl, (mapK_val_none nokey).symm⟩, _, rfl, iteF (iteF ⟨_, rfl, rfl, next (fun ne => absurd heq ne) fun m' hm' => absurd (key_mem hm') nokey⟩)⟩
          · rintro σ H3 ⟨v1, rfl, rfl, gs2⟩
            rw [hlp, List.take_length] at gs2
            refine ⟨fz, k true _ ⟨fun _ => svI ⟨fun p hp ne => (gs2 p hp).1 ne, fun p hp => ?_⟩, fun _ => rfl⟩ (Same.trans S1 (Same.trans s2 (bk _ (Same.refl _))))⟩
            obtain ⟨z, hz⟩ := mem_keys (N.key _ hp)
            exact (gs2 _ hz).2 p.2 hp
      · have ne : (!decide (V.int (kvs.length : Int) = V.int (par.length : Int))) = true := by
          simp
          omega
        rw [ne]
        exact iteT (no (fun h => len (perm_len h)) (Same.refl _))
end
end K69
set_option Elab.async false
set_option linter.all false
set_option maxRecDepth 100000
set_option maxHeartbeats 4000000
namespace K69
open PySem L2 EX PyProof.Rows M68 LamX
/-! ### texts shown, sorted -/
def shn (x : Str) : Str := (PyData.str x).shown
theorem nm_ok : ∀ x ∈ nm11, PyData.strOk x = true := by decide +kernel
theorem shn_small : ∀ x ∈ nm11, (shn x).length ≤ 8 ∧ PyData.strOk (shn x) = true := by decide +kernel
theorem dp_S {K : PySem.W.Frag} {H : Hp} : ∀ ys : List Str, DpAll K H (ys.map V.str) (ys.map PyData.str)
  | [] => .nil
  | y :: ys => .cons (.str _) (dp_S ys)
theorem lay_S : ∀ ys : List Str, (∀ y ∈ ys, PyData.strOk y = true) → PyData.canLayAll0 (ys.map PyData.str) = true
  | [], _ => rfl
  | y :: ys, h => by
    show (PyData.strOk y && PyData.canLayAll0 (ys.map PyData.str)) = true
    rw [lay_S ys fun z hz => h z (List.mem_cons_of_mem _ hz), h y (List.mem_cons_self ..)]
    rfl
theorem depth_S : ∀ ys : List Str, PyData.depthAll (ys.map PyData.str) = 0
  | [] => rfl
  | y :: ys => by
    show max 0 (PyData.depthAll (ys.map PyData.str)) = 0
    rw [depth_S ys]
    rfl
theorem shaped_S {ys : List Str} (h : ∀ y ∈ ys, PyData.strOk y = true) : SeqAt.shaped (.list (ys.map PyData.str)) = true := by
  show (PyData.canLayAll0 (ys.map PyData.str) && decide (PyData.depthAll (ys.map PyData.str) + 1 ≤ 64)) = true
  rw [lay_S ys h, depth_S ys]
  rfl
theorem eqv_S : ∀ ys : List Str, PyData.eqvAll (ys.map PyData.str) (ys.map PyData.str) = true
  | [] => rfl
  | y :: ys => by
    show (PyData.eqv (.str y) (.str y) && PyData.eqvAll (ys.map PyData.str) (ys.map PyData.str)) = true
    rw [eqv_S ys]
    have : PyData.eqv (.str y) (.str y) = true := by
      show (y == y) = true
      simp
    rw [this]
    rfl
theorem eqv_nil (ds : List PyData) : PyData.eqv (.list ds) (.list []) = ds.isEmpty := by
  cases ds <;> rfl
/-- sorted([repr(x) for x in d]): both dicts have the same names -/
theorem names_eq {l m : List Str} {ys zs : List Str} (p : l.Perm m) (hy : ys.Perm (l.map shn)) (hz : zs.Perm (m.map shn)) (sy : sortedS ys = true) (sz : sortedS zs = true) : ys = zs :=
  sorted_uniq (hy.trans ((p.map shn).trans hz.symm)) sy sz

def nmX : List Str := nm11 ++ [("other" : Str), ("store" : Str)]
theorem shnX_small : ∀ x ∈ nmX, (shn x).length ≤ 8 ∧ PyData.strOk (shn x) = true := by decide +kernel
def unshn (y : Str) : Str := (nmX.find? fun x => decide (shn x = y)).getD ""
theorem unshn_shn : ∀ x ∈ nmX, unshn (shn x) = x := by decide +kernel
theorem nm_X {x : Str} (h : x ∈ nm11) : x ∈ nmX := List.mem_append_left _ h
theorem perm_shn {l m : List Str} (hl : ∀ x ∈ l, x ∈ nmX) (hm : ∀ x ∈ m, x ∈ nmX) (p : (l.map shn).Perm (m.map shn)) : l.Perm m := by
  have e : ∀ l : List Str, (∀ x ∈ l, x ∈ nmX) → (l.map shn).map unshn = l := fun l h => by
    rw [List.map_map]
    conv => rhs; rw [← List.map_id l]
    exact List.map_congr_left fun x hx => unshn_shn x (h x hx)
  have := p.map unshn
  rwa [e l hl, e m hm] at this
theorem eqv_SS : ∀ ys zs : List Str, PyData.eqvAll (ys.map PyData.str) (zs.map PyData.str) = decide (ys = zs)
  | [], [] => rfl
  | [], _ :: _ => rfl
  | _ :: _, [] => rfl
  | y :: ys, z :: zs => by
    show (PyData.eqv (.str y) (.str z) && PyData.eqvAll (ys.map PyData.str) (zs.map PyData.str)) = _
    rw [eqv_SS ys zs]
    have : PyData.eqv (.str y) (.str z) = decide (y = z) := by
      show (y == z) = _
      by_cases h : y = z
      · simp [h]
      · simp [h]
    rw [this]
    by_cases h1 : y = z <;> by_cases h2 : ys = zs <;> simp [h1, h2]
/-- _law_serve(parents, needs, given) -/
def spServe (K : PySem.W.Frag) : Sp := fun vs H Q _ => ∃ (d e : Addr) (x : V) (par : Tr) (need : Nd) (t : Option (List (Str × V))), vs = [.ref d, .ref e, x] ∧ H d = some (.dK (parK par)) ∧ H e = some (.dK (numK need)) ∧ TreeP par ∧ (∀ z ∈ par, z.1 ∈ nm11) ∧ NeedP par need ∧ ThA K H x t ∧
  (∀ kvs, t = some kvs → kvs.length ≤ 12 ∧ ∀ e ∈ kvs, e.1 ∈ nmX) ∧ ∀ (b : Bool) (H' : Hp), (b = true ↔ SvP par need t) → Same H H' → Q (.bl b) H'
abbrev sSrv : Stmt := top 23
theorem scV : FnScope ["_law_parents", "_law_needs_here", "_law_given", "_law_name", "_law_allowance"] ["_law_parents", "_law_needs_here", "_law_given"] (defScope sSrv) := ⟨rfl, rfl, rfl, by decide +kernel, rfl, by decide +kernel, by decide +kernel⟩
def sSrvN : List Str := ["_law_parents", "_law_needs_here", "_law_given", "_law_name", "_law_allowance"]
section
variable {P : Program} {w : World} {K : PySem.W.Frag} {mg : Str → Option Value} {base : Heap}
theorem ok_serve {f : Addr} {fd : FuncData} (F : Fun K "_law_serve" "_law_serve" sSrv f fd) (B : Bn mg) : FnG P w K mg base CX0 1 f fd ["_law_parents", "_law_needs_here", "_law_given"] (spServe K) := by
  refine okG F scV (fun vs H Q E h => ?_) (fun cdv A outer s H vs Q E hgu hr h => ?_)
  · obtain ⟨d, e, x, par, need, t, rfl, _⟩ := h
    rfl
  · obtain ⟨d, e, x, par, need, t, rfl, hd, he, T, h11, N, hx, hX, k0⟩ := h
    have hu := hu_of hr
    have hu64 : _ + 64 < cLine := hr.units
    have hu70 : (A.deeper (envOfC "_law_serve" (defScope sSrv) s.heap.objs.size f cdv)).units + 70 < cLine := by have := hr.un; omega
    refine ⟨_, PSs.nox (pss_cons (ps_if (pt_not (pt_val (pe_callB call_isi (by rfl) B.isi PyProof.Rows.boot_isinstance (pa_cons (pv 2) (pa_cons (pe_bltn (v := .ty "dict") (by rfl) B.dict (by decide +kernel) rfl) pa_nil))))) (pss_one (ps_ret pe_bl)) pss_nil)
        (pss_cons (ps_if (pt_cmpR (op_neD hu64) (pe_callB cr_sortedS (by rfl) B.sorted (by decide +kernel) (pa_cons (pe_lock (pe_lc (own := [("_law_name", 3)]) (g := gName 3) (tt := tYes) (te := tCB (rRepq K) (tCons (tVar 3) tNil)) rfl scV.nd (pi_keys (pv 2)) (blkOk_by (N := sSrvN) (sc := defScope sSrv) (by decide +kernel)) (fun _ _ _ _ _ => pg_name (i := 3) scV.nd rfl (Or.inl rfl)) (fun _ _ _ _ _ => pts_nil) (fun _ _ _ _ _ => (pe_callB (call_reprq hgu hu70) (by rfl) B.repr (by decide +kernel) (pa_cons (pv 3) pa_nil))))) pa_nil)) (pe_callB cr_sortedS (by rfl) B.sorted (by decide +kernel) (pa_cons (pe_lock (pe_lc (own := [("_law_name", 3)]) (g := gName 3) (tt := tYes) (te := tCB (rRepq K) (tCons (tVar 3) tNil)) rfl scV.nd (pi_keys (pv 0)) (blkOk_by (N := sSrvN) (sc := defScope sSrv) (by decide +kernel)) (fun _ _ _ _ _ => pg_name (i := 3) scV.nd rfl (Or.inl rfl)) (fun _ _ _ _ _ => pts_nil) (fun _ _ _ _ _ => (pe_callB (call_reprq hgu hu70) (by rfl) B.repr (by decide +kernel) (pa_cons (pv 3) pa_nil))))) pa_nil)) (nomark _)) (pss_one (ps_ret pe_bl)) pss_nil)
        (pss_cons (ps_lock (ps_for PassesOwn.never rfl (pi_keys (pv 0)) (pg_name (i := 3) scV.nd rfl (Or.inl rfl)) (pss_cons (ps_set (i := 4) scV.nd rfl (Or.inl rfl) (pe_dget hu (pv 2) (pv 3) (fun _ _ => rfl)))
        (pss_one (ps_if (PW.pt (pw_or (pt_not (pt_val (pe_callB call_isi (by rfl) B.isi PyProof.Rows.boot_isinstance (pa_cons (pv 4) (pa_cons (pe_bltn (v := .ty "int") (by rfl) B.int (by decide +kernel) rfl) pa_nil))))) (pw_or (pt_val (pe_callB call_isi (by rfl) B.isi PyProof.Rows.boot_isinstance (pa_cons (pv 4) (pa_cons (pe_bltn (v := .ty "bool") (by rfl) B.bool (by decide +kernel) rfl) pa_nil)))) (pw_or1 (pt_not (pt_chain op_le op_le pe_int (pv 4) pe_int)))))) (pss_one (ps_ret pe_bl)) pss_nil)))))
        (pss_cons (ps_lock (ps_for PassesOwn.never rfl (pi_keys (pv 0)) (pg_name (i := 3) scV.nd rfl (Or.inl rfl)) (pss_one (ps_if (PW.pt (pw_and (pt_cmpR op_ne (pe_dget hu (pv 0) (pv 3) (fun _ _ => rfl)) pe_str (nomark _)) (pw_and1 (pt_cmpR op_lt (pe_dget hu (pv 2) (pv 3) (fun _ _ => rfl)) (pe_dget hu (pv 2) (pe_dget hu (pv 0) (pv 3) (fun _ _ => rfl)) (fun _ _ => rfl)) (nomark _))))) (pss_one (ps_ret pe_bl)) pss_nil))))
        (pss_one (ps_ret (pe_cmpR (op_eqD hu64) (pe_lock (pe_lc (own := [("_law_name", 3)]) (g := gName 3) (tt := tTest (tOp (rI0 fun i j => V.bl (decide (i > j))) (tDGet (tVar 2) (tVar 3)) (tDGet (tVar 1) (tVar 3)))) rfl scV.nd (pi_keys (pv 1)) (blkOk_by (N := sSrvN) (sc := defScope sSrv) (by decide +kernel)) (fun _ _ _ _ _ => pg_name (i := 3) scV.nd rfl (Or.inl rfl)) (fun _ _ _ _ _ => (pts_one (pt_cmpR op_gt (pe_dget hu (pv 2) (pv 3) (fun _ _ => rfl)) (pe_dget hu (pv 1) (pv 3) (fun _ _ => rfl)) (nomark _)))) (fun _ _ _ _ _ => (pv 3)))) (pe_lst pa_nil) (nomark _)))))))), ?_⟩
    have no : ∀ {H'}, ¬ SvP par need t → Same H H' → Q (.bl false) H' := fun h s => k0 false _ ⟨fun z => (by cases z), fun z => absurd z h⟩ s
    cases hx with
    | non => exact ⟨_, rfl, _, _, _, _, false, rfl, .ty _, .base .non, kit_ty (by decide +kernel), _, rfl, iteT (no (fun z => z) (Same.refl _))⟩
    | lst h => exact ⟨_, rfl, _, _, _, _, false, rfl, .ty _, tyx_lst h, kit_ty (by decide +kernel), _, rfl, iteT (no (fun z => z) (Same.refl _))⟩
    | @dic g kvs hg gnd vals =>
    obtain ⟨len1, hkX⟩ := hX kvs rfl
    have hlg : (mapK id kvs).length = kvs.length := List.length_map _
    have hlp : (parK par).length = par.length := List.length_map _
    refine ⟨_, rfl, _, _, _, _, true, rfl, .ty _, .base (.dK hg), kit_ty (by decide +kernel), _, rfl, iteF ?_⟩
    refine ⟨g, .dK (mapK id kvs), hg, trivial, fun od => ?_⟩
    have back1 : ∀ H2, Same (upd H g (.frz od (.dK (mapK id kvs)))) H2 → Same H (upd H2 g (.dK (mapK id kvs))) := fun H2 z => lock_same hg z
    have fz1 : upd H g (.frz od (.dK (mapK id kvs))) g = some (.frz od (.dK (mapK id kvs))) := upd_same
    generalize upd H g (.frz od (.dK (mapK id kvs))) = L1 at back1 fz1 ⊢
    refine ⟨_, rfl, g, od, rfl, .inl ⟨mapK id kvs, fz1, fun D1 hD1 => ?_⟩⟩
    refine lc_it (walk_keys (d := g) (o := od) (kvs := mapK id kvs)) (fun i H2 => Same L1 H2 ∧ H2 D1 = some (.lst (((kvs.take i).map fun z => shn z.1).map V.str))) ⟨Same.upd hD1, upd_same⟩ (fun i H2 _ z => z.1 _ _ fz1) ?_ ?_
    · rintro i v H0 H2 hi ⟨S2, lD⟩ ⟨rfl, kk, vv, hgg, rfl⟩
      obtain ⟨x, n, rfl, _, hn⟩ := mapK_get hgg
      have hx := hkX _ (List.mem_of_getElem? hn)
      refine ⟨rfl, ?_⟩
      refine ⟨_, rfl, .str x, .str x, rfl, .str x, rfl, by show 0 ≤ 60; decide, by have := (shnX_small x hx).1; rw [sizeLine_eq]; show (shn x).length ≤ _; omega, _, lD, ?_, EX.Same.updN S2 hD1, ?_⟩
      · rw [List.length_map, List.length_map, List.length_take, sizeLine_eq]
        omega
      · rw [upd_same, List.take_add_one, hn, List.map_append, List.map_append]
        rfl
    rintro H21 ⟨S21, lD1⟩
    refine ⟨S21 _ _ fz1, ?_⟩
    have nD1 : D1 ≠ g := fun z => by rw [z, fz1] at hD1; cases hD1
    have SA1 := back1 _ S21
    have lE1 : upd H21 g (.dK (mapK id kvs)) D1 = some (.lst ((kvs.map fun z => shn z.1).map V.str)) := by
      rw [upd_ne nD1, lD1, hlg, List.take_length]
    generalize upd H21 g (.dK (mapK id kvs)) = R1 at SA1 lE1 ⊢
    clear lD1 S21 back1 hD1 nD1 fz1
    refine ⟨D1, kvs.map (fun z => shn z.1), rfl, ?_, ?_, fun ys1 q1 perm1 srt1 new1 => ?_⟩
    · exact SqL.of lE1
    · rw [List.length_map]
      omega
    have SB1 := Same.trans SA1 (Same.upd (o := HO.lst (ys1.map V.str)) new1)
    have lq1 : upd R1 q1 (HO.lst (ys1.map V.str)) q1 = some (.lst (ys1.map V.str)) := upd_same
    generalize upd R1 q1 (HO.lst (ys1.map V.str)) = T1 at SB1 lq1 ⊢
    clear SA1 lE1
    refine ⟨d, .dK (parK par), (SB1 _ _ hd), trivial, fun od => ?_⟩
    have back2 : ∀ H2, Same (upd T1 d (.frz od (.dK (parK par)))) H2 → Same T1 (upd H2 d (.dK (parK par))) := fun H2 z => lock_same (SB1 _ _ hd) z
    have fz2 : upd T1 d (.frz od (.dK (parK par))) d = some (.frz od (.dK (parK par))) := upd_same
    generalize upd T1 d (.frz od (.dK (parK par))) = L2 at back2 fz2 ⊢
    refine ⟨_, rfl, d, od, rfl, .inl ⟨parK par, fz2, fun D2 hD2 => ?_⟩⟩
    refine lc_it (walk_keys (d := d) (o := od) (kvs := parK par)) (fun i H2 => Same L2 H2 ∧ H2 D2 = some (.lst (((par.take i).map fun z => shn z.1).map V.str))) ⟨Same.upd hD2, upd_same⟩ (fun i H2 _ z => z.1 _ _ fz2) ?_ ?_
    · rintro i v H0 H2 hi ⟨S2, lD⟩ ⟨rfl, kk, vv, hgg, rfl⟩
      obtain ⟨x, n, rfl, rfl, hn⟩ := mapK_get hgg
      have hx := h11 _ (List.mem_of_getElem? hn)
      refine ⟨rfl, ?_⟩
      refine ⟨_, rfl, .str x, .str x, rfl, .str x, rfl, by show 0 ≤ 60; decide, by have := (shn_small x hx).1; rw [sizeLine_eq]; show (shn x).length ≤ _; omega, _, lD, ?_, EX.Same.updN S2 hD2, ?_⟩
      · rw [List.length_map, List.length_map, List.length_take, sizeLine_eq]
        have : par.length ≤ 11 := T.len
        omega
      · rw [upd_same, List.take_add_one, hn, List.map_append, List.map_append]
        rfl
    rintro H22 ⟨S22, lD2⟩
    refine ⟨S22 _ _ fz2, ?_⟩
    have nD2 : D2 ≠ d := fun z => by rw [z, fz2] at hD2; cases hD2
    have SA2 := back2 _ S22
    have lE2 : upd H22 d (.dK (parK par)) D2 = some (.lst ((par.map fun z => shn z.1).map V.str)) := by
      rw [upd_ne nD2, lD2, hlp, List.take_length]
    generalize upd H22 d (.dK (parK par)) = R2 at SA2 lE2 ⊢
    clear lD2 S22 back2 hD2 nD2 fz2
    have len2 : par.length ≤ 11 := T.len
    refine ⟨D2, par.map (fun z => shn z.1), rfl, ?_, ?_, fun ys2 q2 perm2 srt2 new2 => ?_⟩
    · exact SqL.of lE2
    · rw [List.length_map]
      omega
    have SB2 := Same.trans SA2 (Same.upd (o := HO.lst (ys2.map V.str)) new2)
    have lq2 : upd R2 q2 (HO.lst (ys2.map V.str)) q2 = some (.lst (ys2.map V.str)) := upd_same
    generalize upd R2 q2 (HO.lst (ys2.map V.str)) = T2 at SB2 lq2 ⊢
    clear SA2 lE2
    have kX : ∀ x ∈ kvs.map (·.1), x ∈ nmX := fun x hx => by
      obtain ⟨e, he, rfl⟩ := List.mem_map.mp hx
      exact hkX e he
    have pX : ∀ x ∈ par.map (·.1), x ∈ nmX := fun x hx => by
      obtain ⟨e, he, rfl⟩ := List.mem_map.mp hx
      exact nm_X (h11 e he)
    have p1 : ys1.Perm ((kvs.map (·.1)).map shn) := by
      rw [List.map_map]
      exact perm1
    have p2 : ys2.Perm ((par.map (·.1)).map shn) := by
      rw [List.map_map]
      exact perm2
    have okS : ∀ {ys : List Str} {l : List Str}, (∀ x ∈ l, x ∈ nmX) → ys.Perm (l.map shn) → ∀ y ∈ ys, PyData.strOk y = true := fun hl p y hy => by
      obtain ⟨z, hz, rfl⟩ := List.mem_map.mp (p.mem_iff.mp hy)
      exact (shnX_small _ (hl z hz)).2
    have DP1 : Dp K T2 (.ref q1) (.list (ys1.map PyData.str)) := .lst (SqL.of (SB2 _ _ lq1)) (dp_S _)
    have DP2 : Dp K T2 (.ref q2) (.list (ys2.map PyData.str)) := .lst (SqL.of lq2) (dp_S _)
    refine ⟨_, _, DP1, DP2, shaped_S (okS kX p1), shaped_S (okS pX p2), ?_⟩
    rw [show PyData.eqv (.list (ys1.map PyData.str)) (.list (ys2.map PyData.str)) = decide (ys1 = ys2) from eqv_SS _ _]
    refine ⟨_, rfl, ?_⟩
    have S0 : Same H T2 := Same.trans SB1 SB2
    by_cases eqn : ys1 = ys2
    case neg =>
      rw [decide_eq_false eqn]
      refine iteT (no (fun ⟨giv, e1, p, _⟩ => eqn ?_) S0)
      have pm : (kvs.map (·.1)).Perm (par.map (·.1)) := by
        rw [e1, ofNd_keys]
        exact p
      exact names_eq pm p1 p2 srt1 srt2
    rw [decide_eq_true eqn]
    refine iteF ?_
    have pmK : (kvs.map (·.1)).Perm (par.map (·.1)) := perm_shn kX pX (p1.symm.trans (by rw [eqn]; exact p2))
    have lenKP : kvs.length = par.length := by
      have := pmK.length_eq
      rwa [List.length_map, List.length_map] at this
    clear SB1 SB2 lq1 lq2 perm1 perm2 srt1 srt2 p1 p2 DP1 DP2 okS
    have hd0 := S0 _ _ hd
    -- the first walk: each is an allowance
    refine ⟨d, .dK (parK par), hd0, trivial, fun od => ?_⟩
    have bk : ∀ H2, Same (upd T2 d (.frz od (.dK (parK par)))) H2 → Same T2 (upd H2 d (.dK (parK par))) := fun H2 z => lock_same hd0 z
    have fz : upd T2 d (.frz od (.dK (parK par))) d = some (.frz od (.dK (parK par))) := upd_same
    have rg : Rd (upd T2 d (.frz od (.dK (parK par)))) g (.dK (mapK id kvs)) := Rd.lock (.inl (S0 _ _ hg)) hd0
    generalize upd T2 d (.frz od (.dK (parK par))) = L at bk fz rg ⊢
    refine ⟨_, rfl, d, od, rfl, .inl ⟨parK par, fz, ?_⟩⟩
    refine for_it (walk_keys (d := d) (o := od) (kvs := parK par)) (fun i σ H2 => ∃ v3 v4, σ = [some (.ref d), some (.ref e), some (.ref g), v3, v4] ∧ H2 = L ∧ ∀ p ∈ par.take i, ∃ m : Int, (p.1, V.int m) ∈ kvs ∧ 1 ≤ m ∧ m ≤ 99) ⟨_, _, rfl, rfl, by simp⟩ ?_ ?_ ?_
    · rintro i σ H2 _ ⟨v3, v4, rfl, rfl, _⟩
      exact fz
    · rintro i v σ H0 H2 hi ⟨v3, v4, rfl, rfl, gs⟩ ⟨rfl, kk, vv, hgg, rfl⟩
      obtain ⟨x, z, rfl, rfl, hn⟩ := mapK_get hgg
      have htk : par.take (i + 1) = par.take i ++ [(x, z)] := by rw [List.take_add_one, hn]; rfl
      have hxp := key_mem (List.mem_of_getElem? hn)
      obtain ⟨v, hv⟩ := mem_keys (pmK.mem_iff.mpr hxp)
      obtain ⟨b, al⟩ := vals _ hv
      have al : AlA v b := al
      have stop : ¬ (∃ n : Nat, v = .int (n : Nat) ∧ 1 ≤ n ∧ n ≤ 99) → Q (.bl false) (upd H2 d (.dK (parK par))) := fun h => no (fun ⟨giv, e1, p, rng, _⟩ => by
        obtain ⟨n, hn1, hn2⟩ := ofNd_mem.mp (show (x, v) ∈ ofNd giv by rw [← e1]; exact hv)
        exact h ⟨n, hn2, rng _ hn1⟩) (Same.trans S0 (bk _ (Same.refl _)))
      refine ⟨_, rfl, _, rfl, g, _, rfl, dget_m (f := id) rg gnd hv, ?_⟩
      cases al with
      | int n =>
        refine ⟨_, rfl, _, _, _, _, true, rfl, .ty _, .base (.int _), kit_ty (by decide +kernel), _, rfl, iteF ?_⟩
        refine ⟨_, rfl, _, _, _, _, false, rfl, .ty _, .base (.int _), kit_ty (by decide +kernel), _, rfl, iteF ?_⟩
        refine ⟨_, rfl, _, _, rfl, rfl, _, rfl, ?_⟩
        refine ite2 (fun h1 => ?_) (fun h1 => ⟨_, rfl, iteT ⟨fz, stop fun ⟨m, e1, m1, _⟩ => ?_⟩⟩)
        · have h1 : (1 : Int) ≤ n := of_decide_eq_true h1
          refine ⟨_, _, rfl, rfl, _, rfl, ?_⟩
          by_cases h2 : n ≤ 99
          · rw [decide_eq_true h2]
            refine iteF ⟨_, _, rfl, rfl, fun p hp => ?_⟩
            rw [htk] at hp
            rcases List.mem_append.mp hp with hp | hp
            · exact gs p hp
            · rw [List.mem_singleton.mp hp]
              exact ⟨n, hv, h1, h2⟩
          · rw [decide_eq_false h2]
            refine iteT ⟨fz, stop fun ⟨m, e1, _, m2⟩ => ?_⟩
            have := V.int.inj e1
            omega
        · have := V.int.inj e1
          exact h1 (decide_eq_true (by omega))
      | bl b =>
        refine ⟨_, rfl, _, _, _, _, true, rfl, .ty _, .base (.bl _), kit_ty (by decide +kernel), _, rfl, iteF ?_⟩
        exact ⟨_, rfl, _, _, _, _, true, rfl, .ty _, .base (.bl _), kit_ty (by decide +kernel), _, rfl, iteT ⟨fz, stop fun ⟨m, e1, _⟩ => nomatch e1⟩⟩
      | non => exact ⟨_, rfl, _, _, _, _, false, rfl, .ty _, .base .non, kit_ty (by decide +kernel), _, rfl, iteT ⟨fz, stop fun ⟨m, e1, _⟩ => nomatch e1⟩⟩
      | str s => exact ⟨_, rfl, _, _, _, _, false, rfl, .ty _, .base (.str _), kit_ty (by decide +kernel), _, rfl, iteT ⟨fz, stop fun ⟨m, e1, _⟩ => nomatch e1⟩⟩
    · rintro σ H2 ⟨v3, v4, rfl, rfl, gs⟩
      rw [hlp, List.take_length] at gs
      refine ⟨fz, ?_⟩
      have S1 := Same.trans S0 (bk _ (Same.refl _))
      generalize upd H2 d (.dK (parK par)) = U at S1 ⊢
      clear bk fz rg hd0 S0
      have hd0 := S1 _ _ hd
      obtain ⟨giv, rfl, pm, hv⟩ := giv_of T.nd gnd lenKP fun x hx => by
        obtain ⟨z, hz⟩ := mem_keys hx
        exact gs _ hz
      have gnd : (giv.map (·.1)).Nodup := pm.nodup_iff.mpr T.nd
      have numE : mapK id (ofNd giv) = numK giv := by
        unfold ofNd mapK
        rw [List.map_map]
        rfl
      rw [numE] at hg
      have svI : Serves par need (gv giv) → SvP par need (some (ofNd giv)) := fun h => ⟨giv, rfl, pm, hv, h⟩
      have svE : SvP par need (some (ofNd giv)) → Serves par need (gv giv) := fun ⟨g2, e, _, _, h⟩ => by
        have : g2 = giv := ofNd_inj e.symm
        rw [← this]
        exact h
      have k : ∀ (H' : Hp) (b : Bool), Same H H' → (b = true ↔ Serves par need (gv giv)) → Q (.bl b) H' := fun H' b s h => k0 b H' ⟨fun z => svI (h.mp z), fun z => h.mpr (svE z)⟩ s
      have getG : ∀ {x : Str}, x ∈ par.map (·.1) → ∃ n, (x, n) ∈ giv ∧ gv giv x = n := fun {x} h => by
        obtain ⟨n, hn⟩ := mem_keys (pm.mem_iff.mpr h)
        exact ⟨n, hn, gv_of gnd hn⟩
      -- the second walk: none has less than its parent
      refine ⟨d, .dK (parK par), hd0, trivial, fun od => ?_⟩
      have bk : ∀ H2, Same (upd U d (.frz od (.dK (parK par)))) H2 → Same U (upd H2 d (.dK (parK par))) := fun H2 z => lock_same hd0 z
      have fz : upd U d (.frz od (.dK (parK par))) d = some (.frz od (.dK (parK par))) := upd_same
      have rg : Rd (upd U d (.frz od (.dK (parK par)))) g (.dK (numK giv)) := Rd.lock (.inl (S1 _ _ hg)) hd0
      have rd : Rd (upd U d (.frz od (.dK (parK par)))) d (.dK (parK par)) := .inr ⟨_, fz⟩
      generalize upd U d (.frz od (.dK (parK par))) = L2 at bk fz rg rd ⊢
      refine ⟨_, rfl, d, od, rfl, .inl ⟨parK par, fz, ?_⟩⟩
      refine for_it (walk_keys (d := d) (o := od) (kvs := parK par)) (fun i σ H2 => ∃ v3, σ = [some (.ref d), some (.ref e), some (.ref g), v3, v4] ∧ Same L2 H2 ∧ ∀ p ∈ par.take i, p.2 ≠ store → gv giv p.2 ≤ gv giv p.1) ⟨_, rfl, Same.refl _, fun p hp => by simp at hp⟩ ?_ ?_ ?_
      · rintro i σ H3 _ ⟨v3, rfl, S2, _⟩
        exact S2 _ _ fz
      · rintro i v σ H0 H3 hi ⟨v3, rfl, S2, hok⟩ ⟨rfl, kk, vv, hgg, rfl⟩
        obtain ⟨x, z, rfl, rfl, hn⟩ := mapK_get hgg
        have hxz := List.mem_of_getElem? hn
        have htake : par.take (i + 1) = par.take i ++ [(x, z)] := by rw [List.take_add_one, hn]; rfl
        obtain ⟨n, hmem, hgn⟩ := getG (key_mem hxz)
        have snoc : (z ≠ store → gv giv z ≤ gv giv x) → ∀ p ∈ par.take (i + 1), p.2 ≠ store → gv giv p.2 ≤ gv giv p.1 := fun h p hp => by
          rw [htake] at hp
          rcases List.mem_append.mp hp with hp | hp
          · exact hok p hp
          · simp at hp
            subst hp
            exact h
        refine ⟨_, rfl, _, rfl, d, _, rfl, dget_m (f := V.str) (Rd.same S2 rd) T.nd hxz, rfl, _, rfl, ite2 (fun hne => ?_) (fun he => ?_)⟩
        · have hne' : z ≠ store := by simpa [store] using hne
          obtain ⟨r, hr0⟩ := T.up
          have hz : z ∈ par.map (·.1) := (hr0 _ hxz).elim (fun q => absurd q hne') (·.1)
          obtain ⟨m, hmz, hgm⟩ := getG hz
          refine ⟨_, rfl, _, rfl, g, _, rfl, dget_m (f := fun n : Nat => V.int (n : Int)) (Rd.same S2 rg) gnd hmem, ?_⟩
          refine ⟨_, rfl, _, rfl, _, rfl, d, _, rfl, dget_m (f := V.str) (Rd.same S2 rd) T.nd hxz, g, _, rfl, dget_m (f := fun n : Nat => V.int (n : Int)) (Rd.same S2 rg) gnd hmz, _, _, rfl, rfl, _, rfl, ite2 (fun h => ?_) (fun h => ?_)⟩
          · have h' : (n : Int) < (m : Int) := by simpa using h
            refine ⟨S2 _ _ fz, k _ false (Same.trans S1 (bk _ S2)) ⟨fun z => (by cases z), fun sv => absurd (sv.1 _ hxz hne') ?_⟩⟩
            show ¬ gv giv z ≤ gv giv x
            omega
          · have h' : ¬ (n : Int) < (m : Int) := by simpa using h
            exact ⟨_, rfl, S2, snoc fun _ => by omega⟩
        · have he' : z = store := by simpa [store] using he
          exact ⟨_, rfl, S2, snoc fun q => absurd he' q⟩
      · rintro σ H3 ⟨v3, rfl, S2, hok⟩
        refine ⟨S2 _ _ fz, ?_⟩
        rw [show (parK par).length = par.length from List.length_map _, List.take_length] at hok
        have S3 := Same.trans S1 (bk _ S2)
        generalize upd H3 d (.dK (parK par)) = U2 at S3 ⊢
        clear bk fz rg rd S2 hd0 S1
        have he0 := S3 _ _ he
        refine ⟨e, .dK (numK need), he0, trivial, fun od => ?_⟩
        have bk : ∀ H2, Same (upd U2 e (.frz od (.dK (numK need)))) H2 → Same U2 (upd H2 e (.dK (numK need))) := fun H2 z => lock_same he0 z
        have fz : upd U2 e (.frz od (.dK (numK need))) e = some (.frz od (.dK (numK need))) := upd_same
        have rg : Rd (upd U2 e (.frz od (.dK (numK need)))) g (.dK (numK giv)) := Rd.lock (.inl (S3 _ _ hg)) he0
        have re : Rd (upd U2 e (.frz od (.dK (numK need)))) e (.dK (numK need)) := .inr ⟨_, fz⟩
        generalize upd U2 e (.frz od (.dK (numK need))) = L3 at bk fz rg re ⊢
        refine ⟨_, rfl, e, od, rfl, .inl ⟨numK need, fz, fun D hD => ?_⟩⟩
        refine lc_it (walk_keys (d := e) (o := od) (kvs := numK need)) (fun i H2 => Same L3 H2 ∧ H2 D = some (.lst ((((need.take i).filter fun p => decide (p.2 < gv giv p.1)).map (·.1)).map V.str))) ⟨Same.upd hD, upd_same⟩ (fun i H2 _ z => z.1 _ _ fz) ?_ ?_
        · rintro i v H0 H2 hi ⟨S2, lD⟩ ⟨rfl, kk, vv, hgg, rfl⟩
          obtain ⟨x, m, rfl, rfl, hn⟩ := mapK_get hgg
          have hxm := List.mem_of_getElem? hn
          obtain ⟨n, hmem, hgn⟩ := getG (x := x) (N.key _ hxm)
          have htake : need.take (i + 1) = need.take i ++ [(x, m)] := by rw [List.take_add_one, hn]; rfl
          have hlen : need.length ≤ 11 := by
            have h1 := nodup_len N.nd fun z hz => by
              obtain ⟨b, hb⟩ := mem_keys hz
              exact N.key _ hb
            rw [List.length_map, List.length_map] at h1
            have := T.len
            omega
          refine ⟨rfl, ?_⟩
          refine ⟨_, rfl, _, rfl, g, _, rfl, dget_m (f := fun n : Nat => V.int (n : Int)) (Rd.same S2 rg) gnd hmem, _, rfl, _, rfl, e, _, rfl, dget_m (f := fun n : Nat => V.int (n : Int)) (Rd.same S2 re) N.nd hxm, _, _, rfl, rfl, _, rfl, ite2 (fun h => ?_) (fun h => ?_)⟩
          · have h' : (m : Int) < (n : Int) := by simpa using h
            refine ⟨_, rfl, _, lD, ?_, EX.Same.updN S2 hD, ?_⟩
            · rw [List.length_map, List.length_map, sizeLine_eq]
              have h1 := List.length_filter_le (fun p : Str × Nat => decide (p.2 < gv giv p.1)) (need.take i)
              rw [List.length_take] at h1
              omega
            · have e1 : ([(x, m)] : Nd).filter (fun p => decide (p.2 < gv giv p.1)) = [(x, m)] := List.filter_eq_self.mpr fun p hp => by
                rw [List.mem_singleton.mp hp]
                exact decide_eq_true (show m < gv giv x by omega)
              rw [upd_same, htake, List.filter_append, List.map_append, List.map_append, e1]
              rfl
          · have h' : ¬ (m : Int) < (n : Int) := by simpa using h
            refine ⟨S2, ?_⟩
            have e1 : ([(x, m)] : Nd).filter (fun p => decide (p.2 < gv giv p.1)) = [] := List.filter_eq_nil_iff.mpr fun p hp => by
              rw [List.mem_singleton.mp hp, decide_eq_false (show ¬ m < gv giv x by omega)]
              decide
            rw [lD, htake, List.filter_append, e1, List.append_nil]
        · rintro H2 ⟨S2, lD⟩
          refine ⟨S2 _ _ fz, ?_⟩
          have nD : D ≠ e := fun z => by rw [z, fz] at hD; cases hD
          rw [show (numK need).length = need.length from List.length_map _, List.take_length] at lD
          have S4 := Same.trans S3 (bk _ S2)
          have lD4 : upd H2 e (.dK (numK need)) D = some (.lst ((((need.filter fun p => decide (p.2 < gv giv p.1)).map (·.1)).map V.str))) := by rw [upd_ne nD]; exact lD
          generalize upd H2 e (.dK (numK need)) = U3 at S4 lD4 ⊢
          refine ⟨by show 0 ≤ sizeLine; decide, fun l hl => ?_⟩
          have s5 : Same U3 (upd U3 l (.lst [])) := Same.upd hl
          have ll : upd U3 l (HO.lst []) l = some (.lst []) := upd_same
          have DP1 : Dp K (upd U3 l (.lst [])) (.ref D) (.list (((need.filter fun p => decide (p.2 < gv giv p.1)).map (·.1)).map PyData.str)) := .lst (SqL.of (s5 _ _ lD4)) (dp_S _)
          have DP2 : Dp K (upd U3 l (.lst [])) (.ref l) (.list []) := .lst (SqL.of ll) .nil
          refine ⟨_, _, DP1, DP2, shaped_S fun y hy => ?_, rfl, k _ _ (Same.trans S4 s5) ?_⟩
          · obtain ⟨z, hz, rfl⟩ := List.mem_map.mp hy
            obtain ⟨b, hb⟩ := mem_keys (N.key _ (List.mem_filter.mp hz).1)
            exact nm_ok _ (h11 _ hb)
          · rw [eqv_nil, List.isEmpty_iff, List.map_eq_nil_iff, List.map_eq_nil_iff, List.filter_eq_nil_iff]
            constructor
            · intro h
              exact ⟨hok, fun p hp => by
                have := h p hp
                simp at this
                exact this⟩
            · intro sv p hp
              have := sv.2 p hp
              simp
              exact this
end
end K69
set_option Elab.async false
set_option linter.all false
set_option maxRecDepth 100000
set_option maxHeartbeats 4000000
namespace EX
open PySem L2 PySem.Spec PyProof.Rows
/-! ### several new objects at once -/
theorem mem_lk {β : Type} : ∀ {l : List (Addr × β)} {a : Addr} {b : β}, l.lookup a = some b → (a, b) ∈ l
  | [], a, b, h => by simp at h
  | (x, y) :: t, a, b, h => by
    rw [List.lookup_cons] at h
    by_cases e : (a == x) = true
    · rw [e] at h
      rw [beq_iff_eq.mp e, Option.some.inj h]
      exact List.mem_cons_self ..
    · rw [show (a == x) = false by simpa using e] at h
      exact List.mem_cons_of_mem _ (mem_lk h)
def manyH (H : Hp) (N : List (Addr × HO)) : Hp := fun b => match N.lookup b with
  | some o => some o
  | none => H b
theorem manyH_some {H : Hp} {N : List (Addr × HO)} {b : Addr} {o : HO} (h : N.lookup b = some o) : manyH H N b = some o := by
  unfold manyH
  rw [h]
theorem manyH_none {H : Hp} {N : List (Addr × HO)} {b : Addr} (h : N.lookup b = none) : manyH H N b = H b := by
  unfold manyH
  rw [h]
section
variable {X : Cx} {pins : List (Addr × Obj)} {σ : L2.St} {H : Hp} {s : Shared} {h' : Heap}
theorem lookup_new {N : List (Addr × HO)} (hp : ∀ p ∈ N, s.heap.objs.size ≤ p.1) {b : Addr} (hb : b < s.heap.objs.size) : N.lookup b = none := by
  cases q : N.lookup b with
  | none => rfl
  | some o => exact absurd (Nat.lt_of_lt_of_le hb (hp (b, o) (mem_lk q))) (Nat.lt_irrefl _)
theorem same_many {N : List (Addr × HO)} (I : Inv X pins σ H s) (hp : ∀ p ∈ N, s.heap.objs.size ≤ p.1) : Same H (manyH H N) := fun b o e => by
  rw [manyH_none (lookup_new hp ?_)]
  · exact e
  · rcases Nat.lt_or_ge b s.heap.objs.size with h | h
    · exact h
    · rw [I.hok.fresh h] at e
      cases e
theorem laidN {N : List (Addr × HO)} {t' : Nat} (I : Inv X pins σ H s) (k : ∀ b u, s.heap.get? b = some u → h'.get? b = some u) (hp : ∀ p ∈ N, s.heap.objs.size ≤ p.1) (new : ∀ p ∈ N, ObjOk X.prog X.w (manyH H N) h' p.1 p.2) :
    Inv X pins σ (manyH H N) { s with heap := h', toks := t' } := by
  have sm := same_many I hp
  have at_ : ∀ {b u}, s.heap.get? b = some u → manyH H N b = H b := fun {b u} e => manyH_none (lookup_new hp (Heap.lt_size e))
  refine I.un ⟨fun b u q _ _ _ => k b u q, fun b u q _ _ _ => ⟨u.slots, k b u q⟩, fun b u q n _ => by rw [at_ q]; exact n, fun b u q _ => ⟨u, k b u q⟩, fun b xs q => sm _ _ q, fun b u xs q => sm _ _ q, fun b ps q => ⟨#[], by rw [sm _ _ q]; simp⟩⟩ ?_
  intro b u e
  cases q : N.lookup b with
  | some o =>
    rw [manyH_some q] at e
    cases e
    exact new (b, _) (mem_lk q)
  | none =>
    rw [manyH_none q] at e
    exact (I.hok b u e).stay (fun c v _ q => k c v q) (fun c q => sm _ _ q) fun c xs q => sm _ _ q
end
/-! ### d.items(), list(d.items()) -/
/-- the view of d's pairs -/
def itvO (v d : Addr) : HO := .ext fun h => h.get? v = some { cls := .type "dict_items", data := .fields #[.ref d] }
def rItems : V → List V → Hp → VK → Prop := fun x xs H Q => ∃ (d : Addr) (kvs : List (Key × V)), x = .ref d ∧ xs = [] ∧ H d = some (.dK kvs) ∧ ∀ v, H v = none → Q (.ref v) (upd H v (itvO v d))
theorem mt_items {X : Cx} : MtR X "dict.items" rItems := by
  intro pins s σ H x xs v us Q I rx rv h
  obtain ⟨a, kvs, ex, ev, e, q⟩ := h
  subst ex
  subst ev
  obtain rfl : v = Value.ref a := rx
  have hus := rv.zero
  subst hus
  obtain ⟨z, lo, vs, rk, dd⟩ := (show ObjOk X.prog X.w H s.heap a (.dK kvs) from I.hok a _ e)
  have hT : s.TypeIs (.ref a) "dict" := by
    obtain ⟨ep, hat⟩ := dd.dictAt
    exact hat.dictOf.typeIs
  refine call_meetsIn PySem.F.slot_dict_items hT PySem.F.entry_dict_items (PySem.F.args_dict_items_1 _) (meets_dict_items (mixKind X.prog X.w) a lo) ⟨⟨vs, dd⟩, ?_⟩
  have J := I.laid (t' := s.toks) (a := s.heap.objs.size) (o := itvO s.heap.objs.size a) (h' := s.heap.push { cls := .type "dict_items", data := .fields #[.ref a] }) (fun b u e => Heap.get?_push_of_some _ e) (Nat.le_refl _)
    ⟨Heap.get?_push_size _ rfl, ⟨_, Heap.get?_push_size _ rfl⟩, fun h1 h2 q k => k _ q⟩
  exact ⟨.ref s.heap.objs.size, _, J, rfl, q _ (I.hok.fresh (Nat.le_refl _))⟩
def rListI : List V → Hp → VK → Prop := fun xs H Q => ∃ (v d : Addr) (kvs : List (Key × V)), xs = [.ref v] ∧ H v = some (itvO v d) ∧ H d = some (.dK kvs) ∧
  ∀ (l : Addr) (ts : List Addr) (H' : Hp), Same H H' → H l = none → H' l = some (.lst (ts.map V.ref)) → Paired (fun (t : Addr) (kv : Key × V) => H' t = some (.tup [kV kv.1, kv.2])) ts kvs → Q (.ref l) H'
theorem pairs_at {X : Cx} {h' : Heap} : ∀ {kvs : List (Key × V)} {vs : List (Key × Value)} {es : List DictEntry}, KV kvs vs → Pairs (mixKind X.prog X.w) es vs →
    ∀ {as : List Addr}, as.length = es.length → (∀ (j : Nat) (a : Addr) (e : DictEntry), as[j]? = some a → es[j]? = some e → h'.get? a = some { cls := .type "tuple", data := .seq #[e.key, e.val] }) →
    Paired (fun (a : Addr) (kv : Key × V) => ∀ H', ObjOk X.prog X.w H' h' a (.tup [kV kv.1, kv.2])) as kvs
  | _, _, _, .nil, .nil, as, hl, _ => by
    cases as with
    | nil => exact .nil
    | cons a t => simp at hl
  | _, _, _, .cons hk t, .cons (e := e) h1 h2 te, as, hl, g => by
    cases as with
    | nil => simp at hl
    | cons a as =>
      refine .cons (fun H' => ?_) (pairs_at t te (by simpa using hl) fun j a' e' h1 h2 => g (j + 1) a' e' (by simpa using h1) (by simpa using h2))
      have ho := g 0 a e rfl rfl
      refine ⟨by show 2 ≤ sizeLine; decide, [e.key, e.val], .cons ?_ (.cons ?_ .nil), _, ho, rfl, ?_⟩
      · exact keyIs_rel (by rw [hk.1]; exact h1)
      · rw [h2]
        exact hk.2
      · exact ⟨_, rfl⟩
theorem paired_zip {α β : Type} {F : α → β → Prop} : ∀ {l : List α} {m : List β}, Paired F l m → ∀ p ∈ l.zip m, F p.1 p.2
  | _, _, .nil, p, h => by simp at h
  | _, _, .cons a t, p, h => by
    rcases List.mem_cons.mp (show p ∈ _ :: _ from h) with e | e
    · rw [e]
      exact a
    · exact paired_zip t p e
theorem lookup_zip {β : Type} : ∀ {l : List Addr} {m : List β}, l.Nodup → l.length = m.length → Paired (fun (a : Addr) (b : β) => (l.zip m).lookup a = some b) l m
  | [], [], _, _ => .nil
  | a :: l, b :: m, hn, hl => by
    rw [List.nodup_cons] at hn
    have ih := lookup_zip (l := l) (m := m) hn.2 (by simpa using hl)
    refine .cons (by simp [List.lookup]) ?_
    have : ∀ {l' : List Addr} {m' : List β}, (∀ x ∈ l', x ≠ a) → Paired (fun (x : Addr) (y : β) => (l.zip m).lookup x = some y) l' m' → Paired (fun (x : Addr) (y : β) => ((a :: l).zip (b :: m)).lookup x = some y) l' m' := by
      intro l' m' hne p
      induction p with
      | nil => exact .nil
      | cons e t iht =>
        rename_i x y xs ys
        refine .cons ?_ (iht fun z hz => hne z (List.mem_cons_of_mem _ hz))
        have hx : x ≠ a := hne x (List.mem_cons_self ..)
        show List.lookup x ((a, b) :: l.zip m) = some y
        rw [List.lookup_cons, show (x == a) = false from beq_eq_false_iff_ne.mpr hx]
        exact e
    exact this (fun x hx z => hn.1 (z ▸ hx)) ih
theorem cr_listItems {X : Cx} (hc : X.calm = true) : CallR X (.type "list") rListI := by
  intro pins s σ H xs us Q I r h
  obtain ⟨v, d, kvs, rfl, ev, ed, q⟩ := h
  obtain ⟨u, rfl, ru⟩ := vals1 r
  obtain rfl : u = Value.ref v := ru
  obtain ⟨hv, _, _⟩ := I.hok v _ ev
  have hv : s.heap.get? v = some { cls := .type "dict_items", data := .fields #[.ref d] } := hv
  obtain ⟨hz, lo, vs, kv, o, es, ep, ho, hx, hd, hsz, hp, _⟩ := (show ObjOk X.prog X.w H s.heap d (.dK kvs) from I.hok d _ ed)
  have hl1 : kvs.length = vs.length := Paired.length kv
  have hl2 : es.toList.length = vs.length := Pairs.length hp
  have hes : es.size = kvs.length := by rw [← Array.length_toList, hl2, hl1]
  refine PySem.W.dil_call (I.ok.hd hc) ⟨_, hv, rfl, rfl⟩ ⟨o, ho, hx, hd⟩ (by rw [hes]; exact hz) fun h' tk acc c as k hS hlen G hacc => ?_
  have hal : as.length = kvs.length := by rw [hlen, hes]
  have PA : Paired (fun (a : Addr) (kv : Key × V) => ∀ H', ObjOk X.prog X.w H' h' a (.tup [kV kv.1, kv.2])) as kvs := pairs_at kv hp (by rw [hal, ← hes, Array.length_toList]) fun j a e h1 h2 => by
    obtain ⟨hj, e3⟩ := G.pairs j a h1
    have e4 : es[j] = e := by
      rw [Array.getElem?_toList, Array.getElem?_eq_getElem hj] at h2
      exact Option.some.inj h2
    rw [e4] at e3
    exact e3
  have nd : as.Nodup := G.rise.imp fun h => Nat.ne_of_lt h
  have hS0 : ∀ a ∈ as, s.heap.objs.size < a := G.above
  have hP := lookup_zip (m := kvs.map fun kv => HO.tup [kV kv.1, kv.2]) nd (by rw [List.length_map]; exact hal)
  have lkS : ∀ {a : Addr} {o : HO}, (as.zip (kvs.map fun kv => HO.tup [kV kv.1, kv.2])).lookup a = some o → ((s.heap.objs.size, HO.lst (as.map V.ref)) :: as.zip (kvs.map fun kv => HO.tup [kV kv.1, kv.2])).lookup a = some o := fun {a o} e => by
    have hm := List.of_mem_zip (mem_lk e)
    rw [List.lookup_cons, show (a == s.heap.objs.size) = false from beq_eq_false_iff_ne.mpr (Nat.ne_of_gt (hS0 a hm.1))]
    exact e
  have le : ∀ p ∈ ((s.heap.objs.size, HO.lst (as.map V.ref)) :: as.zip (kvs.map fun kv => HO.tup [kV kv.1, kv.2])), s.heap.objs.size ≤ p.1 := fun p hp => by
    rcases List.mem_cons.mp hp with e | e
    · rw [e]
      exact Nat.le_refl _
    · exact Nat.le_of_lt (hS0 _ (List.of_mem_zip e).1)
  have J := laidN (t' := tk) I k le fun p hp => by
    rcases List.mem_cons.mp hp with e | e
    · rw [e]
      refine ⟨by rw [List.length_map, hal]; exact hz, acc.toList, c, ?_, ?_⟩
      · rw [hacc]
        exact vals_refs as
      · rw [Array.toArray_toList]
        exact hS
    · obtain ⟨a, o2⟩ := p
      have hm : (a, o2) ∈ as.zip (kvs.map fun kv => HO.tup [kV kv.1, kv.2]) := e
      rw [List.zip_map_right] at hm
      obtain ⟨⟨a', kv'⟩, h1, h2⟩ := List.mem_map.mp hm
      cases h2
      exact paired_zip PA _ h1 _
  refine ⟨.ref s.heap.objs.size, _, J, rfl, q _ as _ (same_many I le) (I.hok.fresh (Nat.le_refl _)) (manyH_some (by rw [List.lookup_cons]; simp)) ?_⟩
  have conv : ∀ {l : List Addr} {m : List (Key × V)}, Paired (fun (a : Addr) (b : HO) => (as.zip (kvs.map fun kv => HO.tup [kV kv.1, kv.2])).lookup a = some b) l (m.map fun kv => HO.tup [kV kv.1, kv.2]) →
      Paired (fun (t : Addr) (kv : Key × V) => manyH H ((s.heap.objs.size, HO.lst (as.map V.ref)) :: as.zip (kvs.map fun kv => HO.tup [kV kv.1, kv.2])) t = some (.tup [kV kv.1, kv.2])) l m := by
    intro l m p
    induction m generalizing l with
    | nil => cases p; exact .nil
    | cons x m ih =>
      cases p with
      | cons e t => exact .cons (manyH_some (lkS e)) (ih t)
  exact conv hP
end EX
set_option Elab.async false
set_option linter.all false
set_option maxRecDepth 100000
set_option maxHeartbeats 4000000
/-! dict(list(d.items()) + [(k, v)]) as one step -/
namespace EX
open PySem PySem.Spec L2 PyProof.Rows
theorem pe_weak {X : Cx} {e : Expr} {t t' : TE} (h : PE X e t) (w : ∀ σ H Q, t' σ H Q → t σ H Q) : PE X e t' := ⟨fun pins s σ H Q I q => h.run pins s σ H Q I (w σ H Q q)⟩
theorem same_laid {H : Hp} {p : Addr} {o : HO} (h : H p = none) : Same H (L2.upd H p o) := fun b u e => by
  rw [upd_ne (ne_of_none e h)]
  exact e
def tDX (i : Nat) (ta : TA) : TE := fun σ H Q => ∃ (g : Addr) (kvs : List (Key × V)), σ[i]? = some (some (.ref g)) ∧ H g = some (.dK kvs) ∧ kvs.length ≤ 1000 ∧
  ∀ H1, Same H H1 → ta σ H1 fun vs H3 => ∃ k v, vs = [kV k, v] ∧ Same H1 H3 ∧ ∀ q H4, Same H3 H4 → H3 q = none → H4 q = some (.dK (mergeK [] (kvs ++ [(k, v)]))) → Q (.ref q) H4
theorem paired_snoc' {α β : Type} {F : α → β → Prop} : ∀ {l : List α} {m : List β} {a : α} {b : β}, Paired F l m → F a b → Paired F (l ++ [a]) (m ++ [b])
  | _, _, _, _, .nil, e => .cons e .nil
  | _, _, _, _, .cons h t, e => .cons h (paired_snoc' t e)
theorem paired_imp {α β : Type} {F G : α → β → Prop} (w : ∀ a b, F a b → G a b) : ∀ {l : List α} {m : List β}, Paired F l m → Paired G l m
  | _, _, .nil => .nil
  | _, _, .cons h t => .cons (w _ _ h) (paired_imp w t)
section
variable {X : Cx} {ta : TA} {k v : Expr} {i : Nat} {y : Str} {p1 p2 p3 p4 p5 p6 p7 p8 p9 pos : Pos} {c1 : Nat}
theorem pe_dx (calm : X.calm = true) (md : X.mg "dict" = none) (ml : X.mg "list" = none) (hy : PE X (.Name y p1) (tVar i)) (hkv : PA X [k, v] ta) (mono : ∀ (σ : L2.St) (H : Hp) (R R' : List V → Hp → Prop), (∀ vs H1, R vs H1 → R' vs H1) → ta σ H R → ta σ H R')
    (gd : Gl X "dict" := by rfl) (gl : Gl X "list" := by rfl)
    (base : attributeBase (.Name y p1) "items" X.env (eval (.Name y p1) X.env) = eval (.Name y p1) X.env := by rfl) (line : (p2.endLine == p3.line) = true := by rfl) :
    PE X (.Call (.Name "dict" p4) [.BinOp (.Call (.Name "list" p5) [.Call (.Attribute (.Name y p1) "items" p2) [] [] p3] [] p6) .Add (.List [.Tuple [k, v] c1 p7] p8) p9] [] pos) (tDX i ta) := by
  refine pe_weak (pe_callTy (call_dictP calm) gd md (by decide +kernel) (pa_cons (pe_op op_cat (pe_callTy (cr_listItems calm) gl ml (by decide +kernel) (pa_cons (pe_bm0 PySem.F.plainAttrs_dict PySem.F.slot_dict_items PySem.F.type_dict_items mt_items hy base line) pa_nil)) (pe_lst (pa_cons (pe_tup hkv) pa_nil))) pa_nil)) fun σ H Q h => ?_
  obtain ⟨g, kvs, hσ, hg, hl, h⟩ := h
  refine ⟨_, hσ, .inr (.inr (.inl ⟨rfl, .inl ⟨kvs, hg⟩⟩)), g, kvs, rfl, rfl, hg, fun w hw => ?_⟩
  have s1 : Same H (L2.upd H w (itvO w g)) := same_laid hw
  have l1 : L2.upd H w (itvO w g) w = some (itvO w g) := upd_same
  generalize L2.upd H w (itvO w g) = H1 at s1 l1 ⊢
  refine ⟨w, g, kvs, rfl, l1, s1 _ _ hg, fun l ts H2 s2 hl2 ll pt => ?_⟩
  have s02 : Same H H2 := fun b o e => s2 _ _ (s1 _ _ e)
  have tl : ts.length = kvs.length := Paired.length pt
  refine mono _ _ _ _ ?_ (h H2 s02)
  rintro vs H3 ⟨k, v, rfl, s3, fin⟩
  refine ⟨by show 2 ≤ sizeLine; decide, fun t ht => ?_⟩
  have s4 : Same H3 (L2.upd H3 t (.tup [kV k, v])) := same_laid ht
  have l4 : L2.upd H3 t (HO.tup [kV k, v]) t = some (.tup [kV k, v]) := upd_same
  generalize L2.upd H3 t (HO.tup [kV k, v]) = H4 at s4 l4 ⊢
  refine ⟨by show 1 ≤ sizeLine; decide, fun l2 hl2' => ?_⟩
  have s5 : Same H4 (L2.upd H4 l2 (.lst [.ref t])) := same_laid hl2'
  have l5 : L2.upd H4 l2 (HO.lst [.ref t]) l2 = some (.lst [.ref t]) := upd_same
  generalize L2.upd H4 l2 (HO.lst [.ref t]) = H5 at s5 l5 ⊢
  have s35 : Same H3 H5 := fun b o e => s5 _ _ (s4 _ _ e)
  have s25 : Same H2 H5 := fun b o e => s35 _ _ (s3 _ _ e)
  have tl2 : (ts.map V.ref).length = kvs.length := by rw [List.length_map]; exact tl
  refine ⟨l, l2, _, _, rfl, rfl, s25 _ _ ll, l5, ?_, fun p hp => ?_⟩
  · rw [tl2, sizeLine_eq]
    show kvs.length + 1 ≤ _
    omega
  have s6 : Same H5 (L2.upd H5 p (.lst (ts.map V.ref ++ [.ref t]))) := same_laid hp
  have l6 : L2.upd H5 p (HO.lst (ts.map V.ref ++ [.ref t])) p = some (.lst ((ts ++ [t]).map V.ref)) := by
    rw [upd_same, List.map_append]
    rfl
  generalize L2.upd H5 p (HO.lst (ts.map V.ref ++ [.ref t])) = H6 at s6 l6 ⊢
  have s36 : Same H3 H6 := fun b o e => s6 _ _ (s35 _ _ e)
  have s26 : Same H2 H6 := fun b o e => s6 _ _ (s25 _ _ e)
  refine ⟨p, ts ++ [t], kvs ++ [(k, v)], rfl, SqL.of l6, paired_snoc' (paired_imp (fun a kv e => SqT.of (s26 _ _ e)) pt) (SqT.of (s6 _ _ (s5 _ _ l4))), fun q hq => ?_⟩
  refine fin q _ (fun b o e => same_laid hq _ _ (s36 _ _ e)) ?_ upd_same
  cases e : H3 q with
  | none => rfl
  | some o => rw [s36 _ _ e] at hq; cases hq
end
end EX
set_option Elab.async false
set_option linter.all false
set_option maxRecDepth 100000
set_option maxHeartbeats 4000000
namespace K69
open PySem L2 EX PyProof.Rows M68 LamX
def setV (kvs : List (Str × V)) (x : Str) (v : V) : List (Str × V) := kvs.map fun e => if e.1 = x then (e.1, v) else e
theorem setV_keys {kvs : List (Str × V)} {x : Str} {v : V} : (setV kvs x v).map (·.1) = kvs.map (·.1) := by
  unfold setV
  rw [List.map_map]
  refine List.map_congr_left fun e _ => ?_
  show (if e.1 = x then (e.1, v) else e).1 = e.1
  split <;> rfl
theorem setV_len {kvs : List (Str × V)} {x : Str} {v : V} : (setV kvs x v).length = kvs.length := List.length_map _
theorem setV_al {kvs : List (Str × V)} {x : Str} {v : V} {b : Bool} (h : ∀ e ∈ kvs, ∃ b, AlA e.2 b) (a : AlA v b) : ∀ e ∈ setV kvs x v, ∃ b, AlA e.2 b := fun e he => by
  obtain ⟨z, hz, rfl⟩ := List.mem_map.mp he
  by_cases q : z.1 = x
  · rw [if_pos q]
    exact ⟨_, a⟩
  · rw [if_neg q]
    exact h z hz
theorem setV_X {kvs : List (Str × V)} {x : Str} {v : V} (h : ∀ e ∈ kvs, e.1 ∈ nmX) : ∀ e ∈ setV kvs x v, e.1 ∈ nmX := fun e he => by
  obtain ⟨z, hz, rfl⟩ := List.mem_map.mp he
  by_cases q : z.1 = x
  · rw [if_pos q]
    exact h z hz
  · rw [if_neg q]
    exact h z hz
theorem ofNd_al {giv : Nd} (h : ∀ e ∈ giv, AlA (V.int (e.2 : Nat)) true) : ∀ e ∈ ofNd giv, ∃ b, AlA e.2 b := fun e he => by
  obtain ⟨z, hz, rfl⟩ := List.mem_map.mp he
  exact ⟨_, h z hz⟩
theorem numE (giv : Nd) : numK giv = mapK id (ofNd giv) := by
  unfold ofNd mapK
  rw [List.map_map]
  rfl
theorem mergeK_snoc (l : List (Key × V)) (e : Key × V) : mergeK [] (l ++ [e]) = putK (mergeK [] l) e.1 e.2 := by
  have aux : ∀ (l a : List (Key × V)), mergeK a (l ++ [e]) = putK (mergeK a l) e.1 e.2 := by
    intro l
    induction l with
    | nil => intro a; rfl
    | cons x t ih => intro a; exact ih _
  exact aux l []
theorem merge_set {giv : Nd} (nd : (giv.map (·.1)).Nodup) {x : Str} (hx : x ∈ giv.map (·.1)) {v : V} : mergeK [] (numK giv ++ [(Sum.inr x, v)]) = mapK id (setV (ofNd giv) x v) := by
  rw [mergeK_snoc, mergeK_nil nd]
  obtain ⟨p, hp, e⟩ := List.mem_map.mp hx
  have any : ((mapK (fun n : Nat => V.int (n : Int)) giv).any fun kv => decide (kv.1 = Sum.inr x)) = true := List.any_eq_true.mpr ⟨(Sum.inr p.1, V.int (p.2 : Nat)), List.mem_map.mpr ⟨p, hp, rfl⟩, decide_eq_true (by rw [e])⟩
  show putK (mapK (fun n : Nat => V.int (n : Int)) giv) (Sum.inr x) v = _
  unfold putK
  rw [if_pos any]
  unfold setV mapK ofNd
  rw [List.map_map, List.map_map, List.map_map]
  refine List.map_congr_left fun z _ => ?_
  by_cases hz : z.1 = x
  · simp [hz]
  · simp [hz]
theorem merge_new {giv : Nd} (nd : (giv.map (·.1)).Nodup) {x : Str} (hx : x ∉ giv.map (·.1)) {v : V} : mergeK [] (numK giv ++ [(Sum.inr x, v)]) = mapK id (ofNd giv ++ [(x, v)]) := by
  have e : numK giv ++ [(Sum.inr x, v)] = mapK id (ofNd giv ++ [(x, v)]) := by
    rw [numE]
    unfold mapK
    rw [List.map_append]
    rfl
  rw [e]
  refine mergeK_nil (f := id) ?_
  rw [List.map_append, ofNd_keys]
  exact List.nodup_append.mpr ⟨nd, by simp, fun a ha b hb e => by
    simp at hb
    rw [hb] at e
    rw [e] at ha
    exact hx ha⟩
theorem nmG_ne {giv : Nd} (nmG : ∀ {x : Str} {n : Nat}, (x, n) ∈ giv → x ∈ nm11) {x : Str} (h : x ∈ giv.map (·.1)) : x ∈ nm11 := by
  obtain ⟨n, hn⟩ := mem_keys h
  exact nmG hn
theorem ThA.dic_inv {K : PySem.W.Frag} {H : Hp} {q : Addr} {kvs : List (Str × V)} (h : ThA K H (.ref q) (some kvs)) : H q = some (.dK (mapK id kvs)) ∧ (kvs.map (·.1)).Nodup ∧ ∀ e ∈ kvs, ∃ b, AlA e.2 b := by
  cases h with
  | dic h nd vals => exact ⟨h, nd, vals⟩
theorem paired_mapK {K : PySem.W.Frag} {H : Hp} : ∀ {ts : List Addr} {kvs : List (Str × V)}, Paired (fun t (e : Str × V) => H t = some (.tup [.str e.1, e.2])) ts kvs → Paired (fun (t : Addr) (kv : Key × V) => SqT K H t [kV kv.1, kv.2]) ts (mapK id kvs)
  | _, _, .nil => .nil
  | _, _, .cons h t => .cons (SqT.of h) (paired_mapK t)
/-- _law_bent(source, parents, given) -/
def spBent (K : PySem.W.Frag) : Sp := fun vs H Q _ => ∃ (p d g : Addr) (x y : Int) (par : Tr) (giv : Nd), vs = [.ref p, .ref d, .ref g] ∧ H p = some (.lst [.int x, .int y]) ∧ SrcOk x y ∧ H d = some (.dK (parK par)) ∧ TreeP par ∧ (∀ z ∈ par, z.1 ∈ nm11) ∧ H g = some (.dK (numK giv)) ∧ (giv.map (·.1)).Perm (par.map (·.1)) ∧ (∀ z ∈ giv, 1 ≤ z.2 ∧ z.2 ≤ 99) ∧
  ∀ (v : V) (t : Option (List (Str × V))) (x' y' : Int) (H' : Hp), But p H H' → H' p = some (.lst [.int x', .int y']) → SrcOk x' y' → ThA K H' v t → (∀ kvs, t = some kvs → kvs.length ≤ 12 ∧ ∀ e ∈ kvs, e.1 ∈ nmX) → Q v H'
abbrev sBt : Stmt := top 25
def sBtN : List Str := ["_law_source_here", "_law_parents", "_law_given", "_law_names", "_law_name", "_law_odd", "_law_some", "_law_one"]
theorem scBt : FnScope ["_law_source_here", "_law_parents", "_law_given", "_law_names", "_law_name", "_law_odd", "_law_some", "_law_one"] ["_law_source_here", "_law_parents", "_law_given"] (defScope sBt) := ⟨rfl, rfl, rfl, by decide +kernel, rfl, by decide +kernel, by decide +kernel⟩
section
variable {P : Program} {w : World} {K : PySem.W.Frag} {mg : Str → Option Value} {base : Heap}
theorem ok_bent {f : Addr} {fd : FuncData} (F : Fun K "_law_bent" "_law_bent" sBt f fd) (B : Bn mg) (GD : DefAt P w K mg base 1 "_law_draw" ["_law_source_here", "_law_amount"] spDraw) : FnOk P w K mg base CX0 2 f fd ["_law_source_here", "_law_parents", "_law_given"] (spBent K) := by
  refine F.ok scBt (fun vs H Q E h => ?_) (fun cdv A outer s H vs Q E hr h => ?_)
  · obtain ⟨p, d, g, x, y, par, giv, rfl, _⟩ := h
    rfl
  · obtain ⟨p, d, g, x, y, par, giv, rfl, hp, src, hd, T, h11, hg, pm, hv, k⟩ := h
    have hu := hu_of hr
    have hr1 : Room 1 _ := hr
    refine ⟨_, (pss_cons (ps_set (i := 3) scBt.nd rfl (Or.inl rfl) (pe_callTy (call_list_dK rfl) (by rfl) B.list (by decide +kernel) (pa_cons (pv 1) pa_nil)))
          (pss_cons (ps_set (i := 4) scBt.nd rfl (Or.inr rfl) (pe_ix ix_list (pv 3) (pe_callD GD hr1 (pa_cons (pv 0) (pa_cons (pe_callB call_len_seq (by rfl) B.len PySem.boot_len (pa_cons (pv 3) pa_nil)) pa_nil))) (fun _ _ => rfl)))
          (pss_cons (ps_set (i := 5) scBt.nd rfl (Or.inl rfl) (pe_ix ix_list (pe_lst (pa_cons pe_int (pa_cons pe_int (pa_cons pe_int (pa_cons pe_int (pa_cons pe_int (pa_cons pe_bl (pa_cons pe_non (pa_cons pe_str (pa_cons (pe_un un_neg pe_int) (pa_cons pe_int pa_nil))))))))))) (pe_callD GD hr1 (pa_cons (pv 0) (pa_cons pe_int pa_nil))) (fun _ _ => rfl)))
          (pss_cons (ps_set (i := 6) scBt.nd rfl (Or.inl rfl) (pe_lst (pa_cons (pe_dx rfl B.dict B.list (pv 2) (pa_cons (pv 4) (pa_cons (pv 5) pa_nil)) (by intro σ H R R' w h; first | (obtain ⟨a, ha, b, hb, q⟩ := h; exact ⟨a, ha, b, hb, w _ _ q⟩) | exact w _ _ h)) (pa_cons (pe_callTy (call_dictP rfl) (by rfl) B.dict (by decide +kernel) (pa_cons (pe_lock (pe_lc (own := [("_law_one", 7)]) (g := gName 7) (tt := tTest (tOp rNe (tVar 7) (tVar 4))) (te := tTup (tCons (tVar 7) (tCons (tDGet (tVar 2) (tVar 7)) tNil))) rfl scBt.nd (pi_keys (pv 2)) (blkOk_by (N := sBtN) (sc := defScope sBt) (by decide +kernel)) (fun _ _ _ _ _ => pg_name (i := 7) scBt.nd rfl (Or.inl rfl)) (fun _ _ _ _ _ => (pts_one (pt_cmpR op_ne (pv 7) (pv 4) (nomark _)))) (fun _ _ _ _ _ => (pe_tup (pa_cons (pv 7) (pa_cons (pe_dget hu (pv 2) (pv 7) (fun _ _ => rfl)) pa_nil)))))) pa_nil)) pa_nil))))
          (pss_cons (ps_set (i := 6) scBt.nd rfl (Or.inl rfl) (pe_op op_cat (pv 6) (pe_lst (pa_cons (pe_dx rfl B.dict B.list (pv 2) (pa_cons pe_str (pa_cons pe_int pa_nil)) (by intro σ H R R' w h; first | (obtain ⟨a, ha, b, hb, q⟩ := h; exact ⟨a, ha, b, hb, w _ _ q⟩) | exact w _ _ h)) (pa_cons (pe_dx rfl B.dict B.list (pv 2) (pa_cons pe_str (pa_cons pe_int pa_nil)) (by intro σ H R R' w h; first | (obtain ⟨a, ha, b, hb, q⟩ := h; exact ⟨a, ha, b, hb, w _ _ q⟩) | exact w _ _ h)) pa_nil)))))
          (pss_cons (ps_set (i := 6) scBt.nd rfl (Or.inl rfl) (pe_op op_cat (pv 6) (pe_lst (pa_cons (pe_callTy (cr_listItems rfl) (by rfl) B.list (by decide +kernel) (pa_cons (pe_bm0 PySem.F.plainAttrs_dict PySem.F.slot_dict_items PySem.F.type_dict_items mt_items (pv 2)) pa_nil)) (pa_cons pe_non (pa_cons pe_dnewK (pa_cons (pe_callTy (call_dictP rfl) (by rfl) B.dict (by decide +kernel) (pa_cons (pe_lock (pe_lc (own := [("_law_one", 7)]) (g := gName 7) (tt := tYes) (te := tTup (tCons (tVar 7) (tCons (tOp rAdd (tDGet (tVar 2) (tVar 7)) (tC (.int 1))) tNil))) rfl scBt.nd (pi_keys (pv 2)) (blkOk_by (N := sBtN) (sc := defScope sBt) (by decide +kernel)) (fun _ _ _ _ _ => pg_name (i := 7) scBt.nd rfl (Or.inl rfl)) (fun _ _ _ _ _ => pts_nil) (fun _ _ _ _ _ => (pe_tup (pa_cons (pv 7) (pa_cons (pe_op op_add (pe_dget hu (pv 2) (pv 7) (fun _ _ => rfl)) pe_int) pa_nil)))))) pa_nil)) pa_nil)))))))
          (pss_cons (ps_expr (pe_bm PySem.F.plainAttrs_list PySem.F.slot_list_append PySem.F.type_list_append mt_append (pv 6) (pa_cons (pe_callTy (call_dictP rfl) (by rfl) B.dict (by decide +kernel) (pa_cons (pe_lc (own := [("_law_one", 7)]) (g := gName 7) (tt := tYes) (te := tTup (tCons (tVar 7) (tCons (tDGet (tVar 2) (tVar 7)) tNil))) rfl scBt.nd (pi_list (pe_revL (pe_callTy (call_list_dK rfl) (by rfl) B.list (by decide +kernel) (pa_cons (pv 2) pa_nil)))) (blkOk_by (N := sBtN) (sc := defScope sBt) (by decide +kernel)) (fun _ _ _ _ _ => pg_name (i := 7) scBt.nd rfl (Or.inl rfl)) (fun _ _ _ _ _ => pts_nil) (fun _ _ _ _ _ => (pe_tup (pa_cons (pv 7) (pa_cons (pe_dget hu (pv 2) (pv 7) (fun _ _ => rfl)) pa_nil))))) pa_nil)) pa_nil)))
          (pss_one (ps_ret (pe_ix ix_list (pv 6) (pe_callD GD hr1 (pa_cons (pv 0) (pa_cons pe_int pa_nil))) (fun _ _ => rfl))))))))))), ?_⟩
    have dp : d ≠ p := fun z => by rw [z, hp] at hd; cases hd
    have gp : g ≠ p := fun z => by rw [z, hp] at hg; cases hg
    have lenP := T.len
    have hpos : 0 < par.length := List.length_pos_iff.mpr T.ne
    have gnd : (giv.map (·.1)).Nodup := pm.nodup_iff.mpr T.nd
    have lenG : giv.length = par.length := by
      have := pm.length_eq
      rwa [List.length_map, List.length_map] at this
    have nmG : ∀ {x : Str} {n : Nat}, (x, n) ∈ giv → x ∈ nm11 := fun {x n} h => by
      obtain ⟨b, hb⟩ := mem_keys (pm.mem_iff.mp (key_mem h))
      exact h11 _ hb
    have rngG : ∀ e ∈ giv, AlA (V.int (e.2 : Nat)) true := fun e he => by
      obtain ⟨h1, h2⟩ := hv e he
      have := AlA.int (e.2 : Int)
      rw [decide_eq_true (show (1 : Int) ≤ (e.2 : Int) by omega), decide_eq_true (show (e.2 : Int) ≤ 99 by omega)] at this
      exact this
    have gk : ∀ {H1 : Hp}, Same H H1 → H1 g = some (.dK (numK giv)) := fun s => s _ _ hg
    -- the names
    refine ⟨_, rfl, d, parK par, rfl, hd, fun l hl => ?_⟩
    have lp : l ≠ p := fun z => by rw [z, hp] at hl; cases hl
    have s1 : Same H (upd H l (.lst ((parK par).map fun kv => kV kv.1))) := Same.upd hl
    have ll : upd H l (HO.lst ((parK par).map fun kv => kV kv.1)) l = some (.lst ((par.map (·.1)).map V.str)) := by
      rw [upd_same, List.map_map, List.map_map]
      rfl
    generalize upd H l (HO.lst ((parK par).map fun kv => kV kv.1)) = H1 at s1 ll ⊢
    have hnl : ((par.map (·.1)).map V.str).length = par.length := by rw [List.length_map, List.length_map]
    refine ⟨_, rfl, _, rfl, _, rfl, l, _, rfl, .inl (SqL.of ll), p, x, y, _, rfl, s1 _ _ hp, src, by rw [hnl]; omega, by rw [hnl]; omega, fun x1 y1 c src1 c0 c1 => ?_⟩
    rw [hnl] at c1
    obtain ⟨c, rfl⟩ := Int.eq_ofNat_of_zero_le c0
    have c1 : c < par.length := by omega
    have b2 : But p H (upd H1 p (.lst [.int x1, .int y1])) := fun b o n e => by rw [upd_ne n]; exact s1 _ _ e
    have lp2 : upd H1 p (HO.lst [.int x1, .int y1]) p = some (.lst [.int x1, .int y1]) := upd_same
    have ll2 : upd H1 p (HO.lst [.int x1, .int y1]) l = some (.lst ((par.map (·.1)).map V.str)) := by rw [upd_ne lp]; exact ll
    generalize upd H1 p (HO.lst [.int x1, .int y1]) = H2 at b2 lp2 ll2 ⊢
    obtain ⟨⟨name, np⟩, hc⟩ : ∃ z, par[c]? = some z := ⟨_, List.getElem?_eq_getElem c1⟩
    have hat : ((par.map (·.1)).map V.str)[c]? = some (.str name) := by
      rw [List.getElem?_map, List.getElem?_map, hc]
      rfl
    have hnk : name ∈ giv.map (·.1) := pm.mem_iff.mpr (key_mem (List.mem_of_getElem? hc))
    refine ⟨l, _, _, _, rfl, rfl, SqL.of ll2, atI_nat hat, ?_⟩
    -- the odd value
    refine ⟨_, rfl, by show 10 ≤ sizeLine; decide, fun l2 hl2 => ?_⟩
    have l2p : l2 ≠ p := fun z => by rw [z, lp2] at hl2; cases hl2
    have s3 : Same H2 (upd H2 l2 (.lst [.int 0, .int 1, .int 2, .int 99, .int 100, .bl true, .non, .str "1", .int (-1), .int 3])) := Same.upd hl2
    have ll3 : upd H2 l2 (HO.lst [.int 0, .int 1, .int 2, .int 99, .int 100, .bl true, .non, .str "1", .int (-1), .int 3]) l2 = some (.lst [.int 0, .int 1, .int 2, .int 99, .int 100, .bl true, .non, .str "1", .int (-1), .int 3]) := upd_same
    generalize upd H2 l2 (HO.lst [.int 0, .int 1, .int 2, .int 99, .int 100, .bl true, .non, .str "1", .int (-1), .int 3]) = H3 at s3 ll3 ⊢
    refine ⟨_, rfl, p, x1, y1, _, rfl, s3 _ _ lp2, src1, by decide, by decide, fun x2 y2 c2 src2 c20 c21 => ?_⟩
    obtain ⟨c2, rfl⟩ := Int.eq_ofNat_of_zero_le c20
    have b4 : But p H (upd H3 p (.lst [.int x2, .int y2])) := fun b o n e => by rw [upd_ne n]; exact s3 _ _ (b2 b o n e)
    have lp4 : upd H3 p (HO.lst [.int x2, .int y2]) p = some (.lst [.int x2, .int y2]) := upd_same
    have ll4 : upd H3 p (HO.lst [.int x2, .int y2]) l2 = some (.lst [.int 0, .int 1, .int 2, .int 99, .int 100, .bl true, .non, .str "1", .int (-1), .int 3]) := by rw [upd_ne l2p]; exact ll3
    generalize upd H3 p (HO.lst [.int x2, .int y2]) = H4 at b4 lp4 ll4 ⊢
    obtain ⟨odd, ob, hodd, al⟩ : ∃ v b, ([.int 0, .int 1, .int 2, .int 99, .int 100, .bl true, .non, .str "1", .int (-1), .int 3] : List V)[c2]? = some v ∧ AlA v b := by
      have : c2 < 10 := by omega
      match c2, this with
      | 0, _ => exact ⟨_, _, rfl, .int _⟩
      | 1, _ => exact ⟨_, _, rfl, .int _⟩
      | 2, _ => exact ⟨_, _, rfl, .int _⟩
      | 3, _ => exact ⟨_, _, rfl, .int _⟩
      | 4, _ => exact ⟨_, _, rfl, .int _⟩
      | 5, _ => exact ⟨_, _, rfl, .bl _⟩
      | 6, _ => exact ⟨_, _, rfl, .non⟩
      | 7, _ => exact ⟨_, _, rfl, .str _⟩
      | 8, _ => exact ⟨_, _, rfl, .int _⟩
      | 9, _ => exact ⟨_, _, rfl, .int _⟩
    refine ⟨l2, _, _, _, rfl, rfl, SqL.of ll4, atI_nat hodd, ?_⟩
    have hg4 := b4 _ _ gp hg
    clear b2 s1 s3 ll3 ll ll2 lp2 hat
    have numl : (numK giv).length ≤ 1000 := by rw [List.length_map]; omega
    -- 0: one name with the odd value
    refine ⟨g, numK giv, rfl, hg4, numl, fun H5 s5 => ⟨_, rfl, _, rfl, Sum.inr name, odd, rfl, Same.refl _, fun q0 H6 s6 hq0 l0 => ?_⟩⟩
    rw [merge_set gnd hnk] at l0
    have A0 : ThA K H6 (.ref q0) (some (setV (ofNd giv) name odd)) := .dic l0 (by rw [setV_keys, ofNd_keys]; exact gnd) fun e he => setV_al (fun e he => ofNd_al rngG e he) al e he
    have s46 := Same.trans s5 s6
    have hg6 := s46 _ _ hg4
    -- 1: one name left out
    refine ⟨g, .dK (numK giv), hg6, trivial, fun od => ?_⟩
    have fz : upd H6 g (.frz od (.dK (numK giv))) g = some (.frz od (.dK (numK giv))) := upd_same
    have bk : ∀ H2, Same (upd H6 g (.frz od (.dK (numK giv)))) H2 → Same H6 (upd H2 g (.dK (numK giv))) := fun H2 z => lock_same hg6 z
    generalize upd H6 g (.frz od (.dK (numK giv))) = L at fz bk ⊢
    refine ⟨_, rfl, g, od, rfl, .inl ⟨numK giv, fz, fun D hD => ?_⟩⟩
    have Dg : D ≠ g := fun z => by rw [z, fz] at hD; cases hD
    refine lc_it (walk_keys (d := g) (o := od) (kvs := numK giv)) (fun i H2 => ∃ ts : List Addr, Same L H2 ∧ H2 D = some (.lst (ts.map V.ref)) ∧ ts.length ≤ i ∧ Paired (fun t (e : Str × V) => H2 t = some (.tup [.str e.1, e.2])) ts ((ofNd (giv.take i)).filter fun e => !decide (e.1 = name))) ⟨[], Same.upd hD, upd_same, by simp, .nil⟩ (fun i H2 _ z => z.choose_spec.1 _ _ fz) ?_ ?_
    · rintro i v H0 H2 hi ⟨ts, S2, lD, tl, pt⟩ ⟨rfl, kk, vv, hgg, rfl⟩
      obtain ⟨x, n, rfl, rfl, hn⟩ := mapK_get hgg
      have hxm := List.mem_of_getElem? hn
      have htk : giv.take (i + 1) = giv.take i ++ [(x, n)] := by rw [List.take_add_one, hn]; rfl
      have of1 : ofNd (giv.take (i + 1)) = ofNd (giv.take i) ++ [(x, V.int (n : Nat))] := by
        rw [htk]
        unfold ofNd
        rw [List.map_append]
        rfl
      have dg : DGet H2 g (.str x) (some (.int (n : Nat))) := dget_m (f := fun n : Nat => V.int (n : Int)) (.inr ⟨_, S2 _ _ fz⟩) gnd hxm
      rw [List.length_map] at hi
      refine ⟨rfl, _, rfl, _, rfl, rfl, _, rfl, ?_⟩
      by_cases hxn : x = name
      · have : (!decide (V.str x = V.str name)) = false := by simp [hxn]
        rw [show (!decide (kV (Sum.inr x) = V.str name)) = false from this]
        refine iteF ⟨ts, S2, lD, by omega, ?_⟩
        rw [of1, List.filter_append, show ([(x, V.int (n : Nat))].filter fun e => !decide (e.1 = name)) = [] by simp [hxn], List.append_nil]
        exact pt
      · have : (!decide (V.str x = V.str name)) = true := by simp [hxn]
        rw [show (!decide (kV (Sum.inr x) = V.str name)) = true from this]
        refine iteT ⟨_, rfl, _, rfl, _, rfl, g, _, rfl, dg, by show 2 ≤ sizeLine; decide, fun t ht => ?_⟩
        have st : Same H2 (upd H2 t (.tup [kV (Sum.inr x), .int (n : Nat)])) := Same.upd ht
        have lt : upd H2 t (HO.tup [kV (Sum.inr x), .int (n : Nat)]) t = some (.tup [.str x, .int (n : Nat)]) := upd_same
        generalize upd H2 t (HO.tup [kV (Sum.inr x), .int (n : Nat)]) = H3 at st lt ⊢
        refine ⟨_, st _ _ lD, by rw [List.length_map, sizeLine_eq]; omega, ts ++ [t], EX.Same.updN (Same.trans S2 st) hD, by rw [upd_same, List.map_append]; rfl, by rw [List.length_append]; show ts.length + 1 ≤ i + 1; omega, ?_⟩
        rw [of1, List.filter_append, show ([(x, V.int (n : Nat))].filter fun e => !decide (e.1 = name)) = [(x, V.int (n : Nat))] by simp [hxn]]
        have lD3 := st _ _ lD
        refine paired_snoc' (paired_imp (fun a e h => ?_) pt) ?_
        · rw [upd_ne (fun z => by rw [z, lD] at h; cases h)]
          exact st _ _ h
        · rw [upd_ne (fun z => by rw [z, lD] at ht; cases ht)]
          exact lt
    rintro H2 ⟨ts, S2, lD, _, pt⟩
    rw [List.length_map, List.take_length] at pt
    refine ⟨S2 _ _ fz, ?_⟩
    have s67 := bk _ S2
    have lD7 : upd H2 g (.dK (numK giv)) D = some (.lst (ts.map V.ref)) := by rw [upd_ne Dg]; exact lD
    have pt7 : Paired (fun t (e : Str × V) => upd H2 g (.dK (numK giv)) t = some (.tup [.str e.1, e.2])) ts ((ofNd giv).filter fun e => !decide (e.1 = name)) := paired_imp (fun a e h => by
      rw [upd_ne (fun z => by rw [z, S2 _ _ fz] at h; cases h)]
      exact h) pt
    generalize upd H2 g (.dK (numK giv)) = H7 at s67 lD7 pt7 ⊢
    refine ⟨D, ts, mapK id ((ofNd giv).filter fun e => !decide (e.1 = name)), rfl, SqL.of lD7, paired_mapK pt7, fun q1 hq1 => ?_⟩
    rw [mergeK_nil (f := id) (List.Nodup.sublist ((List.filter_sublist (l := ofNd giv)).map (·.1)) (by rw [ofNd_keys]; exact gnd))]
    have s78 : Same H7 (upd H7 q1 (.dK (mapK id ((ofNd giv).filter fun e => !decide (e.1 = name))))) := Same.upd hq1
    have l1 : upd H7 q1 (HO.dK (mapK id ((ofNd giv).filter fun e => !decide (e.1 = name)))) q1 = some (.dK (mapK id ((ofNd giv).filter fun e => !decide (e.1 = name)))) := upd_same
    generalize upd H7 q1 (HO.dK (mapK id ((ofNd giv).filter fun e => !decide (e.1 = name)))) = H8 at s78 l1 ⊢
    have s68 := Same.trans s67 s78
    clear pt lD S2 fz bk hD Dg s67 s78 pt7 lD7
    have A1 : ThA K H8 (.ref q1) (some ((ofNd giv).filter fun e => !decide (e.1 = name))) := .dic l1 (by
      have := (List.filter_sublist (l := ofNd giv) (p := fun e => !decide (e.1 = name))).map (·.1)
      exact List.Nodup.sublist this (by rw [ofNd_keys]; exact gnd)) fun e he => ofNd_al rngG e (List.mem_filter.mp he).1
    replace A0 := A0.mono s68
    have s48 := Same.trans s46 s68
    refine ⟨by show 2 ≤ sizeLine; decide, fun la hla => ?_⟩
    have sa : Same H8 (upd H8 la (.lst [.ref q0, .ref q1])) := Same.upd hla
    have lla : upd H8 la (HO.lst [.ref q0, .ref q1]) la = some (.lst [.ref q0, .ref q1]) := upd_same
    generalize upd H8 la (HO.lst [.ref q0, .ref q1]) = H9 at sa lla ⊢
    replace A0 := A0.mono sa
    replace A1 := A1.mono sa
    have s49 := Same.trans s48 sa
    have hg9 := s49 _ _ hg4
    -- 2, 3: a name more
    refine ⟨_, rfl, g, numK giv, rfl, hg9, numl, fun H10 s10 => ⟨Sum.inr "other", .int 5, rfl, Same.refl _, fun q2 H11 s11 hq2 l2' => ?_⟩⟩
    rw [merge_new gnd (fun h => absurd (nmG_ne nmG h) (by decide +kernel))] at l2'
    have A2 : ThA K H11 (.ref q2) (some (ofNd giv ++ [(("other" : Str), V.int 5)])) := .dic l2' (by
      rw [List.map_append, ofNd_keys]
      exact List.nodup_append.mpr ⟨gnd, by simp, fun a ha b hb e => by
        simp at hb
        rw [hb] at e
        rw [e] at ha
        exact absurd (nmG_ne nmG ha) (by decide +kernel)⟩) fun e he => by
        rcases List.mem_append.mp he with he | he
        · exact ofNd_al rngG e he
        · rw [List.mem_singleton.mp he]
          exact ⟨_, .int _⟩
    have s911 := Same.trans s10 s11
    replace A0 := A0.mono s911
    replace A1 := A1.mono s911
    have hg11 := s911 _ _ hg9
    refine ⟨g, numK giv, rfl, hg11, numl, fun H12 s12 => ⟨Sum.inr "store", .int 1, rfl, Same.refl _, fun q3 H13 s13 hq3 l3 => ?_⟩⟩
    rw [merge_new gnd (fun h => absurd (nmG_ne nmG h) (by decide +kernel))] at l3
    have A3 : ThA K H13 (.ref q3) (some (ofNd giv ++ [(("store" : Str), V.int 1)])) := .dic l3 (by
      rw [List.map_append, ofNd_keys]
      exact List.nodup_append.mpr ⟨gnd, by simp, fun a ha b hb e => by
        simp at hb
        rw [hb] at e
        rw [e] at ha
        exact absurd (nmG_ne nmG ha) (by decide +kernel)⟩) fun e he => by
        rcases List.mem_append.mp he with he | he
        · exact ofNd_al rngG e he
        · rw [List.mem_singleton.mp he]
          exact ⟨_, .int _⟩
    have s1113 := Same.trans s12 s13
    replace A0 := A0.mono s1113
    replace A1 := A1.mono s1113
    replace A2 := A2.mono s1113
    have s913 := Same.trans s911 s1113
    refine ⟨by show 2 ≤ sizeLine; decide, fun lb hlb => ?_⟩
    have sb : Same H13 (upd H13 lb (.lst [.ref q2, .ref q3])) := Same.upd hlb
    have llb : upd H13 lb (HO.lst [.ref q2, .ref q3]) lb = some (.lst [.ref q2, .ref q3]) := upd_same
    generalize upd H13 lb (HO.lst [.ref q2, .ref q3]) = H14 at sb llb ⊢
    refine ⟨la, lb, _, _, rfl, rfl, sb _ _ (s913 _ _ lla), llb, by show 4 ≤ sizeLine; decide, fun lc hlc => ?_⟩
    have sc : Same H14 (upd H14 lc (.lst ([.ref q0, .ref q1] ++ [.ref q2, .ref q3]))) := Same.upd hlc
    have llc : upd H14 lc (HO.lst ([.ref q0, .ref q1] ++ [.ref q2, .ref q3])) lc = some (.lst [.ref q0, .ref q1, .ref q2, .ref q3]) := upd_same
    generalize upd H14 lc (HO.lst ([.ref q0, .ref q1] ++ [.ref q2, .ref q3])) = H15 at sc llc ⊢
    have s1315 := Same.trans sb sc
    replace A0 := A0.mono s1315
    replace A1 := A1.mono s1315
    replace A2 := A2.mono s1315
    replace A3 := A3.mono s1315
    have s415 := Same.trans s49 (Same.trans s913 s1315)
    have hg15 := s415 _ _ hg4
    clear s911 s1113 sb sc s913 s1315 s10 s11 s12 s13 lla llb hg9 hg11
    -- 4, 5, 6: a list, None, no names
    refine ⟨_, rfl, _, rfl, .inr (.inr (.inl ⟨rfl, .inl ⟨_, hg15⟩⟩)), g, numK giv, rfl, rfl, hg15, fun w hw => ?_⟩
    have s16 : Same H15 (upd H15 w (itvO w g)) := Same.upd hw
    have lw : upd H15 w (itvO w g) w = some (itvO w g) := upd_same
    generalize upd H15 w (itvO w g) = H16 at s16 lw ⊢
    refine ⟨w, g, _, rfl, lw, s16 _ _ hg15, fun l4 ts H17 s17 hl4 ll4' _ => ?_⟩
    have A4 : ThA K H17 (.ref l4) none := .lst (SqL.of ll4')
    have s1517 := Same.trans s16 s17
    refine fun q6 hq6 => ?_
    have s18 : Same H17 (upd H17 q6 (.dK [])) := Same.upd hq6
    have l6 : upd H17 q6 (HO.dK []) q6 = some (.dK []) := upd_same
    generalize upd H17 q6 (HO.dK []) = H18 at s18 l6 ⊢
    have A6 : ThA K H18 (.ref q6) (some []) := .dic l6 .nil (by simp)
    have s1518 := Same.trans s1517 s18
    have hg18 := s1518 _ _ hg15
    -- 7: one more each
    refine ⟨g, .dK (numK giv), hg18, trivial, fun od => ?_⟩
    have fz : upd H18 g (.frz od (.dK (numK giv))) g = some (.frz od (.dK (numK giv))) := upd_same
    have bk : ∀ H2, Same (upd H18 g (.frz od (.dK (numK giv)))) H2 → Same H18 (upd H2 g (.dK (numK giv))) := fun H2 z => lock_same hg18 z
    generalize upd H18 g (.frz od (.dK (numK giv))) = L at fz bk ⊢
    refine ⟨_, rfl, g, od, rfl, .inl ⟨numK giv, fz, fun D hD => ?_⟩⟩
    have Dg : D ≠ g := fun z => by rw [z, fz] at hD; cases hD
    refine lc_it (walk_keys (d := g) (o := od) (kvs := numK giv)) (fun i H2 => ∃ ts : List Addr, Same L H2 ∧ H2 D = some (.lst (ts.map V.ref)) ∧ ts.length = i ∧ Paired (fun t (e : Str × V) => H2 t = some (.tup [.str e.1, e.2])) ts ((giv.take i).map fun e => (e.1, V.int ((e.2 : Int) + 1)))) ⟨[], Same.upd hD, upd_same, by simp, .nil⟩ (fun i H2 _ z => z.choose_spec.1 _ _ fz) ?_ ?_
    · rintro i v H0 H2 hi ⟨ts, S2, lD, tl, pt⟩ ⟨rfl, kk, vv, hgg, rfl⟩
      obtain ⟨x, n, rfl, rfl, hn⟩ := mapK_get hgg
      have hxm := List.mem_of_getElem? hn
      have htk : giv.take (i + 1) = giv.take i ++ [(x, n)] := by rw [List.take_add_one, hn]; rfl
      have dg : DGet H2 g (.str x) (some (.int (n : Nat))) := dget_m (f := fun n : Nat => V.int (n : Int)) (.inr ⟨_, S2 _ _ fz⟩) gnd hxm
      rw [List.length_map] at hi
      refine ⟨rfl, _, rfl, _, rfl, _, rfl, g, _, rfl, dg, _, _, rfl, rfl, by show 2 ≤ sizeLine; decide, fun t ht => ?_⟩
      have st : Same H2 (upd H2 t (.tup [.str x, .int ((n : Int) + 1)])) := Same.upd ht
      have lt : upd H2 t (HO.tup [.str x, .int ((n : Int) + 1)]) t = some (.tup [.str x, .int ((n : Int) + 1)]) := upd_same
      refine ⟨_, st _ _ lD, by rw [List.length_map, sizeLine_eq]; omega, ts ++ [t], EX.Same.updN (Same.trans S2 st) hD, by rw [upd_same, List.map_append]; rfl, by rw [List.length_append]; show ts.length + 1 = i + 1; omega, ?_⟩
      rw [htk, List.map_append]
      have lD3 := st _ _ lD
      refine paired_snoc' (paired_imp (fun a e h => ?_) pt) ?_
      · rw [upd_ne (fun z => by rw [z, lD] at h; cases h)]
        exact st _ _ h
      · rw [upd_ne (fun z => by rw [z, lD] at ht; cases ht)]
        exact lt
    rintro H2 ⟨ts, S2, lD, _, pt⟩
    rw [List.length_map, List.take_length] at pt
    refine ⟨S2 _ _ fz, ?_⟩
    have s67 := bk _ S2
    have lD7 : upd H2 g (.dK (numK giv)) D = some (.lst (ts.map V.ref)) := by rw [upd_ne Dg]; exact lD
    have pt7 : Paired (fun t (e : Str × V) => upd H2 g (.dK (numK giv)) t = some (.tup [.str e.1, e.2])) ts (giv.map fun e => (e.1, V.int ((e.2 : Int) + 1))) := paired_imp (fun a e h => by
      rw [upd_ne (fun z => by rw [z, S2 _ _ fz] at h; cases h)]
      exact h) pt
    generalize upd H2 g (.dK (numK giv)) = H19 at s67 lD7 pt7 ⊢
    refine ⟨D, ts, mapK id (giv.map fun e => (e.1, V.int ((e.2 : Int) + 1))), rfl, SqL.of lD7, paired_mapK pt7, fun q7 hq7 => ?_⟩
    rw [mergeK_nil (f := id) (by rw [List.map_map]; exact gnd)]
    have s78 : Same H19 (upd H19 q7 (.dK (mapK id (giv.map fun e => (e.1, V.int ((e.2 : Int) + 1)))))) := Same.upd hq7
    have l7 : upd H19 q7 (HO.dK (mapK id (giv.map fun e => (e.1, V.int ((e.2 : Int) + 1))))) q7 = some (.dK (mapK id (giv.map fun e => (e.1, V.int ((e.2 : Int) + 1))))) := upd_same
    generalize upd H19 q7 (HO.dK (mapK id (giv.map fun e => (e.1, V.int ((e.2 : Int) + 1))))) = H20 at s78 l7 ⊢
    have s1820 := Same.trans s67 s78
    clear pt lD S2 fz bk hD Dg s67 s78 pt7 lD7
    have A7 : ThA K H20 (.ref q7) (some (giv.map fun e => (e.1, V.int ((e.2 : Int) + 1)))) := .dic l7 (by rw [List.map_map]; exact gnd) fun e he => by
      obtain ⟨z, hz, rfl⟩ := List.mem_map.mp he
      exact ⟨_, .int _⟩
    have s1520 := Same.trans s1518 s1820
    replace A4 := A4.mono (Same.trans s18 s1820)
    replace A6 := A6.mono s1820
    refine ⟨by show 4 ≤ sizeLine; decide, fun le hle => ?_⟩
    have se : Same H20 (upd H20 le (.lst [.ref l4, .non, .ref q6, .ref q7])) := Same.upd hle
    have lle : upd H20 le (HO.lst [.ref l4, .non, .ref q6, .ref q7]) le = some (.lst [.ref l4, .non, .ref q6, .ref q7]) := upd_same
    generalize upd H20 le (HO.lst [.ref l4, .non, .ref q6, .ref q7]) = H21 at se lle ⊢
    refine ⟨lc, le, _, _, rfl, rfl, se _ _ (s1520 _ _ llc), lle, by show 8 ≤ sizeLine; decide, fun lf hlf => ?_⟩
    have sf : Same H21 (upd H21 lf (.lst ([.ref q0, .ref q1, .ref q2, .ref q3] ++ [.ref l4, .non, .ref q6, .ref q7]))) := Same.upd hlf
    have llf : upd H21 lf (HO.lst ([.ref q0, .ref q1, .ref q2, .ref q3] ++ [.ref l4, .non, .ref q6, .ref q7])) lf = some (.lst [.ref q0, .ref q1, .ref q2, .ref q3, .ref l4, .non, .ref q6, .ref q7]) := upd_same
    generalize upd H21 lf (HO.lst ([.ref q0, .ref q1, .ref q2, .ref q3] ++ [.ref l4, .non, .ref q6, .ref q7])) = H22 at sf llf ⊢
    have s2022 := Same.trans se sf
    have s1522 := Same.trans s1520 s2022
    replace A0 := A0.mono s1522
    replace A1 := A1.mono s1522
    replace A2 := A2.mono s1522
    replace A3 := A3.mono s1522
    replace A4 := A4.mono s2022
    replace A6 := A6.mono s2022
    replace A7 := A7.mono s2022
    have s422 := Same.trans s415 s1522
    have hg22 := s422 _ _ hg4
    -- 8: the other way round
    refine ⟨_, rfl, .inl ⟨rfl, _, SqL.of llf⟩, _, rfl, g, numK giv, rfl, hg22, fun lr hlr => ?_⟩
    have sr : Same H22 (upd H22 lr (.lst ((numK giv).map fun kv => kV kv.1))) := Same.upd hlr
    have llr : upd H22 lr (HO.lst ((numK giv).map fun kv => kV kv.1)) lr = some (.lst ((giv.map (·.1)).map V.str)) := by
      rw [upd_same, List.map_map, List.map_map]
      rfl
    generalize upd H22 lr (HO.lst ((numK giv).map fun kv => kV kv.1)) = H23 at sr llr ⊢
    refine ⟨lr, _, rfl, SqL.of llr, fun lv hlv => ?_⟩
    have sv : Same H23 (upd H23 lv (.lst ((giv.map (·.1)).map V.str).reverse)) := Same.upd hlv
    have llv : upd H23 lv (HO.lst ((giv.map (·.1)).map V.str).reverse) lv = some (.lst ((giv.reverse.map (·.1)).map V.str)) := by
      rw [upd_same, ← List.map_reverse, ← List.map_reverse]
    generalize upd H23 lv (HO.lst ((giv.map (·.1)).map V.str).reverse) = H24 at sv llv ⊢
    have s2224 := Same.trans sr sv
    have hg24 := s2224 _ _ hg22
    refine ⟨lv, rfl, ⟨_, SqL.of llv⟩, fun D hD => ?_⟩
    refine lc_list (K := K) (a := lv) (xs := (giv.reverse.map (·.1)).map V.str) (fun i H2 => ∃ ts : List Addr, Same H24 H2 ∧ H2 D = some (.lst (ts.map V.ref)) ∧ ts.length = i ∧ Paired (fun t (e : Str × V) => H2 t = some (.tup [.str e.1, e.2])) ts (ofNd (giv.reverse.take i))) ⟨[], Same.upd hD, upd_same, by simp, .nil⟩ (fun i H2 _ z => SqL.of (z.choose_spec.1 _ _ llv)) ?_ ?_
    · rintro i v H2 hx ⟨ts, S2, lD, tl, pt⟩
      rw [List.getElem?_map, List.getElem?_map] at hx
      obtain ⟨⟨x, n⟩, hn, rfl⟩ : ∃ e, giv.reverse[i]? = some e ∧ v = .str e.1 := by
        cases e : giv.reverse[i]? with
        | none => rw [e] at hx; cases hx
        | some z => rw [e] at hx; exact ⟨z, rfl, (Option.some.inj hx).symm⟩
      have hxm : (x, n) ∈ giv := List.mem_reverse.mp (List.mem_of_getElem? hn)
      have hi : i < giv.length := by
        have := (List.getElem?_eq_some_iff.mp hn).1
        rwa [List.length_reverse] at this
      have htk : giv.reverse.take (i + 1) = giv.reverse.take i ++ [(x, n)] := by rw [List.take_add_one, hn]; rfl
      have dg : DGet H2 g (.str x) (some (.int (n : Nat))) := dget_m (f := fun n : Nat => V.int (n : Int)) (.inl (S2 _ _ hg24)) gnd hxm
      refine ⟨rfl, _, rfl, _, rfl, _, rfl, g, _, rfl, dg, by show 2 ≤ sizeLine; decide, fun t ht => ?_⟩
      have st : Same H2 (upd H2 t (.tup [.str x, .int (n : Nat)])) := Same.upd ht
      have lt : upd H2 t (HO.tup [.str x, .int (n : Nat)]) t = some (.tup [.str x, .int (n : Nat)]) := upd_same
      refine ⟨_, st _ _ lD, by rw [List.length_map, sizeLine_eq]; omega, ts ++ [t], EX.Same.updN (Same.trans S2 st) hD, by rw [upd_same, List.map_append]; rfl, by rw [List.length_append]; show ts.length + 1 = i + 1; omega, ?_⟩
      rw [htk]
      unfold ofNd at pt ⊢
      rw [List.map_append]
      have lD3 := st _ _ lD
      refine paired_snoc' (paired_imp (fun a e h => ?_) pt) ?_
      · rw [upd_ne (fun z => by rw [z, lD] at h; cases h)]
        exact st _ _ h
      · rw [upd_ne (fun z => by rw [z, lD] at ht; cases ht)]
        exact lt
    rintro H25 ⟨ts, S2, lD, _, pt⟩
    rw [List.length_map, List.length_map, List.take_length] at pt
    refine ⟨D, ts, mapK id (ofNd giv.reverse), rfl, SqL.of lD, paired_mapK pt, fun q8 hq8 => ?_⟩
    rw [mergeK_nil (f := id) (by rw [ofNd_keys, List.map_reverse]; exact (List.reverse_perm _).nodup_iff.mpr gnd)]
    have s78 : Same H25 (upd H25 q8 (.dK (mapK id (ofNd giv.reverse)))) := Same.upd hq8
    have l8 : upd H25 q8 (HO.dK (mapK id (ofNd giv.reverse))) q8 = some (.dK (mapK id (ofNd giv.reverse))) := upd_same
    generalize upd H25 q8 (HO.dK (mapK id (ofNd giv.reverse))) = H26 at s78 l8 ⊢
    have s2426 := Same.trans S2 s78
    clear pt lD S2 hD s78
    have A8 : ThA K H26 (.ref q8) (some (ofNd giv.reverse)) := .dic l8 (by rw [ofNd_keys, List.map_reverse]; exact (List.reverse_perm _).nodup_iff.mpr gnd) fun e he => ofNd_al rngG e (by
      unfold ofNd at he ⊢
      rw [List.map_reverse] at he
      exact List.mem_reverse.mp he)
    have s2226 := Same.trans s2224 s2426
    refine ⟨lf, _, _, rfl, rfl, s2226 _ _ llf, by show 8 < sizeLine; decide, ?_⟩
    have lp26 := s2226 _ _ (s422 _ _ lp4)
    have lfp : lf ≠ p := fun z => by
      have := s2226 _ _ llf
      rw [z, lp26] at this
      cases this
    have bf : ∀ b o, b ≠ lf → H26 b = some o → upd H26 lf (.lst ([.ref q0, .ref q1, .ref q2, .ref q3, .ref l4, .non, .ref q6, .ref q7] ++ [.ref q8])) b = some o := fun b o n e => by rw [upd_ne n]; exact e
    have llg : upd H26 lf (HO.lst ([.ref q0, .ref q1, .ref q2, .ref q3, .ref l4, .non, .ref q6, .ref q7] ++ [.ref q8])) lf = some (.lst [.ref q0, .ref q1, .ref q2, .ref q3, .ref l4, .non, .ref q6, .ref q7, .ref q8]) := upd_same
    generalize upd H26 lf (HO.lst ([.ref q0, .ref q1, .ref q2, .ref q3, .ref l4, .non, .ref q6, .ref q7] ++ [.ref q8])) = H27 at bf llg ⊢
    refine ⟨_, rfl, _, rfl, p, x2, y2, _, rfl, bf _ _ (Ne.symm lfp) lp26, src2, by decide, by decide, fun x3 y3 c3 src3 c30 c31 => ?_⟩
    obtain ⟨c3, rfl⟩ := Int.eq_ofNat_of_zero_le c30
    have lg3 : upd H27 p (HO.lst [.int x3, .int y3]) lf = some (.lst [.ref q0, .ref q1, .ref q2, .ref q3, .ref l4, .non, .ref q6, .ref q7, .ref q8]) := by rw [upd_ne lfp]; exact llg
    have fin : ∀ b o, b ≠ p → b ≠ lf → H26 b = some o → upd H27 p (.lst [.int x3, .int y3]) b = some o := fun b o n1 n2 e => by rw [upd_ne n1]; exact bf b o n2 e
    have lpf : upd H27 p (HO.lst [.int x3, .int y3]) p = some (.lst [.int x3, .int y3]) := upd_same
    generalize upd H27 p (HO.lst [.int x3, .int y3]) = HF at lg3 fin lpf ⊢
    have bH : But p H HF := fun b o n e => by
      refine fin b o n (fun z => ?_) (s2226 _ _ (s422 _ _ (b4 b o n e)))
      rw [z] at e
      have := se _ _ (s1520 _ _ (s415 _ _ (b4 _ _ lfp e)))
      rw [hlf] at this
      cases this
    have dicF : ∀ {q : Addr} {kvs : List (Str × V)}, ThA K H26 (.ref q) (some kvs) → ThA K HF (.ref q) (some kvs) := fun {q kvs} h => by
      obtain ⟨e1, e2, e3⟩ := h.dic_inv
      exact .dic (fin _ _ (fun z => by rw [z, lp26] at e1; cases e1) (fun z => by rw [z, s2226 _ _ llf] at e1; cases e1) e1) e2 e3
    have small : ∀ {kvs : List (Str × V)}, kvs.length ≤ 12 → (∀ e ∈ kvs, e.1 ∈ nmX) → ∀ kvs', some kvs = some kvs' → kvs'.length ≤ 12 ∧ ∀ e ∈ kvs', e.1 ∈ nmX := fun h1 h2 kvs' e => by
      cases e
      exact ⟨h1, h2⟩
    have ofX : ∀ e ∈ ofNd giv, e.1 ∈ nmX := fun e he => by
      obtain ⟨n, hn, _⟩ := ofNd_mem.mp (show (e.1, e.2) ∈ ofNd giv from he)
      exact nm_X (nmG hn)
    have ofL : (ofNd giv).length = giv.length := List.length_map _
    have c31 : c3 < 9 := by omega
    match c3, c31 with
    | 0, _ => exact ⟨lf, _, _, _, rfl, rfl, SqL.of lg3, atI_nat (j := 0) rfl, k _ _ x3 y3 HF bH lpf src3 (dicF (A0.mono s2226)) (small (by rw [setV_len, ofL]; omega) (setV_X ofX))⟩
    | 1, _ => exact ⟨lf, _, _, _, rfl, rfl, SqL.of lg3, atI_nat (j := 1) rfl, k _ _ x3 y3 HF bH lpf src3 (dicF (A1.mono s2226)) (small (by have := List.length_filter_le (fun e : Str × V => !decide (e.1 = name)) (ofNd giv); omega) fun e he => ofX e (List.mem_filter.mp he).1)⟩
    | 2, _ => exact ⟨lf, _, _, _, rfl, rfl, SqL.of lg3, atI_nat (j := 2) rfl, k _ _ x3 y3 HF bH lpf src3 (dicF (A2.mono s2226)) (small (by rw [List.length_append, ofL]; show giv.length + 1 ≤ 12; omega) fun e he => by
        rcases List.mem_append.mp he with he | he
        · exact ofX e he
        · rw [List.mem_singleton.mp he]
          decide +kernel)⟩
    | 3, _ => exact ⟨lf, _, _, _, rfl, rfl, SqL.of lg3, atI_nat (j := 3) rfl, k _ _ x3 y3 HF bH lpf src3 (dicF (A3.mono s2226)) (small (by rw [List.length_append, ofL]; show giv.length + 1 ≤ 12; omega) fun e he => by
        rcases List.mem_append.mp he with he | he
        · exact ofX e he
        · rw [List.mem_singleton.mp he]
          decide +kernel)⟩
    | 4, _ =>
      have e4 := s2226 _ _ (s2022 _ _ (s1820 _ _ (s18 _ _ ll4')))
      exact ⟨lf, _, _, _, rfl, rfl, SqL.of lg3, atI_nat (j := 4) rfl, k _ _ x3 y3 HF bH lpf src3 (.lst (SqL.of (fin _ _ (fun z => by
        have := s1517 _ _ (s415 _ _ lp4)
        have q := s16 _ _ (s415 _ _ lp4)
        rw [z, q] at hl4
        cases hl4) (fun z => by
        have := se _ _ (s1820 _ _ (s18 _ _ ll4'))
        rw [z, hlf] at this
        cases this) e4))) (fun kvs e => nomatch e)⟩
    | 5, _ => exact ⟨lf, _, _, _, rfl, rfl, SqL.of lg3, atI_nat (j := 5) rfl, k _ _ x3 y3 HF bH lpf src3 .non (fun kvs e => nomatch e)⟩
    | 6, _ => exact ⟨lf, _, _, _, rfl, rfl, SqL.of lg3, atI_nat (j := 6) rfl, k _ _ x3 y3 HF bH lpf src3 (dicF (A6.mono s2226)) (small (by simp) (by simp))⟩
    | 7, _ => exact ⟨lf, _, _, _, rfl, rfl, SqL.of lg3, atI_nat (j := 7) rfl, k _ _ x3 y3 HF bH lpf src3 (dicF (A7.mono s2226)) (small (by rw [List.length_map]; omega) fun e he => by
        obtain ⟨z, hz, rfl⟩ := List.mem_map.mp he
        exact nm_X (nmG (show (z.1, z.2) ∈ giv from hz)))⟩
    | 8, _ => exact ⟨lf, _, _, _, rfl, rfl, SqL.of lg3, atI_nat (j := 8) rfl, k _ _ x3 y3 HF bH lpf src3 (dicF A8) (small (by unfold ofNd; rw [List.length_map, List.length_reverse]; omega) fun e he => by
        obtain ⟨n, hn, _⟩ := ofNd_mem.mp (show (e.1, e.2) ∈ ofNd giv.reverse from he)
        exact nm_X (nmG (List.mem_reverse.mp hn)))⟩
end
end K69
set_option Elab.async false
set_option linter.all false
set_option maxRecDepth 100000
set_option maxHeartbeats 4000000
namespace EX
open PySem L2 PySem.Spec PyProof.Rows LamX
/-! ### what is kept where tables of code objects grow -/
theorem ExtN.of_same {H H' : Hp} (s : Same H H') : ExtN H H' := ExtN.of s
theorem ExtN.seq {K : PySem.W.Frag} {H H' : Hp} {a : Addr} {xs : List V} (s : ExtN H H') (h : SqL K H a xs) : SqL K H' a xs :=
  h.elim (fun z => .inl (z.elim (fun z => .inl (s _ _ z (fun _ e => nomatch e))) fun ⟨o, z⟩ => .inr ⟨o, s _ _ z (fun _ e => nomatch e)⟩)) .inr
theorem ExtN.sqt {K : PySem.W.Frag} {H H' : Hp} {a : Addr} {xs : List V} (s : ExtN H H') (h : SqT K H a xs) : SqT K H' a xs :=
  h.elim (fun z => .inl (z.elim (fun z => .inl (s _ _ z (fun _ e => nomatch e))) fun ⟨o, z⟩ => .inr ⟨o, s _ _ z (fun _ e => nomatch e)⟩)) .inr
theorem ExtN.dK {H H' : Hp} {a : Addr} {kvs : List (Key × V)} (s : ExtN H H') (h : H a = some (.dK kvs)) : H' a = some (.dK kvs) := s _ _ h (fun _ e => nomatch e)
theorem ExtN.lst {H H' : Hp} {a : Addr} {xs : List V} (s : ExtN H H') (h : H a = some (.lst xs)) : H' a = some (.lst xs) := s _ _ h (fun _ e => nomatch e)
mutual
theorem DqS.ext {K : PySem.W.Frag} {H H' : Hp} (s : ExtN H H') : ∀ {v : V} {d : PyData}, DqS K H v d → DqS K H' v d
  | _, _, .non => .non
  | _, _, .bl b => .bl b
  | _, _, .int i => .int i
  | _, _, .str x => .str x
  | _, _, .lst n h a => .lst n (ExtN.seq s h) (DqSAll.ext s a)
  | _, _, .tup h a => .tup (ExtN.sqt s h) (DqSAll.ext s a)
  | _, _, .dic h a => .dic (ExtN.dK s h) (DqSAll.ext s a)
theorem DqSAll.ext {K : PySem.W.Frag} {H H' : Hp} (s : ExtN H H') : ∀ {vs : List V} {ds : List PyData}, DqSAll K H vs ds → DqSAll K H' vs ds
  | _, _, .nil => .nil
  | _, _, .cons h t => .cons (DqS.ext s h) (DqSAll.ext s t)
end
/-- one object but tables changed -/
theorem Tabs.but {T : List (Addr × Str)} {H H' : Hp} {p : Addr} {o : HO} (t : Tabs T H) (b : ∀ a u, a ≠ p → H a = some u → H' a = some u) (hp : H p = some o) (n1 : ∀ ps, o ≠ .tbl ps) (n2 : ∀ c q, o ≠ CodeO c q) : Tabs T H' := fun z hz => by
  obtain ⟨ps, h1, h2, h3⟩ := t z hz
  refine ⟨ps, b _ _ (fun e => ?_) h1, h2, fun pos cv hc => ?_⟩
  · rw [e, hp] at h1
    exact n1 _ (Option.some.inj h1)
  · obtain ⟨c, e, hco⟩ := h3 pos cv hc
    refine ⟨c, e, b _ _ (fun e2 => ?_) hco⟩
    rw [e2, hp] at hco
    exact n2 _ _ (Option.some.inj hco)
theorem codeO_lst {c : Addr} {q : Str} (xs : List V) : HO.lst xs ≠ CodeO c q := fun z => by
  unfold CodeO at z
  cases z
/-- what a def tells that catches the i-th class -/
theorem lam_said {K : PySem.W.Frag} {T : List (Addr × Str)} {cs : List (Addr × Str)} {made lbl : Str} {i : Nat} {C : Addr} {v : V} {dv : PyData} {t : XK → TE} {σ : L2.St} {H : Hp} {Q : VK} (hT : Tabs T H) (hD : DqS K H v dv) (h1 : dv.showable = true) (h2 : dv.depth ≤ 60) (h3 : dv.shown.length ≤ sizeLine) (hi : cs[i]? = some (C, lbl))
    (ht : ∀ (E : XK) (H1 : Hp) (Q : VK), ExtN H H1 → (∀ d' H', Same H1 H' → H' d' = some (.xd [(("given" : Str), v)]) → E (.ref C) (some d') H') → t E σ H1 Q)
    (k : ∀ p H', ExtN H H' → Tabs T H' → H' p = some (.lst [.str lbl, .str dv.shown, .bl true]) → Q (.ref p) H') : tLam T (TSaid K cs made) t σ H Q := by
  refine ⟨hT, fun H1 e1 T1 => ht _ H1 _ e1 fun d' H' s hx => ?_⟩
  have e2 : ExtN H H' := ExtN.trans e1 (ExtN.of s)
  refine ⟨i, C, lbl, d', v, dv, hi, rfl, rfl, hx, DqS.ext e2 hD, h1, h2, h3, fun p hp => ?_⟩
  have s2 : ∀ b o, H' b = some o → upd H' p (.lst [.str lbl, .str dv.shown, .bl true]) b = some o := Same.upd hp
  exact k p _ (ExtN.trans e2 (ExtN.of s2)) ((T1.ext s).ext s2) upd_same
/-- the same compared with what is asked -/
theorem if_said {K : PySem.W.Frag} {T : List (Addr × Str)} {cs : List (Addr × Str)} {made lbl : Str} {i j : Nat} {C : Addr} {v : V} {dv : PyData} {t : XK → TE} {A : TS} {σ : L2.St} {H : Hp} {D : Ends} (hj : σ[j]? = some (some v)) (hT : Tabs T H) (hD : DqS K H v dv) (h1 : dv.showable = true) (h2 : dv.depth ≤ 60) (h3 : dv.shown.length ≤ sizeLine) (hi : cs[i]? = some (C, lbl))
    (sh : SeqAt.shaped (.list [.str lbl, .str dv.shown, .bool true]) = true) (eq : PyData.eqv (.list [.str lbl, .str dv.shown, .bool true]) (.list [.str lbl, .str dv.shown, .bool true]) = true)
    (ht : ∀ (E : XK) (H1 : Hp) (Q : VK), ExtN H H1 → (∀ d' H', Same H1 H' → H' d' = some (.xd [(("given" : Str), v)]) → E (.ref C) (some d') H') → t E σ H1 Q)
    (k : ∀ H', ExtN H H' → Tabs T H' → D.nx σ H') : tIfS (tTest (tOp (rNeD K) (tLam T (TSaid K cs made) t) (tLst (tCons (tC (.str lbl)) (tCons (tCB (rRepq K) (tCons (tVar j) tNil)) (tCons (tC (.bl true)) tNil)))))) A tNext D σ H := by
  refine lam_said hT hD h1 h2 h3 hi ht fun p H' e T' hp => ?_
  refine ⟨v, hj, v, dv, rfl, DqS.ext e hD, h1, h2, h3, by show 3 ≤ sizeLine; decide, fun q hq => ?_⟩
  have s2 : ∀ b o, H' b = some o → upd H' q (.lst [.str lbl, .str dv.shown, .bl true]) b = some o := Same.upd hq
  refine ⟨_, _, .lst (.inl (.inl (s2 _ _ hp))) (.cons (.str _) (.cons (.str _) (.cons (.bl _) .nil))), .lst (.inl (.inl upd_same)) (.cons (.str _) (.cons (.str _) (.cons (.bl _) .nil))), sh, sh, ?_⟩
  rw [eq]
  exact ⟨false, rfl, (iteF (k _ (ExtN.trans e (ExtN.of s2)) (T'.ext s2)) : if false = true then _ else _)⟩
/-- a def whose code object is known -/
theorem fn_atC {P : Program} {w : World} {K : PySem.W.Frag} {mg : Str → Option Value} {base : Heap} {k : Nat} {x qual : Str} {st : Stmt} {f c : Addr} {fd : FuncData} {N ps : List Str} {sp : Sp} (F : Fun K x qual st f fd) (hc : fd.code = .ref c) (S : FnScope N ps (defScope st)) (len : ∀ vs H Q E, sp vs H Q E → vs.length = ps.length)
    (body : ∀ (A : Around) (outer : List Env) (s : Shared) (H : Hp) (vs : List V) (Q : VK) (E : XK), (A.deeper (envOfC qual (defScope st) s.heap.objs.size f (.ref c))).guards = some [] → Room k (A.deeper (envOfC qual (defScope st) s.heap.objs.size f (.ref c))) → sp vs H Q E →
      ∃ t, PSs (cxOf CX0 P w K mg base N qual (defScope st) f (.ref c) A outer s H E) (defBody st) t ∧ t { nx := fun _ H' => Q .non H', rt := Q } (start N vs) H) : FnG P w K mg base CX0 (k + 1) f fd ps sp := by
  obtain ⟨oc, od, kV, doc, pm, an, cdv, ct, osl, rfl, lk, hcd⟩ := F.ex
  obtain rfl : cdv = .ref c := hc
  refine ⟨fun A outer s H args us vs Q E hr hg e0 hb rv h => ?_, len⟩
  have hl := len _ _ _ _ h
  have kin : K.In s.heap := e0.mod.kin.keeps fun b o z => (e0.bs b o z).1
  have lim : s.heap.NoLimit := e0.mod.nolimit.keeps fun b o z => (e0.bs b o z).1
  have par : ∀ y ∈ ps.zip us, (defScope st).names.lookup y.1 = some .local ∨ ((defScope st).names.lookup y.1 = some .cell ∧ ((cellsFrom (s.heap.objs.size + 1) (defScope st).names []).lookup y.1).isSome = true) := by
    rintro ⟨n, v⟩ hy
    cases S.par n (List.of_mem_zip hy).1 with
    | inl q => exact .inl q
    | inr q => exact .inr ⟨q, PySem.W.cellsFrom_some _ _ _ (.inl q)⟩
  refine codeAny_call_function hr.depth (kin _ _ lk) rfl S.co S.gen rfl (PySem.W.codeRec_of kin hcd) (hb _ _ _ _ (wpAny_newFunctionEnv_cells S.kind par ?_))
  rintro env he s1 hin
  subst he
  refine ⟨lim.keeps hin.toInCall.keep, codeAny_func ?_⟩
  obtain ⟨t, ht, hq⟩ := body A outer s H vs Q E (guards_deeper hg) (hr.deeper _) h
  refine wpAny_mono (ht.run [] s1 (start N vs) H _ (inv_start S hr.hd e0 hl rv hin) hq) ?_ fun _ _ z => z
  rintro fl s' hs
  cases fl with
  | next =>
    obtain ⟨σ', H', J, q⟩ := hs
    exact ⟨V.non, H', J.os, J.bare, J.base, J.hok, rfl, q⟩
  | ret u =>
    obtain ⟨v, σ', H', J, r, q⟩ := hs
    exact ⟨v, H', J.os, J.bare, J.base, J.hok, r, q⟩
  | brk =>
    obtain ⟨_, _, _, q⟩ := hs
    exact q.elim
  | cont =>
    obtain ⟨_, _, _, q⟩ := hs
    exact q.elim
/-- a display of keys and constants -/
theorem disp_c {cs : List (Key × V)} {σ : L2.St} {H : Hp} {Q : VK} (h15 : cs.length ≤ 15) (k : ∀ p H', Same H H' → H p = none → H' p = some (.dK (mergeK [] cs)) → Q (.ref p) H') : tDisp (cs.map fun c => (tC (kV c.1), tC c.2)) σ H Q := fun p hp => by
  have aux : ∀ (l : List (Key × V)) (H1 : Hp) (R : List (V × V) → Hp → Prop), R (l.map fun kv => (kV kv.1, kv.2)) H1 → tPairs (l.map fun c => (tC (kV c.1), tC c.2)) σ H1 R := by
    intro l
    induction l with
    | nil => intro H1 R h; exact h
    | cons x t ih => intro H1 R h; exact ih H1 _ h
  refine aux cs _ _ ⟨upd_same, cs, rfl, h15, k p _ (fun b o e => ?_) hp upd_same⟩
  rw [upd_ne (ne_of_none e hp), upd_ne (ne_of_none e hp)]
  exact e
/-- a display of one entry -/
theorem disp_1 {tk tv : TE} {key : Key} {v : V} {σ : L2.St} {H : Hp} {Q : VK} (hk : ∀ (H : Hp) (Q : VK), Q (kV key) H → tk σ H Q) (hv : ∀ (H : Hp) (Q : VK), Q v H → tv σ H Q) (k : ∀ p H', Same H H' → H p = none → H' p = some (.dK [(key, v)]) → Q (.ref p) H') : tDisp [(tk, tv)] σ H Q := fun p hp => by
  refine hk _ _ (hv _ _ ⟨upd_same, [(key, v)], rfl, by show 1 ≤ 15; decide, k p _ (fun b o e => ?_) hp upd_same⟩)
  rw [upd_ne (ne_of_none e hp), upd_ne (ne_of_none e hp)]
  exact e
end EX
set_option Elab.async false
set_option linter.all false
set_option maxRecDepth 100000
set_option maxHeartbeats 4000000
namespace K69
open PySem L2 EX PyProof.Rows M68 LamX
abbrev rAddS : R2 := fun x y H Q => ∃ i j, x = .str i ∧ y = .str j ∧ i.length + j.length ≤ sizeLine ∧ Q (.str (i ++ j)) H
abbrev sEr : Stmt := top 26
def sErN : List Str := ["_law_parents", "_law_wide", "_law_odds", "_law_name", "_law_odd", "_law_letter"]
theorem scEr : FnScope ["_law_parents", "_law_wide", "_law_odds", "_law_name", "_law_odd", "_law_letter"] ["_law_parents"] (defScope sEr) := ⟨rfl, rfl, rfl, by decide +kernel, rfl, by decide +kernel, by decide +kernel⟩
def qEr : Str := "_law_errors_right.<locals>.<lambda>"
theorem one_T {P : Addr} {q : Str} : ∀ p ∈ [(P, q)], p.1 = P → p.2 = q := fun p hp _ => by
  rw [List.mem_singleton.mp hp]
/-- the words of what was raised are small -/
def okD (lbl : Str) (d : PyData) : Bool := d.showable && (decide (d.depth ≤ 60) && (decide (d.shown.length ≤ 1000) && (SeqAt.shaped (.list [.str lbl, .str d.shown, .bool true]) && PyData.eqv (.list [.str lbl, .str d.shown, .bool true]) (.list [.str lbl, .str d.shown, .bool true]))))
theorem okD_of {lbl : Str} {d : PyData} (h : okD lbl d = true) : d.showable = true ∧ d.depth ≤ 60 ∧ d.shown.length ≤ sizeLine ∧ SeqAt.shaped (.list [.str lbl, .str d.shown, .bool true]) = true ∧ PyData.eqv (.list [.str lbl, .str d.shown, .bool true]) (.list [.str lbl, .str d.shown, .bool true]) = true := by
  unfold okD at h
  simp only [Bool.and_eq_true, decide_eq_true_eq] at h
  obtain ⟨h1, h2, h3, h4, h5⟩ := h
  exact ⟨h1, h2, Nat.le_trans h3 (by rw [sizeLine_eq]; decide), h4, h5⟩
theorem WdA.ext {K : PySem.W.Frag} {H H' : Hp} (s : ExtN H H') {x : V} {b : Bool} (h : WdA K H x b) : WdA K H' x b := by
  cases h with
  | str h => exact .str h
  | int n => exact .int n
  | non => exact .non
  | lst h => exact .lst (EX.ExtN.seq s h)
theorem TrA.ext {K : PySem.W.Frag} {H H' : Hp} (s : ExtN H H') {x : V} {b : Bool} (h : TrA K H x b) : TrA K H' x b := by
  cases h with
  | non => exact .non
  | lst h => exact .lst (EX.ExtN.seq s h)
  | size h z => exact .size (EX.ExtN.dK s h) z
  | ent h z nd es bad => exact .ent (EX.ExtN.dK s h) z nd (fun e he => ⟨(es e he).1, (es e he).2.elim fun b q => ⟨b, WdA.ext s q⟩⟩) bad
  | par h z nd g => exact .par (EX.ExtN.dK s h) z nd g
theorem NdA.ext {K : PySem.W.Frag} {H H' : Hp} {par : Tr} (s : ExtN H H') {x : V} {b : Bool} (h : NdA K H par x b) : NdA K H' par x b := by
  cases h with
  | need h N => exact .need (EX.ExtN.dK s h) N
  | non => exact .non
  | lst h => exact .lst (EX.ExtN.seq s h)
  | ent h nd vs bad => exact .ent (EX.ExtN.dK s h) nd vs bad
/-- what is no tree, with its words -/
def OddT (K : PySem.W.Frag) (H : Hp) (v : V) : Prop := TrA K H v false ∧ ∃ dv, DqS K H v dv ∧ okD "tree" dv = true
def OddN (K : PySem.W.Frag) (par : Tr) (H : Hp) (v : V) : Prop := NdA K H par v false ∧ ∃ dv, DqS K H v dv ∧ okD "need" dv = true
def OddL (O : Hp → V → Prop) (H : Hp) (vs : List V) : Prop := ∀ v ∈ vs, O H v
theorem OddT.ext {K : PySem.W.Frag} {H H' : Hp} (s : ExtN H H') {v : V} (h : OddT K H v) : OddT K H' v := ⟨h.1.ext s, let ⟨dv, a, b⟩ := h.2; ⟨dv, DqS.ext s a, b⟩⟩
theorem OddN.ext {K : PySem.W.Frag} {par : Tr} {H H' : Hp} (s : ExtN H H') {v : V} (h : OddN K par H v) : OddN K par H' v := ⟨h.1.ext s, let ⟨dv, a, b⟩ := h.2; ⟨dv, DqS.ext s a, b⟩⟩
theorem oddT_snoc {K : PySem.W.Frag} {H H' : Hp} {vs : List V} {v : V} (l : OddL (OddT K) H vs) (s : Same H H') (h : OddT K H' v) : OddL (OddT K) H' (vs ++ [v]) := fun x hx => by
  rcases List.mem_append.mp hx with hx | hx
  · exact (l x hx).ext (ExtN.of s)
  · rw [List.mem_singleton.mp hx]
    exact h
theorem oddN_snoc {K : PySem.W.Frag} {par : Tr} {H H' : Hp} {vs : List V} {v : V} (l : OddL (OddN K par) H vs) (s : Same H H') (h : OddN K par H' v) : OddL (OddN K par) H' (vs ++ [v]) := fun x hx => by
  rcases List.mem_append.mp hx with hx | hx
  · exact (l x hx).ext (ExtN.of s)
  · rw [List.mem_singleton.mp hx]
    exact h
abbrev parD (par : Tr) : PyData := .dict ((par.map fun z => PyData.str z.1).zip (par.map fun z => PyData.str z.2))
theorem dqs_par {K : PySem.W.Frag} {H : Hp} {p : Addr} {par : Tr} (h : H p = some (.dK (parK par))) : DqS K H (.ref p) (parD par) := by
  have a : ∀ l : Tr, DqSAll K H ((parK l).map (·.2)) (l.map fun z => PyData.str z.2) := by
    intro l
    induction l with
    | nil => exact .nil
    | cons x t ih => exact .cons (.str _) ih
  have e : (parK par).map (fun p => keyD p.1) = par.map fun z => PyData.str z.1 := by
    rw [List.map_map]
    rfl
  have := DqS.dic h (a par)
  rw [e] at this
  exact this
/-- cycles, unknown ones above -/
theorem oddT_par {K : PySem.W.Frag} {H : Hp} {p : Addr} {par : Tr} (h : H p = some (.dK (parK par))) (z : 1 ≤ par.length ∧ par.length ≤ 11) (nd : (par.map (·.1)).Nodup) (g : ∀ p ∈ par, good (Sum.inr p.1, V.str p.2) = true) (l : lastB par = false) (ok : okD "tree" (parD par) = true) : OddT K H (.ref p) := by
  have := TrA.par (K := K) h z nd g
  rw [l] at this
  exact ⟨this, _, dqs_par h, ok⟩
theorem entS_par {K : PySem.W.Frag} {H : Hp} {par : Tr} (h : ∀ p ∈ par, p.1.length ≤ 100 ∧ p.2.length ≤ 100) : ∀ e ∈ parK par, EntS K H e := fun e he => by
  obtain ⟨z, hz, rfl⟩ := List.mem_map.mp he
  have := h z hz
  have : 100 ≤ sizeLine := by rw [sizeLine_eq]; decide
  exact ⟨by show z.1.length ≤ sizeLine; omega, _, .str (by omega)⟩
theorem parK_nd {par : Tr} (nd : (par.map (·.1)).Nodup) : ((parK par).map (·.1)).Nodup := by
  have e : (parK par).map (·.1) = (par.map (·.1)).map Sum.inr := by
    rw [List.map_map, List.map_map]
    rfl
  rw [e]
  exact List.Pairwise.map _ (fun a b h z => h (Sum.inr.inj z)) nd
theorem oddT_bad {K : PySem.W.Frag} {H : Hp} {p : Addr} {par : Tr} (h : H p = some (.dK (parK par))) (z : 1 ≤ par.length ∧ par.length ≤ 11) (nd : (par.map (·.1)).Nodup) (sm : ∀ p ∈ par, p.1.length ≤ 100 ∧ p.2.length ≤ 100) (bad : ∃ p ∈ par, good (Sum.inr p.1, V.str p.2) = false) (ok : okD "tree" (parD par) = true) : OddT K H (.ref p) := by
  refine ⟨.ent h (by rw [List.length_map]; exact z) (parK_nd nd) (entS_par sm) ?_, _, dqs_par h, ok⟩
  obtain ⟨e, he, b⟩ := bad
  exact ⟨_, List.mem_map.mpr ⟨e, he, rfl⟩, b⟩
end K69
set_option Elab.async false
set_option linter.all false
set_option maxRecDepth 100000
set_option maxHeartbeats 4000000
namespace K69
open PySem L2 EX PyProof.Rows M68 LamX
/-- `_law_said(lambda: ..)` where it stands -/
theorem pe_said {X : Cx} {T : List (Addr × Str)} {cb C1 C2 gS c Pt : Addr} {fdS : FuncData} {k : Nat} {params : Arguments} {body : Expr} {scope : Scope} {t : XK → TE} {p lpos pos : Pos}
    (FS : Fun X.K "_law_said" "_law_said" sSaid gS fdS) (bS : Binds X.K fdS ["_law_call"] []) (mS : X.mg "_law_said" = some (.ref gS)) (S : SaidC X.K cb [(C1, "tree"), (C2, "need")]) (m1 : X.mg "InvalidTree" = some (.ref C1)) (m2 : X.mg "InvalidNeed" = some (.ref C2)) (mcb : X.mg "CacheError" = some (.ref cb))
    (hrp : X.mg "repr" = none) (hi : X.mg "isinstance" = none) (hg0 : X.A.guards = some []) (hg : Gl X "_law_said") (TB : TabB X.base X.mg c Pt) (hcode : X.env.code = .ref c) (hmT : (Pt, X.env.qual ++ "<lambda>") ∈ T) (hu : ∀ p ∈ T, p.1 = Pt → p.2 = X.env.qual ++ "<lambda>") (hro : Room (k + 2) X.A)
    (L : LamS X.env.scope scope) (hdef : defaultsOf params X.env = ([], [])) (hbind : ∀ (q : Str) (cl : List (Str × Addr)) (pm cv ctv : Value), bindArgs (PySem.W.kla_fn "<lambda>" q params body scope cl pm cv ctv) ⟨[], []⟩ = pure [])
    (hbody : ∀ (A : Around) (outer : List Env) (s : Shared) (H : Hp) (E : XK) (f c' : Addr), Room k (A.deeper (lamEnv X scope s.heap.objs.size f c')) → PE (lamCx X A outer s H E scope f c') body (t E)) :
    PE X (.Call (.Name "_law_said" p) [.Lambda params body scope lpos] [] pos) (tLam T (TSaid X.K [(C1, "tree"), (C2, "need")] "made") t) := by
  obtain ⟨oc, od, kV, doc, pm, an, cdv, ct, osl, rfl, lk, hcd⟩ := FS.ex
  exact pe_lamcall hg mS FS.kp lk hcd bS scSd rfl (.inl rfl) (said_gives S m1 m2 mcb hrp hi hg0 (hro.mono (by omega))) TB hcode hmT hu hro L hdef hbind hbody
/-- too many names -/
def wideP : Tr := ("abcdefghijkl" : Str).cps.toList.map fun c => (("n" : Str) ++ (⟨#[c]⟩ : Str), ("store" : Str))
theorem wide_nd : (wideP.map (·.1)).Nodup := by decide +kernel
theorem wide_len : wideP.length = 12 := by decide +kernel
theorem wide_get {i : Nat} {c : _} (h : ("abcdefghijkl" : Str).cps[i]? = some c) : wideP[i]? = some (("n" : Str) ++ (⟨#[c]⟩ : Str), ("store" : Str)) := by
  unfold wideP
  rw [List.getElem?_map, Array.getElem?_toList, h]
  rfl
/-- _law_errors_right(parents) -/
def spErr (K : PySem.W.Frag) (T : List (Addr × Str)) : Sp := fun vs H Q _ => ∃ (d : Addr) (par : Tr), vs = [.ref d] ∧ H d = some (.dK (parK par)) ∧ TreeP par ∧ (∀ z ∈ par, z.1 ∈ nm11) ∧ Tabs T H ∧ ∀ H', ExtN H H' → Tabs T H' → Q (.bl true) H'
theorem nm_len {x : Str} (h : x ∈ nm11) : x.length ≤ 1 := by
  revert x
  decide +kernel
theorem at_lst {t : TA} {σ : L2.St} {H : Hp} {Q : VK} (h : t σ H fun xs H1 => xs.length ≤ sizeLine ∧ ∀ p, H1 p = none → Q (.ref p) (upd H1 p (.lst xs))) : tLst t σ H Q := h
theorem at_lstN {t : TA} {σ : L2.St} {H : Hp} {Q : VK} (h : t σ H fun xs H1 => xs.length ≤ sizeLine ∧ ∀ p, H1 p = none → p ≠ sysModules → Q (.ref p) (upd H1 p (.lst xs))) : tLstN t σ H Q := h
theorem at_cons {ta : TE} {tr : TA} {σ : L2.St} {H : Hp} {Q : List V → Hp → Prop} (h : ta σ H fun x H1 => tr σ H1 fun xs H2 => Q (x :: xs) H2) : tCons ta tr σ H Q := h
theorem at_new {σ : L2.St} {H : Hp} {Q : VK} (h : ∀ p, H p = none → Q (.ref p) (upd H p (.dK []))) : tDNewK σ H Q := h
theorem oddT_non {K : PySem.W.Frag} {H : Hp} : OddT K H .non := ⟨.non, _, .non, by decide +kernel⟩
theorem oddT_nil {K : PySem.W.Frag} {H : Hp} {p : Addr} (h : H p = some (.dK [])) : OddT K H (.ref p) := ⟨.size h (by simp), _, .dic h .nil, by decide +kernel⟩
theorem oddT_lst {K : PySem.W.Frag} {H : Hp} {p : Addr} (h : H p = some (.lst [])) (hm : p ≠ sysModules) : OddT K H (.ref p) := ⟨.lst (SqL.of h), _, .lst hm (SqL.of h) .nil, by decide +kernel⟩
theorem sl5 {n : Nat} (h : n ≤ 100) : n ≤ sizeLine := Nat.le_trans h (by rw [sizeLine_eq]; decide)
theorem nd1 {α β : Type} {k : α} {v : β} : (([(k, v)] : List (α × β)).map (·.1)).Nodup := by simp
theorem oddT_k5 {K : PySem.W.Frag} {H : Hp} {p : Addr} (h : H p = some (.dK [(Sum.inl 5, .str "store")])) : OddT K H (.ref p) :=
  ⟨.ent h (by decide) nd1 (fun e he => by rw [List.mem_singleton.mp he]; exact ⟨trivial, _, .str (sl5 (by decide))⟩) ⟨_, List.mem_singleton.mpr rfl, rfl⟩, _, .dic h (.cons (.str _) .nil), by decide +kernel⟩
theorem oddT_an {K : PySem.W.Frag} {H : Hp} {p : Addr} (h : H p = some (.dK [(Sum.inr "a", .non)])) : OddT K H (.ref p) :=
  ⟨.ent h (by decide) nd1 (fun e he => by rw [List.mem_singleton.mp he]; exact ⟨sl5 (by decide), _, .non⟩) ⟨_, List.mem_singleton.mpr rfl, rfl⟩, _, .dic h (.cons .non .nil), by decide +kernel⟩
theorem ok9 : okD "tree" (.dict [(.str "a", .list [.str "store"])]) = true := by decide +kernel
theorem oddT_as {K : PySem.W.Frag} {H : Hp} {p q : Addr} (h : H p = some (.dK [(Sum.inr "a", .ref q)])) (hq : H q = some (.lst [.str "store"])) (hm : q ≠ sysModules) : OddT K H (.ref p) :=
  ⟨.ent h ⟨by show 1 ≤ 1; decide, by show 1 ≤ 11; decide⟩ nd1 (fun e he => by rw [List.mem_singleton.mp he]; exact ⟨sl5 (by decide), _, .lst (SqL.of hq)⟩) ⟨_, List.mem_singleton.mpr rfl, rfl⟩, _, .dic h (.cons (.lst hm (SqL.of hq) (.cons (.str _) .nil)) .nil), ok9⟩
theorem wide_ok : okD "tree" (parD wideP) = true := by decide +kernel
theorem oddT_wide {K : PySem.W.Frag} {H : Hp} {p : Addr} (h : H p = some (.dK (parK wideP))) : OddT K H (.ref p) :=
  ⟨.size h (by rw [List.length_map, wide_len]; omega), _, dqs_par h, wide_ok⟩
theorem oddN_non {K : PySem.W.Frag} {par : Tr} {H : Hp} : OddN K par H .non := ⟨.non, _, .non, by decide +kernel⟩
theorem oddN_lst {K : PySem.W.Frag} {par : Tr} {H : Hp} {p : Addr} (h : H p = some (.lst [])) (hm : p ≠ sysModules) : OddN K par H (.ref p) := ⟨.lst (SqL.of h), _, .lst hm (SqL.of h) .nil, by decide +kernel⟩
theorem oddN_one {K : PySem.W.Frag} {par : Tr} {H : Hp} {p : Addr} {k : Key} {v : V} {dv : PyData} (h : H p = some (.dK [(k, v)])) (hv : ∃ b, AlA v b) (bad : goodN par (k, v) = false) (hd : DqS K H v dv) (ok : okD "need" (.dict [(keyD k, dv)]) = true) : OddN K par H (.ref p) :=
  ⟨.ent h nd1 (fun e he => by rw [List.mem_singleton.mp he]; exact hv) ⟨_, List.mem_singleton.mpr rfl, bad⟩, _, .dic h (.cons hd .nil), ok⟩
theorem okn0 : ∀ x ∈ nm11, okD "need" (.dict [(keyD (Sum.inr x), .int 0)]) = true := by decide +kernel
theorem okn100 : ∀ x ∈ nm11, okD "need" (.dict [(keyD (Sum.inr x), .int 100)]) = true := by decide +kernel
theorem oknT : ∀ x ∈ nm11, okD "need" (.dict [(keyD (Sum.inr x), .bool true)]) = true := by decide +kernel
theorem okn1 : ∀ x ∈ nm11, okD "need" (.dict [(keyD (Sum.inr x), .str "1")]) = true := by decide +kernel
theorem notin11 {par : Tr} (h11 : ∀ z ∈ par, z.1 ∈ nm11) {x : Str} (h : x ∉ nm11) : x ∉ par.map (·.1) := fun z => by
  obtain ⟨e, he, rfl⟩ := List.mem_map.mp z
  exact h (h11 e he)
theorem goodN_int {par : Tr} {x : Str} {m : Int} : goodN par (Sum.inr x, .int m) = (decide (x ∈ par.map (·.1)) && (decide (1 ≤ m) && decide (m ≤ 99))) := rfl
section
variable {P : Program} {w : World} {K : PySem.W.Frag} {mg : Str → Option Value} {base : Heap}
theorem ok_err {CT CN cb gS c Pt : Addr} {fdS : FuncData} {f : Addr} {fd : FuncData} (F : Fun K "_law_errors_right" "_law_errors_right" sEr f fd) (hc : fd.code = .ref c) (B : Bn mg)
    (FS : Fun K "_law_said" "_law_said" sSaid gS fdS) (bS : Binds K fdS ["_law_call"] []) (mS : mg "_law_said" = some (.ref gS)) (S : SaidC K cb [(CT, "tree"), (CN, "need")]) (m1 : mg "InvalidTree" = some (.ref CT)) (m2 : mg "InvalidNeed" = some (.ref CN)) (mcb : mg "CacheError" = some (.ref cb)) (TB : TabB base mg c Pt)
    (GGA : DefX P w K mg base 4 "greatest_allowances" ["parents", "needs"] (spGA K CT CN)) (GSV : DefX P w K mg base 4 "serve" ["parents", "needs", "allowances"] (spSV K CT CN)) :
    FnG P w K mg base CX0 7 f fd ["_law_parents"] (spErr K [(Pt, qEr)]) := by
  refine fn_atC F hc scEr (fun vs H Q E h => ?_) (fun A outer s H vs Q E hgu hr h => ?_)
  · obtain ⟨d, par, rfl, _⟩ := h
    rfl
  · obtain ⟨d, par, rfl, hd, TP, h11, hT, k⟩ := h
    have hu64 : _ + 64 < cLine := hr.units
    have hu70 : (A.deeper (envOfC "_law_errors_right" (defScope sEr) s.heap.objs.size f (.ref c))).units + 70 < cLine := by
      have := hr.un
      omega
    have hro : Room 6 _ := hr
    refine ⟨_, PSs.nox (pss_cons (ps_set (i := 1) scEr.nd rfl (Or.inl rfl) (pe_callTy (call_dictP rfl) (by rfl) B.dict (by decide +kernel) (pa_cons (pe_lc (own := [("_law_letter", 5)]) (g := gName 5) (tt := tYes) (te := tTup (tCons (tOp rAddS (tC (.str "n")) (tVar 5)) (tCons (tC (.str "store")) tNil))) rfl scEr.nd (pi_str pe_str) (blkOk_by (N := sErN) (sc := defScope sEr) (by decide +kernel)) (fun _ _ _ _ _ => pg_name (i := 5) scEr.nd rfl (Or.inl rfl)) (fun _ _ _ _ _ => pts_nil) (fun _ _ _ _ _ => (pe_tup (pa_cons (pe_op op_add_str pe_str (pv 5)) (pa_cons pe_str pa_nil))))) pa_nil)))
          (pss_cons (ps_set (i := 2) scEr.nd rfl (Or.inl rfl) (pe_lst (pa_cons pe_non (pa_cons pe_dnewK (pa_cons (pe_lstN pa_nil) (pa_cons (pe_disp (pps_cons pe_str pe_str pps_nil) rfl rfl (List.cons_ne_nil _ _) (by decide)) (pa_cons (pe_disp (pps_cons pe_str pe_str (pps_cons pe_str pe_str pps_nil)) rfl rfl (List.cons_ne_nil _ _) (by decide)) (pa_cons (pe_disp (pps_cons pe_str pe_str pps_nil) rfl rfl (List.cons_ne_nil _ _) (by decide)) (pa_cons (pe_disp (pps_cons pe_str pe_str pps_nil) rfl rfl (List.cons_ne_nil _ _) (by decide)) (pa_cons (pe_disp (pps_cons pe_str pe_non pps_nil) rfl rfl (List.cons_ne_nil _ _) (by decide)) pa_nil))))))))))
          (pss_cons (ps_set (i := 2) scEr.nd rfl (Or.inl rfl) (pe_op op_cat (pv 2) (pe_lst (pa_cons (pe_disp (pps_cons pe_str pe_str pps_nil) rfl rfl (List.cons_ne_nil _ _) (by decide)) (pa_cons (pe_disp (pps_cons pe_int pe_str pps_nil) rfl rfl (List.cons_ne_nil _ _) (by decide)) (pa_cons (pe_disp (pps_cons pe_str pe_str (pps_cons pe_str pe_str pps_nil)) rfl rfl (List.cons_ne_nil _ _) (by decide)) (pa_cons (pe_disp (pps_cons pe_str (pe_lstN (pa_cons pe_str pa_nil)) pps_nil) rfl rfl (List.cons_ne_nil _ _) (by decide)) (pa_cons (pv 1) pa_nil))))))))
          (pss_cons (ps_expr (pe_bm PySem.F.plainAttrs_list PySem.F.slot_list_append PySem.F.type_list_append mt_append (pv 2) (pa_cons (pe_disp (pps_cons pe_str pe_str (pps_cons pe_str pe_str (pps_cons pe_str pe_str pps_nil))) rfl rfl (List.cons_ne_nil _ _) (by decide)) pa_nil)))
          (pss_cons (ps_for PassesOwn.never rfl (pi_list (pv 2)) (pg_name (i := 4) scEr.nd rfl (Or.inr rfl)) (pss_cons (ps_if (pt_cmpR (op_neD hu64) (pe_said (k := 4) FS bS mS S m1 m2 mcb B.repr B.isi hgu (by rfl) TB rfl (List.mem_singleton.mpr rfl) one_T hro (lamS_by (sc := defScope sEr) (by decide +kernel)) rfl (fun _ _ _ _ _ => rfl) (fun A outer s H E f c' hr4 => pe_callU GGA hr4 (takes_of rfl rfl rfl rfl) (pa_cons (pv 4) (pa_cons pe_non pa_nil)))) (pe_lst (pa_cons pe_str (pa_cons (pe_callB (call_reprq hgu hu70) (by rfl) B.repr (by decide +kernel) (pa_cons (pv 4) pa_nil)) (pa_cons pe_bl pa_nil)))) (nomark _)) (pss_one (ps_ret pe_bl)) pss_nil)
          (pss_one (ps_if (pt_cmpR (op_neD hu64) (pe_said (k := 4) FS bS mS S m1 m2 mcb B.repr B.isi hgu (by rfl) TB rfl (List.mem_singleton.mpr rfl) one_T hro (lamS_by (sc := defScope sEr) (by decide +kernel)) rfl (fun _ _ _ _ _ => rfl) (fun A outer s H E f c' hr4 => pe_callU GSV hr4 (takes_of rfl rfl rfl rfl) (pa_cons (pv 4) (pa_cons pe_non (pa_cons pe_non pa_nil))))) (pe_lst (pa_cons pe_str (pa_cons (pe_callB (call_reprq hgu hu70) (by rfl) B.repr (by decide +kernel) (pa_cons (pv 4) pa_nil)) (pa_cons pe_bl pa_nil)))) (nomark _)) (pss_one (ps_ret pe_bl)) pss_nil))))
          (pss_cons (ps_set (i := 3) scEr.nd rfl (Or.inl rfl) (pe_ix ix_list (pe_callTy (call_list_dK rfl) (by rfl) B.list (by decide +kernel) (pa_cons (pv 0) pa_nil)) pe_int (fun _ _ => rfl)))
          (pss_cons (ps_for PassesOwn.never rfl (pi_list (pe_lst (pa_cons pe_non (pa_cons (pe_lstN pa_nil) (pa_cons (pe_disp (pps_cons pe_str pe_int pps_nil) rfl rfl (List.cons_ne_nil _ _) (by decide)) (pa_cons (pe_disp (pps_cons (pv 3) pe_int pps_nil) rfl rfl (List.cons_ne_nil _ _) (by decide)) (pa_cons (pe_disp (pps_cons (pv 3) pe_int pps_nil) rfl rfl (List.cons_ne_nil _ _) (by decide)) (pa_cons (pe_disp (pps_cons (pv 3) pe_bl pps_nil) rfl rfl (List.cons_ne_nil _ _) (by decide)) (pa_cons (pe_disp (pps_cons (pv 3) pe_str pps_nil) rfl rfl (List.cons_ne_nil _ _) (by decide)) (pa_cons (pe_disp (pps_cons pe_str pe_int pps_nil) rfl rfl (List.cons_ne_nil _ _) (by decide)) (pa_cons (pe_disp (pps_cons pe_int pe_int pps_nil) rfl rfl (List.cons_ne_nil _ _) (by decide)) pa_nil))))))))))) (pg_name (i := 4) scEr.nd rfl (Or.inr rfl)) (pss_cons (ps_if (pt_cmpR (op_neD hu64) (pe_said (k := 4) FS bS mS S m1 m2 mcb B.repr B.isi hgu (by rfl) TB rfl (List.mem_singleton.mpr rfl) one_T hro (lamS_by (sc := defScope sEr) (by decide +kernel)) rfl (fun _ _ _ _ _ => rfl) (fun A outer s H E f c' hr4 => pe_callU GGA hr4 (takes_of rfl rfl rfl rfl) (pa_cons (pv 0) (pa_cons (pv 4) pa_nil)))) (pe_lst (pa_cons pe_str (pa_cons (pe_callB (call_reprq hgu hu70) (by rfl) B.repr (by decide +kernel) (pa_cons (pv 4) pa_nil)) (pa_cons pe_bl pa_nil)))) (nomark _)) (pss_one (ps_ret pe_bl)) pss_nil)
          (pss_one (ps_if (pt_cmpR (op_neD hu64) (pe_said (k := 4) FS bS mS S m1 m2 mcb B.repr B.isi hgu (by rfl) TB rfl (List.mem_singleton.mpr rfl) one_T hro (lamS_by (sc := defScope sEr) (by decide +kernel)) rfl (fun _ _ _ _ _ => rfl) (fun A outer s H E f c' hr4 => pe_callU GSV hr4 (takes_of rfl rfl rfl rfl) (pa_cons (pv 0) (pa_cons (pv 4) (pa_cons pe_non pa_nil))))) (pe_lst (pa_cons pe_str (pa_cons (pe_callB (call_reprq hgu hu70) (by rfl) B.repr (by decide +kernel) (pa_cons (pv 4) pa_nil)) (pa_cons pe_bl pa_nil)))) (nomark _)) (pss_one (ps_ret pe_bl)) pss_nil))))
          (pss_one (ps_ret pe_bl))))))))), ?_⟩
    refine ⟨_, rfl, fun D hD => ?_⟩
    refine lc_it (walk_str (z := "abcdefghijkl")) (fun i H2 => Same H H2 ∧ ∃ ts, H2 D = some (.lst (ts.map V.ref)) ∧ ts.length = i ∧ PrsAt K H2 ts (wideP.take i)) ⟨Same.upd hD, [], upd_same, rfl, .nil⟩ (fun _ _ _ _ => trivial) ?_ ?_
    · rintro i v H0 H2 hi ⟨S2, ts, lD, tl, pt⟩ ⟨rfl, ch, hch, rfl⟩
      have hw := wide_get hch
      have hi12 : i < 12 := hi
      refine ⟨rfl, _, rfl, _, _, rfl, rfl, by show 2 ≤ sizeLine; decide, by show 2 ≤ sizeLine; decide, fun t ht => ?_⟩
      have s5 : Same H2 (upd H2 t (.tup [.str (("n" : Str) ++ (⟨#[ch]⟩ : Str)), .str "store"])) := Same.upd ht
      have lt5 : upd H2 t (HO.tup [.str (("n" : Str) ++ (⟨#[ch]⟩ : Str)), .str "store"]) t = some (.tup [.str (("n" : Str) ++ (⟨#[ch]⟩ : Str)), .str "store"]) := upd_same
      have l5 := s5 _ _ lD
      have S5 := Same.trans S2 s5
      have p5 := pt.mono s5
      generalize upd H2 t (HO.tup [.str (("n" : Str) ++ (⟨#[ch]⟩ : Str)), .str "store"]) = H5 at s5 lt5 l5 S5 p5 ⊢
      have s6 : But D H5 (upd H5 D (.lst (ts.map V.ref ++ [.ref t]))) := fun b o hb e => by rw [upd_ne hb]; exact e
      refine ⟨_, l5, by rw [List.length_map, tl, sizeLine_eq]; omega, EX.Same.updN S5 hD, ts ++ [t], by rw [upd_same, List.map_append]; rfl, by rw [List.length_append, tl]; rfl, ?_⟩
      rw [List.take_add_one, hw]
      exact (p5.but s6 l5).app (.cons (s6.sqt l5 (SqT.of lt5)) .nil)
    rintro H3 ⟨S3, ts, lD, _, pt⟩
    have e12 : wideP.take ("abcdefghijkl" : Str).cps.size = wideP := by decide +kernel
    rw [e12] at pt
    refine ⟨D, ts, parK wideP, rfl, SqL.of lD, pt.kv, fun wq hwq => ?_⟩
    rw [mergeK_nil (f := V.str) wide_nd]
    have S := Same.trans S3 (Same.upd hwq (o := .dK (parK wideP)))
    have lw : upd H3 wq (HO.dK (parK wideP)) wq = some (.dK (parK wideP)) := upd_same
    generalize upd H3 wq (HO.dK (parK wideP)) = H4 at S lw ⊢
    clear pt lD S3 hwq
    have OL : OddL (OddT K) H4 [.non] := fun v hv => by rw [List.mem_singleton.mp hv]; exact oddT_non
    refine fun p1 hp1 => ?_
    have s1 : Same H4 (upd H4 p1 (.dK [])) := Same.upd hp1
    have l1 : upd H4 p1 (.dK []) p1 = some (.dK []) := upd_same
    generalize upd H4 p1 (.dK []) = X1 at s1 l1 ⊢
    replace OL := oddT_snoc OL s1 (oddT_nil l1)
    replace S := Same.trans S s1
    replace lw := s1 _ _ lw
    clear s1 l1
    refine ⟨by show 0 ≤ sizeLine; decide, fun p2 hp2 hm2 => ?_⟩
    have s2 : Same X1 (upd X1 p2 (.lst [])) := Same.upd hp2
    have l2 : upd X1 p2 (.lst []) p2 = some (.lst []) := upd_same
    generalize upd X1 p2 (.lst []) = X2 at s2 l2 ⊢
    replace OL := oddT_snoc OL s2 (oddT_lst l2 hm2)
    replace S := Same.trans S s2
    replace lw := s2 _ _ lw
    clear s2 l2
    refine disp_c (cs := parK [("a", "a")]) (by decide) fun p3 X3 s3 _ l3 => ?_
    rw [mergeK_nil (f := V.str) (by decide +kernel)] at l3
    replace OL := oddT_snoc OL s3 (oddT_par l3 (by decide +kernel) (by decide +kernel) (by decide +kernel) (by decide +kernel) (by decide +kernel))
    replace S := Same.trans S s3
    replace lw := s3 _ _ lw
    clear s3 l3
    refine disp_c (cs := parK [("a", "b"), ("b", "a")]) (by decide) fun p4 X4 s4 _ l4 => ?_
    rw [mergeK_nil (f := V.str) (by decide +kernel)] at l4
    replace OL := oddT_snoc OL s4 (oddT_par l4 (by decide +kernel) (by decide +kernel) (by decide +kernel) (by decide +kernel) (by decide +kernel))
    replace S := Same.trans S s4
    replace lw := s4 _ _ lw
    clear s4 l4
    refine disp_c (cs := parK [("a", "other")]) (by decide) fun p5 X5 s5 _ l5 => ?_
    rw [mergeK_nil (f := V.str) (by decide +kernel)] at l5
    replace OL := oddT_snoc OL s5 (oddT_par l5 (by decide +kernel) (by decide +kernel) (by decide +kernel) (by decide +kernel) (by decide +kernel))
    replace S := Same.trans S s5
    replace lw := s5 _ _ lw
    clear s5 l5
    refine disp_c (cs := parK [("store", "store")]) (by decide) fun p6 X6 s6 _ l6 => ?_
    rw [mergeK_nil (f := V.str) (by decide +kernel)] at l6
    replace OL := oddT_snoc OL s6 (oddT_bad l6 (by decide +kernel) (by decide +kernel) (by decide +kernel) (by decide +kernel) (by decide +kernel))
    replace S := Same.trans S s6
    replace lw := s6 _ _ lw
    clear s6 l6
    refine disp_1 (key := Sum.inr "a") (v := .non) (fun _ _ h => h) (fun _ _ h => h) fun p7 X7 s7 _ l7 => ?_
    replace OL := oddT_snoc OL s7 (oddT_an l7)
    replace S := Same.trans S s7
    replace lw := s7 _ _ lw
    clear s7 l7
    refine ⟨by show 8 ≤ sizeLine; decide, fun q1 hq1 => ?_⟩
    have t1 : Same X7 (upd X7 q1 (.lst [.non, .ref p1, .ref p2, .ref p3, .ref p4, .ref p5, .ref p6, .ref p7])) := Same.upd hq1
    have lq1 : upd X7 q1 (HO.lst [.non, .ref p1, .ref p2, .ref p3, .ref p4, .ref p5, .ref p6, .ref p7]) q1 = some (.lst [.non, .ref p1, .ref p2, .ref p3, .ref p4, .ref p5, .ref p6, .ref p7]) := upd_same
    generalize upd X7 q1 (HO.lst [.non, .ref p1, .ref p2, .ref p3, .ref p4, .ref p5, .ref p6, .ref p7]) = Y1 at t1 lq1 ⊢
    replace OL : OddL (OddT K) Y1 [.non, .ref p1, .ref p2, .ref p3, .ref p4, .ref p5, .ref p6, .ref p7] := fun v hv => (OL v hv).ext (ExtN.of t1)
    replace S := Same.trans S t1
    replace lw := t1 _ _ lw
    clear t1
    refine ⟨_, rfl, at_lst (at_cons ?_)⟩
    refine disp_c (cs := parK [("A", "store")]) (by decide) fun p11 X11 s11 _ l11 => ?_
    rw [mergeK_nil (f := V.str) (by decide +kernel)] at l11
    replace OL := oddT_snoc OL s11 (oddT_bad l11 (by decide +kernel) (by decide +kernel) (by decide +kernel) (by decide +kernel) (by decide +kernel))
    replace S := Same.trans S s11
    replace lw := s11 _ _ lw
    replace lq1 := s11 _ _ lq1
    clear s11 l11
    refine disp_1 (key := Sum.inl 5) (v := .str "store") (fun _ _ h => h) (fun _ _ h => h) fun p12 X12 s12 _ l12 => ?_
    replace OL := oddT_snoc OL s12 (oddT_k5 l12)
    replace S := Same.trans S s12
    replace lw := s12 _ _ lw
    replace lq1 := s12 _ _ lq1
    clear s12 l12
    refine disp_c (cs := parK [("a", "store"), ("b", "c")]) (by decide) fun p13 X13 s13 _ l13 => ?_
    rw [mergeK_nil (f := V.str) (by decide +kernel)] at l13
    replace OL := oddT_snoc OL s13 (oddT_par l13 (by decide +kernel) (by decide +kernel) (by decide +kernel) (by decide +kernel) (by decide +kernel))
    replace S := Same.trans S s13
    replace lw := s13 _ _ lw
    replace lq1 := s13 _ _ lq1
    clear s13 l13
    refine (fun p9 hp9 => ⟨by show 1 ≤ sizeLine; decide, fun q9 hq9 hm9 => ⟨?_, [(Sum.inr "a", .ref q9)], rfl, by show 1 ≤ 15; decide, ?_⟩⟩)
    · have n9 : q9 ≠ p9 := fun e => by rw [e, upd_same] at hq9; cases hq9
      rw [upd_ne (Ne.symm n9)]
      exact upd_same
    have n9 : q9 ≠ p9 := fun e => by rw [e, upd_same] at hq9; cases hq9
    have s9 : Same X13 (upd (upd (upd X13 p9 (.dK [])) q9 (.lst [.str "store"])) p9 (.dK (mergeK [] [(Sum.inr "a", .ref q9)]))) := fun b o e => by
      have nb : b ≠ p9 := ne_of_none e hp9
      rw [upd_ne nb, upd_ne (fun z => by subst z; rw [upd_ne n9, e] at hq9; cases hq9), upd_ne nb]
      exact e
    have l9 : upd (upd (upd X13 p9 (.dK [])) q9 (.lst [.str "store"])) p9 (HO.dK (mergeK [] [(Sum.inr "a", .ref q9)])) p9 = some (.dK [(Sum.inr "a", .ref q9)]) := upd_same
    have m9 : upd (upd (upd X13 p9 (.dK [])) q9 (.lst [.str "store"])) p9 (HO.dK (mergeK [] [(Sum.inr "a", .ref q9)])) q9 = some (.lst [.str "store"]) := by
      rw [upd_ne n9]
      exact upd_same
    generalize upd (upd (upd X13 p9 (.dK [])) q9 (.lst [.str "store"])) p9 (HO.dK (mergeK [] [(Sum.inr "a", .ref q9)])) = X9 at s9 l9 m9 ⊢
    replace OL := oddT_snoc OL s9 (oddT_as l9 m9 hm9)
    replace S := Same.trans S s9
    replace lw := s9 _ _ lw
    replace lq1 := s9 _ _ lq1
    clear s9 l9 m9
    replace OL := oddT_snoc OL (fun _ _ e => e) (oddT_wide lw)
    refine ⟨_, rfl, by show 5 ≤ sizeLine; decide, fun q2 hq2 => ?_⟩
    have t2 : Same X9 (upd X9 q2 (.lst [.ref p11, .ref p12, .ref p13, .ref p9, .ref wq])) := Same.upd hq2
    have lq2 : upd X9 q2 (HO.lst [.ref p11, .ref p12, .ref p13, .ref p9, .ref wq]) q2 = some (.lst [.ref p11, .ref p12, .ref p13, .ref p9, .ref wq]) := upd_same
    generalize upd X9 q2 (HO.lst [.ref p11, .ref p12, .ref p13, .ref p9, .ref wq]) = Y2 at t2 lq2 ⊢
    replace OL : OddL (OddT K) Y2 ([V.non, .ref p1, .ref p2, .ref p3, .ref p4, .ref p5, .ref p6, .ref p7] ++ [V.ref p11, .ref p12, .ref p13, .ref p9, .ref wq]) := fun v hv => (OL v hv).ext (ExtN.of t2)
    replace S := Same.trans S t2
    replace lq1 := t2 _ _ lq1
    clear t2 lw
    generalize hvs : ([V.non, .ref p1, .ref p2, .ref p3, .ref p4, .ref p5, .ref p6, .ref p7] ++ [V.ref p11, .ref p12, .ref p13, .ref p9, .ref wq] : List V) = vs at OL
    have hvl : vs.length = 13 := by rw [← hvs]; rfl
    refine ⟨q1, q2, _, _, rfl, rfl, lq1, lq2, by show 13 ≤ sizeLine; decide, fun q3 hq3 => ?_⟩
    rw [hvs]
    have t3 : Same Y2 (upd Y2 q3 (.lst vs)) := Same.upd hq3
    have lq3 : upd Y2 q3 (HO.lst vs) q3 = some (.lst vs) := upd_same
    generalize upd Y2 q3 (HO.lst vs) = Y3 at t3 lq3 ⊢
    refine ⟨_, rfl, .inl ⟨rfl, _, SqL.of lq3⟩, at_cons (disp_c (cs := parK [("a", "b"), ("b", "c"), ("c", "b")]) (by decide) fun p14 Y4 s14 n14 l14 => ?_)⟩
    rw [mergeK_nil (f := V.str) (by decide +kernel)] at l14
    have n14 : p14 ≠ q3 := fun z => by rw [z, lq3] at n14; cases n14
    replace lq3 := s14 _ _ lq3
    have t4 := Same.trans t3 s14
    refine ⟨q3, vs, .ref p14, rfl, rfl, lq3, by rw [hvl, sizeLine_eq]; decide, ?_⟩
    have t5 : Same Y2 (upd Y4 q3 (.lst (vs ++ [.ref p14]))) := fun b o e => by
      rw [upd_ne (ne_of_none e hq3)]
      exact t4 _ _ e
    have lq5 : upd Y4 q3 (HO.lst (vs ++ [.ref p14])) q3 = some (.lst (vs ++ [.ref p14])) := upd_same
    have l15 : upd Y4 q3 (HO.lst (vs ++ [.ref p14])) p14 = some (.dK (parK [("a", "b"), ("b", "c"), ("c", "b")])) := by
      rw [upd_ne n14]
      exact l14
    generalize upd Y4 q3 (HO.lst (vs ++ [.ref p14])) = Y5 at t5 lq5 l15 ⊢
    replace OL := oddT_snoc OL t5 (oddT_par l15 (by decide +kernel) (by decide +kernel) (by decide +kernel) (by decide +kernel) (by decide +kernel))
    replace S := Same.trans S t5
    clear t5 l15 l14 t4 s14 t3 hq3 lq1 lq2 hvs
    generalize vs ++ [.ref p14] = ws at OL lq5 ⊢
    refine ⟨_, rfl, q3, rfl, ⟨_, SqL.of lq5⟩, ?_⟩
    refine for_list (K := K) (a := q3) (xs := ws) (fun i σ H' => ∃ v4, σ = [some (.ref d), some (.ref wq), some (.ref q3), none, v4, none] ∧ ExtN H H' ∧ Tabs [(Pt, qEr)] H' ∧ H' q3 = some (.lst ws) ∧ OddL (OddT K) H' ws) ⟨_, rfl, ExtN.of S, hT.ext S, lq5, OL⟩ ?_ ?_ ?_
    · rintro i σ H' _ ⟨v4, rfl, _, _, l, _⟩
      exact SqL.of l
    · rintro i x σ H5 hx ⟨v4, rfl, E5, T5, l5, O5⟩
      obtain ⟨tr, dq, hdq, okx⟩ := O5 x (List.mem_of_getElem? hx)
      obtain ⟨o1, o2, o3, o4, o5⟩ := okD_of okx
      refine if_said (j := 4) (i := 0) (C := CT) (lbl := "tree") rfl T5 hdq o1 o2 o3 rfl o4 o5 (fun E1 H1 Q1 e1 hE => ⟨_, rfl, .inl ⟨rfl, .inl ⟨x, .non, [], rfl, tr.ext e1, hE⟩⟩⟩) fun H6 e6 T6 => ?_
      refine if_said (j := 4) (i := 0) (C := CT) (lbl := "tree") rfl T6 (DqS.ext e6 hdq) o1 o2 o3 rfl o4 o5 (fun E1 H1 Q1 e1 hE => ⟨_, rfl, .inl ⟨rfl, .inl ⟨x, .non, [.non], rfl, (tr.ext e6).ext e1, hE⟩⟩⟩) fun H7 e7 T7 => ?_
      have e57 := ExtN.trans e6 e7
      exact ⟨_, rfl, ExtN.trans E5 e57, T7, EX.ExtN.lst e57 l5, fun v hv => (O5 v hv).ext e57⟩
    rintro σ H5 ⟨v4, rfl, E5, T5, _, _⟩
    have hd5 := EX.ExtN.dK E5 hd
    clear OL lq5
    obtain ⟨nm, up, rest, rfl⟩ : ∃ nm up rest, par = (nm, up) :: rest := by
      cases par with
      | nil => exact absurd rfl TP.ne
      | cons a r => exact ⟨a.1, a.2, r, rfl⟩
    have hnm : nm ∈ nm11 := h11 _ (List.mem_cons_self ..)
    refine ⟨_, rfl, d, _, rfl, hd5, fun ln hln => ?_⟩
    have s20 : Same H5 (upd H5 ln (.lst ((parK ((nm, up) :: rest)).map fun kv => kV kv.1))) := Same.upd hln
    have l20 : upd H5 ln (HO.lst ((parK ((nm, up) :: rest)).map fun kv => kV kv.1)) ln = some (.lst ((parK ((nm, up) :: rest)).map fun kv => kV kv.1)) := upd_same
    generalize upd H5 ln (HO.lst ((parK ((nm, up) :: rest)).map fun kv => kV kv.1)) = Z0 at s20 l20 ⊢
    refine ⟨ln, _, _, V.str nm, rfl, rfl, SqL.of l20, atI_nat (j := 0) rfl, ?_⟩
    have T20 := T5.ext s20
    have E20 := ExtN.trans E5 (ExtN.of s20)
    clear s20 l20 hln hd5
    have ON : OddL (OddN K ((nm, up) :: rest)) Z0 [.non] := fun v hv => by rw [List.mem_singleton.mp hv]; exact oddN_non
    refine ⟨by show 0 ≤ sizeLine; decide, fun p21 hp21 hm21 => ?_⟩
    have s21 : Same Z0 (upd Z0 p21 (.lst [])) := Same.upd hp21
    have l21 : upd Z0 p21 (.lst []) p21 = some (.lst []) := upd_same
    generalize upd Z0 p21 (.lst []) = X21 at s21 l21 ⊢
    replace ON := oddN_snoc ON s21 (oddN_lst l21 hm21)
    replace E20 := ExtN.trans E20 (ExtN.of s21)
    replace T20 := T20.ext s21
    clear s21 l21
    refine disp_1 (key := Sum.inr "other") (v := .int 1) (fun _ _ h => h) (fun _ _ h => h) fun p22 X22 s22 _ l22 => ?_
    replace ON := oddN_snoc ON s22 (oddN_one l22 ⟨_, .int 1⟩ (by rw [goodN_int, decide_eq_false (notin11 h11 (by decide))]; rfl) (.int 1) (by decide +kernel))
    replace E20 := ExtN.trans E20 (ExtN.of s22)
    replace T20 := T20.ext s22
    clear s22 l22
    refine disp_1 (key := Sum.inr nm) (v := .int 0) (fun _ _ h => ⟨_, rfl, h⟩) (fun _ _ h => h) fun p23 X23 s23 _ l23 => ?_
    replace ON := oddN_snoc ON s23 (oddN_one l23 ⟨_, .int 0⟩ (by rw [goodN_int]; simp) (.int 0) (okn0 nm hnm))
    replace E20 := ExtN.trans E20 (ExtN.of s23)
    replace T20 := T20.ext s23
    clear s23 l23
    refine disp_1 (key := Sum.inr nm) (v := .int 100) (fun _ _ h => ⟨_, rfl, h⟩) (fun _ _ h => h) fun p24 X24 s24 _ l24 => ?_
    replace ON := oddN_snoc ON s24 (oddN_one l24 ⟨_, .int 100⟩ (by rw [goodN_int]; simp) (.int 100) (okn100 nm hnm))
    replace E20 := ExtN.trans E20 (ExtN.of s24)
    replace T20 := T20.ext s24
    clear s24 l24
    refine disp_1 (key := Sum.inr nm) (v := .bl true) (fun _ _ h => ⟨_, rfl, h⟩) (fun _ _ h => h) fun p25 X25 s25 _ l25 => ?_
    replace ON := oddN_snoc ON s25 (oddN_one l25 ⟨_, .bl true⟩ rfl (.bl true) (oknT nm hnm))
    replace E20 := ExtN.trans E20 (ExtN.of s25)
    replace T20 := T20.ext s25
    clear s25 l25
    refine disp_1 (key := Sum.inr nm) (v := .str "1") (fun _ _ h => ⟨_, rfl, h⟩) (fun _ _ h => h) fun p26 X26 s26 _ l26 => ?_
    replace ON := oddN_snoc ON s26 (oddN_one l26 ⟨_, .str "1"⟩ rfl (.str "1") (okn1 nm hnm))
    replace E20 := ExtN.trans E20 (ExtN.of s26)
    replace T20 := T20.ext s26
    clear s26 l26
    refine disp_1 (key := Sum.inr "store") (v := .int 1) (fun _ _ h => h) (fun _ _ h => h) fun p27 X27 s27 _ l27 => ?_
    replace ON := oddN_snoc ON s27 (oddN_one l27 ⟨_, .int 1⟩ (by rw [goodN_int, decide_eq_false (notin11 h11 (by decide))]; rfl) (.int 1) (by decide +kernel))
    replace E20 := ExtN.trans E20 (ExtN.of s27)
    replace T20 := T20.ext s27
    clear s27 l27
    refine disp_1 (key := Sum.inl 5) (v := .int 1) (fun _ _ h => h) (fun _ _ h => h) fun p28 X28 s28 _ l28 => ?_
    replace ON := oddN_snoc ON s28 (oddN_one l28 ⟨_, .int 1⟩ rfl (.int 1) (by decide +kernel))
    replace E20 := ExtN.trans E20 (ExtN.of s28)
    replace T20 := T20.ext s28
    clear s28 l28
    replace ON : OddL (OddN K ((nm, up) :: rest)) X28 [V.non, .ref p21, .ref p22, .ref p23, .ref p24, .ref p25, .ref p26, .ref p27, .ref p28] := ON
    refine ⟨by show 9 ≤ sizeLine; decide, fun lz hlz => ?_⟩
    generalize [V.non, .ref p21, .ref p22, .ref p23, .ref p24, .ref p25, .ref p26, .ref p27, .ref p28] = ws2 at ON ⊢
    have s30 : Same X28 (upd X28 lz (.lst ws2)) := Same.upd hlz
    have l30 : upd X28 lz (HO.lst ws2) lz = some (.lst ws2) := upd_same
    generalize upd X28 lz (HO.lst ws2) = Y6 at s30 l30 ⊢
    replace ON : OddL (OddN K ((nm, up) :: rest)) Y6 ws2 := fun v hv => (ON v hv).ext (ExtN.of s30)
    replace E20 := ExtN.trans E20 (ExtN.of s30)
    replace T20 := T20.ext s30
    refine ⟨lz, rfl, ⟨_, SqL.of l30⟩, ?_⟩
    refine for_list (K := K) (a := lz) (xs := ws2) (fun i σ H' => ∃ v4, σ = [some (.ref d), some (.ref wq), some (.ref q3), some (.str nm), v4, none] ∧ ExtN H H' ∧ Tabs [(Pt, qEr)] H' ∧ H' lz = some (.lst ws2) ∧ OddL (OddN K ((nm, up) :: rest)) H' ws2) ⟨_, rfl, E20, T20, l30, ON⟩ ?_ ?_ ?_
    · rintro i σ H' _ ⟨v4, rfl, _, _, l, _⟩
      exact SqL.of l
    · rintro i x σ H5 hx ⟨v4, rfl, E5, T5, l5, O5⟩
      obtain ⟨tr, dq, hdq, okx⟩ := O5 x (List.mem_of_getElem? hx)
      obtain ⟨o1, o2, o3, o4, o5⟩ := okD_of okx
      refine if_said (j := 4) (i := 1) (C := CN) (lbl := "need") rfl T5 hdq o1 o2 o3 rfl o4 o5 (fun E1 H1 Q1 e1 hE => ⟨_, rfl, _, rfl, .inl ⟨rfl, .inr ⟨d, x, [], _, rfl, EX.ExtN.dK e1 (EX.ExtN.dK E5 hd), TP, h11, tr.ext e1, hE⟩⟩⟩) fun H6 e6 T6 => ?_
      refine if_said (j := 4) (i := 1) (C := CN) (lbl := "need") rfl T6 (DqS.ext e6 hdq) o1 o2 o3 rfl o4 o5 (fun E1 H1 Q1 e1 hE => ⟨_, rfl, _, rfl, .inl ⟨rfl, .inr ⟨d, x, [.non], _, rfl, EX.ExtN.dK e1 (EX.ExtN.dK (ExtN.trans E5 e6) hd), TP, h11, (tr.ext e6).ext e1, hE⟩⟩⟩) fun H7 e7 T7 => ?_
      have e57 := ExtN.trans e6 e7
      exact ⟨_, rfl, ExtN.trans E5 e57, T7, EX.ExtN.lst e57 l5, fun v hv => (O5 v hv).ext e57⟩
    rintro σ H7 ⟨v4, rfl, E7, T7, _, _⟩
    exact k _ E7 T7
end
end K69
set_option Elab.async false
set_option linter.all false
set_option maxRecDepth 100000
set_option maxHeartbeats 4000000
namespace K69
open PySem L2 EX PyProof.Rows M68 LamX
abbrev GlAt (K : PySem.W.Frag) (H : Hp) (par : Tr) (need : Nd) (pl : List (Str × Addr)) (gl : Nd) : Prop := Paired (fun (z : Str × Addr) (g : Str × Nat) => g.1 = z.1 ∧ ∃ bar, SqT K H z.2 [.int (g.2 : Nat), barV bar] ∧ Gr par need z.1 g.2 bar) pl gl
theorem gl_of {K : PySem.W.Frag} {H : Hp} {par : Tr} {need : Nd} : ∀ {pl : List (Str × Addr)}, (∀ z ∈ pl, ∃ n bar, SqT K H z.2 [.int (n : Nat), barV bar] ∧ Gr par need z.1 n bar) → ∃ gl, GlAt K H par need pl gl
  | [], _ => ⟨[], .nil⟩
  | z :: pl, h => by
    obtain ⟨gl, hg⟩ := gl_of fun y hy => h y (List.mem_cons_of_mem _ hy)
    obtain ⟨n, bar, h1, h2⟩ := h z (List.mem_cons_self ..)
    exact ⟨(z.1, n) :: gl, .cons ⟨rfl, bar, h1, h2⟩ hg⟩
theorem GlAt.keys {K : PySem.W.Frag} {H : Hp} {par : Tr} {need : Nd} : ∀ {pl : List (Str × Addr)} {gl : Nd}, GlAt K H par need pl gl → gl.map (·.1) = pl.map (·.1)
  | _, _, .nil => rfl
  | _, _, .cons h t => by
    rw [List.map_cons, List.map_cons, h.1, GlAt.keys t]
theorem GlAt.gr {K : PySem.W.Frag} {H : Hp} {par : Tr} {need : Nd} : ∀ {pl : List (Str × Addr)} {gl : Nd}, GlAt K H par need pl gl → ∀ g ∈ gl, ∃ bar, Gr par need g.1 g.2 bar
  | _, _, .nil, g, h => by cases h
  | _, _, .cons h t, g, hg => by
    rcases List.mem_cons.mp hg with e | e
    · rw [e]
      obtain ⟨e1, bar, _, G⟩ := h
      exact ⟨bar, by rw [e1]; exact G⟩
    · exact GlAt.gr t g e
theorem GlAt.get {K : PySem.W.Frag} {H : Hp} {par : Tr} {need : Nd} : ∀ {pl : List (Str × Addr)} {gl : Nd} {i : Nat} {x : Str} {t : Addr}, GlAt K H par need pl gl → pl[i]? = some (x, t) → ∃ n bar, gl[i]? = some (x, n) ∧ SqT K H t [.int (n : Nat), barV bar] ∧ Gr par need x n bar
  | _, _, 0, x, t, .cons (b := g) h _, e => by
    cases e
    obtain ⟨e1, bar, h1, h2⟩ := h
    obtain ⟨gx, gn⟩ := g
    cases e1
    exact ⟨gn, bar, rfl, h1, h2⟩
  | _, _, i + 1, x, t, .cons _ tt, e => by
    obtain ⟨n, bar, h1, h2⟩ := GlAt.get (i := i) tt (by simpa using e)
    exact ⟨n, bar, by simpa using h1, h2⟩
abbrev TupAt {β : Type} (f : β → V) (H : Hp) (ts : List Addr) (l : List (Str × β)) : Prop := Paired (fun (t : Addr) (g : Str × β) => H t = some (.tup [.str g.1, f g.2])) ts l
theorem TupAt.same {β : Type} {f : β → V} {H H' : Hp} (s : Same H H') : ∀ {ts : List Addr} {l : List (Str × β)}, TupAt f H ts l → TupAt f H' ts l
  | _, _, .nil => .nil
  | _, _, .cons h t => .cons (s _ _ h) (TupAt.same s t)
theorem TupAt.updl {β : Type} {f : β → V} {H : Hp} {D : Addr} {xs : List V} {o : HO} (hD : H D = some (.lst xs)) : ∀ {ts : List Addr} {l : List (Str × β)}, TupAt f H ts l → TupAt f (upd H D o) ts l
  | _, _, .nil => .nil
  | _, _, .cons h t => .cons (by rw [upd_ne (fun z => by rw [z, hD] at h; cases h)]; exact h) (TupAt.updl hD t)
theorem TupAt.kv {β : Type} {f : β → V} {K : PySem.W.Frag} {H : Hp} : ∀ {ts : List Addr} {l : List (Str × β)}, TupAt f H ts l → Paired (fun (p : Addr) (kv : Key × V) => SqT K H p [kV kv.1, kv.2]) ts (mapK f l)
  | _, _, .nil => .nil
  | _, _, .cons h t => .cons (SqT.of h) (TupAt.kv t)
theorem TupAt.snoc {β : Type} {f : β → V} {H : Hp} {t : Addr} {g : Str × β} (ht : H t = some (.tup [.str g.1, f g.2])) : ∀ {ts : List Addr} {l : List (Str × β)}, TupAt f H ts l → TupAt f H (ts ++ [t]) (l ++ [g])
  | _, _, .nil => .cons ht .nil
  | _, _, .cons h r => .cons h (TupAt.snoc ht r)
theorem sqt_lock {K : PySem.W.Frag} {H : Hp} {q t : Addr} {u : List (Key × V)} {o : HO} {xs : List V} (hq : H q = some (.dK u)) (h : SqT K H t xs) : SqT K (upd H q o) t xs := by
  have ne : ∀ {o}, H t = some o → o ≠ .dK u → t ≠ q := fun {o} e d w => by rw [w, hq] at e; exact d (Option.some.inj e).symm
  rcases h with (h | ⟨o, h⟩) | h
  · exact .inl (.inl (by rw [upd_ne (ne h (fun z => by cases z))]; exact h))
  · exact .inl (.inr ⟨o, by rw [upd_ne (ne h (fun z => by cases z))]; exact h⟩)
  · exact .inr h
theorem GlAt.to {K : PySem.W.Frag} {H H' : Hp} {par : Tr} {need : Nd} (f : ∀ {t : Addr} {xs : List V}, SqT K H t xs → SqT K H' t xs) : ∀ {pl : List (Str × Addr)} {gl : Nd}, GlAt K H par need pl gl → GlAt K H' par need pl gl
  | _, _, .nil => .nil
  | _, _, .cons h t => .cons ⟨h.1, h.2.elim fun b h => ⟨b, f h.1, h.2⟩⟩ (GlAt.to f t)
theorem TupAt.but {β : Type} {f : β → V} {H H' : Hp} {p : Addr} {ys : List V} (b : But p H H') (hp : H p = some (.lst ys)) : ∀ {ts : List Addr} {l : List (Str × β)}, TupAt f H ts l → TupAt f H' ts l
  | _, _, .nil => .nil
  | _, _, .cons h t => .cons (b _ _ (fun z => by rw [z, hp] at h; cases h) h) (TupAt.but b hp t)
theorem TupAt.unlock {β : Type} {f : β → V} {H : Hp} {q : Addr} {od : Obj} {u : HO} {o : HO} (hq : H q = some (.frz od u)) : ∀ {ts : List Addr} {l : List (Str × β)}, TupAt f H ts l → TupAt f (upd H q o) ts l
  | _, _, .nil => .nil
  | _, _, .cons h t => .cons (by rw [upd_ne (fun z => by rw [z, hq] at h; cases h)]; exact h) (TupAt.unlock hq t)
/-- a list changed keeps what serve is asked of -/
theorem ThA.but {K : PySem.W.Frag} {H H' : Hp} {p : Addr} {ys zs : List V} (b : But p H H') (h1 : H p = some (.lst ys)) (h2 : H' p = some (.lst zs)) {x : V} {t : Option (List (Str × V))} (h : ThA K H x t) : ThA K H' x t := by
  cases h with
  | non => exact .non
  | @lst a xs h =>
    by_cases e : a = p
    · subst e
      exact .lst (SqL.of h2)
    · rcases h with (h | ⟨o, h⟩) | h
      · exact .lst (.inl (.inl (b _ _ e h)))
      · exact .lst (.inl (.inr ⟨o, b _ _ e h⟩))
      · exact .lst (.inr h)
  | dic h nd vals => exact .dic (b _ _ (fun z => by rw [z, h1] at h; cases h) h) nd vals
/-- a thing the law tries -/
def Thg (K : PySem.W.Frag) (H : Hp) (v : V) : Prop := ∃ t, ThA K H v t ∧ ∀ kvs, t = some kvs → kvs.length ≤ 12 ∧ ∀ e ∈ kvs, e.1 ∈ nmX
theorem Thg.mono {K : PySem.W.Frag} {H H' : Hp} (s : Same H H') {v : V} (h : Thg K H v) : Thg K H' v := h.elim fun t h => ⟨t, h.1.mono s, h.2⟩
theorem Thg.but {K : PySem.W.Frag} {H H' : Hp} {p : Addr} {ys zs : List V} (b : But p H H') (h1 : H p = some (.lst ys)) (h2 : H' p = some (.lst zs)) {v : V} (h : Thg K H v) : Thg K H' v := h.elim fun t h => ⟨t, h.1.but b h1 h2, h.2⟩
theorem numK_of (l : Nd) : numK l = mapK id (ofNd l) := numE l
/-- a dict of allowances is such a thing -/
theorem thg_num {K : PySem.W.Frag} {H : Hp} {g : Addr} {gl : Nd} {par : Tr} (T : TreeP par) (h11 : ∀ z ∈ par, z.1 ∈ nm11) (pm : (gl.map (·.1)).Perm (par.map (·.1))) (h : H g = some (.dK (numK gl))) : Thg K H (.ref g) := by
  refine ⟨some (ofNd gl), .dic (by rw [← numE]; exact h) (by rw [ofNd_keys]; exact pm.nodup_iff.mpr T.nd) (fun e he => ?_), fun kvs e => ?_⟩
  · obtain ⟨x, v⟩ := e
    obtain ⟨n, _, rfl⟩ := ofNd_mem.mp he
    exact ⟨_, .int _⟩
  · cases e
    refine ⟨?_, fun e he => ?_⟩
    · have h1 := pm.length_eq
      rw [List.length_map, List.length_map] at h1
      have := T.len
      unfold ofNd
      rw [List.length_map]
      omega
    · have : e.1 ∈ (ofNd gl).map (·.1) := List.mem_map.mpr ⟨e, he, rfl⟩
      rw [ofNd_keys] at this
      obtain ⟨b, hb⟩ := mem_keys (pm.mem_iff.mp this)
      exact nm_X (h11 _ hb)

abbrev sLaw : Stmt := top 27
def sLawN : List Str := ["_law_script", "_law_turn", "_law_source_here", "_law_parents", "_law_needs_here", "_law_plan", "_law_given", "_law_drawn", "_law_thing", "_law_name", "_law_attempt"]
theorem scL : FnScope ["_law_script", "_law_turn", "_law_source_here", "_law_parents", "_law_needs_here", "_law_plan", "_law_given", "_law_drawn", "_law_thing", "_law_name", "_law_attempt"] ["_law_script"] (defScope sLaw) := ⟨rfl, rfl, rfl, by decide +kernel, rfl, by decide +kernel, by decide +kernel⟩
section
variable {P : Program} {w : World} {K : PySem.W.Frag} {mg : Str → Option Value} {base : Heap}
theorem run_law {CT CN Pt : Addr} {f a : Addr} {fd : FuncData} {s : Shared} {H : Hp} {ns : List Int} (F : Fun K "law" "law" sLaw f fd) (B : Bn mg)
    (GSo : DefAt P w K mg base 1 "_law_source" ["_law_script", "_law_turn"] (spSource K)) (GD : DefAt P w K mg base 1 "_law_draw" ["_law_source_here", "_law_amount"] spDraw) (GT : DefAt P w K mg base 2 "_law_tree" ["_law_source_here", "_law_most"] (spTree K))
    (GN : DefAt P w K mg base 2 "_law_needs" ["_law_source_here", "_law_parents", "_law_most"] (spNeeds K)) (GB : DefAt P w K mg base 2 "_law_bent" ["_law_source_here", "_law_parents", "_law_given"] (spBent K)) (GV : DefG P w K mg base 1 "_law_serve" ["_law_parents", "_law_needs_here", "_law_given"] (spServe K))
    (GE : DefG P w K mg base 7 "_law_errors_right" ["_law_parents"] (spErr K [(Pt, qEr)])) (GGA : DefX P w K mg base 4 "greatest_allowances" ["parents", "needs"] (spGA K CT CN)) (GSV : DefX P w K mg base 4 "serve" ["parents", "needs", "allowances"] (spSV K CT CN))
    (hb : ∀ (s : Shared) (u : Value), BindsTo s fd ⟨[u], []⟩ [("_law_script", u)]) (e0 : Env0 P w K mg base callerA [] s H) (hS : SqL K H a (ns.map V.int)) (hns : ns.length ≤ 63) (hT : Tabs [(Pt, qEr)] H) :
    codeAny (model P w) callerA (.call (.ref f) ⟨[.ref a], []⟩) (CR CX0 [] P w H s (fun v _ => v = .bl true) E0) s := by
  have hroom : Room 40 callerA := ⟨rfl, by decide, by decide⟩
  refine fn_at (us := [Value.ref a]) (vs := [V.ref a]) F scL hroom e0 (hb s (.ref a)) (.cons rfl .nil) rfl fun cdv hr => ?_
  have hr1 : Room 1 _ := hr.mono (by decide)
  have hr2 : Room 2 _ := hr.mono (by decide)
  have hr4 : Room 4 _ := hr.mono (by decide)
  have hr7 : Room 7 _ := hr.mono (by decide)
  have hgu : (callerA.deeper (envOfC "law" (defScope sLaw) s.heap.objs.size f cdv)).guards = some [] := rfl
  have hu := hu_of hr
  have hu70 : (callerA.deeper (envOfC "law" (defScope sLaw) s.heap.objs.size f cdv)).units + 70 < cLine := by
    have := hr.un
    omega
  refine ⟨_, PSs.nox (pss_cons (ps_for PassesOwn.never rfl (pi_range1 (by rfl) B.range (pa_cons (pe_callB (call_max2 rfl) (by rfl) B.max PyProof.Rows.boot_max (pa_cons pe_int (pa_cons (pe_callB (call_min2 rfl) (by rfl) B.min PyProof.Rows.boot_min (pa_cons (pe_callB call_len_seq (by rfl) B.len PySem.boot_len (pa_cons (pv 0) pa_nil)) (pa_cons pe_int pa_nil))) pa_nil))) pa_nil)) (pg_name (i := 1) scL.nd rfl (Or.inl rfl)) (pss_cons (ps_set (i := 2) scL.nd rfl (Or.inr rfl) (pe_callD GSo hr1 (pa_cons (pv 0) (pa_cons (pv 1) pa_nil))))
          (pss_cons (ps_set (i := 3) scL.nd rfl (Or.inr rfl) (pe_callD GT hr2 (pa_cons (pv 2) (pa_cons pe_int pa_nil))))
          (pss_cons (ps_set (i := 4) scL.nd rfl (Or.inl rfl) (pe_callD GN hr2 (pa_cons (pv 2) (pa_cons (pv 3) (pa_cons (pe_ix ix_list (pe_lst (pa_cons pe_int (pa_cons pe_int pa_nil))) (pe_callD GD hr1 (pa_cons (pv 2) (pa_cons pe_int pa_nil))) (fun _ _ => rfl)) pa_nil)))))
          (pss_cons (ps_set (i := 5) scL.nd rfl (Or.inr rfl) (pe_callX GGA hr4 (pa_cons (pv 3) (pa_cons (pv 4) pa_nil))))
          (pss_cons (ps_set (i := 6) scL.nd rfl (Or.inr rfl) (pe_callTy (call_dictP rfl) (by rfl) B.dict (by decide +kernel) (pa_cons (pe_lock (pe_lc (own := [("_law_name", 9)]) (g := gName 9) (tt := tYes) (te := tTup (tCons (tVar 9) (tCons (tOp (rIxT K) (tDGet (tVar 5) (tVar 9)) (tC (.int 0))) tNil))) rfl scL.nd (pi_keys (pv 5)) (blkOk_by (N := sLawN) (sc := defScope sLaw) (by decide +kernel)) (fun _ _ _ _ _ => pg_name (i := 9) scL.nd rfl (Or.inl rfl)) (fun _ _ _ _ _ => pts_nil) (fun _ _ _ _ _ => (pe_tup (pa_cons (pv 9) (pa_cons (pe_ix ix_tup (pe_dget hu (pv 5) (pv 9) (fun _ _ => rfl)) pe_int (fun _ _ => rfl)) pa_nil)))))) pa_nil)))
          (pss_cons (ps_set (i := 7) scL.nd rfl (Or.inl rfl) (pe_callTy (call_dictP rfl) (by rfl) B.dict (by decide +kernel) (pa_cons (pe_lock (pe_lc (own := [("_law_name", 9)]) (g := gName 9) (tt := tYes) (te := tTup (tCons (tVar 9) (tCons (tOp rAdd (tC (.int 1)) (tCall spDraw [] E0 (tCons (tVar 2) (tCons (tC (.int 4)) tNil)))) tNil))) rfl scL.nd (pi_keys (pv 3)) (blkOk_by (N := sLawN) (sc := defScope sLaw) (by decide +kernel)) (fun _ _ _ _ _ => pg_name (i := 9) scL.nd rfl (Or.inl rfl)) (fun _ _ _ _ _ => pts_nil) (fun _ _ _ _ _ => (pe_tup (pa_cons (pv 9) (pa_cons (pe_op op_add pe_int (pe_callD GD hr1 (pa_cons (pv 2) (pa_cons pe_int pa_nil)))) pa_nil)))))) pa_nil)))
          (pss_cons (ps_for PassesOwn.never rfl (pi_list (pe_op op_cat (pe_lst (pa_cons (pv 6) (pa_cons (pv 7) pa_nil))) (pe_lc (own := [("_law_attempt", 10)]) (g := gName 10) (tt := tYes) (te := tCall (spBent K) [] E0 (tCons (tVar 2) (tCons (tVar 3) (tCons (tVar 6) tNil)))) rfl scL.nd (pi_range1 (by rfl) B.range (pa_cons pe_int pa_nil)) (blkOk_by (N := sLawN) (sc := defScope sLaw) (by decide +kernel)) (fun _ _ _ _ _ => pg_name (i := 10) scL.nd rfl (Or.inl rfl)) (fun _ _ _ _ _ => pts_nil) (fun _ _ _ _ _ => (pe_callD GB hr2 (pa_cons (pv 2) (pa_cons (pv 3) (pa_cons (pv 6) pa_nil)))))))) (pg_name (i := 8) scL.nd rfl (Or.inl rfl)) (pss_one (ps_if (pt_cmpR op_ne (pe_callB (call_reprq hgu hu70) (by rfl) B.repr (by decide +kernel) (pa_cons (pe_callX GSV hr4 (pa_cons (pv 3) (pa_cons (pv 4) (pa_cons (pv 8) pa_nil)))) pa_nil)) (pe_callB (call_reprq hgu hu70) (by rfl) B.repr (by decide +kernel) (pa_cons (pe_callG GV hr1 hgu (pa_cons (pv 3) (pa_cons (pv 4) (pa_cons (pv 8) pa_nil)))) pa_nil)) (nomark _)) (pss_one (ps_ret pe_bl)) pss_nil)))
          (pss_one (ps_if (pt_not (pt_val (pe_callG GE hr7 hgu (pa_cons (pv 3) pa_nil)))) (pss_one (ps_ret pe_bl)) pss_nil))))))))))
          (pss_one (ps_ret pe_bl))), ?_⟩
  refine ⟨_, rfl, a, _, rfl, .inl hS, _, _, rfl, _, _, rfl, _, rfl, ?_, ?_, ?_⟩
  · rw [List.length_map]; split <;> split <;> omega
  · rw [List.length_map]; split <;> split <;> omega
  refine for_range (fun i σ H' => ∃ v1 v2 v3 v4 v5 v6 v7 v8 v9 v10, σ = [some (V.ref a), v1, v2, v3, v4, v5, v6, v7, v8, v9, v10] ∧ ExtN H H' ∧ Tabs [(Pt, qEr)] H') ⟨_, _, _, _, _, _, _, _, _, _, rfl, ExtN.refl H, hT⟩ ?_ ?_
  · rintro i σ H' hi ⟨v1, v2, v3, v4, v5, v6, v7, v8, v9, v10, rfl, E, T⟩
    have hi63 : i ≤ 1000 := by
      rw [List.length_map] at hi
      split at hi <;> split at hi <;> omega
    refine ⟨_, rfl, _, rfl, a, ns, i, by rw [Int.zero_add]; rfl, EX.ExtN.seq E hS, hi63, fun p x0 y0 hp hsrc => ?_⟩
    have npH : ∀ b o, H b = some o → (∀ ps, o ≠ .tbl ps) → b ≠ p := fun b o h n z => by
      subst z
      have := E _ _ h n
      rw [hp] at this
      cases this
    have E1 : ExtN H (upd H' p (.lst [.int x0, .int y0])) := ExtN.trans E (ExtN.of (Same.upd hp))
    have T1 : Tabs [(Pt, qEr)] (upd H' p (.lst [.int x0, .int y0])) := T.ext (Same.upd hp)
    have lp1 : upd H' p (HO.lst [.int x0, .int y0]) p = some (.lst [.int x0, .int y0]) := upd_same
    generalize upd H' p (HO.lst [.int x0, .int y0]) = H1 at E1 T1 lp1 ⊢
    clear E T hp
    -- the tree
    refine ⟨_, rfl, p, x0, y0, 11, rfl, lp1, hsrc, by decide, by decide, fun d par x2 y2 H2 b2 lp2 src2 _ ld2 TP h11 hlen => ?_⟩
    have ndp : d ≠ p := fun z => by rw [z, lp2] at ld2; cases ld2
    -- the needs
    refine ⟨_, rfl, _, rfl, by show 2 ≤ sizeLine; decide, fun l2 hl2 => ?_⟩
    have nl2 : l2 ≠ p := fun z => by rw [z, lp2] at hl2; cases hl2
    have s3 := Same.upd (o := HO.lst [.int 4, .int 99]) hl2
    have ll3 : upd H2 l2 (HO.lst [.int 4, .int 99]) l2 = some (.lst [.int 4, .int 99]) := upd_same
    have b3 := b2.trans (Same.but (p := p) s3)
    have lp3 := s3 _ _ lp2
    have ld3 := s3 _ _ ld2
    generalize upd H2 l2 (HO.lst [.int 4, .int 99]) = H3 at s3 ll3 b3 lp3 ld3 ⊢
    clear s3 b2 lp2 ld2
    refine ⟨_, rfl, p, x2, y2, 2, rfl, lp3, src2, by decide, by decide, fun x4 y4 dd src4 d0 d1 => ?_⟩
    have b4 : But p H1 (upd H3 p (.lst [.int x4, .int y4])) := b3.own
    have lp4 : upd H3 p (HO.lst [.int x4, .int y4]) p = some (.lst [.int x4, .int y4]) := upd_same
    have ll4 : upd H3 p (HO.lst [.int x4, .int y4]) l2 = some (.lst [.int 4, .int 99]) := by rw [upd_ne nl2]; exact ll3
    have ld4 : upd H3 p (HO.lst [.int x4, .int y4]) d = some (.dK (parK par)) := by rw [upd_ne ndp]; exact ld3
    generalize upd H3 p (HO.lst [.int x4, .int y4]) = H4 at b4 lp4 ll4 ld4 ⊢
    clear b3 lp3 ll3 ld3
    obtain ⟨mx, hmx, hat⟩ : ∃ mx : Nat, (0 < mx ∧ mx ≤ 99) ∧ atI [V.int 4, V.int 99] dd = some (.int (mx : Int)) := by
      rcases (by omega : dd = 0 ∨ dd = 1) with rfl | rfl
      · exact ⟨4, by decide, rfl⟩
      · exact ⟨99, by decide, rfl⟩
    refine ⟨l2, _, _, _, rfl, rfl, SqL.of ll4, hat, ?_⟩
    refine ⟨p, d, x4, y4, mx, par, rfl, lp4, src4, hmx.1, hmx.2, ld4, TP, fun e need x6 y6 H6 b46 lp6 src6 _ le6 N => ?_⟩
    have b6 := b4.trans b46
    have ld6 := b46 _ _ ndp ld4
    have nep : e ≠ p := fun z => by rw [z, lp6] at le6; cases le6
    clear b4 b46 lp4 ll4 ld4 hat nl2 hl2
    -- the plan
    refine ⟨_, rfl, _, rfl, .inr ⟨d, e, par, need, rfl, ld6, le6, TP, h11, N, fun q pl H7 s7 _ PL => ?_⟩⟩
    have b7 := b6.trans (Same.but (p := p) s7)
    have lp7 := s7 _ _ lp6
    have ld7 := s7 _ _ ld6
    have le7 := s7 _ _ le6
    clear b6 lp6 ld6 le6 s7
    have pnd : (pl.map (·.1)).Nodup := PL.keys.nodup_iff.mpr TP.nd
    have plen : pl.length ≤ 11 := by
      have := PL.keys.length_eq
      rw [List.length_map, List.length_map] at this
      omega
    obtain ⟨gl, GL⟩ := gl_of PL.each
    have gk := GL.keys
    have gnd : (gl.map (·.1)).Nodup := by rw [gk]; exact pnd
    have gpm : (gl.map (·.1)).Perm (par.map (·.1)) := by rw [gk]; exact PL.keys
    have rng : ∀ z ∈ gl, 1 ≤ z.2 ∧ z.2 ≤ 99 := fun z hz => (GL.gr z hz).elim fun _ h => h.rng N
    -- given
    refine ⟨q, .dK (mapK V.ref pl), PL.at_, trivial, fun od => ?_⟩
    have bk : ∀ X2, Same (upd H7 q (.frz od (.dK (mapK V.ref pl)))) X2 → Same H7 (upd X2 q (.dK (mapK V.ref pl))) := fun X2 z => lock_same PL.at_ z
    have fz : upd H7 q (.frz od (.dK (mapK V.ref pl))) q = some (.frz od (.dK (mapK V.ref pl))) := upd_same
    have GL1 : GlAt K (upd H7 q (.frz od (.dK (mapK V.ref pl)))) par need pl gl := GL.to (sqt_lock PL.at_)
    generalize upd H7 q (.frz od (.dK (mapK V.ref pl))) = L at bk fz GL1 ⊢
    refine ⟨_, rfl, q, od, rfl, .inl ⟨mapK V.ref pl, fz, fun D hD => ?_⟩⟩
    refine lc_it (walk_keys (d := q) (o := od) (kvs := mapK V.ref pl)) (fun i X2 => Same L X2 ∧ ∃ ts : List Addr, X2 D = some (.lst (ts.map V.ref)) ∧ ts.length = i ∧ TupAt (fun n : Nat => V.int (n : Int)) X2 ts (gl.take i)) ⟨Same.upd hD, [], upd_same, rfl, .nil⟩ (fun i X2 _ z => z.1 _ _ fz) ?_ ?_
    · rintro i v H0 X2 hi ⟨SX, ts, lD, hts, tp⟩ ⟨rfl, kk, vv, hgg, rfl⟩
      obtain ⟨x, t, rfl, rfl, hn⟩ := mapK_get hgg
      obtain ⟨n, bar, hg1, hsq, _⟩ := GL1.get hn
      refine ⟨rfl, ?_⟩
      refine ⟨_, rfl, _, rfl, _, rfl, q, _, rfl, dget_m (f := V.ref) (.inr ⟨_, SX _ _ fz⟩) pnd (List.mem_of_getElem? hn), t, _, _, _, rfl, rfl, sqt_same SX hsq, atI_nat (j := 0) rfl, by show 2 ≤ sizeLine; decide, fun u hu' => ?_⟩
      have s1 : Same X2 (upd X2 u (.tup [kV (Sum.inr x), .int (n : Int)])) := Same.upd hu'
      have lu : upd X2 u (HO.tup [kV (Sum.inr x), .int (n : Int)]) u = some (.tup [.str x, .int (n : Int)]) := upd_same
      generalize upd X2 u (HO.tup [kV (Sum.inr x), .int (n : Int)]) = X3 at s1 lu ⊢
      have hi' : i < pl.length := by simpa using hi
      refine ⟨_, s1 _ _ lD, by rw [List.length_map, hts, sizeLine_eq]; omega, EX.Same.updN (Same.trans SX s1) hD, ts ++ [u], by rw [upd_same, List.map_append]; rfl, by rw [List.length_append, hts]; rfl, ?_⟩
      rw [List.take_add_one, hg1]
      exact TupAt.updl (s1 _ _ lD) (TupAt.snoc (g := (x, n)) lu (tp.same s1))
    rintro X2 ⟨SX, ts, lD, hts, tp⟩
    refine ⟨SX _ _ fz, ?_⟩
    have nD : D ≠ q := fun z => by rw [z, fz] at hD; cases hD
    have glen : gl.length = pl.length := by
      have := congrArg List.length gk
      rwa [List.length_map, List.length_map] at this
    rw [show (mapK V.ref pl).length = pl.length from List.length_map _, ← glen, List.take_length] at tp
    have SR := bk _ SX
    have lDR : upd X2 q (.dK (mapK V.ref pl)) D = some (.lst (ts.map V.ref)) := by rw [upd_ne nD]; exact lD
    have tpR : TupAt (fun n : Nat => V.int (n : Int)) (upd X2 q (.dK (mapK V.ref pl))) ts gl := tp.unlock (SX _ _ fz)
    generalize upd X2 q (.dK (mapK V.ref pl)) = R at SR lDR tpR ⊢
    clear tp lD SX bk fz GL1 hD nD
    refine ⟨D, ts, numK gl, rfl, SqL.of lDR, tpR.kv, fun g hg => ?_⟩
    rw [mergeK_nil (f := fun n : Nat => V.int (n : Int)) gnd]
    have sg : Same R (upd R g (.dK (numK gl))) := Same.upd hg
    have lg : upd R g (HO.dK (numK gl)) g = some (.dK (numK gl)) := upd_same
    generalize upd R g (HO.dK (numK gl)) = H8 at sg lg ⊢
    have s8 := Same.trans SR sg
    have b8 := b7.trans (Same.but (p := p) s8)
    have lp8 := s8 _ _ lp7
    have ld8 := s8 _ _ ld7
    have le8 := s8 _ _ le7
    have ngp : g ≠ p := fun z => by rw [z, lp8] at lg; cases lg
    clear sg SR lDR tpR hg PL GL b7 lp7 ld7 le7 s8
    -- drawn
    refine ⟨d, .dK (parK par), ld8, trivial, fun od2 => ?_⟩
    have bk2 : ∀ X2, But p (upd H8 d (.frz od2 (.dK (parK par)))) X2 → But p H8 (upd X2 d (.dK (parK par))) := fun X2 z => lock_but ld8 z
    have fz2 : upd H8 d (.frz od2 (.dK (parK par))) d = some (.frz od2 (.dK (parK par))) := upd_same
    have lpL : upd H8 d (HO.frz od2 (.dK (parK par))) p = some (.lst [.int x6, .int y6]) := by rw [upd_ne (Ne.symm ndp)]; exact lp8
    generalize upd H8 d (HO.frz od2 (.dK (parK par))) = L2 at bk2 fz2 lpL ⊢
    refine ⟨_, rfl, d, od2, rfl, .inl ⟨parK par, fz2, fun D2 hD2 => ?_⟩⟩
    have nD2p : D2 ≠ p := fun z => by rw [z, lpL] at hD2; cases hD2
    have nD2d : D2 ≠ d := fun z => by rw [z, fz2] at hD2; cases hD2
    refine lc_it (walk_keys (d := d) (o := od2) (kvs := parK par)) (fun i X2 => But p L2 X2 ∧ (∃ x y, X2 p = some (.lst [.int x, .int y]) ∧ SrcOk x y) ∧ ∃ (ts : List Addr) (dl : Nd), X2 D2 = some (.lst (ts.map V.ref)) ∧ ts.length = i ∧ TupAt (fun n : Nat => V.int (n : Int)) X2 ts dl ∧ dl.map (·.1) = (par.take i).map (·.1))
      ⟨But.put (fun _ _ _ e => e) hD2, ⟨x6, y6, by rw [upd_ne (Ne.symm nD2p)]; exact lpL, src6⟩, [], [], upd_same, rfl, .nil, rfl⟩ (fun i X2 _ z => z.1 _ _ ndp fz2) ?_ ?_
    · rintro i v H0 X2 hi ⟨BX, ⟨x, y, lpx, srcx⟩, ts, dl, lD, hts, tp, dk⟩ ⟨rfl, kk, vv, hgg, rfl⟩
      obtain ⟨nm, up, rfl, rfl, hn⟩ := mapK_get hgg
      have hi' : i < par.length := by simpa using hi
      refine ⟨rfl, ?_⟩
      refine ⟨_, rfl, _, rfl, p, x, y, 4, rfl, lpx, srcx, by decide, by decide, fun x' y' dr src' r0 r1 => ?_⟩
      obtain ⟨dn, rfl⟩ := Int.eq_ofNat_of_zero_le r0
      have B2 : But p X2 (upd X2 p (.lst [.int x', .int y'])) := fun b o hb e => by rw [upd_ne hb]; exact e
      have lpy : upd X2 p (HO.lst [.int x', .int y']) p = some (.lst [.int x', .int y']) := upd_same
      have lDy := B2 _ _ nD2p lD
      have tpy := tp.but B2 lpx
      have BY := BX.trans B2
      generalize upd X2 p (HO.lst [.int x', .int y']) = Y at lpy lDy tpy BY ⊢
      refine ⟨1, _, rfl, rfl, by show 2 ≤ sizeLine; decide, fun u hu' => ?_⟩
      have ev : (1 : Int) + ((dn : Nat) : Int) = ((1 + dn : Nat) : Int) := by omega
      rw [ev]
      have s1 : Same Y (upd Y u (.tup [kV (Sum.inr nm), .int ((1 + dn : Nat) : Int)])) := Same.upd hu'
      have lu : upd Y u (HO.tup [kV (Sum.inr nm), .int ((1 + dn : Nat) : Int)]) u = some (.tup [.str nm, .int ((1 + dn : Nat) : Int)]) := upd_same
      generalize upd Y u (HO.tup [kV (Sum.inr nm), .int ((1 + dn : Nat) : Int)]) = X3 at s1 lu ⊢
      have pl11 := TP.len
      refine ⟨_, s1 _ _ lDy, by rw [List.length_map, hts, sizeLine_eq]; omega, ?_, ⟨x', y', by rw [upd_ne (Ne.symm nD2p)]; exact s1 _ _ lpy, src'⟩, ts ++ [u], dl ++ [(nm, 1 + dn)], by rw [upd_same, List.map_append]; rfl, by rw [List.length_append, hts]; rfl, ?_, ?_⟩
      · exact But.put (BY.trans (Same.but (p := p) s1)) hD2
      · exact TupAt.updl (s1 _ _ lDy) (TupAt.snoc (g := (nm, 1 + dn)) lu (tpy.same s1))
      · rw [List.take_add_one, hn, List.map_append, List.map_append, dk]
        rfl
    rintro X2 ⟨BX, ⟨x9, y9, lpx, src9⟩, ts2, dl, lD, hts2, tp, dk⟩
    have fzX := BX _ _ ndp fz2
    refine ⟨fzX, ?_⟩
    rw [show (parK par).length = par.length from List.length_map _, List.take_length] at dk
    have BR := bk2 _ BX
    have lDR : upd X2 d (.dK (parK par)) D2 = some (.lst (ts2.map V.ref)) := by rw [upd_ne nD2d]; exact lD
    have tpR : TupAt (fun n : Nat => V.int (n : Int)) (upd X2 d (.dK (parK par))) ts2 dl := tp.unlock fzX
    have lpR : upd X2 d (HO.dK (parK par)) p = some (.lst [.int x9, .int y9]) := by rw [upd_ne (Ne.symm ndp)]; exact lpx
    generalize upd X2 d (.dK (parK par)) = R2 at BR lDR tpR lpR ⊢
    clear tp lD BX bk2 fz2 fzX hD2 lpL lpx
    have dpm : (dl.map (·.1)).Perm (par.map (·.1)) := by rw [dk]
    have dnd : (dl.map (·.1)).Nodup := dpm.nodup_iff.mpr TP.nd
    refine ⟨D2, ts2, numK dl, rfl, SqL.of lDR, tpR.kv, fun g2 hg2 => ?_⟩
    rw [mergeK_nil (f := fun n : Nat => V.int (n : Int)) dnd]
    have sg2 : Same R2 (upd R2 g2 (.dK (numK dl))) := Same.upd hg2
    have lg2 : upd R2 g2 (HO.dK (numK dl)) g2 = some (.dK (numK dl)) := upd_same
    generalize upd R2 g2 (HO.dK (numK dl)) = H9 at sg2 lg2 ⊢
    have B89 := BR.trans (Same.but (p := p) sg2)
    have b9 := b8.trans B89
    have lp9 := sg2 _ _ lpR
    have ld9 := B89 _ _ ndp ld8
    have le9 := B89 _ _ nep le8
    have lg9 := B89 _ _ ngp lg
    have ng2p : g2 ≠ p := fun z => by rw [z, lp9] at lg2; cases lg2
    clear B89 BR sg2 lpR lDR tpR hg2 b8 lp8 ld8 le8 lg
    -- the things
    refine ⟨_, rfl, _, rfl, by show 2 ≤ sizeLine; decide, fun la hla => ?_⟩
    have nlap : la ≠ p := fun z => by rw [z, lp9] at hla; cases hla
    have sa : Same H9 (upd H9 la (.lst [.ref g, .ref g2])) := Same.upd hla
    have lla : upd H9 la (HO.lst [.ref g, .ref g2]) la = some (.lst [.ref g, .ref g2]) := upd_same
    have b10 := b9.trans (Same.but (p := p) sa)
    have lp10 := sa _ _ lp9
    have ld10 := sa _ _ ld9
    have le10 := sa _ _ le9
    have lg10 := sa _ _ lg9
    have lgg10 := sa _ _ lg2
    generalize upd H9 la (HO.lst [.ref g, .ref g2]) = H10 at sa lla b10 lp10 ld10 le10 lg10 lgg10 ⊢
    clear sa b9 lp9 ld9 le9 lg9 lg2 hla
    refine ⟨10, rfl, by decide, by decide, fun D3 hD3 => ?_⟩
    have nD3p : D3 ≠ p := fun z => by rw [z, lp10] at hD3; cases hD3
    refine lc_range (lo := 0) (n := 10) (fun i X2 => But p H10 X2 ∧ (∃ x y, X2 p = some (.lst [.int x, .int y]) ∧ SrcOk x y) ∧ ∃ vs : List V, X2 D3 = some (.lst vs) ∧ vs.length = i ∧ ∀ v ∈ vs, Thg K X2 v)
      ⟨But.put (fun _ _ _ e => e) hD3, ⟨x9, y9, by rw [upd_ne (Ne.symm nD3p)]; exact lp10, src9⟩, [], upd_same, rfl, fun v hv => by cases hv⟩ ?_ ?_
    · rintro i X2 hi ⟨BX, ⟨x, y, lpx, srcx⟩, vs, lD, hvs, tv⟩
      refine ⟨rfl, ?_⟩
      refine ⟨_, rfl, _, rfl, _, rfl, p, d, g, x, y, par, gl, rfl, lpx, srcx, BX _ _ ndp ld10, TP, h11, BX _ _ ngp lg10, gpm, rng, fun v t x' y' X3 B3 lp3 src3 th hk => ?_⟩
      have lD3 := B3 _ _ nD3p lD
      have B4 : But D3 X3 (upd X3 D3 (.lst (vs ++ [v]))) := fun b o hb e => by rw [upd_ne hb]; exact e
      refine ⟨vs, lD3, by rw [hvs, sizeLine_eq]; omega, But.put (BX.trans B3) hD3, ⟨x', y', by rw [upd_ne (Ne.symm nD3p)]; exact lp3, src3⟩, vs ++ [v], upd_same, by rw [List.length_append, hvs]; rfl, fun u hu => ?_⟩
      rcases List.mem_append.mp hu with hu | hu
      · exact ((tv u hu).but B3 lpx lp3).but B4 lD3 upd_same
      · rw [List.mem_singleton.mp hu]
        exact Thg.but B4 lD3 upd_same ⟨t, th, hk⟩
    rintro X2 ⟨BX, ⟨xe, ye, lpx, srce⟩, vs, lD, hvs, tv⟩
    have llx := BX _ _ nlap lla
    refine ⟨la, D3, _, _, rfl, rfl, llx, lD, by rw [hvs, sizeLine_eq]; show 2 + 10 ≤ 16777216; decide, fun lt hlt => ?_⟩
    generalize hws : [V.ref g, V.ref g2] ++ vs = ws
    have st : Same X2 (upd X2 lt (.lst ws)) := Same.upd hlt
    have llt : upd X2 lt (HO.lst ws) lt = some (.lst ws) := upd_same
    have b11 := (b10.trans BX).trans (Same.but (p := p) st)
    have ld11 := st _ _ (BX _ _ ndp ld10)
    have le11 := st _ _ (BX _ _ nep le10)
    have TH : ∀ v ∈ ws, Thg K (upd X2 lt (.lst ws)) v := fun v hv => by
      refine Thg.mono st ?_
      rw [← hws] at hv
      rcases List.mem_append.mp hv with hv | hv
      · rcases List.mem_cons.mp hv with rfl | hv
        · exact thg_num TP h11 gpm (BX _ _ ngp lg10)
        · rw [List.mem_singleton.mp hv]
          exact thg_num TP h11 dpm (BX _ _ ng2p lgg10)
      · exact tv v hv
    generalize upd X2 lt (HO.lst ws) = H11 at st llt b11 ld11 le11 TH ⊢
    clear st BX lpx llx lD tv b10 lp10 ld10 le10 lg10 lgg10 hlt hD3 lla
    refine ⟨lt, rfl, ⟨_, SqL.of llt⟩, ?_⟩
    refine for_list (K := K) (a := lt) (xs := ws) (fun j σ H' => ∃ v8, σ = [some (V.ref a), some (.int (0 + (i : Int))), some (.ref p), some (.ref d), some (.ref e), some (.ref q), some (.ref g), some (.ref g2), v8, v9, v10] ∧ Same H11 H') ⟨_, rfl, fun _ _ e => e⟩ ?_ ?_ ?_
    · rintro j σ H' _ ⟨v8, rfl, S⟩
      exact SqL.of (S _ _ llt)
    · rintro j x σ H12 hx ⟨v8, rfl, S⟩
      obtain ⟨t, th, hk⟩ := (TH x (List.mem_of_getElem? hx)).mono S
      refine ⟨_, rfl, _, rfl, _, rfl, .inr ⟨d, e, x, par, need, t, rfl, S _ _ ld11, S _ _ le11, TP, h11, N, th, fun bb H13 hb s13 => ?_⟩⟩
      have S13 := Same.trans S s13
      refine ⟨_, _, rfl, .bl bb, by cases bb <;> rfl, by show 0 ≤ 60; decide, by cases bb <;> (rw [sizeLine_eq]; decide), ?_⟩
      refine ⟨_, rfl, _, rfl, _, rfl, d, e, x, par, need, t, rfl, S13 _ _ ld11, S13 _ _ le11, TP, h11, N, th.mono s13, hk, fun b2 H14 hb2 s14 => ?_⟩
      have eb : b2 = bb := Bool.eq_iff_iff.mpr (hb2.trans hb.symm)
      subst eb
      refine ⟨_, _, rfl, .bl b2, by cases b2 <;> rfl, by show 0 ≤ 60; decide, by cases b2 <;> (rw [sizeLine_eq]; decide), ?_⟩
      refine ⟨rfl, ?_⟩
      rw [decide_eq_true rfl]
      exact ⟨_, rfl, iteF ⟨_, rfl, Same.trans S13 s14⟩⟩
    rintro σ H12 ⟨v8, rfl, S⟩
    have b12 := b11.trans (Same.but (p := p) S)
    have E12 : ExtN H H12 := fun b o h n => b12 b o (npH b o h n) (E1 b o h n)
    have T12 : Tabs [(Pt, qEr)] H12 := EX.Tabs.but (p := p) T1 (fun b o hb e => b12 b o hb e) lp1 (fun ps z => by cases z) (fun c q => codeO_lst _)
    refine ⟨_, rfl, d, par, rfl, S _ _ ld11, TP, h11, T12, fun H13 e13 T13 => ⟨_, rfl, iteF ?_⟩⟩
    exact ⟨_, _, _, _, _, _, _, _, _, _, rfl, ExtN.trans E12 e13, T13⟩
  · rintro σ H' ⟨v1, v2, v3, v4, v5, v6, v7, v8, v9, v10, rfl, _⟩
    rfl
end
end K69
set_option Elab.async false
set_option linter.all false
set_option maxRecDepth 100000
set_option maxHeartbeats 4000000
/-! the law's end with tables of code objects, the law's own call met at callerA -/
namespace EX
open PySem L2 PySem.Spec PyProof.Rows LamX
/-- the tables as they stand at the head: empty, no part of what is written, each with its code object -/
structure TabsAt (K : PySem.W.Frag) (h : Heap) (cs : List (Addr × Addr)) : Prop where
  emp : ∀ p ∈ cs, h.get? p.2 = some { cls := .none, data := .fields #[] }
  out : ∀ p ∈ cs, K.lookup p.2 = none
  cod : ∀ p ∈ cs, PySem.W.CodeHd h p.1 p.2
/-- a table told by its def's name -/
structure TabOf (q : Program) (K : PySem.W.Frag) (x : Str) (c P : Addr) : Prop where
  has : ∃ d, (recsOf q).find? (fun e => e.name == x) = some d
  tab : PySem.W.tabIn K x = some (c, P)
  out : K.lookup P = none
theorem tab_by {K : PySem.W.Frag} {x : Str} {f c P : Addr} {oc oc2 : Value} {od od2 : Option Addr} {fd : FuncData} {vs : Array Value} {os1 os2 : Array (Option Value)} (h1 : PySem.W.nsIn K mainGlobals x = some (some (.ref f))) (h2 : K.lookup f = some ⟨oc, od, .func fd, os1⟩) (h3 : fd.code = .ref c)
    (h4 : K.lookup c = some ⟨oc2, od2, .fields vs, os2⟩) (h5 : (vs[11]? : Option Value) = some (.ref P)) : PySem.W.tabIn K x = some (c, P) := by
  unfold PySem.W.tabIn
  rw [h1]
  show (match K.lookup f with | some ⟨_, _, .func fd, _⟩ => _ | _ => _) = _
  rw [h2]
  show (match fd.code with | .ref c => _ | _ => _) = _
  rw [h3]
  show (match K.lookup c with | some ⟨_, _, .fields vs, _⟩ => _ | _ => _) = _
  rw [h4]
  show (match (vs[11]? : Option Value) with | some (.ref P) => some (c, P) | _ => none) = _
  rw [h5]
theorem walkT {l : PySem.W.OpenLaw} {n : Nat} {q : Program} {loose : List Str} {XP : (Str → Option Value) → Heap → Prop} {YP : World → Heap → Prop} {d : DefRec} {K : Params → PySem.W.Frag}
    (hn : l.most = some n) (hn2 : n ≤ sizeLine) (hdf : d.params.defaults = []) (hY : ∀ (w : World) (h : Heap), YP w h → (K w.params).In h)
    (F : ∀ (w : World) (mg : Str → Option Value) (fa : Addr) (h : Heap), YP w h → (K w.params).In h → h.Ns mainGlobals mg → mg d.name = some (.ref fa) → ∃ cs : List (Addr × Addr), (∀ p ∈ cs, ∃ x, TabOf q (K w.params) x p.1 p.2) ∧
      ∀ base : Heap, (K w.params).In base → base.Ns mainGlobals mg → (∀ p ∈ cs, TabB base mg p.1 p.2) → ∀ (s : Shared) (H : Hp) (a : Addr) (ns : List Int), ns.length ≤ n → (∀ p ∈ cs, H p.2 = some (.tbl #[])) → SqL (K w.params) H a (ns.map V.int) →
        Env0 l.prog w (K w.params) mg base callerA [] s H → codeAny (model l.prog w) callerA (.call (.ref fa) ⟨[.ref a], []⟩) (CR CX0 [] l.prog w H s (fun v _ => v = .bl true) E0) s) :
    PySem.W.WalkO q loose XP YP l.row.toRowW d [] (fun f vs => PySem.call f vs) := by
  refine Att.attach_callB hn hdf ?_
  intro w s₀ s₁ mg mb fa o pm cd doc a vs ns G Y ho hd hcd hmg hobj hints hlen hbits hg
  have kin := hY w _ Y
  obtain ⟨cs, TO, run⟩ := F w mg fa _ Y kin G.T.g hmg
  have TA : TabsAt (K w.params) s₁.heap cs := by
    refine ⟨fun p hp => ?_, fun p hp => ?_, fun p hp => ?_⟩ <;> obtain ⟨x, ⟨d2, hd2⟩, ht, ho2⟩ := TO p hp
    · exact (PySem.W.tab_of G.T kin hd2 ht).2
    · exact ho2
    · exact (PySem.W.tab_of G.T kin hd2 ht).1
  have rv := vals_ints hints
  have lv := hints.length
  have tabOf : ∀ b, b ∈ cs.map (·.2) → ∃ p ∈ cs, p.2 = b := fun b hb => List.mem_map.mp hb
  have emp : ∀ b, b ∈ cs.map (·.2) → s₁.heap.get? b = some { cls := .none, data := .fields #[] } := fun b hb => by
    obtain ⟨p, hp, rfl⟩ := tabOf b hb
    exact TA.emp p hp
  have aOut : a ∉ cs.map (·.2) := fun z => by
    have e := emp a z
    rw [hobj] at e
    have d2 := congrArg Obj.data (Option.some.inj e)
    cases d2
  have key : ∀ H : Hp, (∀ b, b ∈ cs.map (·.2) → H b = some (.tbl #[])) → (∀ b, b ∈ cs.map (·.2) ∨ H b = none ∨ ∃ ob xs, H b = some (.frz ob (.lst xs))) → SqL (K w.params) H a (ns.map V.int) → HOk l.prog w H s₁.heap → (∀ b, H b ≠ none → b = a ∨ b ∈ cs.map (·.2)) → (H a ≠ none → (K w.params).lookup a = none) →
      codeAny (model l.prog w) callerA (.call (.ref fa) ⟨[.ref a], []⟩) (fun r s' => r = .ok (.ret (.bool true)) ∧ OldK s₁.heap s'.heap ∧ s'.os = s₁.os ∧ AllBare s'.gens) s₁ := by
    intro H tab only sq hok who notK
    -- what is no list and no table is not tracked
    have plain : ∀ {b : Addr} {o : Obj}, s₁.heap.get? b = some o → (∀ xs m, o.data ≠ .seq xs m) → o.data ≠ .fields #[] → H b = none := by
      intro b o e1 e2 e3
      cases h : H b with
      | none => rfl
      | some u =>
        rcases who b (by rw [h]; exact fun z => nomatch z) with e4 | e4
        · rw [e4, hobj] at e1
          cases e1
          exact absurd rfl (e2 _ _)
        · rw [emp b e4] at e1
          cases e1
          exact absurd rfl e3
    have dicts : ∀ {b : Addr} {o : Obj} {es : Array DictEntry} {ep : Nat}, s₁.heap.get? b = some o → o.data = .dict es ep → H b = none := by
      intro b o es ep e1 e2
      refine plain e1 (fun xs m z => ?_) fun z => ?_ <;> rw [e2] at z <;> cases z
    have nsB : ∀ {b : Addr} {m : Str → Option Value}, s₁.heap.Ns b m → (hidT s₁.heap H).Ns b m := by
      rintro b m ⟨o, es, ep, e1, e2, r⟩
      exact ⟨o, es, ep, hidT_get e1 (dicts e1 e2), e2, r⟩
    have kinB : (K w.params).In (hidT s₁.heap H) := by
      intro b o e
      refine hidT_get (kin b o e) ?_
      cases h : H b with
      | none => rfl
      | some u =>
        rcases who b (by rw [h]; exact fun z => nomatch z) with e3 | e3
        · rw [e3, notK (by rw [← e3, h]; exact fun z => nomatch z)] at e
          cases e
        · obtain ⟨p, hp, rfl⟩ := tabOf b e3
          rw [TA.out p hp] at e
          cases e
    have TB : ∀ p ∈ cs, TabB (hidT s₁.heap H) mg p.1 p.2 := by
      intro p hp
      have ep := TA.emp p hp
      obtain ⟨o, us, file, tf, flags, tg, inF, text, tt, e1, r1, r2, r3, r4, r5, r6, r7, r8, hne⟩ := TA.cod p hp
      obtain ⟨bm, ob, b1, b2, b3, b4, b5, b6⟩ := G.T.bmain
      have bmG : bm ≠ mainGlobals := by
        intro z
        obtain ⟨o2, es, ep2, e2, hd2, _⟩ := G.T.g
        rw [z, e2] at b3
        cases b3
        rw [hd2] at b6
        cases b6
      have bmP : bm ≠ p.2 := by
        intro z
        rw [z, ep] at b3
        cases b3
        cases b6
      refine ⟨⟨o, us, file, tf, flags, tg, inF, text, tt, hidT_get e1 (plain e1 (fun xs m z => ?_) fun z => ?_), r1, r2, r3, r4, r5, r6, r7, r8, hne⟩, ⟨bm, ob, b1, b2, bmG, bmP, hidT_get b3 (plain b3 (fun xs m z => ?_) fun z => ?_), b4, b5, b6⟩, fun z => ?_⟩
      · rw [r2] at z
        cases z
      · rw [r2] at z
        cases z
        simp at r3
      · rw [b6] at z
        cases z
      · rw [b6] at z
        cases z
      · obtain ⟨o2, es, ep2, e2, hd2, _⟩ := G.T.g
        rw [z, ep] at e2
        cases e2
        cases hd2
    have e0 : Env0 l.prog w (K w.params) mg (hidT s₁.heap H) callerA [] s₁ H := by
      refine ⟨rfl, ⟨kinB, nsB G.T.g, ⟨mb, nsB G.T.b, G.T.builtins⟩, ?_⟩, fun b o e => of_hidT e, Nat.le_of_eq (hidT_size _ _), trivial, (fun b hb => absurd hb (List.not_mem_nil)), hok, .of_eq hg⟩
      obtain ⟨mc, h1, h2⟩ := G.T.nolimit
      exact ⟨mc, nsB h1, h2⟩
    refine codeAny_mono (run _ kinB (nsB G.T.g) TB s₁ H a ns hlen (fun p hp => tab p.2 (List.mem_map.mpr ⟨p, hp, rfl⟩)) sq e0) ?_
    intro r s' z
    cases r with
    | error e => exact z.elim
    | ok fl =>
      cases fl with
      | next => exact z.elim
      | brk => exact z.elim
      | cont => exact z.elim
      | ret u =>
        obtain ⟨v, H', os, bare, un, hok', rr, qq⟩ := z
        subst qq
        obtain rfl : u = Value.bool true := rr
        have kept : ∀ b o, b ∉ cs.map (·.2) → s₁.heap.get? b = some o → s'.heap.get? b = some o := by
          intro b o out e
          rcases only b with h | h | ⟨ob, xs, h⟩
          · exact absurd h out
          · exact un.keep b o e h (fun z => nomatch z) (fun z => nomatch z)
          · have h1 := (hok b _ h).1
            have h2 := (hok' b _ (un.frzs b ob _ h)).1
            rw [e] at h1
            cases h1
            exact h2
        have more : ∀ p ∈ cs, ∃ xs : Array Value, s'.heap.get? p.2 = some { cls := .none, data := .fields xs } := by
          intro p hp
          obtain ⟨xs, z⟩ := un.tbls p.2 #[] (tab p.2 (List.mem_map.mpr ⟨p, hp, rfl⟩))
          exact ⟨_, hok' p.2 _ z⟩
        refine ⟨rfl, ⟨fun b o e => ?_, fun b o e => ?_⟩, os, bare⟩
        · by_cases hb : b ∈ cs.map (·.2)
          · obtain ⟨p, hp, rfl⟩ := tabOf b hb
            obtain ⟨xs, hx⟩ := more p hp
            rw [TA.emp p hp] at e
            cases e
            exact .inr (.inl ⟨((TA.cod p hp).tab (TA.emp p hp)).isCodeTable, rfl, #[], xs, rfl, by rw [Array.empty_append]; exact hx⟩)
          · exact .inl (kept b o hb e)
        · by_cases hb : b ∈ cs.map (·.2)
          · obtain ⟨p, hp, rfl⟩ := tabOf b hb
            obtain ⟨xs, hx⟩ := more p hp
            exact ⟨_, hx⟩
          · exact ⟨o, kept b o hb e⟩
  have hz : ns.length ≤ sizeLine := Nat.le_trans hlen hn2
  -- the heap that tracks the tables, and the script where it is not written
  have start : ∀ (H : Hp) (keepA : Bool), (∀ b, H b = if b ∈ cs.map (·.2) then some (.tbl #[]) else if keepA = true ∧ b = a then some (HO.frz { cls := .type "list", data := .seq vs.toArray } (.lst (ns.map V.int))) else none) →
      (keepA = true → (K w.params).lookup a = none) → SqL (K w.params) H a (ns.map V.int) → codeAny (model l.prog w) callerA (.call (.ref fa) ⟨[.ref a], []⟩) (fun r s' => r = .ok (.ret (.bool true)) ∧ OldK s₁.heap s'.heap ∧ s'.os = s₁.os ∧ AllBare s'.gens) s₁ := by
    intro H keepA eH ok sq
    have inT : ∀ b, b ∈ cs.map (·.2) → H b = some (.tbl #[]) := fun b hb => by rw [eH, if_pos hb]
    have offT : ∀ b, b ∉ cs.map (·.2) → H b = if keepA = true ∧ b = a then some (HO.frz { cls := .type "list", data := .seq vs.toArray } (.lst (ns.map V.int))) else none := fun b hb => by rw [eH, if_neg hb]
    refine key H inT (fun b => ?_) sq (fun b u e => ?_) (fun b e => ?_) fun e => ?_
    · by_cases hb : b ∈ cs.map (·.2)
      · exact .inl hb
      · have q1 := offT b hb
        by_cases h2 : keepA = true ∧ b = a
        · rw [if_pos h2] at q1
          exact .inr (.inr ⟨_, _, q1⟩)
        · rw [if_neg h2] at q1
          exact .inr (.inl q1)
    · by_cases hb : b ∈ cs.map (·.2)
      · rw [inT b hb] at e
        cases e
        exact emp b hb
      · rw [offT b hb] at e
        by_cases h2 : keepA = true ∧ b = a
        · rw [if_pos h2] at e
          obtain ⟨_, rfl⟩ := h2
          cases e
          exact ⟨hobj, by rw [List.length_map]; exact hz, vs, _, rv, hobj⟩
        · rw [if_neg h2] at e
          cases e
    · by_cases hb : b ∈ cs.map (·.2)
      · exact .inr hb
      · rw [offT b hb] at e
        by_cases h2 : keepA = true ∧ b = a
        · exact .inl h2.2
        · exact absurd (if_neg h2) e
    · rw [offT a aOut] at e
      by_cases h2 : keepA = true ∧ a = a
      · exact ok h2.1
      · exact absurd (if_neg h2) e
  cases hk : (K w.params).lookup a with
  | some o =>
    have e := kin a o hk
    rw [hobj] at e
    cases e
    refine start (fun b => if b ∈ cs.map (·.2) then some (.tbl #[]) else none) false (fun b => by simp) (fun z => nomatch z) (.inr ⟨_, vs.toArray, _, hk, rfl, rfl, rfl, ?_, ?_⟩)
    · rw [List.size_toArray, lv]
      exact hz
    · simpa using rv
  | none =>
    refine start (fun b => if b ∈ cs.map (·.2) then some (.tbl #[]) else if b = a then some (.frz { cls := .type "list", data := .seq vs.toArray } (.lst (ns.map V.int))) else none) true (fun b => by simp) (fun _ => hk) (.inl (.inr ⟨{ cls := .type "list", data := .seq vs.toArray }, ?_⟩))
    show (if a ∈ cs.map (·.2) then _ else _) = _
    rw [if_neg aOut, if_pos rfl]
end EX
set_option Elab.async false
set_option linter.all false
set_option maxRecDepth 100000
set_option maxHeartbeats 4000000
namespace K69
open PySem L2 EX PyProof.Rows M68 LamX
/-- a def that stands in the written part -/
structure FnAt (K : PySem.W.Frag) (x qual : Str) (st : Stmt) (f : Addr) : Prop where
  ex : ∃ fd, Fun K x qual st f fd
theorem fnAt {K : PySem.W.Frag} {x qual : Str} {st : Stmt} {f : Addr} {oc : Value} {od an : Option Addr} {osl : Array (Option Value)} {kV doc pm cdv ct : Value} (l : K.lookup f = some ⟨oc, od, .func (PySem.W.fnOf x qual (defArgs st) (defBody st) (defScope st) .none kV doc pm an cdv ct), osl⟩)
    (c : PySem.W.codeIn K cdv qual = true) (k : PySem.W.keepIn K (.ref f) = true) : FnAt K x qual st f := ⟨_, fun_mk (st := st) l c k⟩
/-- a def with its code object and the table of what it makes -/
structure FnC (K : PySem.W.Frag) (x qual : Str) (st : Stmt) (f c T : Addr) : Prop where
  ex : ∃ fd, Fun K x qual st f fd ∧ fd.code = .ref c
  tab : PySem.W.tabIn K x = some (c, T)
  out : K.lookup T = none
theorem fnC {K : PySem.W.Frag} {x qual : Str} {st : Stmt} {f c T : Addr} {oc oc2 : Value} {od od2 an : Option Addr} {osl os2 : Array (Option Value)} {kV doc pm ct : Value} {vs : Array Value} (l : K.lookup f = some ⟨oc, od, .func (PySem.W.fnOf x qual (defArgs st) (defBody st) (defScope st) .none kV doc pm an (.ref c) ct), osl⟩)
    (cc : PySem.W.codeIn K (.ref c) qual = true) (k : PySem.W.keepIn K (.ref f) = true) (a : PySem.W.nsIn K mainGlobals x = some (some (.ref f))) (h4 : K.lookup c = some ⟨oc2, od2, .fields vs, os2⟩) (h5 : (vs[11]? : Option Value) = some (.ref T)) (out : K.lookup T = none) : FnC K x qual st f c T :=
  ⟨⟨_, fun_mk (st := st) l cc k, rfl⟩, tab_by a l rfl h4 h5, out⟩
/-- the facts of a class, reckoned over the written part -/
def ecB (K : PySem.W.Frag) (C : Addr) : Bool :=
  PySem.W.excInitIn K C exT "Exception.__new__" && (PySem.W.excOver K C exT && (decide (PySem.W.findIn K (.ref C) "__setattr__" = some (some (.builtin "object.__setattr__"))) &&
  (decide (PySem.W.findIn K (.ref C) "__getattribute__" = some (some (.builtin "BaseException.__getattribute__"))) && (decide (PySem.W.findIn K (.ref C) "__getattr__" = some none) && (decide (PySem.W.subIn K (.ref C) (.type "BaseException") = some true) &&
  (PySem.W.hasDictIn K C && (PySem.W.keepIn K (.ref C) && ((PySem.W.clsIn K C).isSome && (decide (PySem.W.findIn K (.ref C) "__class__" = some (some (.builtin "object.__class__"))) && (decide (PySem.W.mroIn K C (.type "object") = some true) &&
  (decide (PySem.W.specialIn K (.builtin "object.__class__") "__get__" = some (some (.builtin "getset_descriptor.__get__"))) && decide (PySem.W.takesIn K (.builtin "object.__class__") = some true))))))))))))
theorem ecB_ok {K : PySem.W.Frag} {C : Addr} (h : ecB K C = true) : EcC K C := by
  simp only [ecB, Bool.and_eq_true, decide_eq_true_eq] at h
  obtain ⟨h1, h2, h3, h4, h5, h6, h7, h8, h9, h10, h11, h12, h13⟩ := h
  exact ⟨h1, h2, h3, h4, h5, h6, h7, h8, h9, h10, h11, h12, h13⟩
def xcB (K : PySem.W.Frag) (cb C D : Addr) : Bool :=
  ecB K C && (decide (PySem.W.findIn K (.ref C) "given" = some none) && (decide (PySem.W.takerIn K C "given" = some none) && (decide (PySem.W.typeIn K (.ref C) = some (.type "type")) && (decide (PySem.W.kitOne K (.ref C) (.ref cb) = some true) &&
  (decide (PySem.W.exmOne K (.ref C) (.ref C) = some true) && decide (PySem.W.exmOne K (.ref C) (.ref D) = some false))))))
theorem xcB_ok {K : PySem.W.Frag} {cb C D : Addr} (h : xcB K cb C D = true) : EcC K C ∧ PySem.W.findIn K (.ref C) "given" = some none ∧ PySem.W.takerIn K C "given" = some none ∧ PySem.W.typeIn K (.ref C) = some (.type "type") ∧ PySem.W.kitOne K (.ref C) (.ref cb) = some true ∧ PySem.W.exmOne K (.ref C) (.ref C) = some true ∧ PySem.W.exmOne K (.ref C) (.ref D) = some false := by
  simp only [xcB, Bool.and_eq_true, decide_eq_true_eq] at h
  exact ⟨ecB_ok h.1, h.2⟩
theorem saidC_of {K : PySem.W.Frag} {cb C1 C2 : Addr} (h1 : xcB K cb C1 C2 = true) (h2 : xcB K cb C2 C1 = true) : SaidC K cb [(C1, "tree"), (C2, "need")] := by
  obtain ⟨a1, a2, _, _, a5, a6, a7⟩ := xcB_ok h1
  obtain ⟨b1, b2, _, _, b5, b6, b7⟩ := xcB_ok h2
  refine ⟨fun p hp => ?_, fun p hp => ?_, fun i j p q hi hj => ?_⟩
  · rcases List.mem_cons.mp hp with rfl | hp
    · exact ⟨a1, a2⟩
    · rw [List.mem_singleton.mp hp]
      exact ⟨b1, b2⟩
  · rcases List.mem_cons.mp hp with rfl | hp
    · exact a5
    · rw [List.mem_singleton.mp hp]
      exact b5
  · match i, j, hi, hj with
    | 0, 0, hi, hj => cases hi; cases hj; exact a6
    | 0, 1, hi, hj => cases hi; cases hj; exact a7
    | 1, 0, hi, hj => cases hi; cases hj; exact b7
    | 1, 1, hi, hj => cases hi; cases hj; exact b6
    | n + 2, _, hi, _ => simp at hi
    | 0, n + 2, _, hj => simp at hj
    | 1, n + 2, _, hj => simp at hj
section
variable {P : Program} {w : World} {K : PySem.W.Frag} {mg : Str → Option Value} {base : Heap}
abbrev sI0 : Stmt := inClass (top 3) 0
theorem scI0 : FnScope ["self", "given"] ["self", "given"] (defScope sI0) := ⟨rfl, rfl, rfl, by decide +kernel, rfl, by decide +kernel, by decide +kernel⟩
theorem okI0 {C f : Addr} {fd : FuncData} (F : Fun K "__init__" "InvalidTree.__init__" sI0 f fd) (T : EcC K C) (tk : PySem.W.takerIn K C "given" = some none) : FnOk P w K mg base CX0 1 f fd ["self", "given"] (spI1 K C "given") := by
  refine F.ok scI0 (fun vs H Q E h => ?_) (fun cdv A outer s H vs Q E hr h => ?_)
  · obtain ⟨a, v, rfl, _⟩ := h
    rfl
  · obtain ⟨a, v, rfl, e, q⟩ := h
    exact ⟨_, pss_one (ps_est (pv 0) (pv 1)), _, rfl, _, rfl, a, C, rfl, T, tk, .inl ⟨e, q⟩⟩
abbrev sI1 : Stmt := inClass (top 2) 0
theorem scI1 : FnScope ["self", "given"] ["self", "given"] (defScope sI1) := ⟨rfl, rfl, rfl, by decide +kernel, rfl, by decide +kernel, by decide +kernel⟩
theorem okI1 {C f : Addr} {fd : FuncData} (F : Fun K "__init__" "InvalidNeed.__init__" sI1 f fd) (T : EcC K C) (tk : PySem.W.takerIn K C "given" = some none) : FnOk P w K mg base CX0 1 f fd ["self", "given"] (spI1 K C "given") := by
  refine F.ok scI1 (fun vs H Q E h => ?_) (fun cdv A outer s H vs Q E hr h => ?_)
  · obtain ⟨a, v, rfl, _⟩ := h
    rfl
  · obtain ⟨a, v, rfl, e, q⟩ := h
    exact ⟨_, pss_one (ps_est (pv 0) (pv 1)), _, rfl, _, rfl, a, C, rfl, T, tk, .inl ⟨e, q⟩⟩
end
theorem all_mk {l : PySem.W.OpenLaw} {w : World} {K : PySem.W.Frag} {h : Heap} {mg : Str → Option Value} {q : Program} {fa : Addr} {fL fE c Pt CT CN cb i0 i1 fWrd fAlw fWup fTr fNd fChk fGA fSV fSource fDraw fTree fNeeds fServe fSaid fBent : Addr} (KX : K.In h) (G : h.Ns mainGlobals mg) (hfa : mg "law" = some (.ref fa))
    (aL : PySem.W.nsIn K mainGlobals "law" = some (some (.ref fL)))
    (FL : FnAt K "law" "law" sLaw fL)
    (aWrd : PySem.W.nsIn K mainGlobals "is_word" = some (some (.ref fWrd)))
    (FWrd : FnAt K "is_word" "is_word" sWrd fWrd)
    (aAlw : PySem.W.nsIn K mainGlobals "is_allowance" = some (some (.ref fAlw)))
    (FAlw : FnAt K "is_allowance" "is_allowance" sAlw fAlw)
    (aWup : PySem.W.nsIn K mainGlobals "way_up" = some (some (.ref fWup)))
    (FWup : FnAt K "way_up" "way_up" sWup fWup)
    (aTr : PySem.W.nsIn K mainGlobals "is_tree" = some (some (.ref fTr)))
    (FTr : FnAt K "is_tree" "is_tree" sTr fTr)
    (aNd : PySem.W.nsIn K mainGlobals "are_needs" = some (some (.ref fNd)))
    (FNd : FnAt K "are_needs" "are_needs" sNd fNd)
    (aChk : PySem.W.nsIn K mainGlobals "check_plan" = some (some (.ref fChk)))
    (FChk : FnAt K "check_plan" "check_plan" sChk fChk)
    (aGA : PySem.W.nsIn K mainGlobals "greatest_allowances" = some (some (.ref fGA)))
    (FGA : FnAt K "greatest_allowances" "greatest_allowances" sGA fGA)
    (aSV : PySem.W.nsIn K mainGlobals "serve" = some (some (.ref fSV)))
    (FSV : FnAt K "serve" "serve" sSV fSV)
    (aSource : PySem.W.nsIn K mainGlobals "_law_source" = some (some (.ref fSource)))
    (FSource : FnAt K "_law_source" "_law_source" sSource fSource)
    (aDraw : PySem.W.nsIn K mainGlobals "_law_draw" = some (some (.ref fDraw)))
    (FDraw : FnAt K "_law_draw" "_law_draw" sDraw fDraw)
    (aTree : PySem.W.nsIn K mainGlobals "_law_tree" = some (some (.ref fTree)))
    (FTree : FnAt K "_law_tree" "_law_tree" sTre fTree)
    (aNeeds : PySem.W.nsIn K mainGlobals "_law_needs" = some (some (.ref fNeeds)))
    (FNeeds : FnAt K "_law_needs" "_law_needs" sNee fNeeds)
    (aServe : PySem.W.nsIn K mainGlobals "_law_serve" = some (some (.ref fServe)))
    (FServe : FnAt K "_law_serve" "_law_serve" sSrv fServe)
    (aSaid : PySem.W.nsIn K mainGlobals "_law_said" = some (some (.ref fSaid)))
    (FSaid : FnAt K "_law_said" "_law_said" sSaid fSaid)
    (aBent : PySem.W.nsIn K mainGlobals "_law_bent" = some (some (.ref fBent)))
    (FBent : FnAt K "_law_bent" "_law_bent" sBt fBent)
    (aE : PySem.W.nsIn K mainGlobals "_law_errors_right" = some (some (.ref fE)))
    (C_E : FnC K "_law_errors_right" "_law_errors_right" sEr fE c Pt)
    (aCT : PySem.W.nsIn K mainGlobals "InvalidTree" = some (some (.ref CT)))
    (aCN : PySem.W.nsIn K mainGlobals "InvalidNeed" = some (some (.ref CN)))
    (aCB : PySem.W.nsIn K mainGlobals "CacheError" = some (some (.ref cb)))
    (i0_ : PySem.W.findIn K (.ref CT) "__init__" = some (some (.ref i0)))
    (t0_ : PySem.W.typeIn K (.ref i0) = some (.type "function"))
    (FI0 : FnAt K "__init__" "InvalidTree.__init__" sI0 i0)
    (i1_ : PySem.W.findIn K (.ref CN) "__init__" = some (some (.ref i1)))
    (t1_ : PySem.W.typeIn K (.ref i1) = some (.type "function"))
    (FI1 : FnAt K "__init__" "InvalidNeed.__init__" sI1 i1)
    (tbT : xcB K cb CT CN = true)
    (tbN : xcB K cb CN CT = true)
    (has : ∃ d, (recsOf q).find? (fun e => e.name == ("_law_errors_right" : Str)) = some d)
    (z_all : PySem.W.nsIn K mainGlobals "all" = some none)
    (z_str : PySem.W.nsIn K mainGlobals "str" = some none)
    (c_lw : ∃ t, PySem.W.nsIn K mainGlobals "LONGEST_WORD" = some (some (.int 8 t)))
    (c_ga : ∃ t, PySem.W.nsIn K mainGlobals "GREATEST_ALLOWANCE" = some (some (.int 99 t)))
    (c_mt : ∃ t, PySem.W.nsIn K mainGlobals "MOST_IN_TREE" = some (some (.int 11 t)))
    (c_st : ∃ t, PySem.W.nsIn K mainGlobals "STORE" = some (some (.str store t)))
    (z_range : PySem.W.nsIn K mainGlobals "range" = some none)
    (z_max : PySem.W.nsIn K mainGlobals "max" = some none)
    (z_min : PySem.W.nsIn K mainGlobals "min" = some none)
    (z_len : PySem.W.nsIn K mainGlobals "len" = some none)
    (z_repr : PySem.W.nsIn K mainGlobals "repr" = some none)
    (z_isinstance : PySem.W.nsIn K mainGlobals "isinstance" = some none)
    (z_dict : PySem.W.nsIn K mainGlobals "dict" = some none)
    (z_list : PySem.W.nsIn K mainGlobals "list" = some none)
    (z_int : PySem.W.nsIn K mainGlobals "int" = some none)
    (z_bool : PySem.W.nsIn K mainGlobals "bool" = some none)
    (z_sorted : PySem.W.nsIn K mainGlobals "sorted" = some none)
    : ∃ cs : List (Addr × Addr), (∀ p ∈ cs, ∃ x, TabOf q K x p.1 p.2) ∧
      ∀ base : Heap, K.In base → base.Ns mainGlobals mg → (∀ p ∈ cs, TabB base mg p.1 p.2) → ∀ (s : Shared) (H : Hp) (a : Addr) (ns : List Int), ns.length ≤ 63 → (∀ p ∈ cs, H p.2 = some (.tbl #[])) → SqL K H a (ns.map V.int) → Env0 l.prog w K mg base callerA [] s H →
        codeAny (model l.prog w) callerA (.call (.ref fa) ⟨[.ref a], []⟩) (CR CX0 [] l.prog w H s (fun v _ => v = .bl true) E0) s := by
  refine ⟨[(c, Pt)], fun p hp => by rw [List.mem_singleton.mp hp]; exact ⟨"_law_errors_right", has, C_E.tab, C_E.out⟩, ?_⟩
  intro base KB GB TBs s H a ns hns hTb hS e0
  have TB := TBs _ (List.mem_singleton.mpr rfl)
  have hT0 := hTb _ (List.mem_singleton.mpr rfl)
  have e := hfa.symm.trans (PySem.W.mg_of KX G aL)
  cases e
  have B : Bn mg := ⟨PySem.W.mg_none_of KX G z_range, PySem.W.mg_none_of KX G z_max, PySem.W.mg_none_of KX G z_min, PySem.W.mg_none_of KX G z_len, PySem.W.mg_none_of KX G z_repr, PySem.W.mg_none_of KX G z_isinstance, PySem.W.mg_none_of KX G z_dict, PySem.W.mg_none_of KX G z_list, PySem.W.mg_none_of KX G z_int, PySem.W.mg_none_of KX G z_bool, PySem.W.mg_none_of KX G z_sorted⟩
  have C : Bp mg := ⟨PySem.W.mg_none_of KX G z_all, PySem.W.mg_none_of KX G z_str, ⟨_, PySem.W.mg_of KX G c_lw.choose_spec⟩, ⟨_, PySem.W.mg_of KX G c_ga.choose_spec⟩, ⟨_, PySem.W.mg_of KX G c_mt.choose_spec⟩, ⟨_, PySem.W.mg_of KX G c_st.choose_spec⟩⟩
  obtain ⟨dL, GL⟩ := FL.ex
  obtain ⟨dWrd, GWrd⟩ := FWrd.ex
  obtain ⟨dAlw, GAlw⟩ := FAlw.ex
  obtain ⟨dWup, GWup⟩ := FWup.ex
  obtain ⟨dTr, GTr⟩ := FTr.ex
  obtain ⟨dNd, GNd⟩ := FNd.ex
  obtain ⟨dChk, GChk⟩ := FChk.ex
  obtain ⟨dGA, GGA⟩ := FGA.ex
  obtain ⟨dSV, GSV⟩ := FSV.ex
  obtain ⟨dSource, GSource⟩ := FSource.ex
  obtain ⟨dDraw, GDraw⟩ := FDraw.ex
  obtain ⟨dTree, GTree⟩ := FTree.ex
  obtain ⟨dNeeds, GNeeds⟩ := FNeeds.ex
  obtain ⟨dServe, GServe⟩ := FServe.ex
  obtain ⟨dSaid, GSaid⟩ := FSaid.ex
  obtain ⟨dBent, GBent⟩ := FBent.ex
  have bWrd := GWrd.binds (ps := ["obj"]) fun _ _ _ _ _ _ us hl => match us, hl with | [_], _ => rfl
  have bAlw := GAlw.binds (ps := ["obj"]) fun _ _ _ _ _ _ us hl => match us, hl with | [_], _ => rfl
  have bWup := GWup.binds (ps := ["parents", "name"]) fun _ _ _ _ _ _ us hl => match us, hl with | [_, _], _ => rfl
  have bTr := GTr.binds (ps := ["obj"]) fun _ _ _ _ _ _ us hl => match us, hl with | [_], _ => rfl
  have bNd := GNd.binds (ps := ["obj", "parents"]) fun _ _ _ _ _ _ us hl => match us, hl with | [_, _], _ => rfl
  have bChk := GChk.binds (ps := ["parents", "needs"]) fun _ _ _ _ _ _ us hl => match us, hl with | [_, _], _ => rfl
  have bGA := GGA.binds (ps := ["parents", "needs"]) fun _ _ _ _ _ _ us hl => match us, hl with | [_, _], _ => rfl
  have bSV := GSV.binds (ps := ["parents", "needs", "allowances"]) fun _ _ _ _ _ _ us hl => match us, hl with | [_, _, _], _ => rfl
  have bSource := GSource.binds (ps := ["_law_script", "_law_turn"]) fun _ _ _ _ _ _ us hl => match us, hl with | [_, _], _ => rfl
  have bDraw := GDraw.binds (ps := ["_law_source_here", "_law_amount"]) fun _ _ _ _ _ _ us hl => match us, hl with | [_, _], _ => rfl
  have bTree := GTree.binds (ps := ["_law_source_here", "_law_most"]) fun _ _ _ _ _ _ us hl => match us, hl with | [_, _], _ => rfl
  have bNeeds := GNeeds.binds (ps := ["_law_source_here", "_law_parents", "_law_most"]) fun _ _ _ _ _ _ us hl => match us, hl with | [_, _, _], _ => rfl
  have bServe := GServe.binds (ps := ["_law_parents", "_law_needs_here", "_law_given"]) fun _ _ _ _ _ _ us hl => match us, hl with | [_, _, _], _ => rfl
  have bSaid := GSaid.binds (ps := ["_law_call"]) fun _ _ _ _ _ _ us hl => match us, hl with | [_], _ => rfl
  have bBent := GBent.binds (ps := ["_law_source_here", "_law_parents", "_law_given"]) fun _ _ _ _ _ _ us hl => match us, hl with | [_, _, _], _ => rfl
  obtain ⟨dE, GE, cE⟩ := C_E.ex
  have bE := GE.binds (ps := ["_law_parents"]) fun _ _ _ _ _ _ us hl => match us, hl with | [_], _ => rfl
  obtain ⟨e0T, e1T, e2T, e3T, _⟩ := xcB_ok tbT
  obtain ⟨e0N, e1N, e2N, e3N, _⟩ := xcB_ok tbN
  obtain ⟨dI0, GI0⟩ := FI0.ex
  obtain ⟨dI1, GI1⟩ := FI1.ex
  have XT : XrAt l.prog w K mg base "InvalidTree" "given" CT := ⟨e0T, PySem.W.mg_of KX G aCT, e3T, e1T, i0, dI0, i0_, t0_, okI0 GI0 e0T e2T, GI0.binds fun _ _ _ _ _ _ us hl => match us, hl with | [_, _], _ => rfl⟩
  have XN : XrAt l.prog w K mg base "InvalidNeed" "given" CN := ⟨e0N, PySem.W.mg_of KX G aCN, e3N, e1N, i1, dI1, i1_, t1_, okI1 GI1 e0N e2N, GI1.binds fun _ _ _ _ _ _ us hl => match us, hl with | [_, _], _ => rfl⟩
  have bL : ∀ (s : Shared) (u : Value), BindsTo s dL ⟨[u], []⟩ [("_law_script", u)] := by
    obtain ⟨oc, od, kV, doc, pm, an, cdv, ct, osl, rfl, _⟩ := GL.ex
    exact fun s u => .of_eq rfl
  have DSo : DefAt l.prog w K mg base 1 "_law_source" ["_law_script", "_law_turn"] (spSource K) := ⟨_, _, ok_source GSource ⟨B.len, B.max⟩, PySem.W.mg_of KX G aSource, GSource.kp, bSource⟩
  have DDr : DefAt l.prog w K mg base 1 "_law_draw" ["_law_source_here", "_law_amount"] spDraw := ⟨_, _, ok_draw GDraw, PySem.W.mg_of KX G aDraw, GDraw.kp, bDraw⟩
  have DTr : DefAt l.prog w K mg base 2 "_law_tree" ["_law_source_here", "_law_most"] (spTree K) := ⟨_, _, ok_tree GTree B DDr, PySem.W.mg_of KX G aTree, GTree.kp, bTree⟩
  have DNe : DefAt l.prog w K mg base 2 "_law_needs" ["_law_source_here", "_law_parents", "_law_most"] (spNeeds K) := ⟨_, _, ok_needs GNeeds B DDr, PySem.W.mg_of KX G aNeeds, GNeeds.kp, bNeeds⟩
  have DSe : DefG l.prog w K mg base 1 "_law_serve" ["_law_parents", "_law_needs_here", "_law_given"] (spServe K) := ⟨_, _, ok_serve GServe B, PySem.W.mg_of KX G aServe, GServe.kp, bServe⟩
  have DBt : DefAt l.prog w K mg base 2 "_law_bent" ["_law_source_here", "_law_parents", "_law_given"] (spBent K) := ⟨_, _, ok_bent GBent B DDr, PySem.W.mg_of KX G aBent, GBent.kp, bBent⟩
  have DWr : DefAt l.prog w K mg base 1 "is_word" ["obj"] (spWord K) := ⟨_, _, ok_word GWrd B C, PySem.W.mg_of KX G aWrd, GWrd.kp, bWrd⟩
  have DAl : DefAt l.prog w K mg base 1 "is_allowance" ["obj"] spAllow := ⟨_, _, ok_allow GAlw B C, PySem.W.mg_of KX G aAlw, GAlw.kp, bAlw⟩
  have DUp : DefAt l.prog w K mg base 1 "way_up" ["parents", "name"] (spUpG K) := ⟨_, _, ok_up GWup B C, PySem.W.mg_of KX G aWup, GWup.kp, bWup⟩
  have DIt : DefAt l.prog w K mg base 2 "is_tree" ["obj"] (spTr K) := ⟨_, _, ok_tr GTr B C DWr DUp, PySem.W.mg_of KX G aTr, GTr.kp, bTr⟩
  have DAn : DefAt l.prog w K mg base 2 "are_needs" ["obj", "parents"] (spNd K) := ⟨_, _, ok_nd GNd B C DAl, PySem.W.mg_of KX G aNd, GNd.kp, bNd⟩
  have DCk : DefX l.prog w K mg base 3 "check_plan" ["parents", "needs"] (spChk K CT CN) := ⟨_, _, ok_chk GChk DIt DAn XT XN, PySem.W.mg_of KX G aChk, GChk.kp, bChk⟩
  have DGA : DefX l.prog w K mg base 4 "greatest_allowances" ["parents", "needs"] (spGA K CT CN) := ⟨_, _, ok_ga GGA B C DCk DUp, PySem.W.mg_of KX G aGA, GGA.kp, bGA⟩
  have DSV : DefX l.prog w K mg base 4 "serve" ["parents", "needs", "allowances"] (spSV K CT CN) := ⟨_, _, ok_sv GSV B C DCk DAl, PySem.W.mg_of KX G aSV, GSV.kp, bSV⟩
  have DEr : DefG l.prog w K mg base 7 "_law_errors_right" ["_law_parents"] (spErr K [(Pt, qEr)]) := ⟨_, _, ok_err GE cE B GSaid bSaid (PySem.W.mg_of KX G aSaid) (saidC_of tbT tbN) (PySem.W.mg_of KX G aCT) (PySem.W.mg_of KX G aCN) (PySem.W.mg_of KX G aCB) TB DGA DSV, PySem.W.mg_of KX G aE, GE.kp, bE⟩
  exact run_law GL B DSo DDr DTr DNe DBt DSe DEr DGA DSV bL e0 hS hns fun p hp => by rw [List.mem_singleton.mp hp]; exact TabS.nil hT0
end K69
set_option Elab.async false
set_option linter.all false
set_option maxRecDepth 100000

open PySem PySem.W PyProof.Rows in
set_option maxRecDepth 100000 in
set_option maxHeartbeats 0 in
theorem PySem.Challenge.cw_slackcache_k69_allowances_that_serve_holds : PySem.Challenge.rw_slackcache_k69_allowances_that_serve.Holds := by
  w_on; o_law; k_head; (case hw => w_witness2)
  k_fill
  refine EX.walkT (l := PySem.Challenge.rw_slackcache_k69_allowances_that_serve) (n := 63) rfl (by decide) rfl (fun w h Y => PySem.W.km_in_of Y) ?F
  case F =>
    intro w mg fa h Y KX G hmg
    refine' K69.all_mk KX G hmg ?h_aL ?h_FL ?h_aWrd ?h_FWrd ?h_aAlw ?h_FAlw ?h_aWup ?h_FWup ?h_aTr ?h_FTr ?h_aNd ?h_FNd ?h_aChk ?h_FChk ?h_aGA ?h_FGA ?h_aSV ?h_FSV ?h_aSource ?h_FSource ?h_aDraw ?h_FDraw ?h_aTree ?h_FTree ?h_aNeeds ?h_FNeeds ?h_aServe ?h_FServe ?h_aSaid ?h_FSaid ?h_aBent ?h_FBent ?h_aE ?h_C_E ?h_aCT ?h_aCN ?h_aCB ?h_i0_ ?h_t0_ ?h_FI0 ?h_i1_ ?h_t1_ ?h_FI1 ?h_tbT ?h_tbN ?h_has ?h_z_all ?h_z_str ?h_c_lw ?h_c_ga ?h_c_mt ?h_c_st ?h_z_range ?h_z_max ?h_z_min ?h_z_len ?h_z_repr ?h_z_isinstance ?h_z_dict ?h_z_list ?h_z_int ?h_z_bool ?h_z_sorted
    (case h_aL => k_is)
    (case h_FL => refine' K69.fnAt ?l ?c ?k; (case l => k_is); (case c => k_is); (case k => k_is))
    (case h_aWrd => k_is)
    (case h_FWrd => refine' K69.fnAt ?l ?c ?k; (case l => k_is); (case c => k_is); (case k => k_is))
    (case h_aAlw => k_is)
    (case h_FAlw => refine' K69.fnAt ?l ?c ?k; (case l => k_is); (case c => k_is); (case k => k_is))
    (case h_aWup => k_is)
    (case h_FWup => refine' K69.fnAt ?l ?c ?k; (case l => k_is); (case c => k_is); (case k => k_is))
    (case h_aTr => k_is)
    (case h_FTr => refine' K69.fnAt ?l ?c ?k; (case l => k_is); (case c => k_is); (case k => k_is))
    (case h_aNd => k_is)
    (case h_FNd => refine' K69.fnAt ?l ?c ?k; (case l => k_is); (case c => k_is); (case k => k_is))
    (case h_aChk => k_is)
    (case h_FChk => refine' K69.fnAt ?l ?c ?k; (case l => k_is); (case c => k_is); (case k => k_is))
    (case h_aGA => k_is)
    (case h_FGA => refine' K69.fnAt ?l ?c ?k; (case l => k_is); (case c => k_is); (case k => k_is))
    (case h_aSV => k_is)
    (case h_FSV => refine' K69.fnAt ?l ?c ?k; (case l => k_is); (case c => k_is); (case k => k_is))
    (case h_aSource => k_is)
    (case h_FSource => refine' K69.fnAt ?l ?c ?k; (case l => k_is); (case c => k_is); (case k => k_is))
    (case h_aDraw => k_is)
    (case h_FDraw => refine' K69.fnAt ?l ?c ?k; (case l => k_is); (case c => k_is); (case k => k_is))
    (case h_aTree => k_is)
    (case h_FTree => refine' K69.fnAt ?l ?c ?k; (case l => k_is); (case c => k_is); (case k => k_is))
    (case h_aNeeds => k_is)
    (case h_FNeeds => refine' K69.fnAt ?l ?c ?k; (case l => k_is); (case c => k_is); (case k => k_is))
    (case h_aServe => k_is)
    (case h_FServe => refine' K69.fnAt ?l ?c ?k; (case l => k_is); (case c => k_is); (case k => k_is))
    (case h_aSaid => k_is)
    (case h_FSaid => refine' K69.fnAt ?l ?c ?k; (case l => k_is); (case c => k_is); (case k => k_is))
    (case h_aBent => k_is)
    (case h_FBent => refine' K69.fnAt ?l ?c ?k; (case l => k_is); (case c => k_is); (case k => k_is))
    (case h_aE => k_is)
    (case h_C_E => refine' K69.fnC ?l ?cc ?k ?a ?h4 ?h5 ?out; (case l => k_is); (case cc => k_is); (case k => k_is); (case a => k_is); (case h4 => k_is); (case h5 => rfl); (case out => kernel_rfl))
    (case h_aCT => k_is)
    (case h_aCN => k_is)
    (case h_aCB => k_is)
    (case h_i0_ => k_is)
    (case h_t0_ => k_is)
    (case h_FI0 => refine' K69.fnAt ?l ?c ?k; (case l => k_is); (case c => k_is); (case k => k_is))
    (case h_i1_ => k_is)
    (case h_t1_ => k_is)
    (case h_FI1 => refine' K69.fnAt ?l ?c ?k; (case l => k_is); (case c => k_is); (case k => k_is))
    (case h_tbT => kernel_rfl)
    (case h_tbN => kernel_rfl)
    (case h_has => exact ⟨_, rfl⟩)
    (case h_z_all => k_is)
    (case h_z_str => k_is)
    (case h_c_lw => apply Exists.intro; k_is)
    (case h_c_ga => apply Exists.intro; k_is)
    (case h_c_mt => apply Exists.intro; k_is)
    (case h_c_st => apply Exists.intro; k_is)
    (case h_z_range => k_is)
    (case h_z_max => k_is)
    (case h_z_min => k_is)
    (case h_z_len => k_is)
    (case h_z_repr => k_is)
    (case h_z_isinstance => k_is)
    (case h_z_dict => k_is)
    (case h_z_list => k_is)
    (case h_z_int => k_is)
    (case h_z_bool => k_is)
    (case h_z_sorted => k_is)

