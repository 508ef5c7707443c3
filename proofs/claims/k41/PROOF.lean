import PyProof.Rows.All
import Wide.All
import OpenK.AllK
import Wide.FinOn
import HandS.ForMost
import HandS.Wide
import HandS.Exc
import HandS.ExcInit
import HandS.IsInst
import KE.KExcInit
import KE.KExcIs
import KE.KIsAll
import PyProof.ReprRoads
import HandS.ExcField
import HandS.ExcIs
import HandS.TryMany
import HandS.ExcOwn
import PyProof.InstNe
import HandS.Flow
import HandS.SlotsOwn
import HandS.Strs
import HandS.SetFor
import HandS.SortInts
import HandS.WordsExc
import HandS.Walk
import HandS.WordsDict
import HandS.DictComp
import KE.GoesMore
import KE.GoesEnum
import HandS.Zip
import HandS.TupAny
import KE.KDictList
import HandS.Lambda
import HandS.EndTab
import HandS.Conv
import KE.KMinKey
import PyProof.Rows.CountFlat
import HandS.Text
import HandS.Style
import HandS.StrMore
import PyProof.Rows.StrMeet
import OpenK.KMeth
import HandS.Property
import HandS.Codes
import KE.KDictItemsList
import HandS.TupLe
import PySem.Challenge.RW_slackcache_k41_whole_spreads_of_cuts
set_option Elab.async false
set_option linter.all false
set_option maxRecDepth 100000
set_option maxHeartbeats 4000000
namespace EX
open PySem L2 PySem.Spec PyProof.Rows
abbrev exT : List Value := [.type "Exception", .type "BaseException", .type "object"]
/-- what the written part says of an own exception class below Exception -/
structure EcC (K : PySem.W.Frag) (C : Addr) : Prop where
  ini : PySem.W.excInitIn K C exT "Exception.__new__" = true
  ovr : PySem.W.excOver K C exT = true
  sa : PySem.W.findIn K (.ref C) "__setattr__" = some (some (.builtin "object.__setattr__"))
  ga : PySem.W.findIn K (.ref C) "__getattribute__" = some (some (.builtin "BaseException.__getattribute__"))
  gg : PySem.W.findIn K (.ref C) "__getattr__" = some none
  exC : PySem.W.subIn K (.ref C) (.type "BaseException") = some true
  hdC : PySem.W.hasDictIn K C = true
  kC : PySem.W.keepIn K (.ref C) = true
  cl : (PySem.W.clsIn K C).isSome = true
  cA : PySem.W.findIn K (.ref C) "__class__" = some (some (.builtin "object.__class__"))
  mo : PySem.W.mroIn K C (.type "object") = some true
  sp : PySem.W.specialIn K (.builtin "object.__class__") "__get__" = some (some (.builtin "getset_descriptor.__get__"))
  tk : PySem.W.takesIn K (.builtin "object.__class__") = some true
theorem upd_comm {H : Hp} {a b : Addr} {o u : HO} (h : a ≠ b) : upd (upd H a o) b u = upd (upd H b u) a o := by
  funext c
  by_cases hb : c = b
  · subst hb
    rw [upd_same, upd_ne (Ne.symm h), upd_same]
  · rw [upd_ne hb]
    by_cases ha : c = a
    · subst ha
      rw [upd_same, upd_same]
    · rw [upd_ne ha, upd_ne ha, upd_ne hb]
theorem upd_upd {H : Hp} {a : Addr} {o u : HO} : upd (upd H a o) a u = upd H a u := by
  funext c
  by_cases ha : c = a
  · subst ha
    rw [upd_same, upd_same]
  · rw [upd_ne ha, upd_ne ha, upd_ne ha]
section
variable {X : Cx} {pins : List (Addr × Obj)} {σ : L2.St} {H : Hp} {s : Shared} {a C dx : Addr} {f : Str} {y : V} {u : Value} {fs : List (Str × V)} {Q : Unit → Shared → Prop} {E : Value → Shared → Prop} {A : Around}
/-- the first field of a new exception -/
theorem est_new (T : EcC X.K C) (I : Inv X pins σ H s) (e : H a = some (exo a C none)) (htk : PySem.W.takerIn X.K C f = some none) (ry : RelV y u)
    (h : ∀ dx s', H dx = none → dx ≠ a → Inv X pins σ (upd (upd H dx (exd dx [(f, y)])) a (exo a C (some dx))) s' → Q () s') :
    wpAny (model X.prog X.w) A (setAttr (.ref a) f u) Q E s := by
  obtain ⟨t1, ho⟩ := exo_at I.hok e
  obtain ⟨cd, hc, hd'⟩ := PySem.W.any_some T.hdC
  obtain ⟨hp, g, d, t, os⟩ := s
  have hlt : a < hp.objs.size := Heap.lt_size ho
  refine PySem.W.set_plain I.kIn (od := none) ⟨ho, rfl, rfl, trivial⟩ T.sa ?_
  refine PySem.W.osa_openX (od := none) PySem.F.store_Exception I.kIn ⟨ho, rfl, rfl, trivial⟩ T.ovr htk fun b => ?_
  refine wpAny_bind (wpAny_pure (wpAny_bind (PySem.W.instanceDict_exc ho (PySem.W.looks_clsIn I.kIn hc) hd' ?_)))
  show wpAny _ _ (Builtin.ObjectAttr.storeInDict hp.objs.size (.str f _) f u) _ _ _
  have hn0 : H hp.objs.size = none := I.hok.fresh (Nat.le_refl _)
  have hne : hp.objs.size ≠ a := Nat.ne_of_gt hlt
  -- the new dict is laid
  have J1 := I.laid (t' := t) (a := hp.objs.size) (o := exd hp.objs.size []) (h' := hp.push (PySem.W.dictOf [] 0)) (fun b o q => Heap.get?_push_of_some _ q) (Nat.le_refl _)
    (exd_ok (mA := fun _ => none) (Heap.Ns1.of_empty ⟨_, #[], _, Heap.get?_push_at rfl rfl, rfl, fun x hx => absurd hx (by simp), fun _ => rfl⟩) fun _ => True.intro)
  have e1 : upd H hp.objs.size (exd hp.objs.size []) a = some (exo a C none) := by rw [upd_ne (Ne.symm hne)]; exact e
  have ho1 : (hp.push (PySem.W.dictOf [] 0)).get? a = some { cls := .ref C, dict := none, data := .fields #[.ref t1, .none, .none, .none, .bool false, .none] } := Heap.get?_push_of_some _ ho
  -- the object gets it
  have ho2 : ((hp.push (PySem.W.dictOf [] 0)).update a fun o => { o with dict := some hp.objs.size }).get? a = some { cls := .ref C, dict := some hp.objs.size, data := .fields #[.ref t1, .none, .none, .none, .bool false, .none] } :=
    Heap.get?_update_self _ ho1 rfl
  have J2 := J1.write (t' := t) (x := a) (e := a) (o := exo a C (some hp.objs.size)) (h' := (hp.push (PySem.W.dictOf [] 0)).update a fun o => { o with dict := some hp.objs.size })
    (by rw [e1]; exact True.intro) (.inl rfl) (fun b o hb q => (Heap.get?_update_ne _ _ _ _ hb).trans q) ⟨_, ho2⟩ (exo_ok ho2)
  have hD : ((hp.push (PySem.W.dictOf [] 0)).update a fun o => { o with dict := some hp.objs.size }).get? hp.objs.size = some (PySem.W.dictOf [] 0) :=
    (Heap.get?_update_ne _ _ _ _ hne).trans (Heap.get?_push_at rfl rfl)
  refine PySem.HandSPX.store_in_new ⟨_, #[], _, hD, rfl, fun x hx => absurd hx (by simp), fun _ => rfl⟩ fun h' tk' hn' hs => ?_
  have hd2 : ∃ o, h'.get? hp.objs.size = some o := by
    obtain ⟨o, _, _, q, _⟩ := hn'
    exact ⟨o, q⟩
  have e2 : upd (upd H hp.objs.size (exd hp.objs.size [])) a (exo a C (some hp.objs.size)) hp.objs.size = some (exd hp.objs.size []) := by rw [upd_ne hne, upd_same]
  have J3 := J2.write (t' := tk') (x := hp.objs.size) (e := hp.objs.size) (o := exd hp.objs.size [(f, y)]) (h' := h') (by rw [e2]; exact True.intro) (.inl rfl)
    (fun b o hb q => (hs.2 b hb).trans q) hd2 (exd_ok hn' (relO_put (fs := []) ry fun _ => True.intro))
  have eH : upd (upd (upd H hp.objs.size (exd hp.objs.size [])) a (exo a C (some hp.objs.size))) hp.objs.size (exd hp.objs.size [(f, y)]) =
      upd (upd H hp.objs.size (exd hp.objs.size [(f, y)])) a (exo a C (some hp.objs.size)) := by
    rw [upd_comm (Ne.symm hne), upd_upd]
  rw [eH] at J3
  exact h _ _ hn0 hne J3
/-- a further field of an exception -/
theorem est_old (T : EcC X.K C) (I : Inv X pins σ H s) (e : H a = some (exo a C (some dx))) (ed : H dx = some (exd dx fs)) (hl : fs.length ≤ 900) (htk : PySem.W.takerIn X.K C f = some none) (ry : RelV y u)
    (h : ∀ s', Inv X pins σ (upd H dx (exd dx ((f, y) :: fs))) s' → Q () s') : wpAny (model X.prog X.w) A (setAttr (.ref a) f u) Q E s := by
  obtain ⟨t1, ho⟩ := exo_at I.hok e
  obtain ⟨mA, hns, rel⟩ := exd_at I.hok ed
  have hw := within_of rel
  obtain ⟨cd, hc, hd'⟩ := PySem.W.any_some T.hdC
  obtain ⟨hp, g, d, t, os⟩ := s
  obtain ⟨oD, es, ep, hoD, hdD, hcD⟩ := hns.count hw
  refine PySem.W.set_plain I.kIn (od := some oD) ⟨ho, rfl, rfl, hoD⟩ T.sa ?_
  refine PySem.W.osa_openX (od := some oD) PySem.F.store_Exception I.kIn ⟨ho, rfl, rfl, hoD⟩ T.ovr htk fun b => ?_
  refine wpAny_bind (wpAny_pure (wpAny_bind (wpAny_bind (wpAny_loadPart ho (wpAny_bind ((PySem.W.looks_clsIn I.kIn hc).at ?_))))))
  rw [hd']
  refine wpAny_pure (a := some dx) ?_
  show wpAny _ _ (Builtin.ObjectAttr.storeInDict dx (.str f _) f u) _ _ _
  refine PySem.OEX.store_in_old hns hw (by rw [List.length_map]; omega) fun h' tk' hn' hs => ?_
  have hd2 : ∃ o, h'.get? dx = some o := by
    obtain ⟨o, _, _, q, _⟩ := hn'
    exact ⟨o, q⟩
  exact h _ (I.write (t' := tk') (x := dx) (e := dx) (o := exd dx ((f, y) :: fs)) (h' := h') (by rw [ed]; exact True.intro) (.inl rfl) (fun b o hb q => (hs.2 b hb).trans q) hd2 (exd_ok hn' (relO_put ry rel)))
end

/-! ### readings and rules -/
/-- self.f = e, self an exception -/
def tEst (K : PySem.W.Frag) (f : Str) (to te : TE) : TS := fun D σ H => te σ H fun y H1 => to σ H1 fun x H2 => ∃ a C : Addr, x = .ref a ∧ EcC K C ∧ PySem.W.takerIn K C f = some none ∧
  ((H2 a = some (exo a C none) ∧ ∀ dx, H2 dx = none → dx ≠ a → D.nx σ (upd (upd H2 dx (exd dx [(f, y)])) a (exo a C (some dx)))) ∨
    ∃ (dx : Addr) (fs : List (Str × V)), H2 a = some (exo a C (some dx)) ∧ H2 dx = some (exd dx fs) ∧ fs.length ≤ 900 ∧ D.nx σ (upd H2 dx (exd dx ((f, y) :: fs))))
/-- C(e, ..), an exception as a value -/
def tMkE (C : Addr) (sp : Sp) (dvs : List V) (ta : TA) : TE := fun σ H Q => ta σ H fun vs H1 => vs.length ≤ 1000 ∧ ∀ a, H1 a = none →
  sp (.ref a :: (vs ++ dvs)) (upd H1 a (exo a C none)) (fun v H2 => v = .non ∧ Q (.ref a) H2) (fun _ _ _ => False)
/-- e.f, e an exception -/
def tEf (K : PySem.W.Frag) (f : Str) (te : TE) : TE := fun σ H Q => te σ H fun x H1 => ∃ (a C dx : Addr) (fs : List (Str × V)) (v : V), x = .ref a ∧ EcC K C ∧ PySem.W.findIn K (.ref C) f = some none ∧
  H1 a = some (exo a C (some dx)) ∧ H1 dx = some (exd dx fs) ∧ fs.lookup f = some v ∧ Q v H1
section
variable {X : Cx} {o e : Expr} {es : List Expr} {to te : TE} {ta : TA} {f : Str} {p p' pos : Pos}
theorem ps_est (ho : PE X o to) (he : PE X e te) (hs : swapsWith e (some (.Attribute o f p')) pos.line X.env = pure false := by rfl) : PS X (.Assign [.Attribute o f p'] e pos) (tEst X.K f to te) := by
  refine ⟨fun pins s σ H D I h => plainObj_wpAny_Assign_Attribute (thn (he.run pins s σ H _ I h) ?_) hs⟩
  intro v s1 ⟨y, H1, I1, r1, q1⟩
  refine thn (ho.run pins s1 σ H1 _ I1 q1) ?_
  intro u s2 ⟨x, H2, I2, r2, a, C, ex, T, hno, q⟩
  subst ex
  obtain rfl : u = Value.ref a := r2
  rcases q with ⟨ea, q⟩ | ⟨dx, fs, ea, ed, hl, q⟩
  · exact est_new T I2 ea hno r1 fun dx s' n ne J => ⟨σ, _, J, q dx n ne⟩
  · exact est_old T I2 ea ed hl hno r1 fun s' J => ⟨σ, _, J, q⟩
theorem pe_ef (he : PE X e te) (hb : attributeBase e f X.env (eval e X.env) = eval e X.env := by rfl) : PE X (.Attribute e f pos) (tEf X.K f te) := by
  refine ⟨fun pins s σ H Q I h => attr_of hb (thn (he.run pins s σ H _ I h) ?_)⟩
  intro u s1 ⟨x, H1, I1, rx, a, C, dx, fs, v, ex, T, hno, ea, ed, l, q⟩
  subst ex
  obtain rfl : u = Value.ref a := rx
  obtain ⟨t1, ho⟩ := exo_at I1.hok ea
  obtain ⟨mA, hns, rel⟩ := exd_at I1.hok ed
  obtain ⟨od, hod, hl⟩ := lookIn_ns hns
  obtain ⟨w0, hu, ru⟩ := RelO.some_of (v := v) (o := mA f) (by rw [← l]; exact rel f)
  have J : PySem.W.InstAt s1.heap a _ C (some od) := ⟨ho, rfl, rfl, hod⟩
  exact HandSPX.exc_get I1.kIn J T.ga T.gg T.exC (PySem.W.findObj_own T.hdC hno rfl (by rw [hl, hu])) (handed_of ru) ⟨v, H1, I1.tok _, ru, q⟩
theorem pe_mkE {CX : CXT} {x : Str} {C fI : Addr} {k : Nat} {fd : FuncData} {ps : List Str} {sp : Sp} {ds : List Value} {dvs : List V} (T : EcC X.K C) (iC : PySem.W.findIn X.K (.ref C) "__init__" = some (some (.ref fI)))
    (tI : PySem.W.typeIn X.K (.ref fI) = some (.type "function")) (F1 : FnOk X.prog X.w X.K X.mg X.base CX k fI fd ps sp) (hr : Room (k + 1) X.A) (hb : Binds X.K fd ps ds) (hd : Vals dvs ds) (hx : Passes CX X (fun _ _ _ => False))
    (hg : Gl X x) (hm : X.mg x = some (.ref C)) (ha : PA X (e :: es) ta)
    (hdb : (x == ("__debug__" : Str)) = false := by decide) (he : starEach (e :: es) X.env = (false, eval e X.env) :: starEach es X.env := by rfl) (hpl : (backTo pos (starEach es X.env)).any (·.1) = false := by rfl) :
    PE X (.Call (.Name x p) (e :: es) [] pos) (tMkE C sp dvs ta) := by
  refine ⟨fun pins s σ H Q I h => wpAny_Call_Name_kw (ld_glob I hg hm ?_ hdb)⟩
  refine PySem.W.callWith_K (h₀ := X.base) I.ok.mod.kin T.kC (thn (ha.run pos pins s σ H _ I h) ?_) he hpl
  intro us s1 ⟨vs, H1, I1, r1, hz, q1⟩
  refine ⟨I1.kIn, ?_⟩
  show wpAny _ _ (call (.ref C) us) _ _ _
  obtain ⟨nm, N', qn, bs, bm, hdct, sn, sub, ab, col, dd, k0, k1, k2, k3, k5, hC, hT⟩ := PySem.W.excInit_of I1.kIn T.ini
  obtain ⟨hp, g, dr, tk, os⟩ := s1
  have hsz : hp.objs.size ≤ hp.objs.size + 1 := Nat.le_succ _
  have hn : H1 (hp.objs.size + 1) = none := I1.hok.fresh hsz
  have hq := q1 _ hn
  have hget : ((hp.push (PySem.W.kdv_tup us)).push (PySem.HandSPX.excO C hp.objs.size)).get? (hp.objs.size + 1) = some (PySem.HandSPX.excO C hp.objs.size) := by heap_get
  have I2 := I1.laid (t' := tk) (a := hp.objs.size + 1) (o := exo (hp.objs.size + 1) C none) (h' := (hp.push (PySem.W.kdv_tup us)).push (PySem.HandSPX.excO C hp.objs.size))
    (fun b o z => Heap.get?_push_of_some _ (Heap.get?_push_of_some _ z)) hsz (exo_ok hget)
  have r2 : Vals (V.ref (hp.objs.size + 1) :: (vs ++ dvs)) (Value.ref (hp.objs.size + 1) :: (us ++ ds)) := .cons rfl (r1.append hd)
  have hl : (Value.ref (hp.objs.size + 1) :: us ++ ds).length = ps.length := r2.length.symm.trans (F1.len _ _ _ _ hq)
  have hus : us.length ≤ sizeLine := by
    have := Paired.length r1
    rw [sizeLine_eq]
    omega
  refine wpAny_call (PySem.HandSPX.call_own PySem.F.excBase_Exception hT hC (PySem.W.looks_findIn I1.kIn iC) (fun self => PySem.W.bind_fn I1.kIn self tI) hus (codeAny_mono
    (F1.run _ X.stack _ _ ⟨Value.ref (hp.objs.size + 1) :: us, []⟩ (Value.ref (hp.objs.size + 1) :: (us ++ ds)) _ _ (fun _ _ _ => False) (hr.make C us []) (I2.env0.make C us []) (hb _ (Value.ref (hp.objs.size + 1) :: us) I2.kIn hl) r2 hq) ?_))
  intro r s' hq'
  cases r with
  | error er => exact hx pins σ _ _ er s' I2 hq'
  | ok fl =>
    cases fl with
    | ret u =>
      obtain ⟨v, H2, os2, bare2, un2, hok2, rv, ev, q2⟩ := hq'
      subst ev
      obtain ⟨h2, g2, d2, t2, os'⟩ := s'
      refine ⟨rv, V.ref (hp.objs.size + 1), H2, I2.call' (ch := []) os2 un2 hok2 bare2 (fun b z => absurd z (by simp)), rfl, q2⟩
    | next => exact False.elim hq'
    | brk => exact False.elim hq'
    | cont => exact False.elim hq'
/-- isinstance(e, c), e an exception, one class -/
def rIsiE (K : PySem.W.Frag) : List V → Hp → VK → Prop := fun xs H Q => ∃ (a C dx : Addr) (fs : List (Str × V)) (c : V) (u : Value) (b : Bool), xs = [.ref a, c] ∧ H a = some (exo a C (some dx)) ∧ H dx = some (exd dx fs) ∧ EcC K C ∧ ClsV c u ∧
  PySem.W.kitOne K (.ref C) u = some b ∧ Q (.bl b) H
/-- isinstance(e, (c1, c2, ..)), the tuple just laid -/
def rIsiET (K : PySem.W.Frag) : List V → Hp → VK → Prop := fun xs H Q => ∃ (a C dx tp : Addr) (fs : List (Str × V)) (cs : List V) (us : List Value) (b : Bool), xs = [.ref a, .ref tp] ∧ H a = some (exo a C (some dx)) ∧ H dx = some (exd dx fs) ∧ EcC K C ∧
  H tp = some (.tup cs) ∧ Paired ClsV cs us ∧ PySem.W.kitAny K (.ref C) us = some b ∧ Q (.bl b) H
theorem kit_exc {K : PySem.W.Frag} {C : Addr} (T : EcC K C) {x : Addr} {ox : Obj} {od : Option Obj} : PySem.W.KitX K (.ref x) (.ref C) (fun h => PySem.W.InstAt h x ox C od) :=
  PySem.W.kitx_exc T.cl T.ga T.gg T.exC T.cA T.sp T.tk T.mo
theorem call_isiE : CallR X (.builtin "isinstance") (rIsiE X.K) := by
  intro pins s σ H xs us Q I r h
  obtain ⟨a, C, dx, fs, c, u, b, rfl, ea, ed, T, k, e, q⟩ := h
  obtain ⟨u1, u2, rfl, r1, r2⟩ := vals2 r
  obtain rfl := k.eq r2
  obtain rfl : u1 = Value.ref a := r1
  obtain ⟨t1, ho⟩ := exo_at I.hok ea
  obtain ⟨mA, hns, rel⟩ := exd_at I.hok ed
  obtain ⟨od, hod, _⟩ := lookIn_ns hns
  exact PySem.W.kia_one (kit_exc T (od := some od)) I.kIn ⟨ho, rfl, rfl, hod⟩ e (fun z => nomatch z) fun tk => ⟨.bl b, H, I.tok tk, rfl, q⟩
theorem call_isiET : CallR X (.builtin "isinstance") (rIsiET X.K) := by
  intro pins s σ H xs us Q I r h
  obtain ⟨a, C, dx, tp, fs, cs, vs, b, rfl, ea, ed, T, et, pr, e, q⟩ := h
  obtain ⟨u1, u2, rfl, r1, r2⟩ := vals2 r
  obtain rfl : u1 = Value.ref a := r1
  obtain rfl : u2 = Value.ref tp := r2
  obtain ⟨t1, ho⟩ := exo_at I.hok ea
  obtain ⟨mA, hns, rel⟩ := exd_at I.hok ed
  obtain ⟨od, hod, _⟩ := lookIn_ns hns
  have z : ObjOk X.prog X.w H s.heap tp (.tup cs) := I.hok tp _ et
  obtain ⟨_, its, rv, o, h1, h2, n, h3⟩ := z
  obtain rfl := ClsV.all pr rv
  obtain ⟨oc, od', dt, sl⟩ := o
  dsimp only at h2 h3
  subst h2 h3
  exact PySem.W.kia_tup (kit_exc T (od := some od)) I.kIn ⟨ho, rfl, rfl, hod⟩ h1 e (fun z => nomatch z) fun tk => ⟨.bl b, H, I.tok tk, rfl, q⟩
end
/-- plain data, or a dict of one int -/
inductive Rp (K : PySem.W.Frag) (H : Hp) : V → PyData → Prop where
  | dp {v : V} {d : PyData} : Dp K H v d → d.hasDict = false → Rp K H v d
  | dic {a : Addr} {k n : Int} : H a = some (.dK [(Sum.inl k, .int n)]) → Rp K H (.ref a) (.dict [(.int k, .int n)])
  | dis {a : Addr} {k : Str} {n : Int} : H a = some (.dK [(Sum.inr k, .int n)]) → Rp K H (.ref a) (.dict [(.str k, .int n)])
def rRepr (K : PySem.W.Frag) : List V → Hp → VK → Prop := fun xs H Q => ∃ (x : V) (d : PyData), xs = [x] ∧ Rp K H x d ∧ d.showable = true ∧ d.depth ≤ 60 ∧ d.shown.length ≤ sizeLine ∧ Q (.str d.shown) H
section
variable {X : Cx} {pins : List (Addr × Obj)} {σ : L2.St} {H : Hp} {s : Shared}
theorem Rp.reads (I : Inv X pins σ H s) {v : V} {d : PyData} {u : Value} (h : Rp X.K H v d) (r : RelV v u) : ∃ as, Reads s.heap u d as ∧ (d.hasDict = true → sysModules ∉ as) := by
  cases h with
  | dp h nd =>
    obtain ⟨as, q⟩ := Dp.reads I d v u h r
    exact ⟨as, q, fun z => by rw [nd] at z; cases z⟩
  | @dic a k n e =>
    obtain rfl : u = Value.ref a := r
    have z : ObjOk X.prog X.w H s.heap a (.dK [(Sum.inl k, .int n)]) := I.hok a _ e
    obtain ⟨_, hsm, vs, kv, o, es, ep, ho, hx, hd, _, hp, _⟩ := z
    cases kv with
    | @cons _ q0 _ qs k1 kr =>
      cases kr
      obtain ⟨ek, rv⟩ := k1
      obtain ⟨kk, vv⟩ := q0
      dsimp only at ek rv
      subst ek
      obtain ⟨t, rfl⟩ : ∃ t, vv = Value.int n t := rv
      generalize el : es.toList = l at hp
      cases hp with
      | @cons e1 kv1 es1 kvs1 p1 p2 p3 =>
        cases p3
        obtain ⟨hsh, key, val⟩ := e1
        dsimp only at p1 p2
        subst p2
        have p1 : Value.isInt k key = true := p1
        obtain ⟨t2, rfl⟩ : ∃ t2, key = Value.int k t2 := by
          cases key <;> simp_all [Value.isInt]
        refine ⟨a :: [] ++ [], Reads.dict ho hx.1 hd (as := []) (bs := []) ?_ ?_, fun _ z => ?_⟩
        · rw [el]
          exact ReadsAll.cons (bs := []) (Reads.int k t2) ReadsAll.nil
        · rw [el]
          exact ReadsAll.cons (bs := []) (Reads.int n t) ReadsAll.nil
        · rw [List.append_nil, List.mem_singleton] at z
          rw [z] at hsm
          simp at hsm
  | @dis a k n e =>
    obtain rfl : u = Value.ref a := r
    have z : ObjOk X.prog X.w H s.heap a (.dK [(Sum.inr k, .int n)]) := I.hok a _ e
    obtain ⟨_, hsm, vs, kv, o, es, ep, ho, hx, hd, _, hp, _⟩ := z
    cases kv with
    | @cons _ q0 _ qs k1 kr =>
      cases kr
      obtain ⟨ek, rv⟩ := k1
      obtain ⟨kk, vv⟩ := q0
      dsimp only at ek rv
      subst ek
      obtain ⟨t, rfl⟩ : ∃ t, vv = Value.int n t := rv
      generalize el : es.toList = l at hp
      cases hp with
      | @cons e1 kv1 es1 kvs1 p1 p2 p3 =>
        cases p3
        obtain ⟨hsh, key, val⟩ := e1
        dsimp only at p1 p2
        subst p2
        have p1 : Value.isStrOf k key = true := p1
        obtain ⟨t2, rfl⟩ := Value.isStrOf_shape p1
        refine ⟨a :: [] ++ [], Reads.dict ho hx.1 hd (as := []) (bs := []) ?_ ?_, fun _ z => ?_⟩
        · rw [el]
          exact ReadsAll.cons (bs := []) (Reads.str k t2) ReadsAll.nil
        · rw [el]
          exact ReadsAll.cons (bs := []) (Reads.int n t) ReadsAll.nil
        · rw [List.append_nil, List.mem_singleton] at z
          rw [z] at hsm
          simp at hsm
theorem call_reprD (hg : X.A.guards = some []) (hu : X.A.units + 70 < cLine) : CallR X (.builtin "repr") (rRepr X.K) := by
  intro pins s σ H xs us Q I r h
  obtain ⟨x, d, rfl, hR, hs, hdp, hz, q⟩ := h
  obtain ⟨u, rfl, ru⟩ := vals1 r
  obtain ⟨as, hr, hsm⟩ := hR.reads I ru
  have sc : ∀ (b : Str), d.shown = b → ∀ tk, EP X pins σ Q (.str b tk) { s with toks := s.toks + 1 } := fun b e tk => ⟨.str b, H, I.tok _, ⟨_, rfl⟩, e ▸ q⟩
  cases hr with
  | none => exact PySem.P.repr_of_none (sc _ rfl _)
  | bool b => exact PySem.P.repr_of_bool (sc _ (by cases b <;> rfl) _)
  | int i t => exact PySem.P.repr_of_int (of_decide_eq_true hs) (sc _ rfl _)
  | str y t => exact PySem.P.repr_of_str (sc _ rfl _) hz
  | list h1 h2 h3 h4 =>
    refine repr_of_reads' (Reads.list h1 h2 h3 h4) hs hsm hg (by omega) (fun _ _ e => e) (fun h' u tk k => ?_) hz
    exact ⟨.str _, H, I.kept k, ⟨_, rfl⟩, q⟩
  | tuple h1 h2 h3 h4 =>
    refine repr_of_reads' (Reads.tuple h1 h2 h3 h4) hs hsm hg (by omega) (fun _ _ e => e) (fun h' u tk k => ?_) hz
    exact ⟨.str _, H, I.kept k, ⟨_, rfl⟩, q⟩
  | dict h1 h2 h3 h4 h5 =>
    refine repr_of_reads' (Reads.dict h1 h2 h3 h4 h5) hs hsm hg (by omega) (fun _ _ e => e) (fun h' u tk k => ?_) hz
    exact ⟨.str _, H, I.kept k, ⟨_, rfl⟩, q⟩
end

/-! ### a def at one call, what runs around it known (so repr of what holds other things may be said) -/
theorem fn_at {P : Program} {w : World} {K : PySem.W.Frag} {mg : Str → Option Value} {base : Heap} {k : Nat} {x qual : Str} {st : Stmt} {f : Addr} {fd : FuncData} {N ps : List Str} (F : Fun K x qual st f fd) (S : FnScope N ps (defScope st))
    {A : Around} {outer : List Env} {s : Shared} {H : Hp} {args : Args} {us : List Value} {vs : List V} {Q : VK} {E : XK} (hr : Room (k + 1) A) (e0 : Env0 P w K mg base A outer s H) (hb : BindsTo s fd args (ps.zip us)) (rv : Vals vs us) (hl : vs.length = ps.length)
    (body : ∀ cdv : Value, Room k (A.deeper (envOfC qual (defScope st) s.heap.objs.size f cdv)) → ∃ t, PSs (cxOf CX0 P w K mg base N qual (defScope st) f cdv A outer s H E) (defBody st) t ∧ t { nx := fun _ H' => Q .non H', rt := Q } (start N vs) H) :
    codeAny (model P w) A (.call (.ref f) args) (CR CX0 outer P w H s Q E) s := by
  obtain ⟨oc, od, kV, doc, pm, an, cdv, ct, osl, rfl, lk, hcd⟩ := F.ex
  have kin : K.In s.heap := e0.mod.kin.keeps fun b o z => (e0.bs b o z).1
  have lim : s.heap.NoLimit := e0.mod.nolimit.keeps fun b o z => (e0.bs b o z).1
  have par : ∀ y ∈ ps.zip us, (defScope st).names.lookup y.1 = some .local ∨ ((defScope st).names.lookup y.1 = some .cell ∧ ((cellsFrom (s.heap.objs.size + 1) (defScope st).names []).lookup y.1).isSome = true) := by
    rintro ⟨n, v⟩ hy
    cases S.par n (List.of_mem_zip hy).1 with
    | inl q => exact .inl q
    | inr q => exact .inr ⟨q, PySem.W.cellsFrom_some _ _ _ (.inl q)⟩
  refine codeAny_call_function hr.depth (kin _ _ lk) rfl S.co S.gen rfl (PySem.W.codeRec_of kin hcd) (hb _ _ _ _ (wpAny_newFunctionEnv_cells S.kind par ?_))
  rintro env he s1 hin
  subst he
  refine ⟨lim.keeps hin.toInCall.keep, codeAny_func ?_⟩
  obtain ⟨t, ht, hq⟩ := body cdv (hr.deeper _)
  refine wpAny_mono (ht.run [] s1 (start N vs) H _ (inv_start S hr.hd e0 hl rv hin) hq) ?_ fun _ _ z => z
  rintro fl s' hs
  cases fl with
  | next =>
    obtain ⟨σ', H', J, q⟩ := hs
    exact ⟨V.non, H', J.os, J.bare, J.base, J.hok, rfl, q⟩
  | ret u =>
    obtain ⟨v, σ', H', J, r, q⟩ := hs
    exact ⟨v, H', J.os, J.bare, J.base, J.hok, r, q⟩
  | brk =>
    obtain ⟨_, _, _, q⟩ := hs
    exact q.elim
  | cont =>
    obtain ⟨_, _, _, q⟩ := hs
    exact q.elim
/-- the law's end, the law's own call met at callerA -/
theorem walkG {l : PySem.W.OpenLaw} {n : Nat} {q : Program} {loose : List Str} {XP : (Str → Option Value) → Heap → Prop} {YP : World → Heap → Prop} {d : DefRec} {K : Params → PySem.W.Frag}
    (hn : l.most = some n) (hn2 : n ≤ sizeLine) (hdf : d.params.defaults = []) (hY : ∀ (w : World) (h : Heap), YP w h → (K w.params).In h)
    (F : ∀ (w : World) (mg : Str → Option Value) (fa : Addr) (h : Heap), (K w.params).In h → h.Ns mainGlobals mg → mg d.name = some (.ref fa) →
      ∀ base : Heap, (K w.params).In base → base.Ns mainGlobals mg → ∀ (s : Shared) (H : Hp) (a : Addr) (ns : List Int), ns.length ≤ n → SqL (K w.params) H a (ns.map V.int) → Env0 l.prog w (K w.params) mg base callerA [] s H →
        codeAny (model l.prog w) callerA (.call (.ref fa) ⟨[.ref a], []⟩) (CR CX0 [] l.prog w H s (fun v _ => v = .bl true) E0) s) :
    PySem.W.WalkO q loose XP YP l.row.toRowW d [] (fun f vs => PySem.call f vs) := by
  refine Att.attach_call hn hdf ?_
  intro w s₀ s₁ mg mb fa o pm cd doc a vs ns G Y ho hd hcd hmg hobj hints hlen hg
  have kin := hY w _ Y
  have rv := vals_ints hints
  have lv := hints.length
  have key : ∀ H : Hp, Only H → SqL (K w.params) H a (ns.map V.int) → HOk l.prog w H s₁.heap → (∀ b, H b ≠ none → b = a) → (H a ≠ none → (K w.params).lookup a = none) →
      codeAny (model l.prog w) callerA (.call (.ref fa) ⟨[.ref a], []⟩) (fun r s' => r = .ok (.ret (.bool true)) ∧ OldK s₁.heap s'.heap ∧ s'.os = s₁.os ∧ AllBare s'.gens) s₁ := by
    intro H only sq hok onlyA notK
    have freeD : ∀ {b : Addr} {o : Obj} {es : Array DictEntry} {ep : Nat}, s₁.heap.get? b = some o → o.data = .dict es ep → H b = none := by
      intro b o es ep e1 e2
      cases h : H b with
      | none => rfl
      | some u =>
        have e3 : b = a := onlyA b (by rw [h]; exact fun z => nomatch z)
        rw [e3, hobj] at e1
        cases e1
        cases e2
    have nsB : ∀ {b : Addr} {m : Str → Option Value}, s₁.heap.Ns b m → (hidT s₁.heap H).Ns b m := by
      rintro b m ⟨o, es, ep, e1, e2, r⟩
      exact ⟨o, es, ep, hidT_get e1 (freeD e1 e2), e2, r⟩
    have kinB : (K w.params).In (hidT s₁.heap H) := by
      intro b o e
      refine hidT_get (kin b o e) ?_
      cases h : H b with
      | none => rfl
      | some u =>
        have e3 : b = a := onlyA b (by rw [h]; exact fun z => nomatch z)
        rw [e3, notK (by rw [← e3, h]; exact fun z => nomatch z)] at e
        cases e
    have e0 : Env0 l.prog w (K w.params) mg (hidT s₁.heap H) callerA [] s₁ H := by
      refine ⟨rfl, ⟨kinB, nsB G.T.g, ⟨mb, nsB G.T.b, G.T.builtins⟩, ?_⟩, fun b o e => of_hidT e, Nat.le_of_eq (hidT_size _ _), trivial, (fun b hb => absurd hb (List.not_mem_nil)), hok, .of_eq hg⟩
      obtain ⟨mc, h1, h2⟩ := G.T.nolimit
      exact ⟨mc, nsB h1, h2⟩
    refine codeAny_mono (F w mg fa _ kin G.T.g hmg _ kinB (nsB G.T.g) s₁ H a ns hlen sq e0) ?_
    intro r s' z
    cases r with
    | error e => exact z.elim
    | ok fl =>
      cases fl with
      | next => exact z.elim
      | brk => exact z.elim
      | cont => exact z.elim
      | ret u =>
        obtain ⟨v, H', os, bare, un, hok', rr, qq⟩ := z
        subst qq
        obtain rfl : u = Value.bool true := rr
        refine ⟨rfl, OldK.of_keep ?_, os, bare⟩
        intro b o e
        rcases only b with h | ⟨ob, xs, h⟩
        · exact un.keep b o e h (fun z => nomatch z) (fun z => nomatch z)
        · have h1 := (hok b _ h).1
          have h2 := (hok' b _ (un.frzs b ob _ h)).1
          rw [e] at h1
          cases h1
          exact h2
  have hz : ns.length ≤ sizeLine := Nat.le_trans hlen hn2
  cases hk : (K w.params).lookup a with
  | some o =>
    have e := kin a o hk
    rw [hobj] at e
    cases e
    refine key (fun _ => none) (fun _ => .inl rfl) (.inr ⟨_, vs.toArray, _, hk, rfl, rfl, rfl, ?_, ?_⟩) (fun _ _ z => nomatch z) (fun _ z => absurd rfl z) fun z => absurd rfl z
    · rw [List.size_toArray, lv]
      exact hz
    · simpa using rv
  | none =>
    have hs : ∀ b u, (if b = a then some (HO.frz { cls := .type "list", data := .seq vs.toArray } (.lst (ns.map V.int))) else none) = some u → b = a ∧ u = HO.frz { cls := .type "list", data := .seq vs.toArray } (.lst (ns.map V.int)) := by
      intro b u z
      by_cases hb : b = a
      · rw [if_pos hb] at z
        exact ⟨hb, (Option.some.inj z).symm⟩
      · rw [if_neg hb] at z
        cases z
    refine key (fun b => if b = a then some (.frz { cls := .type "list", data := .seq vs.toArray } (.lst (ns.map V.int))) else none) ?_ (.inl (.inr ⟨_, if_pos rfl⟩)) ?_ ?_ fun _ => hk
    · intro b
      by_cases hb : b = a
      · exact .inr ⟨_, _, if_pos hb⟩
      · exact .inl (if_neg hb)
    · intro b u z
      obtain ⟨rfl, rfl⟩ := hs b u z
      exact ⟨hobj, by rw [List.length_map]; exact hz, vs, _, rv, hobj⟩
    · intro b z
      cases h : (if b = a then some (HO.frz { cls := .type "list", data := .seq vs.toArray } (.lst (ns.map V.int))) else none) with
      | none => exact absurd h z
      | some u => exact (hs b u h).1

/-! ### defs and exception classes of the text, each as one fact -/
structure DefAt (P : Program) (w : World) (K : PySem.W.Frag) (mg : Str → Option Value) (base : Heap) (k : Nat) (x : Str) (ps : List Str) (sp : Sp) : Prop where
  ex : ∃ (f : Addr) (fd : FuncData), FnOk P w K mg base CX0 k f fd ps sp ∧ mg x = some (.ref f) ∧ PySem.W.keepIn K (.ref f) = true ∧ Binds K fd ps []
structure XcAt (P : Program) (w : World) (K : PySem.W.Frag) (mg : Str → Option Value) (base : Heap) (x : Str) (ps : List Str) (C : Addr) (sp : Sp) : Prop where
  T : EcC K C
  m : mg x = some (.ref C)
  ex : ∃ (fI : Addr) (fd : FuncData), PySem.W.findIn K (.ref C) "__init__" = some (some (.ref fI)) ∧ PySem.W.typeIn K (.ref fI) = some (.type "function") ∧ FnOk P w K mg base CX0 1 fI fd ps sp ∧ Binds K fd ps []
section
variable {X : Cx} {e : Expr} {es : List Expr} {ta : TA} {p pos : Pos} {x : Str} {k : Nat} {ps : List Str} {sp : Sp} {C : Addr}
theorem pe_callD (D : DefAt X.prog X.w X.K X.mg X.base k x ps sp) (hr : Room k X.A) (ha : PA X (e :: es) ta) (hg : Gl X x := by rfl) (hdb : (x == ("__debug__" : Str)) = false := by decide)
    (he : starEach (e :: es) X.env = (false, eval e X.env) :: starEach es X.env := by rfl) (hpl : (backTo pos (starEach es X.env)).any (·.1) = false := by rfl) : PE X (.Call (.Name x p) (e :: es) [] pos) (tCall sp [] E0 ta) := by
  obtain ⟨f, fd, F, m, kp, b⟩ := D.ex
  exact pe_call F hr hg m kp b .nil pass0 ha hdb he hpl
theorem pe_mkD (D : XcAt X.prog X.w X.K X.mg X.base x ps C sp) (hr : Room 2 X.A) (ha : PA X (e :: es) ta) (hg : Gl X x := by rfl) (hdb : (x == ("__debug__" : Str)) = false := by decide)
    (he : starEach (e :: es) X.env = (false, eval e X.env) :: starEach es X.env := by rfl) (hpl : (backTo pos (starEach es X.env)).any (·.1) = false := by rfl) : PE X (.Call (.Name x p) (e :: es) [] pos) (tMkE C sp [] ta) := by
  obtain ⟨fI, fd, iC, tI, F, b⟩ := D.ex
  exact pe_mkE D.T iC tI F hr b .nil (fun _ _ _ _ _ _ _ h => h.elim) hg D.m ha hdb he hpl
theorem pe_cls (D : XcAt X.prog X.w X.K X.mg X.base x ps C sp) (hg : Gl X x := by rfl) (hd : (x == ("__debug__" : Str)) = false := by decide) : PE X (.Name x pos) (tC (.ref C)) := pe_glob hg D.m rfl hd
end
/-- __init__(self, f): self.f = f -/
def spI1 (K : PySem.W.Frag) (C : Addr) (f : Str) : Sp := fun vs H Q _ => ∃ (a : Addr) (v : V), vs = [.ref a, v] ∧ H a = some (exo a C none) ∧ ∀ dx, H dx = none → dx ≠ a → Q .non (upd (upd H dx (exd dx [(f, v)])) a (exo a C (some dx)))
/-- __init__(self, f, g): self.f = f; self.g = g -/
def spI2 (K : PySem.W.Frag) (C : Addr) (f g : Str) : Sp := fun vs H Q _ => ∃ (a : Addr) (v u : V), vs = [.ref a, v, u] ∧ H a = some (exo a C none) ∧
  ∀ dx, H dx = none → dx ≠ a → Q .non (upd (upd (upd H dx (exd dx [(f, v)])) a (exo a C (some dx))) dx (exd dx [(g, u), (f, v)]))
theorem Same.upd {H : Hp} {p : Addr} {o : HO} (h : H p = none) : Same H (L2.upd H p o) := fun b u e => by
  rw [upd_ne (ne_of_none e h)]
  exact e
theorem mk1 {K : PySem.W.Frag} {C : Addr} {f : Str} {v : V} {H : Hp} {Q : V → Hp → Prop} (h : ∀ a d H', Same H H' → H' a = some (exo a C (some d)) → H' d = some (exd d [(f, v)]) → Q (.ref a) H') :
    [v].length ≤ 1000 ∧ ∀ a, H a = none → spI1 K C f (.ref a :: ([v] ++ [])) (upd H a (exo a C none)) (fun x H2 => x = .non ∧ Q (.ref a) H2) (fun _ _ _ => False) := by
  refine ⟨by show 1 ≤ 1000; decide, fun a ha => ⟨a, v, rfl, upd_same, fun d hd hne => ⟨rfl, h a d _ ?_ upd_same ?_⟩⟩⟩
  · have hd0 : H d = none := by rw [upd_ne hne] at hd; exact hd
    intro b o e
    rw [upd_ne (ne_of_none e ha), upd_ne (ne_of_none e hd0), upd_ne (ne_of_none e ha)]
    exact e
  · rw [upd_ne hne, upd_same]
theorem mk2 {K : PySem.W.Frag} {C : Addr} {f g : Str} {v u : V} {H : Hp} {Q : V → Hp → Prop} (h : ∀ a d H', Same H H' → H' a = some (exo a C (some d)) → H' d = some (exd d [(g, u), (f, v)]) → Q (.ref a) H') :
    [v, u].length ≤ 1000 ∧ ∀ a, H a = none → spI2 K C f g (.ref a :: ([v, u] ++ [])) (upd H a (exo a C none)) (fun x H2 => x = .non ∧ Q (.ref a) H2) (fun _ _ _ => False) := by
  refine ⟨by show 2 ≤ 1000; decide, fun a ha => ⟨a, v, u, rfl, upd_same, fun d hd hne => ⟨rfl, h a d _ ?_ ?_ upd_same⟩⟩⟩
  · have hd0 : H d = none := by rw [upd_ne hne] at hd; exact hd
    intro b o e
    rw [upd_ne (ne_of_none e hd0), upd_ne (ne_of_none e ha), upd_ne (ne_of_none e hd0), upd_ne (ne_of_none e ha)]
    exact e
  · rw [upd_ne (Ne.symm hne), upd_same]
/-- a new object, the heap from then on a letter -/
theorem new1 {o : HO} {H : Hp} {Q : V → Hp → Prop} (h : ∀ p H', Same H H' → H' p = some o → Q (.ref p) H') : ∀ p, H p = none → Q (.ref p) (upd H p o) := fun p hp => h p _ (Same.upd hp) upd_same
/-- exceptions that stand: their classes and fields -/
def AllX (H : Hp) (cs : List (Addr × List (Str × V))) (as : List (Addr × Addr)) : Prop := Paired (fun (c : Addr × List (Str × V)) (x : Addr × Addr) => H x.1 = some (exo x.1 c.1 (some x.2)) ∧ H x.2 = some (exd x.2 c.2)) cs as
theorem AllX.mono {H H' : Hp} (s : Same H H') : ∀ {cs : List (Addr × List (Str × V))} {as : List (Addr × Addr)}, AllX H cs as → AllX H' cs as
  | _, _, .nil => .nil
  | _, _, .cons h t => .cons ⟨s _ _ h.1, s _ _ h.2⟩ (AllX.mono s t)
theorem AllX.snoc {H : Hp} {c : Addr × List (Str × V)} {a d : Addr} (h1 : H a = some (exo a c.1 (some d))) (h2 : H d = some (exd d c.2)) : ∀ {cs : List (Addr × List (Str × V))} {as : List (Addr × Addr)}, AllX H cs as → AllX H (cs ++ [c]) (as ++ [(a, d)])
  | _, _, .nil => .cons ⟨h1, h2⟩ .nil
  | _, _, .cons h t => .cons h (AllX.snoc h1 h2 t)
theorem rd_mk1 {K : PySem.W.Frag} {C : Addr} {f : Str} {σ : L2.St} {i : Nat} {v : V} {H : Hp} {Q : V → Hp → Prop} (hv : σ[i]? = some (some v)) (h : ∀ a d H', Same H H' → H' a = some (exo a C (some d)) → H' d = some (exd d [(f, v)]) → Q (.ref a) H') :
    tMkE C (spI1 K C f) [] (tCons (tVar i) tNil) σ H Q := ⟨v, hv, mk1 h⟩
theorem rd_mk2 {K : PySem.W.Frag} {C : Addr} {f g : Str} {σ : L2.St} {i : Nat} {v u : V} {H : Hp} {Q : V → Hp → Prop} (hv : σ[i]? = some (some v)) (h : ∀ a d H', Same H H' → H' a = some (exo a C (some d)) → H' d = some (exd d [(g, u), (f, v)]) → Q (.ref a) H') :
    tMkE C (spI2 K C f g) [] (tCons (tVar i) (tCons (tC u) tNil)) σ H Q := ⟨v, hv, mk2 h⟩
theorem rd_mk2' {K : PySem.W.Frag} {C : Addr} {f g : Str} {σ : L2.St} {i : Nat} {v u : V} {H : Hp} {Q : V → Hp → Prop} (hv : σ[i]? = some (some v)) (h : ∀ a d H', Same H H' → H' a = some (exo a C (some d)) → H' d = some (exd d [(g, v), (f, u)]) → Q (.ref a) H') :
    tMkE C (spI2 K C f g) [] (tCons (tC u) (tCons (tVar i) tNil)) σ H Q := ⟨v, hv, mk2 h⟩
theorem rd_lst {ta : TA} {σ : L2.St} {H : Hp} {Q : V → Hp → Prop} (h : ta σ H fun xs H1 => xs.length ≤ sizeLine ∧ ∀ p H', Same H1 H' → H' p = some (.lst xs) → Q (.ref p) H') (mono : ∀ σ H (R R' : List V → Hp → Prop), (∀ xs H1, R xs H1 → R' xs H1) → ta σ H R → ta σ H R') : tLst ta σ H Q :=
  mono _ _ _ _ (fun xs H1 z => ⟨z.1, new1 z.2⟩) h
/-! ### a reading opened by one combinator -/
section
variable {D : Ends} {σ : L2.St} {H : Hp} {Q : V → Hp → Prop} {QL : List V → Hp → Prop} {t u : TS} {te to' tb : TE} {ta tl : TA} {g : TG} {r : R2}
theorem rd_seq (h : t { D with nx := u D } σ H) : tSeq t u D σ H := h
theorem rd_asg (h : te σ H fun x H1 => g x σ H1 D.nx) : tAsg te g D σ H := h
theorem rd_ret (h : te σ H D.rt) : tRet te D σ H := h
theorem rd_disp (h : ta σ H fun xs H1 => xs.length ≤ sizeLine ∧ ∀ p, H1 p = none → Q (.ref p) (upd H1 p (.lst xs))) : tLst ta σ H Q := h
theorem rd_cons (h : te σ H fun x H1 => tl σ H1 fun xs H2 => QL (x :: xs) H2) : tCons te tl σ H QL := h
theorem rd_nil (h : QL [] H) : tNil σ H QL := h
theorem rd_op (h : te σ H fun x H1 => tb σ H1 fun y H2 => r x y H2 Q) : tOp r te tb σ H Q := h
theorem rd_var {i : Nat} {v : V} (hv : σ[i]? = some (some v)) (h : Q v H) : tVar i σ H Q := ⟨v, hv, h⟩
theorem rd_c {v : V} (h : Q v H) : tC v σ H Q := h
end
section
variable {D : Ends} {σ : L2.St} {H : Hp} {Q : V → Hp → Prop} {QB : Bool → Hp → Prop} {te : TE} {ta : TA} {tc : TT} {t u : TS} {r : List V → Hp → VK → Prop} {K : PySem.W.Frag} {f : Str}
theorem rd_if (h : tc σ H fun b H1 => if b = true then t D σ H1 else u D σ H1) : tIfS tc t u D σ H := h
theorem rd_test (h : te σ H fun x H' => ∃ k, x = .bl k ∧ QB k H') : tTest te σ H QB := h
theorem rd_cb (h : ta σ H fun vs H1 => r vs H1 Q) : tCB r ta σ H Q := h
theorem rd_ef (h : te σ H fun x H1 => ∃ (a C dx : Addr) (fs : List (Str × V)) (v : V), x = .ref a ∧ EcC K C ∧ PySem.W.findIn K (.ref C) f = some none ∧ H1 a = some (exo a C (some dx)) ∧ H1 dx = some (exd dx fs) ∧ fs.lookup f = some v ∧ Q v H1) : tEf K f te σ H Q := h
end
end EX
set_option Elab.async false
set_option linter.all false
set_option maxRecDepth 100000
set_option maxHeartbeats 4000000
namespace EX
open PySem L2 PyProof.Rows
/-- the eight objects, n the drawn number, each with what it is as plain data -/
inductive ItemOk (H : Hp) (n : Int) : V → PyData → Prop where
  | int : ItemOk H n (.int n) (.int n)
  | non : ItemOk H n .non .none
  | bl : ItemOk H n (.bl true) (.bool true)
  | str : ItemOk H n (.str "text") (.str "text")
  | tup {t : Addr} (h : H t = some (.tup [.int 1, .int 2])) : ItemOk H n (.ref t) (.tuple [.int 1, .int 2])
  | lst {t : Addr} (h : H t = some (.lst [.int n])) : ItemOk H n (.ref t) (.list [.int n])
  | dic {t : Addr} (h : H t = some (.dK [(Sum.inl 1, .int n)])) : ItemOk H n (.ref t) (.dict [(.int 1, .int n)])
  | nil {t : Addr} (h : H t = some (.tup [])) : ItemOk H n (.ref t) (.tuple [])
theorem ItemOk.mono {H H' : Hp} {n : Int} {v : V} {d : PyData} (s : Same H H') (h : ItemOk H n v d) : ItemOk H' n v d := by
  cases h with
  | int => exact .int
  | non => exact .non
  | bl => exact .bl
  | str => exact .str
  | tup h => exact .tup (s _ _ h)
  | lst h => exact .lst (s _ _ h)
  | dic h => exact .dic (s _ _ h)
  | nil h => exact .nil (s _ _ h)
theorem ItemOk.rp {K : PySem.W.Frag} {H : Hp} {n : Int} {v : V} {d : PyData} (h : ItemOk H n v d) : Rp K H v d := by
  cases h with
  | int => exact .dp (.int n) rfl
  | non => exact .dp .non rfl
  | bl => exact .dp (.bl true) rfl
  | str => exact .dp (.str _) rfl
  | tup h => exact .dp (.tup (SqT.of h) (.cons (.int 1) (.cons (.int 2) .nil))) (by decide)
  | lst h => exact .dp (.lst (SqL.of h) (.cons (.int n) .nil)) rfl
  | dic h => exact .dic h
  | nil h => exact .dp (.tup (SqT.of h) .nil) rfl
theorem ItemOk.small {H : Hp} {n : Int} {v : V} {d : PyData} (h : ItemOk H n v d) (h0 : -500 ≤ n) (h1 : n < 1000000) : d.showable = true ∧ d.depth ≤ 60 ∧ d.shown.length ≤ sizeLine := by
  have hn : (toString n).length ≤ 8 := int_text_length_le10 (k := 7) (by decide) (by omega)
  have hl : n.natAbs.log2 < 1920 := Nat.lt_of_lt_of_le (PySem.Flt.log2_lt_of (k := 20) (by decide) (by omega)) (by decide)
  have hs : PyData.showable (.int n) = true := by
    show decide (n.natAbs.log2 < 1920) = true
    exact decide_eq_true hl
  have hz : (PyData.shown (.int n)).length ≤ 8 := by
    show (Str.ofString (toString n)).length ≤ 8
    rw [PySem.ofString_length]
    exact hn
  cases h with
  | int => exact ⟨hs, (show 0 ≤ 60 by decide), Nat.le_trans hz (by decide)⟩
  | non => exact ⟨rfl, by decide, by decide +kernel⟩
  | bl => exact ⟨rfl, by decide, by decide +kernel⟩
  | str => exact ⟨rfl, by decide, by decide +kernel⟩
  | tup h => exact ⟨by decide +kernel, by decide, by decide +kernel⟩
  | lst h =>
    refine ⟨by show (PyData.showable (.int n) && true) = true; rw [hs]; rfl, (show 0 + 1 ≤ 60 by decide), ?_⟩
    show (listText [PyData.shown (.int n)]).length ≤ sizeLine
    show ((((("[" : Str) ++ ("" : String)) ++ PyData.shown (.int n)) ++ "]" : Str)).length ≤ sizeLine
    rw [strLen_append, strLen_append, strLen_append]
    have e1 : ("[" : Str).length = 1 := rfl
    have e2 : ((("" : String) : Str)).length = 0 := rfl
    have e3 : ((("]" : String) : Str)).length = 1 := rfl
    rw [sizeLine_eq]
    omega
  | dic h =>
    refine ⟨by show (PyData.showable (.int 1) && PyData.showable (.int n) && true) = true; rw [hs]; rfl, (show 0 + 1 ≤ 60 by decide), ?_⟩
    show (dictText [PyData.shown (.int 1) ++ ": " ++ PyData.shown (.int n)]).length ≤ sizeLine
    show (((("{" : Str) ++ (PyData.shown (.int 1) ++ ": " ++ PyData.shown (.int n))) ++ "}" : Str)).length ≤ sizeLine
    rw [strLen_append, strLen_append, strLen_append, strLen_append]
    have e1 : ("{" : Str).length = 1 := rfl
    have e2 : (PyData.shown (.int 1)).length = 1 := by decide +kernel
    have e3 : (((": " : String) : Str)).length = 2 := rfl
    have e4 : ((("}" : String) : Str)).length = 1 := rfl
    rw [sizeLine_eq]
    omega
  | nil h => exact ⟨rfl, by decide, by decide +kernel⟩
/-- lists of bools as data -/
theorem canB : ∀ bs : List Bool, PyData.canLayAll0 (bs.map PyData.bool) = true
  | [] => rfl
  | b :: r => by
    show (PyData.canLay0 (.bool b) && PyData.canLayAll0 (r.map PyData.bool)) = true
    rw [canB r]
    rfl
theorem depB : ∀ bs : List Bool, PyData.depthAll (bs.map PyData.bool) = 0
  | [] => rfl
  | b :: r => by
    show max (PyData.depth (.bool b)) (PyData.depthAll (r.map PyData.bool)) = 0
    rw [depB r]
    rfl
theorem shapedB (bs : List Bool) : SeqAt.shaped (.list (bs.map PyData.bool)) = true := by
  show (PyData.canLayAll0 (bs.map PyData.bool) && decide (PyData.depthAll (bs.map PyData.bool) + 1 ≤ 64)) = true
  rw [canB, depB]
  rfl
theorem eqvB (bs : List Bool) : PyData.eqv (.list (bs.map PyData.bool)) (.list (bs.map PyData.bool)) = true := SeqAt.eqv_refl _ (canB bs)
theorem dpB {K : PySem.W.Frag} {H : Hp} : ∀ bs : List Bool, DpAll K H (bs.map V.bl) (bs.map PyData.bool)
  | [] => .nil
  | b :: r => .cons (.bl b) (dpB r)
theorem Same.updN {H H1 : Hp} {p : Addr} {o : HO} (s : Same H H1) (h : H p = none) : Same H (L2.upd H1 p o) := fun b u e => by
  rw [upd_ne (ne_of_none e h)]
  exact s b u e
theorem AllX.get {H : Hp} : ∀ {cs : List (Addr × List (Str × V))} {as : List (Addr × Addr)} {i : Nat} {a d : Addr}, AllX H cs as → as[i]? = some (a, d) → ∃ C fs, cs[i]? = some (C, fs) ∧ H a = some (exo a C (some d)) ∧ H d = some (exd d fs)
  | _, _, 0, _, _, .cons h _, e => by
    cases e
    exact ⟨_, _, rfl, h.1, h.2⟩
  | _, _, i + 1, _, _, .cons _ t, e => AllX.get (i := i) t e
end EX
set_option Elab.async false
set_option linter.all false
set_option maxRecDepth 100000
set_option maxHeartbeats 4000000
namespace EX
open PySem L2 PySem.Spec PyProof.Rows
/-! ### raising an own exception (below Exception) whose __init__ is walked -/
/-- what stands of an own exception class of one field f -/
structure XrAt (P : Program) (w : World) (K : PySem.W.Frag) (mg : Str → Option Value) (base : Heap) (x f : Str) (C : Addr) : Prop where
  T : EcC K C
  m : mg x = some (.ref C)
  tC : PySem.W.typeIn K (.ref C) = some (.type "type")
  no : PySem.W.findIn K (.ref C) f = some none
  ex : ∃ (fI : Addr) (fd : FuncData), PySem.W.findIn K (.ref C) "__init__" = some (some (.ref fI)) ∧ PySem.W.typeIn K (.ref fI) = some (.type "function") ∧ FnOk P w K mg base CX0 1 fI fd [("self" : Str), f] (spI1 K C f) ∧ Binds K fd [("self" : Str), f] []
/-- C(e), to be raised: its dict d is new and holds the field -/
def tMkR (C : Addr) (f : Str) (te : TE) : L2.St → Hp → XK → Prop := fun σ H Q => te σ H fun v H1 => ∀ d H', Same H1 H' → H1 d = none → H' d = some (.xd [(f, v)]) → Q (.ref C) (some d) H'
def one1 (R : V → Hp → Prop) : List V → Hp → Prop := fun vs H => match vs with
  | [v] => R v H
  | _ => False
section
variable {X : Cx} {e : Expr} {te : TE} {p pos kp : Pos} {x f : Str} {C : Addr} {W : WX}
theorem pmk_ec (D : XrAt X.prog X.w X.K X.mg X.base x f C) (hr : Room 2 X.A) (hg : Gl X x) (he : PE X e te)
    (hdb : (x == ("__debug__" : Str)) = false := by decide) (hse : starEach [e] X.env = (false, eval e X.env) :: starEach [] X.env := by rfl) (hpl : (backTo pos (starEach [] X.env)).any (·.1) = false := by rfl) :
    PMk X (.Call (.Name x p) [e] [] pos) (tMkR C f te) := by
  intro pins s σ H Q I h
  obtain ⟨fI, fd, iC, tI, F1, hb⟩ := D.ex
  have ha : PA X [e] (tCons te tNil) := pa_cons he pa_nil hse
  refine wpAny_Call_Name_kw (ld_glob I hg D.m (PySem.W.callWith_K (h₀ := X.base) I.ok.mod.kin D.T.kC (thn (ha.run pos pins s σ H (one1 fun v H1 => ∀ d H', Same H1 H' → H1 d = none → H' d = some (.xd [(f, v)]) → Q (.ref C) (some d) H') I h) ?_) hse hpl) hdb)
  intro us s1 ⟨vs, H1, I1, r1, q1⟩
  refine ⟨I1.kIn, (?_ : wpAny _ _ (call (.ref C) us) _ _ _)⟩
  obtain ⟨v, rfl⟩ : ∃ v, vs = [v] := by
    match vs, q1 with
    | [v], _ => exact ⟨v, rfl⟩
  replace q1 : ∀ d H', Same H1 H' → H1 d = none → H' d = some (.xd [(f, v)]) → Q (.ref C) (some d) H' := q1
  obtain ⟨u, rfl, ru⟩ := vals1 r1
  obtain ⟨nm, N', qn, bs, bm, hdct, sn, sub, ab, col, dd, k0, k1, k2, k3, k5, hC, hT⟩ := PySem.W.excInit_of I1.kIn D.T.ini
  obtain ⟨hp, g, dr, tk, os⟩ := s1
  have le1 : hp.objs.size ≤ hp.objs.size + 1 := Nat.le_succ _
  have new : H1 (hp.objs.size + 1) = none := I1.hok.fresh le1
  have grow : ∀ b o, hp.get? b = some o → ((hp.push (PySem.W.kdv_tup [u])).push (PySem.HandSPX.excO C hp.objs.size)).get? b = some o := fun b o z => Heap.get?_push_of_some _ (Heap.get?_push_of_some _ z)
  have there : ((hp.push (PySem.W.kdv_tup [u])).push (PySem.HandSPX.excO C hp.objs.size)).get? (hp.objs.size + 1) = some (PySem.HandSPX.excO C hp.objs.size) := by heap_get
  have I2 := I1.laid (t' := tk) (a := hp.objs.size + 1) (o := exo (hp.objs.size + 1) C none) (h' := (hp.push (PySem.W.kdv_tup [u])).push (PySem.HandSPX.excO C hp.objs.size)) grow le1 (exo_ok there)
  have r2 : Vals [V.ref (hp.objs.size + 1), v] [Value.ref (hp.objs.size + 1), u] := .cons rfl (.cons ru .nil)
  have hsp : spI1 X.K C f [V.ref (hp.objs.size + 1), v] (upd H1 (hp.objs.size + 1) (exo (hp.objs.size + 1) C none)) (fun w H2 => w = .non ∧ ∃ (d : Addr) (fs : List (Str × V)), H2 (hp.objs.size + 1) = some (exo (hp.objs.size + 1) C (some d)) ∧ H2 d = some (exd d fs) ∧ H1 d = none ∧ Q (.ref C) (some d) (upd (del H2 (hp.objs.size + 1)) d (.xd fs))) (fun _ _ _ => False) := by
    refine ⟨_, v, rfl, upd_same, fun d hd hne => ⟨rfl, d, [(f, v)], upd_same, ?_, ?_, ?_⟩⟩
    · rw [upd_ne hne, upd_same]
    · rw [upd_ne hne] at hd
      exact hd
    · rw [upd_ne hne] at hd
      refine q1 d _ (fun b o z => ?_) hd upd_same
      have nb : b ≠ hp.objs.size + 1 := ne_of_none z new
      rw [upd_ne (ne_of_none z hd), del_ne nb, upd_ne nb, upd_ne (ne_of_none z hd), upd_ne nb]
      exact z
  have hbt : BindsTo _ fd ⟨[Value.ref (hp.objs.size + 1), u], []⟩ ([("self" : Str), f].zip [Value.ref (hp.objs.size + 1), u]) := hb _ [Value.ref (hp.objs.size + 1), u] I2.kIn rfl
  refine wpAny_call (PySem.HandSPX.call_own PySem.F.excBase_Exception hT hC (PySem.W.looks_findIn I1.kIn iC) (fun self => PySem.W.bind_fn I1.kIn self tI) (by rw [sizeLine_eq]; show 1 ≤ _; omega) (codeAny_mono
    (F1.run _ X.stack _ _ ⟨[Value.ref (hp.objs.size + 1), u], []⟩ [Value.ref (hp.objs.size + 1), u] _ _ (fun _ _ _ => False) (hr.make C [u] []) (I2.env0.make C [u] []) hbt r2 hsp) ?_))
  rintro (er | fl) s' hq'
  · exact False.elim hq'
  · cases fl with
    | ret uu =>
      obtain ⟨w, H2, os2, bare2, un2, hok2, rv, ev, d, fs, ea, ed, hd1, q2⟩ := hq'
      subst ev
      obtain ⟨h2, g2, d2, t2, os'⟩ := s'
      exact ⟨rv, mk_end (raises_own D.T.exC D.tC) I1 le1 grow un2 hok2 os2 bare2 ea ed hd1 q2⟩
    | next => exact False.elim hq'
    | brk => exact False.elim hq'
    | cont => exact False.elim hq'
/-- raise C(e) -/
def tRaE (C : Addr) (f : Str) (te : TE) (W : WX) : TS := fun _ σ H => tMkR C f te σ H fun cls d H' => W cls d σ H'
theorem ps_raiseE (D : XrAt X.prog X.w X.K X.mg X.base x f C) (hr : Room 2 X.A) (hc : X.calm = true) (tk : Takes X W) (he : PE X e te) (hg : Gl X x := by rfl) (hdb : (x == ("__debug__" : Str)) = false := by decide)
    (hse : starEach [e] X.env = (false, eval e X.env) :: starEach [] X.env := by rfl) : PS X (.Raise (some (.Call (.Name x p) [e] [] pos)) none kp) (tRaE C f te W) := ps_raise hc tk (pmk_ec D hr hg he hdb hse (by rfl))
end

/-! ### except clauses, with and without names -/
/-- what a clause does: the class, the slot of its name, its suite -/
structure Cls1 where
  c : Value
  i : Option Nat
  ts : Addr → Value → Option Addr → TS
def slotIn (σ : L2.St) (i : Option Nat) (v : Option V) : L2.St := match i with
  | some j => σ.set j v
  | none => σ
def endsOut (D : Ends) (i : Option Nat) : Ends := { nx := fun σ' H' => D.nx (slotIn σ' i none) H', rt := D.rt, bk := fun σ' H' => D.bk (slotIn σ' i none) H', ct := fun σ' H' => D.ct (slotIn σ' i none) H' }
def wCls (K : PySem.W.Frag) (Wout : WX) (D : Ends) : List Cls1 → WX
  | [] => Wout
  | q :: r => fun cls d σ H => ∃ b, PySem.W.exmOne K cls q.c = some b ∧ (b = true → ∀ a, H a = none → q.ts a cls d (endsOut D q.i) (slotIn σ q.i (some (.ref a))) H) ∧ (b = false → wCls K Wout D r cls d σ H)
inductive ClsOk (X : Cx) : List ExceptHandler → List Cls1 → Prop
  | nil : ClsOk X [] []
  | bare {x : Str} {c : Value} {ts : Addr → Value → Option Addr → TS} {b₀ : Stmt} {suite : List Stmt} {np pos' : Pos} {hds : List ExceptHandler} {l : List Cls1} (hc : Names X x c)
      (hsu : ∀ (a : Addr) (oe : Obj) (cls : Value) (d : Option Addr) (pn : List (Addr × Obj)), Zc cls d oe → (∃ vs, oe.data = .fields vs) → PSs (X.suite a ((a, oe) :: pn)) (b₀ :: suite) (ts a cls d)) (r : ClsOk X hds l) :
      ClsOk X (.ExceptHandler (some (.Name x np)) none (b₀ :: suite) pos' :: hds) (⟨c, none, ts⟩ :: l)
  | as {x n : Str} {i : Nat} {c : Value} {ts : Addr → Value → Option Addr → TS} {b₀ : Stmt} {suite : List Stmt} {np pos' : Pos} {hds : List ExceptHandler} {l : List Cls1} (hc : Names X x c) (hi : X.N[i]? = some n) (hln : X.env.kindOf n = some .local)
      (hsu : ∀ (a : Addr) (oe : Obj) (cls : Value) (d : Option Addr) (pn : List (Addr × Obj)), Zc cls d oe → (∃ vs, oe.data = .fields vs) → PSs (X.suite a ((a, oe) :: pn)) (b₀ :: suite) (ts a cls d)) (r : ClsOk X hds l) :
      ClsOk X (.ExceptHandler (some (.Name x np)) (some n) (b₀ :: suite) pos' :: hds) (⟨c, some i, ts⟩ :: l)
section
variable {X : Cx} {body : List Stmt} {h₀ : ExceptHandler} {hds : List ExceptHandler} {l : List Cls1} {pos : Pos} {tb : WX → TS} {Wout : WX}
theorem ps_try_cls (hs : X.stack = X.env :: X.outer) (hf : X.env.frame = some X.env.locals) (hN : X.N.Nodup) (tk : Takes X Wout)
    (hb : ∀ (W : WX) (pn : List (Addr × Obj)) (xe : Value → Shared → Prop), Takes (X.tr pn xe) W → PassesOwn (model X.prog X.w) X.A X.env xe → PSs (X.tr pn xe) body (tb W))
    (hh : ClsOk X (h₀ :: hds) l) : PS X (.Try body (h₀ :: hds) [] [] pos) (fun D σ H => tb (wCls X.K Wout D l) D σ H) := by
  refine ⟨fun pins s σ H D I h => ?_⟩
  have ok := I.ok
  have hfr : X.A.frames = some (X.env :: X.outer) := by rw [ok.frames, hs]
  refine wpAny_Try_except (wpAny_mono ((hb (wCls X.K Wout D l) (X.pn ++ pins) (fun e s₁ => wpAny (model X.prog X.w) X.A (noteFrame e X.env) (fun _ s₂ => wpAny (model X.prog X.w) X.A (setFlight e none) (fun _ s₃ =>
    wpAny (model X.prog X.w) X.A (handleBy e X.env (h₀ :: hds)) (SP X pins D) X.xe s₃) X.xe s₂) X.xe s₁) (fun u s' xx => ?_) PassesOwn.looking).run [] s σ H D (I.toTry _) h) (fun f s1 hsp => ?_) (fun e s1 he => he))
  · -- it is caught here: the frame is noted, then the clauses are tried
    obtain ⟨a, B, sI, pins', σ', H', cls, d, rfl, J', nb, up, sky, na, os, ag, w⟩ := xx
    have J : Inv X pins σ' H' sI := J'.ofTry ok
    rw [show (X.tr (X.pn ++ pins) _).stack = X.env :: X.outer from hs] at sky
    refine Sky.land Zc.steady hfr hf sky fun h3 fl3 up3 => ?_
    have J3 : Inv X pins σ' H' { s' with heap := h3 } := J.landed nb fl3.1 (up.trans up3) os ag
    obtain ⟨oe3, vs3, he3, hz3, hd3⟩ := fl3.there
    have nfr : a ∉ frs (X.env :: X.outer) := fun hm => by
      obtain ⟨_, o', e', hnf⟩ := fl3.2.2.1.mem hm
      rw [he3] at e'
      cases e'
      exact hnf _ hd3
    have nL : a ≠ X.env.locals := fun z => nfr (List.mem_filterMap.mpr ⟨X.env, List.mem_cons_self, by rw [hf, z]⟩)
    have nF : a ∉ X.fs := fun hm => by
      obtain ⟨ev, hev, q⟩ := List.mem_filterMap.mp hm
      exact nfr (List.mem_filterMap.mpr ⟨ev, List.mem_cons_of_mem _ hev, q⟩)
    have S3 := J3.suite he3 hd3 na nL nF
    have LT : PySem.W.Looks (model X.prog X.w) h3 (typeOf (.ref a)) cls := fun A Q E s k q => wpAny_typeOf_ref (k _ _ he3) (by rw [hz3.1]; exact q)
    have test : ∀ {x : Str} {c : Value} {np : Pos} {Q : Value → Shared → Prop} {E : Value → Shared → Prop}, Names X x c → Q c { s' with heap := h3 } → wpAny (model X.prog X.w) (X.A.mark (some (.ref a))) (eval (.Name x np) X.env) Q E { s' with heap := h3 } := by
      intro x c np Q E hc q
      obtain ⟨hg, hdbg, hm | ⟨hm, hv, hnn⟩⟩ := hc
      · exact ld_glob (X := X.suite a ((a, oe3) :: (X.pn ++ pins))) S3 hg hm q hdbg
      · exact ld_blt (X := X.suite a ((a, oe3) :: (X.pn ++ pins))) S3 hg hm hv q hnn hdbg
    -- no clause takes it: it flies on
    have out : Wout cls d σ' H' → wpAny (model X.prog X.w) X.A (handleBy (.ref a) X.env []) (SP X pins D) X.xe { s' with heap := h3 } := by
      intro w
      refine wpAny_handleBy_nil ?_
      obtain ⟨k1, k2, k3, oe, vs, T, oT, ts', he, hz, hd, h1, hr⟩ := id fl3
      unfold PySem.passOn
      refine wpAny_bind (wpAny_field he hd h1 ?_)
      rw [if_neg (show ¬ ((Value.ref T == Value.none) = true) from by simp)]
      have fin : wpAny (model X.prog X.w) X.A (setFlight (.ref a) X.env.frame) (fun _ s4 => wpAny (model X.prog X.w) X.A (throw (.ref a) : Sem Flow) (SP X pins D) X.xe s4) X.xe { s' with heap := h3 } := by
        rw [hf]
        exact HandSPX.setFlight_upZ fl3 fun h4 hh4 up4 => wpAny_throw (tk _ _ ⟨a, B, sI, pins, σ', H', cls, d, rfl, J, nb, (up.trans up3).trans up4, .inr (.inr (by rw [hs]; exact hh4)), na, os, ag, w⟩)
      first
        | exact wpAny_bind (wpAny_pure (wpAny_bind fin))
        | exact wpAny_bind fin
    have go : ∀ {hds' : List ExceptHandler} {l' : List Cls1}, ClsOk X hds' l' → wCls X.K Wout D l' cls d σ' H' → wpAny (model X.prog X.w) X.A (handleBy (.ref a) X.env hds') (SP X pins D) X.xe { s' with heap := h3 } := by
      intro hds' l' hk
      induction hk with
      | nil => exact out
      | @bare x c ts b₀ suite np pos' hds2 l2 hc hsu r ih =>
        intro w
        obtain ⟨b, hb1, hyes, hno⟩ := w
        refine wpAny_handleBy_cons (codeAny_handlers_test (test hc ((PySem.W.exm_one (M := model X.prog X.w) (J3.kIn) LT hb1).here ?_))) (by intro q; cases q)
        cases b with
        | false => exact ih (hno rfl)
        | true =>
          refine codeAny_handlers_suite (HandSPX.lands_againZ fl3 fun h4 fl4 up4 => ?_)
          have J4 : Inv X pins σ' H' { s' with heap := h4 } := J.landed nb fl4.1 ((up.trans up3).trans up4) os ag
          obtain ⟨oe4, vs4, he4, hz4, hd4⟩ := fl4.there
          refine wpAny_mono ((hsu a oe4 cls d (X.pn ++ pins) hz4 ⟨_, hd4⟩).run [] _ _ H' _ (J4.suite he4 hd4 na nL nF) (hyes rfl a na)) (fun f s6 hsp => ?_) (fun _ _ z => False.elim z)
          cases f with
          | ret u =>
            obtain ⟨v6, σ6, H6, S6, r6, q6⟩ := hsp
            exact ⟨_, _, _, S6.unsuite ok, r6, q6⟩
          | next => exact let ⟨σ6, H6, S6, q6⟩ := hsp; ⟨_, _, S6.unsuite ok, q6⟩
          | brk => exact let ⟨σ6, H6, S6, q6⟩ := hsp; ⟨_, _, S6.unsuite ok, q6⟩
          | cont => exact let ⟨σ6, H6, S6, q6⟩ := hsp; ⟨_, _, S6.unsuite ok, q6⟩
      | @as x n i c ts b₀ suite np pos' hds2 l2 hc hi hln hsu r ih =>
        intro w
        obtain ⟨b, hb1, hyes, hno⟩ := w
        refine wpAny_handleBy_cons (codeAny_handlers_test (test hc ((PySem.W.exm_one (M := model X.prog X.w) (J3.kIn) LT hb1).here ?_))) (by intro q; cases q)
        cases b with
        | false => exact ih (hno rfl)
        | true =>
          refine codeAny_handlers_suite_as (HandSPX.lands_againZ fl3 fun h4 fl4 up4 => ?_)
          have J4 : Inv X pins σ' H' { s' with heap := h4 } := J.landed nb fl4.1 ((up.trans up3).trans up4) os ag
          obtain ⟨oe4, vs4, he4, hz4, hd4⟩ := fl4.there
          have S4 := J4.suite he4 hd4 na nL nF
          refine store_ok (X := X.suite a ((a, oe4) :: (X.pn ++ pins))) (v := .ref a) S4 hN hi (.inl hln) rfl (fun s5 S5 => ?_) (.inr hln)
          refine wpAny_mono ((hsu a oe4 cls d (X.pn ++ pins) hz4 ⟨_, hd4⟩).run [] s5 _ H' _ S5 (hyes rfl a na)) (fun f s6 hsp => ?_) (fun _ _ z => False.elim z)
          have last : ∀ {σ6 : L2.St} {H6 : Hp} {Q : Shared → Prop}, Inv (X.suite a ((a, oe4) :: (X.pn ++ pins))) [] σ6 H6 s6 → (∀ s7, Inv X pins (σ6.set i none) H6 s7 → Q s7) →
              wpAny (model X.prog X.w) X.A (do bindName X.env n .none; unbindBehindTheSuite X.env n pos') (fun _ s7 => Q s7) X.xe s6 := fun S6 hq => gone_ok (S6.unsuite ok) hN hi hln hq
          cases f with
          | ret u =>
            obtain ⟨v6, σ6, H6, S6, r6, q6⟩ := hsp
            exact last S6 fun s7 J7 => ⟨_, _, _, J7, r6, q6⟩
          | next => exact let ⟨σ6, H6, S6, q6⟩ := hsp; last S6 fun s7 J7 => ⟨_, _, J7, q6⟩
          | brk => exact let ⟨σ6, H6, S6, q6⟩ := hsp; last S6 fun s7 J7 => ⟨_, _, J7, q6⟩
          | cont => exact let ⟨σ6, H6, S6, q6⟩ := hsp; last S6 fun s7 J7 => ⟨_, _, J7, q6⟩
    exact go hh w
  · cases f with
    | ret u => exact let ⟨v, σ', H', J', r, q⟩ := hsp; ⟨v, σ', H', J'.ofTry ok, r, q⟩
    | next => exact let ⟨σ', H', J', q⟩ := hsp; wpAny_execs_nil ⟨σ', H', J'.ofTry ok, q⟩
    | brk => exact let ⟨σ', H', J', q⟩ := hsp; ⟨σ', H', J'.ofTry ok, q⟩
    | cont => exact let ⟨σ', H', J', q⟩ := hsp; ⟨σ', H', J'.ofTry ok, q⟩
end
/-! ### in a suite: the caught error's field, isinstance of it -/
theorem EcC.xf {K : PySem.W.Frag} {C : Addr} (T : EcC K C) : XfC K C := ⟨T.ga, T.gg, T.exC, T.hdC⟩
/-- isinstance(e, c), e caught -/
def rIsS (K : PySem.W.Frag) (a : Addr) (cls : Value) : List V → Hp → VK → Prop := fun xs H Q => ∃ (C dd : Addr) (fs : List (Str × V)) (c : V) (cv : Value) (b : Bool), xs = [.ref a, c] ∧ cls = .ref C ∧ EcC K C ∧ H dd = some (.xd fs) ∧ ClsV c cv ∧ PySem.W.kitOne K (.ref C) cv = some b ∧ Q (.bl b) H
theorem call_isS {X : Cx} {a dd : Addr} {cls : Value} {oe : Obj} {pn : List (Addr × Obj)} (hz : Zc cls (some dd) oe) (hf : ∃ vs, oe.data = .fields vs) :
    CallR (X.suite a ((a, oe) :: pn)) (.builtin "isinstance") (fun xs H Q => ∃ (C : Addr) (fs : List (Str × V)) (c : V) (cv : Value) (b : Bool), xs = [.ref a, c] ∧ cls = .ref C ∧ EcC X.K C ∧ H dd = some (.xd fs) ∧ ClsV c cv ∧ PySem.W.kitOne X.K (.ref C) cv = some b ∧ Q (.bl b) H) := by
  intro pins s σ H xs us Q I r h
  obtain ⟨C, fs, c, cv, b, rfl, rfl, T, ed, kc, e, q⟩ := h
  obtain ⟨u1, u2, rfl, r1, r2⟩ := vals2 r
  obtain rfl := kc.eq r2
  obtain rfl : u1 = Value.ref a := r1
  obtain ⟨ha, _⟩ := I.pin (a, oe) (List.mem_append_left _ List.mem_cons_self)
  obtain ⟨vs, hd⟩ := hf
  obtain ⟨mA, hns, hr⟩ := (show ObjOk X.prog X.w H s.heap dd (.xd fs) from I.hok dd _ ed)
  obtain ⟨od, ho, hl⟩ := lookIn_ns hns
  have J : PySem.W.InstAt s.heap a oe C (some od) := ⟨ha, hz.1, by unfold PySem.W.notCls; rw [hd] <;> rfl, by rw [hz.2]; exact ho⟩
  exact PySem.W.kia_one (kit_exc T (od := some od)) I.kIn J e (fun z => nomatch z) fun tk => ⟨.bl b, H, I.tok tk, rfl, q⟩
end EX
set_option Elab.async false
set_option linter.all false
set_option maxRecDepth 100000
set_option maxHeartbeats 4000000
namespace EX
open PySem L2 PySem.Spec PyProof.Rows
/-! ### operators of own classes -/
/-- the class at C has the method nm, whose def keeps sp -/
structure Dun (P : Program) (w : World) (K : PySem.W.Frag) (mg : Str → Option Value) (base : Heap) (CX : CXT) (k : Nat) (C : Addr) (nm : Str) (ps : List Str) (sp : Sp) : Prop where
  ex : ∃ (f : Addr) (fd : FuncData), PySem.W.findIn K (.ref C) nm = some (some (.ref f)) ∧ PySem.W.isFn K (.ref f) = true ∧ PySem.W.fnIn K f = true ∧ FnOk P w K mg base CX k f fd ps sp ∧ Binds K fd ps []
section
variable {X : Cx} {CX : CXT} {k : Nat} {C : Addr} {nm : Str} {ps : List Str} {sp : Sp} {E : XK} {pins : List (Addr × Obj)} {σ : L2.St} {H : Hp} {s : Shared}
theorem vref (a : Addr) : RelV (.ref a) (.ref a) := rfl
/-- a def run at A, which stands at the frames of X -/
theorem run_in {A : Around} {f : Addr} {fd : FuncData} {Q : VK} {us : List Value} {vs : List V} (F : FnOk X.prog X.w X.K X.mg X.base CX k f fd ps sp) (hr : Room k A) (e0 : Env0 X.prog X.w X.K X.mg X.base A X.stack s H) (hb : Binds X.K fd ps []) (hx : Passes CX X E)
    (I : Inv X pins σ H s) (r : Vals vs us) (h : sp vs H Q E) : wpAny (model X.prog X.w) A (call (.ref f) us) (EP X pins σ Q) X.xe s := by
  have hl : us.length = ps.length := by rw [← r.length]; exact F.len _ _ _ _ h
  have b : BindsTo s fd ⟨us, []⟩ (ps.zip us) := by
    have := hb s us I.kIn (by rw [List.append_nil]; exact hl)
    rwa [List.append_nil] at this
  refine wpAny_call (codeAny_mono (F.run A X.stack s H ⟨us, []⟩ us vs Q E hr e0 b r h) ?_)
  rintro (e | fl) s' hq
  · exact hx pins σ H s e s' I hq
  · cases fl with
    | ret u => exact I.after hq
    | next => exact False.elim hq
    | brk => exact False.elim hq
    | cont => exact False.elim hq
theorem inst_at {a dx : Addr} {fs : List (Str × V)} (I : Inv X pins σ H s) (e : H a = some (.ins C dx fs)) : ∃ od, PySem.W.InstAt s.heap a (PySem.W.instObj C dx) C (some od) := by
  obtain ⟨mA, O, _⟩ := ins_get I.hok e
  obtain ⟨od, J, _⟩ := O.look
  exact ⟨od, J⟩
/-- o[i] -/
def tGetO (C : Addr) (sp : Sp) (E : XK) (to ti : TE) : TE := fun σ H Q => to σ H fun x H1 => ti σ H1 fun y H2 => ∃ a dx fs, x = .ref a ∧ H2 a = some (.ins C dx fs) ∧ sp [.ref a, y] H2 Q E
theorem pe_getO {o i : Expr} {to ti : TE} {pos : Pos} (D : Dun X.prog X.w X.K X.mg X.base CX k C "__getitem__" ps sp) (hr : Room (k + 1) X.A) (hx : Passes CX X E) (ho : PE X o to) (hi : PE X i ti)
    (hsl : ∀ x y, subscripted i true x y = runValue (.builtin "lifetime.subscript" ⟨[x, y], []⟩) := by intro _ _; with_unfolding_all rfl) : PE X (.Subscript o i pos) (tGetO C sp E to ti) := by
  refine ⟨fun pins s σ H Q I h => Subscript_ (binT ho hi I h ?_)⟩
  intro v u s2 x y H2 I2 rx ry ⟨a, dx, fs, ex, ea, q⟩
  subst ex
  obtain rfl : v = Value.ref a := rx
  obtain ⟨f, fd, at_, hf, hfi, F, hb⟩ := D.ex
  obtain ⟨od, J⟩ := inst_at I2 ea
  obtain ⟨m, hF⟩ := I2.fr
  exact PySem.W.sub_K hF I2.ok.mod.kin J at_ hfi hf (run_in F hr.in1 I2.env0.in1 hb hx I2 (.cons (vref a) (.cons ry .nil)) q) (hsl _ _)
/-- k in o, k not in o; the method hands back a bool -/
def rInO (C : Addr) (sp : Sp) (E : XK) (neg : Bool) : R2 := fun y x H Q => ∃ a dx fs, x = .ref a ∧ H a = some (.ins C dx fs) ∧ sp [.ref a, y] H (fun z H' => ∃ b, z = .bl b ∧ Q (.bl (if neg then !b else b)) H') E
theorem op_inO (D : Dun X.prog X.w X.K X.mg X.base CX k C "__contains__" ps sp) (hr : Room k X.A) (hx : Passes CX X E) : OpR X (compareOp .In) (rInO C sp E false) := by
  intro pins s σ H y x u v Q I ry rx h
  obtain ⟨a, dx, fs, ex, ea, q⟩ := h
  subst ex
  obtain rfl : v = Value.ref a := rx
  obtain ⟨f, fd, at_, hf, hfi, F, hb⟩ := D.ex
  obtain ⟨od, J⟩ := inst_at I ea
  obtain ⟨m, hF⟩ := I.fr
  refine PySem.W.in_K hF I.ok.mod.kin J at_ hf (thn (run_in F hr I.env0 hb hx I (.cons (vref a) (.cons ry .nil)) q) ?_)
  rintro r s1 ⟨z, H1, I1, rz, b, rfl, q1⟩
  obtain rfl : r = Value.bool b := rz
  exact wpAny_truthy_bool ⟨.bl b, H1, I1, rfl, q1⟩
theorem op_notInO (D : Dun X.prog X.w X.K X.mg X.base CX k C "__contains__" ps sp) (hr : Room k X.A) (hx : Passes CX X E) : OpR X (compareOp .NotIn) (rInO C sp E true) := by
  intro pins s σ H y x u v Q I ry rx h
  obtain ⟨a, dx, fs, ex, ea, q⟩ := h
  subst ex
  obtain rfl : v = Value.ref a := rx
  obtain ⟨f, fd, at_, hf, hfi, F, hb⟩ := D.ex
  obtain ⟨od, J⟩ := inst_at I ea
  obtain ⟨m, hF⟩ := I.fr
  refine PySem.W.notIn_K hF I.ok.mod.kin J at_ hf (thn (run_in F hr I.env0 hb hx I (.cons (vref a) (.cons ry .nil)) q) ?_)
  rintro r s1 ⟨z, H1, I1, rz, b, rfl, q1⟩
  obtain rfl : r = Value.bool b := rz
  exact wpAny_truthy_bool ⟨.bl (!b), H1, I1, rfl, q1⟩
/-- the type of any value, as the library looks at it -/
theorem tyx_looks {x : V} {u t : Value} (I : Inv X pins σ H s) (rx : RelV x u) (ty : TyX X.K H x t) : PySem.W.Looks (model X.prog X.w) s.heap (typeOf u) t := by
  obtain ⟨P, Z, p, _⟩ := kit_of I rx ty
  exact Z.ty _ _ I.kIn p
/-- x == y by x's own method; y anything whose type is not below x's class -/
def rEqO (K : PySem.W.Frag) (C : Addr) (sp : Sp) (E : XK) : R2 := fun x y H Q => ∃ a dx fs t, x = .ref a ∧ H a = some (.ins C dx fs) ∧ TyX K H y t ∧ PySem.W.notFirst K C t = true ∧ sp [.ref a, y] H Q E
theorem op_eqO (D : Dun X.prog X.w X.K X.mg X.base CX k C "__eq__" ps sp) (hr : Room k X.A) (hx : Passes CX X E) : OpR X (compareOp .Eq) (rEqO X.K C sp E) := by
  intro pins s σ H x y v u Q I rx ry h
  obtain ⟨a, dx, fs, t, ex, ea, ty, hn, q⟩ := h
  subst ex
  obtain rfl : v = Value.ref a := rx
  obtain ⟨f, fd, at_, hf, hfi, F, hb⟩ := D.ex
  obtain ⟨od, J⟩ := inst_at I ea
  obtain ⟨m, hF⟩ := I.fr
  refine PySem.W.cmp_K (op := .Eq) hr.units0 hF I.ok.mod.kin J (tyx_looks I ry ty) hn at_ hf (wpAny_mono (run_in F hr I.env0 hb hx I (.cons (vref a) (.cons ry .nil)) q) ?_ fun _ _ z => z)
  rintro r s1 ⟨z, H1, I1, rz, q1⟩
  exact SlX.cmpback rz ⟨z, H1, I1, rz, q1⟩
/-- x != y where the class has its own == alone: the other answer -/
def rNeO (K : PySem.W.Frag) (C : Addr) (sp : Sp) (E : XK) : R2 := fun x y H Q => ∃ a dx fs t, x = .ref a ∧ H a = some (.ins C dx fs) ∧ TyX K H y t ∧ PySem.W.notFirst K C t = true ∧ sp [.ref a, y] H (fun z H' => ∃ b, z = .bl b ∧ Q (.bl (!b)) H') E
/-- what != asks of the class -/
structure NeC (K : PySem.W.Frag) (C : Addr) : Prop where
  ne : PySem.W.findIn K (.ref C) "__ne__" = some (some (.builtin "object.__ne__"))
  ob : PySem.W.mroIn K C (.type "object") = some true
theorem op_neO (D : Dun X.prog X.w X.K X.mg X.base CX k C "__eq__" ps sp) (N : NeC X.K C) (hr : Room (k + 1) X.A) (hx : Passes CX X E) : OpR X (compareOp .NotEq) (rNeO X.K C sp E) := by
  intro pins s σ H x y v u Q I rx ry h
  obtain ⟨a, dx, fs, t, ex, ea, ty, hn, q⟩ := h
  subst ex
  obtain rfl : v = Value.ref a := rx
  obtain ⟨f, fd, at_, hf, hfi, Fn, hb⟩ := D.ex
  obtain ⟨od, J⟩ := inst_at I ea
  have KX := I.kIn
  have LTy := tyx_looks I ry ty
  have call1 := run_in Fn hr.in1 I.env0.in1 hb hx I (.cons (vref a) (.cons ry .nil)) q
  have sub : PySem.W.Looks (model X.prog X.w) s.heap (isInstance (.ref a) (.type "object")) true := J.type.andThen (PySem.W.looks_mroIn KX N.ob)
  have entry : wpAny (model X.prog X.w) X.A.in1 (Builtin.«object.__ne__» ⟨[.ref a, u], []⟩) (fun fin s' => ∃ b, fin = .done (.ret (.bool b)) ∧ EP X pins σ Q (.bool b) s') X.xe s := by
    unfold Builtin.«object.__ne__»
    refine wpAny_bind (wpAny_of_eq (a := ((Value.ref a : Value), [u])) (by first | rfl | (simp only [slotArgs]; rfl)) ?_)
    refine wpAny_bind (wpAny_cRoomFor hr.in1.units0 ?_)
    refine wpAny_bind (PySem.W.ifBound_K KX J at_ hf (wpAny_mono call1 ?_ fun _ _ z => z))
    rintro r s1 ⟨z, H1, I1, rz, b, rfl, q1⟩
    obtain rfl : r = Value.bool b := rz
    exact wpAny_bind (wpAny_truthy_bool (wpAny_pure ⟨!b, rfl, .bl (!b), H1, I1, rfl, q1⟩))
  have one : wpAny (model X.prog X.w) X.A (tryCompare (.ref a) "__ne__" u) (fun r s' => ∃ b, r = some (.bool b) ∧ EP X pins σ Q (.bool b) s') X.xe s := by
    unfold tryCompare
    have bnd : wpAny (model X.prog X.w) X.A (call (.builtin "object.__ne__") [.ref a, u]) (fun r s' => ∃ b, r = .bool b ∧ EP X pins σ Q (.bool b) s') X.xe s := by
      refine wpAny_call (codeAny_call_builtin PySem.F.cmp_object.ne.plain PySem.F.cmpEntry_ne (PySem.W.check_slot PySem.F.cmpKind_ne PySem.F.cmpSplit_ne sub (PySem.F.cmpArgs_ne _ _) (wpAny_mono entry ?_ fun _ _ z => z)))
      rintro fin s1 ⟨b, rfl, e⟩
      exact ⟨b, rfl, e⟩
    refine wpAny_bind (m := callSpecialIfBound? (.ref a) "__ne__" [u]) ?_
    simp only [callSpecialIfBound?, bindSpecialIfBound?]
    refine wpAny_holding (wpAny_bind (wpAny_bind (wpAny_bind (J.type.here ((PySem.W.looks_findIn KX N.ne).here ?_)))))
    simp only [PySem.F.cmp_object.ne.bind]
    refine wpAny_bind (wpAny_askSetting (wpAny_ite ?_))
    have fin : wpAny (model X.prog X.w) X.A (call (.builtin "object.__ne__") ([.ref a] ++ [u]) >>= fun v => pure (some v)) (fun r s' => wpAny (model X.prog X.w) X.A (match r with | some .notImplemented | none => pure none | some v => pure (some v)) (fun r s' => ∃ b, r = some (.bool b) ∧ EP X pins σ Q (.bool b) s') X.xe s') X.xe s := by
      refine wpAny_bind (wpAny_mono bnd ?_ fun _ _ z => z)
      rintro r s1 ⟨b, rfl, e⟩
      exact wpAny_pure (wpAny_pure ⟨b, rfl, e⟩)
    split
    · first | exact fin | exact wpAny_pure (by exact fin) | exact wpAny_bind (wpAny_pure (by exact fin))
    · first | exact wpAny_tryCatch fin | exact wpAny_tryCatch (wpAny_pure (by exact fin)) | exact wpAny_tryCatch (wpAny_bind (wpAny_pure (by exact fin)))
  show wpAny _ _ (richCompare .NotEq (.ref a) u) _ _ _
  unfold richCompare
  simp only [oneThing_ref]
  refine wpAny_holding (wpAny_bind (wpAny_cRoomFor hr.units0 ?_))
  refine wpAny_bind (J.type.here (wpAny_bind (LTy.here ?_)))
  have tail : ∀ {R : Value → Shared → Prop}, (∀ b s', EP X pins σ Q (.bool b) s' → R (.bool b) s') → True := fun _ => trivial
  split
  · rename_i hne
    have e : PySem.W.subIn X.K t (.ref C) = some false := by
      rcases Bool.or_eq_true_iff.mp hn with e | e
      · rw [beq_iff_eq.mp e] at hne
        simp at hne
      · exact beq_iff_eq.mp e
    refine wpAny_bind ((PySem.W.looks_subIn KX e).here ?_)
    simp only [Bool.false_eq_true, if_false]
    refine wpAny_bind (wpAny_mono one ?_ fun _ _ z => z)
    rintro r s1 ⟨b, rfl, q1⟩
    exact wpAny_pure q1
  · refine wpAny_bind (wpAny_pure ?_)
    simp only [Bool.false_eq_true, if_false]
    refine wpAny_bind (wpAny_mono one ?_ fun _ _ z => z)
    rintro r s1 ⟨b, rfl, q1⟩
    exact wpAny_pure q1
/-- truth by an own __bool__ -/
theorem tru_own (D : Dun X.prog X.w X.K X.mg X.base CX k C "__bool__" ps sp) (hr : Room k X.A) (hx : Passes CX X E) : TruR X (fun x H Q => ∃ a dx fs, x = .ref a ∧ H a = some (.ins C dx fs) ∧ sp [.ref a] H (fun z H' => ∃ b, z = .bl b ∧ Q b H') E) := by
  intro pins s σ H x v Q I rx h
  obtain ⟨a, dx, fs, ex, ea, q⟩ := h
  subst ex
  obtain rfl : v = Value.ref a := rx
  obtain ⟨f, fd, at_, hf, hfi, F, hb⟩ := D.ex
  obtain ⟨od, J⟩ := inst_at I ea
  obtain ⟨m, hF⟩ := I.fr
  refine PySem.W.truthy_K hF I.ok.mod.kin J at_ hf (wpAny_mono (run_in F hr I.env0 hb hx I (.cons (vref a) .nil) q) ?_ fun _ _ z => z)
  rintro r s1 ⟨z, H1, I1, rz, b, rfl, q1⟩
  obtain rfl : r = Value.bool b := rz
  exact ⟨H1, I1, q1⟩
/-- len(o) -/
def rLenO (C : Addr) (sp : Sp) (E : XK) : List V → Hp → VK → Prop := fun xs H Q => ∃ a dx fs, xs = [.ref a] ∧ H a = some (.ins C dx fs) ∧ sp [.ref a] H (fun z H' => ∃ n : Int, z = .int n ∧ 0 ≤ n ∧ n < 2 ^ 63 ∧ Q (.int n) H') E
theorem call_lenO (D : Dun X.prog X.w X.K X.mg X.base CX k C "__len__" ps sp) (hr : Room (k + 1) X.A) (hx : Passes CX X E) : CallR X (.builtin "len") (rLenO C sp E) := by
  intro pins s σ H xs us Q I r h
  obtain ⟨a, dx, fs, rfl, ea, q⟩ := h
  obtain ⟨u, rfl, ru⟩ := vals1 r
  obtain rfl : u = Value.ref a := ru
  obtain ⟨f, fd, at_, hf, hfi, F, hb⟩ := D.ex
  obtain ⟨od, J⟩ := inst_at I ea
  obtain ⟨m, hF⟩ := I.fr
  refine PySem.W.len_K hF I.ok.mod.kin J at_ hf (wpAny_mono (run_in F hr.in1 I.env0.in1 hb hx I (.cons (vref a) .nil) q) ?_ fun _ _ z => z)
  rintro r s1 ⟨z, H1, I1, rz, n, rfl, h0, h1, q1⟩
  obtain ⟨t, rfl⟩ : ∃ t, r = Value.int n t := rz
  exact ⟨⟨h0, h1⟩, .int n, H1, I1.tok _, ⟨_, rfl⟩, q1⟩
/-- a test by truth, the rule given -/
theorem pt_tru {e : Expr} {te : TE} {r : V → Hp → (Bool → Hp → Prop) → Prop} (hr : TruR X r) (he : PE X e te) (hw : ∀ whole, isTrue e X.env whole = (do let v ← whole; standAt e.pos; holding [v] (truthy v)) := by intro _; rfl) : PT X e (fun σ H Q => te σ H fun x H' => r x H' Q) := by
  refine ⟨fun pins s σ H Q I h => isTrue_plain (thn (he.run pins s σ H _ I h) ?_) (hw _)⟩
  rintro v s1 ⟨x, H1, I1, r1, q1⟩
  exact hr pins s1 σ H1 x v Q I1 r1 q1
end
end EX
set_option Elab.async false
set_option linter.all false
set_option maxRecDepth 100000
set_option maxHeartbeats 4000000
namespace EX
open PySem L2 PySem.Spec PyProof.Rows
/-! ### data of any depth, dicts among them; repr -/
def keyD : Key → PyData
  | .inl i => .int i
  | .inr x => .str x
mutual
/-- the value v is the data d: lists, tuples, dicts (keys ints and texts) of such -/
inductive Dq (K : PySem.W.Frag) (H : Hp) : V → PyData → Prop
  | non : Dq K H .non .none
  | bl (b : Bool) : Dq K H (.bl b) (.bool b)
  | int (i : Int) : Dq K H (.int i) (.int i)
  | str (x : Str) : Dq K H (.str x) (.str x)
  | lst {a : Addr} {xs : List V} {ds : List PyData} : SqL K H a xs → DqAll K H xs ds → Dq K H (.ref a) (.list ds)
  | tup {a : Addr} {xs : List V} {ds : List PyData} : SqT K H a xs → DqAll K H xs ds → Dq K H (.ref a) (.tuple ds)
  | dic {a : Addr} {kvs : List (Key × V)} {ds : List PyData} : H a = some (.dK kvs) → DqAll K H (kvs.map (·.2)) ds → Dq K H (.ref a) (.dict ((kvs.map fun p => keyD p.1).zip ds))
inductive DqAll (K : PySem.W.Frag) (H : Hp) : List V → List PyData → Prop
  | nil : DqAll K H [] []
  | cons {v : V} {vs : List V} {d : PyData} {ds : List PyData} : Dq K H v d → DqAll K H vs ds → DqAll K H (v :: vs) (d :: ds)
end
theorem sqt_same {K : PySem.W.Frag} {H H' : Hp} {a : Addr} {xs : List V} (s : Same H H') (h : SqT K H a xs) : SqT K H' a xs :=
  h.elim (fun z => .inl (z.elim (fun z => .inl (s _ _ z)) fun ⟨o, z⟩ => .inr ⟨o, s _ _ z⟩)) .inr
mutual
theorem Dq.mono {K : PySem.W.Frag} {H H' : Hp} (s : Same H H') : ∀ {v : V} {d : PyData}, Dq K H v d → Dq K H' v d
  | _, _, .non => .non
  | _, _, .bl b => .bl b
  | _, _, .int i => .int i
  | _, _, .str x => .str x
  | _, _, .lst h a => .lst (s.seq h) (DqAll.mono s a)
  | _, _, .tup h a => .tup (sqt_same s h) (DqAll.mono s a)
  | _, _, .dic h a => .dic (s _ _ h) (DqAll.mono s a)
theorem DqAll.mono {K : PySem.W.Frag} {H H' : Hp} (s : Same H H') : ∀ {vs : List V} {ds : List PyData}, DqAll K H vs ds → DqAll K H' vs ds
  | _, _, .nil => .nil
  | _, _, .cons h t => .cons (Dq.mono s h) (DqAll.mono s t)
end
theorem DqAll.length {K : PySem.W.Frag} {H : Hp} : ∀ {vs : List V} {ds : List PyData}, DqAll K H vs ds → vs.length = ds.length
  | _, _, .nil => rfl
  | _, _, .cons _ t => congrArg (· + 1) (DqAll.length t)
section
variable {X : Cx} {pins : List (Addr × Obj)} {σ : L2.St} {H : Hp} {s : Shared}
theorem Dq.key {u : Value} {k : Key} (h : (mixKind X.prog X.w).is k u = true) : Reads s.heap u (keyD k) [] := by
  rcases keyIs_shape (show keyIs k u = true from h) with ⟨i, t, rfl, rfl⟩ | ⟨x, t, rfl, rfl⟩
  · exact Reads.int i t
  · exact Reads.str x t
theorem keys_read : ∀ {kvs : List (Key × V)} {vs : List (Key × Value)} {es : List DictEntry}, KV kvs vs → Pairs (mixKind X.prog X.w) es vs →
    ReadsAll s.heap (es.map (·.key)) (kvs.map fun p => keyD p.1) [] ∧ Vals (kvs.map (·.2)) (es.map (·.val))
  | _, _, _, .nil, .nil => ⟨ReadsAll.nil, .nil⟩
  | _, _, _, .cons hk t, .cons h1 h2 te => by
    obtain ⟨r1, r2⟩ := keys_read t te
    refine ⟨ReadsAll.cons (as := []) (Dq.key (by rw [hk.1]; exact h1)) r1, .cons ?_ r2⟩
    show L2.RelV _ (DictEntry.val _)
    rw [h2]
    exact hk.2
/-- the addresses that are read: none of them the table of modules -/
def AsOk (as : List Addr) : Prop := sysModules ∉ as
mutual
/-- where every list (not tuple) that stands in the data is known not to be the table of modules -/
inductive DqS (K : PySem.W.Frag) (H : Hp) : V → PyData → Prop
  | non : DqS K H .non .none
  | bl (b : Bool) : DqS K H (.bl b) (.bool b)
  | int (i : Int) : DqS K H (.int i) (.int i)
  | str (x : Str) : DqS K H (.str x) (.str x)
  | lst {a : Addr} {xs : List V} {ds : List PyData} : a ≠ sysModules → SqL K H a xs → DqSAll K H xs ds → DqS K H (.ref a) (.list ds)
  | tup {a : Addr} {xs : List V} {ds : List PyData} : SqT K H a xs → DqSAll K H xs ds → DqS K H (.ref a) (.tuple ds)
  | dic {a : Addr} {kvs : List (Key × V)} {ds : List PyData} : H a = some (.dK kvs) → DqSAll K H (kvs.map (·.2)) ds → DqS K H (.ref a) (.dict ((kvs.map fun p => keyD p.1).zip ds))
inductive DqSAll (K : PySem.W.Frag) (H : Hp) : List V → List PyData → Prop
  | nil : DqSAll K H [] []
  | cons {v : V} {vs : List V} {d : PyData} {ds : List PyData} : DqS K H v d → DqSAll K H vs ds → DqSAll K H (v :: vs) (d :: ds)
end
theorem DqSAll.length {K : PySem.W.Frag} {H : Hp} : ∀ {vs : List V} {ds : List PyData}, DqSAll K H vs ds → vs.length = ds.length
  | _, _, .nil => rfl
  | _, _, .cons _ t => congrArg (· + 1) (DqSAll.length t)
mutual
theorem DqS.reads (I : Inv X pins σ H s) : ∀ {v : V} {d : PyData} {u : Value}, DqS X.K H v d → RelV v u → ∃ as, Reads s.heap u d as ∧ sysModules ∉ as
  | _, _, _, .non, r => by
    cases r
    exact ⟨_, Reads.none, by simp⟩
  | _, _, _, .bl b, r => by
    cases r
    exact ⟨_, Reads.bool b, by simp⟩
  | _, _, _, .int i, r => by
    obtain ⟨t, rfl⟩ := r
    exact ⟨_, Reads.int i t, by simp⟩
  | _, _, _, .str x, r => by
    obtain ⟨t, rfl⟩ := r
    exact ⟨_, Reads.str x t, by simp⟩
  | _, _, _, .lst na hs ha, r => by
    cases r
    obtain ⟨its, rv, ⟨o, n, ho, hc, _, hd⟩, _⟩ := I.list hs
    obtain ⟨as, hr, hn⟩ := DqSAll.reads I ha rv
    exact ⟨_, Reads.list ho hc hd hr, by simp only [List.mem_cons, not_or]; exact ⟨fun z => na z.symm, hn⟩⟩
  | _, _, _, .tup hs ha, r => by
    cases r
    obtain ⟨its, rv, ⟨o, ho, hc, n, hd⟩, _⟩ := I.tuple hs
    obtain ⟨as, hr, hn⟩ := DqSAll.reads I ha rv
    exact ⟨_, Reads.tuple ho hc hd hr, hn⟩
  | _, _, _, .dic (a := a) (kvs := kvs) (ds := ds) e ha, r => by
    cases r
    obtain ⟨_, hsm, vs, kv, o, es, ep, ho, hx, hd, _, hp, _⟩ := (show ObjOk X.prog X.w H s.heap a (.dK kvs) from I.hok a _ e)
    obtain ⟨rk, rv⟩ := keys_read (s := s) kv hp
    obtain ⟨bs, hr, hn⟩ := DqSAll.reads I ha rv
    have hl : (kvs.map fun p => keyD p.1).length = ds.length := by
      have := ha.length
      simpa using this
    have z1 : ((kvs.map fun p => keyD p.1).zip ds).map (·.1) = kvs.map fun p => keyD p.1 := List.map_fst_zip (by omega)
    have z2 : ((kvs.map fun p => keyD p.1).zip ds).map (·.2) = ds := List.map_snd_zip (by omega)
    refine ⟨a :: [] ++ bs, Reads.dict ho hx.1 hd (by rw [z1]; exact rk) (by rw [z2]; exact hr), ?_⟩
    simp only [List.cons_append, List.nil_append, List.mem_cons, not_or]
    exact ⟨fun z => by rw [← z] at hsm; simp at hsm, hn⟩
theorem DqSAll.reads (I : Inv X pins σ H s) : ∀ {vs : List V} {ds : List PyData} {us : List Value}, DqSAll X.K H vs ds → Vals vs us → ∃ as, ReadsAll s.heap us ds as ∧ sysModules ∉ as
  | _, _, _, .nil, r => by
    cases r
    exact ⟨_, ReadsAll.nil, by simp⟩
  | _, _, _, .cons h1 h2, r => by
    cases r with
    | cons r1 r2 =>
      obtain ⟨as, q1, n1⟩ := DqS.reads I h1 r1
      obtain ⟨bs, q2, n2⟩ := DqSAll.reads I h2 r2
      exact ⟨_, ReadsAll.cons q1 q2, by simp only [List.mem_append, not_or]; exact ⟨n1, n2⟩⟩
end
/-- repr(x) -/
def rRepq (K : PySem.W.Frag) : List V → Hp → VK → Prop := fun xs H Q => ∃ (x : V) (d : PyData), xs = [x] ∧ DqS K H x d ∧ d.showable = true ∧ d.depth ≤ 60 ∧ d.shown.length ≤ sizeLine ∧ Q (.str d.shown) H
theorem call_reprq (hg : X.A.guards = some []) (hu : X.A.units + 70 < cLine) : CallR X (.builtin "repr") (rRepq X.K) := by
  intro pins s σ H xs us Q I r h
  obtain ⟨x, d, rfl, hR, hs, hdp, hz, q⟩ := h
  obtain ⟨u, rfl, ru⟩ := vals1 r
  obtain ⟨as, hr, hsm⟩ := hR.reads I ru
  have sc : ∀ (b : Str), d.shown = b → ∀ tk, EP X pins σ Q (.str b tk) { s with toks := s.toks + 1 } := fun b e tk => ⟨.str b, H, I.tok _, ⟨_, rfl⟩, e ▸ q⟩
  have big : ∀ {a : Addr}, Reads s.heap (.ref a) d as → wpAny (model X.prog X.w) X.A (call (.builtin "repr") [.ref a]) (EP X pins σ Q) X.xe s := fun {a} hr =>
    repr_of_reads' hr hs (fun _ => hsm) hg (by omega) (fun _ _ e => e) (fun h' u tk k => ⟨.str _, H, I.kept k, ⟨_, rfl⟩, q⟩) hz
  cases hr with
  | none => exact PySem.P.repr_of_none (sc _ rfl _)
  | bool b => exact PySem.P.repr_of_bool (sc _ (by cases b <;> rfl) _)
  | int i t => exact PySem.P.repr_of_int (of_decide_eq_true hs) (sc _ rfl _)
  | str y t => exact PySem.P.repr_of_str (sc _ rfl _) hz
  | list h1 h2 h3 h4 => exact big (Reads.list h1 h2 h3 h4)
  | tuple h1 h2 h3 h4 => exact big (Reads.tuple h1 h2 h3 h4)
  | dict h1 h2 h3 h4 h5 => exact big (Reads.dict h1 h2 h3 h4 h5)
/-- a list display, its place not the table of modules -/
def tLstN (t : TA) : TE := fun σ H Q => t σ H fun xs H1 => xs.length ≤ sizeLine ∧ ∀ p, H1 p = none → p ≠ sysModules → Q (.ref p) (upd H1 p (.lst xs))
theorem pe_lstN {es : List Expr} {t : TA} {pos : Pos} (h : PA X es t) : PE X (.List es pos) (tLstN t) := by
  refine ⟨fun pins s σ H Q I hq => wpAny_List_spliced (thn (h.run pos pins s σ H _ I hq) ?_)⟩
  rintro us s1 ⟨xs, H1, I1, r, z, q⟩
  have hf : H1 s1.heap.objs.size = none := I1.hok.fresh (Nat.le_refl _)
  have J := I1.laid (t' := s1.toks) (a := s1.heap.objs.size) (o := .lst xs) (h' := s1.heap.push { cls := .type "list", data := .seq us.toArray 0 }) (fun b u e => Heap.get?_push_of_some _ e) (Nat.le_refl _) ⟨z, us, 0, r, Heap.get?_push_size _ rfl⟩
  exact ⟨by rw [← r.length]; exact z, .ref s1.heap.objs.size, _, J, rfl, q _ hf (fun e => by have := I1.big; rw [e] at this; exact Nat.lt_irrefl _ this)⟩
end
/-! ### defs that want to know that nothing is being shown (for repr) -/
structure FnG (P : Program) (w : World) (K : PySem.W.Frag) (mg : Str → Option Value) (base : Heap) (CX : CXT) (k : Nat) (f : Addr) (fd : FuncData) (ps : List Str) (sp : Sp) : Prop where
  run : ∀ (A : Around) (outer : List Env) (s : Shared) (H : Hp) (args : Args) (us : List Value) (vs : List V) (Q : VK) (E : XK), Room k A → A.guards = some [] → Env0 P w K mg base A outer s H → BindsTo s fd args (ps.zip us) → Vals vs us → sp vs H Q E →
    codeAny (model P w) A (.call (.ref f) args) (CR CX outer P w H s Q E) s
  len : ∀ (vs : List V) (H : Hp) (Q : VK) (E : XK), sp vs H Q E → vs.length = ps.length
theorem FnG.of {P : Program} {w : World} {K : PySem.W.Frag} {mg : Str → Option Value} {base : Heap} {CX : CXT} {k : Nat} {f : Addr} {fd : FuncData} {ps : List Str} {sp : Sp} (F : FnOk P w K mg base CX k f fd ps sp) : FnG P w K mg base CX k f fd ps sp :=
  ⟨fun A outer s H args us vs Q E hr _ e0 hb rv h => F.run A outer s H args us vs Q E hr e0 hb rv h, fun vs H Q E h => F.len vs H Q E h⟩
theorem guards_deeper {A : Around} {env : Env} (h : A.guards = some []) : (A.deeper env).guards = some [] := by
  first | exact h | simpa [Around.deeper] using h
theorem okG {P : Program} {w : World} {K : PySem.W.Frag} {mg : Str → Option Value} {base : Heap} {x qual : Str} {st : Stmt} {f : Addr} {fd : FuncData} {N ps : List Str} {k : Nat} {sp : Sp} (F : Fun K x qual st f fd) (S : FnScope N ps (defScope st))
    (len : ∀ vs H Q E, sp vs H Q E → vs.length = ps.length)
    (body : ∀ (cdv : Value) (A : Around) (outer : List Env) (s : Shared) (H : Hp) (vs : List V) (Q : VK) (E : XK), (A.deeper (envOfC qual (defScope st) s.heap.objs.size f cdv)).guards = some [] → Room k (A.deeper (envOfC qual (defScope st) s.heap.objs.size f cdv)) → sp vs H Q E →
      ∃ t, PSs (cxOf CX0 P w K mg base N qual (defScope st) f cdv A outer s H E) (defBody st) t ∧ t { nx := fun _ H' => Q .non H', rt := Q } (start N vs) H) : FnG P w K mg base CX0 (k + 1) f fd ps sp :=
  ⟨fun A outer s H args us vs Q E hr hg e0 hb rv h => fn_at F S hr e0 hb rv (len _ _ _ _ h) fun cdv hr' => body cdv A outer s H vs Q E (guards_deeper hg) hr' h, len⟩
structure DefG (P : Program) (w : World) (K : PySem.W.Frag) (mg : Str → Option Value) (base : Heap) (k : Nat) (x : Str) (ps : List Str) (sp : Sp) : Prop where
  ex : ∃ (f : Addr) (fd : FuncData), FnG P w K mg base CX0 k f fd ps sp ∧ mg x = some (.ref f) ∧ PySem.W.keepIn K (.ref f) = true ∧ Binds K fd ps []
section
variable {X : Cx} {e : Expr} {es : List Expr} {ta : TA} {p pos : Pos} {x : Str} {k : Nat} {ps : List Str} {sp : Sp}
theorem pe_callG (D : DefG X.prog X.w X.K X.mg X.base k x ps sp) (hr : Room k X.A) (hgu : X.A.guards = some []) (ha : PA X (e :: es) ta) (hg : Gl X x := by rfl) (hdb : (x == ("__debug__" : Str)) = false := by decide)
    (he : starEach (e :: es) X.env = (false, eval e X.env) :: starEach es X.env := by rfl) (hpl : (backTo pos (starEach es X.env)).any (·.1) = false := by rfl) : PE X (.Call (.Name x p) (e :: es) [] pos) (tCall sp [] E0 ta) := by
  obtain ⟨f, fd, F, m, kp, hb⟩ := D.ex
  refine ⟨fun pins s σ H Q I h => wpAny_Call_Name_kw (ld_glob I hg m (PySem.W.callWith_K (h₀ := X.base) I.ok.mod.kin kp (thn (ha.run pos pins s σ H _ I h) ?_) he hpl) hdb)⟩
  rintro us s1 ⟨vs, H1, I1, r, q⟩
  refine ⟨I1.kIn, ?_⟩
  have q' : sp vs H1 Q E0 := by
    have := q
    rwa [List.append_nil] at this
  have hl : us.length = ps.length := by rw [← r.length]; exact F.len _ _ _ _ q'
  have bt : BindsTo s1 fd ⟨us, []⟩ (ps.zip us) := by
    have := hb s1 us I1.kIn (by rw [List.append_nil]; exact hl)
    rwa [List.append_nil] at this
  refine wpAny_call (codeAny_mono (F.run X.A X.stack s1 H1 ⟨us, []⟩ us vs Q E0 hr hgu I1.env0 bt r q') ?_)
  rintro (er | fl) s' hq
  · exact False.elim hq
  · cases fl with
    | ret u => exact I1.after hq
    | next => exact False.elim hq
    | brk => exact False.elim hq
    | cont => exact False.elim hq
end
end EX
set_option Elab.async false
set_option linter.all false
set_option maxRecDepth 100000
set_option maxHeartbeats 4000000
/-! set(tuple of ints) as a value, sorted of a set of ints: up to a thousand of them -/
namespace L2
open PySem PySem.Spec PyProof.Rows Srt
section
variable {P : Program} {w : World} {A : Around} {E : Value → Shared → Prop} {s : Shared} {a : Addr}
theorem sorted_set_many {S : Int → Bool} {n : Nat} {Q : Value → Shared → Prop} (R : SetR w s.heap a S n) (hh : A.handled = none) (h64 : n ≤ 1000)
    (hQ : ∀ s' p (out : Array Value) (c : Nat) (ns : List Int), (∀ b o, s.heap.get? b = some o → s'.heap.get? b = some o) → s'.gens = s.gens → s'.os = s.os → s.heap.objs.size ≤ p →
      s'.heap.get? p = some (seqObj "list" out c) → IntsAre out.toList ns → ns.Pairwise (· < ·) → (∀ k, k ∈ ns ↔ S k = true) → ns.length = n → Q (.ref p) s') :
    wpAny (model P w) A (call (.builtin "sorted") [.ref a]) Q E s := by
  obtain ⟨o, es, ep, t, ho, hex, hd, g, nd, hm, hb, hf, hn, hr, hl⟩ := R
  refine Calls.call_function_entry kind_sorted plain_sorted entry_sorted (args_sorted1 _) ?_
  unfold Builtin.«sorted»
  refine wpAny_bind (m := checkCount "sorted" 1 1 _) (wpAny_pure ?_)
  refine wpAny_bind (collect_set (A := A.in1) hh ⟨o, ho, hex.1, hd⟩ hf hb hr hl fun s1 vs k1 hz g1 o1 pm => ?_)
  have hvl : vs.length = n := by rw [pm.length_eq, List.length_map, Array.length_toList]; exact hn
  have hI : IntsAre vs (vs.map Builtin.Re.reRawOf) := ints_of vs fun v hv => by
    obtain ⟨e, he, q⟩ := List.mem_map.mp (pm.mem_iff.mp hv)
    obtain ⟨k, tk, h1, _⟩ := g e he
    exact ⟨k, tk, by rw [← q]; exact h1⟩
  have pk : (vs.map Builtin.Re.reRawOf).Perm (es.toList.map keyOf) := by
    have q := pm.map Builtin.Re.reRawOf
    rw [List.map_map] at q
    exact q
  have hzl : vs.length ≤ sizeLine := by rw [hvl, sizeLine_eq]; omega
  refine wpAny_bind (wpAny_newList ?_ hzl)
  have hoL : (s1.heap.push (seqObj "list" vs.toArray 0)).get? s1.heap.objs.size = some (seqObj "list" vs.toArray 0) := Heap.get?_push_size _ rfl
  refine wpAny_bind (wpAny_holding (wpAny_call_entry slot_list_sort ⟨_, hoL, rfl⟩ entry_list_sort (SrtO.list_sort_ord SrtO.swo_int hoL hzl (fun h2 => SrtO.ints_sortable hI h2) fun out b1 b2 => ⟨_, rfl, ?_⟩) (args_list_sort _)))
  obtain ⟨a1, a2, a3⟩ := SrtO.ints_out hI b1 b2
  generalize hns : out.map SrtO.iv = ns' at a1 a2 a3
  obtain ⟨c, hc⟩ := sortedHeap_at (vs := vs) (out := out.toArray) hoL
  have pn : ns'.Perm (es.toList.map keyOf) := a2.trans pk
  refine wpAny_pure ⟨_, rfl, hQ _ s1.heap.objs.size out.toArray c ns' (fun b u e => ?_) g1 o1 hz hc a1 (lt_of_le_nodup ns' a3 (pn.nodup_iff.mpr nd)) (fun k => by rw [pn.mem_iff, ← hm k]) ?_⟩
  · have q := k1 b u e
    have hlt := Heap.lt_size q
    show (sortedHeap (s1.heap.push (seqObj "list" vs.toArray 0)) s1.heap.objs.size vs out.toArray).get? b = some u
    rw [sortedHeap_old (Nat.ne_of_lt hlt) (by rw [size_push']; exact Nat.lt_succ_of_lt hlt)]
    exact Heap.get?_push_of_some _ q
  · rw [pn.length_eq, List.length_map, Array.length_toList]; exact hn
end
section
variable {X : Cx}
/-- set(t), a tuple of ints -/
def rSetTup (K : PySem.W.Frag) (w : World) : List V → Hp → VK → Prop := fun xs H Q => ∃ (p : Addr) (ns : List Int), xs = [.ref p] ∧ SqT K H p (ns.map V.int) ∧ ns.length ≤ 1000 ∧
  ∀ (a : Addr) (c : Nat) (H' : Hp), Same H H' → H' a = some (SetO w a (fun j => decide (j ∈ ns)) c) → c ≤ ns.length → Q (.ref a) H'
theorem cr_setTup (hc : X.calm = true) : CallR X (.type "set") (rSetTup X.K X.w) := by
  intro pins s σ H xs us Q I r h
  obtain ⟨p0, ns, rfl, hq, hl, q⟩ := h
  rw [Vals.ref1 r]
  obtain ⟨its, rv, pt, hz⟩ := I.tuple hq
  have hi : IntsAre its.toArray.toList ns := ints_of_vals rv
  refine call_set_tupI ns (I.ok.hd hc) (show s.heap.IsTuple p0 its.toArray from pt) hi (by unfold scanBound; omega) fun h' tk c R1 hcn k => ?_
  exact ⟨.ref _, upd H s.heap.objs.size (SetO X.w s.heap.objs.size (fun j => decide (j ∈ ns)) c), I.laid (t' := tk) (fun b u e => k b u e) (Nat.le_refl _) (setO_new R1), rfl, q _ c _ (EX.Same.upd (I.hok.fresh (Nat.le_refl _))) upd_same hcn⟩
/-- sorted(found), up to a thousand members -/
def rSortedMany (w : World) : List V → Hp → VK → Prop := fun vs H Q => ∃ (a : Addr) (S : Int → Bool) (n : Nat), vs = [V.ref a] ∧ H a = some (SetO w a S n) ∧ n ≤ 1000 ∧
  ∀ (ns : List Int) (p : Addr) (H' : Hp), Same H H' → H' p = some (.lst (ns.map V.int)) → ns.Pairwise (· < ·) → (∀ k : Int, k ∈ ns ↔ S k = true) → ns.length = n → Q (.ref p) H'
theorem cr_sortedMany (hc : X.calm = true) : CallR X (.builtin "sorted") (rSortedMany X.w) := by
  intro pins s σ H vs us Q I r h
  obtain ⟨a, S, n, rfl, ha, h64, q⟩ := h
  have R := setO_get I ha
  rw [Vals.ref1 r]
  refine sorted_set_many R (I.ok.hd hc) h64 fun s' p out c ns k g o hp hg hi hs hm hl => ?_
  have hlen : (ns.map V.int).length ≤ sizeLine := by rw [List.length_map, hl, sizeLine_eq]; omega
  have hn : H p = none := I.hok.fresh hp
  have J : Inv X pins σ (upd H p (.lst (ns.map V.int))) { s with heap := s'.heap, gens := s'.gens, drawn := s'.drawn, toks := s'.toks } :=
    I.call (ch := []) (Un.laid k hp hn) (I.hok.laid k hp ⟨hlen, out.toList, c, vals_of_ints hi, hg⟩) (by rw [g]; exact I.bare) (fun _ z => nomatch z)
  have e : s' = { s with heap := s'.heap, gens := s'.gens, drawn := s'.drawn, toks := s'.toks } := by
    cases s'
    cases s
    cases o
    rfl
  rw [e]
  exact ⟨.ref p, _, J, rfl, q ns p _ (EX.Same.upd hn) upd_same hs hm hl⟩
end
/-- two rising lists with the same members are one -/
theorem rising_eq : ∀ {l m : List Int}, l.Pairwise (· < ·) → m.Pairwise (· < ·) → (∀ k, k ∈ l ↔ k ∈ m) → l = m
  | [], [], _, _, _ => rfl
  | [], y :: m, _, _, h => absurd ((h y).mpr List.mem_cons_self) (by simp)
  | x :: l, [], _, _, h => absurd ((h x).mp List.mem_cons_self) (by simp)
  | x :: l, y :: m, hl, hm, h => by
    have l1 := List.pairwise_cons.mp hl
    have m1 := List.pairwise_cons.mp hm
    have e : x = y := by
      rcases List.mem_cons.mp ((h x).mp List.mem_cons_self) with e | e
      · exact e
      · rcases List.mem_cons.mp ((h y).mpr List.mem_cons_self) with e2 | e2
        · exact e2.symm
        · have a := m1.1 x e
          have b := l1.1 y e2
          omega
    subst e
    have : l = m := rising_eq l1.2 m1.2 fun k => by
      constructor
      · intro hk
        rcases List.mem_cons.mp ((h k).mp (List.mem_cons_of_mem _ hk)) with e | e
        · have := l1.1 k hk
          omega
        · exact e
      · intro hk
        rcases List.mem_cons.mp ((h k).mpr (List.mem_cons_of_mem _ hk)) with e | e
        · have := m1.1 k hk
          omega
        · exact e
    rw [this]
end L2
set_option Elab.async false
set_option linter.all false
set_option maxRecDepth 100000
set_option maxHeartbeats 4000000
namespace EX
open PySem L2 PySem.Spec PyProof.Rows
/-! ### defs that may raise -/
structure DefX (P : Program) (w : World) (K : PySem.W.Frag) (mg : Str → Option Value) (base : Heap) (k : Nat) (x : Str) (ps : List Str) (sp : Sp) : Prop where
  ex : ∃ (f : Addr) (fd : FuncData), FnOk P w K mg base (L2.CX P w) k f fd ps sp ∧ mg x = some (.ref f) ∧ PySem.W.keepIn K (.ref f) = true ∧ Binds K fd ps []
section
variable {X : Cx} {e : Expr} {es : List Expr} {ta : TA} {p pos : Pos} {x : Str} {k : Nat} {ps : List Str} {sp : Sp}
/-- called where it doesn't raise -/
theorem pe_callX (D : DefX X.prog X.w X.K X.mg X.base k x ps sp) (hr : Room k X.A) (ha : PA X (e :: es) ta) (hg : Gl X x := by rfl) (hdb : (x == ("__debug__" : Str)) = false := by decide)
    (he : starEach (e :: es) X.env = (false, eval e X.env) :: starEach es X.env := by rfl) (hpl : (backTo pos (starEach es X.env)).any (·.1) = false := by rfl) : PE X (.Call (.Name x p) (e :: es) [] pos) (tCall sp [] E0 ta) := by
  obtain ⟨f, fd, F, m, kp, b⟩ := D.ex
  exact pe_call F hr hg m kp b .nil passL ha hdb he hpl
/-- called where what it raises goes on -/
theorem pe_callU {W : WX} (D : DefX X.prog X.w X.K X.mg X.base k x ps sp) (hr : Room k X.A) (tk : Takes X W) (ha : PA X (e :: es) ta) (hg : Gl X x := by rfl) (hdb : (x == ("__debug__" : Str)) = false := by decide)
    (he : starEach (e :: es) X.env = (false, eval e X.env) :: starEach es X.env := by rfl) (hpl : (backTo pos (starEach es X.env)).any (·.1) = false := by rfl) : PE X (.Call (.Name x p) (e :: es) [] pos) (tCallS sp (WE W) ta) := by
  obtain ⟨f, fd, F, m, kp, b⟩ := D.ex
  exact pe_callS F hr hg m kp b (fun σ => passAt tk σ) ha hdb he hpl
end
end EX
set_option Elab.async false
set_option linter.all false
set_option maxRecDepth 100000
set_option maxHeartbeats 4000000
namespace EX
open PySem PySem.Spec L2 PyProof.Rows
section
variable {X : Cx}
/-- len of a dict, locked or not -/
theorem call_lenR : CallR X (.builtin "len") (fun us H Q => ∃ d kvs, us = [V.ref d] ∧ Rd H d (.dK kvs) ∧ Q (.int kvs.length) H) := by
  intro pins s σ H us vs Q I r h
  obtain ⟨d, kvs, rfl, hd, q⟩ := h
  obtain ⟨v, rfl, rv⟩ := vals1 r
  cases rv
  exact d_len I hd fun t s' I' => ⟨.int kvs.length, H, I', ⟨t, rfl⟩, q⟩
/-- a statement that is never reached -/
def tDead : TS := fun _ _ _ => False
theorem ps_dead {st : Stmt} : PS X st tDead := ⟨fun _ _ _ _ _ _ h => h.elim⟩
/-- name = {..: .. for ..} -/
theorem ps_setDc {j : Nat} {nm : Str} {pn : Pos} {ke ve tgt src : Expr} {conds : List Expr} {sc : Scope} {own : List (Str × Nat)} {p1 p2 : Pos} {ti : TI} {tg : TG} {tt : TT} {tk tv : TE}
    (calm : X.calm = true) (nd : X.N.Nodup) (at_ : X.N[j]? = some nm) (loc : X.env.scope.names.lookup nm = some .local) (sw : swapsWith (.DictComp ke ve [⟨tgt, src, conds, 0⟩] sc p1) (some (.Name nm pn)) p2.line X.env = pure true)
    (walk : PI X tgt src ti) (ok : BlkOk X.N X.env.scope sc own)
    (ht : ∀ (s : Shared) (H : Hp) (C : Addr) (cl : List (Str × Addr)) (fp : List Addr), PG (X.blk s H sc (compEnvC sc cl C X.env) fp) tgt tg)
    (hc : ∀ (s : Shared) (H : Hp) (C : Addr) (cl : List (Str × Addr)) (fp : List Addr), PTs (X.blk s H sc (compEnvC sc cl C X.env) fp) conds tt)
    (hk : ∀ (s : Shared) (H : Hp) (C : Addr) (cl : List (Str × Addr)) (fp : List Addr), PE (X.blk s H sc (compEnvC sc cl C X.env) fp) ke tk)
    (hv : ∀ (s : Shared) (H : Hp) (C : Addr) (cl : List (Str × Addr)) (fp : List Addr), PE (X.blk s H sc (compEnvC sc cl C X.env) fp) ve tv)
    (fold : ∀ x, foldedSetIterable src X.env x = pure x := by intro _; rfl) :
    PS X (.Assign [.Name nm pn] (.DictComp ke ve [⟨tgt, src, conds, 0⟩] sc p1) p2) (tAsg (tDc ti tg tt tk tv (own.map (·.2))) (gName j)) := by
  refine ⟨fun pins s0 σ0 H0 D0 I0 rd => ?_⟩
  rw [exec_Assign_Name_used _ _ _ _ sw]
  refine wpAny_bind (wpAny_standAt (wpAny_bind ?_))
  show wpAny _ X.A (do let _ ← comprehension (.DictComp ke ve [⟨tgt, src, conds, 0⟩] sc p1) sc X.env (firstIterPos [⟨tgt, src, conds, 0⟩] p1) newDict false (eval src X.env) (some (assign (.Name nm pn) X.env))) _ _ s0
  have rd' : tDc ti tg tt tk tv (own.map (·.2)) σ0 H0 (fun x Hx => gName j x σ0 Hx D0.nx) := rd
  refine wpAny_bind (thn (dc_core (Qf := fun _ se => SP X pins D0 .next se) calm nd I0 walk ok ht hc hk hv fold rd' fun L C se me He Ie q hn f => ?_) fun _ se hq => wpAny_pure (wpAny_pure hq))
  show wpAny _ _ (assign (.Name nm pn) X.env (.ref L)) _ _ _
  refine wpAny_assign_Name (store_ok2 (v := V.ref L) Ie nd at_ (.inl loc) rfl (fun sf If ⟨b, sb, hb⟩ => ?_) (.inr loc))
  obtain ⟨g0, g1, g2, g3, g4, g5⟩ := f
  have cb : C ≠ b := by
    rcases hb with z | z
    · rw [z]
      exact g1
    · exact fun e => g4 nm b z e.symm
  exact ⟨me, hn.sameBut sb cb, fun hl sl => ⟨_, He, If.turned (t' := sf.toks) (fun a o ha e => (sl.2 a ha).trans e) g0 g1 g3 g4 g5, q⟩⟩
theorem sw_dc {ke ve : Expr} {cs : List Comprehension} {sc : Scope} {p1 pn : Pos} {nm : Str} {l : Nat} {env : Env} (kd : env.scope.kind = .function) (loc : env.scope.names.lookup nm = some .local) (line : (pn.line == p1.line) = true)
    (free : (sc.names.any fun (m, k) => m == nm && (k == .local || k == .cell)) = false) : swapsWith (.DictComp ke ve cs sc p1) (some (.Name nm pn)) l env = pure true := by
  have k1 : env.kindOf nm = some .local := loc
  have k2 : env.blockKind = .function := by
    unfold Env.blockKind
    rw [kd]
    rfl
  unfold swapsWith
  simp only [k2, k1, free, Expr.pos, line]
  rfl
end
section
variable {J : It} {n : Nat} {G : Hp → Prop} {Y : Nat → Hp → V → Hp → Prop}
/-- a dict comprehension over a walk -/
theorem dc_it (wk : Walk J n G Y) {tg : TG} {tt : TT} {tk tv : TE} {vs : List Nat} {σ : L2.St} {H1 : Hp} {D : Addr} {Qd : Hp → Prop} (Pv : Nat → Hp → Prop) (h0 : Pv 0 (L2.upd H1 D (.dK []))) (hG : ∀ i H, i ≤ n → Pv i H → G H)
    (turn : ∀ i x H H', i < n → Pv i H → Y i H x H' → tg x (wipe σ vs) H' fun σ2 H2 => wipe σ2 vs = wipe σ vs ∧ tt σ2 H2 fun b H3 =>
      if b = true then tk σ2 H3 fun y H4 => tv σ2 H4 fun z H5 => ∃ kvs k, y = kV k ∧ H5 D = some (.dK kvs) ∧ kvs.length < sizeLine ∧ Pv (i + 1) (L2.upd H5 D (.dK (putK kvs k z))) else Pv (i + 1) H3) (fin : ∀ H, Pv n H → Qd H) :
    ∃ W : Nat → Nat → Hp → Prop, (∃ m, W 0 m (L2.upd H1 D (.dK []))) ∧ ∀ i m H, W i m H →
      (J.stop i H ∧ Qd H) ∨ (J.go i H ∧ ∃ Nx : Hp → Prop, (∀ H', Nx H' → ∃ m', m' < m ∧ W (i + 1) m' H') ∧ ∀ x H', J.yld i H x H' → tg x (wipe σ vs) H' fun σ2 H2 => wipe σ2 vs = wipe σ vs ∧ tt σ2 H2 fun b H3 =>
        if b = true then tk σ2 H3 fun y H4 => tv σ2 H4 fun z H5 => ∃ kvs k, y = kV k ∧ H5 D = some (.dK kvs) ∧ kvs.length < sizeLine ∧ Nx (L2.upd H5 D (.dK (putK kvs k z))) else Nx H3) := by
  refine ⟨fun i m H => (i ≤ n ∧ m = n - i) ∧ Pv i H, ⟨n, ⟨Nat.zero_le _, by simp⟩, h0⟩, fun i m H hw => ?_⟩
  obtain ⟨⟨hi, rfl⟩, p⟩ := hw
  have g := hG i H hi p
  rcases Nat.lt_or_ge i n with lt | ge
  · exact .inr ⟨wk.goes i H lt g, Pv (i + 1), fun H' p' => ⟨n - (i + 1), by omega, ⟨lt, rfl⟩, p'⟩, fun x H' y => turn i x H H' lt p (wk.yields i H x H' lt g y)⟩
  · obtain rfl : i = n := by omega
    exact .inl ⟨wk.stops H g, fin H p⟩
end
end EX
set_option Elab.async false
set_option linter.all false
set_option maxRecDepth 100000
set_option maxHeartbeats 4000000
/-! enumerate of a tuple, walked -/
namespace EnX
open PySem PySem.Spec
set_option maxHeartbeats 1000000 in
theorem makes_enum {v : Value} {o : Obj} {G : Heap → Prop} (B : Begins v o G) : Meets (Builtin.«enumerate.__new__» ⟨[.type "enumerate", v], []⟩) (fun _ R s => G s.heap ∧
    R (.ok (.ret (.ref (s.heap.push o).objs.size))) { s with heap := (s.heap.push o).push { cls := .type "enumerate", data := .fields #[.none, .bool false, .ref s.heap.objs.size, rawInt 0, .none, .none] } }) :=
  .of_wp fun pr wo Ar R s h => by
    obtain ⟨hp, gn, dr, tk, os⟩ := s
    obtain ⟨g0, h⟩ := h
    have subE := sub_enumerate
    have it0 : ∀ {A2 : Around} {E2 : Value → Shared → Prop} {Q2 : Value → Shared → Prop}, Q2 (.ref hp.objs.size) ⟨hp.push o, gn, dr, tk, os⟩ → wpAny (model pr wo) A2 (pyIter v) Q2 E2 ⟨hp, gn, dr, tk, os⟩ :=
      fun q => B.iter pr wo _ _ ⟨hp, gn, dr, tk, os⟩ _ g0 q
    wp_walk using it0
    refine wpAny_stack_any fun st => wpAny_pure ?_
    split
    · rename_i k _ _ _ _ _
      cases (k == Value.type "enumerate")
      · wp_walk using it0
        exact ⟨_, rfl, h⟩
      · wp_walk using it0
        exact ⟨_, rfl, h⟩
    · wp_walk using it0
      exact ⟨_, rfl, h⟩
theorem enum_call {pr : Program} {wo : World} {Ar : Around} {E : Value → Shared → Prop} {s : Shared} {v : Value} {o : Obj} {G : Heap → Prop} {Q : Value → Shared → Prop} (B : Begins v o G) (g : G s.heap)
    (h : ∀ hn, IsEnum hn (s.heap.objs.size + 1) s.heap.objs.size 0 .none → hn.get? s.heap.objs.size = some o → hn.objs.size = s.heap.objs.size + 2 →
      (∀ b u, s.heap.get? b = some u → hn.get? b = some u) → Q (.ref (s.heap.objs.size + 1)) { s with heap := hn }) :
    wpAny (model pr wo) Ar (call (.type "enumerate") [v]) Q E s := by
  refine callType_new F.called_enumerate (by decide) (F.typeCall_enumerate_1 _) (F.newCall_enumerate_1 _) (fun ob => F.args_object_init_2 ob _) F.entry_enumerate_new (makes_enum B) ⟨g, ?_⟩
  have size1 : (s.heap.push o).objs.size = s.heap.objs.size + 1 := Heap.size_push ..
  show _ ∧ _
  rw [size1]
  have isE : IsEnum ((s.heap.push o).push { cls := .type "enumerate", data := .fields #[.none, .bool false, .ref s.heap.objs.size, rawInt 0, .none, .none] }) (s.heap.objs.size + 1) s.heap.objs.size 0 .none := by
    have q := Heap.get?_push_size (s.heap.push o) (o := { cls := .type "enumerate", data := .fields #[.none, .bool false, .ref s.heap.objs.size, rawInt 0, .none, .none] }) rfl
    rw [size1] at q
    exact q
  exact ⟨⟨_, isE, rfl⟩, h _ isE (Heap.get?_push_of_some _ (Heap.get?_push_size _ B.free)) (by rw [Heap.size_push, size1]) fun b u x => Heap.get?_push_of_some _ (Heap.get?_push_of_some _ x)⟩
end EnX
namespace EX
open PySem PySem.Spec L2 PyProof.Rows
/-- the tuple at a, each item in a new pair with its number -/
def Itq (K : PySem.W.Frag) (a : Addr) : It :=
  ⟨fun i H => ∃ (ys : List V) (y : V), SqT K H a ys ∧ ys[i]? = some y, fun i H v H' => ∃ t y, v = .ref t ∧ H t = none ∧ H' = L2.upd H t (.tup [.int (i : Nat), y]) ∧ ∀ ys, SqT K H a ys → ys[i]? = some y, fun i H => ∃ ys : List V, SqT K H a ys ∧ ys.length = i⟩
theorem turn_q {P : Program} {w : World} {K : PySem.W.Frag} {elts : List Expr} {kk : Nat} {tpos : Pos} (a e it : Addr) :
    Turn P w K (.Tuple elts kk tpos) (Itq K a) [e, it] e (fun i h => (∃ old, IsEnum h e it ((i : Nat) : Int) old) ∧ h.IsTupleIter it a i ∧ e ≠ it) where
  mem := by simp
  obj := fun i h st b hb => by
    obtain ⟨⟨old, he⟩, ⟨o, ho, hc, hd⟩, _⟩ := st
    rcases (show b = e ∨ b = it by simpa using hb) with z | z
    · rw [z]
      exact ⟨_, he, fun v q => nomatch q⟩
    · rw [z]
      exact ⟨o, ho, fun v q => by rw [hd] at q; cases q⟩
  keep := fun i h h' st k => by
    obtain ⟨⟨old, he⟩, hi, hne⟩ := st
    exact ⟨⟨old, k e (by simp) _ he⟩, hi.at fun o q => k it (by simp) o q, hne⟩
  item := by
    intro X hP hw hK hc i pins s σ H E I hf st hg
    subst hP hw hK
    obtain ⟨⟨old, he⟩, hit, hne⟩ := st
    obtain ⟨ys, y, hq, hy⟩ := hg
    obtain ⟨its, rv, p, hz⟩ := I.tuple hq
    obtain ⟨u, hu, ru⟩ := rv.get hy
    have le : e < s.heap.objs.size := Heap.lt_size he
    have li : it < s.heap.objs.size := by
      obtain ⟨_, q, _⟩ := hit
      exact Heap.lt_size q
    have pt : s.heap.IsTuple a its.toArray := p
    have nai : a ≠ it := fun z => by
      obtain ⟨o1, h1, c1, _⟩ := hit
      obtain ⟨o2, h2, c2, _⟩ := pt
      rw [← z, h2] at h1
      cases h1
      rw [c2] at c1
      exact absurd c1 (by simp)
    have nae : e ≠ a := fun z => by
      obtain ⟨o2, h2, c2, _⟩ := pt
      have he' := he
      rw [z, IsEnum, h2] at he'
      cases he'
      exact absurd c2 (by simp)
    have hlen : i < its.toArray.size := by
      have := (List.getElem?_eq_some_iff.mp hu).1
      simpa using this
    refine wpAny_pyNext_enum_itemD (Draws.tuple (A := X.A.in1) (I.ok.hd hc) it a nai its.toArray) he ⟨hit, pt⟩ hlen hne (by simp [hne, nae]) fun x h' tk px ho hst hT hsz hk => ?_
    have ex : x = u := by
      have : its.toArray[i]? = some u := by simpa using hu
      exact Option.some.inj (px.symm.trans this)
    subst ex
    refine ⟨_, rfl, wpAny_letOwnedTupleGo_enum (s := { s with heap := h', toks := tk + 1 }) ho fun h2 he2 sb => ?_⟩
    have hT2 : h2.get? s.heap.objs.size = some { cls := .type "tuple", data := .seq #[.int i tk, x] } := (sb.2 _ (Nat.ne_of_gt le)).trans hT
    have fresh : ObjOk X.prog X.w (L2.upd H s.heap.objs.size (.tup [.int (i : Nat), y])) h2 s.heap.objs.size (.tup [.int (i : Nat), y]) :=
      ⟨by show 2 ≤ sizeLine; decide, [.int i tk, x], .cons ⟨_, rfl⟩ (.cons ru .nil), ⟨_, hT2, rfl, _, rfl⟩⟩
    have I1 : Inv X pins σ (L2.upd H s.heap.objs.size (.tup [.int (i : Nat), y])) { s with heap := h2, toks := tk + 1 } :=
      I.turnedNew (ch := [e, it]) (fun b ob hb q => (sb.2 b (fun z => hb (by simp [z]))).trans (hk b ob (fun z => hb (by simp [z])) (fun z => hb (by simp [z])) q)) hf (Nat.le_refl _) fresh
    refine ⟨.ref s.heap.objs.size, _, I1, rfl, ⟨_, y, rfl, I.hok.fresh (Nat.le_refl _), rfl, fun zs hz' => by rw [I.tuple_inj hz' hq]; exact hy⟩, ⟨⟨x, ?_⟩, hst.1.at fun o q => (sb.2 it (Ne.symm hne)).trans q, hne⟩, fun b hb => ?_⟩
    · rw [show ((i + 1 : Nat) : Int) = (i : Int) + 1 by omega]
      exact he2
    · have lb : b < s.heap.objs.size := by
        rcases (show b = e ∨ b = it by simpa using hb) with z | z
        · rw [z]; exact le
        · rw [z]; exact li
      rw [upd_ne (Nat.ne_of_lt lb)]
      exact (hf b hb).1
  done := by
    intro X hP hw hK hc i pins s σ H E I hf st hg
    subst hP hw hK
    obtain ⟨⟨old, he⟩, hit, hne⟩ := st
    obtain ⟨ys, hq, hy⟩ := hg
    obtain ⟨its, rv, p, hz⟩ := I.tuple hq
    obtain ⟨f0, f1, f2, f3, f4, f5⟩ := hf it (by simp)
    have pt : s.heap.IsTuple a its.toArray := p
    have nai : a ≠ it := fun z => by
      obtain ⟨o1, h1, c1, _⟩ := hit
      obtain ⟨o2, h2, c2, _⟩ := pt
      rw [← z, h2] at h1
      cases h1
      rw [c2] at c1
      exact absurd c1 (by simp)
    have en : i = its.toArray.size := by
      have hl := rv.length
      rw [List.size_toArray]
      omega
    subst en
    exact wpAny_pyNext_enum_endD (Draws.tuple (A := X.A.in1) (I.ok.hd hc) it a nai its.toArray) he ⟨hit, pt⟩ fun h' eb => ⟨rfl, I.turned (t' := s.toks) (fun b o hb q => eb b o hb q) f0 f1 f3 f4 f5⟩
  self := fun A i s Q E st h => by
    obtain ⟨⟨_, he⟩, _⟩ := st
    exact wpAny_pyIter_enum he h
def iEnq (K : PySem.W.Frag) (ta : TA) : TI := fun σ H R => ta σ H fun vs H1 => ∃ a ys, vs = [.ref a] ∧ SqT K H1 a ys ∧ R (Itq K a) H1
/-- for i, x in enumerate(a tuple) -/
theorem pi_enq {X : Cx} {e : Expr} {ta : TA} {p pos tpos : Pos} {elts : List Expr} {kk : Nat} (gl : Gl X "enumerate") (no : X.mg "enumerate" = none) (args : PA X [e] ta) (st : starEach [e] X.env = [(false, eval e X.env)] := by rfl) :
    PI X (.Tuple elts kk tpos) (.Call (.Name "enumerate" p) [e] [] pos) (iEnq X.K ta) := by
  refine ⟨fun pins s σ H R I h => ?_⟩
  refine Call_ (ld_blt I gl no boot_enumerate (PyProof.Rows.callWith_type1 (thn (args.run pos pins s σ H _ I h) fun us s1 ⟨vs, H1, I1, r1, q1⟩ => ?_) st rfl))
  obtain ⟨a, ys, ex, hq, q⟩ := q1
  subst ex
  cases r1 with
  | cons r rr =>
    cases rr
    cases r
    obtain ⟨its, rv, pt, hz⟩ := I1.tuple hq
    have pt' : s1.heap.IsTuple a its.toArray := pt
    refine EnX.enum_call (begins_tuple a its.toArray) pt' fun hn he hit hsz hk => wpAny_pyIter_enum he ?_
    have I2 : Inv X pins σ H1 { s1 with heap := hn } := I1.kept (t' := s1.toks) hk
    refine ⟨s1.heap.objs.size + 1, [s1.heap.objs.size + 1, s1.heap.objs.size], _, _, H1, rfl, I2, turn_q a (s1.heap.objs.size + 1) s1.heap.objs.size, ⟨⟨.none, he⟩, ⟨_, hit, rfl, rfl⟩, Nat.succ_ne_self _⟩, fun b hb => ?_, q⟩
    have le : s1.heap.objs.size ≤ b := by
      rcases (show b = s1.heap.objs.size + 1 ∨ b = s1.heap.objs.size by simpa using hb) with z | z
      · rw [z]; exact Nat.le_add_right _ _
      · rw [z]; exact Nat.le_refl _
    exact I1.fpOk le (I1.hok.fresh le)
theorem walk_enq {K : PySem.W.Frag} {a : Addr} {xs : List V} : Walk (Itq K a) xs.length (fun H => SqT K H a xs) (YPair (fun i => some (.int (i : Nat))) (fun i => xs[i]?)) := by
  refine ⟨fun i _ hi q => ⟨xs, xs[i], q, by simp [hi]⟩, fun _ q => ⟨xs, q, rfl⟩, fun i H v H2 _ q y => ?_⟩
  obtain ⟨t, x, h1, h2, h3, h4⟩ := y
  exact ⟨t, .int (i : Nat), x, h1, h2, h3, rfl, h4 xs q⟩
end EX
set_option Elab.async false
set_option linter.all false
set_option maxRecDepth 100000
set_option maxHeartbeats 4000000
/-! what stands in the heap but for some places -/
namespace EX
open PySem L2 PyProof.Rows
/-- all that stood stands, but at the places S -/
def Keeps (S : List Addr) (H H' : Hp) : Prop := ∀ b o, b ∉ S → H b = some o → H' b = some o
variable {S T : List Addr} {H H1 H2 : Hp}
theorem Keeps.refl (S : List Addr) (H : Hp) : Keeps S H H := fun _ _ _ e => e
theorem Keeps.of (s : Same H H1) : Keeps S H H1 := fun b o _ e => s b o e
theorem Keeps.trans (a : Keeps S H H1) (b : Keeps S H1 H2) : Keeps S H H2 := fun c o n e => b c o n (a c o n e)
theorem Keeps.more (a : Keeps S H H1) (h : ∀ p ∈ S, p ∈ T) : Keeps T H H1 := fun c o n e => a c o (fun z => n (h c z)) e
theorem Keeps.then (a : Keeps S H H1) (s : Same H1 H2) : Keeps S H H2 := a.trans (.of s)
theorem Keeps.put {p : Addr} {o : HO} (a : Keeps S H H1) (hp : p ∈ S) : Keeps S H (upd H1 p o) := fun c u n e => by
  have ne : c ≠ p := fun z => n (by rw [z]; exact hp)
  rw [upd_ne ne]
  exact a c u n e
theorem Keeps.new {p : Addr} {o : HO} (a : Keeps S H H1) (hp : H1 p = none) : Keeps S H (upd H1 p o) := fun c u n e => by
  have := a c u n e
  have ne : c ≠ p := fun z => by
    rw [z, hp] at this
    cases this
  rw [upd_ne ne]
  exact this
theorem Keeps.free {p : Addr} (a : Keeps S H H1) (hS : p ∉ S) (hp : H1 p = none) : H p = none := by
  cases e : H p with
  | none => rfl
  | some o =>
    have := a p o hS e
    rw [hp] at this
    cases this
/-- what is changed was not there -/
theorem Keeps.same (a : Keeps S H H1) (h : ∀ p ∈ S, H p = none) : Same H H1 := fun b o e => a b o (fun z => by rw [h b z] at e; cases e) e
theorem Keeps.seq {K : PySem.W.Frag} {a : Addr} {xs : List V} (k : Keeps S H H1) (n : ∀ o, H a = some o → a ∉ S) (h : SqL K H a xs) : SqL K H1 a xs := by
  rcases h with (h | ⟨o, h⟩) | h
  · exact .inl (.inl (k _ _ (n _ h) h))
  · exact .inl (.inr ⟨o, k _ _ (n _ h) h⟩)
  · exact .inr h
theorem Keeps.sqt {K : PySem.W.Frag} {a : Addr} {xs : List V} (k : Keeps S H H1) (n : ∀ o, H a = some o → a ∉ S) (h : SqT K H a xs) : SqT K H1 a xs := by
  rcases h with (h | ⟨o, h⟩) | h
  · exact .inl (.inl (k _ _ (n _ h) h))
  · exact .inl (.inr ⟨o, k _ _ (n _ h) h⟩)
  · exact .inr h
theorem Keeps.lock {d : Addr} {u : HO} {od : Obj} (hd : H d = some u) (a : Keeps S (upd H d (.frz od u)) H1) : Keeps S H (upd H1 d u) := fun b o n e => by
  by_cases hb : b = d
  · subst hb
    rw [upd_same, ← hd, e]
  · rw [upd_ne hb]
    refine a b o n ?_
    rw [upd_ne hb]
    exact e
theorem ne_by {a b : Addr} {o : HO} (h : H a = some o) (hb : H b = none) : a ≠ b := fun z => by
  rw [z, hb] at h
  cases h
theorem ixI {n j : Nat} (hj : j < n) : ixN n (j : Int) = some j := by
  unfold ixN
  rw [if_pos (by omega), if_pos (by omega)]
  rfl
/-- no tuple stands there -/
def NoTup (H : Hp) (p : Addr) : Prop := (∀ xs, H p ≠ some (.tup xs)) ∧ ∀ q xs, H p ≠ some (.frz q (.tup xs))
theorem NoTup.ins {p C dx : Addr} {fs : List (Str × V)} (h : H p = some (.ins C dx fs)) : NoTup H p := ⟨fun xs z => (by rw [h] at z; cases z), fun q xs z => (by rw [h] at z; cases z)⟩
theorem NoTup.lst {p : Addr} {ys : List V} (h : H p = some (.lst ys)) : NoTup H p := ⟨fun xs z => (by rw [h] at z; cases z), fun q xs z => (by rw [h] at z; cases z)⟩
theorem NoTup.dK {p : Addr} {ys : List (Key × V)} (h : H p = some (.dK ys)) : NoTup H p := ⟨fun xs z => (by rw [h] at z; cases z), fun q xs z => (by rw [h] at z; cases z)⟩
theorem NoTup.no {p : Addr} (h : H p = Option.none) : NoTup H p := ⟨fun xs z => (by rw [h] at z; cases z), fun q xs z => (by rw [h] at z; cases z)⟩
theorem Keeps.sqt' {K : PySem.W.Frag} {a : Addr} {xs : List V} (k : Keeps S H H1) (n : ∀ p ∈ S, NoTup H p) (h : SqT K H a xs) : SqT K H1 a xs := by
  rcases h with (h | ⟨o, h⟩) | h
  · exact .inl (.inl (k _ _ (fun z => (n _ z).1 xs h) h))
  · exact .inl (.inr ⟨o, k _ _ (fun z => (n _ z).2 o xs h) h⟩)
  · exact .inr h
theorem Keeps.one {p : Addr} {o : HO} (H : Hp) : Keeps [p] H (upd H p o) := (Keeps.refl _ _).put (List.mem_singleton.mpr rfl)
theorem ifF {b : Bool} {A B : Prop} (e : b = false) (h : B) : if b = true then A else B := by
  rw [e]
  exact iteF h
theorem ifT {b : Bool} {A B : Prop} (e : b = true) (h : A) : if b = true then A else B := by
  rw [e]
  exact iteT h
theorem rd_lock {g d : Addr} {k u : List (Key × V)} {od : Obj} (h : Rd H g (.dK k)) (hd : H d = some (.dK u)) : Rd (upd H d (.frz od (.dK u))) g (.dK k) := by
  by_cases e : g = d
  · subst e
    rcases h with h | ⟨o, h⟩
    · rw [hd] at h
      cases h
      exact .inr ⟨od, upd_same⟩
    · rw [hd] at h
      cases h
  · rcases h with h | ⟨o, h⟩
    · exact .inl (by rw [upd_ne e]; exact h)
    · exact .inr ⟨o, by rw [upd_ne e]; exact h⟩
theorem rd_same {g : Addr} {k : List (Key × V)} (s : Same H H1) (h : Rd H g (.dK k)) : Rd H1 g (.dK k) := by
  rcases h with h | ⟨o, h⟩
  · exact .inl (s _ _ h)
  · exact .inr ⟨o, s _ _ h⟩
theorem sql_lock {K : PySem.W.Frag} {a d : Addr} {xs : List V} {u : List (Key × V)} {od : Obj} (h : SqL K H a xs) (hd : H d = some (.dK u)) : SqL K (upd H d (.frz od (.dK u))) a xs := by
  rcases h with (h | ⟨o, h⟩) | h
  · exact .inl (.inl (by rw [upd_ne fun z => by rw [z, hd] at h; cases h]; exact h))
  · exact .inl (.inr ⟨o, by rw [upd_ne fun z => by rw [z, hd] at h; cases h]; exact h⟩)
  · exact .inr h
theorem sqt_lock {K : PySem.W.Frag} {a d : Addr} {xs : List V} {u : List (Key × V)} {od : Obj} (h : SqT K H a xs) (hd : H d = some (.dK u)) : SqT K (upd H d (.frz od (.dK u))) a xs := by
  rcases h with (h | ⟨o, h⟩) | h
  · exact .inl (.inl (by rw [upd_ne fun z => by rw [z, hd] at h; cases h]; exact h))
  · exact .inl (.inr ⟨o, by rw [upd_ne fun z => by rw [z, hd] at h; cases h]; exact h⟩)
  · exact .inr h
theorem merge_app : ∀ (more kvs : List (Key × V)), ((kvs ++ more).map (·.1)).Nodup → mergeK kvs more = kvs ++ more
  | [], kvs, _ => by simp [mergeK]
  | e :: more, kvs, h => by
    have hno : e.1 ∉ kvs.map (·.1) := fun z => by
      rw [List.map_append, List.nodup_append] at h
      exact h.2.2 _ z _ (List.mem_map.mpr ⟨e, .head _, rfl⟩) rfl
    have hp : putK kvs e.1 e.2 = kvs ++ [e] := putK_new _ (by
      unfold valV
      have : kvs.find? (fun kv => decide (kv.1 = e.1)) = none := by
        rw [List.find?_eq_none]
        intro kv hkv
        rw [decide_eq_true_eq]
        exact fun z => hno (z ▸ List.mem_map.mpr ⟨kv, hkv, rfl⟩)
      rw [this]
      rfl)
    show mergeK (putK kvs e.1 e.2) more = _
    rw [hp, merge_app more (kvs ++ [e]) (by rw [List.append_assoc]; exact h), List.append_assoc]
    rfl
theorem merge_nd {more : List (Key × V)} (h : (more.map (·.1)).Nodup) : mergeK [] more = more := merge_app more [] h
theorem nd_inr {β : Type} {l : List (Str × β)} (h : (l.map (·.1)).Nodup) : (l.map fun p => (Sum.inr p.1 : Key)).Nodup := by
  rw [show (l.map fun p => (Sum.inr p.1 : Key)) = (l.map (·.1)).map Sum.inr by rw [List.map_map]; rfl]
  exact List.pairwise_map.mpr (h.imp fun ne e => ne (Sum.inr.inj e))
end EX
set_option Elab.async false
set_option linter.all false
set_option maxRecDepth 100000
set_option maxHeartbeats 4000000
/-! list(d.values()) -/
namespace EX
open PySem L2 PyProof.Rows
def vtvO (v d : Addr) : HO := .ext fun h => h.get? v = some { cls := .type "dict_values", data := .fields #[.ref d] }
def rValues : V → List V → Hp → VK → Prop := fun x xs H Q => ∃ (d : Addr) (kvs : List (Key × V)), x = .ref d ∧ xs = [] ∧ H d = some (.dK kvs) ∧ ∀ v, H v = none → Q (.ref v) (upd H v (vtvO v d))
theorem mt_values {X : Cx} : MtR X "dict.values" rValues := by
  intro pins s σ H x xs v us Q I rx rv h
  obtain ⟨a, kvs, ex, ev, e, q⟩ := h
  subst ex
  subst ev
  obtain rfl : v = Value.ref a := rx
  have hus := rv.zero
  subst hus
  obtain ⟨z, lo, vs, rk, dd⟩ := (show ObjOk X.prog X.w H s.heap a (.dK kvs) from I.hok a _ e)
  have hT : s.TypeIs (.ref a) "dict" := by
    obtain ⟨ep, hat⟩ := dd.dictAt
    exact hat.dictOf.typeIs
  refine call_meetsIn PySem.F.slot_dict_values hT PySem.F.entry_dict_values (PySem.F.args_dict_values_1 _) (meets_dict_values (mixKind X.prog X.w) a lo) ⟨⟨vs, dd⟩, ?_⟩
  have J := I.laid (t' := s.toks) (a := s.heap.objs.size) (o := vtvO s.heap.objs.size a) (h' := s.heap.push { cls := .type "dict_values", data := .fields #[.ref a] }) (fun b u e => Heap.get?_push_of_some _ e) (Nat.le_refl _)
    ⟨Heap.get?_push_size _ rfl, ⟨_, Heap.get?_push_size _ rfl⟩, fun h1 h2 q k => k _ q⟩
  exact ⟨.ref s.heap.objs.size, _, J, rfl, q _ (I.hok.fresh (Nat.le_refl _))⟩
def rListV : List V → Hp → VK → Prop := fun xs H Q => ∃ (v d : Addr) (kvs : List (Key × V)), xs = [.ref v] ∧ H v = some (vtvO v d) ∧ H d = some (.dK kvs) ∧
  ∀ l, H l = none → Q (.ref l) (upd H l (.lst (kvs.map (·.2))))
theorem vals_of {kvs : List (Key × V)} {vs : List (Key × Value)} (kv : KV kvs vs) : ∀ {us : List Value}, us = vs.map (·.2) → Vals (kvs.map (·.2)) us := by
  induction kv with
  | nil => intro us e; subst e; exact .nil
  | cons h t ih => intro us e; subst e; exact .cons h.2 (ih rfl)
theorem cr_listV {X : Cx} (hc : X.calm = true) : CallR X (.type "list") rListV := by
  intro pins s σ H xs us Q I r h
  obtain ⟨v, d, kvs, rfl, ev, ed, q⟩ := h
  obtain ⟨u, rfl, ru⟩ := vals1 r
  obtain rfl : u = Value.ref v := ru
  obtain ⟨hv, _, _⟩ := I.hok v _ ev
  have hv : s.heap.get? v = some { cls := .type "dict_values", data := .fields #[.ref d] } := hv
  obtain ⟨hz, lo, vs, kv, dd⟩ := (show ObjOk X.prog X.w H s.heap d (.dK kvs) from I.hok d _ ed)
  obtain ⟨ep, hat⟩ := dd.dictAt
  have hl1 : kvs.length = vs.length := Paired.length kv
  refine PySem.W.kdl_call (PySem.W.kdl_values (knd := mixKind X.prog X.w) (r := v) (d := d) (kvs := vs) (ep := ep)) (I.ok.hd hc) ⟨⟨_, hv, rfl, rfl⟩, hat⟩ (by rw [← hl1]; exact hz) fun h' tk acc c k hS hacc => ?_
  have he : acc.toList = vs.map (·.2) := PySem.W.kdl_vals_eq acc.toList (by rw [Array.length_toList]; exact hacc.1) fun j v e => hacc.2 j v (by rw [← Array.getElem?_toList]; exact e)
  have J := I.laid (t' := tk) (a := s.heap.objs.size) (o := .lst (kvs.map (·.2))) (h' := h') k (Nat.le_refl _)
    ⟨by rw [List.length_map]; exact hz, acc.toList, c, vals_of kv he, by rw [Array.toArray_toList]; exact hS⟩
  exact ⟨.ref s.heap.objs.size, _, J, rfl, q _ (I.hok.fresh (Nat.le_refl _))⟩
end EX
set_option Elab.async false
set_option linter.all false
set_option maxRecDepth 100000
set_option maxHeartbeats 4000000
namespace EX
open PySem L2 PySem.Spec PyProof.Rows LamX
/-! ### a lambda handed to a def that tells what it raised -/
/-- a wish need hold only for as many slots as there are -/
theorem takes_len {X : Cx} {W : WX} (t : Takes X W) : Takes X (fun cls d σ H => σ.length = X.N.length → W cls d σ H) := fun u s' ⟨a, B, sI, pins, σ, H, cls, d, e, I, nb, up, sky, na, os, ag, w⟩ =>
  t u s' ⟨a, B, sI, pins, σ, H, cls, d, e, I, nb, up, sky, na, os, ag, w I.len⟩
/-- isinstance(e, c) in a suite -/
def rIsD (K : PySem.W.Frag) (a : Addr) (cls : Value) (d : Option Addr) : List V → Hp → VK → Prop := fun xs H Q => ∃ dd, d = some dd ∧ ∃ (C : Addr) (fs : List (Str × V)) (c : V) (cv : Value) (b : Bool), xs = [.ref a, c] ∧ cls = .ref C ∧ EcC K C ∧ H dd = some (.xd fs) ∧ ClsV c cv ∧ PySem.W.kitOne K (.ref C) cv = some b ∧ Q (.bl b) H
theorem call_isD {X : Cx} {a : Addr} {cls : Value} {d : Option Addr} {oe : Obj} {pn : List (Addr × Obj)} (hz : Zc cls d oe) (hf : ∃ vs, oe.data = .fields vs) : CallR (X.suite a ((a, oe) :: pn)) (.builtin "isinstance") (rIsD X.K a cls d) := by
  intro pins s σ H xs us Q I r h
  obtain ⟨dd, rfl, h⟩ := h
  exact call_isS hz hf pins s σ H xs us Q I r h
/-- e.f in a suite, for the classes of which f is a field -/
def tXfs (Cs : List Addr) (a : Addr) (cls : Value) (d : Option Addr) (f : Str) (te : TE) : TE := fun σ H Q => ∃ C ∈ Cs, tXf a cls d C f te σ H Q
theorem pe_xfs {X : Cx} {a : Addr} {Cs : List Addr} {oe : Obj} {cls : Value} {d : Option Addr} {pn : List (Addr × Obj)} {e : Expr} {te : TE} {pos : Pos} {n : Str} (T : ∀ C ∈ Cs, EcC X.K C ∧ PySem.W.findIn X.K (.ref C) n = some none)
    (hz : Zc cls d oe) (hf : ∃ vs, oe.data = .fields vs) (he : PE (X.suite a ((a, oe) :: pn)) e te) (hb : attributeBase e n X.env (eval e X.env) = eval e X.env := by rfl) :
    PE (X.suite a ((a, oe) :: pn)) (.Attribute e n pos) (tXfs Cs a cls d n te) := by
  refine ⟨fun pins s σ H Q I h => ?_⟩
  obtain ⟨C, hC, h⟩ := h
  exact (pe_xf (T C hC).1.xf (T C hC).2 hz hf he hb).run pins s σ H Q I h
/-- what such a def makes of it: cs the classes caught with their words -/
def TSaid (K : PySem.W.Frag) (cs : List (Addr × Str)) (made : Str) : (XK → Hp → VK → Prop) → Hp → VK → Prop := fun tl H Q =>
  tl (fun cls d H' => ∃ (i : Nat) (C : Addr) (lbl : Str) (dd : Addr) (v : V) (dv : PyData), cs[i]? = some (C, lbl) ∧ cls = .ref C ∧ d = some dd ∧ H' dd = some (.xd [("given", v)]) ∧ DqS K H' v dv ∧ dv.showable = true ∧ dv.depth ≤ 60 ∧ dv.shown.length ≤ sizeLine ∧
    ∀ p, H' p = none → Q (.ref p) (upd H' p (.lst [.str lbl, .str dv.shown, .bl true]))) H (fun _ H' => 1 ≤ sizeLine ∧ ∀ p, H' p = none → Q (.ref p) (upd H' p (.lst [.str made])))
/-- the reading of one clause -/
def tSaid1 (K : PySem.W.Frag) (Cs : List Addr) (cb : Addr) (lbl : Str) (i : Nat) (a : Addr) (cls : Value) (d : Option Addr) : TS :=
  tRet (tLst (tCons (tC (.str lbl)) (tCons (tCB (rRepq K) (tCons (tXfs Cs a cls d "given" (tVar i)) tNil)) (tCons (tCB (rIsD K a cls d) (tCons (tVar i) (tCons (tC (.ref cb)) tNil))) tNil))))
/-- what stands of the classes -/
structure SaidC (K : PySem.W.Frag) (cb : Addr) (cs : List (Addr × Str)) : Prop where
  ec : ∀ p ∈ cs, EcC K p.1 ∧ PySem.W.findIn K (.ref p.1) "given" = some none
  cbk : ∀ p ∈ cs, PySem.W.kitOne K (.ref p.1) (.ref cb) = some true
  ex : ∀ (i j : Nat) (p q : Addr × Str), cs[i]? = some p → cs[j]? = some q → PySem.W.exmOne K (.ref p.1) (.ref q.1) = some (decide (i = j))
/-- the wish of the clauses from the k-th on, for an exception of the i-th class -/
theorem said_wish {K : PySem.W.Frag} {cb : Addr} {cs : List (Addr × Str)} (S : SaidC K cb cs) {Wout : WX} {D : Ends} {σ : L2.St} {H : Hp} {sl i : Nat} {C dd : Addr} {lbl : Str} {v : V} {dv : PyData} (hσ : sl < σ.length)
    (hi : cs[i]? = some (C, lbl)) (hx : H dd = some (.xd [("given", v)])) (hd : DqS K H v dv) (h1 : dv.showable = true) (h2 : dv.depth ≤ 60) (h3 : dv.shown.length ≤ sizeLine) (hq : ∀ p, H p = none → D.rt (.ref p) (upd H p (.lst [.str lbl, .str dv.shown, .bl true]))) :
    ∀ (l : List (Addr × Str)) (k : Nat), cs.drop k = l → k ≤ i → wCls K Wout D (l.map fun p => ⟨.ref p.1, some sl, tSaid1 K (cs.map (·.1)) cb p.2 sl⟩) (.ref C) (some dd) σ H
  | [], k, hl, hk => by
    have := congrArg List.length hl
    rw [List.length_drop] at this
    have := (List.getElem?_eq_some_iff.mp hi).1
    simp at *
    omega
  | p :: l, k, hl, hk => by
    have hp : cs[k]? = some p := by
      have : (cs.drop k)[0]? = some p := by rw [hl]; rfl
      rw [List.getElem?_drop] at this
      simpa using this
    have hl' : cs.drop (k + 1) = l := by
      rw [← List.drop_drop, hl]
      rfl
    refine ⟨decide (i = k), S.ex i k (C, lbl) p hi hp, fun e => ?_, fun e => ?_⟩
    · have e : i = k := of_decide_eq_true e
      subst e
      rw [hi] at hp
      cases hp
      intro a ha
      have hm : (C, lbl) ∈ cs := List.mem_of_getElem? hi
      have hs : (slotIn σ (some sl) (some (.ref a)))[sl]? = some (some (.ref a)) := by
        show (σ.set sl (some (.ref a)))[sl]? = _
        rw [List.getElem?_set_self hσ]
      refine ⟨C, List.mem_map.mpr ⟨_, hm, rfl⟩, _, hs, rfl, rfl, dd, _, v, rfl, hx, rfl, v, dv, rfl, hd, h1, h2, h3, ?_⟩
      exact ⟨_, hs, dd, rfl, C, _, _, .ref cb, true, rfl, rfl, (S.ec _ hm).1, hx, .own cb, S.cbk _ hm, by show 3 ≤ sizeLine; decide, hq⟩
    · have e : ¬ i = k := of_decide_eq_false e
      exact said_wish S hσ hi hx hd h1 h2 h3 hq l (k + 1) hl' (by omega)
end EX
set_option Elab.async false
set_option linter.all false
set_option maxRecDepth 100000
set_option maxHeartbeats 4000000
namespace EX
open PySem L2 PySem.Spec PyProof.Rows LamX
/-! ### what is kept where tables of code objects grow -/
theorem ExtN.of_same {H H' : Hp} (s : Same H H') : ExtN H H' := ExtN.of s
theorem ExtN.seq {K : PySem.W.Frag} {H H' : Hp} {a : Addr} {xs : List V} (s : ExtN H H') (h : SqL K H a xs) : SqL K H' a xs :=
  h.elim (fun z => .inl (z.elim (fun z => .inl (s _ _ z (fun _ e => nomatch e))) fun ⟨o, z⟩ => .inr ⟨o, s _ _ z (fun _ e => nomatch e)⟩)) .inr
theorem ExtN.sqt {K : PySem.W.Frag} {H H' : Hp} {a : Addr} {xs : List V} (s : ExtN H H') (h : SqT K H a xs) : SqT K H' a xs :=
  h.elim (fun z => .inl (z.elim (fun z => .inl (s _ _ z (fun _ e => nomatch e))) fun ⟨o, z⟩ => .inr ⟨o, s _ _ z (fun _ e => nomatch e)⟩)) .inr
theorem ExtN.dK {H H' : Hp} {a : Addr} {kvs : List (Key × V)} (s : ExtN H H') (h : H a = some (.dK kvs)) : H' a = some (.dK kvs) := s _ _ h (fun _ e => nomatch e)
theorem ExtN.lst {H H' : Hp} {a : Addr} {xs : List V} (s : ExtN H H') (h : H a = some (.lst xs)) : H' a = some (.lst xs) := s _ _ h (fun _ e => nomatch e)
mutual
theorem DqS.ext {K : PySem.W.Frag} {H H' : Hp} (s : ExtN H H') : ∀ {v : V} {d : PyData}, DqS K H v d → DqS K H' v d
  | _, _, .non => .non
  | _, _, .bl b => .bl b
  | _, _, .int i => .int i
  | _, _, .str x => .str x
  | _, _, .lst n h a => .lst n (ExtN.seq s h) (DqSAll.ext s a)
  | _, _, .tup h a => .tup (ExtN.sqt s h) (DqSAll.ext s a)
  | _, _, .dic h a => .dic (ExtN.dK s h) (DqSAll.ext s a)
theorem DqSAll.ext {K : PySem.W.Frag} {H H' : Hp} (s : ExtN H H') : ∀ {vs : List V} {ds : List PyData}, DqSAll K H vs ds → DqSAll K H' vs ds
  | _, _, .nil => .nil
  | _, _, .cons h t => .cons (DqS.ext s h) (DqSAll.ext s t)
end
/-- one object but tables changed -/
theorem Tabs.but {T : List (Addr × Str)} {H H' : Hp} {p : Addr} {o : HO} (t : Tabs T H) (b : ∀ a u, a ≠ p → H a = some u → H' a = some u) (hp : H p = some o) (n1 : ∀ ps, o ≠ .tbl ps) (n2 : ∀ c q, o ≠ CodeO c q) : Tabs T H' := fun z hz => by
  obtain ⟨ps, h1, h2, h3⟩ := t z hz
  refine ⟨ps, b _ _ (fun e => ?_) h1, h2, fun pos cv hc => ?_⟩
  · rw [e, hp] at h1
    exact n1 _ (Option.some.inj h1)
  · obtain ⟨c, e, hco⟩ := h3 pos cv hc
    refine ⟨c, e, b _ _ (fun e2 => ?_) hco⟩
    rw [e2, hp] at hco
    exact n2 _ _ (Option.some.inj hco)
theorem codeO_lst {c : Addr} {q : Str} (xs : List V) : HO.lst xs ≠ CodeO c q := fun z => by
  unfold CodeO at z
  cases z
/-- what a def tells that catches the i-th class -/
theorem lam_said {K : PySem.W.Frag} {T : List (Addr × Str)} {cs : List (Addr × Str)} {made lbl : Str} {i : Nat} {C : Addr} {v : V} {dv : PyData} {t : XK → TE} {σ : L2.St} {H : Hp} {Q : VK} (hT : Tabs T H) (hD : DqS K H v dv) (h1 : dv.showable = true) (h2 : dv.depth ≤ 60) (h3 : dv.shown.length ≤ sizeLine) (hi : cs[i]? = some (C, lbl))
    (ht : ∀ (E : XK) (H1 : Hp) (Q : VK), ExtN H H1 → (∀ d' H', Same H1 H' → H' d' = some (.xd [(("given" : Str), v)]) → E (.ref C) (some d') H') → t E σ H1 Q)
    (k : ∀ p H', ExtN H H' → Tabs T H' → H' p = some (.lst [.str lbl, .str dv.shown, .bl true]) → Q (.ref p) H') : tLam T (TSaid K cs made) t σ H Q := by
  refine ⟨hT, fun H1 e1 T1 => ht _ H1 _ e1 fun d' H' s hx => ?_⟩
  have e2 : ExtN H H' := ExtN.trans e1 (ExtN.of s)
  refine ⟨i, C, lbl, d', v, dv, hi, rfl, rfl, hx, DqS.ext e2 hD, h1, h2, h3, fun p hp => ?_⟩
  have s2 : ∀ b o, H' b = some o → upd H' p (.lst [.str lbl, .str dv.shown, .bl true]) b = some o := Same.upd hp
  exact k p _ (ExtN.trans e2 (ExtN.of s2)) ((T1.ext s).ext s2) upd_same
/-- the same compared with what is asked -/
theorem if_said {K : PySem.W.Frag} {T : List (Addr × Str)} {cs : List (Addr × Str)} {made lbl : Str} {i j : Nat} {C : Addr} {v : V} {dv : PyData} {t : XK → TE} {A : TS} {σ : L2.St} {H : Hp} {D : Ends} (hj : σ[j]? = some (some v)) (hT : Tabs T H) (hD : DqS K H v dv) (h1 : dv.showable = true) (h2 : dv.depth ≤ 60) (h3 : dv.shown.length ≤ sizeLine) (hi : cs[i]? = some (C, lbl))
    (sh : SeqAt.shaped (.list [.str lbl, .str dv.shown, .bool true]) = true) (eq : PyData.eqv (.list [.str lbl, .str dv.shown, .bool true]) (.list [.str lbl, .str dv.shown, .bool true]) = true)
    (ht : ∀ (E : XK) (H1 : Hp) (Q : VK), ExtN H H1 → (∀ d' H', Same H1 H' → H' d' = some (.xd [(("given" : Str), v)]) → E (.ref C) (some d') H') → t E σ H1 Q)
    (k : ∀ H', ExtN H H' → Tabs T H' → D.nx σ H') : tIfS (tTest (tOp (rNeD K) (tLam T (TSaid K cs made) t) (tLst (tCons (tC (.str lbl)) (tCons (tCB (rRepq K) (tCons (tVar j) tNil)) (tCons (tC (.bl true)) tNil)))))) A tNext D σ H := by
  refine lam_said hT hD h1 h2 h3 hi ht fun p H' e T' hp => ?_
  refine ⟨v, hj, v, dv, rfl, DqS.ext e hD, h1, h2, h3, by show 3 ≤ sizeLine; decide, fun q hq => ?_⟩
  have s2 : ∀ b o, H' b = some o → upd H' q (.lst [.str lbl, .str dv.shown, .bl true]) b = some o := Same.upd hq
  refine ⟨_, _, .lst (.inl (.inl (s2 _ _ hp))) (.cons (.str _) (.cons (.str _) (.cons (.bl _) .nil))), .lst (.inl (.inl upd_same)) (.cons (.str _) (.cons (.str _) (.cons (.bl _) .nil))), sh, sh, ?_⟩
  rw [eq]
  exact ⟨false, rfl, (iteF (k _ (ExtN.trans e (ExtN.of s2)) (T'.ext s2)) : if false = true then _ else _)⟩
/-- a def whose code object is known -/
theorem fn_atC {P : Program} {w : World} {K : PySem.W.Frag} {mg : Str → Option Value} {base : Heap} {k : Nat} {x qual : Str} {st : Stmt} {f c : Addr} {fd : FuncData} {N ps : List Str} {sp : Sp} (F : Fun K x qual st f fd) (hc : fd.code = .ref c) (S : FnScope N ps (defScope st)) (len : ∀ vs H Q E, sp vs H Q E → vs.length = ps.length)
    (body : ∀ (A : Around) (outer : List Env) (s : Shared) (H : Hp) (vs : List V) (Q : VK) (E : XK), (A.deeper (envOfC qual (defScope st) s.heap.objs.size f (.ref c))).guards = some [] → Room k (A.deeper (envOfC qual (defScope st) s.heap.objs.size f (.ref c))) → sp vs H Q E →
      ∃ t, PSs (cxOf CX0 P w K mg base N qual (defScope st) f (.ref c) A outer s H E) (defBody st) t ∧ t { nx := fun _ H' => Q .non H', rt := Q } (start N vs) H) : FnG P w K mg base CX0 (k + 1) f fd ps sp := by
  obtain ⟨oc, od, kV, doc, pm, an, cdv, ct, osl, rfl, lk, hcd⟩ := F.ex
  obtain rfl : cdv = .ref c := hc
  refine ⟨fun A outer s H args us vs Q E hr hg e0 hb rv h => ?_, len⟩
  have hl := len _ _ _ _ h
  have kin : K.In s.heap := e0.mod.kin.keeps fun b o z => (e0.bs b o z).1
  have lim : s.heap.NoLimit := e0.mod.nolimit.keeps fun b o z => (e0.bs b o z).1
  have par : ∀ y ∈ ps.zip us, (defScope st).names.lookup y.1 = some .local ∨ ((defScope st).names.lookup y.1 = some .cell ∧ ((cellsFrom (s.heap.objs.size + 1) (defScope st).names []).lookup y.1).isSome = true) := by
    rintro ⟨n, v⟩ hy
    cases S.par n (List.of_mem_zip hy).1 with
    | inl q => exact .inl q
    | inr q => exact .inr ⟨q, PySem.W.cellsFrom_some _ _ _ (.inl q)⟩
  refine codeAny_call_function hr.depth (kin _ _ lk) rfl S.co S.gen rfl (PySem.W.codeRec_of kin hcd) (hb _ _ _ _ (wpAny_newFunctionEnv_cells S.kind par ?_))
  rintro env he s1 hin
  subst he
  refine ⟨lim.keeps hin.toInCall.keep, codeAny_func ?_⟩
  obtain ⟨t, ht, hq⟩ := body A outer s H vs Q E (guards_deeper hg) (hr.deeper _) h
  refine wpAny_mono (ht.run [] s1 (start N vs) H _ (inv_start S hr.hd e0 hl rv hin) hq) ?_ fun _ _ z => z
  rintro fl s' hs
  cases fl with
  | next =>
    obtain ⟨σ', H', J, q⟩ := hs
    exact ⟨V.non, H', J.os, J.bare, J.base, J.hok, rfl, q⟩
  | ret u =>
    obtain ⟨v, σ', H', J, r, q⟩ := hs
    exact ⟨v, H', J.os, J.bare, J.base, J.hok, r, q⟩
  | brk =>
    obtain ⟨_, _, _, q⟩ := hs
    exact q.elim
  | cont =>
    obtain ⟨_, _, _, q⟩ := hs
    exact q.elim
/-- a display of keys and constants -/
theorem disp_c {cs : List (Key × V)} {σ : L2.St} {H : Hp} {Q : VK} (h15 : cs.length ≤ 15) (k : ∀ p H', Same H H' → H p = none → H' p = some (.dK (mergeK [] cs)) → Q (.ref p) H') : tDisp (cs.map fun c => (tC (kV c.1), tC c.2)) σ H Q := fun p hp => by
  have aux : ∀ (l : List (Key × V)) (H1 : Hp) (R : List (V × V) → Hp → Prop), R (l.map fun kv => (kV kv.1, kv.2)) H1 → tPairs (l.map fun c => (tC (kV c.1), tC c.2)) σ H1 R := by
    intro l
    induction l with
    | nil => intro H1 R h; exact h
    | cons x t ih => intro H1 R h; exact ih H1 _ h
  refine aux cs _ _ ⟨upd_same, cs, rfl, h15, k p _ (fun b o e => ?_) hp upd_same⟩
  rw [upd_ne (ne_of_none e hp), upd_ne (ne_of_none e hp)]
  exact e
/-- a display of one entry -/
theorem disp_1 {tk tv : TE} {key : Key} {v : V} {σ : L2.St} {H : Hp} {Q : VK} (hk : ∀ (H : Hp) (Q : VK), Q (kV key) H → tk σ H Q) (hv : ∀ (H : Hp) (Q : VK), Q v H → tv σ H Q) (k : ∀ p H', Same H H' → H p = none → H' p = some (.dK [(key, v)]) → Q (.ref p) H') : tDisp [(tk, tv)] σ H Q := fun p hp => by
  refine hk _ _ (hv _ _ ⟨upd_same, [(key, v)], rfl, by show 1 ≤ 15; decide, k p _ (fun b o e => ?_) hp upd_same⟩)
  rw [upd_ne (ne_of_none e hp), upd_ne (ne_of_none e hp)]
  exact e
end EX
set_option Elab.async false
set_option linter.all false
set_option maxRecDepth 100000
set_option maxHeartbeats 4000000
/-! max(xs, key=lambda a: e), min(xs, key=..) where e gives ints and changes nothing -/
namespace EX
open PySem L2 PySem.Spec PyProof.Rows LamX
structure Lam1S (sc scope : Scope) (a1 : Str) (N : List Str) : Prop where
  kind : scope.kind = .function
  co : scope.isCoroutine = false
  gen : scope.isGenerator = false
  own : ∀ y ∈ scope.names, y.2 ≠ .cell
  loc : ∀ y ∈ scope.names, y.2 = .local → y.1 = a1
  l1 : scope.names.lookup a1 = some .local
  n1 : a1 ∉ N
  free : ∀ y ∈ scope.names, y.2 = .free → sc.names.lookup y.1 = some .cell ∨ sc.names.lookup y.1 = some .free
def lam1SB (sc scope : Scope) (a1 : Str) (N : List Str) : Bool :=
  decide (scope.kind = .function) && !scope.isCoroutine && !scope.isGenerator && (scope.names.all fun y => !decide (y.2 = .cell) && (!decide (y.2 = .local) || decide (y.1 = a1)) && (!decide (y.2 = .free) || decide (sc.names.lookup y.1 = some .cell) || decide (sc.names.lookup y.1 = some .free))) &&
    decide (scope.names.lookup a1 = some .local) && decide (a1 ∉ N)
theorem lam1S_by {sc scope : Scope} {a1 : Str} {N : List Str} (h : lam1SB sc scope a1 N = true) : Lam1S sc scope a1 N := by
  unfold lam1SB at h
  simp only [Bool.and_eq_true, Bool.or_eq_true, Bool.not_eq_true', decide_eq_true_eq, decide_eq_false_iff_not, List.all_eq_true] at h
  obtain ⟨⟨⟨⟨⟨h1, h2⟩, h3⟩, h4⟩, h5⟩, h7⟩ := h
  refine ⟨h1, h2, h3, fun y hy => (h4 y hy).1.1, fun y hy e => ?_, h5, h7, fun y hy e => ?_⟩
  · rcases (h4 y hy).1.2 with z | z
    · exact absurd e z
    · exact z
  · rcases (h4 y hy).2 with (z | z) | z
    · exact absurd e z
    · exact .inl z
    · exact .inr z
/-- the context of such a lambda's body -/
def lam1Cx (X : Cx) (A : Around) (outer : List Env) (s : Shared) (H : Hp) (E : XK) (scope : Scope) (f c' : Addr) (a1 : Str) : Cx where
  prog := X.prog
  w := X.w
  K := X.K
  mg := X.mg
  base := X.base
  A := A.deeper (lamEnv X scope s.heap.objs.size f c')
  N := a1 :: X.N
  s_0 := s
  H_0 := H
  env := lamEnv X scope s.heap.objs.size f c'
  outer := outer
  stack := lamEnv X scope s.heap.objs.size f c' :: outer
  ex := []
  fn := fun _ => false
  calm := true
  pn := []
  xe := fun e s' => wpAny (model X.prog X.w) (A.deeper (lamEnv X scope s.heap.objs.size f c')) (leaving (lamEnv X scope s.heap.objs.size f c') e) (fun _ s'' => L2.CX X.prog X.w outer H s E e s'') (fun e' s'' => L2.CX X.prog X.w outer H s E e' s'') s'
section
variable {X : Cx} {pins : List (Addr × Obj)} {σ : L2.St} {H HZ : Hp} {s s1 : Shared}
theorem lam1_has {scope : Scope} {a1 : Str} {N : List Str} (L : Lam1S X.env.scope scope a1 N) (ok : X.Ok) : ∀ y ∈ scope.names, y.2 = .free → ∃ c, X.env.cells.lookup y.1 = some c := fun y hy e => by
  rcases L.free y hy e with k | k
  · exact ok.has _ (.inl k)
  · exact ok.has _ (.inr k)
theorem lam1_start {A : Around} {outer : List Env} {E : XK} {scope : Scope} {f c' : Addr} {a1 : Str} {v1 : V} {u1 : Value} {h₁ : Heap} {tk : Nat} (I : Inv X pins σ H s) (L : Lam1S X.env.scope scope a1 X.N) (e0 : Env0 X.prog X.w X.K X.mg X.base A outer s1 HZ) (hd : A.handled = none)
    (un : Un (frs X.stack) [] H HZ s.heap s1.heap) (hns : h₁.Ns s1.heap.objs.size fun y => ([(a1, u1)] : List (Str × Value)).reverse.lookup y) (r1 : L2.RelV v1 u1) (kp : ∀ b o, s1.heap.get? b = some o → h₁.get? b = some o) :
    Inv (lam1Cx X A outer s1 HZ E scope f c' a1) [] (some v1 :: σ) HZ { s1 with heap := h₁, toks := tk } := by
  have hfree := lam1_has L I.ok
  have cm : ∀ {y c}, (cloFrom X.env.cells scope.names []).lookup y = some c → X.env.cells.lookup y = some c := fun {y c} e => by
    rcases cloFrom_mem (PySem.mem_of_lookup e) with hm | ⟨h1, h2⟩
    · cases hm
    · obtain ⟨c1, hc⟩ := hfree _ h1 rfl
      have hc : X.env.cells.lookup y = some c1 := hc
      have e2 : c = c1 := by
        rw [h2, hc] <;> rfl
      rw [e2]
      exact hc
  have look : ∀ {y}, scope.names.lookup y = some .free → ∃ c, (cloFrom X.env.cells scope.names []).lookup y = some c := fun {y} hl => by
    have hy : (y, NameKind.free) ∈ scope.names := PySem.mem_of_lookup hl
    exact mem_lookup (cloFrom_has (cells := X.env.cells) (acc := []) hy)
  have cellK : ∀ {c : Addr} {v : Option Value}, H c = none → s.heap.IsCell c v → h₁.IsCell c v := fun {c v} n ⟨o, ho, hd⟩ => by
    obtain ⟨sl, q⟩ := un.any ho n (by simp)
    exact ⟨_, kp _ _ q, hd⟩
  have noA : ∀ b : Addr, b ∉ (lam1Cx X A outer s1 HZ E scope f c' a1).ex := fun b z => absurd (show b ∈ ([] : List Addr) from z) (by simp)
  refine ⟨⟨e0.mod, L.kind, rfl, rfl, Nat.le_refl _, fun y z c e1 e2 => I.ok.inj y z c (cm e1) (cm e2), fun y hy => ?_, fun y c z _ => ?_, fun _ => hd, Around.frames_deeper e0.frames, .inr ⟨rfl, rfl⟩, fun b z => absurd z (noA b), e0.bs, e0.bsz, fun b _ _ => noA b,
      fun b z => absurd z (noA b), e0.funs, e0.frf⟩,
    rfl, e0.bare, Un.kept kp, ⟨_, hns, fun i y v e1 e2 e3 => ?_⟩, fun y c e => ?_, e0.hok.fresh (Nat.le_refl _), fun y c e => ?_, fun q hq => absurd (show q ∈ ([] : List (Addr × Obj)) ++ [] from hq) (by simp), e0.hok.kept kp, congrArg (· + 1) I.len⟩
  · have hy : scope.names.lookup y = some .cell ∨ scope.names.lookup y = some .free := hy
    rcases hy with hy | hy
    · exact absurd rfl (L.own _ (PySem.mem_of_lookup hy))
    · exact look hy
  · have z : false = true := z
    cases z
  · match i, e1, e2 with
    | 0, e1, e2 =>
      cases e1
      cases e2
      refine ⟨u1, r1, .inl ⟨L.l1, ?_⟩⟩
      show List.lookup a1 [(a1, u1)] = some u1
      simp [List.lookup]
    | i + 1, e1, e2 =>
      have e1 : X.N[i]? = some y := e1
      have e2 : σ[i]? = some (some v) := e2
      have e3 : Vis scope y := e3
      have hm := List.mem_of_getElem? e1
      rcases e3 with k | k | k
      · have z : y = a1 := L.loc _ (PySem.mem_of_lookup k) rfl
        exact absurd (z ▸ hm) L.n1
      · exact absurd rfl (L.own _ (PySem.mem_of_lookup k))
      · obtain ⟨m, hn, hl⟩ := I.loc
        have hvis : Vis X.env.scope y := (L.free _ (PySem.mem_of_lookup k) rfl).elim (fun k => .inr (.inl k)) (fun k => .inr (.inr k))
        obtain ⟨w', r, q⟩ := hl i y v e1 e2 hvis
        obtain ⟨c2, h2⟩ := look k
        refine ⟨w', r, .inr ⟨.inr k, c2, h2, ?_⟩⟩
        have c1 := cm h2
        rcases q with ⟨k', _⟩ | ⟨_, c3, e', z⟩
        · have k' : X.env.scope.names.lookup y = some .local := k'
          rcases L.free _ (PySem.mem_of_lookup k) rfl with k2 | k2 <;> rw [show X.env.scope.names.lookup y = _ from k2] at k' <;> cases k'
        · rw [c1] at e'
          cases e'
          exact cellK (I.freeC y _ c1) z
  · obtain ⟨w', z⟩ := I.cell y c (cm e)
    exact ⟨w', cellK (I.freeC y c (cm e)) z⟩
  · obtain ⟨v, o, ho, hd⟩ := I.cell y c (cm e)
    exact un.free c o ho (I.freeC y c (cm e)) (by simp)
/-- the lambda called with one value, where the def stands that made it -/
theorem lam1_call {f c' : Addr} {pm ctv : Value} {params : Arguments} {body : Expr} {scope : Scope} {k : Nat} {a1 : Str} {tb : TE} {A : Around} {x : V} {u : Value} {Q : VK} {E' : Value → Shared → Prop} (I : Inv X pins σ H s) (L : Lam1S X.env.scope scope a1 X.N)
    (hf : s.heap.get? f = some (PySem.W.kla_obj "<lambda>" (X.env.qual ++ "<lambda>") params body scope (cloFrom X.env.cells scope.names []) pm c' ctv)) (hc : H c' = some (CodeO c' (X.env.qual ++ "<lambda>"))) (e0 : Env0 X.prog X.w X.K X.mg X.base A X.stack s H) (hr : Room (k + 1) A)
    (hbind : ∀ u1 : Value, bindArgs (PySem.W.kla_fn "<lambda>" (X.env.qual ++ "<lambda>") params body scope (cloFrom X.env.cells scope.names []) pm (.ref c') ctv) ⟨[u1], []⟩ = pure [(a1, u1)])
    (hbody : ∀ (A : Around) (outer : List Env) (s : Shared) (H : Hp), Room k (A.deeper (lamEnv X scope s.heap.objs.size f c')) → PE (lam1Cx X A outer s H C8.E0 scope f c' a1).nox body tb)
    (rx : L2.RelV x u) (htb : tb (some x :: σ) H Q) : wpAny (model X.prog X.w) A (call (.ref f) [u]) (EP X pins σ Q) E' s := by
  have un : Un (frs X.stack) [] H H s.heap s.heap := Un.refl
  obtain ⟨⟨oc, vs, t, hoc, hdc, hvc⟩, _, _⟩ := I.hok c' _ hc
  have rc : codeAny (model X.prog X.w) A (.call (.ref f) ⟨[u], []⟩) (CR C8.CX0 X.stack X.prog X.w H s Q C8.E0) s := by
    refine PySem.W.kla_callFunE hr.depth hf rfl L.co L.gen rfl ⟨c', oc, vs, t, rfl, hoc, hdc, hvc⟩ ?_
    rw [hbind]
    refine wpAny_pure (wpAny_newFunctionEnv (fun y hy => L.own y hy) (fun y hy => ?_) (fun h₁ hns hsb => ⟨I.nolimit.fresh _ hsb, ?_⟩) L.kind)
    · simp only [List.mem_cons, List.not_mem_nil, or_false] at hy
      rcases hy with rfl
      exact L.l1
    · show codeAny _ _ (.expr body (lamEnv X scope s.heap.objs.size f c')) _ _
      have kp : ∀ b o, s.heap.get? b = some o → h₁.get? b = some o := fun b o e => hsb.extBut b o (Nat.ne_of_lt (Heap.lt_size e)) (Heap.get?_push_of_some _ e)
      have J : Inv (lam1Cx X A X.stack s H C8.E0 scope f c' a1) [] (some x :: σ) H { s with heap := h₁, toks := s.toks + ([(a1, u)] : List (Str × Value)).length } := lam1_start I L e0 hr.hd un hns rx kp
      have hb := hbody A X.stack s H (hr.deeper _)
      refine PySem.W.kla_codeExpr (wpAny_mono (hb.run [] _ _ H Q (J.wish _) htb) (fun v s' hq => ?_) fun e s' hq => (show False from hq).elim)
      obtain ⟨w', H', J'', rv, q⟩ := hq
      have J' := J''.unwish
      exact ⟨w', H', J'.os, J'.bare, J'.base, J'.hok, rv, q⟩
  refine wpAny_call (codeAny_mono rc fun r s' hq => ?_)
  cases r with
  | error e => exact (show False from hq).elim
  | ok fl =>
    cases fl with
    | ret u => exact I.after hq
    | next => exact False.elim hq
    | brk => exact False.elim hq
    | cont => exact False.elim hq
end

/-- the loop of max(xs, key=f), the best so far at S, the walk at I -/
theorem max_loop {X : Cx} {P : List (Addr × Obj)} {σ : L2.St} {H : Hp} {a f I S : Addr} {fo : Obj} {xs : List V} {kf : Nat → Int} {R : Result → Shared → Prop} (hc : X.calm = true) (hq : SqL X.K H a xs) (hI : FpOk X P H I) (hS : FpOk X P H S) (hIS : I ≠ S) (hfo : (f, fo) ∈ P)
    (one : ∀ (pn : List (Addr × Obj)) (i : Nat) (x : V) (u : Value) (s : Shared), xs[i]? = some x → L2.RelV x u → Inv X pn σ H s → (f, fo) ∈ pn → wpAny (model X.prog X.w) X.A.in1 (call (.ref f) [u]) (EP X pn σ fun y H' => y = .int (kf i) ∧ H' = H) (fun _ _ => False) s)
    (fin : ∀ (i : Nat) (x : V) (u : Value) (s : Shared), xs[i]? = some x → L2.RelV x u → (∀ j, j < xs.length → kf i ≥ kf j) → Inv X P σ H s → R (.ok (.ret u)) s) :
    ∀ (r j i : Nat) (s : Shared) (x : V) (vb : Value) (tb : Tok) (c : Nat), xs.length - (j + 1) = r → j + 1 ≤ xs.length → Inv X P σ H s → s.heap.get? S = some (seqObj "list" #[vb, .int (kf i) tb] c) → s.heap.IsListIter I a (j + 1) → xs[i]? = some x → L2.RelV x vb →
      i ≤ j → (∀ j', j' ≤ j → kf i ≥ kf j') → codeAny (model X.prog X.w) X.A (.builtin "max.loop" ⟨[.ref I, .ref f, .ref S], []⟩) R s := by
  have nm : (toString "max" ++ toString ".loop" : String) = "max.loop" := by decide
  obtain ⟨i0, i1, i2, i3, i4, i5⟩ := hI
  obtain ⟨t0, t1, t2, t3, t4, t5⟩ := hS
  intro r
  induction r with
  | zero =>
    intro j i s x vb tb c hr hj J gS it hx rx hij best
    obtain ⟨its, rv, p, hz⟩ := J.list hq
    have hl := rv.length
    refine codeAny_builtin PySem.F.entry_max_loop ?_
    rw [Around.under_plainId PySem.F.plain_max_loop _]
    show wpAny _ X.A.in1 (seqItems? (.ref S) >>= _) _ _ _
    refine wpAny_bind (wpAny_seqItems gS rfl ?_)
    show wpAny _ X.A.in1 (tryCatch (pyNext (.ref I)) _ >>= _) _ _ _
    refine wpAny_bind (wpAny_tryCatch (wpAny_pyNext_list_end (J.ok.hd hc) it p.isList (by simp; omega) fun h' eb => ?_))
    have J1 : Inv X P σ H { s with heap := h' } := J.turned (t' := s.toks) (fun b o hb e => eb b o hb e) i0 i1 i3 i4 i5
    have gS1 : h'.get? S = some (seqObj "list" #[vb, .int (kf i) tb] c) := eb S _ hIS.symm gS
    show wpAny _ X.A.in1 (updateSeq S (fun _ => #[]) >>= _) _ _ _
    refine wpAny_bind ?_
    refine wpAny_updateSeq gS1 rfl (wpAny_bind (wpAny_letGo (wpAny_pure ?_)))
    have sb := Heap.SameBut.update h' S (Obj.mapSeq fun _ => (#[] : Array Value))
    exact fin i x vb _ hx rx (fun j' hj' => best j' (by omega)) (J1.turned (t' := s.toks) (fun b o hb e => (sb.2 b hb).trans e) t0 t1 t3 t4 t5)
  | succ r ih =>
    intro j i s x vb tb c hr hj J gS it hx rx hij best
    obtain ⟨its, rv, p, hz⟩ := J.list hq
    have hl := rv.length
    have hlt : j + 1 < xs.length := by omega
    obtain ⟨y, hy⟩ : ∃ y, xs[j + 1]? = some y := ⟨_, List.getElem?_eq_getElem hlt⟩
    obtain ⟨u, hu, ru⟩ := rv.get hy
    refine codeAny_builtin PySem.F.entry_max_loop ?_
    rw [Around.under_plainId PySem.F.plain_max_loop _]
    show wpAny _ X.A.in1 (seqItems? (.ref S) >>= _) _ _ _
    refine wpAny_bind (wpAny_seqItems gS rfl ?_)
    show wpAny _ X.A.in1 (tryCatch (pyNext (.ref I)) _ >>= _) _ _ _
    refine wpAny_bind (wpAny_tryCatch (wpAny_pyNext_list_item it p.isList (x := u) (by simpa using hu) fun h' it' sb => ?_))
    have J1 : Inv X P σ H { s with heap := h' } := J.turned (t' := s.toks) (fun b o hb e => (sb.2 b hb).trans e) i0 i1 i3 i4 i5
    have gS1 : h'.get? S = some (seqObj "list" #[vb, .int (kf i) tb] c) := (sb.2 S hIS.symm).trans gS
    obtain ⟨oI, gI, cI, dI⟩ := id it'
    have J2 : Inv X (P ++ [(S, seqObj "list" #[vb, .int (kf i) tb] c), (I, oI)]) σ H { s with heap := h' } := J1.pins_of fun q hq => by
      rcases List.mem_append.mp hq with hq | hq
      · exact J1.pin q (List.mem_append_right _ hq)
      · rcases List.mem_cons.mp hq with rfl | hq
        · exact ⟨gS1, t0, t1, t2, fun v z => by cases z⟩
        · rw [List.mem_singleton.mp hq]
          exact ⟨gI, i0, i1, i2, fun v z => by rw [dI] at z; cases z⟩
    show wpAny _ X.A.in1 (tryCatch (holding [u] (call (.ref f) [u])) _ >>= _) _ _ _
    refine wpAny_bind (wpAny_tryCatch (wpAny_holding (wpAny_mono (one _ (j + 1) y u _ hy ru J2 (List.mem_append_left _ hfo)) (fun v s2 he => ?_) fun _ _ hF => hF.elim)))
    obtain ⟨z, H2, J3, rz, rfl, rfl⟩ := he
    obtain ⟨t9, rfl⟩ : ∃ t, v = Value.int (kf (j + 1)) t := rz
    have gS2 := (J3.pin (S, seqObj "list" #[vb, .int (kf i) tb] c) (List.mem_append_right _ (List.mem_append_right _ (.head _)))).1
    have gI2 := (J3.pin (I, oI) (List.mem_append_right _ (List.mem_append_right _ (.tail _ (.head _))))).1
    have J4 : Inv X P σ H2 s2 := J3.unpinned
    show wpAny _ X.A.in1 (tryCatch (holding [u, .int (kf (j + 1)) t9] (richCompare .Gt (.int (kf (j + 1)) t9) (.int (kf i) tb) >>= _)) _ >>= _) _ _ _
    refine wpAny_bind (wpAny_tryCatch (wpAny_holding (wpAny_bind (CmpOf.ints_gt (prog := X.prog) (w := X.w) (A := X.A.in1) (P := fun i v => ∃ t, v = .int (kf i) t) kf (fun i v h => h) (j + 1) i _ _ _ _ _ ⟨t9, rfl⟩ ⟨tb, rfl⟩ ?_))))
    refine wpAny_bind (wpAny_holding (wpAny_truthy_bool ?_))
    refine wpAny_bind (wpAny_letGo (wpAny_pure ?_))
    by_cases hb : kf (j + 1) > kf i
    · have sb2 := Heap.SameBut.update s2.heap S (Obj.mapSeq fun _ => #[u, .int (kf (j + 1)) t9])
      obtain ⟨c2, hc2⟩ : ∃ c2, (s2.heap.update S (Obj.mapSeq fun _ => #[u, .int (kf (j + 1)) t9])).get? S = some (seqObj "list" #[u, .int (kf (j + 1)) t9] c2) := ⟨_, get?_update_seq gS2 fun _ => #[u, .int (kf (j + 1)) t9]⟩
      simp only [hb, decide_true, if_true]
      refine wpAny_bind ?_
      refine wpAny_updateSeq gS2 rfl (wpAny_bind (wpAny_letGo ?_))
      rw [nm]
      refine wpAny_pure ⟨plainId_quiet PySem.F.plain_max_loop _, ih (j + 1) (j + 1) _ y u t9 c2 (by omega) hlt (J4.turned (t' := s2.toks) (fun b o hb e => (sb2.2 b hb).trans e) t0 t1 t3 t4 t5) hc2 ⟨oI, (sb2.2 I hIS).trans gI2, cI, dI⟩ hy ru (Nat.le_refl _) fun j' hj' => ?_⟩
      by_cases e : j' = j + 1
      · subst e
        omega
      · have := best j' (by omega)
        omega
    · simp only [hb, decide_false, Bool.false_eq_true, if_false]
      refine wpAny_bind (wpAny_letGo ?_)
      rw [nm]
      refine wpAny_pure ⟨plainId_quiet PySem.F.plain_max_loop _, ih (j + 1) i _ x vb tb c (by omega) hlt J4 gS2 ⟨oI, gI2, cI, dI⟩ hx rx (by omega) fun j' hj' => ?_⟩
      by_cases e : j' = j + 1
      · subst e
        omega
      · exact best j' (by omega)

/-- the loop of min(xs, key=f), the best so far at S, the walk at I -/
theorem min_loop {X : Cx} {P : List (Addr × Obj)} {σ : L2.St} {H : Hp} {a f I S : Addr} {fo : Obj} {xs : List V} {kf : Nat → Int} {R : Result → Shared → Prop} (hc : X.calm = true) (hq : SqL X.K H a xs) (hI : FpOk X P H I) (hS : FpOk X P H S) (hIS : I ≠ S) (hfo : (f, fo) ∈ P)
    (one : ∀ (pn : List (Addr × Obj)) (i : Nat) (x : V) (u : Value) (s : Shared), xs[i]? = some x → L2.RelV x u → Inv X pn σ H s → (f, fo) ∈ pn → wpAny (model X.prog X.w) X.A.in1 (call (.ref f) [u]) (EP X pn σ fun y H' => y = .int (kf i) ∧ H' = H) (fun _ _ => False) s)
    (fin : ∀ (i : Nat) (x : V) (u : Value) (s : Shared), xs[i]? = some x → L2.RelV x u → (∀ j, j < xs.length → kf i ≤ kf j) → Inv X P σ H s → R (.ok (.ret u)) s) :
    ∀ (r j i : Nat) (s : Shared) (x : V) (vb : Value) (tb : Tok) (c : Nat), xs.length - (j + 1) = r → j + 1 ≤ xs.length → Inv X P σ H s → s.heap.get? S = some (seqObj "list" #[vb, .int (kf i) tb] c) → s.heap.IsListIter I a (j + 1) → xs[i]? = some x → L2.RelV x vb →
      i ≤ j → (∀ j', j' ≤ j → kf i ≤ kf j') → codeAny (model X.prog X.w) X.A (.builtin "min.loop" ⟨[.ref I, .ref f, .ref S], []⟩) R s := by
  have nm : (toString "min" ++ toString ".loop" : String) = "min.loop" := by decide
  obtain ⟨i0, i1, i2, i3, i4, i5⟩ := hI
  obtain ⟨t0, t1, t2, t3, t4, t5⟩ := hS
  intro r
  induction r with
  | zero =>
    intro j i s x vb tb c hr hj J gS it hx rx hij best
    obtain ⟨its, rv, p, hz⟩ := J.list hq
    have hl := rv.length
    refine codeAny_builtin PySem.F.entry_min_loop ?_
    rw [Around.under_plainId PySem.F.plain_min_loop _]
    show wpAny _ X.A.in1 (seqItems? (.ref S) >>= _) _ _ _
    refine wpAny_bind (wpAny_seqItems gS rfl ?_)
    show wpAny _ X.A.in1 (tryCatch (pyNext (.ref I)) _ >>= _) _ _ _
    refine wpAny_bind (wpAny_tryCatch (wpAny_pyNext_list_end (J.ok.hd hc) it p.isList (by simp; omega) fun h' eb => ?_))
    have J1 : Inv X P σ H { s with heap := h' } := J.turned (t' := s.toks) (fun b o hb e => eb b o hb e) i0 i1 i3 i4 i5
    have gS1 : h'.get? S = some (seqObj "list" #[vb, .int (kf i) tb] c) := eb S _ hIS.symm gS
    show wpAny _ X.A.in1 (updateSeq S (fun _ => #[]) >>= _) _ _ _
    refine wpAny_bind ?_
    refine wpAny_updateSeq gS1 rfl (wpAny_bind (wpAny_letGo (wpAny_pure ?_)))
    have sb := Heap.SameBut.update h' S (Obj.mapSeq fun _ => (#[] : Array Value))
    exact fin i x vb _ hx rx (fun j' hj' => best j' (by omega)) (J1.turned (t' := s.toks) (fun b o hb e => (sb.2 b hb).trans e) t0 t1 t3 t4 t5)
  | succ r ih =>
    intro j i s x vb tb c hr hj J gS it hx rx hij best
    obtain ⟨its, rv, p, hz⟩ := J.list hq
    have hl := rv.length
    have hlt : j + 1 < xs.length := by omega
    obtain ⟨y, hy⟩ : ∃ y, xs[j + 1]? = some y := ⟨_, List.getElem?_eq_getElem hlt⟩
    obtain ⟨u, hu, ru⟩ := rv.get hy
    refine codeAny_builtin PySem.F.entry_min_loop ?_
    rw [Around.under_plainId PySem.F.plain_min_loop _]
    show wpAny _ X.A.in1 (seqItems? (.ref S) >>= _) _ _ _
    refine wpAny_bind (wpAny_seqItems gS rfl ?_)
    show wpAny _ X.A.in1 (tryCatch (pyNext (.ref I)) _ >>= _) _ _ _
    refine wpAny_bind (wpAny_tryCatch (wpAny_pyNext_list_item it p.isList (x := u) (by simpa using hu) fun h' it' sb => ?_))
    have J1 : Inv X P σ H { s with heap := h' } := J.turned (t' := s.toks) (fun b o hb e => (sb.2 b hb).trans e) i0 i1 i3 i4 i5
    have gS1 : h'.get? S = some (seqObj "list" #[vb, .int (kf i) tb] c) := (sb.2 S hIS.symm).trans gS
    obtain ⟨oI, gI, cI, dI⟩ := id it'
    have J2 : Inv X (P ++ [(S, seqObj "list" #[vb, .int (kf i) tb] c), (I, oI)]) σ H { s with heap := h' } := J1.pins_of fun q hq => by
      rcases List.mem_append.mp hq with hq | hq
      · exact J1.pin q (List.mem_append_right _ hq)
      · rcases List.mem_cons.mp hq with rfl | hq
        · exact ⟨gS1, t0, t1, t2, fun v z => by cases z⟩
        · rw [List.mem_singleton.mp hq]
          exact ⟨gI, i0, i1, i2, fun v z => by rw [dI] at z; cases z⟩
    show wpAny _ X.A.in1 (tryCatch (holding [u] (call (.ref f) [u])) _ >>= _) _ _ _
    refine wpAny_bind (wpAny_tryCatch (wpAny_holding (wpAny_mono (one _ (j + 1) y u _ hy ru J2 (List.mem_append_left _ hfo)) (fun v s2 he => ?_) fun _ _ hF => hF.elim)))
    obtain ⟨z, H2, J3, rz, rfl, rfl⟩ := he
    obtain ⟨t9, rfl⟩ : ∃ t, v = Value.int (kf (j + 1)) t := rz
    have gS2 := (J3.pin (S, seqObj "list" #[vb, .int (kf i) tb] c) (List.mem_append_right _ (List.mem_append_right _ (.head _)))).1
    have gI2 := (J3.pin (I, oI) (List.mem_append_right _ (List.mem_append_right _ (.tail _ (.head _))))).1
    have J4 : Inv X P σ H2 s2 := J3.unpinned
    show wpAny _ X.A.in1 (tryCatch (holding [u, .int (kf (j + 1)) t9] (richCompare .Lt (.int (kf (j + 1)) t9) (.int (kf i) tb) >>= _)) _ >>= _) _ _ _
    refine wpAny_bind (wpAny_tryCatch (wpAny_holding (wpAny_bind (CmpOf.ints_lt (prog := X.prog) (w := X.w) (A := X.A.in1) (P := fun i v => ∃ t, v = .int (kf i) t) kf (fun i v h => h) (j + 1) i _ _ _ _ _ ⟨t9, rfl⟩ ⟨tb, rfl⟩ ?_))))
    refine wpAny_bind (wpAny_holding (wpAny_truthy_bool ?_))
    refine wpAny_bind (wpAny_letGo (wpAny_pure ?_))
    by_cases hb : kf (j + 1) < kf i
    · have sb2 := Heap.SameBut.update s2.heap S (Obj.mapSeq fun _ => #[u, .int (kf (j + 1)) t9])
      obtain ⟨c2, hc2⟩ : ∃ c2, (s2.heap.update S (Obj.mapSeq fun _ => #[u, .int (kf (j + 1)) t9])).get? S = some (seqObj "list" #[u, .int (kf (j + 1)) t9] c2) := ⟨_, get?_update_seq gS2 fun _ => #[u, .int (kf (j + 1)) t9]⟩
      simp only [hb, decide_true, if_true]
      refine wpAny_bind ?_
      refine wpAny_updateSeq gS2 rfl (wpAny_bind (wpAny_letGo ?_))
      rw [nm]
      refine wpAny_pure ⟨plainId_quiet PySem.F.plain_min_loop _, ih (j + 1) (j + 1) _ y u t9 c2 (by omega) hlt (J4.turned (t' := s2.toks) (fun b o hb e => (sb2.2 b hb).trans e) t0 t1 t3 t4 t5) hc2 ⟨oI, (sb2.2 I hIS).trans gI2, cI, dI⟩ hy ru (Nat.le_refl _) fun j' hj' => ?_⟩
      by_cases e : j' = j + 1
      · subst e
        omega
      · have := best j' (by omega)
        omega
    · simp only [hb, decide_false, Bool.false_eq_true, if_false]
      refine wpAny_bind (wpAny_letGo ?_)
      rw [nm]
      refine wpAny_pure ⟨plainId_quiet PySem.F.plain_min_loop _, ih (j + 1) i _ x vb tb c (by omega) hlt J4 gS2 ⟨oI, gI2, cI, dI⟩ hx rx (by omega) fun j' hj' => ?_⟩
      by_cases e : j' = j + 1
      · subst e
        omega
      · exact best j' (by omega)

/-- what max, min by a key ask: the list's items and their keys -/
def TKey (K : PySem.W.Frag) (T : List (Addr × Str)) (ge : Int → Int → Prop) (t : TE) (σ : L2.St) (Q : VK) (v0 : V) (H1 : Hp) : Prop :=
  ∃ (a : Addr) (xs : List V) (kf : Nat → Int), v0 = .ref a ∧ SqL K H1 a xs ∧ 0 < xs.length ∧ Tabs T H1 ∧ ∀ H2, ExtN H1 H2 → Tabs T H2 →
    (∀ i x, xs[i]? = some x → t (some x :: σ) H2 fun y H3 => y = .int (kf i) ∧ H3 = H2) ∧ ∀ i x, xs[i]? = some x → (∀ j, j < xs.length → ge (kf i) (kf j)) → Q x H2
def tKey (K : PySem.W.Frag) (T : List (Addr × Str)) (ge : Int → Int → Prop) (t0 : TA) (t : TE) : TE := fun σ H Q => t0 σ H (one1 (TKey K T ge t σ Q))

/-- max(xs, key=f), from the call of the built-in -/
theorem max_call {X : Cx} {P : List (Addr × Obj)} {σ : L2.St} {H : Hp} {a f : Addr} {fo : Obj} {xs : List V} {kf : Nat → Int} {Q : Value → Shared → Prop} {E' : Value → Shared → Prop} {s : Shared} (hc : X.calm = true) (J : Inv X P σ H s) (hq : SqL X.K H a xs) (hne : 0 < xs.length) (hfo : (f, fo) ∈ P)
    (one : ∀ (pn : List (Addr × Obj)) (i : Nat) (x : V) (u : Value) (s : Shared), xs[i]? = some x → L2.RelV x u → Inv X pn σ H s → (f, fo) ∈ pn → wpAny (model X.prog X.w) X.A.in1 (call (.ref f) [u]) (EP X pn σ fun y H' => y = .int (kf i) ∧ H' = H) (fun _ _ => False) s)
    (fin : ∀ (i : Nat) (x : V) (u : Value) (s : Shared), xs[i]? = some x → L2.RelV x u → (∀ j, j < xs.length → kf i ≥ kf j) → Inv X P σ H s → Q u s) :
    wpAny (model X.prog X.w) X.A (call (.builtin "max") [.ref a] [(Str.ofString "key", .ref f)]) Q E' s := by
  have nm : (toString "max" ++ toString ".loop" : String) = "max.loop" := by decide
  obtain ⟨its, rv, p, hz⟩ := J.list hq
  have hl := rv.length
  refine kmk_tree PySem.F.kind_max PySem.F.plain_max PySem.F.entry_max (kmk_max_key _ _) ?_
  show wpAny _ X.A.in1 (Builtin.Builtins.bindParams "max" ["key", "default"] 0 ⟨[], [(Str.ofString "key", .ref f)]⟩ >>= _) _ _ s
  refine wpAny_bind (wpAny_of_eq (show Builtin.Builtins.bindParams "max" ["key", "default"] 0 ⟨[], [(Str.ofString "key", .ref f)]⟩ = pure [some (.ref f), none] from rfl) ?_)
  refine wpAny_bind (wpAny_pure ?_)
  refine wpAny_bind (wpAny_pyIter_list p.isList ?_)
  refine wpAny_bind (wpAny_newList ?_ (Nat.zero_le _))
  rw [nm]
  have hsz : (s.heap.push { cls := .type "list_iterator", data := .fields #[.ref a, .int 0 0] }).objs.size = s.heap.objs.size + 1 := size_push' ..
  have hIS : s.heap.objs.size ≠ (s.heap.push { cls := .type "list_iterator", data := .fields #[.ref a, .int 0 0] }).objs.size := by rw [hsz]; exact Nat.ne_of_lt (Nat.lt_succ_self _)
  have k2 : ∀ b o, s.heap.get? b = some o → ((s.heap.push { cls := .type "list_iterator", data := .fields #[.ref a, .int 0 0] }).push (seqObj "list" #[] 0)).get? b = some o := fun b o e => Heap.get?_push_of_some _ (Heap.get?_push_of_some _ e)
  have hI : FpOk X P H s.heap.objs.size := J.fpOk (Nat.le_refl _) (J.hok.fresh (Nat.le_refl _))
  have hS : FpOk X P H (s.heap.push { cls := .type "list_iterator", data := .fields #[.ref a, .int 0 0] }).objs.size := J.fpOk (by rw [hsz]; exact Nat.le_succ _) (J.hok.fresh (by rw [hsz]; exact Nat.le_succ _))
  have gI0 : ((s.heap.push { cls := .type "list_iterator", data := .fields #[.ref a, .int 0 0] }).push (seqObj "list" #[] 0)).get? s.heap.objs.size = some { cls := .type "list_iterator", data := .fields #[.ref a, .int 0 0] } := Heap.get?_push_of_some _ (Heap.get?_push_size _ rfl)
  have gS0 : ((s.heap.push { cls := .type "list_iterator", data := .fields #[.ref a, .int 0 0] }).push (seqObj "list" #[] 0)).get? (s.heap.push { cls := .type "list_iterator", data := .fields #[.ref a, .int 0 0] }).objs.size = some (seqObj "list" #[] 0) := Heap.get?_push_size _ rfl
  have J0 : Inv X P σ H { s with heap := (s.heap.push { cls := .type "list_iterator", data := .fields #[.ref a, .int 0 0] }).push (seqObj "list" #[] 0) } := J.turned (t' := s.toks) (it := s.heap.objs.size) (fun b o _ e => k2 b o e) hI.1 hI.2.1 hI.2.2.2.1 hI.2.2.2.2.1 hI.2.2.2.2.2
  have it0 : ((s.heap.push { cls := .type "list_iterator", data := .fields #[.ref a, .int 0 0] }).push (seqObj "list" #[] 0)).IsListIter s.heap.objs.size a 0 := ⟨_, gI0, rfl, rfl⟩
  refine wpAny_pure ⟨plainId_quiet PySem.F.plain_max_loop _, ?_⟩
  show codeAny _ X.A (.builtin "max.loop" ⟨[.ref s.heap.objs.size, .ref f, .ref (s.heap.push { cls := .type "list_iterator", data := .fields #[.ref a, .int 0 0] }).objs.size], []⟩) _ { s with heap := (s.heap.push { cls := .type "list_iterator", data := .fields #[.ref a, .int 0 0] }).push (seqObj "list" #[] 0) }
  generalize (s.heap.push { cls := .type "list_iterator", data := .fields #[.ref a, .int 0 0] }).objs.size = S at hIS hS gS0 ⊢
  generalize s.heap.objs.size = I at hIS hI gI0 it0 ⊢
  generalize (s.heap.push { cls := .type "list_iterator", data := .fields #[.ref a, .int 0 0] }).push (seqObj "list" #[] 0) = h0 at gI0 gS0 J0 it0 ⊢
  clear k2 hsz
  obtain ⟨its2, rv2, p2, _⟩ := J0.list hq
  obtain ⟨y, hy⟩ : ∃ y, xs[0]? = some y := ⟨_, List.getElem?_eq_getElem hne⟩
  obtain ⟨u, hu, ru⟩ := rv2.get hy
  obtain ⟨i0, i1, i2, i3, i4, i5⟩ := id hI
  obtain ⟨t0, t1, t2, t3, t4, t5⟩ := id hS
  refine codeAny_builtin PySem.F.entry_max_loop ?_
  rw [Around.under_plainId PySem.F.plain_max_loop _]
  show wpAny _ X.A.in1 (seqItems? (.ref S) >>= _) _ _ _
  refine wpAny_bind (wpAny_seqItems gS0 rfl ?_)
  show wpAny _ X.A.in1 (tryCatch (pyNext (.ref I)) _ >>= _) _ _ _
  refine wpAny_bind (wpAny_tryCatch (wpAny_pyNext_list_item it0 p2.isList (x := u) (by simpa using hu) fun h' it' sb => ?_))
  have J1 : Inv X P σ H { s with heap := h' } := J0.turned (t' := s.toks) (fun b o hb e => (sb.2 b hb).trans e) i0 i1 i3 i4 i5
  have gS1 : h'.get? S = some (seqObj "list" #[] 0) := (sb.2 S hIS.symm).trans gS0
  obtain ⟨oI, gI, cI, dI⟩ := id it'
  have J2 : Inv X (P ++ [(S, seqObj "list" #[] 0), (I, oI)]) σ H { s with heap := h' } := J1.pins_of fun q hq => by
    rcases List.mem_append.mp hq with hq | hq
    · exact J1.pin q (List.mem_append_right _ hq)
    · rcases List.mem_cons.mp hq with rfl | hq
      · exact ⟨gS1, t0, t1, t2, fun v z => by cases z⟩
      · rw [List.mem_singleton.mp hq]
        exact ⟨gI, i0, i1, i2, fun v z => by rw [dI] at z; cases z⟩
  show wpAny _ X.A.in1 (tryCatch (holding [u] (call (.ref f) [u])) _ >>= _) _ _ _
  refine wpAny_bind (wpAny_tryCatch (wpAny_holding (wpAny_mono (one _ 0 y u _ hy ru J2 (List.mem_append_left _ hfo)) (fun v s2 he => ?_) fun _ _ hF => hF.elim)))
  obtain ⟨z, H2, J3, rz, rfl, rfl⟩ := he
  obtain ⟨t9, rfl⟩ : ∃ t, v = Value.int (kf 0) t := rz
  have gS2 := (J3.pin (S, seqObj "list" #[] 0) (List.mem_append_right _ (List.mem_append_right _ (.head _)))).1
  have gI2 := (J3.pin (I, oI) (List.mem_append_right _ (List.mem_append_right _ (.tail _ (.head _))))).1
  have J4 : Inv X P σ H2 s2 := J3.unpinned
  have sb2 := Heap.SameBut.update s2.heap S (Obj.mapSeq fun _ => #[u, .int (kf 0) t9])
  obtain ⟨c2, hc2⟩ : ∃ c2, (s2.heap.update S (Obj.mapSeq fun _ => #[u, .int (kf 0) t9])).get? S = some (seqObj "list" #[u, .int (kf 0) t9] c2) := ⟨_, get?_update_seq gS2 fun _ => #[u, .int (kf 0) t9]⟩
  show wpAny _ X.A.in1 (updateSeq S (fun _ => #[u, .int (kf 0) t9]) >>= _) _ _ _
  refine wpAny_bind ?_
  refine wpAny_updateSeq gS2 rfl ?_
  rw [nm]
  refine wpAny_pure ⟨plainId_quiet PySem.F.plain_max_loop _, ?_⟩
  refine max_loop hc hq hI hS hIS hfo one (fun i x u s hx r b J => fin i x u s hx r b J) _ 0 0 _ y u t9 c2 rfl hne (J4.turned (t' := s2.toks) (fun b o hb e => (sb2.2 b hb).trans e) t0 t1 t3 t4 t5) hc2 ⟨oI, (sb2.2 I hIS).trans gI2, cI, dI⟩ hy ru (Nat.le_refl _) fun j' hj' => ?_
  obtain rfl : j' = 0 := by omega
  omega
/-- max(e0, key=lambda a1: body) -/
theorem pe_maxKey {X : Cx} {T : List (Addr × Str)} {a1 : Str} {c P : Addr} {k : Nat} {params : Arguments} {body e0 : Expr} {scope : Scope} {t0 : TA} {t : TE} {p lpos pos kpos : Pos} (hc : X.calm = true) (hg : Gl X "max") (hm : X.mg "max" = none)
    (TB : TabB X.base X.mg c P) (hcode : X.env.code = .ref c) (hmT : (P, X.env.qual ++ "<lambda>") ∈ T) (hu : ∀ p ∈ T, p.1 = P → p.2 = X.env.qual ++ "<lambda>") (hr : Room (k + 2) X.A) (L : Lam1S X.env.scope scope a1 X.N) (hdef : defaultsOf params X.env = ([], []))
    (hbind : ∀ (q : Str) (cl : List (Str × Addr)) (pm cv ctv u1 : Value), bindArgs (PySem.W.kla_fn "<lambda>" q params body scope cl pm cv ctv) ⟨[u1], []⟩ = pure [(a1, u1)])
    (h0 : PA X [e0] t0)
    (hbody : ∀ (A : Around) (outer : List Env) (s : Shared) (H : Hp) (f c' : Addr), Room k (A.deeper (lamEnv X scope s.heap.objs.size f c')) → PE (lam1Cx X A outer s H C8.E0 scope f c' a1).nox body t)
    (he : backTo pos (starEach [e0] X.env) = (false, eval e0 X.env) :: backTo pos (starEach [] X.env) := by rfl) (hpl : (backTo pos (starEach [e0] X.env)).any (·.1) = false := by rfl)
    (hall : (backToKw pos (keywordEach [⟨some "key", .Lambda params body scope lpos, kpos⟩] X.env)).all (·.1.isSome) = true := by rfl) (hnone : (backToKw pos (keywordEach [⟨some "key", .Lambda params body scope lpos, kpos⟩] X.env)).any (·.1.isNone) = false := by rfl)
    (hks : (backToKw pos (keywordEach [⟨some "key", .Lambda params body scope lpos, kpos⟩] X.env)).filterMap (·.1) = [("key" : Str)] := by rfl) :
    PE X (.Call (.Name "max" p) [e0] [⟨some "key", .Lambda params body scope lpos, kpos⟩] pos) (tKey X.K T (fun x y => x ≥ y) t0 t) := by
  refine ⟨fun pins s σ H Q I h => ?_⟩
  refine wpAny_Call_Name_kw (ld_blt I hg hm (u := .builtin "max") (by first | rfl | decide +kernel) ?_ (by first | decide +kernel | decide) (by first | decide +kernel | decide))
  refine PyProof.Rows.callWith_kw (thn (h0.run pos pins s σ H _ I h) fun us s1 ⟨vs, H1, I1, r1, q1⟩ => ?_) he hpl hall hnone
  obtain ⟨v0, rfl⟩ : ∃ v, vs = [v] := by
    match vs, q1 with
    | [v], _ => exact ⟨v, rfl⟩
  obtain ⟨a, xs, kf, rfl, hq, hne, hT, h⟩ : TKey X.K T (fun x y => x ≥ y) t σ Q v0 H1 := q1
  obtain ⟨u0, rfl, ru0⟩ := vals1 r1
  obtain rfl : u0 = Value.ref a := ru0
  show wpAny _ _ (evalAll ((do let v ← eval (.Lambda params body scope lpos) X.env; standAt pos; pure v) :: [])) _ _ s1
  refine wpAny_evalAll_cons (wpAny_bind (lam_make2 I1 TB hcode hmT hu hT hdef (lam1_has L I.ok) fun f c' pm' ctv H2 s2 I2 eN T2 hf hfn hfr hco => wpAny_bind (wpAny_standAt (wpAny_pure (wpAny_evalAll_nil ?_)))))
  rw [hks]
  obtain ⟨body1, fin⟩ := h H2 eN T2
  have nL : f ≠ X.env.locals := fun z => by
    obtain ⟨m, ⟨o, es, ep, ho, hd, _⟩, _⟩ := I2.loc
    rw [← z, hf] at ho
    cases ho
    cases hd
  have nF : f ∉ X.fs := fun z => hfr (by
    rcases I2.ok.stk with e | ⟨e, _⟩
    · rw [e]
      exact z
    · rw [e]
      unfold frs
      rw [List.filterMap_cons]
      split
      · exact z
      · exact List.mem_cons_of_mem _ z)
  have J : Inv X (pins ++ [(f, PySem.W.kla_obj "<lambda>" (X.env.qual ++ "<lambda>") params body scope (cloFrom X.env.cells scope.names []) pm' c' ctv)]) σ H2 s2 := I2.pins_of fun q hq => by
    rcases List.mem_append.mp hq with hq | hq
    · exact I2.pin q (List.mem_append_right _ hq)
    · rw [List.mem_singleton.mp hq]
      exact ⟨hf, hfn, nL, nF, fun v z => by cases z⟩
  have hr1 : Room (k + 1) X.A.in1 := hr.in1
  refine max_call hc J (EX.ExtN.seq eN hq) hne (List.mem_append_right _ (.head _)) (fun pn i x u s hx rx Ip hm => ?_) fun i x u s hx rx best Jf => ⟨x, H2, Jf.unpinned, rx, fin i x hx best⟩
  exact lam1_call Ip L (Ip.pin _ (List.mem_append_right _ hm)).1 hco Ip.env0.in1 hr1 (fun u1 => hbind _ _ _ _ _ u1) (fun A outer s H hr2 => hbody A outer s H f c' hr2) rx (body1 i x hx)

/-- min(xs, key=f), from the call of the built-in -/
theorem min_call {X : Cx} {P : List (Addr × Obj)} {σ : L2.St} {H : Hp} {a f : Addr} {fo : Obj} {xs : List V} {kf : Nat → Int} {Q : Value → Shared → Prop} {E' : Value → Shared → Prop} {s : Shared} (hc : X.calm = true) (J : Inv X P σ H s) (hq : SqL X.K H a xs) (hne : 0 < xs.length) (hfo : (f, fo) ∈ P)
    (one : ∀ (pn : List (Addr × Obj)) (i : Nat) (x : V) (u : Value) (s : Shared), xs[i]? = some x → L2.RelV x u → Inv X pn σ H s → (f, fo) ∈ pn → wpAny (model X.prog X.w) X.A.in1 (call (.ref f) [u]) (EP X pn σ fun y H' => y = .int (kf i) ∧ H' = H) (fun _ _ => False) s)
    (fin : ∀ (i : Nat) (x : V) (u : Value) (s : Shared), xs[i]? = some x → L2.RelV x u → (∀ j, j < xs.length → kf i ≤ kf j) → Inv X P σ H s → Q u s) :
    wpAny (model X.prog X.w) X.A (call (.builtin "min") [.ref a] [(Str.ofString "key", .ref f)]) Q E' s := by
  have nm : (toString "min" ++ toString ".loop" : String) = "min.loop" := by decide
  obtain ⟨its, rv, p, hz⟩ := J.list hq
  have hl := rv.length
  refine kmk_tree PySem.F.kind_min PySem.F.plain_min PySem.F.entry_min (kmk_min_key _ _) ?_
  show wpAny _ X.A.in1 (Builtin.Builtins.bindParams "min" ["key", "default"] 0 ⟨[], [(Str.ofString "key", .ref f)]⟩ >>= _) _ _ s
  refine wpAny_bind (wpAny_of_eq (show Builtin.Builtins.bindParams "min" ["key", "default"] 0 ⟨[], [(Str.ofString "key", .ref f)]⟩ = pure [some (.ref f), none] from rfl) ?_)
  refine wpAny_bind (wpAny_pure ?_)
  refine wpAny_bind (wpAny_pyIter_list p.isList ?_)
  refine wpAny_bind (wpAny_newList ?_ (Nat.zero_le _))
  rw [nm]
  have hsz : (s.heap.push { cls := .type "list_iterator", data := .fields #[.ref a, .int 0 0] }).objs.size = s.heap.objs.size + 1 := size_push' ..
  have hIS : s.heap.objs.size ≠ (s.heap.push { cls := .type "list_iterator", data := .fields #[.ref a, .int 0 0] }).objs.size := by rw [hsz]; exact Nat.ne_of_lt (Nat.lt_succ_self _)
  have k2 : ∀ b o, s.heap.get? b = some o → ((s.heap.push { cls := .type "list_iterator", data := .fields #[.ref a, .int 0 0] }).push (seqObj "list" #[] 0)).get? b = some o := fun b o e => Heap.get?_push_of_some _ (Heap.get?_push_of_some _ e)
  have hI : FpOk X P H s.heap.objs.size := J.fpOk (Nat.le_refl _) (J.hok.fresh (Nat.le_refl _))
  have hS : FpOk X P H (s.heap.push { cls := .type "list_iterator", data := .fields #[.ref a, .int 0 0] }).objs.size := J.fpOk (by rw [hsz]; exact Nat.le_succ _) (J.hok.fresh (by rw [hsz]; exact Nat.le_succ _))
  have gI0 : ((s.heap.push { cls := .type "list_iterator", data := .fields #[.ref a, .int 0 0] }).push (seqObj "list" #[] 0)).get? s.heap.objs.size = some { cls := .type "list_iterator", data := .fields #[.ref a, .int 0 0] } := Heap.get?_push_of_some _ (Heap.get?_push_size _ rfl)
  have gS0 : ((s.heap.push { cls := .type "list_iterator", data := .fields #[.ref a, .int 0 0] }).push (seqObj "list" #[] 0)).get? (s.heap.push { cls := .type "list_iterator", data := .fields #[.ref a, .int 0 0] }).objs.size = some (seqObj "list" #[] 0) := Heap.get?_push_size _ rfl
  have J0 : Inv X P σ H { s with heap := (s.heap.push { cls := .type "list_iterator", data := .fields #[.ref a, .int 0 0] }).push (seqObj "list" #[] 0) } := J.turned (t' := s.toks) (it := s.heap.objs.size) (fun b o _ e => k2 b o e) hI.1 hI.2.1 hI.2.2.2.1 hI.2.2.2.2.1 hI.2.2.2.2.2
  have it0 : ((s.heap.push { cls := .type "list_iterator", data := .fields #[.ref a, .int 0 0] }).push (seqObj "list" #[] 0)).IsListIter s.heap.objs.size a 0 := ⟨_, gI0, rfl, rfl⟩
  refine wpAny_pure ⟨plainId_quiet PySem.F.plain_min_loop _, ?_⟩
  show codeAny _ X.A (.builtin "min.loop" ⟨[.ref s.heap.objs.size, .ref f, .ref (s.heap.push { cls := .type "list_iterator", data := .fields #[.ref a, .int 0 0] }).objs.size], []⟩) _ { s with heap := (s.heap.push { cls := .type "list_iterator", data := .fields #[.ref a, .int 0 0] }).push (seqObj "list" #[] 0) }
  generalize (s.heap.push { cls := .type "list_iterator", data := .fields #[.ref a, .int 0 0] }).objs.size = S at hIS hS gS0 ⊢
  generalize s.heap.objs.size = I at hIS hI gI0 it0 ⊢
  generalize (s.heap.push { cls := .type "list_iterator", data := .fields #[.ref a, .int 0 0] }).push (seqObj "list" #[] 0) = h0 at gI0 gS0 J0 it0 ⊢
  clear k2 hsz
  obtain ⟨its2, rv2, p2, _⟩ := J0.list hq
  obtain ⟨y, hy⟩ : ∃ y, xs[0]? = some y := ⟨_, List.getElem?_eq_getElem hne⟩
  obtain ⟨u, hu, ru⟩ := rv2.get hy
  obtain ⟨i0, i1, i2, i3, i4, i5⟩ := id hI
  obtain ⟨t0, t1, t2, t3, t4, t5⟩ := id hS
  refine codeAny_builtin PySem.F.entry_min_loop ?_
  rw [Around.under_plainId PySem.F.plain_min_loop _]
  show wpAny _ X.A.in1 (seqItems? (.ref S) >>= _) _ _ _
  refine wpAny_bind (wpAny_seqItems gS0 rfl ?_)
  show wpAny _ X.A.in1 (tryCatch (pyNext (.ref I)) _ >>= _) _ _ _
  refine wpAny_bind (wpAny_tryCatch (wpAny_pyNext_list_item it0 p2.isList (x := u) (by simpa using hu) fun h' it' sb => ?_))
  have J1 : Inv X P σ H { s with heap := h' } := J0.turned (t' := s.toks) (fun b o hb e => (sb.2 b hb).trans e) i0 i1 i3 i4 i5
  have gS1 : h'.get? S = some (seqObj "list" #[] 0) := (sb.2 S hIS.symm).trans gS0
  obtain ⟨oI, gI, cI, dI⟩ := id it'
  have J2 : Inv X (P ++ [(S, seqObj "list" #[] 0), (I, oI)]) σ H { s with heap := h' } := J1.pins_of fun q hq => by
    rcases List.mem_append.mp hq with hq | hq
    · exact J1.pin q (List.mem_append_right _ hq)
    · rcases List.mem_cons.mp hq with rfl | hq
      · exact ⟨gS1, t0, t1, t2, fun v z => by cases z⟩
      · rw [List.mem_singleton.mp hq]
        exact ⟨gI, i0, i1, i2, fun v z => by rw [dI] at z; cases z⟩
  show wpAny _ X.A.in1 (tryCatch (holding [u] (call (.ref f) [u])) _ >>= _) _ _ _
  refine wpAny_bind (wpAny_tryCatch (wpAny_holding (wpAny_mono (one _ 0 y u _ hy ru J2 (List.mem_append_left _ hfo)) (fun v s2 he => ?_) fun _ _ hF => hF.elim)))
  obtain ⟨z, H2, J3, rz, rfl, rfl⟩ := he
  obtain ⟨t9, rfl⟩ : ∃ t, v = Value.int (kf 0) t := rz
  have gS2 := (J3.pin (S, seqObj "list" #[] 0) (List.mem_append_right _ (List.mem_append_right _ (.head _)))).1
  have gI2 := (J3.pin (I, oI) (List.mem_append_right _ (List.mem_append_right _ (.tail _ (.head _))))).1
  have J4 : Inv X P σ H2 s2 := J3.unpinned
  have sb2 := Heap.SameBut.update s2.heap S (Obj.mapSeq fun _ => #[u, .int (kf 0) t9])
  obtain ⟨c2, hc2⟩ : ∃ c2, (s2.heap.update S (Obj.mapSeq fun _ => #[u, .int (kf 0) t9])).get? S = some (seqObj "list" #[u, .int (kf 0) t9] c2) := ⟨_, get?_update_seq gS2 fun _ => #[u, .int (kf 0) t9]⟩
  show wpAny _ X.A.in1 (updateSeq S (fun _ => #[u, .int (kf 0) t9]) >>= _) _ _ _
  refine wpAny_bind ?_
  refine wpAny_updateSeq gS2 rfl ?_
  rw [nm]
  refine wpAny_pure ⟨plainId_quiet PySem.F.plain_min_loop _, ?_⟩
  refine min_loop hc hq hI hS hIS hfo one (fun i x u s hx r b J => fin i x u s hx r b J) _ 0 0 _ y u t9 c2 rfl hne (J4.turned (t' := s2.toks) (fun b o hb e => (sb2.2 b hb).trans e) t0 t1 t3 t4 t5) hc2 ⟨oI, (sb2.2 I hIS).trans gI2, cI, dI⟩ hy ru (Nat.le_refl _) fun j' hj' => ?_
  obtain rfl : j' = 0 := by omega
  omega
/-- min(e0, key=lambda a1: body) -/
theorem pe_minKey {X : Cx} {T : List (Addr × Str)} {a1 : Str} {c P : Addr} {k : Nat} {params : Arguments} {body e0 : Expr} {scope : Scope} {t0 : TA} {t : TE} {p lpos pos kpos : Pos} (hc : X.calm = true) (hg : Gl X "min") (hm : X.mg "min" = none)
    (TB : TabB X.base X.mg c P) (hcode : X.env.code = .ref c) (hmT : (P, X.env.qual ++ "<lambda>") ∈ T) (hu : ∀ p ∈ T, p.1 = P → p.2 = X.env.qual ++ "<lambda>") (hr : Room (k + 2) X.A) (L : Lam1S X.env.scope scope a1 X.N) (hdef : defaultsOf params X.env = ([], []))
    (hbind : ∀ (q : Str) (cl : List (Str × Addr)) (pm cv ctv u1 : Value), bindArgs (PySem.W.kla_fn "<lambda>" q params body scope cl pm cv ctv) ⟨[u1], []⟩ = pure [(a1, u1)])
    (h0 : PA X [e0] t0)
    (hbody : ∀ (A : Around) (outer : List Env) (s : Shared) (H : Hp) (f c' : Addr), Room k (A.deeper (lamEnv X scope s.heap.objs.size f c')) → PE (lam1Cx X A outer s H C8.E0 scope f c' a1).nox body t)
    (he : backTo pos (starEach [e0] X.env) = (false, eval e0 X.env) :: backTo pos (starEach [] X.env) := by rfl) (hpl : (backTo pos (starEach [e0] X.env)).any (·.1) = false := by rfl)
    (hall : (backToKw pos (keywordEach [⟨some "key", .Lambda params body scope lpos, kpos⟩] X.env)).all (·.1.isSome) = true := by rfl) (hnone : (backToKw pos (keywordEach [⟨some "key", .Lambda params body scope lpos, kpos⟩] X.env)).any (·.1.isNone) = false := by rfl)
    (hks : (backToKw pos (keywordEach [⟨some "key", .Lambda params body scope lpos, kpos⟩] X.env)).filterMap (·.1) = [("key" : Str)] := by rfl) :
    PE X (.Call (.Name "min" p) [e0] [⟨some "key", .Lambda params body scope lpos, kpos⟩] pos) (tKey X.K T (fun x y => x ≤ y) t0 t) := by
  refine ⟨fun pins s σ H Q I h => ?_⟩
  refine wpAny_Call_Name_kw (ld_blt I hg hm (u := .builtin "min") (by first | rfl | decide +kernel) ?_ (by first | decide +kernel | decide) (by first | decide +kernel | decide))
  refine PyProof.Rows.callWith_kw (thn (h0.run pos pins s σ H _ I h) fun us s1 ⟨vs, H1, I1, r1, q1⟩ => ?_) he hpl hall hnone
  obtain ⟨v0, rfl⟩ : ∃ v, vs = [v] := by
    match vs, q1 with
    | [v], _ => exact ⟨v, rfl⟩
  obtain ⟨a, xs, kf, rfl, hq, hne, hT, h⟩ : TKey X.K T (fun x y => x ≤ y) t σ Q v0 H1 := q1
  obtain ⟨u0, rfl, ru0⟩ := vals1 r1
  obtain rfl : u0 = Value.ref a := ru0
  show wpAny _ _ (evalAll ((do let v ← eval (.Lambda params body scope lpos) X.env; standAt pos; pure v) :: [])) _ _ s1
  refine wpAny_evalAll_cons (wpAny_bind (lam_make2 I1 TB hcode hmT hu hT hdef (lam1_has L I.ok) fun f c' pm' ctv H2 s2 I2 eN T2 hf hfn hfr hco => wpAny_bind (wpAny_standAt (wpAny_pure (wpAny_evalAll_nil ?_)))))
  rw [hks]
  obtain ⟨body1, fin⟩ := h H2 eN T2
  have nL : f ≠ X.env.locals := fun z => by
    obtain ⟨m, ⟨o, es, ep, ho, hd, _⟩, _⟩ := I2.loc
    rw [← z, hf] at ho
    cases ho
    cases hd
  have nF : f ∉ X.fs := fun z => hfr (by
    rcases I2.ok.stk with e | ⟨e, _⟩
    · rw [e]
      exact z
    · rw [e]
      unfold frs
      rw [List.filterMap_cons]
      split
      · exact z
      · exact List.mem_cons_of_mem _ z)
  have J : Inv X (pins ++ [(f, PySem.W.kla_obj "<lambda>" (X.env.qual ++ "<lambda>") params body scope (cloFrom X.env.cells scope.names []) pm' c' ctv)]) σ H2 s2 := I2.pins_of fun q hq => by
    rcases List.mem_append.mp hq with hq | hq
    · exact I2.pin q (List.mem_append_right _ hq)
    · rw [List.mem_singleton.mp hq]
      exact ⟨hf, hfn, nL, nF, fun v z => by cases z⟩
  have hr1 : Room (k + 1) X.A.in1 := hr.in1
  refine min_call hc J (EX.ExtN.seq eN hq) hne (List.mem_append_right _ (.head _)) (fun pn i x u s hx rx Ip hm => ?_) fun i x u s hx rx best Jf => ⟨x, H2, Jf.unpinned, rx, fin i x hx best⟩
  exact lam1_call Ip L (Ip.pin _ (List.mem_append_right _ hm)).1 hco Ip.env0.in1 hr1 (fun u1 => hbind _ _ _ _ _ u1) (fun A outer s H hr2 => hbody A outer s H f c' hr2) rx (body1 i x hx)
end EX
set_option Elab.async false
set_option linter.all false
set_option maxRecDepth 100000
set_option maxHeartbeats 4000000
namespace EX
open PySem L2 PySem.Spec PyProof.Rows
/-! ### xs.count(y), texts -/
theorem countIn_str (k : Str) : ∀ ys : List Str, countIn (.str k) (ys.map PyData.str) = ((ys.count k : Nat) : Int)
  | [] => rfl
  | y :: ys => by
    rw [List.map_cons, countIn, countIn_str k ys, List.count_cons]
    by_cases h : (y == k) = true
    · have e : same (.str y) (.str k) = true := h
      rw [if_pos e, if_pos h]
      push_cast
      omega
    · have e : ¬ same (.str y) (.str k) = true := h
      rw [if_neg e, if_neg h]
      push_cast
      omega
def rCntS (K : PySem.W.Frag) : V → List V → Hp → VK → Prop := fun x xs H Q => ∃ (p : Addr) (ys : List Str) (k : Str), x = .ref p ∧ xs = [.str k] ∧ SqL K H p (ys.map V.str) ∧ Q (.int (ys.count k : Nat)) H
theorem mt_scount {X : Cx} : MtR X "list.count" (rCntS X.K) := by
  intro pins s σ H x xs v us Q I rx rxs h
  obtain ⟨p, ys, k, rfl, rfl, hs, q⟩ := h
  cases rx
  obtain ⟨u, rfl, ru⟩ := rxs.one
  obtain ⟨t, rfl⟩ := ru
  obtain ⟨its, rv, hl, hlen⟩ := I.list hs
  refine count_list_strs hl.isList rv.strs ?_
  rw [countIn_str]
  exact ⟨.int (ys.count k : Nat), H, I.tok _, ⟨_, rfl⟩, q⟩
end EX
set_option linter.all false
set_option autoImplicit false
namespace M41
variable {α : Type} [DecidableEq α]
abbrev Num (α : Type) := List (α × Nat)
/-- how far a key's number is away, c being counted -/
def far (c : α → Nat) (p : α × Nat) : Nat := ((p.2 : Int) - (c p.1 : Int)).natAbs
def mx : List Nat → Nat
  | [] => 0
  | x :: t => max x (mx t)
theorem mx_mem : ∀ {l : List Nat}, l ≠ [] → mx l ∈ l
  | [x], _ => by simp [mx]
  | x :: y :: t, _ => by
    have ih := mx_mem (l := y :: t) (by simp)
    show max x (mx (y :: t)) ∈ _
    rcases Nat.le_total x (mx (y :: t)) with h | h
    · rw [Nat.max_eq_right h]
      exact List.mem_cons_of_mem _ ih
    · rw [Nat.max_eq_left h]
      exact List.mem_cons_self ..
theorem le_mx : ∀ {l : List Nat} {x : Nat}, x ∈ l → x ≤ mx l
  | y :: t, x, h => by
    show x ≤ max y (mx t)
    rcases List.mem_cons.mp h with rfl | h
    · omega
    · have := le_mx h
      omega
theorem mx_eq {l : List Nat} {m : Nat} (h : m ∈ l) (hle : ∀ x ∈ l, x ≤ m) : mx l = m := by
  have h1 := le_mx h
  have h2 := hle _ (mx_mem (List.ne_nil_of_mem h))
  omega
def worst (c : α → Nat) (num : Num α) : Nat := mx (num.map (far c))
def crowd (c : α → Nat) (num : Num α) (j : Nat) : Nat := (num.map (far c)).count j
/-- one more of a key is counted -/
def bump (c : α → Nat) (k : α) : α → Nat := fun x => if x = k then c x + 1 else c x
theorem far_bump_ne {c : α → Nat} {k : α} {p : α × Nat} (h : p.1 ≠ k) : far (bump c k) p = far c p := by
  unfold far bump
  rw [if_neg h]
theorem far_bump {c : α → Nat} {k : α} {n : Nat} : far (bump c k) (k, n) = ((n : Int) - (c k : Int) - 1).natAbs := by
  unfold far bump
  rw [if_pos rfl]
  show ((n : Int) - ((c k + 1 : Nat) : Int)).natAbs = _
  congr 1
  omega
theorem map_bump_no {c : α → Nat} {k : α} : ∀ {num : Num α}, k ∉ num.map (·.1) → num.map (far (bump c k)) = num.map (far c)
  | [], _ => rfl
  | p :: t, h => by
    simp only [List.map_cons, List.mem_cons, not_or] at h
    rw [List.map_cons, List.map_cons, far_bump_ne (fun e => h.1 e.symm), map_bump_no h.2]
theorem crowd_bump {c : α → Nat} {k : α} {n : Nat} {j : Nat} : ∀ {num : Num α}, (num.map (·.1)).Nodup → (k, n) ∈ num →
    crowd (bump c k) num j + (if far c (k, n) = j then 1 else 0) = crowd c num j + (if far (bump c k) (k, n) = j then 1 else 0)
  | [], _, h => by cases h
  | p :: t, hn, h => by
    simp only [List.map_cons, List.nodup_cons] at hn
    unfold crowd
    rw [List.map_cons, List.map_cons, List.count_cons, List.count_cons]
    rcases List.mem_cons.mp h with e | h
    · subst e
      rw [map_bump_no hn.1]
      simp only [beq_iff_eq]
      omega
    · have ne : p.1 ≠ k := fun e => hn.1 (e ▸ List.mem_map.mpr ⟨_, h, rfl⟩)
      have ih := crowd_bump (c := c) (j := j) hn.2 h
      unfold crowd at ih
      rw [far_bump_ne ne]
      omega
theorem mem_far {c : α → Nat} {num : Num α} {p : α × Nat} (h : p ∈ num) : far c p ∈ num.map (far c) := List.mem_map.mpr ⟨p, h, rfl⟩
theorem uniq_key {k : α} {n : Nat} : ∀ {num : Num α} {p : α × Nat}, (num.map (·.1)).Nodup → p ∈ num → (k, n) ∈ num → p.1 = k → p = (k, n)
  | q :: t, p, hn, hp, h, e => by
    simp only [List.map_cons, List.nodup_cons] at hn
    rcases List.mem_cons.mp hp with e1 | e1 <;> rcases List.mem_cons.mp h with e2 | e2
    · rw [e1, e2]
    · refine absurd (List.mem_map.mpr ⟨_, e2, rfl⟩) (?_ : (k, n).1 ∉ t.map (·.1))
      rw [← e, e1]
      exact hn.1
    · refine absurd (List.mem_map.mpr ⟨_, e1, rfl⟩) (?_ : p.1 ∉ t.map (·.1))
      rw [e, show k = (k, n).1 from rfl, e2]
      exact hn.1
    · exact uniq_key hn.2 e1 e2 e
theorem worst_bump {c : α → Nat} {k : α} {n : Nat} {num : Num α} (hn : (num.map (·.1)).Nodup) (h : (k, n) ∈ num) :
    worst (bump c k) num = if worst c num < far (bump c k) (k, n) then far (bump c k) (k, n) else if crowd (bump c k) num (worst c num) = 0 then far (bump c k) (k, n) else worst c num := by
  have uniq : ∀ p ∈ num, p.1 = k → p = (k, n) := by
    intro p hp e
    exact uniq_key hn hp h e
  have old : ∀ p ∈ num, far c p ≤ worst c num := fun p hp => le_mx (mem_far hp)
  have new : ∀ x ∈ num.map (far (bump c k)), x ≤ worst c num ∨ x = far (bump c k) (k, n) := by
    intro x hx
    obtain ⟨p, hp, rfl⟩ := List.mem_map.mp hx
    by_cases e : p.1 = k
    · rw [uniq p hp e]
      exact .inr rfl
    · rw [far_bump_ne e]
      exact .inl (old p hp)
  have hin : far (bump c k) (k, n) ∈ num.map (far (bump c k)) := mem_far h
  split
  · rename_i hlt
    refine mx_eq hin fun x hx => ?_
    rcases new x hx with e | e <;> omega
  · rename_i hge
    split
    · rename_i hz
      -- nobody is so far away any more
      have none_at : worst c num ∉ num.map (far (bump c k)) := by
        intro z
        have := List.count_pos_iff.mpr z
        unfold crowd at hz
        omega
      have hw : worst c num ∈ num.map (far c) := mx_mem (by
        intro z
        have := mem_far (c := c) h
        rw [z] at this
        cases this)
      obtain ⟨p, hp, ep⟩ := List.mem_map.mp hw
      have ek : p.1 = k := by
        refine Decidable.byContradiction fun ne => none_at ?_
        rw [← ep, ← far_bump_ne ne]
        exact mem_far hp
      have e2 := uniq p hp ek
      subst e2
      have hd : far (bump c k) (k, n) + 1 = far c (k, n) ∨ far (bump c k) (k, n) = far c (k, n) + 1 := by
        rw [far_bump]
        unfold far
        show ((n : Int) - (c k : Int) - 1).natAbs + 1 = ((n : Int) - (c k : Int)).natAbs ∨ ((n : Int) - (c k : Int) - 1).natAbs = ((n : Int) - (c k : Int)).natAbs + 1
        omega
      refine mx_eq hin fun x hx => ?_
      rcases new x hx with e | e
      · have : x ≠ worst c num := fun z => none_at (z ▸ hx)
        omega
      · omega
    · rename_i hz
      have hm : worst c num ∈ num.map (far (bump c k)) := by
        refine List.count_pos_iff.mp ?_
        unfold crowd at hz
        omega
      refine mx_eq hm fun x hx => ?_
      rcases new x hx with e | e <;> omega
/-- how often a key stands among the first m -/
def cnt (o : List α) (m : Nat) : α → Nat := fun k => (o.take m).count k
theorem cnt_succ {o : List α} {m : Nat} {k : α} (h : o[m]? = some k) : cnt o (m + 1) = bump (cnt o m) k := by
  funext x
  unfold cnt bump
  rw [List.take_add_one, h, List.count_append]
  by_cases e : x = k
  · subst e
    simp
  · simp [e, List.count_cons, Ne.symm e]
def gap (o : List α) (num : Num α) (m : Nat) : Nat := worst (cnt o m) num
def gaps (o : List α) (num : Num α) : List Nat := (List.range (o.length + 1)).map (gap o num)
end M41
set_option Elab.async false
set_option maxRecDepth 100000
set_option maxHeartbeats 4000000
namespace K41
open PySem L2
def top (i : Nat) : Stmt := PySem.Challenge.pw_slackcache_k41_whole_spreads_of_cuts.main.body.getD i (.Pass ⟨0, 0, 0, 0⟩)
abbrev sSource : Stmt := top 21
abbrev sDraw : Stmt := top 22
def M : Int := 2147483647
/-- what a source may hold -/
def SrcOk (x y : Int) : Prop := 0 ≤ x ∧ 0 ≤ y ∧ y < 2147483647
structure TxtC (mg : Str → Option Value) : Prop where
  len : mg "len" = none
  max : mg "max" = none
def spSource (K : PySem.W.Frag) : Sp := fun vs H Q _ => ∃ (a : Addr) (ns : List Int) (j : Nat), vs = [.ref a, .int (j : Int)] ∧ SqL K H a (ns.map V.int) ∧ j ≤ 1000 ∧
  ∀ p x y, H p = none → SrcOk x y → Q (.ref p) (upd H p (.lst [.int x, .int y]))
def spDraw : Sp := fun vs H Q _ => ∃ (p : Addr) (x y n : Int), vs = [.ref p, .int n] ∧ H p = some (.lst [.int x, .int y]) ∧ SrcOk x y ∧ 0 < n ∧ n < 2 ^ 100 ∧
  ∀ x' y' d, SrcOk x' y' → 0 ≤ d → d < n → Q (.int d) (upd H p (.lst [.int x', .int y']))
section
variable {P : Program} {w : World} {K : PySem.W.Frag} {mg : Str → Option Value} {base : Heap}
theorem scS : FnScope ["_law_script", "_law_turn", "_law_cell", "_law_number", "_law_seed"] ["_law_script", "_law_turn"] (defScope sSource) := ⟨rfl, rfl, rfl, by decide +kernel, rfl, by decide +kernel, by decide +kernel⟩
theorem scD : FnScope ["_law_source_here", "_law_amount", "_law_digit"] ["_law_source_here", "_law_amount"] (defScope sDraw) := ⟨rfl, rfl, rfl, by decide +kernel, rfl, by decide +kernel, by decide +kernel⟩
local macro_rules | `(tactic| walk_at "rd") => `(tactic| simp only [tSeq, tAsg, tOp, tC, tVar, tCB, tCons, tNil, tUn, tIfS, tTest, tNext, tRet, tLst, gName, gSub, rI0, rI, rU, L2.start, List.map_cons, List.map_nil, List.length_cons, List.length_nil, Nat.reduceAdd, Nat.reduceSub, List.replicate_succ, List.replicate_zero, List.cons_append, List.nil_append, List.set_cons_zero, List.set_cons_succ, List.getElem?_cons_zero, List.getElem?_cons_succ, Option.some.injEq, exists_eq_left', exists_eq_left, V.int.injEq, V.bl.injEq, V.ref.injEq, List.cons.injEq, and_true, true_and, and_assoc, exists_and_left, exists_eq', exists_const, decide_eq_true_eq, Cx.nox, Cx.wish])
set_option linter.all false
theorem ok_source {f : Addr} {fd : FuncData} (F : Fun K "_law_source" "_law_source" sSource f fd) (T : TxtC mg) : FnOk P w K mg base CX0 1 f fd ["_law_script", "_law_turn"] (spSource K) := by
  refine F.ok scS (fun vs H Q E h => ?_) (fun cdv A outer s H vs Q E hr h => ?_)
  · obtain ⟨a, ns, j, rfl, _⟩ := h
    rfl
  · obtain ⟨a, ns, j, rfl, hS, hj, k⟩ := h
    have hu := hu_of hr
    refine ⟨_, pss_cons (ps_set (i := 2) scS.nd rfl (Or.inl rfl) pe_int)
      (pss_cons (ps_if (pt_cmpR op_lt (pv 1) (pe_callB call_len_seq (by rfl) T.len PySem.boot_len (pa_cons (pv 0) pa_nil)) (nomark _))
         (pss_one (ps_set (i := 2) scS.nd rfl (Or.inl rfl) (pe_ix ix_list (pv 0) (pv 1) (fun _ _ => rfl)))) pss_nil)
      (pss_cons (ps_set (i := 3) scS.nd rfl (Or.inl rfl) (pe_callB (call_max2 rfl) (by rfl) T.max PyProof.Rows.boot_max (pa_cons (pv 2) (pa_cons (pe_op op_sub (pe_un un_neg pe_int) (pv 2)) pa_nil))))
      (pss_cons (ps_set (i := 4) scS.nd rfl (Or.inl rfl) (pe_op op_mod (pe_op op_add (pe_op op_add (pe_op op_mul (pe_op op_mod (pv 3) pe_int) pe_int) (pe_op op_mul pe_int (pv 1))) pe_int) pe_int))
      (pss_cons (ps_if (pt_cmpR op_lt (pv 3) (pe_op op_pow pe_int pe_int) (nomark _)) (pss_one (ps_set (i := 3) scS.nd rfl (Or.inl rfl) pe_int)) pss_nil)
      (pss_one (ps_ret (pe_lst (pa_cons (pv 3) (pa_cons (pv 4) pa_nil))))))))), ?_⟩
    walk_at "rd"
    have fin : ∀ (c : Int) (H1 : Hp), H1 = H →
        0 < (2147483629 : Int) ∧ CMul ((if -1 - c > c then -1 - c else c) % 2147483629) 16807 ∧ CMul 104729 (j : Int) ∧ (0 : Int) < 2147483647 ∧ CPow 10 18 ∧
        if (if -1 - c > c then -1 - c else c) < 10 ^ Int.toNat 18 then
          2 ≤ sizeLine ∧ ∀ p, H1 p = none → Q (V.ref p) (upd H1 p (HO.lst [V.int 0, V.int (((if -1 - c > c then -1 - c else c) % 2147483629 * 16807 + 104729 * (j : Int) + 11) % 2147483647)]))
        else 2 ≤ sizeLine ∧ ∀ p, H1 p = none → Q (V.ref p) (upd H1 p (HO.lst [V.int (if -1 - c > c then -1 - c else c), V.int (((if -1 - c > c then -1 - c else c) % 2147483629 * 16807 + 104729 * (j : Int) + 11) % 2147483647)])) := by
      rintro c H1 rfl
      have hm : 0 ≤ (if -1 - c > c then -1 - c else c) := by split <;> omega
      generalize (if -1 - c > c then -1 - c else c) = m at hm
      refine ⟨by decide, Or.inr ⟨by decide, by decide⟩, Or.inl ⟨by decide, by decide⟩, by decide, ⟨by decide, by decide, by decide⟩, ?_⟩
      have hs0 := Int.emod_nonneg (m % 2147483629 * 16807 + 104729 * (j : Int) + 11) (show (2147483647 : Int) ≠ 0 by decide)
      have hs1 := Int.emod_lt_of_pos (m % 2147483629 * 16807 + 104729 * (j : Int) + 11) (show (0 : Int) < 2147483647 by decide)
      split
      · exact ⟨by decide, fun p hp => k p _ _ hp ⟨by decide, hs0, hs1⟩⟩
      · exact ⟨by decide, fun p hp => k p _ _ hp ⟨hm, hs0, hs1⟩⟩
    refine ⟨_, .inl hS, ?_⟩
    split
    · rename_i hlt
      have hlt' : j < (ns.map V.int).length := by omega
      refine ⟨a, _, _, _, rfl, rfl, hS, atI_nat (List.getElem?_eq_getElem hlt'), ?_⟩
      have e : (ns.map V.int)[j] = V.int (ns[j]'(by simpa using hlt')) := by simp
      rw [e]
      walk_at "rd"
      exact fin _ _ rfl
    · exact fin 0 _ rfl
theorem ok_draw {f : Addr} {fd : FuncData} (F : Fun K "_law_draw" "_law_draw" sDraw f fd) : FnOk P w K mg base CX0 1 f fd ["_law_source_here", "_law_amount"] spDraw := by
  refine F.ok scD (fun vs H Q E h => ?_) (fun cdv A outer s H vs Q E hr h => ?_)
  · obtain ⟨p, x, y, n, rfl, _⟩ := h
    rfl
  · obtain ⟨p, x, y, n, rfl, hL, ⟨hx, hy, hy2⟩, hn, hn2, k⟩ := h
    have hu := hu_of hr
    refine ⟨_, pss_cons (ps_if (pt_cmpR op_gt (pe_ix ix_list (pv 0) pe_int (fun _ _ => rfl)) pe_int (nomark _))
        (pss_cons (ps_set (i := 2) scD.nd rfl (Or.inl rfl) (pe_op op_mod (pe_ix ix_list (pv 0) pe_int (fun _ _ => rfl)) (pv 1)))
        (pss_cons (ps_asg (pe_op op_fdivW (pe_ix ix_list (pv 0) pe_int (fun _ _ => rfl)) (pv 1)) (pg_sub (pv 0) pe_int set_list))
        (pss_one (ps_ret (pv 2))))) pss_nil)
      (pss_cons (ps_asg (pe_op op_mod (pe_op op_add (pe_op op_mul (pe_ix ix_list (pv 0) pe_int (fun _ _ => rfl)) pe_int) pe_int) pe_int) (pg_sub (pv 0) pe_int set_list))
      (pss_one (ps_ret (pe_op op_mod (pe_op op_fdivW (pe_op op_mod (pe_op op_mul (pe_ix ix_list (pv 0) pe_int (fun _ _ => rfl)) (pe_ix ix_list (pv 0) pe_int (fun _ _ => rfl))) pe_int) pe_int) (pv 1))))), ?_⟩
    have hS : SqL K H p [.int x, .int y] := SqL.of hL
    have r0 : ∀ (H' : Hp) (x y : Int) (Q' : V → Hp → Prop), H' p = some (.lst [.int x, .int y]) → Q' (.int x) H' → rIxL K (V.ref p) (V.int 0) H' Q' := fun H' x y Q' h q =>
      ⟨p, _, _, _, rfl, rfl, SqL.of h, atI_nat (j := 0) rfl, q⟩
    have r1 : ∀ (H' : Hp) (x y : Int) (Q' : V → Hp → Prop), H' p = some (.lst [.int x, .int y]) → Q' (.int y) H' → rIxL K (V.ref p) (V.int 1) H' Q' := fun H' x y Q' h q =>
      ⟨p, _, _, _, rfl, rfl, SqL.of h, atI_nat (j := 1) rfl, q⟩
    have w0 : ∀ (H' : Hp) (x y : Int) (v : V) (Q' : Hp → Prop), H' p = some (.lst [.int x, .int y]) → Q' (upd H' p (.lst [v, .int y])) → rSetL (V.ref p) (V.int 0) v H' Q' := fun H' x y v Q' h q =>
      ⟨p, _, _, _, rfl, rfl, h, rfl, q⟩
    have w1 : ∀ (H' : Hp) (x y : Int) (v : V) (Q' : Hp → Prop), H' p = some (.lst [.int x, .int y]) → Q' (upd H' p (.lst [.int x, v])) → rSetL (V.ref p) (V.int 1) v H' Q' := fun H' x y v Q' h q =>
      ⟨p, _, _, _, rfl, rfl, h, rfl, q⟩
    have hb : n.natAbs < 2 ^ 100 := by omega
    walk_at "rd"
    refine r0 _ _ _ _ hL ?_
    walk_at "rd"
    split
    · rename_i hpos
      refine r0 _ _ _ _ hL ?_
      walk_at "rd"
      refine ⟨hn, r0 _ _ _ _ hL ?_⟩
      walk_at "rd"
      refine ⟨wide_div hn hb (by decide) (by decide), w0 _ _ _ _ _ hL ?_⟩
      exact k _ _ _ ⟨Int.ediv_nonneg hx (by omega), hy, hy2⟩ (Int.emod_nonneg _ (by omega)) (Int.emod_lt_of_pos _ hn)
    · refine r1 _ _ _ _ hL ?_
      walk_at "rd"
      refine ⟨Or.inr ⟨by decide, by decide⟩, by decide, w1 _ _ _ _ _ hL ?_⟩
      have hs0 := Int.emod_nonneg (y * 48271 + 11) (show (2147483647 : Int) ≠ 0 by decide)
      have hs1 := Int.emod_lt_of_pos (y * 48271 + 11) (show (0 : Int) < 2147483647 by decide)
      generalize (y * 48271 + 11) % 2147483647 = z at hs0 hs1
      refine r1 _ x z _ upd_same (r1 _ x z _ upd_same ?_)
      walk_at "rd"
      refine ⟨Or.inr ⟨by omega, by omega⟩, by decide, ⟨by decide, by decide⟩, hn, ?_⟩
      exact k _ _ _ ⟨hx, hs0, hs1⟩ (Int.emod_nonneg _ (by omega)) (Int.emod_lt_of_pos _ hn)
end
end K41
set_option Elab.async false
set_option linter.all false
set_option maxRecDepth 100000
set_option maxHeartbeats 4000000
namespace K41
open PySem L2 EX PyProof.Rows M41
structure Bn (mg : Str → Option Value) : Prop where
  range : mg "range" = none
  max : mg "max" = none
  min : mg "min" = none
  len : mg "len" = none
  abs : mg "abs" = none
  all : mg "all" = none
  isi : mg "isinstance" = none
  tuple : mg "tuple" = none
  list : mg "list" = none
  dict : mg "dict" = none
  int : mg "int" = none
  bool : mg "bool" = none
  str : mg "str" = none
  sorted : mg "sorted" = none
  enumerate : mg "enumerate" = none
  property : mg "property" = none
  lw : ∃ t, mg "LONGEST_WORD" = some (.int 8 t)
  lo : ∃ t, mg "LONGEST_ORDER" = some (.int 5000 t)
/-- is_integer_within(n, low, high) of ints -/
def spWithin : Sp := fun vs H Q _ => ∃ n lo hi : Int, vs = [.int n, .int lo, .int hi] ∧ Q (.bl (decide (lo ≤ n) && decide (n ≤ hi))) H
def isW (s : Str) : Bool := !decide (8 < (s.length : Int)) && (Txt.isascii s && (Txt.isalpha s && Txt.islower s))
def spWord : Sp := fun vs H Q _ => ∃ s : Str, vs = [.str s] ∧ s.length ≤ sizeLine ∧ Q (.bl (isW s)) H
abbrev sWin : Stmt := top 8
theorem scWin : FnScope ["obj", "low", "high"] ["obj", "low", "high"] (defScope sWin) := ⟨rfl, rfl, rfl, by decide +kernel, rfl, by decide +kernel, by decide +kernel⟩
section
variable {P : Program} {w : World} {K : PySem.W.Frag} {mg : Str → Option Value} {base : Heap}
theorem ok_within {f : Addr} {fd : FuncData} (F : Fun K "is_integer_within" "is_integer_within" sWin f fd) (B : Bn mg) : FnOk P w K mg base CX0 1 f fd ["obj", "low", "high"] spWithin := by
  refine F.ok scWin (fun vs H Q E h => ?_) (fun cdv A outer s H vs Q E hr h => ?_)
  · obtain ⟨n, lo, hi, rfl, _⟩ := h
    rfl
  · obtain ⟨n, lo, hi, rfl, k⟩ := h
    refine ⟨_, (pss_one (ps_ret (pe_and (pe_callB call_isi (by rfl) B.isi PyProof.Rows.boot_isinstance (pa_cons (pv 0) (pa_cons (pe_bltn (v := .ty "int") (by rfl) B.int (by decide +kernel) rfl) pa_nil))) (pe_and (pe_not (pe_callB call_isi (by rfl) B.isi PyProof.Rows.boot_isinstance (pa_cons (pv 0) (pa_cons (pe_bltn (v := .ty "bool") (by rfl) B.bool (by decide +kernel) rfl) pa_nil)))) (pe_one (pe_chain op_le op_le (pv 1) (pv 0) (pv 2))))))), ?_⟩
    refine ⟨_, rfl, _, _, _, _, true, rfl, .ty _, .base (.int _), kit_ty (by decide +kernel), _, rfl, iteT ?_⟩
    refine ⟨_, rfl, _, _, _, _, false, rfl, .ty _, .base (.int _), kit_ty (by decide +kernel), _, rfl, _, rfl, iteT ?_⟩
    refine ⟨_, rfl, _, rfl, _, _, rfl, rfl, _, rfl, ite2 (fun h1 => ?_) (fun h1 => ?_)⟩
    · rw [h1, Bool.true_and] at k
      exact ⟨_, rfl, _, _, rfl, rfl, k⟩
    · rw [show decide (lo ≤ n) = false by simpa using h1, Bool.false_and] at k
      exact k
end
abbrev sWrd : Stmt := top 9
theorem scWrd : FnScope ["obj"] ["obj"] (defScope sWrd) := ⟨rfl, rfl, rfl, by decide +kernel, rfl, by decide +kernel, by decide +kernel⟩
section
variable {P : Program} {w : World} {K : PySem.W.Frag} {mg : Str → Option Value} {base : Heap}
theorem ok_word {f : Addr} {fd : FuncData} (F : Fun K "is_word" "is_word" sWrd f fd) (B : Bn mg) : FnOk P w K mg base CX0 1 f fd ["obj"] spWord := by
  refine F.ok scWrd (fun vs H Q E h => ?_) (fun cdv A outer s H vs Q E hr h => ?_)
  · obtain ⟨x, rfl, _⟩ := h
    rfl
  · obtain ⟨x, rfl, hz, k⟩ := h
    refine ⟨_, (pss_cons (ps_if (PW.pt (pw_or (pt_not (pt_val (pe_callB call_isi (by rfl) B.isi PyProof.Rows.boot_isinstance (pa_cons (pv 0) (pa_cons (pe_bltn (v := .ty "str") (by rfl) B.str (by decide +kernel) rfl) pa_nil))))) (pw_or1 (pt_cmpR op_gt (pe_callB call_len_str (by rfl) B.len PySem.boot_len (pa_cons (pv 0) pa_nil)) (pe_glob (v := .int _) (by rfl) B.lw.choose_spec ⟨_, rfl⟩) (nomark _))))) (pss_one (ps_ret pe_bl)) pss_nil)
        (pss_one (ps_ret (pe_and (pe_m0 PySem.F.slot_str_isascii PySem.F.type_str_isascii mt_isascii (pv 0)) (pe_and (pe_m0 PySem.F.slot_str_isalpha PySem.F.type_str_isalpha mt_isalpha (pv 0)) (pe_one (pe_m0 PySem.F.slot_str_islower PySem.F.type_str_islower mt_islower (pv 0)))))))), ?_⟩
    refine ⟨_, rfl, _, _, _, _, true, rfl, .ty _, .base (.str _), kit_ty (by decide +kernel), _, rfl, iteF ?_⟩
    refine ⟨_, rfl, x, rfl, hz, _, _, rfl, rfl, _, rfl, ite2 (fun h => ?_) (fun h => ?_)⟩
    · unfold isW at k
      rw [h, Bool.not_true, Bool.false_and] at k
      exact k
    · unfold isW at k
      rw [show decide (8 < (x.length : Int)) = false by simpa using h, Bool.not_false, Bool.true_and] at k
      refine ⟨_, rfl, ⟨_, rfl⟩, _, rfl, rfl, trivial, _, rfl, ite2 (fun h1 => ?_) (fun h1 => ?_)⟩
      · rw [h1, Bool.true_and] at k
        refine ⟨_, rfl, ⟨_, rfl⟩, _, rfl, rfl, trivial, _, rfl, ite2 (fun h2 => ?_) (fun h2 => ?_)⟩
        · rw [h2, Bool.true_and] at k
          exact ⟨_, rfl, ⟨_, rfl⟩, _, rfl, rfl, trivial, k⟩
        · rw [show Txt.isalpha x = false by simpa using h2, Bool.false_and] at k
          exact k
      · rw [show Txt.isascii x = false by simpa using h1, Bool.false_and] at k
        exact k
end
theorem isW_len {x : Str} (h : isW x = true) : x.length ≤ sizeLine := by
  unfold isW at h
  rw [Bool.and_eq_true] at h
  have h1 := h.1
  simp at h1
  rw [sizeLine_eq]
  omega
abbrev strV (o : List Str) : List V := o.map V.str
theorem strV_get {o : List Str} {i : Nat} {x : V} (h : (strV o)[i]? = some x) : ∃ s, x = .str s ∧ o[i]? = some s := by
  rw [List.getElem?_map] at h
  cases e : o[i]? with
  | none => rw [e] at h; cases h
  | some s => rw [e] at h; exact ⟨s, (Option.some.inj h).symm, rfl⟩
theorem tyx_lst {K : PySem.W.Frag} {H : Hp} {a : Addr} {xs : List V} (h : SqL K H a xs) : TyX K H (.ref a) (.type "list") := by
  rcases h with (h | ⟨o, h⟩) | ⟨o, its, n, h1, h2, _⟩
  · exact .base (.lst h)
  · exact .base (.frz h)
  · exact .kList h1 h2
theorem tyx_tup {K : PySem.W.Frag} {H : Hp} {a : Addr} {xs : List V} (h : SqT K H a xs) : TyX K H (.ref a) (.type "tuple") := by
  rcases h with (h | ⟨o, h⟩) | ⟨o, its, n, h1, h2, _⟩
  · exact .base (.tup h)
  · exact .fTuple h
  · exact .kTuple h1 h2
theorem sqt_s {K : PySem.W.Frag} {H H' : Hp} {a : Addr} {xs : List V} (s : Same H H') (h : SqT K H a xs) : SqT K H' a xs := sqt_same s h
/-- a list or a tuple -/
abbrev SqE (K : PySem.W.Frag) (H : Hp) (a : Addr) (xs : List V) : Prop := SqL K H a xs ∨ SqT K H a xs
theorem SqE.mono {K : PySem.W.Frag} {H H' : Hp} {a : Addr} {xs : List V} (s : Same H H') (h : SqE K H a xs) : SqE K H' a xs := h.elim (fun h => .inl (s.seq h)) fun h => .inr (sqt_same s h)
def spOrder (K : PySem.W.Frag) : Sp := fun vs H Q _ => ∃ (a : Addr) (o : List Str), vs = [.ref a] ∧ SqE K H a (strV o) ∧ (∀ s ∈ o, isW s = true) ∧ o.length ≤ 5000 ∧ ∀ H', Same H H' → Q (.bl true) H'
abbrev sOrd : Stmt := top 12
def sOrdN : List Str := ["obj", "item"]
theorem scOrd : FnScope ["obj", "item"] ["obj"] (defScope sOrd) := ⟨rfl, rfl, rfl, by decide +kernel, rfl, by decide +kernel, by decide +kernel⟩
section
variable {P : Program} {w : World} {K : PySem.W.Frag} {mg : Str → Option Value} {base : Heap}
theorem ok_order {f : Addr} {fd : FuncData} (F : Fun K "is_order" "is_order" sOrd f fd) (B : Bn mg) (GW : DefAt P w K mg base 1 "is_word" ["obj"] spWord) : FnOk P w K mg base CX0 2 f fd ["obj"] (spOrder K) := by
  refine F.ok scOrd (fun vs H Q E h => ?_) (fun cdv A outer s H vs Q E hr h => ?_)
  · obtain ⟨a, o, rfl, _⟩ := h
    rfl
  · obtain ⟨a, o, rfl, ho, hw, hl, k⟩ := h
    have hr1 : Room 1 _ := hr
    have hlv : (strV o).length = o.length := List.length_map _
    rcases ho with ho | ho
    · refine ⟨_, (pss_cons (ps_if (PW.pt (pw_or (pt_not (pt_val (pe_callB call_isiT (by rfl) B.isi PyProof.Rows.boot_isinstance (pa_cons (pv 0) (pa_cons (pe_tup (pa_cons (pe_bltn (v := .ty "list") (by rfl) B.list (by decide +kernel) rfl) (pa_cons (pe_bltn (v := .ty "tuple") (by rfl) B.tuple (by decide +kernel) rfl) pa_nil))) pa_nil))))) (pw_or1 (pt_cmpR op_gt (pe_callB call_len_seq (by rfl) B.len PySem.boot_len (pa_cons (pv 0) pa_nil)) (pe_glob (v := .int _) (by rfl) B.lo.choose_spec ⟨_, rfl⟩) (nomark _))))) (pss_one (ps_ret pe_bl)) pss_nil)
        (pss_one (ps_ret (pe_callB (cr_all rfl) (by rfl) B.all (by decide +kernel) (pa_cons (pe_lc (own := [("item", 1)]) (g := gName 1) (tt := tYes) (te := tCall spWord [] E0 (tCons (tVar 1) tNil)) rfl scOrd.nd (pi_list (pv 0)) (blkOk_by (N := sOrdN) (sc := defScope sOrd) (by decide +kernel)) (fun _ _ _ _ _ => pg_name (i := 1) scOrd.nd rfl (Or.inl rfl)) (fun _ _ _ _ _ => pts_nil) (fun _ _ _ _ _ => (pe_callD GW hr1 (pa_cons (pv 1) pa_nil)))) pa_nil))))), ?_⟩
      refine ⟨_, rfl, by show 2 ≤ sizeLine; decide, fun q hq => ?_⟩
      have s1 : Same H (upd H q (.tup [.ty "list", .ty "tuple"])) := Same.upd hq
      have l1 : upd H q (HO.tup [.ty "list", .ty "tuple"]) q = some (.tup [.ty "list", .ty "tuple"]) := upd_same
      generalize upd H q (HO.tup [.ty "list", .ty "tuple"]) = H1 at s1 l1 ⊢
      have ho1 := s1.seq ho
      refine ⟨_, q, _, _, _, true, rfl, l1, .cons (.ty _) (.cons (.ty _) .nil), tyx_lst ho1, kitAny_cons (b := true) (kit_ty (by decide +kernel)) (fun z => absurd z (by decide)) (fun _ => rfl), _, rfl, iteF ?_⟩
      refine ⟨_, rfl, a, _, rfl, .inl ho1, _, _, rfl, rfl, _, rfl, ?_⟩
      refine ite2 (fun z => absurd (of_decide_eq_true z) (by rw [hlv]; omega)) (fun _ => ?_)
      refine ⟨_, rfl, a, rfl, ⟨_, ho1⟩, fun D hD => ?_⟩
      refine lc_list (K := K) (a := a) (xs := strV o) (fun q H4 => Same H1 H4 ∧ H4 D = some (.lst ((List.replicate q true).map V.bl))) ⟨Same.upd hD, upd_same⟩ (fun q H4 _ z => z.1.seq ho1) ?_ ?_
      · rintro i x H4 hx ⟨S4, lD⟩
        obtain ⟨y, rfl, hy⟩ := strV_get hx
        have hyW := hw y (List.mem_of_getElem? hy)
        have hi : i < o.length := (List.getElem?_eq_some_iff.mp hy).1
        refine ⟨rfl, ?_⟩
        refine ⟨_, rfl, y, rfl, isW_len hyW, ?_⟩
        rw [hyW]
        refine ⟨_, lD, ?_, EX.Same.updN S4 hD, ?_⟩
        · rw [List.length_map, List.length_replicate, sizeLine_eq]
          omega
        · rw [upd_same, List.replicate_succ', List.map_append]
          rfl
      · rintro H4 ⟨S4, lD⟩
        refine ⟨D, _, rfl, SqL.of lD, ?_⟩
        have : (List.replicate (strV o).length true).all id = true := by simp
        rw [this]
        exact k _ (Same.trans s1 S4)
    · refine ⟨_, (pss_cons (ps_if (PW.pt (pw_or (pt_not (pt_val (pe_callB call_isiT (by rfl) B.isi PyProof.Rows.boot_isinstance (pa_cons (pv 0) (pa_cons (pe_tup (pa_cons (pe_bltn (v := .ty "list") (by rfl) B.list (by decide +kernel) rfl) (pa_cons (pe_bltn (v := .ty "tuple") (by rfl) B.tuple (by decide +kernel) rfl) pa_nil))) pa_nil))))) (pw_or1 (pt_cmpR op_gt (pe_callB call_len_seq (by rfl) B.len PySem.boot_len (pa_cons (pv 0) pa_nil)) (pe_glob (v := .int _) (by rfl) B.lo.choose_spec ⟨_, rfl⟩) (nomark _))))) (pss_one (ps_ret pe_bl)) pss_nil)
        (pss_one (ps_ret (pe_callB (cr_all rfl) (by rfl) B.all (by decide +kernel) (pa_cons (pe_lc (own := [("item", 1)]) (g := gName 1) (tt := tYes) (te := tCall spWord [] E0 (tCons (tVar 1) tNil)) rfl scOrd.nd (pi_tup (pv 0)) (blkOk_by (N := sOrdN) (sc := defScope sOrd) (by decide +kernel)) (fun _ _ _ _ _ => pg_name (i := 1) scOrd.nd rfl (Or.inl rfl)) (fun _ _ _ _ _ => pts_nil) (fun _ _ _ _ _ => (pe_callD GW hr1 (pa_cons (pv 1) pa_nil)))) pa_nil))))), ?_⟩
      refine ⟨_, rfl, by show 2 ≤ sizeLine; decide, fun q hq => ?_⟩
      have s1 : Same H (upd H q (.tup [.ty "list", .ty "tuple"])) := Same.upd hq
      have l1 : upd H q (HO.tup [.ty "list", .ty "tuple"]) q = some (.tup [.ty "list", .ty "tuple"]) := upd_same
      generalize upd H q (HO.tup [.ty "list", .ty "tuple"]) = H1 at s1 l1 ⊢
      have ho1 := sqt_same s1 ho
      refine ⟨_, q, _, _, _, true, rfl, l1, .cons (.ty _) (.cons (.ty _) .nil), tyx_tup ho1, kitAny_cons (b := false) (kit_ty (by decide +kernel)) (fun _ => kitAny_cons (b := true) (kit_ty (by decide +kernel)) (fun z => absurd z (by decide)) (fun _ => rfl)) (fun z => absurd z (by decide)), _, rfl, iteF ?_⟩
      refine ⟨_, rfl, a, _, rfl, .inr ho1, _, _, rfl, rfl, _, rfl, ?_⟩
      refine ite2 (fun z => absurd (of_decide_eq_true z) (by rw [hlv]; omega)) (fun _ => ?_)
      refine ⟨_, rfl, a, rfl, ⟨_, ho1⟩, fun D hD => ?_⟩
      refine lc_tup (K := K) (a := a) (xs := strV o) (fun q H4 => Same H1 H4 ∧ H4 D = some (.lst ((List.replicate q true).map V.bl))) ⟨Same.upd hD, upd_same⟩ (fun q H4 _ z => sqt_same z.1 ho1) ?_ ?_
      · rintro i x H4 hx ⟨S4, lD⟩
        obtain ⟨y, rfl, hy⟩ := strV_get hx
        have hyW := hw y (List.mem_of_getElem? hy)
        have hi : i < o.length := (List.getElem?_eq_some_iff.mp hy).1
        refine ⟨rfl, ?_⟩
        refine ⟨_, rfl, y, rfl, isW_len hyW, ?_⟩
        rw [hyW]
        refine ⟨_, lD, ?_, EX.Same.updN S4 hD, ?_⟩
        · rw [List.length_map, List.length_replicate, sizeLine_eq]
          omega
        · rw [upd_same, List.replicate_succ', List.map_append]
          rfl
      · rintro H4 ⟨S4, lD⟩
        refine ⟨D, _, rfl, SqL.of lD, ?_⟩
        have : (List.replicate (strV o).length true).all id = true := by simp
        rw [this]
        exact k _ (Same.trans s1 S4)
end
end K41
set_option Elab.async false
set_option linter.all false
set_option maxRecDepth 100000
set_option maxHeartbeats 4000000
namespace K41
open PySem L2 EX PyProof.Rows M41
abbrev numK (num : Num Str) : List (Key × V) := num.map fun p => (Sum.inr p.1, V.int (p.2 : Int))
theorem kV_s (s : Str) : kV (Sum.inr s) = V.str s := rfl
theorem numK_get {num : Num Str} {i : Nat} {k : Key} {v : V} (h : (numK num)[i]? = some (k, v)) : ∃ s n, k = Sum.inr s ∧ v = .int ((n : Nat) : Int) ∧ num[i]? = some (s, n) := by
  rw [List.getElem?_map] at h
  cases e : num[i]? with
  | none => rw [e] at h; cases h
  | some p =>
    rw [e] at h
    cases h
    exact ⟨_, _, rfl, rfl, rfl⟩
theorem numK_val {num : Num Str} {s : Str} {n : Nat} (hn : (num.map (·.1)).Nodup) (h : (s, n) ∈ num) : valV (numK num) (Sum.inr s) = some (.int (n : Int)) := by
  induction num with
  | nil => cases h
  | cons q t ih =>
    simp only [List.map_cons, List.nodup_cons] at hn
    unfold valV numK
    rw [List.map_cons, List.find?_cons]
    rcases List.mem_cons.mp h with e | e
    · subst e
      simp
    · have : q.1 ≠ s := fun z => hn.1 (z ▸ List.mem_map.mpr ⟨_, e, rfl⟩)
      have hd : decide ((Sum.inr q.1 : Key) = Sum.inr s) = false := decide_eq_false fun z => this (Sum.inr.inj z)
      simp only [hd]
      exact ih hn.2 e
theorem lock_same {H H1 : Hp} {d : Addr} {u : HO} {od : Obj} (h : H d = some u) (s : Same (upd H d (.frz od u)) H1) : Same H (upd H1 d u) := fun b o e => by
  by_cases hb : b = d
  · subst hb
    rw [upd_same, ← h, e]
  · rw [upd_ne hb]
    refine s b o ?_
    rw [upd_ne hb]
    exact e
/-- a good dict of numbers -/
structure NumOk (o : List Str) (num : Num Str) : Prop where
  nd : (num.map (·.1)).Nodup
  ne : num ≠ []
  wd : ∀ p ∈ num, isW p.1 = true
  le : ∀ p ∈ num, p.2 ≤ o.count p.1
  sz : num.length ≤ 1000
theorem NumOk.lt {o : List Str} {num : Num Str} (h : NumOk o num) : ∀ p ∈ num, p.2 ≤ o.length := fun p hp => Nat.le_trans (h.le p hp) List.count_le_length
def spNum (K : PySem.W.Frag) : Sp := fun vs H Q _ => ∃ (d a : Addr) (o : List Str) (num : Num Str), vs = [.ref d, .ref a] ∧ H d = some (.dK (numK num)) ∧ SqE K H a (strV o) ∧ NumOk o num ∧ o.length ≤ 5000 ∧ ∀ H', Same H H' → Q (.bl true) H'
abbrev sNum : Stmt := top 13
theorem scNum : FnScope ["obj", "order", "totals", "key"] ["obj", "order"] (defScope sNum) := ⟨rfl, rfl, rfl, by decide +kernel, rfl, by decide +kernel, by decide +kernel⟩
section
variable {P : Program} {w : World} {K : PySem.W.Frag} {mg : Str → Option Value} {base : Heap}
theorem ok_nums {f : Addr} {fd : FuncData} (F : Fun K "are_numbers" "are_numbers" sNum f fd) (B : Bn mg) (GW : DefAt P w K mg base 1 "is_word" ["obj"] spWord) (GI : DefAt P w K mg base 1 "is_integer_within" ["obj", "low", "high"] spWithin) :
    FnOk P w K mg base CX0 2 f fd ["obj", "order"] (spNum K) := by
  refine F.ok scNum (fun vs H Q E h => ?_) (fun cdv A outer s H vs Q E hr h => ?_)
  · obtain ⟨d, a, o, num, rfl, _⟩ := h
    rfl
  · obtain ⟨d, a, o, num, rfl, hd, ho, NO, hl, k⟩ := h
    have hr1 : Room 1 _ := hr
    have hu := hu_of hr
    have hlv : (strV o).length = o.length := List.length_map _
    rcases ho with ho | ho
    · refine ⟨_, (pss_cons (ps_if (PW.pt (pw_or (pt_not (pt_val (pe_callB call_isi (by rfl) B.isi PyProof.Rows.boot_isinstance (pa_cons (pv 0) (pa_cons (pe_bltn (v := .ty "dict") (by rfl) B.dict (by decide +kernel) rfl) pa_nil))))) (pw_or1 (pt_not (pt_truth (pv 0) (by intro _; rfl)))))) (pss_one (ps_ret pe_bl)) pss_nil)
        (pss_cons (ps_set (i := 2) scNum.nd rfl (Or.inl rfl) pe_dnewK)
        (pss_cons (ps_for PassesOwn.never rfl (pi_list (pv 1)) (pg_name (i := 3) scNum.nd rfl (Or.inl rfl)) (pss_one (ps_dput hu (pv 2) (pv 3) (pe_op op_add (pe_dget2 hu (pv 2) (pv 3) pe_int ⟨rfl, rfl, rfl, rfl⟩) pe_int) rfl)))
        (pss_cons (ps_lock (ps_for PassesOwn.never rfl (pi_keys (pv 0)) (pg_name (i := 3) scNum.nd rfl (Or.inl rfl)) (pss_one (ps_if (PW.pt (pw_or (pt_not (pt_val (pe_callD GW hr1 (pa_cons (pv 3) pa_nil)))) (pw_or1 (pt_not (pt_val (pe_callD GI hr1 (pa_cons (pe_dget hu (pv 0) (pv 3) (fun _ _ => rfl)) (pa_cons pe_int (pa_cons (pe_dget2 hu (pv 2) (pv 3) pe_int ⟨rfl, rfl, rfl, rfl⟩) pa_nil))))))))) (pss_one (ps_ret pe_bl)) pss_nil))))
        (pss_one (ps_ret pe_bl)))))), ?_⟩
      refine ⟨_, rfl, _, _, _, _, true, rfl, .ty _, .base (.dK hd), kit_ty (by decide +kernel), _, rfl, iteF ?_⟩
      refine ⟨_, rfl, true, .inr (.inr ⟨_, hd, ?_⟩), iteF ?_⟩
      · cases hnum : num with
        | nil => exact absurd hnum NO.ne
        | cons p t => rfl
      refine fun p hp => ?_
      have hdp : p ≠ d := fun z => by rw [z, hd] at hp; cases hp
      have S1 : Same H (upd H p (.dK [])) := Same.upd hp
      have l1 : upd H p (HO.dK []) p = some (.dK []) := upd_same
      generalize upd H p (HO.dK []) = H1 at S1 l1 ⊢
      refine ⟨_, rfl, a, rfl, ⟨_, S1.seq ho⟩, ?_⟩
      refine for_list (K := K) (a := a) (xs := strV o) (fun i σ H' => ∃ v3 kvs, σ = [some (.ref d), some (.ref a), some (.ref p), v3] ∧ Same H H' ∧ H' p = some (.dK kvs) ∧ kvs.length ≤ i ∧ ∀ k : Str, ((valV kvs (Sum.inr k)).getD (.int 0)) = .int ((cnt o i k : Nat) : Int))
        ⟨_, [], rfl, S1, l1, Nat.le_refl _, fun k => by simp [valV, M41.cnt]⟩ ?_ ?_ ?_
      · rintro i σ H' _ ⟨v3, kvs, rfl, S, _⟩
        exact S.seq ho
      · rintro i x σ H' hx ⟨v3, kvs, rfl, S, lp, hlen, hc⟩
        obtain ⟨y, rfl, hy⟩ := strV_get hx
        have hi : i < o.length := (List.getElem?_eq_some_iff.mp hy).1
        refine ⟨_, rfl, p, rfl, .inl ⟨_, .inl lp⟩, _, rfl, _, DGet.k (k := Sum.inr y) lp, ?_⟩
        refine ⟨_, _, hc y, rfl, _, rfl, _, rfl, p, _, rfl, DPut.k (k := Sum.inr y) lp (by rw [sizeLine_eq]; omega), ?_⟩
        refine ⟨_, _, rfl, EX.Same.updN S hp, upd_same, Nat.le_trans (length_putK ..) (by omega), fun k' => ?_⟩
        rw [valV_put, cnt_succ hy]
        unfold M41.bump
        by_cases e : k' = y
        · subst e
          rw [if_pos rfl, if_pos rfl]
          rfl
        · rw [if_neg fun z => e (Sum.inr.inj z), if_neg e]
          exact hc k'
      · rintro σ H' ⟨v3, kvs, rfl, S, lp, hlen, hc⟩
        have hcl : ∀ k : Str, ((valV kvs (Sum.inr k)).getD (.int 0)) = .int ((o.count k : Nat) : Int) := fun k => by
          rw [hc k]
          unfold M41.cnt
          rw [hlv, List.take_length]
        refine ⟨d, .dK (numK num), S _ _ hd, trivial, fun od => ?_⟩
        have lp0 : upd H' d (.frz od (.dK (numK num))) p = some (.dK kvs) := by rw [upd_ne hdp]; exact lp
        have ld0 : upd H' d (.frz od (.dK (numK num))) d = some (.frz od (.dK (numK num))) := upd_same
        have hls : ∀ H2, Same (upd H' d (.frz od (.dK (numK num)))) H2 → Same H (upd H2 d (.dK (numK num))) := fun H2 s => Same.trans S (lock_same (S _ _ hd) s)
        generalize upd H' d (.frz od (.dK (numK num))) = H0 at lp0 ld0 hls ⊢
        refine ⟨_, rfl, d, od, rfl, .inl ⟨numK num, ld0, ?_⟩⟩
        refine for_it (walk_keys (d := d) (o := od) (kvs := numK num)) (fun i σ H2 => ∃ v3, σ = [some (.ref d), some (.ref a), some (.ref p), v3] ∧ Same H0 H2) ⟨_, rfl, Same.refl _⟩ ?_ ?_ ?_
        · rintro i σ H2 _ ⟨v3, rfl, S2⟩
          exact S2 _ _ ld0
        · rintro i x σ H2 _ hi ⟨v3, rfl, S2⟩ ⟨rfl, kk, vv, hg, rfl⟩
          obtain ⟨s, n, rfl, rfl, hn⟩ := numK_get hg
          have hmem := List.mem_of_getElem? hn
          have hw := NO.wd _ hmem
          have hle : n ≤ o.count s := NO.le _ hmem
          refine ⟨_, rfl, s, rfl, isW_len hw, ?_⟩
          rw [show isW s = true from hw]
          refine ⟨_, rfl, iteF ?_⟩
          refine ⟨_, rfl, _, rfl, d, .int (n : Int), rfl, .inl ⟨numK num, Sum.inr s, .inr ⟨od, S2 _ _ ld0⟩, rfl, (numK_val NO.nd hmem).symm⟩, _, rfl, p, rfl, .inl ⟨_, .inl (S2 _ _ lp0)⟩, _, rfl, _, DGet.k (k := Sum.inr s) (S2 _ _ lp0), ?_⟩
          rw [hcl s]
          refine ⟨_, _, _, rfl, ?_⟩
          have h1 : decide ((0 : Int) ≤ (n : Int)) = true := decide_eq_true (by omega)
          have h2 : decide ((n : Int) ≤ ((o.count s : Nat) : Int)) = true := decide_eq_true (by have := hle; omega)
          rw [h1, h2]
          exact ⟨_, rfl, iteF ⟨_, rfl, S2⟩⟩
        · rintro σ H2 ⟨v3, rfl, S2⟩
          exact ⟨S2 _ _ ld0, k _ (hls _ S2)⟩
    · refine ⟨_, (pss_cons (ps_if (PW.pt (pw_or (pt_not (pt_val (pe_callB call_isi (by rfl) B.isi PyProof.Rows.boot_isinstance (pa_cons (pv 0) (pa_cons (pe_bltn (v := .ty "dict") (by rfl) B.dict (by decide +kernel) rfl) pa_nil))))) (pw_or1 (pt_not (pt_truth (pv 0) (by intro _; rfl)))))) (pss_one (ps_ret pe_bl)) pss_nil)
        (pss_cons (ps_set (i := 2) scNum.nd rfl (Or.inl rfl) pe_dnewK)
        (pss_cons (ps_for PassesOwn.never rfl (pi_tup (pv 1)) (pg_name (i := 3) scNum.nd rfl (Or.inl rfl)) (pss_one (ps_dput hu (pv 2) (pv 3) (pe_op op_add (pe_dget2 hu (pv 2) (pv 3) pe_int ⟨rfl, rfl, rfl, rfl⟩) pe_int) rfl)))
        (pss_cons (ps_lock (ps_for PassesOwn.never rfl (pi_keys (pv 0)) (pg_name (i := 3) scNum.nd rfl (Or.inl rfl)) (pss_one (ps_if (PW.pt (pw_or (pt_not (pt_val (pe_callD GW hr1 (pa_cons (pv 3) pa_nil)))) (pw_or1 (pt_not (pt_val (pe_callD GI hr1 (pa_cons (pe_dget hu (pv 0) (pv 3) (fun _ _ => rfl)) (pa_cons pe_int (pa_cons (pe_dget2 hu (pv 2) (pv 3) pe_int ⟨rfl, rfl, rfl, rfl⟩) pa_nil))))))))) (pss_one (ps_ret pe_bl)) pss_nil))))
        (pss_one (ps_ret pe_bl)))))), ?_⟩
      refine ⟨_, rfl, _, _, _, _, true, rfl, .ty _, .base (.dK hd), kit_ty (by decide +kernel), _, rfl, iteF ?_⟩
      refine ⟨_, rfl, true, .inr (.inr ⟨_, hd, ?_⟩), iteF ?_⟩
      · cases hnum : num with
        | nil => exact absurd hnum NO.ne
        | cons p t => rfl
      refine fun p hp => ?_
      have hdp : p ≠ d := fun z => by rw [z, hd] at hp; cases hp
      have S1 : Same H (upd H p (.dK [])) := Same.upd hp
      have l1 : upd H p (HO.dK []) p = some (.dK []) := upd_same
      generalize upd H p (HO.dK []) = H1 at S1 l1 ⊢
      refine ⟨_, rfl, a, rfl, ⟨_, sqt_same S1 ho⟩, ?_⟩
      refine for_tup (K := K) (a := a) (xs := strV o) (fun i σ H' => ∃ v3 kvs, σ = [some (.ref d), some (.ref a), some (.ref p), v3] ∧ Same H H' ∧ H' p = some (.dK kvs) ∧ kvs.length ≤ i ∧ ∀ k : Str, ((valV kvs (Sum.inr k)).getD (.int 0)) = .int ((cnt o i k : Nat) : Int))
        ⟨_, [], rfl, S1, l1, Nat.le_refl _, fun k => by simp [valV, M41.cnt]⟩ ?_ ?_ ?_
      · rintro i σ H' _ ⟨v3, kvs, rfl, S, _⟩
        exact sqt_same S ho
      · rintro i x σ H' hx ⟨v3, kvs, rfl, S, lp, hlen, hc⟩
        obtain ⟨y, rfl, hy⟩ := strV_get hx
        have hi : i < o.length := (List.getElem?_eq_some_iff.mp hy).1
        refine ⟨_, rfl, p, rfl, .inl ⟨_, .inl lp⟩, _, rfl, _, DGet.k (k := Sum.inr y) lp, ?_⟩
        refine ⟨_, _, hc y, rfl, _, rfl, _, rfl, p, _, rfl, DPut.k (k := Sum.inr y) lp (by rw [sizeLine_eq]; omega), ?_⟩
        refine ⟨_, _, rfl, EX.Same.updN S hp, upd_same, Nat.le_trans (length_putK ..) (by omega), fun k' => ?_⟩
        rw [valV_put, cnt_succ hy]
        unfold M41.bump
        by_cases e : k' = y
        · subst e
          rw [if_pos rfl, if_pos rfl]
          rfl
        · rw [if_neg fun z => e (Sum.inr.inj z), if_neg e]
          exact hc k'
      · rintro σ H' ⟨v3, kvs, rfl, S, lp, hlen, hc⟩
        have hcl : ∀ k : Str, ((valV kvs (Sum.inr k)).getD (.int 0)) = .int ((o.count k : Nat) : Int) := fun k => by
          rw [hc k]
          unfold M41.cnt
          rw [hlv, List.take_length]
        refine ⟨d, .dK (numK num), S _ _ hd, trivial, fun od => ?_⟩
        have lp0 : upd H' d (.frz od (.dK (numK num))) p = some (.dK kvs) := by rw [upd_ne hdp]; exact lp
        have ld0 : upd H' d (.frz od (.dK (numK num))) d = some (.frz od (.dK (numK num))) := upd_same
        have hls : ∀ H2, Same (upd H' d (.frz od (.dK (numK num)))) H2 → Same H (upd H2 d (.dK (numK num))) := fun H2 s => Same.trans S (lock_same (S _ _ hd) s)
        generalize upd H' d (.frz od (.dK (numK num))) = H0 at lp0 ld0 hls ⊢
        refine ⟨_, rfl, d, od, rfl, .inl ⟨numK num, ld0, ?_⟩⟩
        refine for_it (walk_keys (d := d) (o := od) (kvs := numK num)) (fun i σ H2 => ∃ v3, σ = [some (.ref d), some (.ref a), some (.ref p), v3] ∧ Same H0 H2) ⟨_, rfl, Same.refl _⟩ ?_ ?_ ?_
        · rintro i σ H2 _ ⟨v3, rfl, S2⟩
          exact S2 _ _ ld0
        · rintro i x σ H2 _ hi ⟨v3, rfl, S2⟩ ⟨rfl, kk, vv, hg, rfl⟩
          obtain ⟨s, n, rfl, rfl, hn⟩ := numK_get hg
          have hmem := List.mem_of_getElem? hn
          have hw := NO.wd _ hmem
          have hle : n ≤ o.count s := NO.le _ hmem
          refine ⟨_, rfl, s, rfl, isW_len hw, ?_⟩
          rw [show isW s = true from hw]
          refine ⟨_, rfl, iteF ?_⟩
          refine ⟨_, rfl, _, rfl, d, .int (n : Int), rfl, .inl ⟨numK num, Sum.inr s, .inr ⟨od, S2 _ _ ld0⟩, rfl, (numK_val NO.nd hmem).symm⟩, _, rfl, p, rfl, .inl ⟨_, .inl (S2 _ _ lp0)⟩, _, rfl, _, DGet.k (k := Sum.inr s) (S2 _ _ lp0), ?_⟩
          rw [hcl s]
          refine ⟨_, _, _, rfl, ?_⟩
          have h1 : decide ((0 : Int) ≤ (n : Int)) = true := decide_eq_true (by omega)
          have h2 : decide ((n : Int) ≤ ((o.count s : Nat) : Int)) = true := decide_eq_true (by have := hle; omega)
          rw [h1, h2]
          exact ⟨_, rfl, iteF ⟨_, rfl, S2⟩⟩
        · rintro σ H2 ⟨v3, rfl, S2⟩
          exact ⟨S2 _ _ ld0, k _ (hls _ S2)⟩
end
end K41
set_option Elab.async false
set_option linter.all false
set_option maxRecDepth 100000
set_option maxHeartbeats 4000000
namespace K41
open PySem L2 EX PyProof.Rows M41
abbrev natV (l : List Nat) : List V := l.map fun (n : Nat) => V.int (n : Int)
theorem natV_get {l : List Nat} {i n : Nat} (h : l[i]? = some n) : (natV l)[i]? = some (.int (n : Int)) := by
  rw [List.getElem?_map, h]
  rfl
/-- how far ahead each key's number is -/
def aheadK (c : Str → Nat) (num : Num Str) : List (Key × V) := num.map fun p => (Sum.inr p.1, V.int ((p.2 : Int) - (c p.1 : Int)))
theorem ahead0 (num : Num Str) : aheadK (fun _ => 0) num = numK num := by
  unfold aheadK
  refine List.map_congr_left fun p _ => ?_
  rw [show ((p.2 : Int) - ((0 : Nat) : Int)) = (p.2 : Int) by omega]
theorem ahead_get {c : Str → Nat} {num : Num Str} {s : Str} {n : Nat} (hn : (num.map (·.1)).Nodup) (h : (s, n) ∈ num) : valV (aheadK c num) (Sum.inr s) = some (.int ((n : Int) - (c s : Int))) := by
  induction num with
  | nil => cases h
  | cons q t ih =>
    simp only [List.map_cons, List.nodup_cons] at hn
    unfold valV aheadK
    rw [List.map_cons, List.find?_cons]
    rcases List.mem_cons.mp h with e | e
    · subst e
      simp
    · have : q.1 ≠ s := fun z => hn.1 (z ▸ List.mem_map.mpr ⟨_, e, rfl⟩)
      have hd : decide ((Sum.inr q.1 : Key) = Sum.inr s) = false := decide_eq_false fun z => this (Sum.inr.inj z)
      simp only [hd]
      exact ih hn.2 e
theorem ahead_none {c : Str → Nat} {num : Num Str} {s : Str} (h : s ∉ num.map (·.1)) : valV (aheadK c num) (Sum.inr s) = none := by
  unfold valV
  have : (aheadK c num).find? (fun kv => decide (kv.1 = Sum.inr s)) = none := by
    rw [List.find?_eq_none]
    intro kv hkv
    obtain ⟨p, hp, rfl⟩ := List.mem_map.mp hkv
    rw [decide_eq_true_eq]
    exact fun z => h (Sum.inr.inj z ▸ List.mem_map.mpr ⟨p, hp, rfl⟩)
  rw [this]
  rfl
theorem ahead_put {c : Str → Nat} {num : Num Str} {s : Str} {n : Nat} (hn : (num.map (·.1)).Nodup) (h : (s, n) ∈ num) : putK (aheadK c num) (Sum.inr s) (.int ((n : Int) - (c s : Int) - 1)) = aheadK (bump c s) num := by
  unfold putK
  have hany : ((aheadK c num).any fun kv => decide (kv.1 = Sum.inr s)) = true := by
    rw [List.any_eq_true]
    exact ⟨_, List.mem_map.mpr ⟨_, h, rfl⟩, decide_eq_true rfl⟩
  rw [if_pos hany]
  unfold aheadK
  rw [List.map_map]
  refine List.map_congr_left fun p hp => ?_
  show (if (Sum.inr p.1 : Key) = Sum.inr s then _ else _) = _
  unfold M41.bump
  by_cases e : p.1 = s
  · have := uniq_key hn hp h e
    subst this
    rw [if_pos rfl, if_pos rfl]
    congr 2
    show (n : Int) - (c s : Int) - 1 = (n : Int) - ((c s + 1 : Nat) : Int)
    omega
  · rw [if_neg fun z => e (Sum.inr.inj z), if_neg e]
theorem ahead_bump_no {c : Str → Nat} {num : Num Str} {s : Str} (h : s ∉ num.map (·.1)) : aheadK (bump c s) num = aheadK c num := by
  unfold aheadK
  refine List.map_congr_left fun p hp => ?_
  unfold M41.bump
  have ne : ¬ p.1 = s := fun z => h (z ▸ List.mem_map.mpr ⟨p, hp, rfl⟩)
  rw [if_neg ne]
theorem absI (i : Int) : (if i < 0 then -i else i) = ((i.natAbs : Nat) : Int) := by
  split <;> omega
/-- how many keys are so far away -/
def crowds (m : Nat) (c : Str → Nat) (num : Num Str) : List Nat := (List.range (m + 1)).map (crowd c num)
theorem crowds_get {m j : Nat} {c : Str → Nat} {num : Num Str} (h : j ≤ m) : (crowds m c num)[j]? = some (crowd c num j) := by
  unfold crowds
  rw [List.getElem?_map, List.getElem?_range (by omega)]
  rfl
theorem crowds_len (m : Nat) (c : Str → Nat) (num : Num Str) : (crowds m c num).length = m + 1 := by simp [crowds]
theorem crowds_ext {m : Nat} {c : Str → Nat} {num : Num Str} {l : List Nat} (hl : l.length = m + 1) (h : ∀ j, j ≤ m → l[j]? = some (crowd c num j)) : l = crowds m c num := by
  refine List.ext_getElem? fun j => ?_
  by_cases hj : j ≤ m
  · rw [h j hj, crowds_get hj]
  · rw [List.getElem?_eq_none (by omega), List.getElem?_eq_none (by rw [crowds_len]; omega)]
theorem crowds_no {m : Nat} {c : Str → Nat} {num : Num Str} {s : Str} (h : s ∉ num.map (·.1)) : crowds m (bump c s) num = crowds m c num := by
  unfold crowds
  refine List.map_congr_left fun j _ => ?_
  unfold crowd
  rw [map_bump_no h]
theorem crowds_put {m : Nat} {c : Str → Nat} {num : Num Str} {s : Str} {n : Nat} (hn : (num.map (·.1)).Nodup) (h : (s, n) ∈ num) (h1 : far c (s, n) ≤ m) (h2 : far (bump c s) (s, n) ≤ m) :
    ((crowds m c num).set (far c (s, n)) (crowd c num (far c (s, n)) - 1)).set (far (bump c s) (s, n)) (crowd c num (far (bump c s) (s, n)) + 1) = crowds m (bump c s) num := by
  have hd : far (bump c s) (s, n) ≠ far c (s, n) := by
    rw [far_bump]
    unfold far
    show ((n : Int) - (c s : Int) - 1).natAbs ≠ ((n : Int) - (c s : Int)).natAbs
    omega
  refine crowds_ext (by simp [crowds_len]) fun j hj => ?_
  have cb := crowd_bump (c := c) (j := j) hn h
  rw [List.getElem?_set, List.getElem?_set]
  by_cases e1 : far (bump c s) (s, n) = j
  · subst e1
    rw [if_pos rfl, if_pos (by simp [crowds_len]; omega)]
    rw [if_neg (Ne.symm hd), if_pos rfl] at cb
    congr 1
    omega
  · rw [if_neg e1]
    by_cases e2 : far c (s, n) = j
    · subst e2
      rw [if_pos rfl, if_pos (by rw [crowds_len]; omega)]
      rw [if_pos rfl, if_neg e1] at cb
      congr 1
      omega
    · rw [if_neg e2, crowds_get hj]
      rw [if_neg e2, if_neg e1] at cb
      congr 1
      omega
theorem cnt_zero (o : List Str) : cnt o 0 = fun _ => 0 := by
  funext k
  simp [M41.cnt]
theorem far0 (p : Str × Nat) : far (fun _ => 0) p = p.2 := by
  unfold far
  show ((p.2 : Int) - ((0 : Nat) : Int)).natAbs = p.2
  omega
theorem crowd_take {num : Num Str} {i : Nat} {s : Str} {n j : Nat} (h : num[i]? = some (s, n)) : crowd (fun _ => 0) (num.take (i + 1)) j = crowd (fun _ => 0) (num.take i) j + (if n = j then 1 else 0) := by
  unfold crowd
  rw [List.take_add_one, h, List.map_append, List.count_append]
  show _ + List.count j [far (fun _ => 0) (s, n)] = _
  rw [far0, List.count_cons, List.count_nil]
  simp
theorem cnt_le (o : List Str) (m : Nat) (k : Str) : cnt o m k ≤ o.length := by
  unfold M41.cnt
  exact Nat.le_trans List.count_le_length (by rw [List.length_take]; omega)
theorem natV_set (l : List Nat) (j n : Nat) : (natV l).set j (.int (n : Int)) = natV (l.set j n) := by
  unfold natV
  rw [List.map_set]
/-- distances(order, numbers) -/
def spDist (K : PySem.W.Frag) : Sp := fun vs H Q _ => ∃ (a d : Addr) (o : List Str) (num : Num Str), vs = [.ref a, .ref d] ∧ SqT K H a (strV o) ∧ H d = some (.dK (numK num)) ∧ NumOk o num ∧ o.length ≤ 5000 ∧
  ∀ p H', Same H H' → H p = none → H' p = some (.lst (natV (gaps o num))) → Q (.ref p) H'
abbrev sDst : Stmt := top 14
def sDstN : List Str := ["order", "numbers", "ahead", "crowds", "key", "worst", "found", "before", "now", "place"]
theorem scDst : FnScope ["order", "numbers", "ahead", "crowds", "key", "worst", "found", "before", "now", "place"] ["order", "numbers"] (defScope sDst) := ⟨rfl, rfl, rfl, by decide +kernel, rfl, by decide +kernel, by decide +kernel⟩
section
variable {P : Program} {w : World} {K : PySem.W.Frag} {mg : Str → Option Value} {base : Heap}
theorem ok_dist {f : Addr} {fd : FuncData} (F : Fun K "distances" "distances" sDst f fd) (B : Bn mg) : FnOk P w K mg base CX0 1 f fd ["order", "numbers"] (spDist K) := by
  refine F.ok scDst (fun vs H Q E h => ?_) (fun cdv A outer s H vs Q E hr h => ?_)
  · obtain ⟨a, d, o, num, rfl, _⟩ := h
    rfl
  · obtain ⟨a, d, o, num, rfl, ho, hd, NO, hl, k⟩ := h
    have hu := hu_of hr
    have hu64 : _ + 64 < cLine := hr.units
    have hlv : (strV o).length = o.length := List.length_map _
    refine ⟨_, (pss_cons (ps_set (i := 2) scDst.nd rfl (Or.inl rfl) (pe_callTy call_dictD (by rfl) B.dict (by decide +kernel) (pa_cons (pv 1) pa_nil)))
        (pss_cons (ps_setLc (i := 3) (own := [("place", 9)]) (g := (gName 9)) (tt := tYes) (te := (tC (.int 0))) rfl scDst.nd rfl rfl (sw_true rfl rfl rfl (by decide +kernel)) (pi_range1 (by rfl) B.range (pa_cons (pe_op op_add (pe_callB call_len_seq (by rfl) B.len PySem.boot_len (pa_cons (pv 0) pa_nil)) pe_int) pa_nil)) (blkOk_by (N := sDstN) (sc := defScope sDst) (by decide +kernel)) (fun _ _ _ _ _ => (pg_name (i := 9) scDst.nd rfl (Or.inl rfl))) (fun _ _ _ _ _ => pts_nil) (fun _ _ _ _ _ => pe_int))
        (pss_cons (ps_lock (ps_for PassesOwn.never rfl (pi_keys (pv 1)) (pg_name (i := 4) scDst.nd rfl (Or.inl rfl)) (pss_one (ps_asg (pe_op op_add (pe_ix ix_list (pv 3) (pe_dget hu (pv 1) (pv 4) (fun _ _ => rfl)) (fun _ _ => rfl)) pe_int) (pg_sub (pv 3) (pe_dget hu (pv 1) (pv 4) (fun _ _ => rfl)) set_list)))))
        (pss_cons (ps_set (i := 5) scDst.nd rfl (Or.inl rfl) (pe_callB (cr_max rfl) (by rfl) B.max PyProof.Rows.boot_max (pa_cons (pe_callTy (cr_listV rfl) (by rfl) B.list (by decide +kernel) (pa_cons (pe_bm0 PySem.F.plainAttrs_dict PySem.F.slot_dict_values PySem.F.type_dict_values mt_values (pv 1)) pa_nil)) pa_nil)))
        (pss_cons (ps_set (i := 6) scDst.nd rfl (Or.inl rfl) (pe_lst (pa_cons (pv 5) pa_nil)))
        (pss_cons (ps_for PassesOwn.never rfl (pi_tup (pv 0)) (pg_name (i := 4) scDst.nd rfl (Or.inl rfl)) (pss_cons (ps_if (pt_cmp (pc_din hu (pv 4) (pv 2))) (pss_cons (ps_set (i := 7) scDst.nd rfl (Or.inl rfl) (pe_callB call_abs (by rfl) B.abs (by decide +kernel) (pa_cons (pe_dget hu (pv 2) (pv 4) (fun _ _ => rfl)) pa_nil)))
        (pss_cons (ps_dput hu (pv 2) (pv 4) (pe_op op_sub (pe_dget hu (pv 2) (pv 4) (fun _ _ => rfl)) pe_int) rfl)
        (pss_cons (ps_set (i := 8) scDst.nd rfl (Or.inl rfl) (pe_callB call_abs (by rfl) B.abs (by decide +kernel) (pa_cons (pe_dget hu (pv 2) (pv 4) (fun _ _ => rfl)) pa_nil)))
        (pss_cons (ps_asg (pe_op op_sub (pe_ix ix_list (pv 3) (pv 7) (fun _ _ => rfl)) pe_int) (pg_sub (pv 3) (pv 7) set_list))
        (pss_cons (ps_asg (pe_op op_add (pe_ix ix_list (pv 3) (pv 8) (fun _ _ => rfl)) pe_int) (pg_sub (pv 3) (pv 8) set_list))
        (pss_one (ps_if (pt_cmpR op_gt (pv 8) (pv 5) (nomark _)) (pss_one (ps_set (i := 5) scDst.nd rfl (Or.inl rfl) (pv 8))) (pss_one (ps_if (pt_cmpR op_eq (pe_ix ix_list (pv 3) (pv 5) (fun _ _ => rfl)) pe_int (nomark _)) (pss_one (ps_set (i := 5) scDst.nd rfl (Or.inl rfl) (pv 8))) pss_nil))))))))) pss_nil)
        (pss_one (ps_expr (pe_bm PySem.F.plainAttrs_list PySem.F.slot_list_append PySem.F.type_list_append mt_append (pv 6) (pa_cons (pv 5) pa_nil))))))
        (pss_one (ps_ret (pv 6))))))))), ?_⟩
    -- ahead
    refine ⟨_, rfl, d, numK num, rfl, .inl hd, fun pa hpa => ?_⟩
    have s1 : Same H (upd H pa (.dK (numK num))) := Same.upd hpa
    have la : upd H pa (HO.dK (numK num)) pa = some (.dK (numK num)) := upd_same
    have npd : pa ≠ d := fun z => by rw [z, hd] at hpa; cases hpa
    generalize upd H pa (HO.dK (numK num)) = H1 at s1 la ⊢
    -- crowds
    refine ⟨_, rfl, a, _, rfl, .inr (sqt_same s1 ho), _, _, rfl, rfl, _, rfl, by rw [hlv]; omega, by rw [hlv]; omega, fun pc hpc => ?_⟩
    refine lc_range (fun i H' => Same H1 H' ∧ H' pc = some (.lst (natV (List.replicate i 0)))) ⟨Same.upd hpc, upd_same⟩ ?_ ?_
    · rintro i H' hi ⟨S, lc⟩
      refine ⟨rfl, _, lc, ?_, EX.Same.updN S hpc, ?_⟩
      · rw [List.length_map, List.length_replicate, sizeLine_eq]
        rw [hlv] at hi
        omega
      · rw [upd_same, List.replicate_succ']
        unfold natV
        rw [List.map_append]
        rfl
    rintro H2 ⟨S2, lc⟩
    have hcr0 : List.replicate (((strV o).length : Int) + 1).toNat 0 = crowds o.length (fun _ => 0) (num.take 0) := crowds_ext (by rw [hlv, List.length_replicate]; omega) fun j hj => by
      rw [List.getElem?_replicate, if_pos (by rw [hlv]; omega)]
      rfl
    rw [hcr0] at lc
    clear hcr0
    have la2 := S2 _ _ la
    have npc : pc ≠ d := fun z => by
      rw [z, s1 _ _ hd] at hpc
      cases hpc
    have npp : pc ≠ pa := fun z => by
      rw [z, la] at hpc
      cases hpc
    have S02 : Same H H2 := Same.trans s1 S2
    have bc : Keeps [pa, pc] H H2 := .of S02
    have hpc0 : H pc = none := s1.free hpc
    clear s1 S2 la
    -- the keys
    refine ⟨d, .dK (numK num), S02 _ _ hd, trivial, fun od => ?_⟩
    have ld0 : upd H2 d (.frz od (.dK (numK num))) d = some (.frz od (.dK (numK num))) := upd_same
    have la0 : upd H2 d (HO.frz od (.dK (numK num))) pa = some (.dK (numK num)) := by rw [upd_ne npd]; exact la2
    have lc0 : upd H2 d (HO.frz od (.dK (numK num))) pc = some (.lst (natV (crowds o.length (fun _ => 0) (num.take 0)))) := by rw [upd_ne npc]; exact lc
    have back : ∀ H3, Keeps [pc] (upd H2 d (.frz od (.dK (numK num)))) H3 → Keeps [pc] H (upd H3 d (.dK (numK num))) := fun H3 b3 => (Keeps.of S02).trans (Keeps.lock (S02 _ _ hd) b3)
    generalize upd H2 d (.frz od (.dK (numK num))) = HL at ld0 la0 lc0 back ⊢
    refine ⟨_, rfl, d, od, rfl, .inl ⟨numK num, ld0, ?_⟩⟩
    refine for_it (walk_keys (d := d) (o := od) (kvs := numK num)) (fun i σ H3 => ∃ v4, σ = [some (.ref a), some (.ref d), some (.ref pa), some (.ref pc), v4, none, none, none, none, none] ∧ Keeps [pc] HL H3 ∧ H3 pc = some (.lst (natV (crowds o.length (fun _ => 0) (num.take i))))) ⟨_, rfl, .refl _ _, lc0⟩ ?_ ?_ ?_
    · rintro i σ H3 _ ⟨v4, rfl, b3, _⟩
      exact b3 _ _ (by simpa using npc.symm) ld0
    · rintro i x σ H0 H3 hi ⟨v4, rfl, b3, lc3⟩ ⟨rfl, kk, vv, hg, rfl⟩
      obtain ⟨s', n, rfl, rfl, hn⟩ := numK_get hg
      have hmem := List.mem_of_getElem? hn
      have hle : n ≤ o.length := NO.lt _ hmem
      have dg : DGet H3 d (.str s') (some (.int (n : Int))) := .inl ⟨numK num, Sum.inr s', .inr ⟨od, b3 _ _ (by simpa using npc.symm) ld0⟩, rfl, (numK_val NO.nd hmem).symm⟩
      have gt := crowds_get (m := o.length) (c := fun _ => 0) (num := num.take i) hle
      refine ⟨_, rfl, _, rfl, _, rfl, d, _, rfl, dg, pc, _, _, _, rfl, rfl, SqL.of lc3, atI_nat (natV_get gt), _, _, rfl, rfl, ?_⟩
      refine ⟨_, rfl, _, rfl, _, rfl, d, _, rfl, dg, ?_⟩
      refine ⟨pc, _, _, n, rfl, rfl, lc3, ixI (by rw [List.length_map, crowds_len]; omega), ?_⟩
      refine ⟨_, rfl, b3.put (by simp), ?_⟩
      dsimp only
      rw [upd_same, show ((crowd (fun _ => 0) (num.take i) n : Nat) : Int) + 1 = ((crowd (fun _ => 0) (num.take i) n + 1 : Nat) : Int) by omega, natV_set]
      refine congrArg (fun l => some (HO.lst (natV l))) (crowds_ext (by rw [List.length_set, crowds_len]) fun j hj => ?_)
      rw [crowd_take hn, List.getElem?_set]
      by_cases e : n = j
      · subst e
        rw [if_pos rfl, if_pos (by rw [crowds_len]; omega), if_pos rfl]
      · rw [if_neg e, if_neg e, crowds_get hj]
        rfl
    rintro σ H3 ⟨v4, rfl, b3, lc3⟩
    refine ⟨b3 _ _ (by simpa using npc.symm) ld0, ?_⟩
    have b4 := back _ b3
    have la4 : upd H3 d (HO.dK (numK num)) pa = some (.dK (numK num)) := by rw [upd_ne npd]; exact b3 _ _ (by simpa using npp.symm) la0
    have lc4 : upd H3 d (HO.dK (numK num)) pc = some (.lst (natV (crowds o.length (cnt o 0) num))) := by
      rw [upd_ne npc, lc3, List.take_of_length_le (by rw [show (numK num).length = num.length from List.length_map _]; exact Nat.le_refl _), cnt_zero]
    have ld4 : upd H3 d (HO.dK (numK num)) d = some (.dK (numK num)) := upd_same
    generalize upd H3 d (HO.dK (numK num)) = H4 at b4 la4 lc4 ld4 ⊢
    clear b3 lc3 back ld0 la0 lc0 bc lc la2 S02 hpc
    -- worst
    refine ⟨_, rfl, .inr (.inr (.inl ⟨rfl, .inl ⟨_, ld4⟩⟩)), d, _, rfl, rfl, ld4, fun vw hvw => ?_⟩
    have lv : upd H4 vw (vtvO vw d) vw = some (vtvO vw d) := upd_same
    have b5 := b4.new (o := vtvO vw d) hvw
    have ld5 : upd H4 vw (vtvO vw d) d = some (.dK (numK num)) := by rw [upd_ne (ne_by ld4 hvw)]; exact ld4
    have la5 : upd H4 vw (vtvO vw d) pa = some (.dK (numK num)) := by rw [upd_ne (ne_by la4 hvw)]; exact la4
    have lc5 : upd H4 vw (vtvO vw d) pc = some (.lst (natV (crowds o.length (cnt o 0) num))) := by rw [upd_ne (ne_by lc4 hvw)]; exact lc4
    generalize upd H4 vw (vtvO vw d) = H5 at lv b5 ld5 la5 lc5 ⊢
    refine ⟨vw, d, _, rfl, lv, ld5, fun lx hlx => ?_⟩
    have e1 : (numK num).map (·.2) = (num.map fun p => ((p.2 : Nat) : Int)).map V.int := by
      unfold numK
      rw [List.map_map, List.map_map]
      rfl
    rw [e1]
    refine ⟨lx, _, rfl, SqL.of upd_same, ?_, fun m hm hmax => ?_⟩
    · rw [List.length_map]
      exact List.length_pos_iff.mpr NO.ne
    obtain ⟨p0, hp0, rfl⟩ := List.mem_map.mp hm
    have hw0 : worst (cnt o 0) num = p0.2 := by
      unfold M41.worst
      rw [cnt_zero]
      refine mx_eq (List.mem_map.mpr ⟨p0, hp0, far0 p0⟩) fun x hx => ?_
      obtain ⟨q, hq, rfl⟩ := List.mem_map.mp hx
      rw [far0]
      have := hmax _ (List.mem_map.mpr ⟨q, hq, rfl⟩)
      omega
    rw [← hw0]
    clear hmax hm hp0 hw0 lv
    have b6 := b5.new (o := HO.lst ((num.map fun p => ((p.2 : Nat) : Int)).map V.int)) hlx
    have la6 : upd H5 lx (HO.lst ((num.map fun p => ((p.2 : Nat) : Int)).map V.int)) pa = some (.dK (aheadK (cnt o 0) num)) := by rw [upd_ne (ne_by la5 hlx), la5, cnt_zero, ahead0]
    have lc6 : upd H5 lx (HO.lst ((num.map fun p => ((p.2 : Nat) : Int)).map V.int)) pc = some (.lst (natV (crowds o.length (cnt o 0) num))) := by rw [upd_ne (ne_by lc5 hlx)]; exact lc5
    generalize upd H5 lx (HO.lst ((num.map fun p => ((p.2 : Nat) : Int)).map V.int)) = H6 at b6 la6 lc6 ⊢
    clear b5 ld5 la5 lc5 hvw hlx e1 b4 ld4 la4 lc4
    -- found
    refine ⟨_, rfl, by show 1 ≤ sizeLine; decide, fun pf hpf => ?_⟩
    have hpf0 : H pf = none := (b6.free (p := pf) (by simp; exact (ne_by lc6 hpf).symm) hpf)
    have b7 : Keeps [pa, pc, pf] H (upd H6 pf (.lst [.int (worst (cnt o 0) num : Nat)])) := (b6.more (by simp)).new hpf
    have la7 : upd H6 pf (HO.lst [.int (worst (cnt o 0) num : Nat)]) pa = some (.dK (aheadK (cnt o 0) num)) := by rw [upd_ne (ne_by la6 hpf)]; exact la6
    have lc7 : upd H6 pf (HO.lst [.int (worst (cnt o 0) num : Nat)]) pc = some (.lst (natV (crowds o.length (cnt o 0) num))) := by rw [upd_ne (ne_by lc6 hpf)]; exact lc6
    have lf7 : upd H6 pf (HO.lst [.int (worst (cnt o 0) num : Nat)]) pf = some (.lst (natV ((List.range (0 + 1)).map (gap o num)))) := upd_same
    have nfa : pf ≠ pa := (ne_by la6 hpf).symm
    have nfc : pf ≠ pc := (ne_by lc6 hpf).symm
    generalize upd H6 pf (HO.lst [.int (worst (cnt o 0) num : Nat)]) = H7 at b7 la7 lc7 lf7 ⊢
    clear b6 la6 lc6 hpf
    have nS : ∀ o', H a = some o' → a ∉ [pa, pc, pf] := fun o' e z => by
      simp only [List.mem_cons, List.not_mem_nil, or_false] at z
      rcases z with rfl | rfl | rfl
      · rw [e] at hpa; cases hpa
      · rw [e] at hpc0; cases hpc0
      · rw [e] at hpf0; cases hpf0
    refine ⟨_, rfl, a, rfl, ⟨_, b7.sqt nS ho⟩, ?_⟩
    refine for_tup (K := K) (a := a) (xs := strV o) (fun i σ H' => ∃ v4 v7 v8, σ = [some (.ref a), some (.ref d), some (.ref pa), some (.ref pc), v4, some (.int (worst (cnt o i) num : Nat)), some (.ref pf), v7, v8, none] ∧ Keeps [pa, pc, pf] H H' ∧
        H' pa = some (.dK (aheadK (cnt o i) num)) ∧ H' pc = some (.lst (natV (crowds o.length (cnt o i) num))) ∧ H' pf = some (.lst (natV ((List.range (i + 1)).map (gap o num)))))
      ⟨_, _, _, rfl, b7, la7, lc7, lf7⟩ ?_ ?_ ?_
    · rintro i σ H' _ ⟨v4, v7, v8, rfl, b, _⟩
      exact b.sqt nS ho
    · rintro i x σ H' hx ⟨v4, v7, v8, rfl, b, la, lc, lf⟩
      obtain ⟨y, rfl, hy⟩ := strV_get hx
      have hi : i < o.length := (List.getElem?_eq_some_iff.mp hy).1
      have hcs := cnt_succ hy
      have hm : ∀ (H2 : Hp) (v : Nat), v = worst (cnt o (i + 1)) num → natV ((List.range (i + 1)).map (gap o num)) ++ [V.int (v : Int)] = natV ((List.range (i + 1 + 1)).map (gap o num)) := fun _ v e => by
        rw [List.range_succ (n := i + 1), List.map_append, e]
        unfold natV
        rw [List.map_append]
        rfl
      refine ⟨_, rfl, _, rfl, pa, _, rfl, .inl ⟨_, Sum.inr y, .inl la, rfl, rfl⟩, _, rfl, ?_⟩
      by_cases hmem : y ∈ num.map (·.1)
      · obtain ⟨⟨y', n⟩, hp, rfl⟩ := List.mem_map.mp hmem
        have hp : (y', n) ∈ num := hp
        have hy : o[i]? = some y' := hy
        rw [show valV (aheadK (cnt o i) num) (Sum.inr y') = some (.int ((n : Int) - (cnt o i y' : Int))) from ahead_get NO.nd hp]
        refine iteT ?_
        have hn : n ≤ o.length := NO.lt _ hp
        have hc := cnt_le o i y'
        have hc1 := cnt_le o (i + 1) y'
        have f1 : far (cnt o i) (y', n) ≤ o.length := by
          unfold far
          show ((n : Int) - (cnt o i y' : Int)).natAbs ≤ _
          omega
        have f2 : far (cnt o (i + 1)) (y', n) ≤ o.length := by
          unfold far
          show ((n : Int) - (cnt o (i + 1) y' : Int)).natAbs ≤ _
          omega
        have hb : cnt o (i + 1) y' = cnt o i y' + 1 := by
          rw [hcs]
          unfold M41.bump
          rw [if_pos rfl]
        have ne12 : far (cnt o (i + 1)) (y', n) ≠ far (cnt o i) (y', n) := by
          unfold far
          show ((n : Int) - (cnt o (i + 1) y' : Int)).natAbs ≠ ((n : Int) - (cnt o i y' : Int)).natAbs
          omega
        refine ⟨_, rfl, _, rfl, pa, _, rfl, .inl ⟨_, Sum.inr y', .inl la, rfl, (ahead_get NO.nd hp).symm⟩, _, rfl, ?_⟩
        rw [absI]
        refine ⟨_, rfl, _, rfl, pa, _, rfl, .inl ⟨_, Sum.inr y', .inl la, rfl, (ahead_get NO.nd hp).symm⟩, _, _, rfl, rfl, _, rfl, _, rfl, pa, _, rfl, DPut.k (k := Sum.inr y') la (by unfold aheadK; rw [List.length_map, sizeLine_eq]; have := NO.sz; omega), ?_⟩
        rw [ahead_put NO.nd hp]
        have la2 : upd H' pa (HO.dK (aheadK (bump (cnt o i) y') num)) pa = some (.dK (aheadK (cnt o (i + 1)) num)) := by rw [upd_same, hcs]
        have lc2 : upd H' pa (HO.dK (aheadK (bump (cnt o i) y') num)) pc = some (.lst (natV (crowds o.length (cnt o i) num))) := by rw [upd_ne npp]; exact lc
        have lf2 : upd H' pa (HO.dK (aheadK (bump (cnt o i) y') num)) pf = some (.lst (natV ((List.range (i + 1)).map (gap o num)))) := by rw [upd_ne nfa]; exact lf
        have b2 : Keeps [pa, pc, pf] H (upd H' pa (.dK (aheadK (bump (cnt o i) y') num))) := b.put (by simp)
        generalize upd H' pa (HO.dK (aheadK (bump (cnt o i) y') num)) = H2 at la2 lc2 lf2 b2 ⊢
        refine ⟨_, rfl, _, rfl, pa, _, rfl, .inl ⟨_, Sum.inr y', .inl la2, rfl, (ahead_get NO.nd hp).symm⟩, _, rfl, ?_⟩
        rw [absI]
        rw [show ((n : Int) - (cnt o i y' : Int)).natAbs = far (cnt o i) (y', n) from rfl, show ((n : Int) - (cnt o (i + 1) y' : Int)).natAbs = far (cnt o (i + 1)) (y', n) from rfl]
        generalize hj1 : far (cnt o i) (y', n) = j1 at f1 ne12 ⊢
        generalize hj2 : far (cnt o (i + 1)) (y', n) = j2 at f2 ne12 ⊢
        have g1 := crowds_get (c := cnt o i) (num := num) f1
        have g2 := crowds_get (c := cnt o i) (num := num) f2
        have c1 : 1 ≤ crowd (cnt o i) num j1 := by
          unfold M41.crowd
          exact List.count_pos_iff.mpr (List.mem_map.mpr ⟨_, hp, hj1⟩)
        refine ⟨_, rfl, _, rfl, pc, _, _, _, rfl, rfl, SqL.of lc2, atI_nat (natV_get g1), _, _, rfl, rfl, _, rfl, _, rfl, pc, _, _, j1, rfl, rfl, lc2, ixI (by rw [List.length_map, crowds_len]; omega), ?_⟩
        dsimp only
        rw [show ((crowd (cnt o i) num j1 : Nat) : Int) - 1 = ((crowd (cnt o i) num j1 - 1 : Nat) : Int) by omega, natV_set]
        have lc3 : upd H2 pc (HO.lst (natV ((crowds o.length (cnt o i) num).set j1 (crowd (cnt o i) num j1 - 1)))) pc = some (.lst (natV ((crowds o.length (cnt o i) num).set j1 (crowd (cnt o i) num j1 - 1)))) := upd_same
        have b3 : Keeps [pa, pc, pf] H (upd H2 pc (.lst (natV ((crowds o.length (cnt o i) num).set j1 (crowd (cnt o i) num j1 - 1))))) := b2.put (by simp)
        have la3 : upd H2 pc (HO.lst (natV ((crowds o.length (cnt o i) num).set j1 (crowd (cnt o i) num j1 - 1)))) pa = some (.dK (aheadK (cnt o (i + 1)) num)) := by rw [upd_ne npp.symm]; exact la2
        have lf3 : upd H2 pc (HO.lst (natV ((crowds o.length (cnt o i) num).set j1 (crowd (cnt o i) num j1 - 1)))) pf = some (.lst (natV ((List.range (i + 1)).map (gap o num)))) := by rw [upd_ne nfc]; exact lf2
        generalize upd H2 pc (HO.lst (natV ((crowds o.length (cnt o i) num).set j1 (crowd (cnt o i) num j1 - 1)))) = H3 at lc3 b3 la3 lf3 ⊢
        have g3 : ((crowds o.length (cnt o i) num).set j1 (crowd (cnt o i) num j1 - 1))[j2]? = some (crowd (cnt o i) num j2) := by
          rw [List.getElem?_set, if_neg (Ne.symm ne12)]
          exact g2
        refine ⟨_, rfl, _, rfl, pc, _, _, _, rfl, rfl, SqL.of lc3, atI_nat (natV_get g3), _, _, rfl, rfl, _, rfl, _, rfl, pc, _, _, j2, rfl, rfl, lc3, ixI (by rw [List.length_map, List.length_set, crowds_len]; omega), ?_⟩
        dsimp only
        rw [show ((crowd (cnt o i) num j2 : Nat) : Int) + 1 = ((crowd (cnt o i) num j2 + 1 : Nat) : Int) by omega, natV_set]
        have hput : ((crowds o.length (cnt o i) num).set j1 (crowd (cnt o i) num j1 - 1)).set j2 (crowd (cnt o i) num j2 + 1) = crowds o.length (cnt o (i + 1)) num := by
          subst hj1
          subst hj2
          have q := crowds_put (m := o.length) (c := cnt o i) NO.nd hp f1 (by rw [← hcs]; exact f2)
          rw [← hcs] at q
          exact q
        rw [hput]
        have lc4 : upd H3 pc (HO.lst (natV (crowds o.length (cnt o (i + 1)) num))) pc = some (.lst (natV (crowds o.length (cnt o (i + 1)) num))) := upd_same
        have b4 : Keeps [pa, pc, pf] H (upd H3 pc (.lst (natV (crowds o.length (cnt o (i + 1)) num)))) := b3.put (by simp)
        have la4 : upd H3 pc (HO.lst (natV (crowds o.length (cnt o (i + 1)) num))) pa = some (.dK (aheadK (cnt o (i + 1)) num)) := by rw [upd_ne npp.symm]; exact la3
        have lf4 : upd H3 pc (HO.lst (natV (crowds o.length (cnt o (i + 1)) num))) pf = some (.lst (natV ((List.range (i + 1)).map (gap o num)))) := by rw [upd_ne nfc]; exact lf3
        generalize upd H3 pc (HO.lst (natV (crowds o.length (cnt o (i + 1)) num))) = H5 at lc4 b4 la4 lf4 ⊢
        have hw := worst_bump (c := cnt o i) NO.nd hp
        rw [← hcs, hj2] at hw
        have hwl : worst (cnt o i) num ≤ o.length := by
          obtain ⟨q, hq, e⟩ := List.mem_map.mp (mx_mem (l := num.map (far (cnt o i))) (by simp; exact NO.ne))
          show mx _ ≤ _
          rw [← e]
          have h1 := NO.lt q hq
          have h2 := cnt_le o i q.1
          unfold far
          omega
        refine ⟨_, rfl, _, rfl, _, _, rfl, rfl, _, rfl, ite2 (fun z => ?_) (fun z => ?_)⟩
        · have z : worst (cnt o i) num < j2 := by
            have := of_decide_eq_true z
            omega
          rw [if_pos z] at hw
          refine ⟨_, rfl, ?_⟩
          refine ⟨_, rfl, .inl ⟨rfl, _, SqL.of lf4⟩, _, rfl, pf, _, _, rfl, rfl, lf4, by rw [List.length_map, List.length_map, List.length_range, sizeLine_eq]; omega, ?_⟩
          exact ⟨_, _, _, by rw [hw] <;> rfl, b4.put (by simp), by rw [upd_ne nfa.symm]; exact la4, by rw [upd_ne nfc.symm]; exact lc4, upd_same.trans (congrArg (fun l => some (HO.lst l)) (hm H' _ hw.symm))⟩
        · have z : ¬ worst (cnt o i) num < j2 := fun y => z (decide_eq_true (by omega))
          rw [if_neg z] at hw
          have g5 := crowds_get (c := cnt o (i + 1)) (num := num) hwl
          refine ⟨_, rfl, _, rfl, pc, _, _, _, rfl, rfl, SqL.of lc4, atI_nat (natV_get g5), rfl, _, rfl, ite2 (fun y => ?_) (fun y => ?_)⟩
          · have y : crowd (cnt o (i + 1)) num (worst (cnt o i) num) = 0 := by
              have := V.int.inj (of_decide_eq_true y)
              omega
            rw [if_pos y] at hw
            refine ⟨_, rfl, ?_⟩
            refine ⟨_, rfl, .inl ⟨rfl, _, SqL.of lf4⟩, _, rfl, pf, _, _, rfl, rfl, lf4, by rw [List.length_map, List.length_map, List.length_range, sizeLine_eq]; omega, ?_⟩
            exact ⟨_, _, _, by rw [hw] <;> rfl, b4.put (by simp), by rw [upd_ne nfa.symm]; exact la4, by rw [upd_ne nfc.symm]; exact lc4, upd_same.trans (congrArg (fun l => some (HO.lst l)) (hm H' _ hw.symm))⟩
          · have y : ¬ crowd (cnt o (i + 1)) num (worst (cnt o i) num) = 0 := fun x => y (decide_eq_true (by rw [x]; rfl))
            rw [if_neg y] at hw
            refine ⟨_, rfl, .inl ⟨rfl, _, SqL.of lf4⟩, _, rfl, pf, _, _, rfl, rfl, lf4, by rw [List.length_map, List.length_map, List.length_range, sizeLine_eq]; omega, ?_⟩
            exact ⟨_, _, _, by rw [hw] <;> rfl, b4.put (by simp), by rw [upd_ne nfa.symm]; exact la4, by rw [upd_ne nfc.symm]; exact lc4, upd_same.trans (congrArg (fun l => some (HO.lst l)) (hm H' _ hw.symm))⟩
      · have e1 : aheadK (cnt o (i + 1)) num = aheadK (cnt o i) num := by rw [hcs, ahead_bump_no hmem]
        have e2 : crowds o.length (cnt o (i + 1)) num = crowds o.length (cnt o i) num := by rw [hcs, crowds_no hmem]
        have e3 : worst (cnt o (i + 1)) num = worst (cnt o i) num := by
          rw [hcs]
          unfold M41.worst
          rw [map_bump_no hmem]
        rw [show valV (aheadK (cnt o i) num) (Sum.inr y) = none from ahead_none hmem]
        refine iteF ?_
        refine ⟨_, rfl, .inl ⟨rfl, _, SqL.of lf⟩, _, rfl, pf, _, _, rfl, rfl, lf, by rw [List.length_map, List.length_map, List.length_range, sizeLine_eq]; omega, ?_⟩
        exact ⟨_, _, _, by rw [e3] <;> rfl, b.put (by simp), by rw [upd_ne nfa.symm]; exact (by rw [e1]; exact la), by rw [upd_ne nfc.symm]; exact (by rw [e2]; exact lc), upd_same.trans (congrArg (fun l => some (HO.lst l)) (hm H' _ e3.symm))⟩
    · rintro σ H' ⟨v4, v7, v8, rfl, b, la, lc, lf⟩
      refine ⟨_, rfl, k pf H' (b.same fun q hq => ?_) hpf0 ?_⟩
      · simp only [List.mem_cons, List.not_mem_nil, or_false] at hq
        rcases hq with rfl | rfl | rfl <;> assumption
      · rw [lf, hlv]
        rfl
end
end K41
set_option Elab.async false
set_option linter.all false
set_option maxRecDepth 100000
set_option maxHeartbeats 4000000
namespace K41
open PySem L2 EX PyProof.Rows M41
/-- the places of m -/
def idxs (l : List Nat) (m : Nat) (i : Nat) : List Nat := (List.range i).filter fun j => decide (l[j]? = some m)
theorem idxs_succ {l : List Nat} {m i n : Nat} (h : l[i]? = some n) : idxs l m (i + 1) = idxs l m i ++ (if n = m then [i] else []) := by
  unfold idxs
  rw [List.range_succ, List.filter_append]
  congr 1
  rw [List.filter_cons, List.filter_nil, h]
  by_cases e : n = m
  · rw [if_pos (decide_eq_true (congrArg some e)), if_pos e]
  · rw [if_neg (by rw [decide_eq_true_eq]; exact fun z => e (Option.some.inj z)), if_neg e]
theorem idxs_le (l : List Nat) (m i : Nat) : (idxs l m i).length ≤ i := by
  unfold idxs
  exact Nat.le_trans (List.length_filter_le _ _) (by simp)
theorem mem_idxs {l : List Nat} {m i j : Nat} : j ∈ idxs l m i ↔ j < i ∧ l[j]? = some m := by
  unfold idxs
  rw [List.mem_filter, List.mem_range, decide_eq_true_eq]
def firstAt (l : List Nat) (m : Nat) : Nat := (idxs l m l.length).headD 0
def lastAt (l : List Nat) (m : Nat) : Nat := (idxs l m l.length).getLastD 0
theorem atI_0 {xs : List V} {v : V} {t : List V} (h : xs = v :: t) : atI xs 0 = some v := by
  rw [h]
  exact atI_nat (j := 0) rfl
theorem atI_last {xs : List V} {v : V} (h : xs.getLast? = some v) : atI xs (-1) = some v := by
  have hne : xs ≠ [] := fun z => by rw [z] at h; cases h
  have hl := List.length_pos_iff.mpr hne
  unfold atI ixN
  rw [if_neg (by decide), if_pos (by omega)]
  show xs[(-1 + (xs.length : Int)).toNat]? = some v
  rw [show (-1 + (xs.length : Int)).toNat = xs.length - 1 by omega, ← List.getLast?_eq_getElem?]
  exact h
/-- outer_moments(gaps, least) -/
def spOut (K : PySem.W.Frag) : Sp := fun vs H Q _ => ∃ (g : Addr) (l : List Nat) (m : Nat), vs = [.ref g, .int (m : Nat)] ∧ SqL K H g (natV l) ∧ m ∈ l ∧ l.length ≤ 10000 ∧
  ∀ t H', Same H H' → H t = none → H' t = some (.tup [.int (firstAt l m : Nat), .int (lastAt l m : Nat)]) → Q (.ref t) H'
abbrev sOut : Stmt := top 15
def sOutN : List Str := ["gaps", "least", "found", "at", "gap"]
theorem scOut : FnScope ["gaps", "least", "found", "at", "gap"] ["gaps", "least"] (defScope sOut) := ⟨rfl, rfl, rfl, by decide +kernel, rfl, by decide +kernel, by decide +kernel⟩
section
variable {P : Program} {w : World} {K : PySem.W.Frag} {mg : Str → Option Value} {base : Heap}
theorem ok_outer {f : Addr} {fd : FuncData} (F : Fun K "outer_moments" "outer_moments" sOut f fd) (B : Bn mg) : FnOk P w K mg base CX0 1 f fd ["gaps", "least"] (spOut K) := by
  refine F.ok scOut (fun vs H Q E h => ?_) (fun cdv A outer s H vs Q E hr h => ?_)
  · obtain ⟨g, l, m, rfl, _⟩ := h
    rfl
  · obtain ⟨g, l, m, rfl, hg, hm, hl, k⟩ := h
    have hu := hu_of hr
    have hu64 : _ + 64 < cLine := hr.units
    have hlv : (natV l).length = l.length := List.length_map _
    refine ⟨_, (pss_cons (ps_setLc (i := 2) (own := [("at", 3), ("gap", 4)]) (g := (gTup K 2 (gCons (gName 3) (gCons (gName 4) gNil)))) (tt := (tTest (tOp rEq (tVar 4) (tVar 1)))) (te := (tVar 3)) rfl scOut.nd rfl rfl (sw_true rfl rfl rfl (by decide +kernel)) (pi_enum (by rfl) B.enumerate (pa_cons (pv 0) pa_nil)) (blkOk_by (N := sOutN) (sc := defScope sOut) (by decide +kernel)) (fun _ _ _ _ _ => (pg_tup rfl (pgs_cons (pg_name (i := 3) scOut.nd rfl (Or.inl rfl)) (pgs_cons (pg_name (i := 4) scOut.nd rfl (Or.inl rfl)) pgs_nil)))) (fun _ _ _ _ _ => (pts_one (pt_cmpR op_eq (pv 4) (pv 1) (nomark _)))) (fun _ _ _ _ _ => (pv 3)))
        (pss_one (ps_ret (pe_tup (pa_cons (pe_ix ix_list (pv 2) pe_int (fun _ _ => rfl)) (pa_cons (pe_ix ix_list (pv 2) (pe_un un_neg pe_int) (fun _ _ => rfl)) pa_nil)))))), ?_⟩
    refine ⟨_, rfl, g, _, rfl, hg, fun D hD => ?_⟩
    refine lc_it (walk_enum (K := K) (a := g) (xs := natV l)) (fun i H4 => Same H H4 ∧ H4 D = some (.lst (natV (idxs l m i)))) ⟨Same.upd hD, upd_same⟩ (fun i H4 _ z => z.1.seq hg) ?_ ?_
    · rintro i v H0 H2 hi ⟨S4, lD⟩ ⟨Tp, x0, x, rfl, hT, rfl, e0, hx⟩
      obtain rfl : V.int (i : Nat) = x0 := Option.some.inj e0
      rw [hlv] at hi
      obtain ⟨n, hn⟩ : ∃ n, l[i]? = some n := ⟨_, List.getElem?_eq_getElem hi⟩
      obtain rfl : x = .int (n : Nat) := Option.some.inj (hx.symm.trans (natV_get hn))
      have s2 : Same H0 (upd H0 Tp (.tup [.int (i : Nat), .int (n : Nat)])) := Same.upd hT
      have lT : upd H0 Tp (HO.tup [.int (i : Nat), .int (n : Nat)]) Tp = some (.tup [.int (i : Nat), .int (n : Nat)]) := upd_same
      generalize upd H0 Tp (HO.tup [.int (i : Nat), .int (n : Nat)]) = H2 at s2 lT ⊢
      have S12 := Same.trans S4 s2
      have lD2 := s2 _ _ lD
      refine ⟨Tp, _, rfl, SqT.of lT, rfl, _, _, rfl, _, _, rfl, rfl, rfl, ?_⟩
      refine ⟨_, rfl, _, rfl, rfl, _, rfl, ite2 (fun z => ?_) (fun z => ?_)⟩
      · have z : n = m := by
          have := V.int.inj (of_decide_eq_true z)
          omega
        refine ⟨_, rfl, _, lD2, by have := idxs_le l m i; rw [List.length_map, sizeLine_eq]; omega, EX.Same.updN S12 hD, ?_⟩
        rw [upd_same, idxs_succ hn, if_pos z]
        unfold natV
        rw [List.map_append]
        rfl
      · have z : ¬ n = m := fun e => z (decide_eq_true (by rw [e]))
        refine ⟨S12, ?_⟩
        rw [lD2, idxs_succ hn, if_neg z, List.append_nil]
    rintro H2 ⟨S2, lD⟩
    rw [hlv] at lD
    obtain ⟨j, hj⟩ := List.mem_iff_getElem?.mp hm
    have hin : j ∈ idxs l m l.length := mem_idxs.mpr ⟨(List.getElem?_eq_some_iff.mp hj).1, hj⟩
    have hfa : firstAt l m = (idxs l m l.length).headD 0 := rfl
    have hla : lastAt l m = (idxs l m l.length).getLastD 0 := rfl
    generalize idxs l m l.length = is at lD hin hfa hla
    cases is with
    | nil => cases hin
    | cons i0 it =>
      have hfa : firstAt l m = i0 := hfa
      have h2 : (natV (i0 :: it)).getLast? = some (.int (lastAt l m : Nat)) := by
        unfold natV
        rw [List.getLast?_map, hla]
        rw [List.getLast?_cons, List.getLastD_cons, List.getLastD_eq_getLast?]
        rfl
      refine ⟨_, rfl, D, _, _, _, rfl, rfl, SqL.of lD, atI_0 rfl, _, rfl, _, rfl, D, _, _, _, rfl, rfl, SqL.of lD, atI_last h2, by show 2 ≤ sizeLine; decide, fun t ht => ?_⟩
      rw [← hfa]
      exact k t _ (Same.trans S2 (Same.upd ht)) (S2.free ht) upd_same
end
end K41
set_option Elab.async false
set_option linter.all false
set_option maxRecDepth 100000
set_option maxHeartbeats 4000000
namespace K41
open PySem L2 EX PyProof.Rows M41
def mn : List Nat → Nat
  | [] => 0
  | [x] => x
  | x :: y :: t => min x (mn (y :: t))
theorem mn_mem : ∀ {l : List Nat}, l ≠ [] → mn l ∈ l
  | [x], _ => by simp [mn]
  | x :: y :: t, _ => by
    have ih := mn_mem (l := y :: t) (by simp)
    show min x (mn (y :: t)) ∈ _
    rcases Nat.le_total x (mn (y :: t)) with h | h
    · rw [Nat.min_eq_left h]
      exact List.mem_cons_self ..
    · rw [Nat.min_eq_right h]
      exact List.mem_cons_of_mem _ ih
theorem mn_le : ∀ {l : List Nat} {x : Nat}, x ∈ l → mn l ≤ x
  | [y], x, h => by
    rw [List.mem_singleton.mp h]
    exact Nat.le_refl _
  | y :: z :: t, x, h => by
    show min y (mn (z :: t)) ≤ x
    rcases List.mem_cons.mp h with rfl | h
    · omega
    · have := mn_le h
      omega
theorem mn_eq {l : List Nat} {m : Nat} (h : m ∈ l) (hle : ∀ x ∈ l, m ≤ x) : mn l = m := by
  have h1 := mn_le h
  have h2 := hle _ (mn_mem (List.ne_nil_of_mem h))
  omega
theorem natI (l : List Nat) : natV l = (l.map fun (n : Nat) => (n : Int)).map V.int := by
  unfold natV
  rw [List.map_map]
  rfl
theorem gaps_len (o : List Str) (num : Num Str) : (gaps o num).length = o.length + 1 := by
  unfold gaps
  rw [List.length_map, List.length_range]
theorem gaps_get {o : List Str} {num : Num Str} {i : Nat} (h : i ≤ o.length) : (gaps o num)[i]? = some (gap o num i) := by
  unfold gaps
  rw [List.getElem?_map, List.getElem?_range (by omega)]
  rfl
theorem gaps_ne (o : List Str) (num : Num Str) : gaps o num ≠ [] := fun z => by
  have := gaps_len o num
  rw [z] at this
  cases this
/-- the fields of a cut -/
def flds (a d g : Addr) (m c : Nat) (t : V) : List (Str × V) := [("steps", .ref a), ("chosen", .ref d), ("gaps", .ref g), ("least", .int (m : Nat)), ("closest", .int (c : Nat)), ("shown", t)]
theorem pf0 (v : V) : putF "steps" v ([] : List (Str × V)) = ([("steps", v)] : List (Str × V)) := by rfl
theorem pf1 (u v : V) : putF "chosen" v ([("steps", u)] : List (Str × V)) = ([("steps", u), ("chosen", v)] : List (Str × V)) := by rfl
theorem pf2 (u0 u1 v : V) : putF "gaps" v ([("steps", u0), ("chosen", u1)] : List (Str × V)) = ([("steps", u0), ("chosen", u1), ("gaps", v)] : List (Str × V)) := by rfl
theorem pf3 (u0 u1 u2 v : V) : putF "least" v ([("steps", u0), ("chosen", u1), ("gaps", u2)] : List (Str × V)) = ([("steps", u0), ("chosen", u1), ("gaps", u2), ("least", v)] : List (Str × V)) := by rfl
theorem pf4 (u0 u1 u2 u3 v : V) : putF "closest" v ([("steps", u0), ("chosen", u1), ("gaps", u2), ("least", u3)] : List (Str × V)) = ([("steps", u0), ("chosen", u1), ("gaps", u2), ("least", u3), ("closest", v)] : List (Str × V)) := by rfl
theorem pf5 (u0 u1 u2 u3 u4 v : V) : putF "shown" v ([("steps", u0), ("chosen", u1), ("gaps", u2), ("least", u3), ("closest", u4)] : List (Str × V)) = ([("steps", u0), ("chosen", u1), ("gaps", u2), ("least", u3), ("closest", u4), ("shown", v)] : List (Str × V)) := by rfl
/-- what stands of the class -/
structure CutC (K : PySem.W.Frag) (C : Addr) : Prop where
  cl : Cls K C
  n1 : NoAttr K C "steps"
  n2 : NoAttr K C "chosen"
  n3 : NoAttr K C "gaps"
  n4 : NoAttr K C "least"
  n5 : NoAttr K C "closest"
  n6 : NoAttr K C "shown"
def Shown (H : Hp) (o : List Str) (num : Num Str) (t : V) : Prop := if mn (gaps o num) = 0 then ∃ q, t = .ref q ∧ H q = some (.tup [.int (firstAt (gaps o num) 0 : Nat), .int (lastAt (gaps o num) 0 : Nat)]) else t = .non
theorem flds_chosen {C C' dx dx' a a' d d' g g' : Addr} {m m' f f' : Nat} {t t' : V} (e : some (HO.ins C dx (flds a d g m f t)) = some (HO.ins C' dx' (flds a' d' g' m' f' t'))) : d = d' := by
  have e := congrArg (fun l => l[1]?) (HO.ins.inj (Option.some.inj e)).2.2
  unfold flds at e
  simp at e
  exact e
/-- a cut stands at p -/
structure CutAt (K : PySem.W.Frag) (C : Addr) (H : Hp) (p : Addr) (o : List Str) (num : Num Str) : Prop where
  ex : ∃ dx a d g t, H p = some (.ins C dx (flds a d g (mn (gaps o num)) (firstAt (gaps o num) (mn (gaps o num))) t)) ∧ SqT K H a (strV o) ∧ H d = some (.dK (numK num)) ∧ H g = some (.lst (natV (gaps o num))) ∧ Shown H o num t
theorem Shown.mono {H H' : Hp} (s : Same H H') {o : List Str} {num : Num Str} {t : V} (h : Shown H o num t) : Shown H' o num t := by
  unfold Shown at *
  split
  · rename_i z
    rw [if_pos z] at h
    obtain ⟨q, e, hq⟩ := h
    exact ⟨q, e, s _ _ hq⟩
  · rename_i z
    rw [if_neg z] at h
    exact h
theorem CutAt.mono {K : PySem.W.Frag} {C : Addr} {H H' : Hp} (s : Same H H') {p : Addr} {o : List Str} {num : Num Str} (h : CutAt K C H p o num) : CutAt K C H' p o num := by
  obtain ⟨dx, a, d, g, t, h1, h2, h3, h4, h5⟩ := h.ex
  exact ⟨dx, a, d, g, t, s _ _ h1, sqt_same s h2, s _ _ h3, s _ _ h4, h5.mono s⟩
/-- Cut.__init__ -/
def spCut (K : PySem.W.Frag) (C : Addr) : Sp := fun vs H Q _ => ∃ (p a d dx : Addr) (o : List Str) (num : Num Str), vs = [.ref p, .ref a, .ref d] ∧ H p = some (.ins C dx []) ∧ SqE K H a (strV o) ∧ (∀ s ∈ o, isW s = true) ∧ o.length ≤ 5000 ∧ H d = some (.dK (numK num)) ∧ NumOk o num ∧
  ∀ H', Keeps [p] H H' → CutAt K C H' p o num → (∀ dx a d' g t, H' p = some (.ins C dx (flds a d' g (mn (gaps o num)) (firstAt (gaps o num) (mn (gaps o num))) t)) → H d' = none) → Q .non H'
abbrev sCI : Stmt := inClass (top 16) 0
theorem scCI : FnScope ["self", "order", "numbers", "first", "last"] ["self", "order", "numbers"] (defScope sCI) := ⟨rfl, rfl, rfl, by decide +kernel, rfl, by decide +kernel, by decide +kernel⟩
section
variable {P : Program} {w : World} {K : PySem.W.Frag} {mg : Str → Option Value} {base : Heap}
theorem ok_cut {C : Addr} {f : Addr} {fd : FuncData} (F : Fun K "__init__" "Cut.__init__" sCI f fd) (B : Bn mg) (T : CutC K C) (GO : DefAt P w K mg base 2 "is_order" ["obj"] (spOrder K)) (GN : DefAt P w K mg base 2 "are_numbers" ["obj", "order"] (spNum K))
    (GD : DefAt P w K mg base 1 "distances" ["order", "numbers"] (spDist K)) (GM : DefAt P w K mg base 1 "outer_moments" ["gaps", "least"] (spOut K)) : FnOk P w K mg base CX0 3 f fd ["self", "order", "numbers"] (spCut K C) := by
  refine F.ok scCI (fun vs H Q E h => ?_) (fun cdv A outer s H vs Q E hr h => ?_)
  · obtain ⟨p, a, d, dx, o, num, rfl, _⟩ := h
    rfl
  · obtain ⟨p, a, d, dx, o, num, rfl, hp, ho, hw, hl, hd, NO, k⟩ := h
    have hu := hu_of hr
    refine ⟨_, (pss_cons (ps_if (pt_not (pt_val (pe_callD GO (hr.mono (by decide)) (pa_cons (pv 1) pa_nil)))) (pss_one ps_never) pss_nil)
        (pss_cons (ps_if (pt_not (pt_val (pe_callD GN (hr.mono (by decide)) (pa_cons (pv 2) (pa_cons (pv 1) pa_nil))))) (pss_one ps_never) pss_nil)
        (pss_cons (ps_fld (pv 0) (pe_tupleOf (by rfl) B.tuple (pv 1)) rfl)
        (pss_cons (ps_fld (pv 0) (pe_callTy call_dictD (by rfl) B.dict (by decide +kernel) (pa_cons (pv 2) pa_nil)) rfl)
        (pss_cons (ps_fld (pv 0) (pe_callD GD (hr.mono (by decide)) (pa_cons (pe_fld (pv 0) rfl) (pa_cons (pe_fld (pv 0) rfl) pa_nil))) rfl)
        (pss_cons (ps_fld (pv 0) (pe_callB (cr_min rfl) (by rfl) B.min PyProof.Rows.boot_min (pa_cons (pe_fld (pv 0) rfl) pa_nil)) rfl)
        (pss_cons (ps_asg (pe_callD GM (hr.mono (by decide)) (pa_cons (pe_fld (pv 0) rfl) (pa_cons (pe_fld (pv 0) rfl) pa_nil))) (pg_tup rfl (pgs_cons (pg_name (i := 3) scCI.nd rfl (Or.inl rfl)) (pgs_cons (pg_name (i := 4) scCI.nd rfl (Or.inl rfl)) pgs_nil))))
        (pss_cons (ps_fld (pv 0) (pv 3) rfl)
        (pss_one (ps_fld (pv 0) (pe_ifExp (pt_cmpR op_eq (pe_fld (pv 0) rfl) pe_int (nomark _)) (pe_tup (pa_cons (pv 3) (pa_cons (pv 4) pa_nil))) pe_non) rfl)))))))))), ?_⟩
    refine ⟨_, rfl, a, o, rfl, ho, hw, hl, fun H1 S1 => ⟨_, rfl, iteF ?_⟩⟩
    have ho1 := ho.mono S1
    refine ⟨_, rfl, _, rfl, d, a, o, num, rfl, S1 _ _ hd, ho1, NO, hl, fun H2 S2 => ⟨_, rfl, iteF ?_⟩⟩
    have ho2 := ho1.mono S2
    have S02 := Same.trans S1 S2
    have hp2 := S02 _ _ hp
    have hd2 := S02 _ _ hd
    have npd : d ≠ p := fun z => by
      rw [z, hp] at hd
      cases hd
    rcases ho2 with hL | hT
    · refine ⟨_, rfl, .inl ⟨a, _, rfl, hL, fun a1 hq => ?_⟩⟩
      have nq : a1 ≠ p := (ne_by hp2 hq).symm
      refine ⟨_, rfl, p, C, dx, [], rfl, by rw [upd_ne nq.symm]; exact hp2, T.cl, T.n1, by show 0 < 1000; decide, ?_⟩
      rw [pf0]
      have h4 : upd (upd H2 a1 (HO.tup (strV o))) p (HO.ins C dx [("steps", .ref a1)]) p = some (.ins C dx [("steps", .ref a1)]) := upd_same
      have k4 : Keeps [p] H (upd (upd H2 a1 (.tup (strV o))) p (.ins C dx [("steps", .ref a1)])) := ((Keeps.of S02).new hq).put (by simp)
      have t4 : SqT K (upd (upd H2 a1 (HO.tup (strV o))) p (HO.ins C dx [("steps", .ref a1)])) a1 (strV o) := .inl (.inl (by rw [upd_ne nq, upd_same]))
      generalize upd (upd H2 a1 (HO.tup (strV o))) p (HO.ins C dx [("steps", .ref a1)]) = H4 at h4 k4 t4 ⊢
      -- chosen
      refine ⟨_, rfl, d, _, rfl, .inl (k4 _ _ (by simpa using npd) hd), fun pd hpd => ?_⟩
      have ndp : pd ≠ p := (ne_by h4 hpd).symm
      refine ⟨_, rfl, p, C, dx, _, rfl, by rw [upd_ne ndp.symm]; exact h4, T.cl, T.n2, by show 1 < 1000; decide, ?_⟩
      rw [pf1]
      have hpd0 : H pd = none := k4.free (by simpa using ndp) hpd
      have h5 : upd (upd H4 pd (HO.dK (numK num))) p (HO.ins C dx [("steps", .ref a1), ("chosen", .ref pd)]) p = some (.ins C dx [("steps", .ref a1), ("chosen", .ref pd)]) := upd_same
      have d5 : upd (upd H4 pd (HO.dK (numK num))) p (HO.ins C dx [("steps", .ref a1), ("chosen", .ref pd)]) pd = some (.dK (numK num)) := by rw [upd_ne ndp, upd_same]
      have k5 : Keeps [p] H (upd (upd H4 pd (.dK (numK num))) p (.ins C dx [("steps", .ref a1), ("chosen", .ref pd)])) := (k4.new hpd).put (by simp)
      have t5 : SqT K (upd (upd H4 pd (HO.dK (numK num))) p (HO.ins C dx [("steps", .ref a1), ("chosen", .ref pd)])) a1 (strV o) := (((Keeps.refl [p] _).new hpd).put (by simp)).sqt' (fun q hq => by rw [List.mem_singleton.mp hq]; exact .ins h4) t4
      generalize upd (upd H4 pd (HO.dK (numK num))) p (HO.ins C dx [("steps", .ref a1), ("chosen", .ref pd)]) = H5 at h5 d5 k5 t5 ⊢
      -- gaps
      refine ⟨_, rfl, p, C, dx, _, _, rfl, h5, T.cl, T.n1, rfl, _, rfl, p, C, dx, _, _, rfl, h5, T.cl, T.n2, rfl, a1, pd, o, num, rfl, t5, d5, NO, hl, fun pg H6 S6 hpg lg => ?_⟩
      have ngp : pg ≠ p := (ne_by h5 hpg).symm
      have ngd : pg ≠ pd := (ne_by d5 hpg).symm
      refine ⟨_, rfl, p, C, dx, _, rfl, S6 _ _ h5, T.cl, T.n3, by show 2 < 1000; decide, ?_⟩
      rw [pf2]
      have h7 : upd H6 p (HO.ins C dx [("steps", .ref a1), ("chosen", .ref pd), ("gaps", .ref pg)]) p = some (.ins C dx [("steps", .ref a1), ("chosen", .ref pd), ("gaps", .ref pg)]) := upd_same
      have d7 : upd H6 p (HO.ins C dx [("steps", .ref a1), ("chosen", .ref pd), ("gaps", .ref pg)]) pd = some (.dK (numK num)) := by rw [upd_ne ndp]; exact S6 _ _ d5
      have g7 : upd H6 p (HO.ins C dx [("steps", .ref a1), ("chosen", .ref pd), ("gaps", .ref pg)]) pg = some (.lst (natV (gaps o num))) := by rw [upd_ne ngp]; exact lg
      have k7 : Keeps [p] H (upd H6 p (.ins C dx [("steps", .ref a1), ("chosen", .ref pd), ("gaps", .ref pg)])) := (k5.then S6).put (by simp)
      have t7 : SqT K (upd H6 p (HO.ins C dx [("steps", .ref a1), ("chosen", .ref pd), ("gaps", .ref pg)])) a1 (strV o) := (Keeps.one _).sqt' (fun q hq => by rw [List.mem_singleton.mp hq]; exact .ins (S6 _ _ h5)) (sqt_same S6 t5)
      generalize upd H6 p (HO.ins C dx [("steps", .ref a1), ("chosen", .ref pd), ("gaps", .ref pg)]) = H7 at h7 d7 g7 k7 t7 ⊢
      -- least
      refine ⟨_, rfl, p, C, dx, _, _, rfl, h7, T.cl, T.n3, rfl, pg, (gaps o num).map fun (n : Nat) => (n : Int), rfl, SqL.of (by rw [g7, natI]), by rw [List.length_map, gaps_len]; omega, fun m hm hmin => ?_⟩
      obtain ⟨m0, hm0, rfl⟩ := List.mem_map.mp hm
      have hmn : mn (gaps o num) = m0 := mn_eq hm0 fun x hx => by
        have := hmin _ (List.mem_map.mpr ⟨x, hx, rfl⟩)
        omega
      rw [← hmn]
      clear hmin hm hmn hm0 m0
      refine ⟨_, rfl, p, C, dx, _, rfl, h7, T.cl, T.n4, by show 3 < 1000; decide, ?_⟩
      rw [pf3]
      have h8 : upd H7 p (HO.ins C dx [("steps", .ref a1), ("chosen", .ref pd), ("gaps", .ref pg), ("least", .int (mn (gaps o num) : Nat))]) p = some (.ins C dx [("steps", .ref a1), ("chosen", .ref pd), ("gaps", .ref pg), ("least", .int (mn (gaps o num) : Nat))]) := upd_same
      have d8 : upd H7 p (HO.ins C dx [("steps", .ref a1), ("chosen", .ref pd), ("gaps", .ref pg), ("least", .int (mn (gaps o num) : Nat))]) pd = some (.dK (numK num)) := by rw [upd_ne ndp]; exact d7
      have g8 : upd H7 p (HO.ins C dx [("steps", .ref a1), ("chosen", .ref pd), ("gaps", .ref pg), ("least", .int (mn (gaps o num) : Nat))]) pg = some (.lst (natV (gaps o num))) := by rw [upd_ne ngp]; exact g7
      have k8 : Keeps [p] H (upd H7 p (.ins C dx [("steps", .ref a1), ("chosen", .ref pd), ("gaps", .ref pg), ("least", .int (mn (gaps o num) : Nat))])) := k7.put (by simp)
      have t8 : SqT K (upd H7 p (HO.ins C dx [("steps", .ref a1), ("chosen", .ref pd), ("gaps", .ref pg), ("least", .int (mn (gaps o num) : Nat))])) a1 (strV o) := (Keeps.one _).sqt' (fun q hq => by rw [List.mem_singleton.mp hq]; exact .ins h7) t7
      generalize upd H7 p (HO.ins C dx [("steps", .ref a1), ("chosen", .ref pd), ("gaps", .ref pg), ("least", .int (mn (gaps o num) : Nat))]) = H8 at h8 d8 g8 k8 t8 ⊢
      -- first, last
      refine ⟨_, rfl, p, C, dx, _, _, rfl, h8, T.cl, T.n3, rfl, _, rfl, p, C, dx, _, _, rfl, h8, T.cl, T.n4, rfl, pg, gaps o num, mn (gaps o num), rfl, SqL.of g8, mn_mem (gaps_ne o num), by rw [gaps_len]; omega, fun q H9 S9 hq lq => ?_⟩
      refine ⟨q, _, rfl, SqT.of lq, rfl, _, _, rfl, _, _, rfl, rfl, ?_⟩
      have h9 := S9 _ _ h8
      -- closest
      refine ⟨_, rfl, _, rfl, p, C, dx, _, rfl, h9, T.cl, T.n5, by show 4 < 1000; decide, ?_⟩
      rw [pf4]
      have nqp : q ≠ p := (ne_by h8 hq).symm
      have h10 : upd H9 p (HO.ins C dx [("steps", .ref a1), ("chosen", .ref pd), ("gaps", .ref pg), ("least", .int (mn (gaps o num) : Nat)), ("closest", .int (firstAt (gaps o num) (mn (gaps o num)) : Nat))]) p = some (.ins C dx [("steps", .ref a1), ("chosen", .ref pd), ("gaps", .ref pg), ("least", .int (mn (gaps o num) : Nat)), ("closest", .int (firstAt (gaps o num) (mn (gaps o num)) : Nat))]) := upd_same
      have d10 : upd H9 p (HO.ins C dx [("steps", .ref a1), ("chosen", .ref pd), ("gaps", .ref pg), ("least", .int (mn (gaps o num) : Nat)), ("closest", .int (firstAt (gaps o num) (mn (gaps o num)) : Nat))]) pd = some (.dK (numK num)) := by rw [upd_ne ndp]; exact S9 _ _ d8
      have g10 : upd H9 p (HO.ins C dx [("steps", .ref a1), ("chosen", .ref pd), ("gaps", .ref pg), ("least", .int (mn (gaps o num) : Nat)), ("closest", .int (firstAt (gaps o num) (mn (gaps o num)) : Nat))]) pg = some (.lst (natV (gaps o num))) := by rw [upd_ne ngp]; exact S9 _ _ g8
      have k10 : Keeps [p] H (upd H9 p (.ins C dx [("steps", .ref a1), ("chosen", .ref pd), ("gaps", .ref pg), ("least", .int (mn (gaps o num) : Nat)), ("closest", .int (firstAt (gaps o num) (mn (gaps o num)) : Nat))])) := (k8.then S9).put (by simp)
      have t10 : SqT K (upd H9 p (HO.ins C dx [("steps", .ref a1), ("chosen", .ref pd), ("gaps", .ref pg), ("least", .int (mn (gaps o num) : Nat)), ("closest", .int (firstAt (gaps o num) (mn (gaps o num)) : Nat))])) a1 (strV o) := (Keeps.one _).sqt' (fun q hq => by rw [List.mem_singleton.mp hq]; exact .ins h9) (sqt_same S9 t8)
      generalize upd H9 p (HO.ins C dx [("steps", .ref a1), ("chosen", .ref pd), ("gaps", .ref pg), ("least", .int (mn (gaps o num) : Nat)), ("closest", .int (firstAt (gaps o num) (mn (gaps o num)) : Nat))]) = H10 at h10 d10 g10 k10 t10 ⊢
      clear lq h9 S9 h8 d8 g8 k8 t8 h7 d7 g7 k7 t7
      -- shown
      refine ⟨_, rfl, p, C, dx, _, _, rfl, h10, T.cl, T.n4, rfl, rfl, _, rfl, ite2 (fun z => ?_) (fun z => ?_)⟩
      · have z : mn (gaps o num) = 0 := by
          have := V.int.inj (of_decide_eq_true z)
          omega
        refine ⟨_, rfl, _, rfl, by show 2 ≤ sizeLine; decide, fun t ht => ?_⟩
        have ntp : t ≠ p := (ne_by h10 ht).symm
        refine ⟨_, rfl, p, C, dx, _, rfl, by rw [upd_ne ntp.symm]; exact h10, T.cl, T.n6, by show 5 < 1000; decide, ?_⟩
        rw [pf5]
        refine k _ ((k10.new ht).put (by simp)) ⟨dx, a1, pd, pg, .ref t, upd_same, ?_, ?_, ?_, ?_⟩ (fun _ _ _ _ _ e => (flds_chosen (show some (HO.ins C dx (flds a1 pd pg (mn (gaps o num)) (firstAt (gaps o num) (mn (gaps o num))) (.ref t))) = _ from upd_same.symm.trans e)) ▸ hpd0)
        · exact (((Keeps.refl [p] _).new ht).put (by simp)).sqt' (fun q hq => by rw [List.mem_singleton.mp hq]; exact .ins h10) t10
        · rw [upd_ne ndp, upd_ne (ne_by d10 ht)]
          exact d10
        · rw [upd_ne ngp, upd_ne (ne_by g10 ht)]
          exact g10
        · unfold Shown
          rw [if_pos z]
          refine ⟨t, rfl, ?_⟩
          rw [upd_ne ntp, upd_same, z]
      · have z : ¬ mn (gaps o num) = 0 := fun e => z (decide_eq_true (by rw [e]; rfl))
        refine ⟨_, rfl, p, C, dx, _, rfl, h10, T.cl, T.n6, by show 5 < 1000; decide, ?_⟩
        rw [pf5]
        refine k _ (k10.put (by simp)) ⟨dx, a1, pd, pg, .non, upd_same, ?_, ?_, ?_, ?_⟩ (fun _ _ _ _ _ e => (flds_chosen (show some (HO.ins C dx (flds a1 pd pg (mn (gaps o num)) (firstAt (gaps o num) (mn (gaps o num))) .non)) = _ from upd_same.symm.trans e)) ▸ hpd0)
        · exact (Keeps.one _).sqt' (fun q hq => by rw [List.mem_singleton.mp hq]; exact .ins h10) t10
        · rw [upd_ne ndp]
          exact d10
        · rw [upd_ne ngp]
          exact g10
        · unfold Shown
          rw [if_neg z]
    · refine ⟨_, rfl, .inr ⟨a, _, rfl, hT, ?_⟩⟩
      refine ⟨_, rfl, p, C, dx, [], rfl, hp2, T.cl, T.n1, by show 0 < 1000; decide, ?_⟩
      rw [pf0]
      have h4 : upd H2 p (HO.ins C dx [("steps", .ref a)]) p = some (.ins C dx [("steps", .ref a)]) := upd_same
      have k4 : Keeps [p] H (upd H2 p (.ins C dx [("steps", .ref a)])) := (Keeps.of S02).put (by simp)
      have t4 : SqT K (upd H2 p (HO.ins C dx [("steps", .ref a)])) a (strV o) := (Keeps.one _).sqt' (fun q hq => by rw [List.mem_singleton.mp hq]; exact .ins hp2) hT
      generalize upd H2 p (HO.ins C dx [("steps", .ref a)]) = H4 at h4 k4 t4 ⊢
      generalize a = a1 at h4 k4 t4 ⊢
      -- chosen
      refine ⟨_, rfl, d, _, rfl, .inl (k4 _ _ (by simpa using npd) hd), fun pd hpd => ?_⟩
      have ndp : pd ≠ p := (ne_by h4 hpd).symm
      refine ⟨_, rfl, p, C, dx, _, rfl, by rw [upd_ne ndp.symm]; exact h4, T.cl, T.n2, by show 1 < 1000; decide, ?_⟩
      rw [pf1]
      have hpd0 : H pd = none := k4.free (by simpa using ndp) hpd
      have h5 : upd (upd H4 pd (HO.dK (numK num))) p (HO.ins C dx [("steps", .ref a1), ("chosen", .ref pd)]) p = some (.ins C dx [("steps", .ref a1), ("chosen", .ref pd)]) := upd_same
      have d5 : upd (upd H4 pd (HO.dK (numK num))) p (HO.ins C dx [("steps", .ref a1), ("chosen", .ref pd)]) pd = some (.dK (numK num)) := by rw [upd_ne ndp, upd_same]
      have k5 : Keeps [p] H (upd (upd H4 pd (.dK (numK num))) p (.ins C dx [("steps", .ref a1), ("chosen", .ref pd)])) := (k4.new hpd).put (by simp)
      have t5 : SqT K (upd (upd H4 pd (HO.dK (numK num))) p (HO.ins C dx [("steps", .ref a1), ("chosen", .ref pd)])) a1 (strV o) := (((Keeps.refl [p] _).new hpd).put (by simp)).sqt' (fun q hq => by rw [List.mem_singleton.mp hq]; exact .ins h4) t4
      generalize upd (upd H4 pd (HO.dK (numK num))) p (HO.ins C dx [("steps", .ref a1), ("chosen", .ref pd)]) = H5 at h5 d5 k5 t5 ⊢
      -- gaps
      refine ⟨_, rfl, p, C, dx, _, _, rfl, h5, T.cl, T.n1, rfl, _, rfl, p, C, dx, _, _, rfl, h5, T.cl, T.n2, rfl, a1, pd, o, num, rfl, t5, d5, NO, hl, fun pg H6 S6 hpg lg => ?_⟩
      have ngp : pg ≠ p := (ne_by h5 hpg).symm
      have ngd : pg ≠ pd := (ne_by d5 hpg).symm
      refine ⟨_, rfl, p, C, dx, _, rfl, S6 _ _ h5, T.cl, T.n3, by show 2 < 1000; decide, ?_⟩
      rw [pf2]
      have h7 : upd H6 p (HO.ins C dx [("steps", .ref a1), ("chosen", .ref pd), ("gaps", .ref pg)]) p = some (.ins C dx [("steps", .ref a1), ("chosen", .ref pd), ("gaps", .ref pg)]) := upd_same
      have d7 : upd H6 p (HO.ins C dx [("steps", .ref a1), ("chosen", .ref pd), ("gaps", .ref pg)]) pd = some (.dK (numK num)) := by rw [upd_ne ndp]; exact S6 _ _ d5
      have g7 : upd H6 p (HO.ins C dx [("steps", .ref a1), ("chosen", .ref pd), ("gaps", .ref pg)]) pg = some (.lst (natV (gaps o num))) := by rw [upd_ne ngp]; exact lg
      have k7 : Keeps [p] H (upd H6 p (.ins C dx [("steps", .ref a1), ("chosen", .ref pd), ("gaps", .ref pg)])) := (k5.then S6).put (by simp)
      have t7 : SqT K (upd H6 p (HO.ins C dx [("steps", .ref a1), ("chosen", .ref pd), ("gaps", .ref pg)])) a1 (strV o) := (Keeps.one _).sqt' (fun q hq => by rw [List.mem_singleton.mp hq]; exact .ins (S6 _ _ h5)) (sqt_same S6 t5)
      generalize upd H6 p (HO.ins C dx [("steps", .ref a1), ("chosen", .ref pd), ("gaps", .ref pg)]) = H7 at h7 d7 g7 k7 t7 ⊢
      -- least
      refine ⟨_, rfl, p, C, dx, _, _, rfl, h7, T.cl, T.n3, rfl, pg, (gaps o num).map fun (n : Nat) => (n : Int), rfl, SqL.of (by rw [g7, natI]), by rw [List.length_map, gaps_len]; omega, fun m hm hmin => ?_⟩
      obtain ⟨m0, hm0, rfl⟩ := List.mem_map.mp hm
      have hmn : mn (gaps o num) = m0 := mn_eq hm0 fun x hx => by
        have := hmin _ (List.mem_map.mpr ⟨x, hx, rfl⟩)
        omega
      rw [← hmn]
      clear hmin hm hmn hm0 m0
      refine ⟨_, rfl, p, C, dx, _, rfl, h7, T.cl, T.n4, by show 3 < 1000; decide, ?_⟩
      rw [pf3]
      have h8 : upd H7 p (HO.ins C dx [("steps", .ref a1), ("chosen", .ref pd), ("gaps", .ref pg), ("least", .int (mn (gaps o num) : Nat))]) p = some (.ins C dx [("steps", .ref a1), ("chosen", .ref pd), ("gaps", .ref pg), ("least", .int (mn (gaps o num) : Nat))]) := upd_same
      have d8 : upd H7 p (HO.ins C dx [("steps", .ref a1), ("chosen", .ref pd), ("gaps", .ref pg), ("least", .int (mn (gaps o num) : Nat))]) pd = some (.dK (numK num)) := by rw [upd_ne ndp]; exact d7
      have g8 : upd H7 p (HO.ins C dx [("steps", .ref a1), ("chosen", .ref pd), ("gaps", .ref pg), ("least", .int (mn (gaps o num) : Nat))]) pg = some (.lst (natV (gaps o num))) := by rw [upd_ne ngp]; exact g7
      have k8 : Keeps [p] H (upd H7 p (.ins C dx [("steps", .ref a1), ("chosen", .ref pd), ("gaps", .ref pg), ("least", .int (mn (gaps o num) : Nat))])) := k7.put (by simp)
      have t8 : SqT K (upd H7 p (HO.ins C dx [("steps", .ref a1), ("chosen", .ref pd), ("gaps", .ref pg), ("least", .int (mn (gaps o num) : Nat))])) a1 (strV o) := (Keeps.one _).sqt' (fun q hq => by rw [List.mem_singleton.mp hq]; exact .ins h7) t7
      generalize upd H7 p (HO.ins C dx [("steps", .ref a1), ("chosen", .ref pd), ("gaps", .ref pg), ("least", .int (mn (gaps o num) : Nat))]) = H8 at h8 d8 g8 k8 t8 ⊢
      -- first, last
      refine ⟨_, rfl, p, C, dx, _, _, rfl, h8, T.cl, T.n3, rfl, _, rfl, p, C, dx, _, _, rfl, h8, T.cl, T.n4, rfl, pg, gaps o num, mn (gaps o num), rfl, SqL.of g8, mn_mem (gaps_ne o num), by rw [gaps_len]; omega, fun q H9 S9 hq lq => ?_⟩
      refine ⟨q, _, rfl, SqT.of lq, rfl, _, _, rfl, _, _, rfl, rfl, ?_⟩
      have h9 := S9 _ _ h8
      -- closest
      refine ⟨_, rfl, _, rfl, p, C, dx, _, rfl, h9, T.cl, T.n5, by show 4 < 1000; decide, ?_⟩
      rw [pf4]
      have nqp : q ≠ p := (ne_by h8 hq).symm
      have h10 : upd H9 p (HO.ins C dx [("steps", .ref a1), ("chosen", .ref pd), ("gaps", .ref pg), ("least", .int (mn (gaps o num) : Nat)), ("closest", .int (firstAt (gaps o num) (mn (gaps o num)) : Nat))]) p = some (.ins C dx [("steps", .ref a1), ("chosen", .ref pd), ("gaps", .ref pg), ("least", .int (mn (gaps o num) : Nat)), ("closest", .int (firstAt (gaps o num) (mn (gaps o num)) : Nat))]) := upd_same
      have d10 : upd H9 p (HO.ins C dx [("steps", .ref a1), ("chosen", .ref pd), ("gaps", .ref pg), ("least", .int (mn (gaps o num) : Nat)), ("closest", .int (firstAt (gaps o num) (mn (gaps o num)) : Nat))]) pd = some (.dK (numK num)) := by rw [upd_ne ndp]; exact S9 _ _ d8
      have g10 : upd H9 p (HO.ins C dx [("steps", .ref a1), ("chosen", .ref pd), ("gaps", .ref pg), ("least", .int (mn (gaps o num) : Nat)), ("closest", .int (firstAt (gaps o num) (mn (gaps o num)) : Nat))]) pg = some (.lst (natV (gaps o num))) := by rw [upd_ne ngp]; exact S9 _ _ g8
      have k10 : Keeps [p] H (upd H9 p (.ins C dx [("steps", .ref a1), ("chosen", .ref pd), ("gaps", .ref pg), ("least", .int (mn (gaps o num) : Nat)), ("closest", .int (firstAt (gaps o num) (mn (gaps o num)) : Nat))])) := (k8.then S9).put (by simp)
      have t10 : SqT K (upd H9 p (HO.ins C dx [("steps", .ref a1), ("chosen", .ref pd), ("gaps", .ref pg), ("least", .int (mn (gaps o num) : Nat)), ("closest", .int (firstAt (gaps o num) (mn (gaps o num)) : Nat))])) a1 (strV o) := (Keeps.one _).sqt' (fun q hq => by rw [List.mem_singleton.mp hq]; exact .ins h9) (sqt_same S9 t8)
      generalize upd H9 p (HO.ins C dx [("steps", .ref a1), ("chosen", .ref pd), ("gaps", .ref pg), ("least", .int (mn (gaps o num) : Nat)), ("closest", .int (firstAt (gaps o num) (mn (gaps o num)) : Nat))]) = H10 at h10 d10 g10 k10 t10 ⊢
      clear lq h9 S9 h8 d8 g8 k8 t8 h7 d7 g7 k7 t7
      -- shown
      refine ⟨_, rfl, p, C, dx, _, _, rfl, h10, T.cl, T.n4, rfl, rfl, _, rfl, ite2 (fun z => ?_) (fun z => ?_)⟩
      · have z : mn (gaps o num) = 0 := by
          have := V.int.inj (of_decide_eq_true z)
          omega
        refine ⟨_, rfl, _, rfl, by show 2 ≤ sizeLine; decide, fun t ht => ?_⟩
        have ntp : t ≠ p := (ne_by h10 ht).symm
        refine ⟨_, rfl, p, C, dx, _, rfl, by rw [upd_ne ntp.symm]; exact h10, T.cl, T.n6, by show 5 < 1000; decide, ?_⟩
        rw [pf5]
        refine k _ ((k10.new ht).put (by simp)) ⟨dx, a1, pd, pg, .ref t, upd_same, ?_, ?_, ?_, ?_⟩ (fun _ _ _ _ _ e => (flds_chosen (show some (HO.ins C dx (flds a1 pd pg (mn (gaps o num)) (firstAt (gaps o num) (mn (gaps o num))) (.ref t))) = _ from upd_same.symm.trans e)) ▸ hpd0)
        · exact (((Keeps.refl [p] _).new ht).put (by simp)).sqt' (fun q hq => by rw [List.mem_singleton.mp hq]; exact .ins h10) t10
        · rw [upd_ne ndp, upd_ne (ne_by d10 ht)]
          exact d10
        · rw [upd_ne ngp, upd_ne (ne_by g10 ht)]
          exact g10
        · unfold Shown
          rw [if_pos z]
          refine ⟨t, rfl, ?_⟩
          rw [upd_ne ntp, upd_same, z]
      · have z : ¬ mn (gaps o num) = 0 := fun e => z (decide_eq_true (by rw [e]; rfl))
        refine ⟨_, rfl, p, C, dx, _, rfl, h10, T.cl, T.n6, by show 5 < 1000; decide, ?_⟩
        rw [pf5]
        refine k _ (k10.put (by simp)) ⟨dx, a1, pd, pg, .non, upd_same, ?_, ?_, ?_, ?_⟩ (fun _ _ _ _ _ e => (flds_chosen (show some (HO.ins C dx (flds a1 pd pg (mn (gaps o num)) (firstAt (gaps o num) (mn (gaps o num))) .non)) = _ from upd_same.symm.trans e)) ▸ hpd0)
        · exact (Keeps.one _).sqt' (fun q hq => by rw [List.mem_singleton.mp hq]; exact .ins h10) t10
        · rw [upd_ne ndp]
          exact d10
        · rw [upd_ne ngp]
          exact g10
        · unfold Shown
          rw [if_neg z]
end
end K41
set_option Elab.async false
set_option linter.all false
set_option maxRecDepth 100000
set_option maxHeartbeats 4000000
/-! lists of texts, of numbers compared -/
namespace EX
open PySem L2 PyProof.Rows
theorem dpAll_strs {K : PySem.W.Frag} {H : Hp} : ∀ o : List Str, DpAll K H (o.map V.str) (o.map PyData.str)
  | [] => .nil
  | s :: o => .cons (.str s) (dpAll_strs o)
theorem dpAll_ints {K : PySem.W.Frag} {H : Hp} : ∀ o : List Int, DpAll K H (o.map V.int) (o.map PyData.int)
  | [] => .nil
  | s :: o => .cons (.int s) (dpAll_ints o)
theorem eqv_strs : ∀ a b : List Str, PyData.eqvAll (a.map PyData.str) (b.map PyData.str) = decide (a = b)
  | [], [] => rfl
  | [], y :: b => rfl
  | x :: a, [] => rfl
  | x :: a, y :: b => by
    show ((x == y) && PyData.eqvAll (a.map PyData.str) (b.map PyData.str)) = _
    rw [eqv_strs a b]
    by_cases e : x = y
    · subst e
      by_cases f : a = b
      · subst f
        simp
      · simp [f]
    · simp [e]
theorem eqv_ints : ∀ a b : List Int, PyData.eqvAll (a.map PyData.int) (b.map PyData.int) = decide (a = b)
  | [], [] => rfl
  | [], y :: b => rfl
  | x :: a, [] => rfl
  | x :: a, y :: b => by
    show ((x == y) && PyData.eqvAll (a.map PyData.int) (b.map PyData.int)) = _
    rw [eqv_ints a b]
    by_cases e : x = y
    · subst e
      by_cases f : a = b
      · subst f
        simp
      · simp [f]
    · simp [e]
theorem lay_strs : ∀ a : List Str, (∀ s ∈ a, PyData.strOk s = true) → PyData.canLayAll0 (a.map PyData.str) = true
  | [], _ => rfl
  | x :: a, h => by
    show (PyData.strOk x && PyData.canLayAll0 (a.map PyData.str)) = true
    rw [lay_strs a fun s hs => h s (List.mem_cons_of_mem _ hs), h x (List.mem_cons_self ..)]
    rfl
theorem dep_strs : ∀ a : List Str, PyData.depthAll (a.map PyData.str) = 0
  | [] => rfl
  | x :: a => by
    show max 0 (PyData.depthAll (a.map PyData.str)) = 0
    rw [dep_strs a]
    rfl
theorem shaped_strsT {a : List Str} (h : ∀ s ∈ a, PyData.strOk s = true) : SeqAt.shaped (.tuple (a.map PyData.str)) = true := by
  unfold SeqAt.shaped
  show (PyData.canLayAll0 (a.map PyData.str) && decide (PyData.depthAll (a.map PyData.str) + 1 ≤ 64)) = true
  rw [lay_strs a h, dep_strs]
  rfl
theorem shaped_strsL {a : List Str} (h : ∀ s ∈ a, PyData.strOk s = true) : SeqAt.shaped (.list (a.map PyData.str)) = true := by
  unfold SeqAt.shaped
  show (PyData.canLayAll0 (a.map PyData.str) && decide (PyData.depthAll (a.map PyData.str) + 1 ≤ 64)) = true
  rw [lay_strs a h, dep_strs]
  rfl
end EX
set_option Elab.async false
set_option linter.all false
set_option maxRecDepth 100000
set_option maxHeartbeats 4000000
/-! two sorted arrangements of the same texts are one -/
namespace EX
open PySem L2 PySem.Spec PyProof.Rows
theorem rising_pw : ∀ (l : List Str) (p : Str), risingS p l = true → (p :: l).Pairwise fun a b => a.cps.toList ≤ b.cps.toList
  | [], p, _ => List.pairwise_singleton _ _
  | x :: r, p, h => by
    have h : (!ltCps x.cps.toList p.cps.toList && risingS x r) = true := h
    rw [Bool.and_eq_true, Bool.not_eq_true', ltCps_eq, decide_eq_false_iff_not] at h
    have h1 : p.cps.toList ≤ x.cps.toList := List.not_lt.mp h.1
    have ih := rising_pw r x h.2
    refine List.pairwise_cons.mpr ⟨fun y hy => ?_, ih⟩
    rcases List.mem_cons.mp hy with rfl | hy
    · exact h1
    · exact List.le_trans h1 ((List.pairwise_cons.mp ih).1 y hy)
theorem sortedS_same {a b : List Str} (hp : a.Perm b) (ha : sortedS a = true) (hb : sortedS b = true) : a = b := by
  have pw : ∀ l : List Str, sortedS l = true → l.Pairwise fun a b => a.cps.toList ≤ b.cps.toList := fun l h => by
    cases l with
    | nil => exact .nil
    | cons x r => exact rising_pw r x h
  refine hp.eq_of_pairwise (fun x y _ _ h1 h2 => ?_) (pw a ha) (pw b hb)
  have e : x.cps.toList = y.cps.toList := List.le_antisymm h1 h2
  cases x
  cases y
  congr 1
  exact Array.toList_inj.mp e
end EX
set_option Elab.async false
set_option linter.all false
set_option maxRecDepth 100000
set_option maxHeartbeats 4000000
/-! x | y, x & y of one's own class, both of it -/
namespace EX
open PySem L2 PySem.Spec PyProof.Rows
def rBinO (C : Addr) (sp : Sp) (E : XK) : R2 := fun x y H Q => ∃ a b dx dy fs gs, x = .ref a ∧ y = .ref b ∧ H a = some (.ins C dx fs) ∧ H b = some (.ins C dy gs) ∧ sp [.ref a, .ref b] H Q E
theorem op_binO {X : Cx} {CX : CXT} {k : Nat} {C : Addr} {op : Operator} {nm : Str} {ps : List Str} {sp : Sp} {E : XK} (D : Dun X.prog X.w X.K X.mg X.base CX k C nm ps sp) (hn : PySem.dunder op.info.2 = nm) (sf : PySem.W.selfFirst X.K C = true) (hr : Room k X.A) (hx : Passes CX X E) :
    OpR X (binaryOp op) (rBinO C sp E) := by
  intro pins s σ H x y v u Q I rx ry h
  obtain ⟨a, b, dx, dy, fs, gs, ex, ey, ea, eb, q⟩ := h
  subst ex
  subst ey
  obtain rfl : v = Value.ref a := rx
  obtain rfl : u = Value.ref b := ry
  obtain ⟨f, fd, at_, hf, hfi, F, hb⟩ := D.ex
  obtain ⟨od, J⟩ := inst_at I ea
  obtain ⟨od2, J2⟩ := inst_at I eb
  obtain ⟨m, hF⟩ := I.fr
  refine PySem.W.binop_K hF I.ok.mod.kin J J2.type sf (by rw [hn]; exact at_) hf (wpAny_mono (run_in F hr I.env0 hb hx I (.cons (vref a) (.cons (vref b) .nil)) q) ?_ fun _ _ z => z)
  rintro r s1 ⟨z, H1, I1, rz, q1⟩
  exact SlX.cmpback rz ⟨z, H1, I1, rz, q1⟩
end EX
set_option Elab.async false
set_option linter.all false
set_option maxRecDepth 100000
set_option maxHeartbeats 4000000
/-! methods, properties, instances of one's own classes, each as one fact -/
namespace EX
open PySem L2 PyProof.Rows
structure MtAt (P : Program) (w : World) (K : PySem.W.Frag) (mg : Str → Option Value) (base : Heap) (CX : CXT) (k : Nat) (C : Addr) (m : Str) (ps : List Str) (sp : Sp) : Prop where
  c : Cls K C
  ex : ∃ (f : Addr) (fd : FuncData), Meth K C m f ∧ FnOk P w K mg base CX k f fd ps sp ∧ Binds K fd ps []
structure PrAt (P : Program) (w : World) (K : PySem.W.Frag) (mg : Str → Option Value) (base : Heap) (k : Nat) (C : Addr) (m : Str) (ps : List Str) (sp : Sp) : Prop where
  c : Cls K C
  ex : ∃ (p f : Addr) (fd : FuncData), PropOf K C m p f ∧ FnOk P w K mg base CX0 k f fd ps sp ∧ Binds K fd ps []
structure MkAt (P : Program) (w : World) (K : PySem.W.Frag) (mg : Str → Option Value) (base : Heap) (CX : CXT) (k : Nat) (x : Str) (ps : List Str) (C : Addr) (sp : Sp) : Prop where
  m : mg x = some (.ref C)
  ex : ∃ (f : Addr) (fd : FuncData), Mk K C f ∧ FnOk P w K mg base CX k f fd ps sp ∧ Binds K fd ps []
section
variable {X : Cx} {e o : Expr} {es : List Expr} {t : TA} {ta : TE} {p pos apos : Pos} {x m : Str} {k : Nat} {ps : List Str} {sp : Sp} {C : Addr}
theorem pe_mtD {pl : Sem Bool} (D : MtAt X.prog X.w X.K X.mg X.base CX0 k C m ps sp) (hr : Room k X.A) (he : PE X o ta) (ha : PA X (e :: es) t)
    (hst : starEach (e :: es) X.env = (false, eval e X.env) :: starEach es X.env := by rfl) (hpl : (backTo pos (starEach es X.env)).any (·.1) = false := by rfl)
    (ht : eval (.Call (.Attribute o m apos) (e :: es) [] pos) X.env = (do
      let ov ← eval o X.env
      standAt apos.atName
      let (f, first) ← holding [ov] (getMethod ov m pl)
      callWith pos f first (backTo pos (starEach (e :: es) X.env)) (backToKw pos (keywordEach [] X.env))) := by rfl) : PE X (.Call (.Attribute o m apos) (e :: es) [] pos) (tMeth C m sp [] E0 ta t) := by
  obtain ⟨f, fd, hm, F, b⟩ := D.ex
  exact pe_meth (pl := pl) he D.c hm F hr b .nil pass0 ha hst hpl ht
theorem pe_mtD0 {pl : Sem Bool} (D : MtAt X.prog X.w X.K X.mg X.base CX0 k C m ps sp) (hr : Room k X.A) (he : PE X o ta)
    (ht : eval (.Call (.Attribute o m apos) [] [] pos) X.env = (do
      let ov ← eval o X.env
      standAt apos.atName
      let (f, first) ← holding [ov] (getMethod ov m pl)
      callWith pos f first (backTo pos (starEach [] X.env)) (backToKw pos (keywordEach [] X.env))) := by rfl) : PE X (.Call (.Attribute o m apos) [] [] pos) (tMeth C m sp [] E0 ta tNil) := by
  obtain ⟨f, fd, hm, F, b⟩ := D.ex
  exact pe_meth0 (pl := pl) he D.c hm F hr b .nil pass0 ht
theorem pe_prD (D : PrAt X.prog X.w X.K X.mg X.base k C m ps sp) (hr : Room (k + 1) X.A) (he : PE X e ta) (hab : attributeBase e m X.env (eval e X.env) = eval e X.env := by rfl) : PE X (.Attribute e m pos) (tProp C sp [] E0 ta) := by
  obtain ⟨q, f, fd, hp, F, b⟩ := D.ex
  exact pe_prop he D.c hp F hr b .nil pass0 hab
theorem pe_mkC (D : MkAt X.prog X.w X.K X.mg X.base CX0 k x ps C sp) (hr : Room (k + 1) X.A) (ha : PA X (e :: es) t) (hg : Gl X x := by rfl) (hdb : (x == ("__debug__" : Str)) = false := by decide)
    (he : starEach (e :: es) X.env = (false, eval e X.env) :: starEach es X.env := by rfl) (hpl : (backTo pos (starEach es X.env)).any (·.1) = false := by rfl) : PE X (.Call (.Name x p) (e :: es) [] pos) (tMake C sp [] E0 t) := by
  obtain ⟨f, fd, M, F, b⟩ := D.ex
  exact pe_make M F hr hg D.m b .nil pass0 ha hdb he hpl
end
def rMax2 : List V → Hp → VK → Prop := fun xs H Q => ∃ i j, xs = [.int i, .int j] ∧ Q (.int (if j > i then j else i)) H
def rMin2 : List V → Hp → VK → Prop := fun xs H Q => ∃ i j, xs = [.int i, .int j] ∧ Q (.int (if j < i then j else i)) H
def rLenSq (K : PySem.W.Frag) : List V → Hp → VK → Prop := fun xs H Q => ∃ p ys, xs = [.ref p] ∧ (SqL K H p ys ∨ SqT K H p ys) ∧ Q (.int ys.length) H
def rAbs : List V → Hp → VK → Prop := fun xs H Q => ∃ i, xs = [.int i] ∧ Q (.int (if i < 0 then -i else i)) H
end EX
set_option Elab.async false
set_option linter.all false
set_option maxRecDepth 100000
set_option maxHeartbeats 4000000
namespace K41
open PySem L2 EX PyProof.Rows M41
theorem isW_ok {s : Str} (h : isW s = true) : PyData.strOk s = true := by
  unfold isW at h
  simp only [Bool.and_eq_true] at h
  have h1 : (s.cps.all fun c => decide (c < 128)) = true := h.2.1
  show (s.cps.all fun c => decide (c < 0x110000)) = true
  rw [Array.all_eq_true] at h1 ⊢
  intro i hi
  have := of_decide_eq_true (h1 i hi)
  exact decide_eq_true (by omega)
/-- the cut's numbers -/
def spNumbers (K : PySem.W.Frag) (C : Addr) : Sp := fun vs H Q _ => ∃ (p : Addr) (o : List Str) (num : Num Str), vs = [.ref p] ∧ CutAt K C H p o num ∧ ∀ q, H q = none → Q (.ref q) (upd H q (.dK (numK num)))
def spSpread (K : PySem.W.Frag) (C : Addr) : Sp := fun vs H Q _ => ∃ (p : Addr) (o : List Str) (num : Num Str), vs = [.ref p] ∧ CutAt K C H p o num ∧ Q (.int (mn (gaps o num) : Nat)) H
def spNear (K : PySem.W.Frag) (C : Addr) : Sp := fun vs H Q _ => ∃ (p : Addr) (o : List Str) (num : Num Str), vs = [.ref p] ∧ CutAt K C H p o num ∧ Q (.int (firstAt (gaps o num) (mn (gaps o num)) : Nat)) H
def spSeen (K : PySem.W.Frag) (C : Addr) : Sp := fun vs H Q _ => ∃ (p : Addr) (o : List Str) (num : Num Str), vs = [.ref p] ∧ CutAt K C H p o num ∧ ∀ v, Shown H o num v → Q v H
/-- check_operand where both may be joined -/
def spOper (K : PySem.W.Frag) (C : Addr) : Sp := fun vs H Q _ => ∃ (p q : Addr) (o : List Str) (n1 n2 : Num Str), vs = [.ref p, .ref q] ∧ CutAt K C H p o n1 ∧ CutAt K C H q o n2 ∧ (∀ s ∈ o, isW s = true) ∧ n1.map (·.1) = n2.map (·.1) ∧ (∀ z ∈ n1, isW z.1 = true) ∧ n1.length < 64 ∧ ∀ H', Same H H' → Q .non H'
abbrev sCN : Stmt := inClass (top 16) 2
theorem scCN : FnScope ["self"] ["self"] (defScope sCN) := ⟨rfl, rfl, rfl, by decide +kernel, rfl, by decide +kernel, by decide +kernel⟩
abbrev sCS : Stmt := inClass (top 16) 3
theorem scCS : FnScope ["self"] ["self"] (defScope sCS) := ⟨rfl, rfl, rfl, by decide +kernel, rfl, by decide +kernel, by decide +kernel⟩
abbrev sCR : Stmt := inClass (top 16) 4
theorem scCR : FnScope ["self"] ["self"] (defScope sCR) := ⟨rfl, rfl, rfl, by decide +kernel, rfl, by decide +kernel, by decide +kernel⟩
abbrev sCE : Stmt := inClass (top 16) 5
theorem scCE : FnScope ["self"] ["self"] (defScope sCE) := ⟨rfl, rfl, rfl, by decide +kernel, rfl, by decide +kernel, by decide +kernel⟩
abbrev sCO : Stmt := inClass (top 16) 7
theorem scCO : FnScope ["self", "other"] ["self", "other"] (defScope sCO) := ⟨rfl, rfl, rfl, by decide +kernel, rfl, by decide +kernel, by decide +kernel⟩
section
variable {P : Program} {w : World} {K : PySem.W.Frag} {mg : Str → Option Value} {base : Heap}
theorem ok_spread {C : Addr} {f : Addr} {fd : FuncData} (F : Fun K "spread" "Cut.spread" sCS f fd) (B : Bn mg) (T : CutC K C) : FnOk P w K mg base CX0 1 f fd ["self"] (spSpread K C) := by
  refine F.ok scCS (fun vs H Q E h => ?_) (fun cdv A outer s H vs Q E hr h => ?_)
  · obtain ⟨p, o, num, rfl, _⟩ := h
    rfl
  · obtain ⟨p, o, num, rfl, hc, k⟩ := h
    obtain ⟨dx, a, d, g, t, h1, h2, h3, h4, h5⟩ := hc.ex
    refine ⟨_, (pss_one (ps_ret (pe_fld (pv 0) rfl))), ?_⟩
    exact ⟨_, rfl, p, C, dx, _, _, rfl, h1, T.cl, T.n4, rfl, k⟩
theorem ok_near {C : Addr} {f : Addr} {fd : FuncData} (F : Fun K "nearest" "Cut.nearest" sCR f fd) (B : Bn mg) (T : CutC K C) : FnOk P w K mg base CX0 1 f fd ["self"] (spNear K C) := by
  refine F.ok scCR (fun vs H Q E h => ?_) (fun cdv A outer s H vs Q E hr h => ?_)
  · obtain ⟨p, o, num, rfl, _⟩ := h
    rfl
  · obtain ⟨p, o, num, rfl, hc, k⟩ := h
    obtain ⟨dx, a, d, g, t, h1, h2, h3, h4, h5⟩ := hc.ex
    refine ⟨_, (pss_one (ps_ret (pe_fld (pv 0) rfl))), ?_⟩
    exact ⟨_, rfl, p, C, dx, _, _, rfl, h1, T.cl, T.n5, rfl, k⟩
theorem ok_seen {C : Addr} {f : Addr} {fd : FuncData} (F : Fun K "seen" "Cut.seen" sCE f fd) (B : Bn mg) (T : CutC K C) : FnOk P w K mg base CX0 1 f fd ["self"] (spSeen K C) := by
  refine F.ok scCE (fun vs H Q E h => ?_) (fun cdv A outer s H vs Q E hr h => ?_)
  · obtain ⟨p, o, num, rfl, _⟩ := h
    rfl
  · obtain ⟨p, o, num, rfl, hc, k⟩ := h
    obtain ⟨dx, a, d, g, t, h1, h2, h3, h4, h5⟩ := hc.ex
    refine ⟨_, (pss_one (ps_ret (pe_fld (pv 0) rfl))), ?_⟩
    exact ⟨_, rfl, p, C, dx, _, _, rfl, h1, T.cl, T.n6, rfl, k _ h5⟩
theorem ok_numbers {C : Addr} {f : Addr} {fd : FuncData} (F : Fun K "numbers" "Cut.numbers" sCN f fd) (B : Bn mg) (T : CutC K C) : FnOk P w K mg base CX0 1 f fd ["self"] (spNumbers K C) := by
  refine F.ok scCN (fun vs H Q E h => ?_) (fun cdv A outer s H vs Q E hr h => ?_)
  · obtain ⟨p, o, num, rfl, _⟩ := h
    rfl
  · obtain ⟨p, o, num, rfl, hc, k⟩ := h
    obtain ⟨dx, a, d, g, t, h1, h2, h3, h4, h5⟩ := hc.ex
    refine ⟨_, (pss_one (ps_ret (pe_callTy call_dictD (by rfl) B.dict (by decide +kernel) (pa_cons (pe_fld (pv 0) rfl) pa_nil)))), ?_⟩
    exact ⟨_, rfl, p, C, dx, _, _, rfl, h1, T.cl, T.n2, rfl, d, _, rfl, .inl h3, k⟩
theorem ok_oper {C : Addr} {f : Addr} {fd : FuncData} (F : Fun K "check_operand" "Cut.check_operand" sCO f fd) (B : Bn mg) (T : CutC K C) (IC : C8.InsC K C) (mC : mg "Cut" = some (.ref C)) : FnOk P w K mg base CX0 1 f fd ["self", "other"] (spOper K C) := by
  refine F.ok scCO (fun vs H Q E h => ?_) (fun cdv A outer s H vs Q E hr h => ?_)
  · obtain ⟨p, q, o, n1, n2, rfl, _⟩ := h
    rfl
  · obtain ⟨p, q, o, n1, n2, rfl, hc, hd, hw, hk, hz, hl, k⟩ := h
    have hu := hu_of hr
    have hu64 : _ + 64 < cLine := hr.units
    obtain ⟨dx, a, d, g, t, h1, h2, h3, h4, h5⟩ := hc.ex
    obtain ⟨dx', a', d', g', t', h1', h2', h3', h4', h5'⟩ := hd.ex
    refine ⟨_, (pss_cons (ps_if (PW.pt (pw_or (pt_not (pt_val (pe_callB (C8.call_isC IC) (by rfl) B.isi PyProof.Rows.boot_isinstance (pa_cons (pv 1) (pa_cons (pe_glob (v := .ref C) (by rfl) mC rfl) pa_nil))))) (pw_or1 (pt_cmpR (op_neD hu64) (pe_fld (pv 0) rfl) (pe_fld (pv 1) rfl) (nomark _))))) (pss_one ps_never) pss_nil)
        (pss_one (ps_if (pt_cmpR (op_neD hu64) (pe_callB cr_sortedS (by rfl) B.sorted (by decide +kernel) (pa_cons (pe_callTy (call_listD rfl) (by rfl) B.list (by decide +kernel) (pa_cons (pe_fld (pv 0) rfl) pa_nil)) pa_nil)) (pe_callB cr_sortedS (by rfl) B.sorted (by decide +kernel) (pa_cons (pe_callTy (call_listD rfl) (by rfl) B.list (by decide +kernel) (pa_cons (pe_fld (pv 1) rfl) pa_nil)) pa_nil)) (nomark _)) (pss_one ps_never) pss_nil))), ?_⟩
    refine ⟨_, rfl, q, _, _, rfl, h1', _, rfl, iteF ?_⟩
    refine ⟨_, rfl, p, C, dx, _, _, rfl, h1, T.cl, T.n1, rfl, _, rfl, q, C, dx', _, _, rfl, h1', T.cl, T.n1, rfl, _, _, .tup h2 (dpAll_strs o), .tup h2' (dpAll_strs o), shaped_strsT fun s hs => isW_ok (hw s hs), shaped_strsT fun s hs => isW_ok (hw s hs), _, rfl, ifF ?_ ?_⟩
    · show (!PyData.eqvAll (o.map PyData.str) (o.map PyData.str)) = false
      rw [eqv_strs, decide_eq_true rfl]
      rfl
    have e1 : (numK n1).map (fun kv => kV kv.1) = (n1.map (·.1)).map V.str := by
      unfold numK
      rw [List.map_map, List.map_map]
      rfl
    have e2 : (numK n2).map (fun kv => kV kv.1) = (n1.map (·.1)).map V.str := by
      rw [hk]
      unfold numK
      rw [List.map_map, List.map_map]
      rfl
    have hok : ∀ s ∈ n1.map (·.1), PyData.strOk s = true := fun s hs => by
      obtain ⟨z, hz', rfl⟩ := List.mem_map.mp hs
      exact isW_ok (hz z hz')
    refine ⟨_, rfl, p, C, dx, _, _, rfl, h1, T.cl, T.n2, rfl, d, _, rfl, .inl h3, fun l1 hl1 => ?_⟩
    rw [e1]
    have s1 : Same H (upd H l1 (.lst ((n1.map (·.1)).map V.str))) := Same.upd hl1
    have b1 : upd H l1 (HO.lst ((n1.map (·.1)).map V.str)) l1 = some (.lst ((n1.map (·.1)).map V.str)) := upd_same
    generalize upd H l1 (HO.lst ((n1.map (·.1)).map V.str)) = H1 at s1 b1 ⊢
    refine ⟨l1, _, rfl, SqL.of b1, by rw [List.length_map]; exact hl, fun y1 q1 p1 r1 hq1 => ?_⟩
    have s2 : Same H1 (upd H1 q1 (.lst (y1.map V.str))) := Same.upd hq1
    have b2 : upd H1 q1 (HO.lst (y1.map V.str)) q1 = some (.lst (y1.map V.str)) := upd_same
    generalize upd H1 q1 (HO.lst (y1.map V.str)) = H2 at s2 b2 ⊢
    have s12 := Same.trans s1 s2
    refine ⟨_, rfl, q, C, dx', _, _, rfl, s12 _ _ h1', T.cl, T.n2, rfl, d', _, rfl, .inl (s12 _ _ h3'), fun l2 hl2 => ?_⟩
    rw [e2]
    have s3 : Same H2 (upd H2 l2 (.lst ((n1.map (·.1)).map V.str))) := Same.upd hl2
    have b3 : upd H2 l2 (HO.lst ((n1.map (·.1)).map V.str)) l2 = some (.lst ((n1.map (·.1)).map V.str)) := upd_same
    generalize upd H2 l2 (HO.lst ((n1.map (·.1)).map V.str)) = H3 at s3 b3 ⊢
    refine ⟨l2, _, rfl, SqL.of b3, by rw [List.length_map]; exact hl, fun y2 q2 p2 r2 hq2 => ?_⟩
    have s4 : Same H3 (upd H3 q2 (.lst (y2.map V.str))) := Same.upd hq2
    have b4 : upd H3 q2 (HO.lst (y2.map V.str)) q2 = some (.lst (y2.map V.str)) := upd_same
    generalize upd H3 q2 (HO.lst (y2.map V.str)) = H4 at s4 b4 ⊢
    obtain rfl : y1 = y2 := sortedS_same (p1.trans p2.symm) r1 r2
    have hok1 : ∀ s ∈ y1, PyData.strOk s = true := fun s hs => hok s (p1.mem_iff.mp hs)
    refine ⟨_, _, .lst (SqL.of (s4 _ _ (s3 _ _ b2))) (dpAll_strs y1), .lst (SqL.of b4) (dpAll_strs y1), shaped_strsL hok1, shaped_strsL hok1, _, rfl, ifF ?_ (k _ (Same.trans s12 (Same.trans s3 s4)))⟩
    show (!PyData.eqvAll (y1.map PyData.str) (y1.map PyData.str)) = false
    rw [eqv_strs, decide_eq_true rfl]
    rfl
end
end K41
set_option Elab.async false
set_option linter.all false
set_option maxRecDepth 100000
set_option maxHeartbeats 4000000
namespace K41
open PySem L2 EX PyProof.Rows M41
/-- the number of a key -/
def gvN (num : Num Str) (s : Str) : Nat := ((num.find? fun p => decide (p.1 = s)).map (·.2)).getD 0
theorem gvN_mem {num : Num Str} {s : Str} {n : Nat} (hn : (num.map (·.1)).Nodup) (h : (s, n) ∈ num) : gvN num s = n := by
  induction num with
  | nil => cases h
  | cons q t ih =>
    simp only [List.map_cons, List.nodup_cons] at hn
    unfold gvN
    rw [List.find?_cons]
    rcases List.mem_cons.mp h with e | e
    · subst e
      simp
    · have : q.1 ≠ s := fun z => hn.1 (z ▸ List.mem_map.mpr ⟨_, e, rfl⟩)
      have hd : decide (q.1 = s) = false := decide_eq_false this
      simp only [hd]
      exact ih hn.2 e
theorem mem_key {num : Num Str} {s : Str} (h : s ∈ num.map (·.1)) : ∃ n, (s, n) ∈ num := by
  obtain ⟨⟨a, n⟩, h1, rfl⟩ := List.mem_map.mp h
  exact ⟨n, h1⟩
theorem numK_gv {num : Num Str} {s : Str} (hn : (num.map (·.1)).Nodup) (h : s ∈ num.map (·.1)) : valV (numK num) (Sum.inr s) = some (.int (gvN num s : Nat)) := by
  obtain ⟨n, hm⟩ := mem_key h
  rw [numK_val hn hm, gvN_mem hn hm]
def joinN (f : Nat → Nat → Nat) (n1 n2 : Num Str) : Num Str := n1.map fun p => (p.1, f p.2 (gvN n2 p.1))
theorem joinN_keys (f : Nat → Nat → Nat) (n1 n2 : Num Str) : (joinN f n1 n2).map (·.1) = n1.map (·.1) := by
  unfold joinN
  rw [List.map_map]
  rfl
theorem joinN_ok {f : Nat → Nat → Nat} {o : List Str} {n1 n2 : Num Str} (hf : ∀ a b m, a ≤ m → b ≤ m → f a b ≤ m) (h1 : NumOk o n1) (h2 : NumOk o n2) (hk : n1.map (·.1) = n2.map (·.1)) : NumOk o (joinN f n1 n2) := by
  refine ⟨by rw [joinN_keys]; exact h1.nd, fun z => h1.ne (List.map_eq_nil_iff.mp z), fun p hp => ?_, fun p hp => ?_, by unfold joinN; rw [List.length_map]; exact h1.sz⟩
  · obtain ⟨q, hq, rfl⟩ := List.mem_map.mp hp
    exact h1.wd q hq
  · obtain ⟨q, hq, rfl⟩ := List.mem_map.mp hp
    refine hf _ _ _ (h1.le q hq) ?_
    have hk2 : q.1 ∈ n2.map (·.1) := hk ▸ List.mem_map.mpr ⟨q, hq, rfl⟩
    obtain ⟨n, hm⟩ := mem_key hk2
    rw [gvN_mem h2.nd hm]
    exact h2.le _ hm
theorem put_snoc {num : Num Str} {f : Str × Nat → V} {i : Nat} {s : Str} {n : Nat} (hn : (num.map (·.1)).Nodup) (h : num[i]? = some (s, n)) :
    putK ((num.take i).map fun p => ((Sum.inr p.1 : Key), f p)) (Sum.inr s) (f (s, n)) = (num.take (i + 1)).map fun p => ((Sum.inr p.1 : Key), f p) := by
  have hno : s ∉ (num.take i).map (·.1) := fun z => by
    obtain ⟨q, hq, e⟩ := List.mem_map.mp z
    obtain ⟨j, hj⟩ := List.mem_iff_getElem?.mp hq
    rw [List.getElem?_take] at hj
    split at hj
    · rename_i hlt
      have a : (num.map (·.1))[j]? = some s := by
        rw [List.getElem?_map, hj]
        exact congrArg some e
      have b : (num.map (·.1))[i]? = some s := by
        rw [List.getElem?_map, h]
        rfl
      have := nodup_ix hn a b
      omega
    · cases hj
  rw [putK_new, List.take_add_one, h, List.map_append]
  · rfl
  · unfold valV
    have : ((num.take i).map fun p => ((Sum.inr p.1 : Key), f p)).find? (fun kv => decide (kv.1 = Sum.inr s)) = none := by
      rw [List.find?_eq_none]
      intro kv hkv
      obtain ⟨p, hp, rfl⟩ := List.mem_map.mp hkv
      rw [decide_eq_true_eq]
      exact fun z => hno (Sum.inr.inj z ▸ List.mem_map.mpr ⟨p, hp, rfl⟩)
    rw [this]
    rfl
/-- a | b, a & b of cuts of the same order and keys -/
def spJoin (K : PySem.W.Frag) (C : Addr) (f : Nat → Nat → Nat) : Sp := fun vs H Q _ => ∃ (p q : Addr) (o : List Str) (n1 n2 : Num Str), vs = [.ref p, .ref q] ∧ CutAt K C H p o n1 ∧ CutAt K C H q o n2 ∧ (∀ s ∈ o, isW s = true) ∧ n1.map (·.1) = n2.map (·.1) ∧ NumOk o n1 ∧ NumOk o n2 ∧ n1.length < 64 ∧ o.length ≤ 5000 ∧
  ∀ r H', Same H H' → H r = none → CutAt K C H' r o (joinN f n1 n2) → Q (.ref r) H'
abbrev sOr : Stmt := inClass (top 16) 8
def sOrN : List Str := ["self", "other", "key"]
theorem scOr : FnScope ["self", "other", "key"] ["self", "other"] (defScope sOr) := ⟨rfl, rfl, rfl, by decide +kernel, rfl, by decide +kernel, by decide +kernel⟩
abbrev sAn : Stmt := inClass (top 16) 9
def sAnN : List Str := ["self", "other", "key"]
theorem scAn : FnScope ["self", "other", "key"] ["self", "other"] (defScope sAn) := ⟨rfl, rfl, rfl, by decide +kernel, rfl, by decide +kernel, by decide +kernel⟩
section
variable {P : Program} {w : World} {K : PySem.W.Frag} {mg : Str → Option Value} {base : Heap}
theorem ok_or {C : Addr} {f : Addr} {fd : FuncData} (F : Fun K "__or__" "Cut.__or__" sOr f fd) (B : Bn mg) (T : CutC K C) (GO : MtAt P w K mg base CX0 1 C "check_operand" ["self", "other"] (spOper K C)) (MC : MkAt P w K mg base CX0 3 "Cut" ["self", "order", "numbers"] C (spCut K C)) :
    FnOk P w K mg base CX0 5 f fd ["self", "other"] (spJoin K C max) := by
  refine F.ok scOr (fun vs H Q E h => ?_) (fun cdv A outer s H vs Q E hr h => ?_)
  · obtain ⟨p, q, o, n1, n2, rfl, _⟩ := h
    rfl
  · obtain ⟨p, q, o, n1, n2, rfl, hc, hd, hw, hk, N1, N2, hl, hlo, k⟩ := h
    have hu := hu_of hr
    have hu64 : _ + 64 < cLine := hr.units
    obtain ⟨dx0, a0, d0, g0, t0, h10, _⟩ := hc.ex
    refine ⟨_, (pss_cons (ps_expr (pe_mtD GO (hr.mono (by decide)) (pv 0) (pa_cons (pv 1) pa_nil)))
        (pss_one (ps_ret (pe_mkC MC (hr.mono (by decide)) (pa_cons (pe_fld (pv 0) rfl) (pa_cons (pe_lock (pe_dc (own := [("key", 2)]) (g := (gName 2)) (tt := tYes) (tk := (tVar 2)) (tv := (tCB rMax2 (tCons (tDGet (tFld K (tVar 0) "chosen") (tVar 2)) (tCons (tDGet (tFld K (tVar 1) "chosen") (tVar 2)) tNil)))) rfl scOr.nd (pi_keys (pe_fld (pv 0) rfl)) (blkOk_by (N := sOrN) (sc := defScope sOr) (by decide +kernel)) (fun _ _ _ _ _ => (pg_name (i := 2) scOr.nd rfl (Or.inl rfl))) (fun _ _ _ _ _ => pts_nil) (fun _ _ _ _ _ => (pv 2)) (fun _ _ _ _ _ => (pe_callB (call_max2 rfl) (by rfl) B.max PyProof.Rows.boot_max (pa_cons (pe_dget hu (pe_fld (pv 0) rfl) (pv 2) (fun _ _ => rfl)) (pa_cons (pe_dget hu (pe_fld (pv 1) rfl) (pv 2) (fun _ _ => rfl)) pa_nil)))))) pa_nil)))))), ?_⟩
    refine ⟨_, rfl, p, dx0, _, rfl, h10, rfl, _, rfl, p, q, o, n1, n2, rfl, hc, hd, hw, hk, N1.wd, hl, fun H1 S1 => ?_⟩
    obtain ⟨dx, a, d, g, t, h1, h2, h3, h4, h5⟩ := (hc.mono S1).ex
    obtain ⟨dx', a', d', g', t', h1', h2', h3', h4', h5'⟩ := (hd.mono S1).ex
    clear h4 h5 h2' h4' h5'
    refine ⟨_, rfl, p, C, dx, _, _, rfl, h1, T.cl, T.n1, rfl, ?_⟩
    have npd : p ≠ d := fun z => by rw [z, h3] at h1; cases h1
    have nqd : q ≠ d := fun z => by rw [z, h3] at h1'; cases h1'
    refine ⟨d, .dK (numK n1), h3, trivial, fun od => ?_⟩
    have l1 : upd H1 d (.frz od (.dK (numK n1))) p = some (.ins C dx (flds a d g (mn (gaps o n1)) (firstAt (gaps o n1) (mn (gaps o n1))) t)) := by rw [upd_ne npd]; exact h1
    have l1' : upd H1 d (.frz od (.dK (numK n1))) q = some (.ins C dx' (flds a' d' g' (mn (gaps o n2)) (firstAt (gaps o n2) (mn (gaps o n2))) t')) := by rw [upd_ne nqd]; exact h1'
    have l3 : upd H1 d (.frz od (.dK (numK n1))) d = some (.frz od (.dK (numK n1))) := upd_same
    have l3' : Rd (upd H1 d (.frz od (.dK (numK n1)))) d' (.dK (numK n2)) := rd_lock (.inl h3') h3
    have bk : ∀ H2, Same (upd H1 d (.frz od (.dK (numK n1)))) H2 → Same H1 (upd H2 d (.dK (numK n1))) := fun H2 z => lock_same h3 z
    generalize upd H1 d (.frz od (.dK (numK n1))) = L at l1 l1' l3 l3' bk ⊢
    refine ⟨_, rfl, p, C, dx, _, _, rfl, l1, T.cl, T.n2, rfl, d, od, rfl, .inl ⟨_, l3, fun D hD => ?_⟩⟩
    refine dc_it (walk_keys (d := d) (o := od) (kvs := numK n1)) (fun i H2 => Same L H2 ∧ H2 D = some (.dK ((n1.take i).map fun p => ((Sum.inr p.1 : Key), V.int (max p.2 (gvN n2 p.1) : Nat))))) ⟨Same.upd hD, upd_same⟩ (fun i H2 _ z => z.1 _ _ l3) ?_ ?_
    · rintro i x H0 H2 hi ⟨S, lD⟩ ⟨rfl, kk, vv, hg, rfl⟩
      obtain ⟨s', n, rfl, rfl, hn⟩ := numK_get hg
      have hmem := List.mem_of_getElem? hn
      have hk2 : s' ∈ n2.map (·.1) := hk ▸ List.mem_map.mpr ⟨_, hmem, rfl⟩
      have e1 : DGet H2 d (.str s') (some (.int (n : Int))) := .inl ⟨numK n1, Sum.inr s', .inr ⟨od, S _ _ l3⟩, rfl, (numK_val N1.nd hmem).symm⟩
      have e2 : DGet H2 d' (.str s') (some (.int (gvN n2 s' : Nat))) := .inl ⟨numK n2, Sum.inr s', rd_same S l3', rfl, (numK_gv N2.nd hk2).symm⟩
      refine ⟨rfl, _, rfl, _, rfl, p, C, dx, _, _, rfl, S _ _ l1, T.cl, T.n2, rfl, _, rfl, d, _, rfl, e1, _, rfl, q, C, dx', _, _, rfl, S _ _ l1', T.cl, T.n2, rfl, _, rfl, d', _, rfl, e2, _, _, rfl, ?_⟩
      refine ⟨_, Sum.inr s', rfl, lD, by rw [List.length_map, List.length_take, sizeLine_eq]; omega, EX.Same.updN S hD, ?_⟩
      rw [upd_same, show V.int (if (gvN n2 s' : Int) > (n : Int) then (gvN n2 s' : Int) else (n : Int)) = V.int (max n (gvN n2 s') : Nat) from congrArg V.int (by split <;> omega)]
      exact congrArg (fun l => some (HO.dK l)) (put_snoc (f := fun p => V.int (max p.2 (gvN n2 p.1) : Nat)) N1.nd hn)
    rintro H2 ⟨S2, lD⟩
    have hlt : (n1.take (numK n1).length) = n1 := List.take_of_length_le (by rw [show (numK n1).length = n1.length from List.length_map _]; exact Nat.le_refl _)
    rw [hlt, show (n1.map fun p => ((Sum.inr p.1 : Key), V.int (max p.2 (gvN n2 p.1) : Nat))) = numK (joinN max n1 n2) by unfold numK joinN; rw [List.map_map]; rfl] at lD
    refine ⟨S2 _ _ l3, ?_⟩
    have S3 := bk _ S2
    have nDd : D ≠ d := fun z => by rw [z, l3] at hD; cases hD
    have lD3 : upd H2 d (HO.dK (numK n1)) D = some (.dK (numK (joinN max n1 n2))) := by rw [upd_ne nDd]; exact lD
    generalize upd H2 d (HO.dK (numK n1)) = H3 at S3 lD3 ⊢
    refine fun x dy hx hy nxy => ?_
    have s4 : Same H3 (upd (upd H3 dy (.own x)) x (.ins C dy [])) := Same.trans (Same.upd hy) (Same.upd (by rw [upd_ne (Ne.symm nxy)]; exact hx))
    have lx : upd (upd H3 dy (.own x)) x (HO.ins C dy []) x = some (.ins C dy []) := upd_same
    generalize upd (upd H3 dy (.own x)) x (HO.ins C dy []) = H4 at s4 lx ⊢
    refine ⟨x, a, D, dy, o, joinN max n1 n2, rfl, lx, .inr (sqt_same s4 (sqt_same S3 h2)), hw, hlo, s4 _ _ lD3, joinN_ok (fun a b m => by omega) N1 N2 hk, fun H5 K5 CA _ => ⟨rfl, ?_⟩⟩
    have S13 : Same H1 H5 := (Keeps.trans (S := [x]) (Keeps.of (Same.trans S3 s4)) K5).same fun z hz => by rw [List.mem_singleton.mp hz]; exact S3.free hx
    exact k x H5 (Same.trans S1 S13) (S1.free (S3.free hx)) CA
theorem ok_and {C : Addr} {f : Addr} {fd : FuncData} (F : Fun K "__and__" "Cut.__and__" sAn f fd) (B : Bn mg) (T : CutC K C) (GO : MtAt P w K mg base CX0 1 C "check_operand" ["self", "other"] (spOper K C)) (MC : MkAt P w K mg base CX0 3 "Cut" ["self", "order", "numbers"] C (spCut K C)) :
    FnOk P w K mg base CX0 5 f fd ["self", "other"] (spJoin K C min) := by
  refine F.ok scAn (fun vs H Q E h => ?_) (fun cdv A outer s H vs Q E hr h => ?_)
  · obtain ⟨p, q, o, n1, n2, rfl, _⟩ := h
    rfl
  · obtain ⟨p, q, o, n1, n2, rfl, hc, hd, hw, hk, N1, N2, hl, hlo, k⟩ := h
    have hu := hu_of hr
    have hu64 : _ + 64 < cLine := hr.units
    obtain ⟨dx0, a0, d0, g0, t0, h10, _⟩ := hc.ex
    refine ⟨_, (pss_cons (ps_expr (pe_mtD GO (hr.mono (by decide)) (pv 0) (pa_cons (pv 1) pa_nil)))
        (pss_one (ps_ret (pe_mkC MC (hr.mono (by decide)) (pa_cons (pe_fld (pv 0) rfl) (pa_cons (pe_lock (pe_dc (own := [("key", 2)]) (g := (gName 2)) (tt := tYes) (tk := (tVar 2)) (tv := (tCB rMin2 (tCons (tDGet (tFld K (tVar 0) "chosen") (tVar 2)) (tCons (tDGet (tFld K (tVar 1) "chosen") (tVar 2)) tNil)))) rfl scAn.nd (pi_keys (pe_fld (pv 0) rfl)) (blkOk_by (N := sAnN) (sc := defScope sAn) (by decide +kernel)) (fun _ _ _ _ _ => (pg_name (i := 2) scAn.nd rfl (Or.inl rfl))) (fun _ _ _ _ _ => pts_nil) (fun _ _ _ _ _ => (pv 2)) (fun _ _ _ _ _ => (pe_callB (call_min2 rfl) (by rfl) B.min PyProof.Rows.boot_min (pa_cons (pe_dget hu (pe_fld (pv 0) rfl) (pv 2) (fun _ _ => rfl)) (pa_cons (pe_dget hu (pe_fld (pv 1) rfl) (pv 2) (fun _ _ => rfl)) pa_nil)))))) pa_nil)))))), ?_⟩
    refine ⟨_, rfl, p, dx0, _, rfl, h10, rfl, _, rfl, p, q, o, n1, n2, rfl, hc, hd, hw, hk, N1.wd, hl, fun H1 S1 => ?_⟩
    obtain ⟨dx, a, d, g, t, h1, h2, h3, h4, h5⟩ := (hc.mono S1).ex
    obtain ⟨dx', a', d', g', t', h1', h2', h3', h4', h5'⟩ := (hd.mono S1).ex
    clear h4 h5 h2' h4' h5'
    refine ⟨_, rfl, p, C, dx, _, _, rfl, h1, T.cl, T.n1, rfl, ?_⟩
    have npd : p ≠ d := fun z => by rw [z, h3] at h1; cases h1
    have nqd : q ≠ d := fun z => by rw [z, h3] at h1'; cases h1'
    refine ⟨d, .dK (numK n1), h3, trivial, fun od => ?_⟩
    have l1 : upd H1 d (.frz od (.dK (numK n1))) p = some (.ins C dx (flds a d g (mn (gaps o n1)) (firstAt (gaps o n1) (mn (gaps o n1))) t)) := by rw [upd_ne npd]; exact h1
    have l1' : upd H1 d (.frz od (.dK (numK n1))) q = some (.ins C dx' (flds a' d' g' (mn (gaps o n2)) (firstAt (gaps o n2) (mn (gaps o n2))) t')) := by rw [upd_ne nqd]; exact h1'
    have l3 : upd H1 d (.frz od (.dK (numK n1))) d = some (.frz od (.dK (numK n1))) := upd_same
    have l3' : Rd (upd H1 d (.frz od (.dK (numK n1)))) d' (.dK (numK n2)) := rd_lock (.inl h3') h3
    have bk : ∀ H2, Same (upd H1 d (.frz od (.dK (numK n1)))) H2 → Same H1 (upd H2 d (.dK (numK n1))) := fun H2 z => lock_same h3 z
    generalize upd H1 d (.frz od (.dK (numK n1))) = L at l1 l1' l3 l3' bk ⊢
    refine ⟨_, rfl, p, C, dx, _, _, rfl, l1, T.cl, T.n2, rfl, d, od, rfl, .inl ⟨_, l3, fun D hD => ?_⟩⟩
    refine dc_it (walk_keys (d := d) (o := od) (kvs := numK n1)) (fun i H2 => Same L H2 ∧ H2 D = some (.dK ((n1.take i).map fun p => ((Sum.inr p.1 : Key), V.int (min p.2 (gvN n2 p.1) : Nat))))) ⟨Same.upd hD, upd_same⟩ (fun i H2 _ z => z.1 _ _ l3) ?_ ?_
    · rintro i x H0 H2 hi ⟨S, lD⟩ ⟨rfl, kk, vv, hg, rfl⟩
      obtain ⟨s', n, rfl, rfl, hn⟩ := numK_get hg
      have hmem := List.mem_of_getElem? hn
      have hk2 : s' ∈ n2.map (·.1) := hk ▸ List.mem_map.mpr ⟨_, hmem, rfl⟩
      have e1 : DGet H2 d (.str s') (some (.int (n : Int))) := .inl ⟨numK n1, Sum.inr s', .inr ⟨od, S _ _ l3⟩, rfl, (numK_val N1.nd hmem).symm⟩
      have e2 : DGet H2 d' (.str s') (some (.int (gvN n2 s' : Nat))) := .inl ⟨numK n2, Sum.inr s', rd_same S l3', rfl, (numK_gv N2.nd hk2).symm⟩
      refine ⟨rfl, _, rfl, _, rfl, p, C, dx, _, _, rfl, S _ _ l1, T.cl, T.n2, rfl, _, rfl, d, _, rfl, e1, _, rfl, q, C, dx', _, _, rfl, S _ _ l1', T.cl, T.n2, rfl, _, rfl, d', _, rfl, e2, _, _, rfl, ?_⟩
      refine ⟨_, Sum.inr s', rfl, lD, by rw [List.length_map, List.length_take, sizeLine_eq]; omega, EX.Same.updN S hD, ?_⟩
      rw [upd_same, show V.int (if (gvN n2 s' : Int) < (n : Int) then (gvN n2 s' : Int) else (n : Int)) = V.int (min n (gvN n2 s') : Nat) from congrArg V.int (by split <;> omega)]
      exact congrArg (fun l => some (HO.dK l)) (put_snoc (f := fun p => V.int (min p.2 (gvN n2 p.1) : Nat)) N1.nd hn)
    rintro H2 ⟨S2, lD⟩
    have hlt : (n1.take (numK n1).length) = n1 := List.take_of_length_le (by rw [show (numK n1).length = n1.length from List.length_map _]; exact Nat.le_refl _)
    rw [hlt, show (n1.map fun p => ((Sum.inr p.1 : Key), V.int (min p.2 (gvN n2 p.1) : Nat))) = numK (joinN min n1 n2) by unfold numK joinN; rw [List.map_map]; rfl] at lD
    refine ⟨S2 _ _ l3, ?_⟩
    have S3 := bk _ S2
    have nDd : D ≠ d := fun z => by rw [z, l3] at hD; cases hD
    have lD3 : upd H2 d (HO.dK (numK n1)) D = some (.dK (numK (joinN min n1 n2))) := by rw [upd_ne nDd]; exact lD
    generalize upd H2 d (HO.dK (numK n1)) = H3 at S3 lD3 ⊢
    refine fun x dy hx hy nxy => ?_
    have s4 : Same H3 (upd (upd H3 dy (.own x)) x (.ins C dy [])) := Same.trans (Same.upd hy) (Same.upd (by rw [upd_ne (Ne.symm nxy)]; exact hx))
    have lx : upd (upd H3 dy (.own x)) x (HO.ins C dy []) x = some (.ins C dy []) := upd_same
    generalize upd (upd H3 dy (.own x)) x (HO.ins C dy []) = H4 at s4 lx ⊢
    refine ⟨x, a, D, dy, o, joinN min n1 n2, rfl, lx, .inr (sqt_same s4 (sqt_same S3 h2)), hw, hlo, s4 _ _ lD3, joinN_ok (fun a b m => by omega) N1 N2 hk, fun H5 K5 CA _ => ⟨rfl, ?_⟩⟩
    have S13 : Same H1 H5 := (Keeps.trans (S := [x]) (Keeps.of (Same.trans S3 s4)) K5).same fun z hz => by rw [List.mem_singleton.mp hz]; exact S3.free hx
    exact k x H5 (Same.trans S1 S13) (S1.free (S3.free hx)) CA
end
end K41
set_option linter.all false
set_option autoImplicit false
/-! the moments at which a key is within a slack; when two keys bar each other -/
namespace M41
variable {α : Type} [DecidableEq α]
/-- the moment at which the t-th of k has come -/
def upAt (o : List α) (k : α) (t : Int) : Nat → Nat
  | 0 => 0
  | i + 1 => if o[i]? = some k ∧ (cnt o (i + 1) k : Int) = t then i + 1 else upAt o k t i
/-- the last moment ahead of the u-th of k -/
def downAt (o : List α) (k : α) (u : Int) : Nat → Nat
  | 0 => o.length
  | i + 1 => if o[i]? = some k ∧ (cnt o (i + 1) k : Int) = u then i else downAt o k u i
theorem cnt_step {o : List α} {i : Nat} (hi : i < o.length) (k : α) : cnt o (i + 1) k = cnt o i k + if o[i]? = some k then 1 else 0 := by
  obtain ⟨y, hy⟩ : ∃ y, o[i]? = some y := ⟨_, List.getElem?_eq_getElem hi⟩
  rw [cnt_succ hy, hy]
  unfold bump
  by_cases e : k = y
  · subst e
    rw [if_pos rfl, if_pos rfl]
  · rw [if_neg e, if_neg (fun z => e (Option.some.inj z).symm)]
    rfl
theorem cnt_mono {o : List α} {k : α} {i j : Nat} (h : i ≤ j) : cnt o i k ≤ cnt o j k := by
  unfold cnt
  have : o.take i = (o.take j).take i := by rw [List.take_take, Nat.min_eq_left h]
  rw [this]
  exact List.Sublist.count_le _ (List.take_sublist _ _)
theorem cnt_all (o : List α) (k : α) : cnt o o.length k = o.count k := by
  unfold cnt
  rw [List.take_length]
theorem upAt_ok {o : List α} {k : α} {t : Int} : ∀ {i : Nat}, i ≤ o.length → (t ≤ 0 → upAt o k t i = 0) ∧ (0 < t → t ≤ (cnt o i k : Int) → upAt o k t i ≤ i ∧ ∀ m, m ≤ i → (upAt o k t i ≤ m ↔ t ≤ (cnt o m k : Int)))
  | 0, _ => by
    refine ⟨fun _ => rfl, fun h1 h2 => ?_⟩
    have : cnt o 0 k = 0 := by simp [cnt]
    omega
  | i + 1, hi => by
    obtain ⟨ih1, ih2⟩ := upAt_ok (o := o) (k := k) (t := t) (i := i) (by omega)
    have st := cnt_step (o := o) (i := i) (by omega) k
    refine ⟨fun h => ?_, fun h0 h1 => ?_⟩
    · show (if o[i]? = some k ∧ (cnt o (i + 1) k : Int) = t then i + 1 else upAt o k t i) = 0
      rw [if_neg ?_, ih1 h]
      rintro ⟨e, z⟩
      rw [if_pos e] at st
      omega
    · show (if o[i]? = some k ∧ (cnt o (i + 1) k : Int) = t then i + 1 else upAt o k t i) ≤ i + 1 ∧ ∀ m, m ≤ i + 1 → ((if o[i]? = some k ∧ (cnt o (i + 1) k : Int) = t then i + 1 else upAt o k t i) ≤ m ↔ t ≤ (cnt o m k : Int))
      by_cases c : o[i]? = some k ∧ (cnt o (i + 1) k : Int) = t
      · rw [if_pos c]
        refine ⟨Nat.le_refl _, fun m hm => ⟨fun h => ?_, fun h => ?_⟩⟩
        · obtain rfl : m = i + 1 := by omega
          exact h1
        · rw [if_pos c.1] at st
          have := c.2
          refine Decidable.byContradiction fun z => ?_
          have := cnt_mono (o := o) (k := k) (show m ≤ i by omega)
          omega
      · rw [if_neg c]
        have h2 : t ≤ (cnt o i k : Int) := by
          by_cases e : o[i]? = some k
          · rw [if_pos e] at st
            have : ¬ (cnt o (i + 1) k : Int) = t := fun z => c ⟨e, z⟩
            omega
          · rw [if_neg e] at st
            omega
        obtain ⟨q1, q2⟩ := ih2 h0 h2
        refine ⟨by omega, fun m hm => ?_⟩
        by_cases e : m ≤ i
        · exact q2 m e
        · obtain rfl : m = i + 1 := by omega
          exact ⟨fun _ => h1, fun _ => by omega⟩
theorem downAt_ok {o : List α} {k : α} {u : Int} : ∀ {i : Nat}, i ≤ o.length → 1 ≤ u → ((cnt o i k : Int) < u → downAt o k u i = o.length) ∧ (u ≤ (cnt o i k : Int) → downAt o k u i < i ∧ ∀ m, m ≤ i → (m ≤ downAt o k u i ↔ (cnt o m k : Int) < u))
  | 0, _, hu => by
    have : cnt o 0 k = 0 := by simp [cnt]
    exact ⟨fun _ => rfl, fun h => by omega⟩
  | i + 1, hi, hu => by
    obtain ⟨ih1, ih2⟩ := downAt_ok (o := o) (k := k) (u := u) (i := i) (by omega) hu
    have st := cnt_step (o := o) (i := i) (by omega) k
    refine ⟨fun h => ?_, fun h1 => ?_⟩
    · show (if o[i]? = some k ∧ (cnt o (i + 1) k : Int) = u then i else downAt o k u i) = o.length
      rw [if_neg ?_, ih1 (by have := cnt_mono (o := o) (k := k) (show i ≤ i + 1 by omega); omega)]
      rintro ⟨e, z⟩
      omega
    · show (if o[i]? = some k ∧ (cnt o (i + 1) k : Int) = u then i else downAt o k u i) < i + 1 ∧ ∀ m, m ≤ i + 1 → (m ≤ (if o[i]? = some k ∧ (cnt o (i + 1) k : Int) = u then i else downAt o k u i) ↔ (cnt o m k : Int) < u)
      by_cases c : o[i]? = some k ∧ (cnt o (i + 1) k : Int) = u
      · rw [if_pos c]
        rw [if_pos c.1] at st
        have := c.2
        refine ⟨by omega, fun m hm => ⟨fun h => ?_, fun h => ?_⟩⟩
        · have := cnt_mono (o := o) (k := k) h
          omega
        · refine Decidable.byContradiction fun z => ?_
          obtain rfl : m = i + 1 := by omega
          omega
      · rw [if_neg c]
        have h2 : u ≤ (cnt o i k : Int) := by
          by_cases e : o[i]? = some k
          · rw [if_pos e] at st
            have : ¬ (cnt o (i + 1) k : Int) = u := fun z => c ⟨e, z⟩
            omega
          · rw [if_neg e] at st
            omega
        obtain ⟨q1, q2⟩ := ih2 h2
        refine ⟨by omega, fun m hm => ?_⟩
        by_cases e : m ≤ i
        · exact q2 m e
        · obtain rfl : m = i + 1 := by omega
          exact ⟨fun z => by omega, fun z => by omega⟩
def firstM (o : List α) (p : α × Nat) (s : Nat) : Nat := upAt o p.1 ((p.2 : Int) - s) o.length
def lastM (o : List α) (p : α × Nat) (s : Nat) : Nat := downAt o p.1 ((p.2 : Int) + s + 1) o.length
/-- within the slack at a moment: between both -/
theorem within {o : List α} {p : α × Nat} {s m : Nat} (hp : p.2 ≤ o.count p.1) (hm : m ≤ o.length) : far (cnt o m) p ≤ s ↔ firstM o p s ≤ m ∧ m ≤ lastM o p s := by
  have f : firstM o p s ≤ m ↔ (p.2 : Int) - s ≤ (cnt o m p.1 : Int) := by
    obtain ⟨h1, h2⟩ := upAt_ok (o := o) (k := p.1) (t := (p.2 : Int) - s) (i := o.length) (Nat.le_refl _)
    unfold firstM
    by_cases z : (p.2 : Int) - s ≤ 0
    · rw [h1 z]
      exact ⟨fun _ => by omega, fun _ => Nat.zero_le _⟩
    · exact (h2 (by omega) (by rw [cnt_all]; omega)).2 m hm
  have g : m ≤ lastM o p s ↔ (cnt o m p.1 : Int) < (p.2 : Int) + s + 1 := by
    obtain ⟨h1, h2⟩ := downAt_ok (o := o) (k := p.1) (u := (p.2 : Int) + s + 1) (i := o.length) (Nat.le_refl _) (by omega)
    unfold lastM
    by_cases z : (cnt o o.length p.1 : Int) < (p.2 : Int) + s + 1
    · rw [h1 z]
      have := cnt_mono (o := o) (k := p.1) hm
      exact ⟨fun _ => by omega, fun _ => hm⟩
    · exact (h2 (by omega)).2 m hm
  unfold far
  rw [f, g]
  omega
theorem firstM_le {o : List α} {p : α × Nat} {s : Nat} (hp : p.2 ≤ o.count p.1) : firstM o p s ≤ o.length := by
  obtain ⟨h1, h2⟩ := upAt_ok (o := o) (k := p.1) (t := (p.2 : Int) - s) (i := o.length) (Nat.le_refl _)
  unfold firstM
  by_cases z : (p.2 : Int) - s ≤ 0
  · rw [h1 z]
    exact Nat.zero_le _
  · exact (h2 (by omega) (by rw [cnt_all]; omega)).1
theorem first_le_last {o : List α} {p : α × Nat} {s : Nat} (hp : p.2 ≤ o.count p.1) : firstM o p s ≤ lastM o p s := by
  -- at the first moment the number is just reached
  have h1 := firstM_le (s := s) hp
  obtain ⟨a1, a2⟩ := upAt_ok (o := o) (k := p.1) (t := (p.2 : Int)) (i := o.length) (Nat.le_refl _)
  have w0 : ∃ m, m ≤ o.length ∧ far (cnt o m) p ≤ s := by
    by_cases z : p.2 = 0
    · refine ⟨0, Nat.zero_le _, ?_⟩
      have : cnt o 0 p.1 = 0 := by simp [cnt]
      unfold far
      omega
    · obtain ⟨b1, b2⟩ := a2 (by omega) (by rw [cnt_all]; omega)
      refine ⟨_, b1, ?_⟩
      have c1 := (b2 _ b1).mp (Nat.le_refl _)
      have hpos : 0 < upAt o p.1 (p.2 : Int) o.length := by
        refine Nat.pos_of_ne_zero fun e => ?_
        rw [e] at c1
        have : cnt o 0 p.1 = 0 := by simp [cnt]
        omega
      have c2 : ¬ (p.2 : Int) ≤ (cnt o (upAt o p.1 (p.2 : Int) o.length - 1) p.1 : Int) := fun e => by
        have := (b2 _ (by omega)).mpr e
        omega
      have st := cnt_step (o := o) (i := upAt o p.1 (p.2 : Int) o.length - 1) (by omega) p.1
      rw [show upAt o p.1 (p.2 : Int) o.length - 1 + 1 = upAt o p.1 (p.2 : Int) o.length by omega] at st
      unfold far
      split at st <;> omega
  obtain ⟨m, hm, hf⟩ := w0
  obtain ⟨x, y⟩ := (within hp hm).mp hf
  omega
/-- both keys bar: no moment at which both are within -/
theorem bars_iff {o : List α} {p q : α × Nat} {s : Nat} (hp : p.2 ≤ o.count p.1) (hq : q.2 ≤ o.count q.1) : (∀ m, m ≤ o.length → ¬ (far (cnt o m) p ≤ s ∧ far (cnt o m) q ≤ s)) ↔ (firstM o p s > lastM o q s ∨ firstM o q s > lastM o p s) := by
  have a1 := firstM_le (s := s) hp
  have a2 := firstM_le (s := s) hq
  have b1 := first_le_last (s := s) hp
  have b2 := first_le_last (s := s) hq
  constructor
  · intro h
    refine Decidable.byContradiction fun z => ?_
    have z1 : firstM o p s ≤ lastM o q s := by omega
    have z2 : firstM o q s ≤ lastM o p s := by omega
    rcases Nat.le_total (firstM o p s) (firstM o q s) with c | c
    · exact h _ a2 ⟨(within hp a2).mpr ⟨c, z2⟩, (within hq a2).mpr ⟨Nat.le_refl _, b2⟩⟩
    · exact h _ a1 ⟨(within hp a1).mpr ⟨Nat.le_refl _, b1⟩, (within hq a1).mpr ⟨c, z1⟩⟩
  · rintro h m hm ⟨x, y⟩
    obtain ⟨x1, x2⟩ := (within hp hm).mp x
    obtain ⟨y1, y2⟩ := (within hq hm).mp y
    omega
end M41
set_option Elab.async false
set_option linter.all false
set_option maxRecDepth 100000
set_option maxHeartbeats 4000000
namespace K41
open PySem L2 EX PyProof.Rows M41
/-- a dict of the names with a number each -/
structure DFn (kvs : List (Key × V)) (names : List Str) (f : Str → Nat) : Prop where
  len : kvs.length ≤ names.length
  at_ : ∀ k : Str, valV kvs (Sum.inr k) = if k ∈ names then some (.int (f k : Nat)) else none
theorem DFn.nil (f : Str → Nat) : DFn [] [] f := ⟨Nat.le_refl _, fun k => by simp [valV]⟩
theorem DFn.snoc {kvs : List (Key × V)} {names : List Str} {f : Str → Nat} {i : Nat} {k : Str} (h : DFn kvs (names.take i) f) (e : names[i]? = some k) : DFn (putK kvs (Sum.inr k) (.int (f k : Nat))) (names.take (i + 1)) f := by
  have et : names.take (i + 1) = names.take i ++ [k] := by rw [List.take_add_one, e]; rfl
  refine ⟨?_, fun x => ?_⟩
  · rw [et, List.length_append]
    exact Nat.le_trans (length_putK ..) (Nat.succ_le_succ h.len)
  · rw [valV_put, et]
    by_cases z : x = k
    · subst z
      rw [if_pos rfl, if_pos (by simp)]
    · rw [if_neg fun q => z (Sum.inr.inj q), h.at_ x]
      by_cases y : x ∈ names.take i
      · rw [if_pos y, if_pos (List.mem_append_left _ y)]
      · rw [if_neg y, if_neg (by simp [y, z])]
theorem put_len {kvs : List (Key × V)} {k : Key} {v u : V} (h : valV kvs k = some u) : (putK kvs k v).length = kvs.length := by
  unfold putK
  have : (kvs.any fun kv => decide (kv.1 = k)) = true := by
    unfold valV at h
    obtain ⟨x, hx, _⟩ := Option.map_eq_some_iff.mp h
    rw [List.any_eq_true]
    refine ⟨x, List.mem_of_find?_eq_some hx, ?_⟩
    have := List.find?_some hx
    exact this
  rw [if_pos this, List.length_map]
theorem DFn.set {kvs : List (Key × V)} {names : List Str} {f g : Str → Nat} {k : Str} {v : Nat} (h : DFn kvs names f) (hk : k ∈ names) (h1 : g k = v) (h2 : ∀ x, x ≠ k → g x = f x) : DFn (putK kvs (Sum.inr k) (.int (v : Nat))) names g := by
  have e : valV kvs (Sum.inr k) = some (.int (f k : Nat)) := by rw [h.at_ k, if_pos hk]
  refine ⟨by rw [put_len e]; exact h.len, fun x => ?_⟩
  rw [valV_put]
  by_cases z : x = k
  · subst z
    rw [if_pos rfl, if_pos hk, h1]
  · rw [if_neg fun q => z (Sum.inr.inj q), h.at_ x, h2 x z]
theorem DFn.congr {kvs : List (Key × V)} {names : List Str} {f g : Str → Nat} (h : DFn kvs names f) (e : ∀ x ∈ names, g x = f x) : DFn kvs names g := ⟨h.len, fun x => by
  rw [h.at_ x]
  by_cases z : x ∈ names
  · rw [if_pos z, if_pos z, e x z]
  · rw [if_neg z, if_neg z]⟩
/-- near_moments(cut, keys, slack) -/
def spNm (K : PySem.W.Frag) (C : Addr) : Sp := fun vs H Q _ => ∃ (p a : Addr) (o names : List Str) (num : Num Str) (s : Nat), vs = [.ref p, .ref a, .int (s : Nat)] ∧ CutAt K C H p o num ∧ SqE K H a (strV names) ∧ names.length ≤ 1000 ∧ (∀ k ∈ names, k ∈ num.map (·.1)) ∧ NumOk o num ∧ o.length ≤ 5000 ∧
  ∀ t pf pl kf kl H', Same H H' → H t = none → H' t = some (.tup [.ref pf, .ref pl]) → H' pf = some (.dK kf) → H' pl = some (.dK kl) → DFn kf names (fun k => firstM o (k, gvN num k) s) → DFn kl names (fun k => lastM o (k, gvN num k) s) → Q (.ref t) H'
abbrev sNm : Stmt := top 17
def sNmN : List Str := ["cut", "keys", "slack", "key", "counts", "firsts", "lasts", "at"]
theorem scNm : FnScope ["cut", "keys", "slack", "key", "counts", "firsts", "lasts", "at"] ["cut", "keys", "slack"] (defScope sNm) := ⟨rfl, rfl, rfl, by decide +kernel, rfl, by decide +kernel, by decide +kernel⟩
section
variable {P : Program} {w : World} {K : PySem.W.Frag} {mg : Str → Option Value} {base : Heap}
theorem ok_nm {C : Addr} {f : Addr} {fd : FuncData} (F : Fun K "near_moments" "near_moments" sNm f fd) (B : Bn mg) (T : CutC K C) : FnOk P w K mg base CX0 1 f fd ["cut", "keys", "slack"] (spNm K C) := by
  refine F.ok scNm (fun vs H Q E h => ?_) (fun cdv A outer s H vs Q E hr h => ?_)
  · obtain ⟨p, a, o, names, num, s, rfl, _⟩ := h
    rfl
  · obtain ⟨p, a, o, names, num, sl, rfl, hc, ho, hl, hk, NO, hlo5, k⟩ := h
    have hu := hu_of hr
    have hlv : (strV names).length = names.length := List.length_map _
    have hlo : (strV o).length = o.length := List.length_map _
    obtain ⟨dx, ap, d, g, t, h1, ht, h3, h4, h5⟩ := hc.ex
    clear h4 h5
    rcases ho with ho | ho
    · refine ⟨_, (pss_cons (ps_setDc (j := 4) (own := [("key", 3)]) (tg := (gName 3)) (tt := tYes) (tk := (tVar 3)) (tv := (tC (.int 0))) rfl scNm.nd rfl rfl (sw_dc rfl rfl rfl (by decide +kernel)) (pi_list (pv 1)) (blkOk_by (N := sNmN) (sc := defScope sNm) (by decide +kernel)) (fun _ _ _ _ _ => (pg_name (i := 3) scNm.nd rfl (Or.inl rfl))) (fun _ _ _ _ _ => pts_nil) (fun _ _ _ _ _ => (pv 3)) (fun _ _ _ _ _ => pe_int))
        (pss_cons (ps_setDc (j := 5) (own := [("key", 3)]) (tg := (gName 3)) (tt := tYes) (tk := (tVar 3)) (tv := (tC (.int 0))) rfl scNm.nd rfl rfl (sw_dc rfl rfl rfl (by decide +kernel)) (pi_list (pv 1)) (blkOk_by (N := sNmN) (sc := defScope sNm) (by decide +kernel)) (fun _ _ _ _ _ => (pg_name (i := 3) scNm.nd rfl (Or.inl rfl))) (fun _ _ _ _ _ => pts_nil) (fun _ _ _ _ _ => (pv 3)) (fun _ _ _ _ _ => pe_int))
        (pss_cons (ps_setDc (j := 6) (own := [("key", 3)]) (tg := (gName 3)) (tt := tYes) (tk := (tVar 3)) (tv := (tCB (rLenSq K) (tCons (tFld K (tVar 0) "steps") tNil))) rfl scNm.nd rfl rfl (sw_dc rfl rfl rfl (by decide +kernel)) (pi_list (pv 1)) (blkOk_by (N := sNmN) (sc := defScope sNm) (by decide +kernel)) (fun _ _ _ _ _ => (pg_name (i := 3) scNm.nd rfl (Or.inl rfl))) (fun _ _ _ _ _ => pts_nil) (fun _ _ _ _ _ => (pv 3)) (fun _ _ _ _ _ => (pe_callB call_len_seq (by rfl) B.len PySem.boot_len (pa_cons (pe_fld (pv 0) rfl) pa_nil))))
        (pss_cons (ps_for PassesOwn.never rfl (pi_enq (by rfl) B.enumerate (pa_cons (pe_fld (pv 0) rfl) pa_nil)) (pg_tup rfl (pgs_cons (pg_name (i := 7) scNm.nd rfl (Or.inl rfl)) (pgs_cons (pg_name (i := 3) scNm.nd rfl (Or.inl rfl)) pgs_nil))) (pss_one (ps_if (pt_cmp (pc_din hu (pv 3) (pv 4))) (pss_cons (ps_daug hu (pv 4) (pv 3) pe_int in_add (fun _ _ _ => rfl))
        (pss_cons (ps_if (pt_cmpR op_eq (pe_dget hu (pv 4) (pv 3) (fun _ _ => rfl)) (pe_op op_sub (pe_dget hu (pe_fld (pv 0) rfl) (pv 3) (fun _ _ => rfl)) (pv 2)) (nomark _)) (pss_one (ps_dput hu (pv 5) (pv 3) (pe_op op_add (pv 7) pe_int) rfl)) pss_nil)
        (pss_one (ps_if (pt_cmpR op_eq (pe_dget hu (pv 4) (pv 3) (fun _ _ => rfl)) (pe_op op_add (pe_op op_add (pe_dget hu (pe_fld (pv 0) rfl) (pv 3) (fun _ _ => rfl)) (pv 2)) pe_int) (nomark _)) (pss_one (ps_dput hu (pv 6) (pv 3) (pv 7) rfl)) pss_nil)))) pss_nil)))
        (pss_one (ps_ret (pe_tup (pa_cons (pv 5) (pa_cons (pv 6) pa_nil))))))))), ?_⟩
      refine ⟨_, rfl, a, rfl, ⟨_, ho⟩, fun pc hD => ?_⟩
      refine dc_it (walk_list (K := K) (a := a) (xs := strV names)) (fun i Hh => Same H Hh ∧ ∃ kvs, Hh pc = some (.dK kvs) ∧ DFn kvs (names.take i) (fun _ => 0)) ⟨Same.upd hD, _, upd_same, .nil _⟩ (fun i Hh _ z => z.1.seq ho) ?_ ?_
      · rintro i x Hg Hh hi ⟨S, kvs, lD, df⟩ ⟨rfl, hx⟩
        obtain ⟨y, rfl, hy⟩ := strV_get hx
        refine ⟨rfl, _, rfl, _, Sum.inr y, rfl, lD, by have := df.len; rw [List.length_take] at this; rw [sizeLine_eq]; omega, EX.Same.updN S hD, _, upd_same, df.snoc hy⟩
      rintro H1 ⟨SH1, kc, lpc, dpc⟩
      rw [hlv, List.take_length] at dpc
      have ho1 := SH1.seq ho
      have hpc : H pc = none := hD
      refine ⟨_, rfl, a, rfl, ⟨_, ho1⟩, fun pf hD => ?_⟩
      refine dc_it (walk_list (K := K) (a := a) (xs := strV names)) (fun i Hh => Same H1 Hh ∧ ∃ kvs, Hh pf = some (.dK kvs) ∧ DFn kvs (names.take i) (fun _ => 0)) ⟨Same.upd hD, _, upd_same, .nil _⟩ (fun i Hh _ z => z.1.seq ho1) ?_ ?_
      · rintro i x Hg Hh hi ⟨S, kvs, lD, df⟩ ⟨rfl, hx⟩
        obtain ⟨y, rfl, hy⟩ := strV_get hx
        refine ⟨rfl, _, rfl, _, Sum.inr y, rfl, lD, by have := df.len; rw [List.length_take] at this; rw [sizeLine_eq]; omega, EX.Same.updN S hD, _, upd_same, df.snoc hy⟩
      rintro H2 ⟨SH2, kf, lpf, dpf⟩
      rw [hlv, List.take_length] at dpf
      have ho2 := SH2.seq ho1
      have n1f : pf ≠ pc := fun z => by rw [z, lpc] at hD; cases hD
      have h2 := SH2 _ _ (SH1 _ _ h1)
      have t2 := sqt_same SH2 (sqt_same SH1 ht)
      have hpf0 : H1 pf = none := hD
      have hpc0 : H pc = none := hpc
      refine ⟨_, rfl, a, rfl, ⟨_, ho2⟩, fun pl hD => ?_⟩
      refine dc_it (walk_list (K := K) (a := a) (xs := strV names)) (fun i Hh => Same H2 Hh ∧ ∃ kvs, Hh pl = some (.dK kvs) ∧ DFn kvs (names.take i) (fun _ => o.length)) ⟨Same.upd hD, _, upd_same, .nil _⟩ (fun i Hh _ z => z.1.seq ho2) ?_ ?_
      · rintro i x Hg Hh hi ⟨S, kvs, lD, df⟩ ⟨rfl, hx⟩
        obtain ⟨y, rfl, hy⟩ := strV_get hx
        refine ⟨rfl, _, rfl, _, rfl, p, C, dx, _, _, rfl, S _ _ h2, T.cl, T.n1, rfl, ap, _, rfl, .inr (sqt_same S t2), _, Sum.inr y, rfl, lD, by have := df.len; rw [List.length_take] at this; rw [sizeLine_eq]; omega, EX.Same.updN S hD, _, upd_same, (by rw [hlo]; exact df.snoc hy)⟩
      rintro H3 ⟨SH3, kl, lpl, dpl⟩
      rw [hlv, List.take_length] at dpl
      have n2l : pl ≠ pc := fun z => by rw [z, SH2 _ _ lpc] at hD; cases hD
      have n3l : pl ≠ pf := fun z => by rw [z, lpf] at hD; cases hD
      have lpc3 := SH3 _ _ (SH2 _ _ lpc)
      have lpf3 := SH3 _ _ lpf
      have S03 := Same.trans SH1 (Same.trans SH2 SH3)
      have hpl0 : H2 pl = none := hD
      have nS : ∀ b o', H b = some o' → b ∉ [pc, pf, pl] := fun b o' e z => by
        simp only [List.mem_cons, List.not_mem_nil, or_false] at z
        rcases z with rfl | rfl | rfl
        · rw [hpc0] at e; cases e
        · rw [SH1 _ _ e] at hpf0; cases hpf0
        · rw [SH2 _ _ (SH1 _ _ e)] at hpl0; cases hpl0
      have pS := nS p _ h1
      have dS := nS d _ h3
      have h13 := S03 _ _ h1
      have h33 := S03 _ _ h3
      have t13 := sqt_same S03 ht
      clear h2 t2 ho2 ho1 lpc lpf SH3 hD
      refine ⟨_, rfl, p, C, dx, _, _, rfl, h13, T.cl, T.n1, rfl, ap, strV o, rfl, t13, ?_⟩
      have tK : ∀ H', Keeps [pc, pf, pl] H3 H' → SqT K H' ap (strV o) := fun H' kp => kp.sqt' (fun q hq => by
        simp only [List.mem_cons, List.not_mem_nil, or_false] at hq
        rcases hq with rfl | rfl | rfl
        · exact .dK lpc3
        · exact .dK lpf3
        · exact .dK lpl) t13
      refine for_it (walk_enq (K := K) (a := ap) (xs := strV o)) (fun i σ H' => ∃ v3 v7 kc kf kl, σ = [some (.ref p), some (.ref a), some (.int (sl : Nat)), v3, some (.ref pc), some (.ref pf), some (.ref pl), v7] ∧ Keeps [pc, pf, pl] H3 H' ∧ H' pc = some (.dK kc) ∧ H' pf = some (.dK kf) ∧ H' pl = some (.dK kl) ∧
          DFn kc names (fun k => M41.cnt o i k) ∧ DFn kf names (fun k => upAt o k ((gvN num k : Int) - (sl : Int)) i) ∧ DFn kl names (fun k => downAt o k ((gvN num k : Int) + (sl : Int) + 1) i))
        ⟨_, _, kc, kf, kl, rfl, .refl _ _, lpc3, lpf3, lpl, dpc.congr fun x _ => by simp [M41.cnt], dpf.congr fun x _ => rfl, dpl.congr fun x _ => rfl⟩ ?_ ?_ ?_
      · rintro i σ H' _ ⟨v3, v7, kc, kf, kl, rfl, kp, _⟩
        exact tK _ kp
      · rintro i v σ H0 Hz hi ⟨v3, v7, kc, kf, kl, rfl, kp, lc, lf, ll, dc, df, dl⟩ ⟨Tp, x0, x, rfl, hT, rfl, e0, hx⟩
        obtain rfl : V.int (i : Nat) = x0 := Option.some.inj e0
        obtain ⟨y, rfl, hy⟩ := strV_get hx
        have hio : i < o.length := (List.getElem?_eq_some_iff.mp hy).1
        have s2 : Same H0 (upd H0 Tp (.tup [.int (i : Nat), .str y])) := Same.upd hT
        have lT : upd H0 Tp (HO.tup [.int (i : Nat), .str y]) Tp = some (.tup [.int (i : Nat), .str y]) := upd_same
        generalize upd H0 Tp (HO.tup [.int (i : Nat), .str y]) = Hx at s2 lT ⊢
        have kp := kp.then s2
        have lc := s2 _ _ lc
        have lf := s2 _ _ lf
        have ll := s2 _ _ ll
        refine ⟨Tp, _, rfl, SqT.of lT, rfl, _, _, rfl, _, _, rfl, rfl, ?_⟩
        clear s2 lT hT
        refine ⟨_, rfl, _, rfl, pc, _, rfl, DGet.k (k := Sum.inr y) lc, _, rfl, ?_⟩
        rw [dc.at_ y]
        have cst := cnt_succ hy
        have hcy : M41.cnt o (i + 1) y = M41.cnt o i y + 1 := by
          rw [cst]
          unfold M41.bump
          rw [if_pos rfl]
        have hco : ∀ x, x ≠ y → M41.cnt o (i + 1) x = M41.cnt o i x := fun x n => by
          rw [cst]
          unfold M41.bump
          rw [if_neg n]
        have uo : ∀ (t : Int) x, x ≠ y → upAt o x t (i + 1) = upAt o x t i := fun t x n => by
          show (if o[i]? = some x ∧ _ then _ else _) = _
          rw [if_neg fun z => n (Option.some.inj (z.1.symm.trans hy))]
        have dn : ∀ (t : Int) x, x ≠ y → downAt o x t (i + 1) = downAt o x t i := fun t x n => by
          show (if o[i]? = some x ∧ _ then _ else _) = _
          rw [if_neg fun z => n (Option.some.inj (z.1.symm.trans hy))]
        by_cases hm : y ∈ names
        · rw [if_pos hm]
          refine iteT ?_
          have gy : valV kc (Sum.inr y) = some (.int (M41.cnt o i y : Nat)) := by rw [dc.at_ y, if_pos hm]
          refine ⟨_, rfl, _, rfl, pc, _, rfl, by rw [← gy]; exact DGet.k (k := Sum.inr y) lc, _, _, rfl, rfl, _, DPut.k (k := Sum.inr y) lc (by have := dc.len; rw [sizeLine_eq]; omega), ?_⟩
          have gn : valV (numK num) (Sum.inr y) = some (.int (gvN num y : Nat)) := numK_gv NO.nd (hk y hm)
          rw [show ((M41.cnt o i y : Nat) : Int) + 1 = ((M41.cnt o i y + 1 : Nat) : Int) by omega]
          have dc1 : DFn (putK kc (Sum.inr y) (.int (M41.cnt o i y + 1 : Nat))) names (fun k => M41.cnt o (i + 1) k) := dc.set hm hcy hco
          have gy1 : valV (putK kc (Sum.inr y) (.int (M41.cnt o i y + 1 : Nat))) (Sum.inr y) = some (.int (M41.cnt o i y + 1 : Nat)) := by rw [valV_put, if_pos rfl]
          have lc5 : upd Hx pc (HO.dK (putK kc (Sum.inr y) (.int (M41.cnt o i y + 1 : Nat)))) pc = some (.dK (putK kc (Sum.inr y) (.int (M41.cnt o i y + 1 : Nat)))) := upd_same
          have lf5 : upd Hx pc (HO.dK (putK kc (Sum.inr y) (.int (M41.cnt o i y + 1 : Nat)))) pf = some (.dK kf) := by rw [upd_ne n1f]; exact lf
          have ll5 : upd Hx pc (HO.dK (putK kc (Sum.inr y) (.int (M41.cnt o i y + 1 : Nat)))) pl = some (.dK kl) := by rw [upd_ne n2l]; exact ll
          have kp5 : Keeps [pc, pf, pl] H3 (upd Hx pc (.dK (putK kc (Sum.inr y) (.int (M41.cnt o i y + 1 : Nat))))) := kp.put (by simp)
          generalize upd Hx pc (HO.dK (putK kc (Sum.inr y) (.int (M41.cnt o i y + 1 : Nat)))) = H5 at lc5 lf5 ll5 kp5 ⊢
          generalize putK kc (Sum.inr y) (.int (M41.cnt o i y + 1 : Nat)) = kc1 at lc5 dc1 gy1 ⊢
          refine ⟨_, rfl, _, rfl, pc, _, rfl, .inl ⟨_, Sum.inr y, .inl lc5, rfl, gy1.symm⟩, _, rfl, p, C, dx, _, _, rfl, kp5 _ _ pS h13, T.cl, T.n2, rfl, _, rfl, d, _, rfl, .inl ⟨numK num, Sum.inr y, .inl (kp5 _ _ dS h33), rfl, gn.symm⟩, _, rfl, _, _, rfl, rfl, rfl, _, rfl, ite2 (fun z => ?_) (fun z => ?_)⟩
          · have z : ((M41.cnt o i y + 1 : Nat) : Int) = (gvN num y : Int) - (sl : Int) := V.int.inj (of_decide_eq_true z)
            refine ⟨_, rfl, _, _, rfl, rfl, _, rfl, _, rfl, pf, _, rfl, DPut.k (k := Sum.inr y) lf5 (by have := df.len; rw [sizeLine_eq]; omega), ?_⟩
            have ei : V.int (((i : Nat) : Int) + 1) = V.int ((i + 1 : Nat) : Int) := congrArg V.int (by omega)
            rw [show (fun i j : Int => V.int (i + j)) ((i : Nat) : Int) 1 = V.int ((i + 1 : Nat) : Int) from ei]
            have df1 : DFn (putK kf (Sum.inr y) (.int (i + 1 : Nat))) names (fun k => upAt o k ((gvN num k : Int) - (sl : Int)) (i + 1)) := df.set hm (by
              show (if o[i]? = some y ∧ (M41.cnt o (i + 1) y : Int) = _ then i + 1 else _) = i + 1
              rw [if_pos ⟨hy, by rw [hcy]; exact z⟩]) fun x n => uo _ x n
            have lc6 : upd H5 pf (HO.dK (putK kf (Sum.inr y) (.int (i + 1 : Nat)))) pc = some (.dK kc1) := by rw [upd_ne n1f.symm]; exact lc5
            have lf6 : upd H5 pf (HO.dK (putK kf (Sum.inr y) (.int (i + 1 : Nat)))) pf = some (.dK (putK kf (Sum.inr y) (.int (i + 1 : Nat)))) := upd_same
            have ll6 : upd H5 pf (HO.dK (putK kf (Sum.inr y) (.int (i + 1 : Nat)))) pl = some (.dK kl) := by rw [upd_ne n3l]; exact ll5
            have kp6 : Keeps [pc, pf, pl] H3 (upd H5 pf (.dK (putK kf (Sum.inr y) (.int (i + 1 : Nat))))) := kp5.put (by simp)
            generalize upd H5 pf (HO.dK (putK kf (Sum.inr y) (.int (i + 1 : Nat)))) = H6 at lc6 lf6 ll6 kp6 ⊢
            generalize putK kf (Sum.inr y) (.int (i + 1 : Nat)) = kf1 at lf6 df1 ⊢
            refine ⟨_, rfl, _, rfl, pc, _, rfl, .inl ⟨_, Sum.inr y, .inl lc6, rfl, gy1.symm⟩, _, rfl, p, C, dx, _, _, rfl, kp6 _ _ pS h13, T.cl, T.n2, rfl, _, rfl, d, _, rfl, .inl ⟨numK num, Sum.inr y, .inl (kp6 _ _ dS h33), rfl, gn.symm⟩, _, rfl, _, _, rfl, rfl, _, _, rfl, rfl, rfl, _, rfl, ite2 (fun z => ?_) (fun z => ?_)⟩
            · have z : ((M41.cnt o i y + 1 : Nat) : Int) = (gvN num y : Int) + (sl : Int) + 1 := V.int.inj (of_decide_eq_true z)
              refine ⟨_, rfl, _, rfl, _, rfl, pl, _, rfl, DPut.k (k := Sum.inr y) ll6 (by have := dl.len; rw [sizeLine_eq]; omega), ?_⟩
              refine ⟨_, _, _, _, _, rfl, kp6.put (by simp), by rw [upd_ne n2l.symm]; exact lc6, by rw [upd_ne n3l.symm]; exact lf6, upd_same, dc1, df1, dl.set hm ?_ fun x n => dn _ x n⟩
              show (if o[i]? = some y ∧ (M41.cnt o (i + 1) y : Int) = _ then i else _) = i
              rw [if_pos ⟨hy, by rw [hcy]; exact z⟩]
            · refine ⟨_, _, _, _, _, rfl, kp6, lc6, lf6, ll6, dc1, df1, dl.congr fun x hx => ?_⟩
              by_cases e : x = y
              · subst e
                show (if o[i]? = some x ∧ (M41.cnt o (i + 1) x : Int) = _ then i else _) = _
                rw [if_neg fun q => z (decide_eq_true (by rw [← hcy, q.2]))]
              · exact dn _ x e
          · have df1 : DFn kf names (fun k => upAt o k ((gvN num k : Int) - (sl : Int)) (i + 1)) := df.congr fun x hx => by
              by_cases e : x = y
              · subst e
                show (if o[i]? = some x ∧ (M41.cnt o (i + 1) x : Int) = _ then i + 1 else _) = _
                rw [if_neg fun q => z (decide_eq_true (by rw [← hcy, q.2]))]
              · exact uo _ x e
            refine ⟨_, rfl, _, rfl, pc, _, rfl, .inl ⟨_, Sum.inr y, .inl lc5, rfl, gy1.symm⟩, _, rfl, p, C, dx, _, _, rfl, kp5 _ _ pS h13, T.cl, T.n2, rfl, _, rfl, d, _, rfl, .inl ⟨numK num, Sum.inr y, .inl (kp5 _ _ dS h33), rfl, gn.symm⟩, _, rfl, _, _, rfl, rfl, _, _, rfl, rfl, rfl, _, rfl, ite2 (fun z => ?_) (fun z => ?_)⟩
            · have z : ((M41.cnt o i y + 1 : Nat) : Int) = (gvN num y : Int) + (sl : Int) + 1 := V.int.inj (of_decide_eq_true z)
              refine ⟨_, rfl, _, rfl, _, rfl, pl, _, rfl, DPut.k (k := Sum.inr y) ll5 (by have := dl.len; rw [sizeLine_eq]; omega), ?_⟩
              refine ⟨_, _, _, _, _, rfl, kp5.put (by simp), by rw [upd_ne n2l.symm]; exact lc5, by rw [upd_ne n3l.symm]; exact lf5, upd_same, dc1, df1, dl.set hm ?_ fun x n => dn _ x n⟩
              show (if o[i]? = some y ∧ (M41.cnt o (i + 1) y : Int) = _ then i else _) = i
              rw [if_pos ⟨hy, by rw [hcy]; exact z⟩]
            · refine ⟨_, _, _, _, _, rfl, kp5, lc5, lf5, ll5, dc1, df1, dl.congr fun x hx => ?_⟩
              by_cases e : x = y
              · subst e
                show (if o[i]? = some x ∧ (M41.cnt o (i + 1) x : Int) = _ then i else _) = _
                rw [if_neg fun q => z (decide_eq_true (by rw [← hcy, q.2]))]
              · exact dn _ x e
        · rw [if_neg hm]
          refine iteF ⟨_, _, kc, kf, kl, rfl, kp, lc, lf, ll, dc.congr fun x hx => hco x (fun z => hm (z ▸ hx)), df.congr fun x hx => uo _ x (fun z => hm (z ▸ hx)), dl.congr fun x hx => dn _ x (fun z => hm (z ▸ hx))⟩
      · rintro σ H' ⟨v3, v7, kc, kf, kl, rfl, kp, lc, lf, ll, dc, df, dl⟩
        rw [hlo] at df dl
        refine ⟨_, rfl, _, rfl, by show 2 ≤ sizeLine; decide, fun tt htt => ?_⟩
        have S' : Same H H' := (Keeps.trans (Keeps.of S03) kp).same fun q hq => by
          simp only [List.mem_cons, List.not_mem_nil, or_false] at hq
          rcases hq with rfl | rfl | rfl
          · exact hpc0
          · exact SH1.free hpf0
          · exact SH1.free (SH2.free hpl0)
        have sT := Same.upd (o := HO.tup [.ref pf, .ref pl]) htt
        exact k tt pf pl kf kl _ (Same.trans S' sT) (S'.free htt) upd_same (sT _ _ lf) (sT _ _ ll) df dl
    · refine ⟨_, (pss_cons (ps_setDc (j := 4) (own := [("key", 3)]) (tg := (gName 3)) (tt := tYes) (tk := (tVar 3)) (tv := (tC (.int 0))) rfl scNm.nd rfl rfl (sw_dc rfl rfl rfl (by decide +kernel)) (pi_tup (pv 1)) (blkOk_by (N := sNmN) (sc := defScope sNm) (by decide +kernel)) (fun _ _ _ _ _ => (pg_name (i := 3) scNm.nd rfl (Or.inl rfl))) (fun _ _ _ _ _ => pts_nil) (fun _ _ _ _ _ => (pv 3)) (fun _ _ _ _ _ => pe_int))
        (pss_cons (ps_setDc (j := 5) (own := [("key", 3)]) (tg := (gName 3)) (tt := tYes) (tk := (tVar 3)) (tv := (tC (.int 0))) rfl scNm.nd rfl rfl (sw_dc rfl rfl rfl (by decide +kernel)) (pi_tup (pv 1)) (blkOk_by (N := sNmN) (sc := defScope sNm) (by decide +kernel)) (fun _ _ _ _ _ => (pg_name (i := 3) scNm.nd rfl (Or.inl rfl))) (fun _ _ _ _ _ => pts_nil) (fun _ _ _ _ _ => (pv 3)) (fun _ _ _ _ _ => pe_int))
        (pss_cons (ps_setDc (j := 6) (own := [("key", 3)]) (tg := (gName 3)) (tt := tYes) (tk := (tVar 3)) (tv := (tCB (rLenSq K) (tCons (tFld K (tVar 0) "steps") tNil))) rfl scNm.nd rfl rfl (sw_dc rfl rfl rfl (by decide +kernel)) (pi_tup (pv 1)) (blkOk_by (N := sNmN) (sc := defScope sNm) (by decide +kernel)) (fun _ _ _ _ _ => (pg_name (i := 3) scNm.nd rfl (Or.inl rfl))) (fun _ _ _ _ _ => pts_nil) (fun _ _ _ _ _ => (pv 3)) (fun _ _ _ _ _ => (pe_callB call_len_seq (by rfl) B.len PySem.boot_len (pa_cons (pe_fld (pv 0) rfl) pa_nil))))
        (pss_cons (ps_for PassesOwn.never rfl (pi_enq (by rfl) B.enumerate (pa_cons (pe_fld (pv 0) rfl) pa_nil)) (pg_tup rfl (pgs_cons (pg_name (i := 7) scNm.nd rfl (Or.inl rfl)) (pgs_cons (pg_name (i := 3) scNm.nd rfl (Or.inl rfl)) pgs_nil))) (pss_one (ps_if (pt_cmp (pc_din hu (pv 3) (pv 4))) (pss_cons (ps_daug hu (pv 4) (pv 3) pe_int in_add (fun _ _ _ => rfl))
        (pss_cons (ps_if (pt_cmpR op_eq (pe_dget hu (pv 4) (pv 3) (fun _ _ => rfl)) (pe_op op_sub (pe_dget hu (pe_fld (pv 0) rfl) (pv 3) (fun _ _ => rfl)) (pv 2)) (nomark _)) (pss_one (ps_dput hu (pv 5) (pv 3) (pe_op op_add (pv 7) pe_int) rfl)) pss_nil)
        (pss_one (ps_if (pt_cmpR op_eq (pe_dget hu (pv 4) (pv 3) (fun _ _ => rfl)) (pe_op op_add (pe_op op_add (pe_dget hu (pe_fld (pv 0) rfl) (pv 3) (fun _ _ => rfl)) (pv 2)) pe_int) (nomark _)) (pss_one (ps_dput hu (pv 6) (pv 3) (pv 7) rfl)) pss_nil)))) pss_nil)))
        (pss_one (ps_ret (pe_tup (pa_cons (pv 5) (pa_cons (pv 6) pa_nil))))))))), ?_⟩
      refine ⟨_, rfl, a, rfl, ⟨_, ho⟩, fun pc hD => ?_⟩
      refine dc_it (walk_tup (K := K) (a := a) (xs := strV names)) (fun i Hh => Same H Hh ∧ ∃ kvs, Hh pc = some (.dK kvs) ∧ DFn kvs (names.take i) (fun _ => 0)) ⟨Same.upd hD, _, upd_same, .nil _⟩ (fun i Hh _ z => sqt_same z.1 ho) ?_ ?_
      · rintro i x Hg Hh hi ⟨S, kvs, lD, df⟩ ⟨rfl, hx⟩
        obtain ⟨y, rfl, hy⟩ := strV_get hx
        refine ⟨rfl, _, rfl, _, Sum.inr y, rfl, lD, by have := df.len; rw [List.length_take] at this; rw [sizeLine_eq]; omega, EX.Same.updN S hD, _, upd_same, df.snoc hy⟩
      rintro H1 ⟨SH1, kc, lpc, dpc⟩
      rw [hlv, List.take_length] at dpc
      have ho1 := sqt_same SH1 ho
      have hpc : H pc = none := hD
      refine ⟨_, rfl, a, rfl, ⟨_, ho1⟩, fun pf hD => ?_⟩
      refine dc_it (walk_tup (K := K) (a := a) (xs := strV names)) (fun i Hh => Same H1 Hh ∧ ∃ kvs, Hh pf = some (.dK kvs) ∧ DFn kvs (names.take i) (fun _ => 0)) ⟨Same.upd hD, _, upd_same, .nil _⟩ (fun i Hh _ z => sqt_same z.1 ho1) ?_ ?_
      · rintro i x Hg Hh hi ⟨S, kvs, lD, df⟩ ⟨rfl, hx⟩
        obtain ⟨y, rfl, hy⟩ := strV_get hx
        refine ⟨rfl, _, rfl, _, Sum.inr y, rfl, lD, by have := df.len; rw [List.length_take] at this; rw [sizeLine_eq]; omega, EX.Same.updN S hD, _, upd_same, df.snoc hy⟩
      rintro H2 ⟨SH2, kf, lpf, dpf⟩
      rw [hlv, List.take_length] at dpf
      have ho2 := sqt_same SH2 ho1
      have n1f : pf ≠ pc := fun z => by rw [z, lpc] at hD; cases hD
      have h2 := SH2 _ _ (SH1 _ _ h1)
      have t2 := sqt_same SH2 (sqt_same SH1 ht)
      have hpf0 : H1 pf = none := hD
      have hpc0 : H pc = none := hpc
      refine ⟨_, rfl, a, rfl, ⟨_, ho2⟩, fun pl hD => ?_⟩
      refine dc_it (walk_tup (K := K) (a := a) (xs := strV names)) (fun i Hh => Same H2 Hh ∧ ∃ kvs, Hh pl = some (.dK kvs) ∧ DFn kvs (names.take i) (fun _ => o.length)) ⟨Same.upd hD, _, upd_same, .nil _⟩ (fun i Hh _ z => sqt_same z.1 ho2) ?_ ?_
      · rintro i x Hg Hh hi ⟨S, kvs, lD, df⟩ ⟨rfl, hx⟩
        obtain ⟨y, rfl, hy⟩ := strV_get hx
        refine ⟨rfl, _, rfl, _, rfl, p, C, dx, _, _, rfl, S _ _ h2, T.cl, T.n1, rfl, ap, _, rfl, .inr (sqt_same S t2), _, Sum.inr y, rfl, lD, by have := df.len; rw [List.length_take] at this; rw [sizeLine_eq]; omega, EX.Same.updN S hD, _, upd_same, (by rw [hlo]; exact df.snoc hy)⟩
      rintro H3 ⟨SH3, kl, lpl, dpl⟩
      rw [hlv, List.take_length] at dpl
      have n2l : pl ≠ pc := fun z => by rw [z, SH2 _ _ lpc] at hD; cases hD
      have n3l : pl ≠ pf := fun z => by rw [z, lpf] at hD; cases hD
      have lpc3 := SH3 _ _ (SH2 _ _ lpc)
      have lpf3 := SH3 _ _ lpf
      have S03 := Same.trans SH1 (Same.trans SH2 SH3)
      have hpl0 : H2 pl = none := hD
      have nS : ∀ b o', H b = some o' → b ∉ [pc, pf, pl] := fun b o' e z => by
        simp only [List.mem_cons, List.not_mem_nil, or_false] at z
        rcases z with rfl | rfl | rfl
        · rw [hpc0] at e; cases e
        · rw [SH1 _ _ e] at hpf0; cases hpf0
        · rw [SH2 _ _ (SH1 _ _ e)] at hpl0; cases hpl0
      have pS := nS p _ h1
      have dS := nS d _ h3
      have h13 := S03 _ _ h1
      have h33 := S03 _ _ h3
      have t13 := sqt_same S03 ht
      clear h2 t2 ho2 ho1 lpc lpf SH3 hD
      refine ⟨_, rfl, p, C, dx, _, _, rfl, h13, T.cl, T.n1, rfl, ap, strV o, rfl, t13, ?_⟩
      have tK : ∀ H', Keeps [pc, pf, pl] H3 H' → SqT K H' ap (strV o) := fun H' kp => kp.sqt' (fun q hq => by
        simp only [List.mem_cons, List.not_mem_nil, or_false] at hq
        rcases hq with rfl | rfl | rfl
        · exact .dK lpc3
        · exact .dK lpf3
        · exact .dK lpl) t13
      refine for_it (walk_enq (K := K) (a := ap) (xs := strV o)) (fun i σ H' => ∃ v3 v7 kc kf kl, σ = [some (.ref p), some (.ref a), some (.int (sl : Nat)), v3, some (.ref pc), some (.ref pf), some (.ref pl), v7] ∧ Keeps [pc, pf, pl] H3 H' ∧ H' pc = some (.dK kc) ∧ H' pf = some (.dK kf) ∧ H' pl = some (.dK kl) ∧
          DFn kc names (fun k => M41.cnt o i k) ∧ DFn kf names (fun k => upAt o k ((gvN num k : Int) - (sl : Int)) i) ∧ DFn kl names (fun k => downAt o k ((gvN num k : Int) + (sl : Int) + 1) i))
        ⟨_, _, kc, kf, kl, rfl, .refl _ _, lpc3, lpf3, lpl, dpc.congr fun x _ => by simp [M41.cnt], dpf.congr fun x _ => rfl, dpl.congr fun x _ => rfl⟩ ?_ ?_ ?_
      · rintro i σ H' _ ⟨v3, v7, kc, kf, kl, rfl, kp, _⟩
        exact tK _ kp
      · rintro i v σ H0 Hz hi ⟨v3, v7, kc, kf, kl, rfl, kp, lc, lf, ll, dc, df, dl⟩ ⟨Tp, x0, x, rfl, hT, rfl, e0, hx⟩
        obtain rfl : V.int (i : Nat) = x0 := Option.some.inj e0
        obtain ⟨y, rfl, hy⟩ := strV_get hx
        have hio : i < o.length := (List.getElem?_eq_some_iff.mp hy).1
        have s2 : Same H0 (upd H0 Tp (.tup [.int (i : Nat), .str y])) := Same.upd hT
        have lT : upd H0 Tp (HO.tup [.int (i : Nat), .str y]) Tp = some (.tup [.int (i : Nat), .str y]) := upd_same
        generalize upd H0 Tp (HO.tup [.int (i : Nat), .str y]) = Hx at s2 lT ⊢
        have kp := kp.then s2
        have lc := s2 _ _ lc
        have lf := s2 _ _ lf
        have ll := s2 _ _ ll
        refine ⟨Tp, _, rfl, SqT.of lT, rfl, _, _, rfl, _, _, rfl, rfl, ?_⟩
        clear s2 lT hT
        refine ⟨_, rfl, _, rfl, pc, _, rfl, DGet.k (k := Sum.inr y) lc, _, rfl, ?_⟩
        rw [dc.at_ y]
        have cst := cnt_succ hy
        have hcy : M41.cnt o (i + 1) y = M41.cnt o i y + 1 := by
          rw [cst]
          unfold M41.bump
          rw [if_pos rfl]
        have hco : ∀ x, x ≠ y → M41.cnt o (i + 1) x = M41.cnt o i x := fun x n => by
          rw [cst]
          unfold M41.bump
          rw [if_neg n]
        have uo : ∀ (t : Int) x, x ≠ y → upAt o x t (i + 1) = upAt o x t i := fun t x n => by
          show (if o[i]? = some x ∧ _ then _ else _) = _
          rw [if_neg fun z => n (Option.some.inj (z.1.symm.trans hy))]
        have dn : ∀ (t : Int) x, x ≠ y → downAt o x t (i + 1) = downAt o x t i := fun t x n => by
          show (if o[i]? = some x ∧ _ then _ else _) = _
          rw [if_neg fun z => n (Option.some.inj (z.1.symm.trans hy))]
        by_cases hm : y ∈ names
        · rw [if_pos hm]
          refine iteT ?_
          have gy : valV kc (Sum.inr y) = some (.int (M41.cnt o i y : Nat)) := by rw [dc.at_ y, if_pos hm]
          refine ⟨_, rfl, _, rfl, pc, _, rfl, by rw [← gy]; exact DGet.k (k := Sum.inr y) lc, _, _, rfl, rfl, _, DPut.k (k := Sum.inr y) lc (by have := dc.len; rw [sizeLine_eq]; omega), ?_⟩
          have gn : valV (numK num) (Sum.inr y) = some (.int (gvN num y : Nat)) := numK_gv NO.nd (hk y hm)
          rw [show ((M41.cnt o i y : Nat) : Int) + 1 = ((M41.cnt o i y + 1 : Nat) : Int) by omega]
          have dc1 : DFn (putK kc (Sum.inr y) (.int (M41.cnt o i y + 1 : Nat))) names (fun k => M41.cnt o (i + 1) k) := dc.set hm hcy hco
          have gy1 : valV (putK kc (Sum.inr y) (.int (M41.cnt o i y + 1 : Nat))) (Sum.inr y) = some (.int (M41.cnt o i y + 1 : Nat)) := by rw [valV_put, if_pos rfl]
          have lc5 : upd Hx pc (HO.dK (putK kc (Sum.inr y) (.int (M41.cnt o i y + 1 : Nat)))) pc = some (.dK (putK kc (Sum.inr y) (.int (M41.cnt o i y + 1 : Nat)))) := upd_same
          have lf5 : upd Hx pc (HO.dK (putK kc (Sum.inr y) (.int (M41.cnt o i y + 1 : Nat)))) pf = some (.dK kf) := by rw [upd_ne n1f]; exact lf
          have ll5 : upd Hx pc (HO.dK (putK kc (Sum.inr y) (.int (M41.cnt o i y + 1 : Nat)))) pl = some (.dK kl) := by rw [upd_ne n2l]; exact ll
          have kp5 : Keeps [pc, pf, pl] H3 (upd Hx pc (.dK (putK kc (Sum.inr y) (.int (M41.cnt o i y + 1 : Nat))))) := kp.put (by simp)
          generalize upd Hx pc (HO.dK (putK kc (Sum.inr y) (.int (M41.cnt o i y + 1 : Nat)))) = H5 at lc5 lf5 ll5 kp5 ⊢
          generalize putK kc (Sum.inr y) (.int (M41.cnt o i y + 1 : Nat)) = kc1 at lc5 dc1 gy1 ⊢
          refine ⟨_, rfl, _, rfl, pc, _, rfl, .inl ⟨_, Sum.inr y, .inl lc5, rfl, gy1.symm⟩, _, rfl, p, C, dx, _, _, rfl, kp5 _ _ pS h13, T.cl, T.n2, rfl, _, rfl, d, _, rfl, .inl ⟨numK num, Sum.inr y, .inl (kp5 _ _ dS h33), rfl, gn.symm⟩, _, rfl, _, _, rfl, rfl, rfl, _, rfl, ite2 (fun z => ?_) (fun z => ?_)⟩
          · have z : ((M41.cnt o i y + 1 : Nat) : Int) = (gvN num y : Int) - (sl : Int) := V.int.inj (of_decide_eq_true z)
            refine ⟨_, rfl, _, _, rfl, rfl, _, rfl, _, rfl, pf, _, rfl, DPut.k (k := Sum.inr y) lf5 (by have := df.len; rw [sizeLine_eq]; omega), ?_⟩
            have ei : V.int (((i : Nat) : Int) + 1) = V.int ((i + 1 : Nat) : Int) := congrArg V.int (by omega)
            rw [show (fun i j : Int => V.int (i + j)) ((i : Nat) : Int) 1 = V.int ((i + 1 : Nat) : Int) from ei]
            have df1 : DFn (putK kf (Sum.inr y) (.int (i + 1 : Nat))) names (fun k => upAt o k ((gvN num k : Int) - (sl : Int)) (i + 1)) := df.set hm (by
              show (if o[i]? = some y ∧ (M41.cnt o (i + 1) y : Int) = _ then i + 1 else _) = i + 1
              rw [if_pos ⟨hy, by rw [hcy]; exact z⟩]) fun x n => uo _ x n
            have lc6 : upd H5 pf (HO.dK (putK kf (Sum.inr y) (.int (i + 1 : Nat)))) pc = some (.dK kc1) := by rw [upd_ne n1f.symm]; exact lc5
            have lf6 : upd H5 pf (HO.dK (putK kf (Sum.inr y) (.int (i + 1 : Nat)))) pf = some (.dK (putK kf (Sum.inr y) (.int (i + 1 : Nat)))) := upd_same
            have ll6 : upd H5 pf (HO.dK (putK kf (Sum.inr y) (.int (i + 1 : Nat)))) pl = some (.dK kl) := by rw [upd_ne n3l]; exact ll5
            have kp6 : Keeps [pc, pf, pl] H3 (upd H5 pf (.dK (putK kf (Sum.inr y) (.int (i + 1 : Nat))))) := kp5.put (by simp)
            generalize upd H5 pf (HO.dK (putK kf (Sum.inr y) (.int (i + 1 : Nat)))) = H6 at lc6 lf6 ll6 kp6 ⊢
            generalize putK kf (Sum.inr y) (.int (i + 1 : Nat)) = kf1 at lf6 df1 ⊢
            refine ⟨_, rfl, _, rfl, pc, _, rfl, .inl ⟨_, Sum.inr y, .inl lc6, rfl, gy1.symm⟩, _, rfl, p, C, dx, _, _, rfl, kp6 _ _ pS h13, T.cl, T.n2, rfl, _, rfl, d, _, rfl, .inl ⟨numK num, Sum.inr y, .inl (kp6 _ _ dS h33), rfl, gn.symm⟩, _, rfl, _, _, rfl, rfl, _, _, rfl, rfl, rfl, _, rfl, ite2 (fun z => ?_) (fun z => ?_)⟩
            · have z : ((M41.cnt o i y + 1 : Nat) : Int) = (gvN num y : Int) + (sl : Int) + 1 := V.int.inj (of_decide_eq_true z)
              refine ⟨_, rfl, _, rfl, _, rfl, pl, _, rfl, DPut.k (k := Sum.inr y) ll6 (by have := dl.len; rw [sizeLine_eq]; omega), ?_⟩
              refine ⟨_, _, _, _, _, rfl, kp6.put (by simp), by rw [upd_ne n2l.symm]; exact lc6, by rw [upd_ne n3l.symm]; exact lf6, upd_same, dc1, df1, dl.set hm ?_ fun x n => dn _ x n⟩
              show (if o[i]? = some y ∧ (M41.cnt o (i + 1) y : Int) = _ then i else _) = i
              rw [if_pos ⟨hy, by rw [hcy]; exact z⟩]
            · refine ⟨_, _, _, _, _, rfl, kp6, lc6, lf6, ll6, dc1, df1, dl.congr fun x hx => ?_⟩
              by_cases e : x = y
              · subst e
                show (if o[i]? = some x ∧ (M41.cnt o (i + 1) x : Int) = _ then i else _) = _
                rw [if_neg fun q => z (decide_eq_true (by rw [← hcy, q.2]))]
              · exact dn _ x e
          · have df1 : DFn kf names (fun k => upAt o k ((gvN num k : Int) - (sl : Int)) (i + 1)) := df.congr fun x hx => by
              by_cases e : x = y
              · subst e
                show (if o[i]? = some x ∧ (M41.cnt o (i + 1) x : Int) = _ then i + 1 else _) = _
                rw [if_neg fun q => z (decide_eq_true (by rw [← hcy, q.2]))]
              · exact uo _ x e
            refine ⟨_, rfl, _, rfl, pc, _, rfl, .inl ⟨_, Sum.inr y, .inl lc5, rfl, gy1.symm⟩, _, rfl, p, C, dx, _, _, rfl, kp5 _ _ pS h13, T.cl, T.n2, rfl, _, rfl, d, _, rfl, .inl ⟨numK num, Sum.inr y, .inl (kp5 _ _ dS h33), rfl, gn.symm⟩, _, rfl, _, _, rfl, rfl, _, _, rfl, rfl, rfl, _, rfl, ite2 (fun z => ?_) (fun z => ?_)⟩
            · have z : ((M41.cnt o i y + 1 : Nat) : Int) = (gvN num y : Int) + (sl : Int) + 1 := V.int.inj (of_decide_eq_true z)
              refine ⟨_, rfl, _, rfl, _, rfl, pl, _, rfl, DPut.k (k := Sum.inr y) ll5 (by have := dl.len; rw [sizeLine_eq]; omega), ?_⟩
              refine ⟨_, _, _, _, _, rfl, kp5.put (by simp), by rw [upd_ne n2l.symm]; exact lc5, by rw [upd_ne n3l.symm]; exact lf5, upd_same, dc1, df1, dl.set hm ?_ fun x n => dn _ x n⟩
              show (if o[i]? = some y ∧ (M41.cnt o (i + 1) y : Int) = _ then i else _) = i
              rw [if_pos ⟨hy, by rw [hcy]; exact z⟩]
            · refine ⟨_, _, _, _, _, rfl, kp5, lc5, lf5, ll5, dc1, df1, dl.congr fun x hx => ?_⟩
              by_cases e : x = y
              · subst e
                show (if o[i]? = some x ∧ (M41.cnt o (i + 1) x : Int) = _ then i else _) = _
                rw [if_neg fun q => z (decide_eq_true (by rw [← hcy, q.2]))]
              · exact dn _ x e
        · rw [if_neg hm]
          refine iteF ⟨_, _, kc, kf, kl, rfl, kp, lc, lf, ll, dc.congr fun x hx => hco x (fun z => hm (z ▸ hx)), df.congr fun x hx => uo _ x (fun z => hm (z ▸ hx)), dl.congr fun x hx => dn _ x (fun z => hm (z ▸ hx))⟩
      · rintro σ H' ⟨v3, v7, kc, kf, kl, rfl, kp, lc, lf, ll, dc, df, dl⟩
        rw [hlo] at df dl
        refine ⟨_, rfl, _, rfl, by show 2 ≤ sizeLine; decide, fun tt htt => ?_⟩
        have S' : Same H H' := (Keeps.trans (Keeps.of S03) kp).same fun q hq => by
          simp only [List.mem_cons, List.not_mem_nil, or_false] at hq
          rcases hq with rfl | rfl | rfl
          · exact hpc0
          · exact SH1.free hpf0
          · exact SH1.free (SH2.free hpl0)
        have sT := Same.upd (o := HO.tup [.ref pf, .ref pl]) htt
        exact k tt pf pl kf kl _ (Same.trans S' sT) (S'.free htt) upd_same (sT _ _ lf) (sT _ _ ll) df dl
end
end K41
set_option Elab.async false
set_option linter.all false
set_option maxRecDepth 100000
set_option maxHeartbeats 4000000
namespace K41
open PySem L2 EX PyProof.Rows M41
open LamX
/-- what a cut is after new objects and tables -/
theorem Shown.ext {H H' : Hp} (s : LamX.ExtN H H') {o : List Str} {num : Num Str} {t : V} (h : Shown H o num t) : Shown H' o num t := by
  unfold Shown at *
  split
  · rename_i z
    rw [if_pos z] at h
    obtain ⟨q, e, hq⟩ := h
    exact ⟨q, e, s _ _ hq (fun _ e => nomatch e)⟩
  · rename_i z
    rw [if_neg z] at h
    exact h
theorem CutAt.ext {K : PySem.W.Frag} {C : Addr} {H H' : Hp} (s : LamX.ExtN H H') {p : Addr} {o : List Str} {num : Num Str} (h : CutAt K C H p o num) : CutAt K C H' p o num := by
  obtain ⟨dx, a, d, g, t, h1, h2, h3, h4, h5⟩ := h.ex
  exact ⟨dx, a, d, g, t, s _ _ h1 (fun _ e => nomatch e), EX.ExtN.sqt s h2, EX.ExtN.dK s h3, EX.ExtN.lst s h4, h5.ext s⟩
theorem one_T {Pt : Addr} {q : Str} : ∀ p ∈ [(Pt, q)], p.1 = Pt → p.2 = q := fun p hp _ => by rw [List.mem_singleton.mp hp]
def qFb : Str := "find_bar.<locals>.<lambda>"
def keysN (num : Num Str) : List Str := num.map (·.1)
/-- the first, the last moment of a key within a slack -/
def fm (o : List Str) (num : Num Str) (s : Nat) (k : Str) : Nat := firstM o (k, gvN num k) s
def lm (o : List Str) (num : Num Str) (s : Nat) (k : Str) : Nat := lastM o (k, gvN num k) s
/-- find_bar(cut) -/
def spFb (K : PySem.W.Frag) (C : Addr) (T : List (Addr × Str)) : Sp := fun vs H Q _ => ∃ (p : Addr) (o : List Str) (num : Num Str), vs = [.ref p] ∧ CutAt K C H p o num ∧ NumOk o num ∧ o.length ≤ 5000 ∧ Tabs T H ∧
  (mn (gaps o num) = 0 → Q .non H) ∧ (mn (gaps o num) ≠ 0 → ∀ t e l H', LamX.ExtN H H' → Tabs T H' → H' t = some (.tup [.str e, .str l]) → e ∈ keysN num → l ∈ keysN num → (∀ k ∈ keysN num, fm o num (mn (gaps o num) - 1) k ≤ fm o num (mn (gaps o num) - 1) l) → (∀ k ∈ keysN num, lm o num (mn (gaps o num) - 1) e ≤ lm o num (mn (gaps o num) - 1) k) → Q (.ref t) H')
/-- what check_bar is asked of -/
inductive BarA (K : PySem.W.Frag) (H : Hp) (num : Num Str) : V → Option (Str × Str) → Prop where
  | non : BarA K H num .non none
  | two {t : Addr} {e l : Str} (h : SqT K H t [.str e, .str l]) (he : e ∈ keysN num) (hl : l ∈ keysN num) : BarA K H num (.ref t) (some (e, l))
def spCb (K : PySem.W.Frag) (C : Addr) : Sp := fun vs H Q _ => ∃ (p : Addr) (x : V) (o : List Str) (num : Num Str), vs = [.ref p, x] ∧ CutAt K C H p o num ∧ NumOk o num ∧ o.length ≤ 5000 ∧
  ((mn (gaps o num) = 0 ∧ Q (.bl (decide (x = .non))) H) ∨ (mn (gaps o num) ≠ 0 ∧ ((x = .non ∧ Q (.bl false) H) ∨ ∃ t e l, x = .ref t ∧ SqT K H t [.str e, .str l] ∧ e ∈ keysN num ∧ l ∈ keysN num ∧
    ∀ b H', (b = true ↔ fm o num (mn (gaps o num) - 1) e > lm o num (mn (gaps o num) - 1) l ∨ fm o num (mn (gaps o num) - 1) l > lm o num (mn (gaps o num) - 1) e) → Same H H' → Q (.bl b) H')))
abbrev sFb : Stmt := top 18
def sFbN : List Str := ["cut", "keys", "late", "early", "firsts", "lasts"]
theorem scFb : FnScope ["cut", "keys", "late", "early", "firsts", "lasts"] ["cut"] (defScope sFb) := ⟨rfl, rfl, rfl, by decide +kernel, rfl, by decide +kernel, by decide +kernel⟩
abbrev sCb : Stmt := top 19
def sCbN : List Str := ["cut", "obj", "key", "firsts", "lasts"]
theorem scCb : FnScope ["cut", "obj", "key", "firsts", "lasts"] ["cut", "obj"] (defScope sCb) := ⟨rfl, rfl, rfl, by decide +kernel, rfl, by decide +kernel, by decide +kernel⟩
section
variable {P : Program} {w : World} {K : PySem.W.Frag} {mg : Str → Option Value} {base : Heap}
theorem ok_cb {C : Addr} {f : Addr} {fd : FuncData} (F : Fun K "check_bar" "check_bar" sCb f fd) (B : Bn mg) (T : CutC K C) (GSp : PrAt P w K mg base 1 C "spread" ["self"] (spSpread K C)) (GNm : DefAt P w K mg base 1 "near_moments" ["cut", "keys", "slack"] (spNm K C)) :
    FnOk P w K mg base CX0 3 f fd ["cut", "obj"] (spCb K C) := by
  refine F.ok scCb (fun vs H Q E h => ?_) (fun cdv A outer s H vs Q E hr h => ?_)
  · obtain ⟨p, x, o, num, rfl, _⟩ := h
    rfl
  · obtain ⟨p, x, o, num, rfl, hc, NO, hlo, h⟩ := h
    have hu := hu_of hr
    obtain ⟨dx, ap, d, g, t, h1, ht, h3, h4, h5⟩ := hc.ex
    refine ⟨_, (pss_cons (ps_if (pt_cmpR op_eq (pe_prD GSp (hr.mono (by decide)) (pv 0)) pe_int (nomark _)) (pss_one (ps_ret (pe_cmp (pc_isN (pv 1))))) pss_nil)
        (pss_cons (ps_if (PW.pt (pw_or (pt_not (pt_val (pe_callB call_isi (by rfl) B.isi PyProof.Rows.boot_isinstance (pa_cons (pv 1) (pa_cons (pe_bltn (v := .ty "tuple") (by rfl) B.tuple (by decide +kernel) rfl) pa_nil))))) (pw_or1 (pt_cmpR op_ne (pe_callB call_len_seq (by rfl) B.len PySem.boot_len (pa_cons (pv 1) pa_nil)) pe_int (nomark _))))) (pss_one (ps_ret pe_bl)) pss_nil)
        (pss_cons (ps_for PassesOwn.never rfl (pi_tup (pv 1)) (pg_name (i := 2) scCb.nd rfl (Or.inl rfl)) (pss_one (ps_if (PW.pt (pw_or (pt_not (pt_val (pe_callB call_isi (by rfl) B.isi PyProof.Rows.boot_isinstance (pa_cons (pv 2) (pa_cons (pe_bltn (v := .ty "str") (by rfl) B.str (by decide +kernel) rfl) pa_nil))))) (pw_or1 (pt_cmp (pc_dnotin hu (pv 2) (pe_fld (pv 0) rfl)))))) (pss_one (ps_ret pe_bl)) pss_nil)))
        (pss_cons (ps_asg (pe_callD GNm (hr.mono (by decide)) (pa_cons (pv 0) (pa_cons (pv 1) (pa_cons (pe_op op_sub (pe_prD GSp (hr.mono (by decide)) (pv 0)) pe_int) pa_nil)))) (pg_tup rfl (pgs_cons (pg_name (i := 3) scCb.nd rfl (Or.inl rfl)) (pgs_cons (pg_name (i := 4) scCb.nd rfl (Or.inl rfl)) pgs_nil))))
        (pss_one (ps_ret (pe_or (pe_cmpR op_gt (pe_dget hu (pv 3) (pe_ix ix_tup (pv 1) pe_int (fun _ _ => rfl)) (fun _ _ => rfl)) (pe_dget hu (pv 4) (pe_ix ix_tup (pv 1) pe_int (fun _ _ => rfl)) (fun _ _ => rfl)) (nomark _)) (pe_one (pe_cmpR op_gt (pe_dget hu (pv 3) (pe_ix ix_tup (pv 1) pe_int (fun _ _ => rfl)) (fun _ _ => rfl)) (pe_dget hu (pv 4) (pe_ix ix_tup (pv 1) pe_int (fun _ _ => rfl)) (fun _ _ => rfl)) (nomark _)))))))))), ?_⟩
    refine ⟨_, rfl, p, dx, _, rfl, h1, p, o, num, rfl, hc, rfl, _, rfl, ?_⟩
    rcases h with ⟨hz, k⟩ | ⟨hz, h⟩
    · refine ifT (decide_eq_true (by rw [hz]; rfl)) ?_
      exact ⟨_, rfl, k⟩
    refine ifF (decide_eq_false fun e => hz (by have := V.int.inj e; omega)) ?_
    rcases h with ⟨rfl, k⟩ | ⟨tt, e, l, rfl, htt, he, hl, k⟩
    · exact ⟨_, rfl, _, _, _, _, false, rfl, .ty _, .base .non, kit_ty (by decide +kernel), _, rfl, iteT k⟩
    have npd : p ≠ d := fun z => by rw [z, h3] at h1; cases h1
    refine ⟨_, rfl, _, _, _, _, true, rfl, .ty _, tyx_tup htt, kit_ty (by decide +kernel), _, rfl, iteF ?_⟩
    refine ⟨_, rfl, tt, _, rfl, .inr htt, rfl, _, rfl, iteF ?_⟩
    refine ⟨_, rfl, tt, rfl, ⟨_, htt⟩, ?_⟩
    have kin : ∀ y ∈ [V.str e, V.str l], ∃ z, y = .str z ∧ z ∈ keysN num := fun y hy => by
      rcases List.mem_cons.mp hy with rfl | hy
      · exact ⟨e, rfl, he⟩
      · rw [List.mem_singleton.mp hy]
        exact ⟨l, rfl, hl⟩
    refine for_tup (K := K) (a := tt) (xs := [.str e, .str l]) (fun i σ H' => ∃ v2, σ = [some (.ref p), some (.ref tt), v2, none, none] ∧ H' = H) ⟨_, rfl, rfl⟩ ?_ ?_ ?_
    · rintro i σ H' _ ⟨v2, rfl, rfl⟩
      exact htt
    · rintro i x σ H' hx ⟨v2, rfl, rfl⟩
      obtain ⟨z, rfl, hz'⟩ := kin x (List.mem_of_getElem? hx)
      refine ⟨_, rfl, _, _, _, _, true, rfl, .ty _, .base (.str _), kit_ty (by decide +kernel), _, rfl, iteF ?_⟩
      refine ⟨_, rfl, _, rfl, p, C, dx, _, _, rfl, h1, T.cl, T.n2, rfl, d, _, rfl, .inl ⟨numK num, Sum.inr z, .inl h3, rfl, (numK_gv NO.nd hz').symm⟩, _, rfl, iteF ⟨_, rfl, rfl⟩⟩
    rintro σ H' ⟨v2, rfl, rfl⟩
    have hm1 : ((mn (gaps o num) : Nat) : Int) - 1 = ((mn (gaps o num) - 1 : Nat) : Int) := by omega
    refine ⟨_, rfl, _, rfl, _, rfl, p, dx, _, rfl, h1, p, o, num, rfl, hc, _, _, rfl, rfl, p, tt, o, [e, l], num, mn (gaps o num) - 1, by rw [← hm1]; rfl, hc, .inr htt, by show 2 ≤ 1000; decide, fun k hk => ?_, NO, hlo, fun t2 pf pl kf kl H2 S2 _ lt2 lf ll df dl => ?_⟩
    · rcases List.mem_cons.mp hk with rfl | hk
      · exact he
      · rw [List.mem_singleton.mp hk]
        exact hl
    refine ⟨t2, _, rfl, SqT.of lt2, rfl, _, _, rfl, _, _, rfl, rfl, ?_⟩
    have htt2 := sqt_same S2 htt
    have gf : ∀ z, z ∈ [e, l] → DGet H2 pf (.str z) (some (.int (fm o num (mn (gaps o num) - 1) z : Nat))) := fun z hz => .inl ⟨kf, Sum.inr z, .inl lf, rfl, by rw [df.at_ z, if_pos hz]; rfl⟩
    have gl : ∀ z, z ∈ [e, l] → DGet H2 pl (.str z) (some (.int (lm o num (mn (gaps o num) - 1) z : Nat))) := fun z hz => .inl ⟨kl, Sum.inr z, .inl ll, rfl, by rw [dl.at_ z, if_pos hz]; rfl⟩
    have me : e ∈ [e, l] := .head _
    have ml : l ∈ [e, l] := .tail _ (.head _)
    refine ⟨_, rfl, _, rfl, tt, _, _, _, rfl, rfl, htt2, atI_nat (j := 0) rfl, pf, _, rfl, gf e me, _, rfl, _, rfl, tt, _, _, _, rfl, rfl, htt2, atI_nat (j := 1) rfl, pl, _, rfl, gl l ml, _, _, rfl, rfl, _, rfl, ite2 (fun z => ?_) (fun z => ?_)⟩
    · have z : lm o num (mn (gaps o num) - 1) l < fm o num (mn (gaps o num) - 1) e := by
        have := of_decide_eq_true z
        omega
      exact k true H2 ⟨fun _ => .inl z, fun _ => rfl⟩ S2
    · have z : ¬ fm o num (mn (gaps o num) - 1) e > lm o num (mn (gaps o num) - 1) l := fun y => z (decide_eq_true (by omega))
      refine ⟨_, rfl, _, rfl, tt, _, _, _, rfl, rfl, htt2, atI_nat (j := 1) rfl, pf, _, rfl, gf l ml, _, rfl, _, rfl, tt, _, _, _, rfl, rfl, htt2, atI_nat (j := 0) rfl, pl, _, rfl, gl e me, _, _, rfl, rfl, k _ H2 ?_ S2⟩
      rw [decide_eq_true_eq]
      exact ⟨fun h => .inr (by omega), fun h => h.elim (fun q => absurd q z) fun q => by omega⟩
end
section
variable {P : Program} {w : World} {K : PySem.W.Frag} {mg : Str → Option Value} {base : Heap}
theorem ok_fb {C c Pt : Addr} {f : Addr} {fd : FuncData} (F : Fun K "find_bar" "find_bar" sFb f fd) (hc0 : fd.code = .ref c) (TB : TabB base mg c Pt) (B : Bn mg) (T : CutC K C) (GSp : PrAt P w K mg base 1 C "spread" ["self"] (spSpread K C)) (GNm : DefAt P w K mg base 1 "near_moments" ["cut", "keys", "slack"] (spNm K C)) :
    FnG P w K mg base CX0 4 f fd ["cut"] (spFb K C [(Pt, qFb)]) := by
  refine fn_atC F hc0 scFb (fun vs H Q E h => ?_) (fun A outer s H vs Q E hgu hr h => ?_)
  · obtain ⟨p, o, num, rfl, _⟩ := h
    rfl
  · obtain ⟨p, o, num, rfl, hc, NO, hlo, hT, k0, k1⟩ := h
    have hu := hu_of hr
    obtain ⟨dx, ap, d, g, t, h1, ht, h3, h4, h5⟩ := hc.ex
    refine ⟨_, (pss_cons (ps_if (pt_cmpR op_eq (pe_prD GSp (hr.mono (by decide)) (pv 0)) pe_int (nomark _)) (pss_one (ps_ret pe_non)) pss_nil)
        (pss_cons (ps_set (i := 1) scFb.nd rfl (Or.inl rfl) (pe_callTy (call_listD rfl) (by rfl) B.list (by decide +kernel) (pa_cons (pe_fld (pv 0) rfl) pa_nil)))
        (pss_cons (ps_asg (pe_callD GNm (hr.mono (by decide)) (pa_cons (pv 0) (pa_cons (pv 1) (pa_cons (pe_op op_sub (pe_prD GSp (hr.mono (by decide)) (pv 0)) pe_int) pa_nil)))) (pg_tup rfl (pgs_cons (pg_name (i := 4) scFb.nd rfl (Or.inr rfl)) (pgs_cons (pg_name (i := 5) scFb.nd rfl (Or.inr rfl)) pgs_nil))))
        (pss_cons (ps_set (i := 2) scFb.nd rfl (Or.inl rfl) (pe_maxKey (k := 0) rfl (by rfl) B.max TB rfl (List.mem_singleton.mpr rfl) one_T (hr.mono (by decide)) (lam1S_by (sc := defScope sFb) (N := sFbN) (by decide +kernel)) rfl (fun _ _ _ _ _ _ => rfl) (pa_cons (pv 1) pa_nil) (fun A outer s H f c' hr2 => (pe_dget (hu_of hr2) (pv 5) (pv 0) (fun _ _ => rfl)))))
        (pss_cons (ps_set (i := 3) scFb.nd rfl (Or.inl rfl) (pe_minKey (k := 0) rfl (by rfl) B.min TB rfl (List.mem_singleton.mpr rfl) one_T (hr.mono (by decide)) (lam1S_by (sc := defScope sFb) (N := sFbN) (by decide +kernel)) rfl (fun _ _ _ _ _ _ => rfl) (pa_cons (pv 1) pa_nil) (fun A outer s H f c' hr2 => (pe_dget (hu_of hr2) (pv 6) (pv 0) (fun _ _ => rfl)))))
        (pss_one (ps_ret (pe_tup (pa_cons (pv 3) (pa_cons (pv 2) pa_nil)))))))))), ?_⟩
    refine ⟨_, rfl, p, dx, _, rfl, h1, p, o, num, rfl, hc, rfl, _, rfl, ite2 (fun z => ?_) (fun z => ?_)⟩
    · exact k0 (by have := V.int.inj (of_decide_eq_true z); omega)
    have hz : mn (gaps o num) ≠ 0 := fun e => z (decide_eq_true (by rw [e]; rfl))
    refine ⟨_, rfl, p, C, dx, _, _, rfl, h1, T.cl, T.n2, rfl, d, _, rfl, .inl h3, fun lk hlk => ?_⟩
    have e1 : (numK num).map (fun kv => kV kv.1) = strV (keysN num) := by
      unfold numK keysN strV
      rw [List.map_map, List.map_map]
      rfl
    rw [e1]
    have s1 : Same H (upd H lk (.lst (strV (keysN num)))) := Same.upd hlk
    have l1 : upd H lk (HO.lst (strV (keysN num))) lk = some (.lst (strV (keysN num))) := upd_same
    generalize upd H lk (HO.lst (strV (keysN num))) = H1 at s1 l1 ⊢
    have hm1 : ((mn (gaps o num) : Nat) : Int) - 1 = ((mn (gaps o num) - 1 : Nat) : Int) := by omega
    refine ⟨_, rfl, _, rfl, _, rfl, p, dx, _, rfl, s1 _ _ h1, p, o, num, rfl, hc.mono s1, _, _, rfl, rfl, p, lk, o, keysN num, num, mn (gaps o num) - 1, by rw [← hm1]; rfl, hc.mono s1, .inl (SqL.of l1), by unfold keysN; rw [List.length_map]; exact NO.sz, fun k hk => hk, NO, hlo, fun t2 pf pl kf kl H2 S2 _ lt2 lf ll df dl => ?_⟩
    refine ⟨t2, _, rfl, SqT.of lt2, rfl, _, _, rfl, _, _, rfl, rfl, ?_⟩
    have T2 : Tabs [(Pt, qFb)] H2 := hT.ext (Same.trans s1 S2)
    have l2 := S2 _ _ l1
    have kln : (strV (keysN num)).length = num.length := by simp [keysN]
    have kpos : 0 < (strV (keysN num)).length := by rw [kln]; exact List.length_pos_iff.mpr NO.ne
    -- late
    refine ⟨_, rfl, lk, _, fun i => ((fm o num (mn (gaps o num) - 1) ((keysN num).getD i "") : Nat) : Int), rfl, SqL.of l2, kpos, T2, fun H3 E3 T3 => ⟨fun i x hx => ?_, fun i x hx best => ?_⟩⟩
    · obtain ⟨y, rfl, hy⟩ := strV_get hx
      refine ⟨_, rfl, _, rfl, pf, _, rfl, .inl ⟨kf, Sum.inr y, .inl (EX.ExtN.dK E3 lf), rfl, by rw [df.at_ y, if_pos (List.mem_of_getElem? hy)]⟩, ?_, rfl⟩
      dsimp only
      rw [List.getD_eq_getElem?_getD, hy]
      rfl
    obtain ⟨late, rfl, hl⟩ := strV_get hx
    have lateM : ∀ k ∈ keysN num, fm o num (mn (gaps o num) - 1) k ≤ fm o num (mn (gaps o num) - 1) late := fun k hk => by
      obtain ⟨j, hj⟩ := List.mem_iff_getElem?.mp hk
      have hb := best j (by rw [List.length_map]; exact (List.getElem?_eq_some_iff.mp hj).1)
      dsimp only at hb
      rw [List.getD_eq_getElem?_getD, List.getD_eq_getElem?_getD, hj, hl] at hb
      have hb : ((fm o num (mn (gaps o num) - 1) late : Nat) : Int) ≥ ((fm o num (mn (gaps o num) - 1) k : Nat) : Int) := hb
      omega
    have lateIn := List.mem_of_getElem? hl
    clear best hx hl
    -- early
    refine ⟨_, rfl, lk, _, fun i => ((lm o num (mn (gaps o num) - 1) ((keysN num).getD i "") : Nat) : Int), rfl, SqL.of (EX.ExtN.lst E3 l2), kpos, T3, fun H4 E4 T4 => ⟨fun i x hx => ?_, fun i x hx best => ?_⟩⟩
    · obtain ⟨y, rfl, hy⟩ := strV_get hx
      refine ⟨_, rfl, _, rfl, pl, _, rfl, .inl ⟨kl, Sum.inr y, .inl (EX.ExtN.dK E4 (EX.ExtN.dK E3 ll)), rfl, by rw [dl.at_ y, if_pos (List.mem_of_getElem? hy)]⟩, ?_, rfl⟩
      dsimp only
      rw [List.getD_eq_getElem?_getD, hy]
      rfl
    obtain ⟨early, rfl, he⟩ := strV_get hx
    have earlyM : ∀ k ∈ keysN num, lm o num (mn (gaps o num) - 1) early ≤ lm o num (mn (gaps o num) - 1) k := fun k hk => by
      obtain ⟨j, hj⟩ := List.mem_iff_getElem?.mp hk
      have hb := best j (by rw [List.length_map]; exact (List.getElem?_eq_some_iff.mp hj).1)
      dsimp only at hb
      rw [List.getD_eq_getElem?_getD, List.getD_eq_getElem?_getD, hj, he] at hb
      have hb : ((lm o num (mn (gaps o num) - 1) early : Nat) : Int) ≤ ((lm o num (mn (gaps o num) - 1) k : Nat) : Int) := hb
      omega
    refine ⟨_, rfl, _, rfl, by show 2 ≤ sizeLine; decide, fun tt htt => ?_⟩
    have sT : Same H4 (upd H4 tt (.tup [.str early, .str late])) := Same.upd htt
    exact k1 hz tt early late _ (ExtN.trans (ExtN.of (Same.trans s1 S2)) (ExtN.trans E3 (ExtN.trans E4 (ExtN.of sT)))) (T4.ext sT) upd_same (List.mem_of_getElem? he) lateIn lateM earlyM
end
end K41
set_option Elab.async false
set_option linter.all false
set_option maxRecDepth 100000
set_option maxHeartbeats 4000000
namespace EX
open PySem L2 PySem.Spec PyProof.Rows
/-! ### several new objects at once -/
theorem mem_lk {β : Type} : ∀ {l : List (Addr × β)} {a : Addr} {b : β}, l.lookup a = some b → (a, b) ∈ l
  | [], a, b, h => by simp at h
  | (x, y) :: t, a, b, h => by
    rw [List.lookup_cons] at h
    by_cases e : (a == x) = true
    · rw [e] at h
      rw [beq_iff_eq.mp e, Option.some.inj h]
      exact List.mem_cons_self ..
    · rw [show (a == x) = false by simpa using e] at h
      exact List.mem_cons_of_mem _ (mem_lk h)
def manyH (H : Hp) (N : List (Addr × HO)) : Hp := fun b => match N.lookup b with
  | some o => some o
  | none => H b
theorem manyH_some {H : Hp} {N : List (Addr × HO)} {b : Addr} {o : HO} (h : N.lookup b = some o) : manyH H N b = some o := by
  unfold manyH
  rw [h]
theorem manyH_none {H : Hp} {N : List (Addr × HO)} {b : Addr} (h : N.lookup b = none) : manyH H N b = H b := by
  unfold manyH
  rw [h]
section
variable {X : Cx} {pins : List (Addr × Obj)} {σ : L2.St} {H : Hp} {s : Shared} {h' : Heap}
theorem lookup_new {N : List (Addr × HO)} (hp : ∀ p ∈ N, s.heap.objs.size ≤ p.1) {b : Addr} (hb : b < s.heap.objs.size) : N.lookup b = none := by
  cases q : N.lookup b with
  | none => rfl
  | some o => exact absurd (Nat.lt_of_lt_of_le hb (hp (b, o) (mem_lk q))) (Nat.lt_irrefl _)
theorem same_many {N : List (Addr × HO)} (I : Inv X pins σ H s) (hp : ∀ p ∈ N, s.heap.objs.size ≤ p.1) : Same H (manyH H N) := fun b o e => by
  rw [manyH_none (lookup_new hp ?_)]
  · exact e
  · rcases Nat.lt_or_ge b s.heap.objs.size with h | h
    · exact h
    · rw [I.hok.fresh h] at e
      cases e
theorem laidN {N : List (Addr × HO)} {t' : Nat} (I : Inv X pins σ H s) (k : ∀ b u, s.heap.get? b = some u → h'.get? b = some u) (hp : ∀ p ∈ N, s.heap.objs.size ≤ p.1) (new : ∀ p ∈ N, ObjOk X.prog X.w (manyH H N) h' p.1 p.2) :
    Inv X pins σ (manyH H N) { s with heap := h', toks := t' } := by
  have sm := same_many I hp
  have at_ : ∀ {b u}, s.heap.get? b = some u → manyH H N b = H b := fun {b u} e => manyH_none (lookup_new hp (Heap.lt_size e))
  refine I.un ⟨fun b u q _ _ _ => k b u q, fun b u q _ _ _ => ⟨u.slots, k b u q⟩, fun b u q n _ => by rw [at_ q]; exact n, fun b u q _ => ⟨u, k b u q⟩, fun b xs q => sm _ _ q, fun b u xs q => sm _ _ q, fun b ps q => ⟨#[], by rw [sm _ _ q]; simp⟩⟩ ?_
  intro b u e
  cases q : N.lookup b with
  | some o =>
    rw [manyH_some q] at e
    cases e
    exact new (b, _) (mem_lk q)
  | none =>
    rw [manyH_none q] at e
    exact (I.hok b u e).stay (fun c v _ q => k c v q) (fun c q => sm _ _ q) fun c xs q => sm _ _ q
end
/-! ### d.items(), list(d.items()) -/
/-- the view of d's pairs -/
def itvO (v d : Addr) : HO := .ext fun h => h.get? v = some { cls := .type "dict_items", data := .fields #[.ref d] }
def rItems : V → List V → Hp → VK → Prop := fun x xs H Q => ∃ (d : Addr) (kvs : List (Key × V)), x = .ref d ∧ xs = [] ∧ H d = some (.dK kvs) ∧ ∀ v, H v = none → Q (.ref v) (upd H v (itvO v d))
theorem mt_items {X : Cx} : MtR X "dict.items" rItems := by
  intro pins s σ H x xs v us Q I rx rv h
  obtain ⟨a, kvs, ex, ev, e, q⟩ := h
  subst ex
  subst ev
  obtain rfl : v = Value.ref a := rx
  have hus := rv.zero
  subst hus
  obtain ⟨z, lo, vs, rk, dd⟩ := (show ObjOk X.prog X.w H s.heap a (.dK kvs) from I.hok a _ e)
  have hT : s.TypeIs (.ref a) "dict" := by
    obtain ⟨ep, hat⟩ := dd.dictAt
    exact hat.dictOf.typeIs
  refine call_meetsIn PySem.F.slot_dict_items hT PySem.F.entry_dict_items (PySem.F.args_dict_items_1 _) (meets_dict_items (mixKind X.prog X.w) a lo) ⟨⟨vs, dd⟩, ?_⟩
  have J := I.laid (t' := s.toks) (a := s.heap.objs.size) (o := itvO s.heap.objs.size a) (h' := s.heap.push { cls := .type "dict_items", data := .fields #[.ref a] }) (fun b u e => Heap.get?_push_of_some _ e) (Nat.le_refl _)
    ⟨Heap.get?_push_size _ rfl, ⟨_, Heap.get?_push_size _ rfl⟩, fun h1 h2 q k => k _ q⟩
  exact ⟨.ref s.heap.objs.size, _, J, rfl, q _ (I.hok.fresh (Nat.le_refl _))⟩
def rListI : List V → Hp → VK → Prop := fun xs H Q => ∃ (v d : Addr) (kvs : List (Key × V)), xs = [.ref v] ∧ H v = some (itvO v d) ∧ H d = some (.dK kvs) ∧
  ∀ (l : Addr) (ts : List Addr) (H' : Hp), Same H H' → H l = none → H' l = some (.lst (ts.map V.ref)) → Paired (fun (t : Addr) (kv : Key × V) => H' t = some (.tup [kV kv.1, kv.2])) ts kvs → Q (.ref l) H'
theorem pairs_at {X : Cx} {h' : Heap} : ∀ {kvs : List (Key × V)} {vs : List (Key × Value)} {es : List DictEntry}, KV kvs vs → Pairs (mixKind X.prog X.w) es vs →
    ∀ {as : List Addr}, as.length = es.length → (∀ (j : Nat) (a : Addr) (e : DictEntry), as[j]? = some a → es[j]? = some e → h'.get? a = some { cls := .type "tuple", data := .seq #[e.key, e.val] }) →
    Paired (fun (a : Addr) (kv : Key × V) => ∀ H', ObjOk X.prog X.w H' h' a (.tup [kV kv.1, kv.2])) as kvs
  | _, _, _, .nil, .nil, as, hl, _ => by
    cases as with
    | nil => exact .nil
    | cons a t => simp at hl
  | _, _, _, .cons hk t, .cons (e := e) h1 h2 te, as, hl, g => by
    cases as with
    | nil => simp at hl
    | cons a as =>
      refine .cons (fun H' => ?_) (pairs_at t te (by simpa using hl) fun j a' e' h1 h2 => g (j + 1) a' e' (by simpa using h1) (by simpa using h2))
      have ho := g 0 a e rfl rfl
      refine ⟨by show 2 ≤ sizeLine; decide, [e.key, e.val], .cons ?_ (.cons ?_ .nil), _, ho, rfl, ?_⟩
      · exact keyIs_rel (by rw [hk.1]; exact h1)
      · rw [h2]
        exact hk.2
      · exact ⟨_, rfl⟩
theorem paired_zip {α β : Type} {F : α → β → Prop} : ∀ {l : List α} {m : List β}, Paired F l m → ∀ p ∈ l.zip m, F p.1 p.2
  | _, _, .nil, p, h => by simp at h
  | _, _, .cons a t, p, h => by
    rcases List.mem_cons.mp (show p ∈ _ :: _ from h) with e | e
    · rw [e]
      exact a
    · exact paired_zip t p e
theorem lookup_zip {β : Type} : ∀ {l : List Addr} {m : List β}, l.Nodup → l.length = m.length → Paired (fun (a : Addr) (b : β) => (l.zip m).lookup a = some b) l m
  | [], [], _, _ => .nil
  | a :: l, b :: m, hn, hl => by
    rw [List.nodup_cons] at hn
    have ih := lookup_zip (l := l) (m := m) hn.2 (by simpa using hl)
    refine .cons (by simp [List.lookup]) ?_
    have : ∀ {l' : List Addr} {m' : List β}, (∀ x ∈ l', x ≠ a) → Paired (fun (x : Addr) (y : β) => (l.zip m).lookup x = some y) l' m' → Paired (fun (x : Addr) (y : β) => ((a :: l).zip (b :: m)).lookup x = some y) l' m' := by
      intro l' m' hne p
      induction p with
      | nil => exact .nil
      | cons e t iht =>
        rename_i x y xs ys
        refine .cons ?_ (iht fun z hz => hne z (List.mem_cons_of_mem _ hz))
        have hx : x ≠ a := hne x (List.mem_cons_self ..)
        show List.lookup x ((a, b) :: l.zip m) = some y
        rw [List.lookup_cons, show (x == a) = false from beq_eq_false_iff_ne.mpr hx]
        exact e
    exact this (fun x hx z => hn.1 (z ▸ hx)) ih
theorem cr_listItems {X : Cx} (hc : X.calm = true) : CallR X (.type "list") rListI := by
  intro pins s σ H xs us Q I r h
  obtain ⟨v, d, kvs, rfl, ev, ed, q⟩ := h
  obtain ⟨u, rfl, ru⟩ := vals1 r
  obtain rfl : u = Value.ref v := ru
  obtain ⟨hv, _, _⟩ := I.hok v _ ev
  have hv : s.heap.get? v = some { cls := .type "dict_items", data := .fields #[.ref d] } := hv
  obtain ⟨hz, lo, vs, kv, o, es, ep, ho, hx, hd, hsz, hp, _⟩ := (show ObjOk X.prog X.w H s.heap d (.dK kvs) from I.hok d _ ed)
  have hl1 : kvs.length = vs.length := Paired.length kv
  have hl2 : es.toList.length = vs.length := Pairs.length hp
  have hes : es.size = kvs.length := by rw [← Array.length_toList, hl2, hl1]
  refine PySem.W.dil_call (I.ok.hd hc) ⟨_, hv, rfl, rfl⟩ ⟨o, ho, hx, hd⟩ (by rw [hes]; exact hz) fun h' tk acc c as k hS hlen G hacc => ?_
  have hal : as.length = kvs.length := by rw [hlen, hes]
  have PA : Paired (fun (a : Addr) (kv : Key × V) => ∀ H', ObjOk X.prog X.w H' h' a (.tup [kV kv.1, kv.2])) as kvs := pairs_at kv hp (by rw [hal, ← hes, Array.length_toList]) fun j a e h1 h2 => by
    obtain ⟨hj, e3⟩ := G.pairs j a h1
    have e4 : es[j] = e := by
      rw [Array.getElem?_toList, Array.getElem?_eq_getElem hj] at h2
      exact Option.some.inj h2
    rw [e4] at e3
    exact e3
  have nd : as.Nodup := G.rise.imp fun h => Nat.ne_of_lt h
  have hS0 : ∀ a ∈ as, s.heap.objs.size < a := G.above
  have hP := lookup_zip (m := kvs.map fun kv => HO.tup [kV kv.1, kv.2]) nd (by rw [List.length_map]; exact hal)
  have lkS : ∀ {a : Addr} {o : HO}, (as.zip (kvs.map fun kv => HO.tup [kV kv.1, kv.2])).lookup a = some o → ((s.heap.objs.size, HO.lst (as.map V.ref)) :: as.zip (kvs.map fun kv => HO.tup [kV kv.1, kv.2])).lookup a = some o := fun {a o} e => by
    have hm := List.of_mem_zip (mem_lk e)
    rw [List.lookup_cons, show (a == s.heap.objs.size) = false from beq_eq_false_iff_ne.mpr (Nat.ne_of_gt (hS0 a hm.1))]
    exact e
  have le : ∀ p ∈ ((s.heap.objs.size, HO.lst (as.map V.ref)) :: as.zip (kvs.map fun kv => HO.tup [kV kv.1, kv.2])), s.heap.objs.size ≤ p.1 := fun p hp => by
    rcases List.mem_cons.mp hp with e | e
    · rw [e]
      exact Nat.le_refl _
    · exact Nat.le_of_lt (hS0 _ (List.of_mem_zip e).1)
  have J := laidN (t' := tk) I k le fun p hp => by
    rcases List.mem_cons.mp hp with e | e
    · rw [e]
      refine ⟨by rw [List.length_map, hal]; exact hz, acc.toList, c, ?_, ?_⟩
      · rw [hacc]
        exact vals_refs as
      · rw [Array.toArray_toList]
        exact hS
    · obtain ⟨a, o2⟩ := p
      have hm : (a, o2) ∈ as.zip (kvs.map fun kv => HO.tup [kV kv.1, kv.2]) := e
      rw [List.zip_map_right] at hm
      obtain ⟨⟨a', kv'⟩, h1, h2⟩ := List.mem_map.mp hm
      cases h2
      exact paired_zip PA _ h1 _
  refine ⟨.ref s.heap.objs.size, _, J, rfl, q _ as _ (same_many I le) (I.hok.fresh (Nat.le_refl _)) (manyH_some (by rw [List.lookup_cons]; simp)) ?_⟩
  have conv : ∀ {l : List Addr} {m : List (Key × V)}, Paired (fun (a : Addr) (b : HO) => (as.zip (kvs.map fun kv => HO.tup [kV kv.1, kv.2])).lookup a = some b) l (m.map fun kv => HO.tup [kV kv.1, kv.2]) →
      Paired (fun (t : Addr) (kv : Key × V) => manyH H ((s.heap.objs.size, HO.lst (as.map V.ref)) :: as.zip (kvs.map fun kv => HO.tup [kV kv.1, kv.2])) t = some (.tup [kV kv.1, kv.2])) l m := by
    intro l m p
    induction m generalizing l with
    | nil => cases p; exact .nil
    | cons x m ih =>
      cases p with
      | cons e t => exact .cons (manyH_some (lkS e)) (ih t)
  exact conv hP
end EX
set_option Elab.async false
set_option linter.all false
set_option maxRecDepth 100000
set_option maxHeartbeats 4000000
/-! dict(list(d.items()) + [(k, v)]) as one step -/
namespace EX
open PySem PySem.Spec L2 PyProof.Rows
theorem pe_weak {X : Cx} {e : Expr} {t t' : TE} (h : PE X e t) (w : ∀ σ H Q, t' σ H Q → t σ H Q) : PE X e t' := ⟨fun pins s σ H Q I q => h.run pins s σ H Q I (w σ H Q q)⟩
theorem same_laid {H : Hp} {p : Addr} {o : HO} (h : H p = none) : Same H (L2.upd H p o) := fun b u e => by
  rw [upd_ne (ne_of_none e h)]
  exact e
def tDX (i : Nat) (ta : TA) : TE := fun σ H Q => ∃ (g : Addr) (kvs : List (Key × V)), σ[i]? = some (some (.ref g)) ∧ H g = some (.dK kvs) ∧ kvs.length ≤ 1000 ∧
  ∀ H1, Same H H1 → ta σ H1 fun vs H3 => ∃ k v, vs = [kV k, v] ∧ Same H1 H3 ∧ ∀ q H4, Same H3 H4 → H3 q = none → H4 q = some (.dK (mergeK [] (kvs ++ [(k, v)]))) → Q (.ref q) H4
theorem paired_snoc' {α β : Type} {F : α → β → Prop} : ∀ {l : List α} {m : List β} {a : α} {b : β}, Paired F l m → F a b → Paired F (l ++ [a]) (m ++ [b])
  | _, _, _, _, .nil, e => .cons e .nil
  | _, _, _, _, .cons h t, e => .cons h (paired_snoc' t e)
theorem paired_imp {α β : Type} {F G : α → β → Prop} (w : ∀ a b, F a b → G a b) : ∀ {l : List α} {m : List β}, Paired F l m → Paired G l m
  | _, _, .nil => .nil
  | _, _, .cons h t => .cons (w _ _ h) (paired_imp w t)
section
variable {X : Cx} {ta : TA} {k v : Expr} {i : Nat} {y : Str} {p1 p2 p3 p4 p5 p6 p7 p8 p9 pos : Pos} {c1 : Nat}
theorem pe_dx (calm : X.calm = true) (md : X.mg "dict" = none) (ml : X.mg "list" = none) (hy : PE X (.Name y p1) (tVar i)) (hkv : PA X [k, v] ta) (mono : ∀ (σ : L2.St) (H : Hp) (R R' : List V → Hp → Prop), (∀ vs H1, R vs H1 → R' vs H1) → ta σ H R → ta σ H R')
    (gd : Gl X "dict" := by rfl) (gl : Gl X "list" := by rfl)
    (base : attributeBase (.Name y p1) "items" X.env (eval (.Name y p1) X.env) = eval (.Name y p1) X.env := by rfl) (line : (p2.endLine == p3.line) = true := by rfl) :
    PE X (.Call (.Name "dict" p4) [.BinOp (.Call (.Name "list" p5) [.Call (.Attribute (.Name y p1) "items" p2) [] [] p3] [] p6) .Add (.List [.Tuple [k, v] c1 p7] p8) p9] [] pos) (tDX i ta) := by
  refine pe_weak (pe_callTy (call_dictP calm) gd md (by decide +kernel) (pa_cons (pe_op op_cat (pe_callTy (cr_listItems calm) gl ml (by decide +kernel) (pa_cons (pe_bm0 PySem.F.plainAttrs_dict PySem.F.slot_dict_items PySem.F.type_dict_items mt_items hy base line) pa_nil)) (pe_lst (pa_cons (pe_tup hkv) pa_nil))) pa_nil)) fun σ H Q h => ?_
  obtain ⟨g, kvs, hσ, hg, hl, h⟩ := h
  refine ⟨_, hσ, .inr (.inr (.inl ⟨rfl, .inl ⟨kvs, hg⟩⟩)), g, kvs, rfl, rfl, hg, fun w hw => ?_⟩
  have s1 : Same H (L2.upd H w (itvO w g)) := same_laid hw
  have l1 : L2.upd H w (itvO w g) w = some (itvO w g) := upd_same
  generalize L2.upd H w (itvO w g) = H1 at s1 l1 ⊢
  refine ⟨w, g, kvs, rfl, l1, s1 _ _ hg, fun l ts H2 s2 hl2 ll pt => ?_⟩
  have s02 : Same H H2 := fun b o e => s2 _ _ (s1 _ _ e)
  have tl : ts.length = kvs.length := Paired.length pt
  refine mono _ _ _ _ ?_ (h H2 s02)
  rintro vs H3 ⟨k, v, rfl, s3, fin⟩
  refine ⟨by show 2 ≤ sizeLine; decide, fun t ht => ?_⟩
  have s4 : Same H3 (L2.upd H3 t (.tup [kV k, v])) := same_laid ht
  have l4 : L2.upd H3 t (HO.tup [kV k, v]) t = some (.tup [kV k, v]) := upd_same
  generalize L2.upd H3 t (HO.tup [kV k, v]) = H4 at s4 l4 ⊢
  refine ⟨by show 1 ≤ sizeLine; decide, fun l2 hl2' => ?_⟩
  have s5 : Same H4 (L2.upd H4 l2 (.lst [.ref t])) := same_laid hl2'
  have l5 : L2.upd H4 l2 (HO.lst [.ref t]) l2 = some (.lst [.ref t]) := upd_same
  generalize L2.upd H4 l2 (HO.lst [.ref t]) = H5 at s5 l5 ⊢
  have s35 : Same H3 H5 := fun b o e => s5 _ _ (s4 _ _ e)
  have s25 : Same H2 H5 := fun b o e => s35 _ _ (s3 _ _ e)
  have tl2 : (ts.map V.ref).length = kvs.length := by rw [List.length_map]; exact tl
  refine ⟨l, l2, _, _, rfl, rfl, s25 _ _ ll, l5, ?_, fun p hp => ?_⟩
  · rw [tl2, sizeLine_eq]
    show kvs.length + 1 ≤ _
    omega
  have s6 : Same H5 (L2.upd H5 p (.lst (ts.map V.ref ++ [.ref t]))) := same_laid hp
  have l6 : L2.upd H5 p (HO.lst (ts.map V.ref ++ [.ref t])) p = some (.lst ((ts ++ [t]).map V.ref)) := by
    rw [upd_same, List.map_append]
    rfl
  generalize L2.upd H5 p (HO.lst (ts.map V.ref ++ [.ref t])) = H6 at s6 l6 ⊢
  have s36 : Same H3 H6 := fun b o e => s6 _ _ (s35 _ _ e)
  have s26 : Same H2 H6 := fun b o e => s6 _ _ (s25 _ _ e)
  refine ⟨p, ts ++ [t], kvs ++ [(k, v)], rfl, SqL.of l6, paired_snoc' (paired_imp (fun a kv e => SqT.of (s26 _ _ e)) pt) (SqT.of (s6 _ _ (s5 _ _ l4))), fun q hq => ?_⟩
  refine fin q _ (fun b o e => same_laid hq _ _ (s36 _ _ e)) ?_ upd_same
  cases e : H3 q with
  | none => rfl
  | some o => rw [s36 _ _ e] at hq; cases hq
end
end EX
set_option Elab.async false
set_option linter.all false
set_option maxRecDepth 100000
set_option maxHeartbeats 4000000
namespace K41
open PySem L2 EX PyProof.Rows M41
/-- a source's new state -/
structure SrcTo (p : Addr) (H H' : Hp) : Prop where
  kp : Keeps [p] H H'
  at_ : ∃ x y, H' p = some (.lst [.int x, .int y]) ∧ SrcOk x y
theorem SrcTo.refl {p : Addr} {H : Hp} {x y : Int} (h : H p = some (.lst [.int x, .int y])) (s : SrcOk x y) : SrcTo p H H := ⟨.refl _ _, x, y, h, s⟩
theorem SrcTo.upd {p : Addr} {H H' : Hp} {x y : Int} (h : SrcTo p H H') (s : SrcOk x y) : SrcTo p H (upd H' p (.lst [.int x, .int y])) := ⟨h.kp.put (by simp), x, y, upd_same, s⟩
theorem SrcTo.then {p : Addr} {H H1 H2 : Hp} (h : SrcTo p H H1) (s : Same H1 H2) : SrcTo p H H2 := by
  obtain ⟨x, y, hp, so⟩ := h.at_
  exact ⟨h.kp.then s, x, y, s _ _ hp, so⟩
theorem SrcTo.trans {p : Addr} {H H1 H2 : Hp} (a : SrcTo p H H1) (b : SrcTo p H1 H2) : SrcTo p H H2 := ⟨a.kp.trans b.kp, b.at_⟩
theorem SrcTo.put {p q : Addr} {H H1 : Hp} {o : HO} (h : SrcTo p H H1) (n : q ≠ p) (hq : H q = none) : SrcTo p H (L2.upd H1 q o) := by
  obtain ⟨x, y, hp, so⟩ := h.at_
  refine ⟨fun b u nb e => ?_, x, y, by rw [upd_ne n.symm]; exact hp, so⟩
  have : b ≠ q := fun z => by rw [z, hq] at e; cases e
  rw [upd_ne this]
  exact h.kp b u nb e
/-- _law_order(source, most) -/
def spLO (K : PySem.W.Frag) : Sp := fun vs H Q _ => ∃ (p : Addr) (x y : Int) (most : Nat), vs = [.ref p, .int (most : Nat)] ∧ H p = some (.lst [.int x, .int y]) ∧ SrcOk x y ∧ most ≤ 1000 ∧
  ∀ l o H', SrcTo p H H' → H l = none → H' l = some (.lst (strV o)) → (∀ s ∈ o, s ∈ (["a", "key", "zz"] : List Str)) → o.length ≤ most → Q (.ref l) H'
abbrev sLO : Stmt := top 23
def sLON : List Str := ["_law_source_here", "_law_most", "_law_words", "_law_attempt"]
theorem scLO : FnScope ["_law_source_here", "_law_most", "_law_words", "_law_attempt"] ["_law_source_here", "_law_most"] (defScope sLO) := ⟨rfl, rfl, rfl, by decide +kernel, rfl, by decide +kernel, by decide +kernel⟩
section
variable {P : Program} {w : World} {K : PySem.W.Frag} {mg : Str → Option Value} {base : Heap}
theorem ok_lo {f : Addr} {fd : FuncData} (F : Fun K "_law_order" "_law_order" sLO f fd) (B : Bn mg) (GR : DefAt P w K mg base 1 "_law_draw" ["_law_source_here", "_law_amount"] spDraw) : FnOk P w K mg base CX0 2 f fd ["_law_source_here", "_law_most"] (spLO K) := by
  refine F.ok scLO (fun vs H Q E h => ?_) (fun cdv A outer s H vs Q E hr h => ?_)
  · obtain ⟨p, x, y, most, rfl, _⟩ := h
    rfl
  · obtain ⟨p, x, y, most, rfl, hp, src, hm, k⟩ := h
    have hu := hu_of hr
    refine ⟨_, (pss_cons (ps_set (i := 2) scLO.nd rfl (Or.inr rfl) (pe_slice sl_list (pe_lst (pa_cons pe_str (pa_cons pe_str (pa_cons pe_str pa_nil)))) po_none (po_some (pe_op op_add pe_int (pe_callD GR (hr.mono (by decide)) (pa_cons (pv 0) (pa_cons pe_int pa_nil)))))))
        (pss_one (ps_ret (pe_lc (own := [("_law_attempt", 3)]) (g := (gName 3)) (tt := tYes) (te := (tOp (rIxL K) (tVar 2) (tCall spDraw [] E0 (tCons (tVar 0) (tCons (tCB (rLenSq K) (tCons (tVar 2) tNil)) tNil))))) rfl scLO.nd (pi_range1 (by rfl) B.range (pa_cons (pe_callD GR (hr.mono (by decide)) (pa_cons (pv 0) (pa_cons (pe_op op_add (pv 1) pe_int) pa_nil))) pa_nil)) (blkOk_by (N := sLON) (sc := defScope sLO) (by decide +kernel)) (fun _ _ _ _ _ => (pg_name (i := 3) scLO.nd rfl (Or.inl rfl))) (fun _ _ _ _ _ => pts_nil) (fun _ _ _ _ _ => (pe_ix ix_list (pv 2) (pe_callD GR (hr.mono (by decide)) (pa_cons (pv 0) (pa_cons (pe_callB call_len_seq (by rfl) B.len PySem.boot_len (pa_cons (pv 2) pa_nil)) pa_nil))) (fun _ _ => rfl))))))), ?_⟩
    refine ⟨by show 3 ≤ sizeLine; decide, fun q hq => ?_⟩
    have nqp : q ≠ p := (ne_by hp hq).symm
    have lq : upd H q (HO.lst [.str "a", .str "key", .str "zz"]) q = some (.lst [.str "a", .str "key", .str "zz"]) := upd_same
    have S1 : SrcTo p H (upd H q (.lst [.str "a", .str "key", .str "zz"])) := (SrcTo.refl hp src).then (Same.upd hq)
    have hp1 : upd H q (HO.lst [.str "a", .str "key", .str "zz"]) p = some (.lst [.int x, .int y]) := by rw [upd_ne nqp.symm]; exact hp
    generalize upd H q (HO.lst [.str "a", .str "key", .str "zz"]) = H1 at lq S1 hp1 ⊢
    refine ⟨_, rfl, p, x, y, 3, rfl, hp1, src, by decide, by decide, fun x1 y1 d sr d0 d1 => ⟨_, _, rfl, rfl, _, rfl, q, _, rfl, SqL.of (by rw [upd_ne nqp]; exact lq), fun wl hwl => ?_⟩⟩
    have S2 : SrcTo p H (upd H1 p (.lst [.int x1, .int y1])) := S1.upd sr
    have hp2 : upd H1 p (HO.lst [.int x1, .int y1]) p = some (.lst [.int x1, .int y1]) := upd_same
    generalize upd H1 p (HO.lst [.int x1, .int y1]) = H2 at S2 hp2 hwl ⊢
    obtain ⟨W, hW, w1, w2, w3⟩ : ∃ W : List Str, cutV [V.str "a", V.str "key", V.str "zz"] none (some (1 + d)) = strV W ∧ (∀ s ∈ W, s ∈ (["a", "key", "zz"] : List Str)) ∧ 0 < W.length ∧ W.length ≤ 3 := by
      obtain rfl | rfl | rfl : d = 0 ∨ d = 1 ∨ d = 2 := by omega
      · exact ⟨["a"], rfl, by simp, by decide, by decide⟩
      · exact ⟨["a", "key"], rfl, by simp, by decide, by decide⟩
      · exact ⟨["a", "key", "zz"], rfl, by simp, by decide, by decide⟩
    rw [hW]
    have nwp : wl ≠ p := (ne_by hp2 hwl).symm
    have S3 : SrcTo p H (upd H2 wl (.lst (strV W))) := S2.then (Same.upd hwl)
    have lw : upd H2 wl (HO.lst (strV W)) wl = some (.lst (strV W)) := upd_same
    have hp3 : upd H2 wl (HO.lst (strV W)) p = some (.lst [.int x1, .int y1]) := by rw [upd_ne nwp.symm]; exact hp2
    generalize upd H2 wl (HO.lst (strV W)) = H3 at S3 lw hp3 ⊢
    refine ⟨_, rfl, _, rfl, _, _, rfl, rfl, p, x1, y1, (most : Int) + 1, rfl, hp3, sr, by omega, by omega, fun x2 y2 n sr2 n0 n1 => ⟨n, rfl, by omega, by omega, fun D hD => ?_⟩⟩
    have S4 : SrcTo p H (upd H3 p (.lst [.int x2, .int y2])) := S3.upd sr2
    have hp4 : upd H3 p (HO.lst [.int x2, .int y2]) p = some (.lst [.int x2, .int y2]) := upd_same
    have lw4 : upd H3 p (HO.lst [.int x2, .int y2]) wl = some (.lst (strV W)) := by rw [upd_ne nwp]; exact lw
    generalize upd H3 p (HO.lst [.int x2, .int y2]) = H4 at S4 hp4 lw4 hD ⊢
    have nDp : D ≠ p := (ne_by hp4 hD).symm
    have nDw : D ≠ wl := (ne_by lw4 hD).symm
    have hDH : H D = none := S4.kp.free (by simpa using nDp) hD
    refine lc_range (fun i H' => SrcTo p H H' ∧ H' wl = some (.lst (strV W)) ∧ ∃ o : List Str, H' D = some (.lst (strV o)) ∧ o.length = i ∧ ∀ s ∈ o, s ∈ W) ⟨S4.then (Same.upd hD), by rw [upd_ne nDw.symm]; exact lw4, [], upd_same, rfl, by simp⟩ ?_ ?_
    · rintro i H' hi ⟨S, lw, o, lD, ho, hs⟩
      obtain ⟨a1, b1, hpa, sra⟩ := S.at_
      refine ⟨rfl, _, rfl, _, rfl, _, rfl, wl, _, rfl, .inl (SqL.of lw), p, a1, b1, (W.length : Int), by rw [List.length_map]; rfl, hpa, sra, by omega, by omega, fun x3 y3 j sr3 j0 j1 => ?_⟩
      obtain ⟨jn, rfl⟩ : ∃ jn : Nat, j = (jn : Int) := ⟨j.toNat, by omega⟩
      have hj : jn < W.length := by omega
      obtain ⟨z, hz⟩ : ∃ z, W[jn]? = some z := ⟨_, List.getElem?_eq_getElem hj⟩
      refine ⟨wl, _, _, _, rfl, rfl, SqL.of (by rw [upd_ne nwp]; exact lw), atI_nat (by rw [List.getElem?_map, hz]; rfl), ?_⟩
      refine ⟨_, by rw [upd_ne nDp]; exact lD, by rw [List.length_map, ho, sizeLine_eq]; omega, (S.upd sr3).put nDp hDH, by rw [upd_ne nDw.symm, upd_ne nwp]; exact lw, o ++ [z], by rw [upd_same]; unfold strV; rw [List.map_append]; rfl, by rw [List.length_append, ho]; rfl, fun s hs' => ?_⟩
      rcases List.mem_append.mp hs' with hs' | hs'
      · exact hs s hs'
      · rw [List.mem_singleton.mp hs']
        exact List.mem_of_getElem? hz
    · rintro H' ⟨S, lw, o, lD, ho, hs⟩
      exact k D o H' S hDH lD (fun s h => w1 s (hs s h)) (by omega)
end
end K41
set_option Elab.async false
set_option linter.all false
set_option maxRecDepth 100000
set_option maxHeartbeats 4000000
namespace K41
open PySem L2 EX PyProof.Rows M41
def w4 : List Str := ["a", "key", "zz", "far"]
/-- _law_numbers(source, order) -/
def spLN (K : PySem.W.Frag) : Sp := fun vs H Q _ => ∃ (p l : Addr) (x y : Int) (o : List Str), vs = [.ref p, .ref l] ∧ H p = some (.lst [.int x, .int y]) ∧ SrcOk x y ∧ l ≠ p ∧ H l = some (.lst (strV o)) ∧ o.length ≤ 1000 ∧
  ∀ d num H', SrcTo p H H' → H d = none → H' d = some (.dK (numK num)) → NumOk o num → num.length ≤ 4 → Q (.ref d) H'
/-- _law_gap(order, numbers, moment) -/
def spLG (K : PySem.W.Frag) : Sp := fun vs H Q _ => ∃ (l d : Addr) (o : List Str) (num : Num Str) (m : Nat), vs = [.ref l, .ref d, .int (m : Nat)] ∧ SqL K H l (strV o) ∧ H d = some (.dK (numK num)) ∧ (num.map (·.1)).Nodup ∧ num ≠ [] ∧ num.length ≤ 1000 ∧ ∀ H', Same H H' → Q (.int (gap o num m : Nat)) H'
def atN (o : List Str) (num : Num Str) (m : Nat) : Num Str := num.map fun p => (p.1, cnt o m p.1)
/-- _law_at(order, words, moment) -/
def spLA (K : PySem.W.Frag) : Sp := fun vs H Q _ => ∃ (l d : Addr) (o : List Str) (num : Num Str) (m : Nat), vs = [.ref l, .ref d, .int (m : Nat)] ∧ SqL K H l (strV o) ∧ H d = some (.dK (numK num)) ∧ (num.map (·.1)).Nodup ∧ num.length ≤ 1000 ∧ ∀ q H', Same H H' → H q = none → H' q = some (.dK (numK (atN o num m))) → Q (.ref q) H'
/-- _law_bars(order, numbers, pair, slack) -/
def spLB (K : PySem.W.Frag) : Sp := fun vs H Q _ => ∃ (l d t : Addr) (o : List Str) (num : Num Str) (e g : Str) (s : Nat), vs = [.ref l, .ref d, .ref t, .int (s : Nat)] ∧ SqL K H l (strV o) ∧ o.length ≤ 1000 ∧ Rd H d (.dK (numK num)) ∧ (num.map (·.1)).Nodup ∧ SqT K H t [.str e, .str g] ∧ e ∈ keysN num ∧ g ∈ keysN num ∧
  ∀ b H', (b = true ↔ ∀ m, m ≤ o.length → ¬ (far (cnt o m) (e, gvN num e) ≤ s ∧ far (cnt o m) (g, gvN num g) ≤ s)) → Same H H' → Q (.bl b) H'
abbrev sLN : Stmt := top 24
def sLNN : List Str := ["_law_source_here", "_law_order_here", "_law_some", "_law_words", "_law_word"]
theorem scLN : FnScope ["_law_source_here", "_law_order_here", "_law_some", "_law_words", "_law_word"] ["_law_source_here", "_law_order_here"] (defScope sLN) := ⟨rfl, rfl, rfl, by decide +kernel, rfl, by decide +kernel, by decide +kernel⟩
abbrev sLG : Stmt := top 25
def sLGN : List Str := ["_law_order_here", "_law_numbers_here", "_law_moment", "_law_word"]
theorem scLG : FnScope ["_law_order_here", "_law_numbers_here", "_law_moment", "_law_word"] ["_law_order_here", "_law_numbers_here", "_law_moment"] (defScope sLG) := ⟨rfl, rfl, rfl, by decide +kernel, rfl, by decide +kernel, by decide +kernel⟩
abbrev sLA : Stmt := top 26
def sLAN : List Str := ["_law_order_here", "_law_words", "_law_moment", "_law_word"]
theorem scLA : FnScope ["_law_order_here", "_law_words", "_law_moment", "_law_word"] ["_law_order_here", "_law_words", "_law_moment"] (defScope sLA) := ⟨rfl, rfl, rfl, by decide +kernel, rfl, by decide +kernel, by decide +kernel⟩
abbrev sLB : Stmt := top 27
def sLBN : List Str := ["_law_order_here", "_law_numbers_here", "_law_pair", "_law_slack", "_law_moment", "_law_word"]
theorem scLB : FnScope ["_law_order_here", "_law_numbers_here", "_law_pair", "_law_slack", "_law_moment", "_law_word"] ["_law_order_here", "_law_numbers_here", "_law_pair", "_law_slack"] (defScope sLB) := ⟨rfl, rfl, rfl, by decide +kernel, rfl, by decide +kernel, by decide +kernel⟩
section
variable {P : Program} {w : World} {K : PySem.W.Frag} {mg : Str → Option Value} {base : Heap}
theorem cut_take (o : List Str) (m : Nat) : cutV (strV o) none (some (m : Int)) = strV (o.take m) := by
  unfold cutV
  rw [HT.sIx_nat]
  show ((strV o).drop 0).take (min m (strV o).length - 0) = _
  rw [List.drop_zero, Nat.sub_zero]
  unfold strV
  rw [← List.map_take, List.length_map]
  congr 1
  rcases Nat.le_total m o.length with h | h
  · rw [Nat.min_eq_left h]
  · rw [Nat.min_eq_right h, List.take_length, List.take_of_length_le h]
/-- how far a key is, reckoned in a turn -/
theorem far_int {o : List Str} {m n : Nat} {k : Str} : (if (n : Int) - ((((o.take m).count k : Nat)) : Int) < 0 then -((n : Int) - ((((o.take m).count k : Nat)) : Int)) else (n : Int) - ((((o.take m).count k : Nat)) : Int)) = ((far (cnt o m) (k, n) : Nat) : Int) := absI _
theorem ok_lg {f : Addr} {fd : FuncData} (F : Fun K "_law_gap" "_law_gap" sLG f fd) (B : Bn mg) : FnOk P w K mg base CX0 1 f fd ["_law_order_here", "_law_numbers_here", "_law_moment"] (spLG K) := by
  refine F.ok scLG (fun vs H Q E h => ?_) (fun cdv A outer s H vs Q E hr h => ?_)
  · obtain ⟨l, d, o, num, m, rfl, _⟩ := h
    rfl
  · obtain ⟨l, d, o, num, m, rfl, hl, hd, nd, ne, sz, k⟩ := h
    have hu := hu_of hr
    refine ⟨_, (pss_one (ps_ret (pe_callB (cr_max rfl) (by rfl) B.max PyProof.Rows.boot_max (pa_cons (pe_lock (pe_lc (own := [("_law_word", 3)]) (g := (gName 3)) (tt := tYes) (te := (tCB rAbs (tCons (tOp (rI0 fun i j => .int (i - j)) (tDGet (tVar 1) (tVar 3)) (tBM K "list" (rCntS K) (tSl (rSlL K) (tVar 0) tNoPart (tPart (tVar 2))) (tCons (tVar 3) tNil))) tNil))) rfl scLG.nd (pi_keys (pv 1)) (blkOk_by (N := sLGN) (sc := defScope sLG) (by decide +kernel)) (fun _ _ _ _ _ => (pg_name (i := 3) scLG.nd rfl (Or.inl rfl))) (fun _ _ _ _ _ => pts_nil) (fun _ _ _ _ _ => (pe_callB call_abs (by rfl) B.abs (by decide +kernel) (pa_cons (pe_op op_sub (pe_dget hu (pv 1) (pv 3) (fun _ _ => rfl)) (pe_bm PySem.F.plainAttrs_list PySem.F.slot_list_count PySem.F.type_list_count mt_scount (pe_slice sl_list (pv 0) po_none (po_some (pv 2))) (pa_cons (pv 3) pa_nil))) pa_nil))))) pa_nil)))), ?_⟩
    refine ⟨d, .dK (numK num), hd, trivial, fun od => ?_⟩
    have ld : upd H d (.frz od (.dK (numK num))) d = some (.frz od (.dK (numK num))) := upd_same
    have ll : SqL K (upd H d (.frz od (.dK (numK num)))) l (strV o) := sql_lock hl hd
    have bk : ∀ H2, Same (upd H d (.frz od (.dK (numK num)))) H2 → Same H (upd H2 d (.dK (numK num))) := fun H2 z => lock_same hd z
    generalize upd H d (.frz od (.dK (numK num))) = L at ld ll bk ⊢
    refine ⟨_, rfl, d, od, rfl, .inl ⟨_, ld, fun D hD => ?_⟩⟩
    refine lc_it (walk_keys (d := d) (o := od) (kvs := numK num)) (fun i H2 => Same L H2 ∧ H2 D = some (.lst (natV ((num.take i).map (far (cnt o m)))))) ⟨Same.upd hD, upd_same⟩ (fun i H2 _ z => z.1 _ _ ld) ?_ ?_
    · rintro i x Hg Hh hi ⟨S, lD⟩ ⟨rfl, kk, vv, hg, rfl⟩
      obtain ⟨s', n, rfl, rfl, hn⟩ := numK_get hg
      have hmem := List.mem_of_getElem? hn
      have L1 := S.seq ll
      have e1 : DGet Hh d (.str s') (some (.int (n : Int))) := .inl ⟨numK num, Sum.inr s', .inr ⟨od, S _ _ ld⟩, rfl, (numK_val nd hmem).symm⟩
      refine ⟨rfl, _, rfl, _, rfl, d, _, rfl, e1, _, rfl, _, rfl, _, rfl, l, _, rfl, L1, fun q hq => ?_⟩
      rw [cut_take]
      have s2 : Same Hh (upd Hh q (.lst (strV (o.take m)))) := Same.upd hq
      have lq : upd Hh q (HO.lst (strV (o.take m))) q = some (.lst (strV (o.take m))) := upd_same
      generalize upd Hh q (HO.lst (strV (o.take m))) = H5 at s2 lq ⊢
      refine ⟨.inl ⟨rfl, _, SqL.of lq⟩, _, rfl, q, o.take m, s', rfl, rfl, SqL.of lq, _, _, rfl, rfl, _, rfl, ?_⟩
      rw [far_int]
      refine ⟨_, s2 _ _ lD, by rw [List.length_map, List.length_map, List.length_take, sizeLine_eq]; omega, EX.Same.updN (Same.trans S s2) hD, ?_⟩
      rw [upd_same, List.take_add_one, hn]
      unfold natV
      rw [Option.toList_some, List.map_append, List.map_append]
      rfl
    rintro H2 ⟨S2, lD⟩
    rw [List.take_of_length_le (by rw [show (numK num).length = num.length from List.length_map _]; exact Nat.le_refl _)] at lD
    refine ⟨S2 _ _ ld, ?_⟩
    have S3 := bk _ S2
    have nDd : D ≠ d := fun z => by rw [z, ld] at hD; cases hD
    refine ⟨D, (num.map (far (cnt o m))).map fun (n : Nat) => (n : Int), rfl, SqL.of (by rw [upd_ne nDd, lD, natI]), by rw [List.length_map, List.length_map]; exact List.length_pos_iff.mpr ne, fun v hv hmax => ?_⟩
    obtain ⟨v0, hv0, rfl⟩ := List.mem_map.mp hv
    have : gap o num m = v0 := mx_eq hv0 fun x hx => by
      have := hmax _ (List.mem_map.mpr ⟨x, hx, rfl⟩)
      omega
    rw [← this]
    exact k _ S3
theorem ok_la {f : Addr} {fd : FuncData} (F : Fun K "_law_at" "_law_at" sLA f fd) (B : Bn mg) : FnOk P w K mg base CX0 1 f fd ["_law_order_here", "_law_words", "_law_moment"] (spLA K) := by
  refine F.ok scLA (fun vs H Q E h => ?_) (fun cdv A outer s H vs Q E hr h => ?_)
  · obtain ⟨l, d, o, num, m, rfl, _⟩ := h
    rfl
  · obtain ⟨l, d, o, num, m, rfl, hl, hd, nd, sz, k⟩ := h
    have hu := hu_of hr
    refine ⟨_, (pss_one (ps_ret (pe_callTy (call_dictP rfl) (by rfl) B.dict (by decide +kernel) (pa_cons (pe_lock (pe_lc (own := [("_law_word", 3)]) (g := (gName 3)) (tt := tYes) (te := (tTup (tCons (tVar 3) (tCons (tBM K "list" (rCntS K) (tSl (rSlL K) (tVar 0) tNoPart (tPart (tVar 2))) (tCons (tVar 3) tNil)) tNil)))) rfl scLA.nd (pi_keys (pv 1)) (blkOk_by (N := sLAN) (sc := defScope sLA) (by decide +kernel)) (fun _ _ _ _ _ => (pg_name (i := 3) scLA.nd rfl (Or.inl rfl))) (fun _ _ _ _ _ => pts_nil) (fun _ _ _ _ _ => (pe_tup (pa_cons (pv 3) (pa_cons (pe_bm PySem.F.plainAttrs_list PySem.F.slot_list_count PySem.F.type_list_count mt_scount (pe_slice sl_list (pv 0) po_none (po_some (pv 2))) (pa_cons (pv 3) pa_nil)) pa_nil)))))) pa_nil)))), ?_⟩
    refine ⟨d, .dK (numK num), hd, trivial, fun od => ?_⟩
    have ld : upd H d (.frz od (.dK (numK num))) d = some (.frz od (.dK (numK num))) := upd_same
    have ll : SqL K (upd H d (.frz od (.dK (numK num)))) l (strV o) := sql_lock hl hd
    have bk : ∀ H2, Same (upd H d (.frz od (.dK (numK num)))) H2 → Same H (upd H2 d (.dK (numK num))) := fun H2 z => lock_same hd z
    generalize upd H d (.frz od (.dK (numK num))) = L at ld ll bk ⊢
    refine ⟨_, rfl, d, od, rfl, .inl ⟨_, ld, fun D hD => ?_⟩⟩
    refine lc_it (walk_keys (d := d) (o := od) (kvs := numK num)) (fun i H2 => Same L H2 ∧ ∃ ts : List Addr, H2 D = some (.lst (ts.map V.ref)) ∧ Paired (fun (t : Addr) (kv : Key × V) => H2 t = some (.tup [kV kv.1, kv.2])) ts (numK (atN o (num.take i) m))) ⟨Same.upd hD, [], upd_same, .nil⟩ (fun i H2 _ z => z.1 _ _ ld) ?_ ?_
    · rintro i x Hg Hh hi ⟨S, ts, lD, pr⟩ ⟨rfl, kk, vv, hg, rfl⟩
      obtain ⟨s', n, rfl, rfl, hn⟩ := numK_get hg
      have L1 := S.seq ll
      have hi2 : i < num.length := (List.getElem?_eq_some_iff.mp hn).1
      have htl := Paired.length pr
      rw [show (numK (atN o (num.take i) m)).length = i by unfold numK atN; rw [List.length_map, List.length_map, List.length_take]; omega] at htl
      refine ⟨rfl, _, rfl, _, rfl, _, rfl, _, rfl, l, _, rfl, L1, fun q hq => ?_⟩
      rw [cut_take]
      have s2 : Same Hh (upd Hh q (.lst (strV (o.take m)))) := Same.upd hq
      have lq : upd Hh q (HO.lst (strV (o.take m))) q = some (.lst (strV (o.take m))) := upd_same
      generalize upd Hh q (HO.lst (strV (o.take m))) = H5 at s2 lq ⊢
      refine ⟨.inl ⟨rfl, _, SqL.of lq⟩, _, rfl, q, o.take m, s', rfl, rfl, SqL.of lq, by show 2 ≤ sizeLine; decide, fun t ht => ?_⟩
      have s3 : Same H5 (upd H5 t (.tup [kV (Sum.inr s'), .int (((o.take m).count s' : Nat) : Int)])) := Same.upd ht
      have lt : upd H5 t (HO.tup [kV (Sum.inr s'), .int (((o.take m).count s' : Nat) : Int)]) t = some (.tup [kV (Sum.inr s'), .int (((o.take m).count s' : Nat) : Int)]) := upd_same
      generalize upd H5 t (HO.tup [kV (Sum.inr s'), .int (((o.take m).count s' : Nat) : Int)]) = H6 at s3 lt ⊢
      have s23 := Same.trans s2 s3
      have lD6 := s23 _ _ lD
      refine ⟨_, lD6, by rw [List.length_map, htl, sizeLine_eq]; omega, EX.Same.updN (Same.trans S s23) hD, ts ++ [t], by rw [upd_same, List.map_append]; rfl, ?_⟩
      have ek : numK (atN o (num.take (i + 1)) m) = numK (atN o (num.take i) m) ++ [(Sum.inr s', V.int (((o.take m).count s' : Nat) : Int))] := by
        rw [List.take_add_one, hn]
        unfold numK atN
        rw [Option.toList_some, List.map_append, List.map_append]
        rfl
      rw [ek]
      refine paired_snoc' (paired_imp (fun a kv e => ?_) pr) ?_
      · rw [upd_ne (fun z => by rw [z, lD] at e; cases e)]
        exact s23 _ _ e
      · rw [upd_ne (fun z => by rw [z, lD6] at lt; cases lt)]
        exact lt
    rintro H2 ⟨S2, ts, lD, pr⟩
    rw [List.take_of_length_le (by rw [show (numK num).length = num.length from List.length_map _]; exact Nat.le_refl _)] at pr
    refine ⟨S2 _ _ ld, ?_⟩
    have S3 := bk _ S2
    have nDd : D ≠ d := fun z => by rw [z, ld] at hD; cases hD
    have lD3 : upd H2 d (HO.dK (numK num)) D = some (.lst (ts.map V.ref)) := by rw [upd_ne nDd]; exact lD
    have pr3 : Paired (fun (t : Addr) (kv : Key × V) => SqT K (upd H2 d (.dK (numK num))) t [kV kv.1, kv.2]) ts (numK (atN o num m)) := paired_imp (fun a kv e => .inl (.inl (by rw [upd_ne (fun z => by rw [z, S2 _ _ ld] at e; cases e)]; exact e))) pr
    generalize upd H2 d (HO.dK (numK num)) = H3 at S3 lD3 pr3 ⊢
    refine ⟨D, ts, _, rfl, SqL.of lD3, pr3, fun q hq => ?_⟩
    rw [merge_nd (by unfold numK atN; rw [List.map_map, List.map_map]; exact nd_inr nd)]
    exact k q _ (Same.trans S3 (Same.upd hq)) (S3.free hq) upd_same
end
end K41
set_option Elab.async false
set_option linter.all false
set_option maxRecDepth 100000
set_option maxHeartbeats 4000000
namespace K41
open PySem L2 EX PyProof.Rows M41
section
variable {P : Program} {w : World} {K : PySem.W.Frag} {mg : Str → Option Value} {base : Heap}
theorem w4_ok : ∀ s ∈ w4, isW s = true := by
  intro s hs
  simp only [w4, List.mem_cons, List.not_mem_nil, or_false] at hs
  rcases hs with rfl | rfl | rfl | rfl <;> decide +kernel
theorem w4_nd : w4.Nodup := by decide +kernel
theorem ok_ln {f : Addr} {fd : FuncData} (F : Fun K "_law_numbers" "_law_numbers" sLN f fd) (B : Bn mg) (GR : DefAt P w K mg base 1 "_law_draw" ["_law_source_here", "_law_amount"] spDraw) : FnOk P w K mg base CX0 2 f fd ["_law_source_here", "_law_order_here"] (spLN K) := by
  refine F.ok scLN (fun vs H Q E h => ?_) (fun cdv A outer s H vs Q E hr h => ?_)
  · obtain ⟨p, l, x, y, o, rfl, _⟩ := h
    rfl
  · obtain ⟨p, l, x, y, o, rfl, hp, src, nlp, hl, ho, k⟩ := h
    have hu := hu_of hr
    have hu64 : _ + 64 < cLine := hr.units
    refine ⟨_, (pss_cons (ps_setLc (i := 2) (own := [("_law_word", 4)]) (g := (gName 4)) (tt := (tTest (tOp (rI0 fun i j => .bl (decide (j < i))) (tCall spDraw [] E0 (tCons (tVar 0) (tCons (tC (.int 3)) tNil))) (tC (.int 0))))) (te := (tVar 4)) rfl scLN.nd rfl rfl (sw_true rfl rfl rfl (by decide +kernel)) (pi_list (pe_lst (pa_cons pe_str (pa_cons pe_str (pa_cons pe_str (pa_cons pe_str pa_nil)))))) (blkOk_by (N := sLNN) (sc := defScope sLN) (by decide +kernel)) (fun _ _ _ _ _ => (pg_name (i := 4) scLN.nd rfl (Or.inl rfl))) (fun _ _ _ _ _ => (pts_one (pt_cmpR op_gt (pe_callD GR (hr.mono (by decide)) (pa_cons (pv 0) (pa_cons pe_int pa_nil))) pe_int (nomark _)))) (fun _ _ _ _ _ => (pv 4)))
        (pss_cons (ps_set (i := 3) scLN.nd rfl (Or.inl rfl) (pe_ifExp (pt_cmpR (op_neD hu64) (pv 2) (pe_lst pa_nil) (nomark _)) (pv 2) (pe_lst (pa_cons pe_str pa_nil))))
        (pss_one (ps_ret (pe_callTy (call_dictP rfl) (by rfl) B.dict (by decide +kernel) (pa_cons (pe_lc (own := [("_law_word", 4)]) (g := (gName 4)) (tt := tYes) (te := (tTup (tCons (tVar 4) (tCons (tCall spDraw [] E0 (tCons (tVar 0) (tCons (tOp (rI0 fun i j => .int (i + j)) (tBM K "list" (rCntS K) (tVar 1) (tCons (tVar 4) tNil)) (tC (.int 1))) tNil))) tNil)))) rfl scLN.nd (pi_list (pv 3)) (blkOk_by (N := sLNN) (sc := defScope sLN) (by decide +kernel)) (fun _ _ _ _ _ => (pg_name (i := 4) scLN.nd rfl (Or.inl rfl))) (fun _ _ _ _ _ => pts_nil) (fun _ _ _ _ _ => (pe_tup (pa_cons (pv 4) (pa_cons (pe_callD GR (hr.mono (by decide)) (pa_cons (pv 0) (pa_cons (pe_op op_add (pe_bm PySem.F.plainAttrs_list PySem.F.slot_list_count PySem.F.type_list_count mt_scount (pv 1) (pa_cons (pv 4) pa_nil)) pe_int) pa_nil))) pa_nil))))) pa_nil)))))), ?_⟩
    refine ⟨by show 4 ≤ sizeLine; decide, fun q hq => ?_⟩
    have nqp : q ≠ p := (ne_by hp hq).symm
    have lq : upd H q (HO.lst (strV w4)) q = some (.lst (strV w4)) := upd_same
    have S1 : SrcTo p H (upd H q (.lst (strV w4))) := (SrcTo.refl hp src).then (Same.upd hq)
    refine ⟨q, rfl, ⟨_, SqL.of lq⟩, fun D hD => ?_⟩
    have lq : upd H q (HO.lst (strV w4)) q = some (.lst (strV w4)) := upd_same
    change upd H q (HO.lst (strV w4)) D = none at hD
    show ∃ W : Nat → Nat → Hp → Prop, (∃ m, W 0 m (upd (upd H q (.lst (strV w4))) D (.lst []))) ∧ _
    generalize upd H q (HO.lst (strV w4)) = H1 at lq S1 hD ⊢
    have nDq : D ≠ q := (ne_by lq hD).symm
    have nDp : D ≠ p := fun z => by
      obtain ⟨a, b, e, _⟩ := S1.at_
      rw [← z, hD] at e
      cases e
    have hDH : H D = none := S1.kp.free (by simpa using nDp) hD
    refine lc_list (K := K) (a := q) (xs := strV w4) (fun i H' => SrcTo p H H' ∧ H' q = some (.lst (strV w4)) ∧ ∃ ws : List Str, H' D = some (.lst (strV ws)) ∧ ws.Sublist (w4.take i)) ⟨S1.then (Same.upd hD), by rw [upd_ne nDq.symm]; exact lq, [], upd_same, List.Sublist.refl _⟩ (fun i H' _ z => SqL.of z.2.1) ?_ ?_
    · rintro i v H' hx ⟨S, lq, ws, lD, sub⟩
      obtain ⟨z, rfl, hz⟩ := strV_get hx
      obtain ⟨a1, b1, hpa, sra⟩ := S.at_
      have st : w4.take (i + 1) = w4.take i ++ [z] := by rw [List.take_add_one, hz]; rfl
      refine ⟨rfl, _, rfl, p, a1, b1, 3, rfl, hpa, sra, by decide, by decide, fun x2 y2 n sr2 n0 n1 => ⟨_, _, rfl, rfl, _, rfl, ite2 (fun c => ?_) (fun c => ?_)⟩⟩
      · refine ⟨_, rfl, _, by rw [upd_ne nDp]; exact lD, ?_, (S.upd sr2).put nDp hDH, by rw [upd_ne nDq.symm, upd_ne nqp]; exact lq, ws ++ [z], by rw [upd_same]; unfold strV; rw [List.map_append]; rfl, by rw [st]; exact sub.append (List.Sublist.refl _)⟩
        have := sub.length_le
        rw [List.length_take] at this
        rw [List.length_map, sizeLine_eq]
        have : w4.length = 4 := rfl
        omega
      · exact ⟨S.upd sr2, by rw [upd_ne nqp]; exact lq, ws, by rw [upd_ne nDp]; exact lD, by rw [st]; exact sub.trans (List.sublist_append_left _ _)⟩
    rintro H2 ⟨S2, lq2, ws, lD2, sub⟩
    have sub : ws.Sublist w4 := sub.trans (List.take_sublist _ _)
    have wsok : ∀ s ∈ ws, PyData.strOk s = true := fun s hs => isW_ok (w4_ok s (sub.subset hs))
    clear lq2 lq S1
    -- the words
    refine ⟨_, rfl, by show 0 ≤ sizeLine; decide, fun e0 he0 => ?_⟩
    have s3 : Same H2 (upd H2 e0 (.lst [])) := Same.upd he0
    have l3 : upd H2 e0 (HO.lst []) e0 = some (.lst []) := upd_same
    have lD3 : upd H2 e0 (HO.lst []) D = some (.lst (strV ws)) := s3 _ _ lD2
    have S3 := S2.then s3
    generalize upd H2 e0 (HO.lst []) = H3 at s3 l3 lD3 S3 ⊢
    refine ⟨_, _, .lst (SqL.of lD3) (dpAll_strs ws), .lst (SqL.of l3) .nil, shaped_strsL wsok, shaped_strsL (a := []) (by simp), _, rfl, ?_⟩
    have hev : (!PyData.eqv (.list (ws.map PyData.str)) (.list [])) = !decide (ws = []) := congrArg (!·) (eqv_strs ws [])
    rw [hev]
    by_cases hws : ws = []
    · refine ifF (by rw [decide_eq_true hws]; rfl) ?_
      refine ⟨by show 1 ≤ sizeLine; decide, fun wl hwl => ?_⟩
      have nwp : wl ≠ p := fun z => by
        obtain ⟨a, b, e, _⟩ := S3.at_
        rw [← z, hwl] at e
        cases e
      have S5 : SrcTo p H (upd H3 wl (.lst (strV ["key"]))) := S3.then (Same.upd hwl)
      have lw5 : upd H3 wl (HO.lst (strV ["key"])) wl = some (.lst (strV ["key"])) := upd_same
      have hsub : (["key"] : List Str).Sublist w4 := by decide +kernel
      have hne : (["key"] : List Str) ≠ [] := by simp
      change SrcTo p H (upd H3 wl (.lst [V.str "key"])) at S5
      change upd H3 wl (HO.lst [V.str "key"]) wl = _ at lw5
      generalize upd H3 wl (HO.lst [V.str "key"]) = H5 at S5 lw5 ⊢
      generalize (["key"] : List Str) = W at lw5 hsub hne
      -- the dict
      have nDp' : wl ≠ p := nwp
      have hlH5 : H5 l = some (.lst (strV o)) := S5.kp _ _ (by simpa using nlp) hl
      refine ⟨_, rfl, wl, rfl, ⟨_, SqL.of lw5⟩, fun D2 hD2 => ?_⟩
      have nD2w : D2 ≠ wl := (ne_by lw5 hD2).symm
      have nD2l : D2 ≠ l := (ne_by hlH5 hD2).symm
      have nD2p : D2 ≠ p := fun z => by
        obtain ⟨a, b, e, _⟩ := S5.at_
        rw [← z, hD2] at e
        cases e
      have hD2H : H D2 = none := S5.kp.free (by simpa using nD2p) hD2
      refine lc_list (K := K) (a := wl) (xs := strV W) (fun i H' => SrcTo p H H' ∧ H' wl = some (.lst (strV W)) ∧ H' l = some (.lst (strV o)) ∧ ∃ (ts : List Addr) (num : Num Str), H' D2 = some (.lst (ts.map V.ref)) ∧ Paired (fun (t : Addr) (kv : Key × V) => H' t = some (.tup [kV kv.1, kv.2])) ts (numK num) ∧ num.map (·.1) = W.take i ∧ ∀ z ∈ num, z.2 ≤ o.count z.1)
        ⟨S5.then (Same.upd hD2), by rw [upd_ne nD2w.symm]; exact lw5, by rw [upd_ne nD2l.symm]; exact hlH5, [], [], upd_same, .nil, by simp, by simp⟩ (fun i H' _ z => SqL.of z.2.1) ?_ ?_
      · rintro i v H' hx ⟨S, lw, ll, ts, num, lD, pr, hk, hc⟩
        obtain ⟨z, rfl, hz⟩ := strV_get hx
        obtain ⟨a1, b1, hpa, sra⟩ := S.at_
        have hiW : i < W.length := (List.getElem?_eq_some_iff.mp hz).1
        have hcl : o.count z ≤ o.length := List.count_le_length
        refine ⟨rfl, _, rfl, _, rfl, _, rfl, .inl ⟨rfl, _, SqL.of ll⟩, _, rfl, l, o, z, rfl, rfl, SqL.of ll, _, _, rfl, rfl, p, a1, b1, ((o.count z : Nat) : Int) + 1, rfl, hpa, sra, by omega, by omega, fun x3 y3 n sr3 n0 n1 => ?_⟩
        obtain ⟨n, rfl⟩ : ∃ m : Nat, n = (m : Int) := ⟨n.toNat, by omega⟩
        refine ⟨by show 2 ≤ sizeLine; decide, fun t ht => ?_⟩
        have hD' : upd H' p (HO.lst [.int x3, .int y3]) D2 = some (.lst (ts.map V.ref)) := by rw [upd_ne nD2p]; exact lD
        have hw' : upd H' p (HO.lst [.int x3, .int y3]) wl = some (.lst (strV W)) := by rw [upd_ne nwp]; exact lw
        have hl' : upd H' p (HO.lst [.int x3, .int y3]) l = some (.lst (strV o)) := by rw [upd_ne nlp]; exact ll
        have hp' : upd H' p (HO.lst [.int x3, .int y3]) p = some (.lst [.int x3, .int y3]) := upd_same
        have S' : SrcTo p H (upd H' p (.lst [.int x3, .int y3])) := S.upd sr3
        have pr' : Paired (fun (t : Addr) (kv : Key × V) => (upd H' p (.lst [.int x3, .int y3])) t = some (.tup [kV kv.1, kv.2])) ts (numK num) := paired_imp (fun a kv e => by rw [upd_ne (fun z => by rw [z, hpa] at e; cases e)]; exact e) pr
        generalize upd H' p (HO.lst [.int x3, .int y3]) = H6 at hD' hw' hl' hp' S' pr' ht ⊢
        have s7 : Same H6 (upd H6 t (.tup [.str z, .int (n : Nat)])) := Same.upd ht
        have lt : upd H6 t (HO.tup [.str z, .int (n : Nat)]) t = some (.tup [.str z, .int (n : Nat)]) := upd_same
        generalize upd H6 t (HO.tup [.str z, .int (n : Nat)]) = H7 at s7 lt ⊢
        have hD7 := s7 _ _ hD'
        have htl := Paired.length pr
        rw [show (numK num).length = num.length from List.length_map _] at htl
        have hnl : num.length = i := by
          have := congrArg List.length hk
          rw [List.length_map, List.length_take] at this
          omega
        have hWl : W.length ≤ 4 := hsub.length_le
        refine ⟨_, hD7, by rw [List.length_map, sizeLine_eq]; omega, (S'.then s7).put nD2p hD2H, by rw [upd_ne nD2w.symm]; exact s7 _ _ hw', by rw [upd_ne nD2l.symm]; exact s7 _ _ hl', ts ++ [t], num ++ [(z, n)], by rw [upd_same, List.map_append]; rfl, ?_, ?_, fun u hu => ?_⟩
        · rw [show numK (num ++ [(z, n)]) = numK num ++ [(Sum.inr z, V.int (n : Nat))] by unfold numK; rw [List.map_append]; rfl]
          refine paired_snoc' (paired_imp (fun a kv e => ?_) pr') ?_
          · rw [upd_ne (fun z => by rw [z, hD'] at e; cases e)]
            exact s7 _ _ e
          · rw [upd_ne (fun z => by rw [z, hD7] at lt; cases lt)]
            exact lt
        · rw [List.map_append, hk, List.take_add_one, hz]
          rfl
        · rcases List.mem_append.mp hu with hu | hu
          · exact hc u hu
          · rw [List.mem_singleton.mp hu]
            show n ≤ o.count z
            omega
      rintro H8 ⟨S, lw, ll, ts, num, lD, pr, hk, hc⟩
      rw [List.length_map, List.take_length] at hk
      have nd : (num.map (·.1)).Nodup := by rw [hk]; exact hsub.nodup w4_nd
      refine ⟨D2, ts, _, rfl, SqL.of lD, paired_imp (fun a kv e => .inl (.inl e)) pr, fun d hd => ?_⟩
      rw [merge_nd (by unfold numK; rw [List.map_map]; exact nd_inr nd)]
      have hnl : num.length ≤ 4 := by
        have := congrArg List.length hk
        rw [List.length_map] at this
        rw [this]
        exact hsub.length_le
      have ndp : d ≠ p := fun z => by
        obtain ⟨a, b, e, _⟩ := S.at_
        rw [← z, hd] at e
        cases e
      refine k d num _ (S.then (Same.upd hd)) (S.kp.free (by simpa using ndp) hd) upd_same ⟨nd, fun z => hne (by rw [z] at hk; exact hk.symm), fun z hz => ?_, hc, by omega⟩ hnl
      exact w4_ok _ (hsub.subset (by rw [← hk]; exact List.mem_map.mpr ⟨z, hz, rfl⟩))
    · refine ifT (by rw [decide_eq_false hws]; rfl) ?_
      refine ⟨_, rfl, ?_⟩
      have nwp : D ≠ p := nDp
      have S5 := S3
      have lw5 := lD3
      have hsub := sub
      have hne := hws
      generalize H3 = H5 at S5 lw5 ⊢
      generalize D = wl at nwp lw5 ⊢
      generalize ws = W at lw5 hsub hne
      -- the dict
      have nDp' : wl ≠ p := nwp
      have hlH5 : H5 l = some (.lst (strV o)) := S5.kp _ _ (by simpa using nlp) hl
      refine ⟨_, rfl, wl, rfl, ⟨_, SqL.of lw5⟩, fun D2 hD2 => ?_⟩
      have nD2w : D2 ≠ wl := (ne_by lw5 hD2).symm
      have nD2l : D2 ≠ l := (ne_by hlH5 hD2).symm
      have nD2p : D2 ≠ p := fun z => by
        obtain ⟨a, b, e, _⟩ := S5.at_
        rw [← z, hD2] at e
        cases e
      have hD2H : H D2 = none := S5.kp.free (by simpa using nD2p) hD2
      refine lc_list (K := K) (a := wl) (xs := strV W) (fun i H' => SrcTo p H H' ∧ H' wl = some (.lst (strV W)) ∧ H' l = some (.lst (strV o)) ∧ ∃ (ts : List Addr) (num : Num Str), H' D2 = some (.lst (ts.map V.ref)) ∧ Paired (fun (t : Addr) (kv : Key × V) => H' t = some (.tup [kV kv.1, kv.2])) ts (numK num) ∧ num.map (·.1) = W.take i ∧ ∀ z ∈ num, z.2 ≤ o.count z.1)
        ⟨S5.then (Same.upd hD2), by rw [upd_ne nD2w.symm]; exact lw5, by rw [upd_ne nD2l.symm]; exact hlH5, [], [], upd_same, .nil, by simp, by simp⟩ (fun i H' _ z => SqL.of z.2.1) ?_ ?_
      · rintro i v H' hx ⟨S, lw, ll, ts, num, lD, pr, hk, hc⟩
        obtain ⟨z, rfl, hz⟩ := strV_get hx
        obtain ⟨a1, b1, hpa, sra⟩ := S.at_
        have hiW : i < W.length := (List.getElem?_eq_some_iff.mp hz).1
        have hcl : o.count z ≤ o.length := List.count_le_length
        refine ⟨rfl, _, rfl, _, rfl, _, rfl, .inl ⟨rfl, _, SqL.of ll⟩, _, rfl, l, o, z, rfl, rfl, SqL.of ll, _, _, rfl, rfl, p, a1, b1, ((o.count z : Nat) : Int) + 1, rfl, hpa, sra, by omega, by omega, fun x3 y3 n sr3 n0 n1 => ?_⟩
        obtain ⟨n, rfl⟩ : ∃ m : Nat, n = (m : Int) := ⟨n.toNat, by omega⟩
        refine ⟨by show 2 ≤ sizeLine; decide, fun t ht => ?_⟩
        have hD' : upd H' p (HO.lst [.int x3, .int y3]) D2 = some (.lst (ts.map V.ref)) := by rw [upd_ne nD2p]; exact lD
        have hw' : upd H' p (HO.lst [.int x3, .int y3]) wl = some (.lst (strV W)) := by rw [upd_ne nwp]; exact lw
        have hl' : upd H' p (HO.lst [.int x3, .int y3]) l = some (.lst (strV o)) := by rw [upd_ne nlp]; exact ll
        have hp' : upd H' p (HO.lst [.int x3, .int y3]) p = some (.lst [.int x3, .int y3]) := upd_same
        have S' : SrcTo p H (upd H' p (.lst [.int x3, .int y3])) := S.upd sr3
        have pr' : Paired (fun (t : Addr) (kv : Key × V) => (upd H' p (.lst [.int x3, .int y3])) t = some (.tup [kV kv.1, kv.2])) ts (numK num) := paired_imp (fun a kv e => by rw [upd_ne (fun z => by rw [z, hpa] at e; cases e)]; exact e) pr
        generalize upd H' p (HO.lst [.int x3, .int y3]) = H6 at hD' hw' hl' hp' S' pr' ht ⊢
        have s7 : Same H6 (upd H6 t (.tup [.str z, .int (n : Nat)])) := Same.upd ht
        have lt : upd H6 t (HO.tup [.str z, .int (n : Nat)]) t = some (.tup [.str z, .int (n : Nat)]) := upd_same
        generalize upd H6 t (HO.tup [.str z, .int (n : Nat)]) = H7 at s7 lt ⊢
        have hD7 := s7 _ _ hD'
        have htl := Paired.length pr
        rw [show (numK num).length = num.length from List.length_map _] at htl
        have hnl : num.length = i := by
          have := congrArg List.length hk
          rw [List.length_map, List.length_take] at this
          omega
        have hWl : W.length ≤ 4 := hsub.length_le
        refine ⟨_, hD7, by rw [List.length_map, sizeLine_eq]; omega, (S'.then s7).put nD2p hD2H, by rw [upd_ne nD2w.symm]; exact s7 _ _ hw', by rw [upd_ne nD2l.symm]; exact s7 _ _ hl', ts ++ [t], num ++ [(z, n)], by rw [upd_same, List.map_append]; rfl, ?_, ?_, fun u hu => ?_⟩
        · rw [show numK (num ++ [(z, n)]) = numK num ++ [(Sum.inr z, V.int (n : Nat))] by unfold numK; rw [List.map_append]; rfl]
          refine paired_snoc' (paired_imp (fun a kv e => ?_) pr') ?_
          · rw [upd_ne (fun z => by rw [z, hD'] at e; cases e)]
            exact s7 _ _ e
          · rw [upd_ne (fun z => by rw [z, hD7] at lt; cases lt)]
            exact lt
        · rw [List.map_append, hk, List.take_add_one, hz]
          rfl
        · rcases List.mem_append.mp hu with hu | hu
          · exact hc u hu
          · rw [List.mem_singleton.mp hu]
            show n ≤ o.count z
            omega
      rintro H8 ⟨S, lw, ll, ts, num, lD, pr, hk, hc⟩
      rw [List.length_map, List.take_length] at hk
      have nd : (num.map (·.1)).Nodup := by rw [hk]; exact hsub.nodup w4_nd
      refine ⟨D2, ts, _, rfl, SqL.of lD, paired_imp (fun a kv e => .inl (.inl e)) pr, fun d hd => ?_⟩
      rw [merge_nd (by unfold numK; rw [List.map_map]; exact nd_inr nd)]
      have hnl : num.length ≤ 4 := by
        have := congrArg List.length hk
        rw [List.length_map] at this
        rw [this]
        exact hsub.length_le
      have ndp : d ≠ p := fun z => by
        obtain ⟨a, b, e, _⟩ := S.at_
        rw [← z, hd] at e
        cases e
      refine k d num _ (S.then (Same.upd hd)) (S.kp.free (by simpa using ndp) hd) upd_same ⟨nd, fun z => hne (by rw [z] at hk; exact hk.symm), fun z hz => ?_, hc, by omega⟩ hnl
      exact w4_ok _ (hsub.subset (by rw [← hk]; exact List.mem_map.mpr ⟨z, hz, rfl⟩))
end
end K41
set_option Elab.async false
set_option linter.all false
set_option maxRecDepth 100000
set_option maxHeartbeats 4000000
namespace K41
open PySem L2 EX PyProof.Rows M41
section
variable {P : Program} {w : World} {K : PySem.W.Frag} {mg : Str → Option Value} {base : Heap}
theorem ok_lb {f : Addr} {fd : FuncData} (F : Fun K "_law_bars" "_law_bars" sLB f fd) (B : Bn mg) : FnOk P w K mg base CX0 1 f fd ["_law_order_here", "_law_numbers_here", "_law_pair", "_law_slack"] (spLB K) := by
  refine F.ok scLB (fun vs H Q E h => ?_) (fun cdv A outer s H vs Q E hr h => ?_)
  · obtain ⟨l, d, t, o, num, e, g, sl, rfl, _⟩ := h
    rfl
  · obtain ⟨l, d, t, o, num, e, g, sl, rfl, hl, ho, hd, nd, ht, he, hg, k⟩ := h
    have hu := hu_of hr
    have hlv : (strV o).length = o.length := List.length_map _
    refine ⟨_, (pss_cons (ps_for PassesOwn.never rfl (pi_range1 (by rfl) B.range (pa_cons (pe_op op_add (pe_callB call_len_seq (by rfl) B.len PySem.boot_len (pa_cons (pv 0) pa_nil)) pe_int) pa_nil)) (pg_name (i := 4) scLB.nd rfl (Or.inr rfl)) (pss_one (ps_if (pt_cmpR op_le (pe_callB (cr_max rfl) (by rfl) B.max PyProof.Rows.boot_max (pa_cons (pe_lc (own := [("_law_word", 5)]) (g := (gName 5)) (tt := tYes) (te := (tCB rAbs (tCons (tOp (rI0 fun i j => .int (i - j)) (tDGet (tVar 1) (tVar 5)) (tBM K "list" (rCntS K) (tSl (rSlL K) (tVar 0) tNoPart (tPart (tVar 4))) (tCons (tVar 5) tNil))) tNil))) rfl scLB.nd (pi_tup (pv 2)) (blkOk_by (N := sLBN) (sc := defScope sLB) (by decide +kernel)) (fun _ _ _ _ _ => (pg_name (i := 5) scLB.nd rfl (Or.inl rfl))) (fun _ _ _ _ _ => pts_nil) (fun _ _ _ _ _ => (pe_callB call_abs (by rfl) B.abs (by decide +kernel) (pa_cons (pe_op op_sub (pe_dget hu (pv 1) (pv 5) (fun _ _ => rfl)) (pe_bm PySem.F.plainAttrs_list PySem.F.slot_list_count PySem.F.type_list_count mt_scount (pe_slice sl_list (pv 0) po_none (po_some (pv 4))) (pa_cons (pv 5) pa_nil))) pa_nil)))) pa_nil)) (pv 3) (nomark _)) (pss_one (ps_ret pe_bl)) pss_nil)))
        (pss_one (ps_ret pe_bl))), ?_⟩
    refine ⟨_, rfl, l, _, rfl, .inl hl, _, _, rfl, rfl, _, rfl, by rw [hlv]; omega, by rw [hlv]; omega, ?_⟩
    rw [hlv, show ((o.length : Nat) : Int) + 1 = ((o.length + 1 : Nat) : Int) by omega, Int.toNat_natCast]
    refine for_range (fun i σ H' => ∃ v4, σ = [some (.ref l), some (.ref d), some (.ref t), some (.int (sl : Nat)), v4, none] ∧ Same H H' ∧ ∀ m, m < i → ¬ (far (cnt o m) (e, gvN num e) ≤ sl ∧ far (cnt o m) (g, gvN num g) ≤ sl)) ⟨_, rfl, Same.refl _, fun m hm => absurd hm (Nat.not_lt_zero _)⟩ ?_ ?_
    · rintro m σ H1 hm ⟨v4, rfl, S1, hall⟩
      rw [show (0 : Int) + (m : Int) = ((m : Nat) : Int) by omega]
      have hl1 := S1.seq hl
      have hd1 := rd_same S1 hd
      have ht1 := sqt_same S1 ht
      refine ⟨_, rfl, t, rfl, ⟨_, ht1⟩, fun D hD => ?_⟩
      refine lc_it (walk_tup (K := K) (a := t) (xs := [.str e, .str g])) (fun i H2 => Same H1 H2 ∧ H2 D = some (.lst (natV (([e, g].take i).map fun x => far (cnt o m) (x, gvN num x))))) ⟨Same.upd hD, upd_same⟩ (fun i H2 _ z => sqt_same z.1 ht1) ?_ ?_
      · rintro i x Hg Hh hi ⟨S, lD⟩ ⟨rfl, hx⟩
        obtain ⟨s', hs, rfl⟩ : ∃ s', [e, g][i]? = some s' ∧ x = .str s' := by
          match i, hx with
          | 0, hx => exact ⟨e, rfl, (Option.some.inj hx).symm⟩
          | 1, hx => exact ⟨g, rfl, (Option.some.inj hx).symm⟩
          | n + 2, hx => simp at hx
        have hk : s' ∈ num.map (·.1) := by
          have := List.mem_of_getElem? hs
          rcases List.mem_cons.mp this with rfl | h
          · exact he
          · rw [List.mem_singleton.mp h]
            exact hg
        have L1 := S.seq hl1
        have e1 : DGet Hh d (.str s') (some (.int (gvN num s' : Nat))) := .inl ⟨numK num, Sum.inr s', rd_same S hd1, rfl, (numK_gv nd hk).symm⟩
        refine ⟨rfl, _, rfl, _, rfl, d, _, rfl, e1, _, rfl, _, rfl, _, rfl, l, _, rfl, L1, fun q hq => ?_⟩
        rw [cut_take]
        have s2 : Same Hh (upd Hh q (.lst (strV (o.take m)))) := Same.upd hq
        have lq : upd Hh q (HO.lst (strV (o.take m))) q = some (.lst (strV (o.take m))) := upd_same
        generalize upd Hh q (HO.lst (strV (o.take m))) = H5 at s2 lq ⊢
        refine ⟨.inl ⟨rfl, _, SqL.of lq⟩, _, rfl, q, o.take m, s', rfl, rfl, SqL.of lq, _, _, rfl, rfl, _, rfl, ?_⟩
        rw [far_int]
        refine ⟨_, s2 _ _ lD, by have : i < 2 := hi; rw [List.length_map, List.length_map, List.length_take, sizeLine_eq]; omega, EX.Same.updN (Same.trans S s2) hD, ?_⟩
        rw [upd_same, List.take_add_one, hs]
        unfold natV
        rw [Option.toList_some, List.map_append, List.map_append]
        rfl
      rintro H2 ⟨S2, lD⟩
      have lD : H2 D = some (.lst (natV [far (cnt o m) (e, gvN num e), far (cnt o m) (g, gvN num g)])) := lD
      have S12 := Same.trans S1 S2
      refine ⟨D, [((far (cnt o m) (e, gvN num e) : Nat) : Int), ((far (cnt o m) (g, gvN num g) : Nat) : Int)], rfl, SqL.of lD, by show 0 < 2; decide, fun v hv hmax => ?_⟩
      have q1 := hmax _ (.head _)
      have q2 := hmax _ (.tail _ (.head _))
      refine ⟨_, rfl, _, _, rfl, rfl, _, rfl, ite2 (fun z => ?_) (fun z => ?_)⟩
      · have z := of_decide_eq_true z
        refine k false H2 ⟨fun h => (by cases h), fun h => ?_⟩ S12
        exact absurd ⟨by omega, by omega⟩ (h m (by omega))
      · have z : ¬ v ≤ (sl : Int) := fun y => z (decide_eq_true y)
        refine ⟨_, rfl, S12, fun m' hm' => ?_⟩
        by_cases c : m' = m
        · subst c
          rintro ⟨x1, x2⟩
          rcases List.mem_cons.mp hv with rfl | hv
          · omega
          · rw [List.mem_singleton.mp hv] at z
            omega
        · exact hall m' (by omega)
    · rintro σ H1 ⟨v4, rfl, S1, hall⟩
      exact k true H1 ⟨fun _ m hm => hall m (by omega), fun _ => rfl⟩ S1
end
end K41
set_option Elab.async false
set_option linter.all false
set_option maxRecDepth 100000
set_option maxHeartbeats 4000000
namespace K41
open PySem L2 EX PyProof.Rows M41
/-! ### the numbers behind -/
theorem idxs_pw (l : List Nat) (m i : Nat) : (idxs l m i).Pairwise (· < ·) := List.Pairwise.filter _ List.pairwise_lt_range
theorem first_idx {l : List Nat} {m : Nat} (h : m ∈ l) : l[firstAt l m]? = some m ∧ ∀ j, j < firstAt l m → l[j]? ≠ some m := by
  obtain ⟨j, hj⟩ := List.mem_iff_getElem?.mp h
  have hin : j ∈ idxs l m l.length := mem_idxs.mpr ⟨(List.getElem?_eq_some_iff.mp hj).1, hj⟩
  have pw := idxs_pw l m l.length
  have hm : ∀ x, x ∈ idxs l m l.length ↔ x < l.length ∧ l[x]? = some m := fun x => mem_idxs
  unfold firstAt
  generalize idxs l m l.length = is at hin pw hm
  cases is with
  | nil => cases hin
  | cons i0 it =>
    refine ⟨((hm i0).mp (.head _)).2, fun k hk e => ?_⟩
    have hk : k < i0 := hk
    have : k ∈ i0 :: it := (hm k).mpr ⟨(List.getElem?_eq_some_iff.mp e).1, e⟩
    rcases List.mem_cons.mp this with z | z
    · omega
    · have := (List.pairwise_cons.mp pw).1 k z
      omega
theorem idxs_nil {l : List Nat} {m : Nat} (h : m ∉ l) : idxs l m l.length = [] := by
  refine List.eq_nil_iff_forall_not_mem.mpr fun j hj => h ?_
  exact List.mem_of_getElem? (mem_idxs.mp hj).2
theorem idxs_cons {l : List Nat} {m : Nat} (h : m ∈ l) : ∃ it, idxs l m l.length = firstAt l m :: it ∧ (idxs l m l.length).getLast? = some (lastAt l m) := by
  obtain ⟨j, hj⟩ := List.mem_iff_getElem?.mp h
  have hin : j ∈ idxs l m l.length := mem_idxs.mpr ⟨(List.getElem?_eq_some_iff.mp hj).1, hj⟩
  unfold firstAt lastAt
  generalize idxs l m l.length = is at hin
  cases is with
  | nil => cases hin
  | cons i0 it => exact ⟨it, rfl, by rw [List.getLastD_eq_getLast?, List.getLast?_eq_some_getLast (by simp)]; rfl⟩
theorem lay_ints : ∀ a : List Int, PyData.canLayAll0 (a.map PyData.int) = true
  | [] => rfl
  | x :: a => by
    show (true && PyData.canLayAll0 (a.map PyData.int)) = true
    rw [lay_ints a]
    rfl
theorem dep_ints : ∀ a : List Int, PyData.depthAll (a.map PyData.int) = 0
  | [] => rfl
  | x :: a => by
    show max 0 (PyData.depthAll (a.map PyData.int)) = 0
    rw [dep_ints a]
    rfl
theorem shaped_ints (a : List Int) : SeqAt.shaped (.list (a.map PyData.int)) = true := by
  unfold SeqAt.shaped
  show (PyData.canLayAll0 (a.map PyData.int) && decide (PyData.depthAll (a.map PyData.int) + 1 ≤ 64)) = true
  rw [lay_ints a, dep_ints]
  rfl
theorem shaped_tn (a b : Int) : SeqAt.shaped (.list [.int a, .int b, .none]) = true := rfl
theorem shaped_tt (a b c d : Int) : SeqAt.shaped (.list [.int a, .int b, .tuple [.int c, .int d]]) = true := rfl
theorem eqv_tn (a b : Int) : PyData.eqv (.list [.int a, .int b, .none]) (.list [.int a, .int b, .none]) = true := by
  show ((a == a) && ((b == b) && (true && true))) = true
  simp
theorem eqv_tt (a b c d : Int) : PyData.eqv (.list [.int a, .int b, .tuple [.int c, .int d]]) (.list [.int a, .int b, .tuple [.int c, .int d]]) = true := by
  show ((a == a) && ((b == b) && (((c == c) && ((d == d) && true)) && true))) = true
  simp
theorem gap_le {o : List Str} {num : Num Str} {m s : Nat} (ne : num ≠ []) (h : ∀ p ∈ num, far (cnt o m) p ≤ s) : gap o num m ≤ s := by
  have := mx_mem (l := num.map (far (cnt o m))) (fun z => ne (List.map_eq_nil_iff.mp z))
  obtain ⟨p, hp, e⟩ := List.mem_map.mp this
  unfold gap worst
  rw [← e]
  exact h p hp
theorem far_le {o : List Str} {num : Num Str} {m : Nat} {p : Str × Nat} (h : p ∈ num) : far (cnt o m) p ≤ gap o num m := le_mx (mem_far h)
theorem mem_gaps {o : List Str} {num : Num Str} {x : Nat} : x ∈ gaps o num ↔ ∃ m, m ≤ o.length ∧ gap o num m = x := by
  unfold gaps
  rw [List.mem_map]
  constructor
  · rintro ⟨m, hm, e⟩
    rw [List.mem_range] at hm
    exact ⟨m, by omega, e⟩
  · rintro ⟨m, hm, e⟩
    exact ⟨m, List.mem_range.mpr (by omega), e⟩
theorem gap_sub {o : List Str} {sub num : Num Str} (ne : sub ≠ []) (h : ∀ p ∈ sub, p ∈ num) : mn (gaps o sub) ≤ mn (gaps o num) := by
  obtain ⟨m, hm, e⟩ := mem_gaps.mp (mn_mem (gaps_ne o num))
  rw [← e]
  exact Nat.le_trans (mn_le (mem_gaps.mpr ⟨m, hm, rfl⟩)) (gap_le ne fun p hp => far_le (h p hp))
theorem key_mem {num : Num Str} (nd : (num.map (·.1)).Nodup) {k : Str} (h : k ∈ keysN num) : (k, gvN num k) ∈ num := by
  obtain ⟨n, hm⟩ := mem_key h
  rw [gvN_mem nd hm]
  exact hm
theorem bars_keys {o : List Str} {num : Num Str} (NO : NumOk o num) {s : Nat} {e g : Str} (he : e ∈ keysN num) (hg : g ∈ keysN num) :
    (∀ m, m ≤ o.length → ¬ (far (cnt o m) (e, gvN num e) ≤ s ∧ far (cnt o m) (g, gvN num g) ≤ s)) ↔ (fm o num s e > lm o num s g ∨ fm o num s g > lm o num s e) :=
  bars_iff (NO.le _ (key_mem NO.nd he)) (NO.le _ (key_mem NO.nd hg))
theorem late_early {o : List Str} {num : Num Str} (NO : NumOk o num) (hz : mn (gaps o num) ≠ 0) {e l : Str} (hl : l ∈ keysN num)
    (f1 : ∀ k ∈ keysN num, fm o num (mn (gaps o num) - 1) k ≤ fm o num (mn (gaps o num) - 1) l) (f2 : ∀ k ∈ keysN num, lm o num (mn (gaps o num) - 1) e ≤ lm o num (mn (gaps o num) - 1) k) : fm o num (mn (gaps o num) - 1) l > lm o num (mn (gaps o num) - 1) e := by
  refine Decidable.byContradiction fun z => ?_
  have hle : fm o num (mn (gaps o num) - 1) l ≤ o.length := firstM_le (NO.le _ (key_mem NO.nd hl))
  have : gap o num (fm o num (mn (gaps o num) - 1) l) ≤ mn (gaps o num) - 1 := gap_le NO.ne fun p hp => by
    have hk : p.1 ∈ keysN num := List.mem_map.mpr ⟨p, hp, rfl⟩
    have hg : (p.1, gvN num p.1) = p := by rw [gvN_mem NO.nd (n := p.2) hp]
    have q1 := f1 _ hk
    have q2 := f2 _ hk
    unfold fm at q1 z
    unfold lm at q2 z
    rw [hg] at q1 q2
    exact (within (NO.le p hp) hle).mpr ⟨q1, by unfold fm; omega⟩
  have := mn_le (mem_gaps.mpr ⟨_, hle, rfl⟩ : gap o num (fm o num (mn (gaps o num) - 1) l) ∈ gaps o num)
  omega
/-- two keys' numbers -/
def subN (num : Num Str) (a b : Str) : Num Str := if a = b then [(a, gvN num a)] else [(a, gvN num a), (b, gvN num b)]
theorem subN_merge (num : Num Str) (a b : Str) : mergeK [] [((Sum.inr a : Key), V.int (gvN num a : Nat)), (Sum.inr b, V.int (gvN num b : Nat))] = numK (subN num a b) := by
  unfold subN
  by_cases e : a = b
  · subst e
    rw [if_pos rfl]
    simp [mergeK, putK, numK]
  · rw [if_neg e, merge_nd (by simp [e])]
    rfl
theorem subN_in {num : Num Str} (nd : (num.map (·.1)).Nodup) {a b : Str} (ha : a ∈ keysN num) (hb : b ∈ keysN num) : ∀ p ∈ subN num a b, p ∈ num := fun p hp => by
  unfold subN at hp
  split at hp
  · rw [List.mem_singleton.mp hp]
    exact key_mem nd ha
  · rcases List.mem_cons.mp hp with rfl | hp
    · exact key_mem nd ha
    · rw [List.mem_singleton.mp hp]
      exact key_mem nd hb
theorem subN_ok {o : List Str} {num : Num Str} (NO : NumOk o num) {a b : Str} (ha : a ∈ keysN num) (hb : b ∈ keysN num) : NumOk o (subN num a b) := by
  have hi := subN_in NO.nd ha hb
  refine ⟨?_, ?_, fun p hp => NO.wd p (hi p hp), fun p hp => NO.le p (hi p hp), ?_⟩
  all_goals
    unfold subN
    split
    all_goals simp
  rename_i h
  exact h
/-- a cut whose numbers are not d -/
def CutN (K : PySem.W.Frag) (C : Addr) (H : Hp) (p : Addr) (o : List Str) (num : Num Str) (d : Addr) : Prop := ∃ dx a d' g t, H p = some (.ins C dx (flds a d' g (mn (gaps o num)) (firstAt (gaps o num) (mn (gaps o num))) t)) ∧ SqT K H a (strV o) ∧ H d' = some (.dK (numK num)) ∧ H g = some (.lst (natV (gaps o num))) ∧ Shown H o num t ∧ d' ≠ d
section
variable {K : PySem.W.Frag} {C : Addr} {H H' : Hp} {p d : Addr} {o : List Str} {num : Num Str}
theorem CutN.at_ (h : CutN K C H p o num d) : CutAt K C H p o num := by
  obtain ⟨dx, a, d', g, t, h1, h2, h3, h4, h5, _⟩ := h
  exact ⟨dx, a, d', g, t, h1, h2, h3, h4, h5⟩
theorem CutN.ext (s : LamX.ExtN H H') (h : CutN K C H p o num d) : CutN K C H' p o num d := by
  obtain ⟨dx, a, d', g, t, h1, h2, h3, h4, h5, h6⟩ := h
  exact ⟨dx, a, d', g, t, s _ _ h1 (fun _ e => nomatch e), EX.ExtN.sqt s h2, EX.ExtN.dK s h3, EX.ExtN.lst s h4, h5.ext s, h6⟩
theorem CutN.lock {u : List (Key × V)} {od : Obj} (hd : H d = some (.dK u)) (h : CutN K C H p o num d) : CutAt K C (upd H d (.frz od (.dK u))) p o num := by
  obtain ⟨dx, a, d', g, t, h1, h2, h3, h4, h5, h6⟩ := h
  refine ⟨dx, a, d', g, t, ?_, sqt_lock h2 hd, ?_, ?_, ?_⟩
  · rw [upd_ne (fun z => by rw [z, hd] at h1; cases h1)]
    exact h1
  · rw [upd_ne h6]
    exact h3
  · rw [upd_ne (fun z => by rw [z, hd] at h4; cases h4)]
    exact h4
  · unfold Shown at *
    split
    · rename_i z
      rw [if_pos z] at h5
      obtain ⟨q, e, hq⟩ := h5
      exact ⟨q, e, by rw [upd_ne (fun z => by rw [z, hd] at hq; cases hq)]; exact hq⟩
    · rename_i z
      rw [if_neg z] at h5
      exact h5
end
section
variable {K : PySem.W.Frag}
/-- a cut is made -/
theorem mk_cut {C : Addr} {H : Hp} {a d : Addr} {o : List Str} {num : Num Str} {E : XK} {Q : Addr → Hp → Prop} (ha : SqE K H a (strV o)) (hw : ∀ s ∈ o, isW s = true) (hlo : o.length ≤ 5000) (hd : H d = some (.dK (numK num))) (NO : NumOk o num)
    (k : ∀ x H', H x = none → Same H H' → CutN K C H' x o num d → Q x H') : ∀ x dx, H x = none → H dx = none → dx ≠ x → spCut K C (.ref x :: ([.ref a, .ref d] ++ [])) (upd (upd H dx (.own x)) x (.ins C dx [])) (fun v H2 => v = .non ∧ Q x H2) E := fun x dy hx hy nxy => by
  have s4 : Same H (upd (upd H dy (.own x)) x (.ins C dy [])) := Same.trans (Same.upd hy) (Same.upd (by rw [upd_ne (Ne.symm nxy)]; exact hx))
  have lx : upd (upd H dy (.own x)) x (HO.ins C dy []) x = some (.ins C dy []) := upd_same
  generalize upd (upd H dy (.own x)) x (HO.ins C dy []) = H4 at s4 lx ⊢
  refine ⟨x, a, d, dy, o, num, rfl, lx, ha.elim (fun z => .inl (s4.seq z)) (fun z => .inr (sqt_same s4 z)), hw, hlo, s4 _ _ hd, NO, fun H5 K5 CA cn => ⟨rfl, ?_⟩⟩
  obtain ⟨dx, a, d', g, t, h1, h2, h3, h4, h5⟩ := CA.ex
  refine k x H5 hx ((Keeps.trans (S := [x]) (Keeps.of s4) K5).same fun z hz => by rw [List.mem_singleton.mp hz]; exact hx) ⟨dx, a, d', g, t, h1, h2, h3, h4, h5, fun z => ?_⟩
  have := cn _ _ _ _ _ h1
  rw [z, s4 _ _ hd] at this
  cases this
end
/-- _law_right(order, numbers) -/
def spLR (T : List (Addr × Str)) : Sp := fun vs H Q _ => ∃ (l d : Addr) (o : List Str) (num : Num Str), vs = [.ref l, .ref d] ∧ H l = some (.lst (strV o)) ∧ o.length ≤ 1000 ∧ (∀ s ∈ o, isW s = true) ∧ H d = some (.dK (numK num)) ∧ NumOk o num ∧ LamX.Tabs T H ∧ ∀ H', LamX.ExtN H H' → LamX.Tabs T H' → Q (.bl true) H'
abbrev sRi : Stmt := top 28
def sRiN : List Str := ["_law_order_here", "_law_numbers_here", "_law_cut", "_law_gaps", "_law_least", "_law_seen", "_law_due", "_law_found", "_law_one", "_law_other", "_law_moment"]
theorem scRi : FnScope ["_law_order_here", "_law_numbers_here", "_law_cut", "_law_gaps", "_law_least", "_law_seen", "_law_due", "_law_found", "_law_one", "_law_other", "_law_moment"] ["_law_order_here", "_law_numbers_here"] (defScope sRi) := ⟨rfl, rfl, rfl, by decide +kernel, rfl, by decide +kernel, by decide +kernel⟩
section
variable {P : Program} {w : World} {K : PySem.W.Frag} {mg : Str → Option Value} {base : Heap}
open LamX
theorem ok_lr {C Pt : Addr} {f : Addr} {fd : FuncData} (F : Fun K "_law_right" "_law_right" sRi f fd) (B : Bn mg) (T : CutC K C) (MC : MkAt P w K mg base CX0 3 "Cut" ["self", "order", "numbers"] C (spCut K C)) (GSp : PrAt P w K mg base 1 C "spread" ["self"] (spSpread K C)) (GNe : PrAt P w K mg base 1 C "nearest" ["self"] (spNear K C)) (GSe : PrAt P w K mg base 1 C "seen" ["self"] (spSeen K C))
    (GG : DefAt P w K mg base 1 "_law_gap" ["_law_order_here", "_law_numbers_here", "_law_moment"] (spLG K)) (GBa : DefAt P w K mg base 1 "_law_bars" ["_law_order_here", "_law_numbers_here", "_law_pair", "_law_slack"] (spLB K)) (GCb : DefAt P w K mg base 3 "check_bar" ["cut", "obj"] (spCb K C)) (GFb : DefG P w K mg base 4 "find_bar" ["cut"] (spFb K C [(Pt, qFb)])) :
    FnG P w K mg base CX0 5 f fd ["_law_order_here", "_law_numbers_here"] (spLR [(Pt, qFb)]) := by
  refine okG F scRi (fun vs H Q E h => ?_) (fun cdv A outer s H vs Q E hgu hr h => ?_)
  · obtain ⟨l, d, o, num, rfl, _⟩ := h
    rfl
  · obtain ⟨l, d, o, num, rfl, hl, hlo, hw, hd, NO, hT, k⟩ := h
    have hu := hu_of hr
    have hu64 : _ + 64 < cLine := hr.units
    have hgl := gaps_len o num
    refine ⟨_, PSs.nox (pss_cons (ps_set (i := 2) scRi.nd rfl (Or.inl rfl) (pe_mkC MC (hr.mono (by decide)) (pa_cons (pv 0) (pa_cons (pv 1) pa_nil))))
        (pss_cons (ps_set (i := 3) scRi.nd rfl (Or.inr rfl) (pe_lc (own := [("_law_moment", 10)]) (g := (gName 10)) (tt := tYes) (te := (tCall (spLG K) [] E0 (tCons (tVar 0) (tCons (tVar 1) (tCons (tVar 10) tNil))))) rfl scRi.nd (pi_range1 (by rfl) B.range (pa_cons (pe_op op_add (pe_callB call_len_seq (by rfl) B.len PySem.boot_len (pa_cons (pv 0) pa_nil)) pe_int) pa_nil)) (blkOk_by (N := sRiN) (sc := defScope sRi) (by decide +kernel)) (fun _ _ _ _ _ => (pg_name (i := 10) scRi.nd rfl (Or.inl rfl))) (fun _ _ _ _ _ => pts_nil) (fun _ _ _ _ _ => (pe_callD GG (hr.mono (by decide)) (pa_cons (pv 0) (pa_cons (pv 1) (pa_cons (pv 10) pa_nil)))))))
        (pss_cons (ps_set (i := 4) scRi.nd rfl (Or.inl rfl) (pe_callB (cr_min rfl) (by rfl) B.min PyProof.Rows.boot_min (pa_cons (pv 3) pa_nil)))
        (pss_cons (ps_setLc (i := 5) (own := [("_law_moment", 10)]) (g := (gName 10)) (tt := (tTest (tOp rEq (tOp (rIxL K) (tVar 3) (tVar 10)) (tC (.int 0))))) (te := (tVar 10)) rfl scRi.nd rfl rfl (sw_true rfl rfl rfl (by decide +kernel)) (pi_range1 (by rfl) B.range (pa_cons (pe_callB call_len_seq (by rfl) B.len PySem.boot_len (pa_cons (pv 3) pa_nil)) pa_nil)) (blkOk_by (N := sRiN) (sc := defScope sRi) (by decide +kernel)) (fun _ _ _ _ _ => (pg_name (i := 10) scRi.nd rfl (Or.inl rfl))) (fun _ _ _ _ _ => (pts_one (pt_cmpR op_eq (pe_ix ix_list (pv 3) (pv 10) (fun _ _ => rfl)) pe_int (nomark _)))) (fun _ _ _ _ _ => (pv 10)))
        (pss_cons (ps_set (i := 6) scRi.nd rfl (Or.inl rfl) (pe_ifExp (pt_cmpR (op_eqD hu64) (pv 5) (pe_lst pa_nil) (nomark _)) pe_non (pe_tup (pa_cons (pe_ix ix_list (pv 5) pe_int (fun _ _ => rfl)) (pa_cons (pe_ix ix_list (pv 5) (pe_un un_neg pe_int) (fun _ _ => rfl)) pa_nil)))))
        (pss_cons (ps_if (pt_cmpR (op_neD hu64) (pe_lst (pa_cons (pe_prD GSp (hr.mono (by decide)) (pv 2)) (pa_cons (pe_prD GNe (hr.mono (by decide)) (pv 2)) (pa_cons (pe_prD GSe (hr.mono (by decide)) (pv 2)) pa_nil)))) (pe_lst (pa_cons (pv 4) (pa_cons (pe_bm PySem.F.plainAttrs_list PySem.F.slot_list_index PySem.F.type_list_index mt_index (pv 3) (pa_cons (pv 4) pa_nil)) (pa_cons (pv 6) pa_nil)))) (nomark _)) (pss_one (ps_ret pe_bl)) pss_nil)
        (pss_cons (ps_set (i := 7) scRi.nd rfl (Or.inl rfl) (pe_callG GFb (hr.mono (by decide)) hgu (pa_cons (pv 2) pa_nil)))
        (pss_cons (ps_if (pt_cmpR op_eq (pv 4) pe_int (nomark _)) (pss_one (ps_ret (pe_and (pe_cmp (pc_isN (pv 7))) (pe_and (pe_cmpR op_is_bl (pe_callD GCb (hr.mono (by decide)) (pa_cons (pv 2) (pa_cons pe_non pa_nil))) pe_bl (nomark _)) (pe_one (pe_cmpR op_is_bl (pe_callD GCb (hr.mono (by decide)) (pa_cons (pv 2) (pa_cons (pe_tup (pa_cons pe_str (pa_cons pe_str pa_nil))) pa_nil))) pe_bl (nomark _))))))) pss_nil)
        (pss_cons (ps_if (PW.pt (pw_or (pt_not (pt_val (pe_callB call_isi (by rfl) B.isi PyProof.Rows.boot_isinstance (pa_cons (pv 7) (pa_cons (pe_bltn (v := .ty "tuple") (by rfl) B.tuple (by decide +kernel) rfl) pa_nil))))) (pw_or (pt_cmpR op_ne (pe_callB call_len_seq (by rfl) B.len PySem.boot_len (pa_cons (pv 7) pa_nil)) pe_int (nomark _)) (pw_or1 (pt_not (pt_val (pe_callD GBa (hr.mono (by decide)) (pa_cons (pv 0) (pa_cons (pv 1) (pa_cons (pv 7) (pa_cons (pe_op op_sub (pv 4) pe_int) pa_nil))))))))))) (pss_one (ps_ret pe_bl)) pss_nil)
        (pss_cons (ps_if (PW.pt (pw_or (pt_val (pe_callD GCb (hr.mono (by decide)) (pa_cons (pv 2) (pa_cons pe_non pa_nil)))) (pw_or1 (pt_cmpR op_isnot_bl (pe_callD GCb (hr.mono (by decide)) (pa_cons (pv 2) (pa_cons (pv 7) pa_nil))) pe_bl (nomark _))))) (pss_one (ps_ret pe_bl)) pss_nil)
        (pss_cons (ps_lock (ps_for PassesOwn.never rfl (pi_keys (pv 1)) (pg_name (i := 8) scRi.nd rfl (Or.inl rfl)) (pss_one (ps_for PassesOwn.never rfl (pi_keys (pv 1)) (pg_name (i := 9) scRi.nd rfl (Or.inl rfl)) (pss_cons (ps_if (pt_cmpR op_ne (pe_callD GCb (hr.mono (by decide)) (pa_cons (pv 2) (pa_cons (pe_tup (pa_cons (pv 8) (pa_cons (pv 9) pa_nil))) pa_nil))) (pe_and (pe_cmpR op_ne (pv 8) (pv 9) (nomark _)) (pe_one (pe_callD GBa (hr.mono (by decide)) (pa_cons (pv 0) (pa_cons (pv 1) (pa_cons (pe_tup (pa_cons (pv 8) (pa_cons (pv 9) pa_nil))) (pa_cons (pe_op op_sub (pv 4) pe_int) pa_nil))))))) (nomark _)) (pss_one (ps_ret pe_bl)) pss_nil)
        (pss_one (ps_if (pt_cmpR op_gt (pe_prD GSp (hr.mono (by decide)) (pe_mkC MC (hr.mono (by decide)) (pa_cons (pv 0) (pa_cons (pe_disp (pps_cons (pv 8) (pe_dget hu (pv 1) (pv 8) (fun _ _ => rfl)) (pps_cons (pv 9) (pe_dget hu (pv 1) (pv 9) (fun _ _ => rfl)) pps_nil)) rfl rfl (by simp) (by decide)) pa_nil)))) (pv 4) (nomark _)) (pss_one (ps_ret pe_bl)) pss_nil)))))))
        (pss_one (ps_ret pe_bl))))))))))))), ?_⟩
    -- the cut
    refine ⟨_, rfl, _, rfl, ?_⟩
    refine mk_cut (K := K) (.inl (SqL.of hl)) hw (by omega) hd NO fun p H1 hp S1 CN => ?_
    have hl1 := S1 _ _ hl
    have hd1 := S1 _ _ hd
    clear hp
    -- the gaps
    refine ⟨_, rfl, l, _, rfl, .inl (SqL.of hl1), _, _, rfl, rfl, o.length + 1, by rw [show (strV o).length = o.length from List.length_map _], by omega, by omega, fun pg hpg => ?_⟩
    refine lc_range (fun i H' => Same H1 H' ∧ H' pg = some (.lst (natV ((List.range i).map (gap o num))))) ⟨Same.upd hpg, upd_same⟩ ?_ ?_
    · rintro i H' hi ⟨S, lD⟩
      refine ⟨rfl, _, rfl, _, rfl, _, rfl, l, d, o, num, i, by rw [show (0 : Int) + (i : Int) = ((i : Nat) : Int) by omega]; rfl, SqL.of (S _ _ hl1), S _ _ hd1, NO.nd, NO.ne, NO.sz, fun H2 S2 => ?_⟩
      refine ⟨_, S2 _ _ lD, by rw [List.length_map, List.length_map, List.length_range, sizeLine_eq]; omega, EX.Same.updN (Same.trans S S2) hpg, ?_⟩
      rw [upd_same, List.range_succ, List.map_append]
      unfold natV
      rw [List.map_append]
      rfl
    rintro H2 ⟨S2, lG⟩
    have lG : H2 pg = some (.lst (natV (gaps o num))) := lG
    have CN := CN.ext (ExtN.of S2)
    have S02 := Same.trans S1 S2
    clear S1 S2 hl1 hd1 hpg
    -- the least
    refine ⟨_, rfl, pg, (gaps o num).map fun (n : Nat) => (n : Int), rfl, SqL.of (by rw [lG, natI]), by rw [List.length_map, hgl]; omega, fun m hm hmin => ?_⟩
    obtain ⟨m0, hm0, rfl⟩ := List.mem_map.mp hm
    have hmn : mn (gaps o num) = m0 := mn_eq hm0 fun x hx => by
      have := hmin _ (List.mem_map.mpr ⟨x, hx, rfl⟩)
      omega
    rw [← hmn]
    clear hmin hm hmn hm0 m0
    -- the moments seen
    refine ⟨_, rfl, pg, _, rfl, .inl (SqL.of lG), (gaps o num).length, by rw [show (natV (gaps o num)).length = (gaps o num).length from List.length_map _], by omega, by omega, fun ps hps => ?_⟩
    refine lc_range (fun i H' => Same H2 H' ∧ H' ps = some (.lst (natV (idxs (gaps o num) 0 i)))) ⟨Same.upd hps, upd_same⟩ ?_ ?_
    · rintro i H' hi ⟨S, lD⟩
      obtain ⟨n, hn⟩ : ∃ n, (gaps o num)[i]? = some n := ⟨_, List.getElem?_eq_getElem hi⟩
      rw [show (0 : Int) + (i : Int) = ((i : Nat) : Int) by omega]
      refine ⟨rfl, _, rfl, _, rfl, pg, _, _, _, rfl, rfl, SqL.of (S _ _ lG), atI_nat (natV_get hn), rfl, _, rfl, ite2 (fun z => ?_) (fun z => ?_)⟩
      · have z : n = 0 := by
          have := V.int.inj (of_decide_eq_true z)
          omega
        refine ⟨_, rfl, _, lD, by have := idxs_le (gaps o num) 0 i; rw [List.length_map, sizeLine_eq]; omega, EX.Same.updN S hps, ?_⟩
        rw [upd_same, idxs_succ hn, if_pos z]
        unfold natV
        rw [List.map_append]
        rfl
      · have z : ¬ n = 0 := fun e => z (decide_eq_true (by rw [e]; rfl))
        refine ⟨S, ?_⟩
        rw [lD, idxs_succ hn, if_neg z, List.append_nil]
    rintro H3 ⟨S3, lS⟩
    have lS : H3 ps = some (.lst (natV (idxs (gaps o num) 0 (gaps o num).length))) := lS
    have lG3 := S3 _ _ lG
    have CN := CN.ext (ExtN.of S3)
    have S03 := Same.trans S02 S3
    clear S02 S3 hps lG
    obtain ⟨hf1, hf2⟩ := first_idx (mn_mem (gaps_ne o num))
    have flat : (natV (gaps o num)).all flatV = true := by
      unfold natV
      rw [List.all_map]
      exact List.all_eq_true.mpr fun _ _ => rfl
    -- none, or the outer two
    refine ⟨_, rfl, Nat.zero_le _, fun q0 hq0 => ?_⟩
    have s4 : Same H3 (upd H3 q0 (.lst [])) := Same.upd hq0
    have l4 : upd H3 q0 (HO.lst []) q0 = some (.lst []) := upd_same
    generalize upd H3 q0 (HO.lst []) = H4 at s4 l4 ⊢
    have lS4 := s4 _ _ lS
    have lG4 := s4 _ _ lG3
    have CN := CN.ext (ExtN.of s4)
    have S04 := Same.trans S03 s4
    clear S03 s4 hq0 lS lG3
    refine ⟨.list ((idxs (gaps o num) 0 (gaps o num).length).map fun (n : Nat) => PyData.int (n : Int)), .list [], .lst (SqL.of lS4) (by unfold natV; rw [show ((idxs (gaps o num) 0 (gaps o num).length).map fun (n : Nat) => PyData.int (n : Int)) = ((idxs (gaps o num) 0 (gaps o num).length).map fun (n : Nat) => (n : Int)).map PyData.int by rw [List.map_map]; rfl, show ((idxs (gaps o num) 0 (gaps o num).length).map fun (n : Nat) => V.int (n : Int)) = ((idxs (gaps o num) 0 (gaps o num).length).map fun (n : Nat) => (n : Int)).map V.int by rw [List.map_map]; rfl]; exact dpAll_ints _), .lst (SqL.of l4) .nil, by rw [show ((idxs (gaps o num) 0 (gaps o num).length).map fun (n : Nat) => PyData.int (n : Int)) = ((idxs (gaps o num) 0 (gaps o num).length).map fun (n : Nat) => (n : Int)).map PyData.int by rw [List.map_map]; rfl]; exact shaped_ints _, rfl, _, rfl, ?_⟩
    obtain ⟨dx, ap, d', g, t, h1, ht, h3, h5, h6⟩ := CN.at_.ex
    have prl : ∀ {q}, H4 q = none → Same H4 (upd H4 q (.lst [.int (mn (gaps o num) : Nat), .int (firstAt (gaps o num) (mn (gaps o num)) : Nat), t])) := fun hq => Same.upd hq
    by_cases hz : mn (gaps o num) = 0
    · -- seen
      obtain ⟨it, hit, hla⟩ := idxs_cons (l := gaps o num) (m := 0) (hz ▸ mn_mem (gaps_ne o num))
      rw [hit] at lS4 hla ⊢
      refine ifF (by rfl) ?_
      have h2 : (natV (firstAt (gaps o num) 0 :: it)).getLast? = some (.int (lastAt (gaps o num) 0 : Nat)) := by
        unfold natV
        rw [List.getLast?_map, hla]
        rfl
      refine ⟨_, rfl, ps, _, _, _, rfl, rfl, SqL.of lS4, atI_nat (j := 0) rfl, _, rfl, _, rfl, ps, _, _, _, rfl, rfl, SqL.of lS4, atI_last h2, by show 2 ≤ sizeLine; decide, fun td htd => ?_⟩
      have s5 : Same H4 (upd H4 td (.tup [.int (firstAt (gaps o num) 0 : Nat), .int (lastAt (gaps o num) 0 : Nat)])) := Same.upd htd
      have l5 : upd H4 td (HO.tup [.int (firstAt (gaps o num) 0 : Nat), .int (lastAt (gaps o num) 0 : Nat)]) td = some (.tup [.int (firstAt (gaps o num) 0 : Nat), .int (lastAt (gaps o num) 0 : Nat)]) := upd_same
      generalize upd H4 td (HO.tup [.int (firstAt (gaps o num) 0 : Nat), .int (lastAt (gaps o num) 0 : Nat)]) = H5 at s5 l5 ⊢
      have CN := CN.ext (ExtN.of s5)
      have S05 := Same.trans S04 s5
      have lG5 := s5 _ _ lG4
      have h15 := s5 _ _ h1
      clear prl h1 h6 ht h3 h5
      refine ⟨_, rfl, p, dx, _, rfl, h15, p, o, num, rfl, CN.at_, _, rfl, p, dx, _, rfl, h15, p, o, num, rfl, CN.at_, _, rfl, p, dx, _, rfl, h15, p, o, num, rfl, CN.at_, fun t ht => ⟨by show 3 ≤ sizeLine; decide, fun q1 hq1 => ?_⟩⟩
      unfold Shown at ht
      rw [if_pos hz] at ht
      obtain ⟨tq, rfl, htq⟩ := ht
      have s6 : Same H5 (upd H5 q1 (.lst [.int (mn (gaps o num) : Nat), .int (firstAt (gaps o num) (mn (gaps o num)) : Nat), .ref tq])) := Same.upd hq1
      have l6 : upd H5 q1 (HO.lst [.int (mn (gaps o num) : Nat), .int (firstAt (gaps o num) (mn (gaps o num)) : Nat), .ref tq]) q1 = some (.lst [.int (mn (gaps o num) : Nat), .int (firstAt (gaps o num) (mn (gaps o num)) : Nat), .ref tq]) := upd_same
      generalize upd H5 q1 (HO.lst [.int (mn (gaps o num) : Nat), .int (firstAt (gaps o num) (mn (gaps o num)) : Nat), .ref tq]) = H6 at s6 l6 ⊢
      refine ⟨_, rfl, _, rfl, .inl ⟨rfl, _, SqL.of (s6 _ _ lG5)⟩, _, rfl, pg, natV (gaps o num), .int (mn (gaps o num) : Nat), firstAt (gaps o num) (mn (gaps o num)), .int (mn (gaps o num) : Nat), rfl, rfl, SqL.of (s6 _ _ lG5), rfl, flat, natV_get hf1, by show ((_ : Int) == _) = true; simp, fun m z' hm hm' => ?_, _, rfl, by show 3 ≤ sizeLine; decide, fun q2 hq2 => ?_⟩
      · obtain ⟨n, hn⟩ : ∃ n, (gaps o num)[m]? = some n := ⟨_, List.getElem?_eq_getElem (by have := (List.getElem?_eq_some_iff.mp hf1).1; omega)⟩
        obtain rfl : z' = .int (n : Nat) := Option.some.inj (hm'.symm.trans (natV_get hn))
        have := hf2 m hm
        rw [hn] at this
        show ((n : Int) == _) = false
        rw [beq_eq_false_iff_ne]
        exact fun e => this (congrArg some (by omega))
      have s7 : Same H6 (upd H6 q2 (.lst [.int (mn (gaps o num) : Nat), .int (firstAt (gaps o num) (mn (gaps o num)) : Nat), .ref td])) := Same.upd hq2
      have l7 : upd H6 q2 (HO.lst [.int (mn (gaps o num) : Nat), .int (firstAt (gaps o num) (mn (gaps o num)) : Nat), .ref td]) q2 = some (.lst [.int (mn (gaps o num) : Nat), .int (firstAt (gaps o num) (mn (gaps o num)) : Nat), .ref td]) := upd_same
      generalize upd H6 q2 (HO.lst [.int (mn (gaps o num) : Nat), .int (firstAt (gaps o num) (mn (gaps o num)) : Nat), .ref td]) = H7 at s7 l7 ⊢
      have S57 := Same.trans s6 s7
      refine ⟨.list [.int (mn (gaps o num) : Nat), .int (firstAt (gaps o num) (mn (gaps o num)) : Nat), .tuple [.int (firstAt (gaps o num) 0 : Nat), .int (lastAt (gaps o num) 0 : Nat)]], .list [.int (mn (gaps o num) : Nat), .int (firstAt (gaps o num) (mn (gaps o num)) : Nat), .tuple [.int (firstAt (gaps o num) 0 : Nat), .int (lastAt (gaps o num) 0 : Nat)]],
        .lst (SqL.of (s7 _ _ l6)) (.cons (.int _) (.cons (.int _) (.cons (.tup (SqT.of (S57 _ _ htq)) (.cons (.int _) (.cons (.int _) .nil))) .nil))), .lst (SqL.of l7) (.cons (.int _) (.cons (.int _) (.cons (.tup (SqT.of (S57 _ _ l5)) (.cons (.int _) (.cons (.int _) .nil))) .nil))), shaped_tt .., shaped_tt .., _, rfl, ifF (by rw [eqv_tt]; rfl) ?_⟩
      have CN := CN.ext (ExtN.of S57)
      have S07 := Same.trans S05 S57
      refine ⟨_, rfl, p, o, num, rfl, CN.at_, NO, by omega, hT.ext S07, fun _ => ?_, fun z => absurd hz z⟩
      refine ⟨_, rfl, rfl, _, rfl, ifT (decide_eq_true (by rw [hz]; rfl)) ?_⟩
      refine ⟨_, rfl, true, rfl, iteT ?_⟩
      refine ⟨_, rfl, p, .non, o, num, rfl, CN.at_, NO, by omega, .inl ⟨hz, ?_⟩⟩
      refine ⟨_, _, rfl, rfl, true, rfl, iteT ?_⟩
      refine ⟨_, rfl, by show 2 ≤ sizeLine; decide, fun t2 ht2 => ?_⟩
      refine ⟨p, .ref t2, o, num, rfl, CN.at_.mono (Same.upd ht2), NO, by omega, .inl ⟨hz, ?_⟩⟩
      refine ⟨_, _, rfl, rfl, ?_⟩
      exact k _ (ExtN.of (Same.trans S07 (Same.upd ht2))) (hT.ext (Same.trans S07 (Same.upd ht2)))
    · -- not seen
      have hn0 : (0 : Nat) ∉ gaps o num := fun z => hz (by have := mn_le z; omega)
      rw [idxs_nil hn0] at lS4 ⊢
      refine ifT (by rfl) ?_
      have h15 := h1
      have lG5 := lG4
      have S05 := S04
      clear prl h1 h6 ht h3 h5 S04
      refine ⟨_, rfl, p, dx, _, rfl, h15, p, o, num, rfl, CN.at_, _, rfl, p, dx, _, rfl, h15, p, o, num, rfl, CN.at_, _, rfl, p, dx, _, rfl, h15, p, o, num, rfl, CN.at_, fun t ht => ⟨by show 3 ≤ sizeLine; decide, fun q1 hq1 => ?_⟩⟩
      unfold Shown at ht
      rw [if_neg hz] at ht
      subst ht
      have s6 : Same H4 (upd H4 q1 (.lst [.int (mn (gaps o num) : Nat), .int (firstAt (gaps o num) (mn (gaps o num)) : Nat), .non])) := Same.upd hq1
      have l6 : upd H4 q1 (HO.lst [.int (mn (gaps o num) : Nat), .int (firstAt (gaps o num) (mn (gaps o num)) : Nat), .non]) q1 = some (.lst [.int (mn (gaps o num) : Nat), .int (firstAt (gaps o num) (mn (gaps o num)) : Nat), .non]) := upd_same
      generalize upd H4 q1 (HO.lst [.int (mn (gaps o num) : Nat), .int (firstAt (gaps o num) (mn (gaps o num)) : Nat), .non]) = H6 at s6 l6 ⊢
      refine ⟨_, rfl, _, rfl, .inl ⟨rfl, _, SqL.of (s6 _ _ lG5)⟩, _, rfl, pg, natV (gaps o num), .int (mn (gaps o num) : Nat), firstAt (gaps o num) (mn (gaps o num)), .int (mn (gaps o num) : Nat), rfl, rfl, SqL.of (s6 _ _ lG5), rfl, flat, natV_get hf1, by show ((_ : Int) == _) = true; simp, fun m z' hm hm' => ?_, _, rfl, by show 3 ≤ sizeLine; decide, fun q2 hq2 => ?_⟩
      · obtain ⟨n, hn⟩ : ∃ n, (gaps o num)[m]? = some n := ⟨_, List.getElem?_eq_getElem (by have := (List.getElem?_eq_some_iff.mp hf1).1; omega)⟩
        obtain rfl : z' = .int (n : Nat) := Option.some.inj (hm'.symm.trans (natV_get hn))
        have := hf2 m hm
        rw [hn] at this
        show ((n : Int) == _) = false
        rw [beq_eq_false_iff_ne]
        exact fun e => this (congrArg some (by omega))
      have s7 : Same H6 (upd H6 q2 (.lst [.int (mn (gaps o num) : Nat), .int (firstAt (gaps o num) (mn (gaps o num)) : Nat), .non])) := Same.upd hq2
      have l7 : upd H6 q2 (HO.lst [.int (mn (gaps o num) : Nat), .int (firstAt (gaps o num) (mn (gaps o num)) : Nat), .non]) q2 = some (.lst [.int (mn (gaps o num) : Nat), .int (firstAt (gaps o num) (mn (gaps o num)) : Nat), .non]) := upd_same
      generalize upd H6 q2 (HO.lst [.int (mn (gaps o num) : Nat), .int (firstAt (gaps o num) (mn (gaps o num)) : Nat), .non]) = H7 at s7 l7 ⊢
      have S57 := Same.trans s6 s7
      refine ⟨.list [.int (mn (gaps o num) : Nat), .int (firstAt (gaps o num) (mn (gaps o num)) : Nat), .none], .list [.int (mn (gaps o num) : Nat), .int (firstAt (gaps o num) (mn (gaps o num)) : Nat), .none],
        .lst (SqL.of (s7 _ _ l6)) (.cons (.int _) (.cons (.int _) (.cons .non .nil))), .lst (SqL.of l7) (.cons (.int _) (.cons (.int _) (.cons .non .nil))), shaped_tn .., shaped_tn .., _, rfl, ifF (by rw [eqv_tn]; rfl) ?_⟩
      have CN := CN.ext (ExtN.of S57)
      have S07 := Same.trans S05 S57
      clear S57 s6 s7 l6 l7 lG5 S05 lS4 lG4 l4 hf1 hf2 flat h15
      refine ⟨_, rfl, p, o, num, rfl, CN.at_, NO, by omega, hT.ext S07, fun z => absurd z hz, fun _ tf e g H8 X8 T8 lt he hg f1 f2 => ?_⟩
      have X08 : ExtN H H8 := ExtN.trans (ExtN.of S07) X8
      have CN := CN.ext X8
      have hl8 : H8 l = some (.lst (strV o)) := ExtN.lst X08 hl
      have hd8 : H8 d = some (.dK (numK num)) := ExtN.dK X08 hd
      have hle := late_early NO hz hg f1 f2
      have hm1 : ((mn (gaps o num) : Nat) : Int) - 1 = ((mn (gaps o num) - 1 : Nat) : Int) := by omega
      clear X8 S07 f1 f2
      refine ⟨_, rfl, rfl, _, rfl, ifF (decide_eq_false fun z => hz (by have := V.int.inj z; omega)) ?_⟩
      refine ⟨_, rfl, _, _, _, _, true, rfl, .ty _, tyx_tup (SqT.of lt), kit_ty (by decide +kernel), _, rfl, iteF ?_⟩
      refine ⟨_, rfl, tf, _, rfl, .inr (SqT.of lt), rfl, _, rfl, iteF ?_⟩
      refine ⟨_, rfl, _, rfl, _, rfl, _, rfl, _, _, rfl, rfl, l, d, tf, o, num, e, g, mn (gaps o num) - 1, by rw [← hm1]; rfl, SqL.of hl8, hlo, .inl hd8, NO.nd, SqT.of lt, he, hg, fun b H9 hb S9 => ?_⟩
      obtain rfl : b = true := hb.mpr ((bars_keys NO he hg).mpr (.inr hle))
      refine ⟨_, rfl, iteF ?_⟩
      have CN := CN.ext (ExtN.of S9)
      refine ⟨_, rfl, p, .non, o, num, rfl, CN.at_, NO, by omega, .inr ⟨hz, .inl ⟨rfl, ?_⟩⟩⟩
      refine ⟨_, rfl, iteF ?_⟩
      refine ⟨_, rfl, _, rfl, p, .ref tf, o, num, rfl, CN.at_, NO, by omega, .inr ⟨hz, .inr ⟨tf, e, g, rfl, SqT.of (S9 _ _ lt), he, hg, fun b H10 hb S10 => ?_⟩⟩⟩
      obtain rfl : b = true := hb.mpr (.inr hle)
      refine ⟨_, _, rfl, rfl, _, rfl, iteF ?_⟩
      have CN := CN.ext (ExtN.of S10)
      have S8 := Same.trans S9 S10
      have hl10 := S8 _ _ hl8
      have hd10 := S8 _ _ hd8
      have X := ExtN.trans X08 (ExtN.of S8)
      have T10 := T8.ext S8
      clear S9 S10 S8 X08 T8 hd8 hl8 hb lt
      -- all pairs
      refine ⟨d, .dK (numK num), hd10, trivial, fun od => ?_⟩
      have ld0 : upd H10 d (.frz od (.dK (numK num))) d = some (.frz od (.dK (numK num))) := upd_same
      have ll0 : upd H10 d (HO.frz od (.dK (numK num))) l = some (.lst (strV o)) := by rw [upd_ne (fun z => by rw [z, hd10] at hl10; cases hl10)]; exact hl10
      have CA0 := CN.lock (od := od) hd10
      have bk : ∀ H2, Same (upd H10 d (.frz od (.dK (numK num)))) H2 → Same H10 (upd H2 d (.dK (numK num))) := fun H2 z => lock_same hd10 z
      generalize upd H10 d (.frz od (.dK (numK num))) = L at ld0 ll0 CA0 bk ⊢
      refine ⟨_, rfl, d, od, rfl, .inl ⟨numK num, ld0, ?_⟩⟩
      refine for_it (walk_keys (d := d) (o := od) (kvs := numK num)) (fun i σ H' => ∃ v8 v9, σ = [some (.ref l), some (.ref d), some (.ref p), some (.ref pg), some (.int (mn (gaps o num) : Nat)), some (.ref ps), some .non, some (.ref tf), v8, v9, none] ∧ Same L H') ⟨_, _, rfl, Same.refl _⟩ ?_ ?_ ?_
      · rintro i σ H' _ ⟨v8, v9, rfl, S⟩
        exact S _ _ ld0
      · rintro i x σ H0 H' hi ⟨v8, v9, rfl, S⟩ ⟨rfl, kk, vv, hg1, rfl⟩
        obtain ⟨one, n1, rfl, rfl, hn1⟩ := numK_get hg1
        have h1 : one ∈ keysN num := List.mem_map.mpr ⟨_, List.mem_of_getElem? hn1, rfl⟩
        refine ⟨_, rfl, d, od, rfl, .inl ⟨numK num, S _ _ ld0, ?_⟩⟩
        refine for_it (walk_keys (d := d) (o := od) (kvs := numK num)) (fun i σ H' => ∃ v9, σ = [some (.ref l), some (.ref d), some (.ref p), some (.ref pg), some (.int (mn (gaps o num) : Nat)), some (.ref ps), some .non, some (.ref tf), some (.str one), v9, none] ∧ Same L H') ⟨_, rfl, S⟩ ?_ ?_ ?_
        · rintro i σ H' _ ⟨v9, rfl, S⟩
          exact S _ _ ld0
        · rintro j x σ H0 H' hi ⟨v9, rfl, S⟩ ⟨rfl, kk, vv, hg2, rfl⟩
          obtain ⟨oth, n2, rfl, rfl, hn2⟩ := numK_get hg2
          have h2 : oth ∈ keysN num := List.mem_map.mpr ⟨_, List.mem_of_getElem? hn2, rfl⟩
          refine ⟨_, rfl, _, rfl, _, rfl, by show 2 ≤ sizeLine; decide, fun t1 ht1 => ?_⟩
          have s1 : Same H' (upd H' t1 (.tup [.str one, kV (Sum.inr oth)])) := Same.upd ht1
          have l1 : upd H' t1 (HO.tup [.str one, kV (Sum.inr oth)]) t1 = some (.tup [.str one, .str oth]) := upd_same
          generalize upd H' t1 (HO.tup [.str one, kV (Sum.inr oth)]) = H11 at s1 l1 ⊢
          have S := Same.trans S s1
          refine ⟨p, .ref t1, o, num, rfl, CA0.mono S, NO, by omega, .inr ⟨hz, .inr ⟨t1, one, oth, rfl, SqT.of l1, h1, h2, fun b H12 hb S12 => ?_⟩⟩⟩
          have S := Same.trans S S12
          have dgo : ∀ {Hz : Hp}, Same L Hz → DGet Hz d (.str one) (some (.int (gvN num one : Nat))) := fun {Hz} z => .inl ⟨numK num, Sum.inr one, .inr ⟨od, z _ _ ld0⟩, rfl, (numK_gv NO.nd h1).symm⟩
          have dgt : ∀ {Hz : Hp}, Same L Hz → DGet Hz d (.str oth) (some (.int (gvN num oth : Nat))) := fun {Hz} z => .inl ⟨numK num, Sum.inr oth, .inr ⟨od, z _ _ ld0⟩, rfl, (numK_gv NO.nd h2).symm⟩
          refine ⟨_, rfl, _, rfl, rfl, ?_⟩
          by_cases hoo : one = oth
          · obtain rfl : b = false := by
              cases b with
              | false => rfl
              | true =>
                have q := first_le_last (s := mn (gaps o num) - 1) (NO.le _ (key_mem NO.nd h2))
                rw [hoo] at hb
                rcases hb.mp rfl with z | z <;> exact absurd z (Nat.not_lt.mpr q)
            refine ⟨_, rfl, ifF (by rw [decide_eq_true (show V.str one = kV (Sum.inr oth) from congrArg V.str hoo)]; rfl) ?_⟩
            refine ⟨rfl, _, rfl, iteF ?_⟩
            refine ⟨_, rfl, fun q hq => ?_⟩
            have s2 := Same.trans S (Same.upd (o := .dK []) hq)
            refine ⟨_, rfl, _, rfl, _, rfl, d, _, rfl, dgo s2, _, rfl, _, rfl, _, rfl, d, _, rfl, dgt s2, upd_same, [((Sum.inr one : Key), V.int (gvN num one : Nat)), (Sum.inr oth, V.int (gvN num oth : Nat))], rfl, by show 2 ≤ 15; decide, ?_⟩
            rw [subN_merge]
            have s3 : Same L (upd (upd H12 q (.dK [])) q (.dK (numK (subN num one oth)))) := EX.Same.updN s2 (S.free hq)
            have hsub := subN_ok NO h1 h2
            refine mk_cut (K := K) (num := subN num one oth) (.inl (SqL.of (s3 _ _ ll0))) hw (by omega) upd_same hsub fun x H14 hx S14 CN2 => ?_
            obtain ⟨dx2, _, _, _, _, hx1, _⟩ := CN2.at_.ex
            refine ⟨x, dx2, _, rfl, hx1, x, o, subN num one oth, rfl, CN2.at_, _, rfl, _, _, rfl, rfl, _, rfl, ifF (decide_eq_false ?_) ⟨_, rfl, Same.trans s3 S14⟩⟩
            have := gap_sub (o := o) hsub.ne (subN_in NO.nd h1 h2)
            omega
          · refine ⟨_, rfl, ifT (by rw [decide_eq_false (show ¬ V.str one = kV (Sum.inr oth) from fun z => hoo (V.str.inj z))]; rfl) ?_⟩
            refine ⟨_, rfl, _, rfl, _, rfl, _, rfl, by show 2 ≤ sizeLine; decide, fun t3 ht3 => ?_⟩
            have s4 := Same.trans S (Same.upd (o := .tup [.str one, kV (Sum.inr oth)]) ht3)
            refine ⟨_, rfl, _, _, rfl, rfl, l, d, t3, o, num, one, oth, mn (gaps o num) - 1, by rw [← hm1]; rfl, SqL.of (s4 _ _ ll0), hlo, .inr ⟨od, s4 _ _ ld0⟩, NO.nd, SqT.of upd_same, h1, h2, fun b2 H13 hb2 S13 => ?_⟩
            have S := Same.trans s4 S13
            have hbb : b2 = b := by
              have q := hb2.trans ((bars_keys NO h1 h2).trans hb.symm)
              cases b <;> cases b2 <;> simp at q ⊢
            subst hbb
            refine ⟨by rfl, _, rfl, ifF (by simp) ?_⟩
            refine ⟨_, rfl, fun q hq => ?_⟩
            have s2 := Same.trans S (Same.upd (o := .dK []) hq)
            refine ⟨_, rfl, _, rfl, _, rfl, d, _, rfl, dgo s2, _, rfl, _, rfl, _, rfl, d, _, rfl, dgt s2, upd_same, [((Sum.inr one : Key), V.int (gvN num one : Nat)), (Sum.inr oth, V.int (gvN num oth : Nat))], rfl, by show 2 ≤ 15; decide, ?_⟩
            rw [subN_merge]
            have s3 : Same L (upd (upd H13 q (.dK [])) q (.dK (numK (subN num one oth)))) := EX.Same.updN s2 (S.free hq)
            have hsub := subN_ok NO h1 h2
            refine mk_cut (K := K) (num := subN num one oth) (.inl (SqL.of (s3 _ _ ll0))) hw (by omega) upd_same hsub fun x H14 hx S14 CN2 => ?_
            obtain ⟨dx2, _, _, _, _, hx1, _⟩ := CN2.at_.ex
            refine ⟨x, dx2, _, rfl, hx1, x, o, subN num one oth, rfl, CN2.at_, _, rfl, _, _, rfl, rfl, _, rfl, ifF (decide_eq_false ?_) ⟨_, rfl, Same.trans s3 S14⟩⟩
            have := gap_sub (o := o) hsub.ne (subN_in NO.nd h1 h2)
            omega
        · rintro σ H' ⟨v9, rfl, S⟩
          exact ⟨_, _, rfl, S⟩
      rintro σ H' ⟨v8, v9, rfl, S⟩
      refine ⟨S _ _ ld0, ?_⟩
      exact k _ (ExtN.trans X (ExtN.of (bk _ S))) (T10.ext (bk _ S))
end
end K41
set_option Elab.async false
set_option linter.all false
set_option maxRecDepth 100000
set_option maxHeartbeats 4000000
namespace K41
open PySem L2 EX PyProof.Rows M41
open LamX
theorem cnt_max {o : List Str} {a b : Nat} (k : Str) : cnt o (max a b) k = max (cnt o a k) (cnt o b k) := by
  rcases Nat.le_total a b with h | h
  · rw [Nat.max_eq_right h, Nat.max_eq_right (cnt_mono h)]
  · rw [Nat.max_eq_left h, Nat.max_eq_left (cnt_mono h)]
theorem cnt_min {o : List Str} {a b : Nat} (k : Str) : cnt o (min a b) k = min (cnt o a k) (cnt o b k) := by
  rcases Nat.le_total a b with h | h
  · rw [Nat.min_eq_left h, Nat.min_eq_left (cnt_mono h)]
  · rw [Nat.min_eq_right h, Nat.min_eq_right (cnt_mono h)]
theorem atN_keys (o : List Str) (num : Num Str) (m : Nat) : (atN o num m).map (·.1) = num.map (·.1) := by
  unfold atN
  rw [List.map_map]
  rfl
theorem atN_gv {o : List Str} {num : Num Str} {m : Nat} (nd : (num.map (·.1)).Nodup) {p : Str × Nat} (h : p ∈ num) : gvN (atN o num m) p.1 = cnt o m p.1 :=
  gvN_mem (by rw [atN_keys]; exact nd) (List.mem_map.mpr ⟨p, h, rfl⟩)
theorem join_max {o : List Str} {num : Num Str} {a b : Nat} (nd : (num.map (·.1)).Nodup) : joinN max (atN o num a) (atN o num b) = atN o num (max a b) := by
  have e : joinN max (atN o num a) (atN o num b) = num.map fun p => (p.1, max (cnt o a p.1) (gvN (atN o num b) p.1)) := by
    show ((num.map fun p => (p.1, cnt o a p.1)).map fun p => (p.1, max p.2 (gvN (atN o num b) p.1))) = _
    rw [List.map_map]
    rfl
  rw [e]
  refine List.map_congr_left fun p hp => ?_
  rw [atN_gv nd hp, cnt_max]
theorem join_min {o : List Str} {num : Num Str} {a b : Nat} (nd : (num.map (·.1)).Nodup) : joinN min (atN o num a) (atN o num b) = atN o num (min a b) := by
  have e : joinN min (atN o num a) (atN o num b) = num.map fun p => (p.1, min (cnt o a p.1) (gvN (atN o num b) p.1)) := by
    show ((num.map fun p => (p.1, cnt o a p.1)).map fun p => (p.1, min p.2 (gvN (atN o num b) p.1))) = _
    rw [List.map_map]
    rfl
  rw [e]
  refine List.map_congr_left fun p hp => ?_
  rw [atN_gv nd hp, cnt_min]
theorem atN_ok {o : List Str} {num : Num Str} (NO : NumOk o num) (m : Nat) : NumOk o (atN o num m) := by
  refine ⟨by rw [atN_keys]; exact NO.nd, fun z => NO.ne (List.map_eq_nil_iff.mp z), fun p hp => ?_, fun p hp => ?_, by unfold atN; rw [List.length_map]; exact NO.sz⟩
  · obtain ⟨q, hq, rfl⟩ := List.mem_map.mp hp
    exact NO.wd q hq
  · obtain ⟨q, hq, rfl⟩ := List.mem_map.mp hp
    exact List.Sublist.count_le _ (List.take_sublist _ _)
theorem gap_at {o : List Str} {num : Num Str} {m : Nat} (ne : num ≠ []) : gap o (atN o num m) m = 0 := by
  refine Nat.le_zero.mp (gap_le (fun z => ne (List.map_eq_nil_iff.mp z)) fun p hp => ?_)
  obtain ⟨q, hq, rfl⟩ := List.mem_map.mp hp
  show ((cnt o m q.1 : Int) - (cnt o m q.1 : Int)).natAbs ≤ 0
  omega
theorem le_last : ∀ {l : List Nat}, l.Pairwise (· < ·) → ∀ x ∈ l, x ≤ l.getLastD 0
  | [y], _, x, h => by
    rw [List.mem_singleton.mp h]
    exact Nat.le_refl _
  | y :: z :: t, pw, x, h => by
    have pw := List.pairwise_cons.mp pw
    have ih := le_last pw.2
    have e : (y :: z :: t).getLastD 0 = (z :: t).getLastD 0 := by rw [List.getLastD_cons, List.getLastD_cons, List.getLastD_cons]
    rw [e]
    rcases List.mem_cons.mp h with rfl | h
    · have h1 := pw.1 z (.head _)
      have h2 := ih z (.head _)
      omega
    · exact ih x h
theorem idx_between {l : List Nat} {m j : Nat} (h : l[j]? = some m) : firstAt l m ≤ j ∧ j ≤ lastAt l m := by
  have hin : j ∈ idxs l m l.length := mem_idxs.mpr ⟨(List.getElem?_eq_some_iff.mp h).1, h⟩
  refine ⟨Nat.le_of_not_lt fun z => (first_idx (List.mem_of_getElem? h)).2 j z h, ?_⟩
  exact le_last (idxs_pw l m l.length) j hin
theorem seen_at {o : List Str} {num : Num Str} {m : Nat} (ne : num ≠ []) (hm : m ≤ o.length) : mn (gaps o (atN o num m)) = 0 ∧ firstAt (gaps o (atN o num m)) 0 ≤ m ∧ m ≤ lastAt (gaps o (atN o num m)) 0 := by
  have h0 := gap_at (o := o) (m := m) ne
  refine ⟨?_, idx_between ((gaps_get hm).trans (by rw [h0]))⟩
  have := mn_le (mem_gaps.mpr ⟨m, hm, h0⟩)
  omega
theorem dict_same {num : Num Str} (nd : (num.map (·.1)).Nodup) : ∀ p ∈ numK num, valV (numK num) p.1 = some p.2 ∧ flatB p.2 = true := fun p hp => by
  unfold numK at hp
  obtain ⟨q, hq, rfl⟩ := List.mem_map.mp hp
  exact ⟨numK_val nd hq, rfl⟩
/-- all but p and the tables stays -/
def Kp (p : Addr) (H H' : Hp) : Prop := ∀ b o, b ≠ p → H b = some o → (∀ ps, o ≠ .tbl ps) → H' b = some o
theorem Kp.keeps {p : Addr} {H H1 H2 : Hp} (a : Kp p H H1) (k : Keeps [p] H1 H2) : Kp p H H2 := fun b o n e t => k b o (by simpa using n) (a b o n e t)
theorem Kp.ext {p : Addr} {H H1 H2 : Hp} (a : Kp p H H1) (k : ExtN H1 H2) : Kp p H H2 := fun b o n e t => k b o (a b o n e t) t
theorem tabs_src {T : List (Addr × Str)} {H H' : Hp} {p : Addr} {xs : List V} (t : Tabs T H) (hp : H p = some (.lst xs)) (k : Keeps [p] H H') : Tabs T H' :=
  EX.Tabs.but t (fun a u n e => k a u (by simpa using n) e) hp (fun _ e => nomatch e) (fun c q => codeO_lst xs)
abbrev sLaw : Stmt := top 29
def sLawN : List Str := ["_law_script", "_law_turn", "_law_source_here", "_law_attempt", "_law_order_here", "_law_drawn", "_law_moments", "_law_first", "_law_second", "_law_mixed", "_law_numbers_here", "_law_both", "_law_less", "_law_one", "_law_word"]
theorem scLw : FnScope ["_law_script", "_law_turn", "_law_source_here", "_law_attempt", "_law_order_here", "_law_drawn", "_law_moments", "_law_first", "_law_second", "_law_mixed", "_law_numbers_here", "_law_both", "_law_less", "_law_one", "_law_word"] ["_law_script"] (defScope sLaw) := ⟨rfl, rfl, rfl, by decide +kernel, rfl, by decide +kernel, by decide +kernel⟩
section
variable {P : Program} {w : World} {K : PySem.W.Frag} {mg : Str → Option Value} {base : Heap}
theorem run_law {C Pt : Addr} {f a : Addr} {fd : FuncData} {s : Shared} {H : Hp} {ns : List Int} (F : Fun K "law" "law" sLaw f fd) (B : Bn mg) (T : CutC K C) (sf : PySem.W.selfFirst K C = true) (MC : MkAt P w K mg base CX0 3 "Cut" ["self", "order", "numbers"] C (spCut K C)) (GNu : PrAt P w K mg base 1 C "numbers" ["self"] (spNumbers K C)) (GSe : PrAt P w K mg base 1 C "seen" ["self"] (spSeen K C))
    (DOr : Dun P w K mg base CX0 5 C "__or__" ["self", "other"] (spJoin K C max)) (DAn : Dun P w K mg base CX0 5 C "__and__" ["self", "other"] (spJoin K C min))
    (GSo : DefAt P w K mg base 1 "_law_source" ["_law_script", "_law_turn"] (spSource K)) (GDr : DefAt P w K mg base 1 "_law_draw" ["_law_source_here", "_law_amount"] spDraw) (GO : DefAt P w K mg base 2 "_law_order" ["_law_source_here", "_law_most"] (spLO K)) (GN : DefAt P w K mg base 2 "_law_numbers" ["_law_source_here", "_law_order_here"] (spLN K))
    (GA : DefAt P w K mg base 1 "_law_at" ["_law_order_here", "_law_words", "_law_moment"] (spLA K)) (GR : DefG P w K mg base 5 "_law_right" ["_law_order_here", "_law_numbers_here"] (spLR [(Pt, qFb)]))
    (hb : ∀ (s : Shared) (u : Value), BindsTo s fd ⟨[u], []⟩ [("_law_script", u)]) (e0 : Env0 P w K mg base callerA [] s H) (hS : SqL K H a (ns.map V.int)) (hns : ns.length ≤ 63) (hT : Tabs [(Pt, qFb)] H) :
    codeAny (model P w) callerA (.call (.ref f) ⟨[.ref a], []⟩) (CR CX0 [] P w H s (fun v _ => v = .bl true) E0) s := by
  have hroom : Room 40 callerA := ⟨rfl, by decide, by decide⟩
  refine fn_at (us := [Value.ref a]) (vs := [V.ref a]) F scLw hroom e0 (hb s (.ref a)) (.cons rfl .nil) rfl fun cdv hr => ?_
  have hgu : (callerA.deeper (envOfC "law" (defScope sLaw) s.heap.objs.size f cdv)).guards = some [] := rfl
  have hu := hu_of hr
  have hu0 : (callerA.deeper (envOfC "law" (defScope sLaw) s.heap.objs.size f cdv)).units < cLine := by omega
  have hu64 : (callerA.deeper (envOfC "law" (defScope sLaw) s.heap.objs.size f cdv)).units + 64 < cLine := hr.units
  refine ⟨_, PSs.nox (pss_cons (ps_for PassesOwn.never rfl (pi_range1 (by rfl) B.range (pa_cons (pe_callB (call_max2 rfl) (by rfl) B.max PyProof.Rows.boot_max (pa_cons pe_int (pa_cons (pe_callB (call_min2 rfl) (by rfl) B.min PyProof.Rows.boot_min (pa_cons (pe_callB call_len_seq (by rfl) B.len PySem.boot_len (pa_cons (pv 0) pa_nil)) (pa_cons pe_int pa_nil))) pa_nil))) pa_nil)) (pg_name (i := 1) scLw.nd rfl (Or.inl rfl)) (pss_cons (ps_set (i := 2) scLw.nd rfl (Or.inr rfl) (pe_callD GSo (hr.mono (by decide)) (pa_cons (pv 0) (pa_cons (pv 1) pa_nil))))
        (pss_one (ps_for PassesOwn.never rfl (pi_range1 (by rfl) B.range (pa_cons pe_int pa_nil)) (pg_name (i := 3) scLw.nd rfl (Or.inl rfl)) (pss_cons (ps_set (i := 4) scLw.nd rfl (Or.inr rfl) (pe_callD GO (hr.mono (by decide)) (pa_cons (pv 2) (pa_cons pe_int pa_nil))))
        (pss_cons (ps_set (i := 5) scLw.nd rfl (Or.inl rfl) (pe_callD GN (hr.mono (by decide)) (pa_cons (pv 2) (pa_cons (pv 4) pa_nil))))
        (pss_cons (ps_setLc (i := 6) (own := [("_law_one", 13)]) (g := (gName 13)) (tt := tYes) (te := (tCall spDraw [] E0 (tCons (tVar 2) (tCons (tOp (rI0 fun i j => .int (i + j)) (tCB (rLenSq K) (tCons (tVar 4) tNil)) (tC (.int 1))) tNil)))) rfl scLw.nd rfl rfl (sw_true rfl rfl rfl (by decide +kernel)) (pi_range1 (by rfl) B.range (pa_cons pe_int pa_nil)) (blkOk_by (N := sLawN) (sc := defScope sLaw) (by decide +kernel)) (fun _ _ _ _ _ => (pg_name (i := 13) scLw.nd rfl (Or.inl rfl))) (fun _ _ _ _ _ => pts_nil) (fun _ _ _ _ _ => (pe_callD GDr (hr.mono (by decide)) (pa_cons (pv 2) (pa_cons (pe_op op_add (pe_callB call_len_seq (by rfl) B.len PySem.boot_len (pa_cons (pv 4) pa_nil)) pe_int) pa_nil)))))
        (pss_cons (ps_asg (pe_tup (pa_cons (pe_callD GA (hr.mono (by decide)) (pa_cons (pv 4) (pa_cons (pv 5) (pa_cons (pe_ix ix_list (pv 6) pe_int (fun _ _ => rfl)) pa_nil)))) (pa_cons (pe_callD GA (hr.mono (by decide)) (pa_cons (pv 4) (pa_cons (pv 5) (pa_cons (pe_ix ix_list (pv 6) pe_int (fun _ _ => rfl)) pa_nil)))) pa_nil))) (pg_tup rfl (pgs_cons (pg_name (i := 7) scLw.nd rfl (Or.inr rfl)) (pgs_cons (pg_name (i := 8) scLw.nd rfl (Or.inr rfl)) pgs_nil))))
        (pss_cons (ps_set (i := 9) scLw.nd rfl (Or.inl rfl) (pe_callTy (call_dictP rfl) (by rfl) B.dict (by decide +kernel) (pa_cons (pe_lock (pe_lc (own := [("_law_word", 14)]) (g := (gName 14)) (tt := tYes) (te := (tTup (tCons (tVar 14) (tCons (tDGet (tOp (rIxL K) (tLst (tCons (tVar 7) (tCons (tVar 8) tNil))) (tCall spDraw [] E0 (tCons (tVar 2) (tCons (tC (.int 2)) tNil)))) (tVar 14)) tNil)))) rfl scLw.nd (pi_keys (pv 5)) (blkOk_by (N := sLawN) (sc := defScope sLaw) (by decide +kernel)) (fun _ _ _ _ _ => (pg_name (i := 14) scLw.nd rfl (Or.inl rfl))) (fun _ _ _ _ _ => pts_nil) (fun _ _ _ _ _ => (pe_tup (pa_cons (pv 14) (pa_cons (pe_dget hu (pe_ix ix_list (pe_lst (pa_cons (pv 7) (pa_cons (pv 8) pa_nil))) (pe_callD GDr (hr.mono (by decide)) (pa_cons (pv 2) (pa_cons pe_int pa_nil))) (fun _ _ => rfl)) (pv 14) (fun _ _ => rfl)) pa_nil)))))) pa_nil)))
        (pss_cons (ps_for PassesOwn.never rfl (pi_list (pe_lst (pa_cons (pv 5) (pa_cons (pv 7) (pa_cons (pv 8) (pa_cons (pv 9) pa_nil)))))) (pg_name (i := 10) scLw.nd rfl (Or.inl rfl)) (pss_one (ps_if (pt_not (pt_val (pe_callG GR (hr.mono (by decide)) hgu (pa_cons (pv 4) (pa_cons (pv 10) pa_nil))))) (pss_one (ps_ret pe_bl)) pss_nil)))
        (pss_cons (ps_set (i := 11) scLw.nd rfl (Or.inl rfl) (pe_op (op_binO DOr rfl sf (hr.mono (by decide)) pass0) (pe_mkC MC (hr.mono (by decide)) (pa_cons (pv 4) (pa_cons (pv 7) pa_nil))) (pe_mkC MC (hr.mono (by decide)) (pa_cons (pv 4) (pa_cons (pv 8) pa_nil)))))
        (pss_cons (ps_set (i := 12) scLw.nd rfl (Or.inl rfl) (pe_op (op_binO DAn rfl sf (hr.mono (by decide)) pass0) (pe_mkC MC (hr.mono (by decide)) (pa_cons (pv 4) (pa_cons (pv 7) pa_nil))) (pe_mkC MC (hr.mono (by decide)) (pa_cons (pv 4) (pa_cons (pv 8) pa_nil)))))
        (pss_cons (ps_if (pt_cmpR (op_ne_dictA hu0) (pe_prD GNu (hr.mono (by decide)) (pv 11)) (pe_callD GA (hr.mono (by decide)) (pa_cons (pv 4) (pa_cons (pv 5) (pa_cons (pe_callB (cr_max rfl) (by rfl) B.max PyProof.Rows.boot_max (pa_cons (pv 6) pa_nil)) pa_nil)))) (nomark _)) (pss_one (ps_ret pe_bl)) pss_nil)
        (pss_cons (ps_if (pt_cmpR (op_ne_dictA hu0) (pe_prD GNu (hr.mono (by decide)) (pv 12)) (pe_callD GA (hr.mono (by decide)) (pa_cons (pv 4) (pa_cons (pv 5) (pa_cons (pe_callB (cr_min rfl) (by rfl) B.min PyProof.Rows.boot_min (pa_cons (pv 6) pa_nil)) pa_nil)))) (nomark _)) (pss_one (ps_ret pe_bl)) pss_nil)
        (pss_one (ps_if (PW.pt (pw_or (pt_cmp (pc_isN (pe_prD GSe (hr.mono (by decide)) (pv 11)))) (pw_or1 (pt_not (pt_chain op_le op_le (pe_ix ix_tup (pe_prD GSe (hr.mono (by decide)) (pv 11)) pe_int (fun _ _ => rfl)) (pe_callB (cr_max rfl) (by rfl) B.max PyProof.Rows.boot_max (pa_cons (pv 6) pa_nil)) (pe_ix ix_tup (pe_prD GSe (hr.mono (by decide)) (pv 11)) pe_int (fun _ _ => rfl))))))) (pss_one (ps_ret pe_bl)) pss_nil))))))))))))))))
        (pss_one (ps_ret pe_bl))), ?_⟩
  refine ⟨_, rfl, a, _, rfl, .inl hS, _, _, rfl, _, _, rfl, _, rfl, ?_, ?_, ?_⟩
  · rw [List.length_map]; split <;> split <;> omega
  · rw [List.length_map]; split <;> split <;> omega
  refine for_range (fun i σ H' => ∃ v1 v2 v3 v4 v5 v6 v7 v8 v9 v10 v11 v12, σ = [some (V.ref a), v1, v2, v3, v4, v5, v6, v7, v8, v9, v10, v11, v12, none, none] ∧ ExtN H H' ∧ Tabs [(Pt, qFb)] H') ⟨_, _, _, _, _, _, _, _, _, _, _, _, rfl, .refl H, hT⟩ ?_ ?_
  · rintro i σ Hi hi ⟨v1, v2, v3, v4, v5, v6, v7, v8, v9, v10, v11, v12, rfl, Xi, Ti⟩
    have hi63 : i ≤ 1000 := by
      rw [List.length_map] at hi
      split at hi <;> split at hi <;> omega
    refine ⟨_, rfl, _, rfl, a, ns, i, by rw [Int.zero_add]; rfl, EX.ExtN.seq Xi hS, hi63, fun p x0 y0 hp hsrc => ?_⟩
    have Xs : ExtN H (upd Hi p (.lst [.int x0, .int y0])) := ExtN.trans Xi (ExtN.of (Same.upd hp))
    have lp : upd Hi p (HO.lst [.int x0, .int y0]) p = some (.lst [.int x0, .int y0]) := upd_same
    have Ts : Tabs [(Pt, qFb)] (upd Hi p (.lst [.int x0, .int y0])) := Ti.ext (Same.upd hp)
    have fin : ∀ H', Kp p (upd Hi p (.lst [.int x0, .int y0])) H' → ExtN H H' := fun H' k b o e t => by
      have e1 := Xi b o e t
      have n : b ≠ p := fun z => by rw [z, hp] at e1; cases e1
      exact k b o n (by rw [upd_ne n]; exact e1) t
    generalize upd Hi p (HO.lst [.int x0, .int y0]) = Hs at Xs lp Ts fin ⊢
    refine ⟨3, rfl, by decide, by decide, ?_⟩
    refine for_range (fun j σ H' => ∃ v3 v4 v5 v6 v7 v8 v9 v10 v11 v12 x y, σ = [some (V.ref a), some (.int (0 + (i : Int))), some (.ref p), v3, v4, v5, v6, v7, v8, v9, v10, v11, v12, none, none] ∧ Kp p Hs H' ∧ Tabs [(Pt, qFb)] H' ∧ H' p = some (.lst [.int x, .int y]) ∧ SrcOk x y)
      ⟨_, _, _, _, _, _, _, _, _, _, x0, y0, rfl, fun _ _ _ e _ => e, Ts, lp, hsrc⟩ ?_ ?_
    · rintro j σ H0 hj ⟨v3, v4, v5, v6, v7, v8, v9, v10, v11, v12, x, y, rfl, K0, T0, hp0, src0⟩
      -- order, numbers
      refine ⟨_, rfl, p, x, y, 30, rfl, hp0, src0, by decide, fun l o H1 S1 hl0 hl1 ho hlo => ?_⟩
      have T1 := tabs_src T0 hp0 S1.kp
      have K1 := K0.keeps S1.kp
      have nlp : l ≠ p := (ne_by hp0 hl0).symm
      obtain ⟨xa, ya, hp1, src1⟩ := S1.at_
      have hw : ∀ s ∈ o, isW s = true := fun s hs => w4_ok s (by
        have := ho s hs
        simp only [List.mem_cons, List.not_mem_nil, or_false] at this
        unfold w4
        rcases this with rfl | rfl | rfl <;> simp)
      clear T0 K0 S1 hp0 src0 hl0 ho
      refine ⟨_, rfl, _, rfl, p, l, xa, ya, o, rfl, hp1, src1, nlp, hl1, by omega, fun d num H2 S2 hd1 hd2 NO hn4 => ?_⟩
      have T2 := tabs_src T1 hp1 S2.kp
      have K2 := K1.keeps S2.kp
      have hl2 : H2 l = some (.lst (strV o)) := S2.kp _ _ (by simpa using nlp) hl1
      have ndp : d ≠ p := (ne_by hp1 hd1).symm
      obtain ⟨xb, yb, hp2, src2⟩ := S2.at_
      clear T1 K1 S2 hp1 src1 hl1 hd1
      have hlen : (strV o).length = o.length := List.length_map _
      -- two moments
      refine ⟨2, rfl, by decide, by decide, fun D hD => ?_⟩
      have nDp : D ≠ p := (ne_by hp2 hD).symm
      refine lc_range (fun i H' => SrcTo p H2 H' ∧ ∃ ms : List Nat, H' D = some (.lst (natV ms)) ∧ ms.length = i ∧ ∀ m ∈ ms, m ≤ o.length) ⟨(SrcTo.refl hp2 src2).then (Same.upd hD), [], upd_same, rfl, by simp⟩ ?_ ?_
      · rintro i H' hi2 ⟨S, ms, lD, hms, hle⟩
        obtain ⟨xc, yc, hpc, srcc⟩ := S.at_
        have hlc : H' l = some (.lst (strV o)) := S.kp _ _ (by simpa using nlp) hl2
        refine ⟨rfl, _, rfl, _, rfl, l, _, rfl, .inl (SqL.of hlc), _, _, rfl, rfl, p, xc, yc, ((o.length : Nat) : Int) + 1, by rw [hlen]; rfl, hpc, srcc, by omega, by omega, fun xd yd n srd n0 n1 => ?_⟩
        obtain ⟨n, rfl⟩ : ∃ m : Nat, n = (m : Int) := ⟨n.toNat, by omega⟩
        have lD' : upd H' p (HO.lst [.int xd, .int yd]) D = some (.lst (natV ms)) := by rw [upd_ne nDp]; exact lD
        refine ⟨_, lD', by rw [List.length_map, sizeLine_eq]; omega, (S.upd srd).put nDp hD, ms ++ [n], by rw [upd_same]; unfold natV; rw [List.map_append]; rfl, by rw [List.length_append, hms]; rfl, fun m hm => ?_⟩
        rcases List.mem_append.mp hm with hm | hm
        · exact hle m hm
        · rw [List.mem_singleton.mp hm]
          omega
      rintro H3 ⟨S3, ms, lD, hms, hle⟩
      obtain ⟨m1, m2, rfl⟩ : ∃ m1 m2, ms = [m1, m2] := by
        match ms, hms with
        | [m1, m2], _ => exact ⟨m1, m2, rfl⟩
      have hm1 : m1 ≤ o.length := hle m1 (by simp)
      have hm2 : m2 ≤ o.length := hle m2 (by simp)
      clear hms hle hD
      have T3 := tabs_src T2 hp2 S3.kp
      have K3 := K2.keeps S3.kp
      have hl3 : H3 l = some (.lst (strV o)) := S3.kp _ _ (by simpa using nlp) hl2
      have hd3 : H3 d = some (.dK (numK num)) := S3.kp _ _ (by simpa using ndp) hd2
      obtain ⟨xe, ye, hp3, src3⟩ := S3.at_
      clear T2 K2 S3 hp2 src2 hl2 hd2
      -- first, second
      refine ⟨_, rfl, _, rfl, _, rfl, D, _, _, _, rfl, rfl, SqL.of lD, atI_nat (j := 0) rfl, l, d, o, num, m1, rfl, SqL.of hl3, hd3, NO.nd, NO.sz, fun q1 H4 S4 hq1 l1 => ?_⟩
      refine ⟨_, rfl, _, rfl, _, rfl, D, _, _, _, rfl, rfl, SqL.of (S4 _ _ lD), atI_nat (j := 1) rfl, l, d, o, num, m2, rfl, SqL.of (S4 _ _ hl3), S4 _ _ hd3, NO.nd, NO.sz, fun q2 H5 S5 hq2 l2 => ?_⟩
      refine ⟨by show 2 ≤ sizeLine; decide, fun tt htt => ?_⟩
      have s6 : Same H5 (upd H5 tt (.tup [.ref q1, .ref q2])) := Same.upd htt
      have lt : upd H5 tt (HO.tup [.ref q1, .ref q2]) tt = some (.tup [.ref q1, .ref q2]) := upd_same
      generalize upd H5 tt (HO.tup [.ref q1, .ref q2]) = H6 at s6 lt ⊢
      refine ⟨tt, _, rfl, SqT.of lt, rfl, _, _, rfl, _, _, rfl, rfl, ?_⟩
      have S46 := Same.trans S4 (Same.trans S5 s6)
      have S56 := Same.trans S5 s6
      have l1 := S56 _ _ l1
      have l2 := s6 _ _ l2
      have nq1 : q1 ≠ p := (ne_by hp3 hq1).symm
      have nq2 : q2 ≠ p := (ne_by (S4 _ _ hp3) hq2).symm
      have ndq1 : q1 ≠ d := (ne_by hd3 hq1).symm
      have ndq2 : q2 ≠ d := (ne_by (S4 _ _ hd3) hq2).symm
      have T6 := T3.ext S46
      have K6 := K3.ext (ExtN.of S46)
      have hl6 := S46 _ _ hl3
      have hd6 := S46 _ _ hd3
      have hp6 := S46 _ _ hp3
      have lD6 := S46 _ _ lD
      clear T3 K3 S46 S56 hl3 hd3 hp3 s6 lt htt S5 S4 hq1 hq2 lD
      -- mixed
      refine ⟨d, .dK (numK num), hd6, trivial, fun od => ?_⟩
      have ld : upd H6 d (.frz od (.dK (numK num))) d = some (.frz od (.dK (numK num))) := upd_same
      have lpL : upd H6 d (HO.frz od (.dK (numK num))) p = some (.lst [.int xe, .int ye]) := by rw [upd_ne ndp.symm]; exact hp6
      have lq1 : upd H6 d (HO.frz od (.dK (numK num))) q1 = some (.dK (numK (atN o num m1))) := by rw [upd_ne ndq1]; exact l1
      have lq2 : upd H6 d (HO.frz od (.dK (numK num))) q2 = some (.dK (numK (atN o num m2))) := by rw [upd_ne ndq2]; exact l2
      have bk : ∀ H', Keeps [p] (upd H6 d (.frz od (.dK (numK num)))) H' → Keeps [p] H6 (upd H' d (.dK (numK num))) := fun H' z => Keeps.lock hd6 z
      generalize upd H6 d (.frz od (.dK (numK num))) = L at ld lpL lq1 lq2 bk ⊢
      refine ⟨_, rfl, d, od, rfl, .inl ⟨_, ld, fun E hE => ?_⟩⟩
      have nEp : E ≠ p := (ne_by lpL hE).symm
      have nEd : E ≠ d := (ne_by ld hE).symm
      refine lc_it (walk_keys (d := d) (o := od) (kvs := numK num)) (fun i H' => SrcTo p L H' ∧ ∃ (ts : List Addr) (mix : Num Str), H' E = some (.lst (ts.map V.ref)) ∧ Paired (fun (t : Addr) (kv : Key × V) => H' t = some (.tup [kV kv.1, kv.2])) ts (numK mix) ∧ mix.map (·.1) = (num.map (·.1)).take i ∧ ∀ u ∈ mix, u.2 ≤ o.count u.1)
        ⟨(SrcTo.refl lpL src3).then (Same.upd hE), [], [], upd_same, .nil, by simp, by simp⟩ (fun i H' _ z => z.1.kp _ _ (by simpa using ndp) ld) ?_ ?_
      · rintro i x Hg Hh hi ⟨S, ts, mix, lE, pr, hk, hc⟩ ⟨rfl, kk, vv, hg, rfl⟩
        obtain ⟨s', n, rfl, rfl, hn⟩ := numK_get hg
        have hks : (s', n) ∈ num := List.mem_of_getElem? hn
        have hi2 : i < num.length := (List.getElem?_eq_some_iff.mp hn).1
        obtain ⟨xf, yf, hpf, srcf⟩ := S.at_
        refine ⟨rfl, _, rfl, _, rfl, _, rfl, by show 2 ≤ sizeLine; decide, fun tl htl => ?_⟩
        have ntp : tl ≠ p := (ne_by hpf htl).symm
        have sa : Same Hh (upd Hh tl (.lst [.ref q1, .ref q2])) := Same.upd htl
        have ll : upd Hh tl (HO.lst [.ref q1, .ref q2]) tl = some (.lst [.ref q1, .ref q2]) := upd_same
        generalize upd Hh tl (HO.lst [.ref q1, .ref q2]) = Ha at sa ll ⊢
        have S := S.then sa
        have pr : Paired (fun (t : Addr) (kv : Key × V) => Ha t = some (.tup [kV kv.1, kv.2])) ts (numK mix) := paired_imp (fun a kv e => sa _ _ e) pr
        have lE := sa _ _ lE
        have hpf := sa _ _ hpf
        clear sa htl
        refine ⟨_, rfl, p, xf, yf, 2, rfl, hpf, srcf, by decide, by decide, fun x3 y3 j sr3 j0 j1 => ?_⟩
        have S := S.upd sr3
        have pr : Paired (fun (t : Addr) (kv : Key × V) => (upd Ha p (.lst [.int x3, .int y3])) t = some (.tup [kV kv.1, kv.2])) ts (numK mix) := paired_imp (fun a kv e => by rw [upd_ne (fun z => by rw [z, hpf] at e; cases e)]; exact e) pr
        have lE : upd Ha p (HO.lst [.int x3, .int y3]) E = some (.lst (ts.map V.ref)) := by rw [upd_ne nEp]; exact lE
        have ll : upd Ha p (HO.lst [.int x3, .int y3]) tl = some (.lst [.ref q1, .ref q2]) := by rw [upd_ne ntp]; exact ll
        generalize upd Ha p (HO.lst [.int x3, .int y3]) = Hb at S pr lE ll ⊢
        obtain ⟨jn, qj, mj, rfl, hqj, hLj, njp⟩ : ∃ (jn : Nat) (qj : Addr) (mj : Nat), j = (jn : Int) ∧ ([V.ref q1, V.ref q2] : List V)[jn]? = some (.ref qj) ∧ L qj = some (.dK (numK (atN o num mj))) ∧ qj ≠ p := by
          obtain rfl | rfl : j = 0 ∨ j = 1 := by omega
          · exact ⟨0, q1, m1, rfl, rfl, lq1, nq1⟩
          · exact ⟨1, q2, m2, rfl, rfl, lq2, nq2⟩
        refine ⟨tl, _, _, _, rfl, rfl, SqL.of ll, atI_nat hqj, _, rfl, qj, _, rfl, .inl ⟨numK (atN o num mj), Sum.inr s', .inl (S.kp _ _ (by simpa using njp) hLj), rfl, (numK_gv (by rw [atN_keys]; exact NO.nd) (by rw [atN_keys]; exact List.mem_map.mpr ⟨_, hks, rfl⟩)).symm⟩, by show 2 ≤ sizeLine; decide, fun t ht => ?_⟩
        have hgv : gvN (atN o num mj) s' ≤ o.count s' := by
          rw [atN_gv NO.nd hks]
          exact List.Sublist.count_le _ (List.take_sublist _ _)
        generalize gvN (atN o num mj) s' = g at hgv ⊢
        have sc : Same Hb (upd Hb t (.tup [kV (Sum.inr s'), .int (g : Nat)])) := Same.upd ht
        have lt : upd Hb t (HO.tup [kV (Sum.inr s'), .int (g : Nat)]) t = some (.tup [kV (Sum.inr s'), .int (g : Nat)]) := upd_same
        generalize upd Hb t (HO.tup [kV (Sum.inr s'), .int (g : Nat)]) = Hc at sc lt ⊢
        have lEc := sc _ _ lE
        have htl := Paired.length pr
        have hml : mix.length = i := by
          have := congrArg List.length hk
          rw [List.length_map, List.length_take, List.length_map] at this
          omega
        rw [show (numK mix).length = mix.length from List.length_map _] at htl
        refine ⟨_, lEc, by rw [List.length_map, sizeLine_eq]; omega, (S.then sc).put nEp hE, ts ++ [t], mix ++ [(s', g)], by rw [upd_same, List.map_append]; rfl, ?_, ?_, fun u hu => ?_⟩
        · rw [show numK (mix ++ [(s', g)]) = numK mix ++ [(Sum.inr s', V.int (g : Nat))] by unfold numK; rw [List.map_append]; rfl]
          refine paired_snoc' (paired_imp (fun a kv e => ?_) pr) ?_
          · rw [upd_ne (fun z => by rw [z, lE] at e; cases e)]
            exact sc _ _ e
          · rw [upd_ne (fun z => by rw [z, lEc] at lt; cases lt)]
            exact lt
        · rw [List.map_append, hk, List.take_add_one, List.getElem?_map, hn]
          rfl
        · rcases List.mem_append.mp hu with hu | hu
          · exact hc u hu
          · rw [List.mem_singleton.mp hu]
            exact hgv
      rintro H7 ⟨S7, ts, mix, lE, pr, hk, hc⟩
      rw [List.take_of_length_le (by rw [List.length_map, show (numK num).length = num.length from List.length_map _]; exact Nat.le_refl _)] at hk
      refine ⟨S7.kp _ _ (by simpa using ndp) ld, ?_⟩
      have S8 := bk _ S7.kp
      obtain ⟨xg, yg, hp7, src8⟩ := S7.at_
      have hp8 : upd H7 d (HO.dK (numK num)) p = some (.lst [.int xg, .int yg]) := by rw [upd_ne ndp.symm]; exact hp7
      have lE8 : upd H7 d (HO.dK (numK num)) E = some (.lst (ts.map V.ref)) := by rw [upd_ne nEd]; exact lE
      have ld7 := S7.kp _ _ (by simpa using ndp) ld
      have pr8 : Paired (fun (t : Addr) (kv : Key × V) => SqT K (upd H7 d (.dK (numK num))) t [kV kv.1, kv.2]) ts (numK mix) := paired_imp (fun a kv e => .inl (.inl (by rw [upd_ne (fun z => by rw [z, ld7] at e; cases e)]; exact e))) pr
      generalize upd H7 d (HO.dK (numK num)) = H8 at S8 hp8 lE8 pr8 ⊢
      clear lE pr ld7 hp7 S7 bk lq1 lq2 lpL ld hE
      refine ⟨E, ts, _, rfl, SqL.of lE8, pr8, fun e he => ?_⟩
      have ndm : (mix.map (·.1)).Nodup := by rw [hk]; exact NO.nd
      rw [merge_nd (by unfold numK; rw [List.map_map]; exact nd_inr ndm)]
      have NOm : NumOk o mix := ⟨ndm, fun z => NO.ne (by rw [z] at hk; exact List.map_eq_nil_iff.mp hk.symm), fun u hu => by
          have : u.1 ∈ num.map (·.1) := hk ▸ List.mem_map.mpr ⟨u, hu, rfl⟩
          obtain ⟨n, hn⟩ := mem_key this
          exact NO.wd (u.1, n) hn, hc, by
          have := congrArg List.length hk
          rw [List.length_map, List.length_map] at this
          have := NO.sz
          omega⟩
      have s9 : Same H8 (upd H8 e (.dK (numK mix))) := Same.upd he
      have le : upd H8 e (HO.dK (numK mix)) e = some (.dK (numK mix)) := upd_same
      generalize upd H8 e (HO.dK (numK mix)) = H9 at s9 le ⊢
      have S69 := S8.then s9
      have T9 := tabs_src T6 hp6 S69
      have K9 := K6.keeps S69
      have hl9 := S69 _ _ (by simpa using nlp) hl6
      have hd9 := S69 _ _ (by simpa using ndp) hd6
      have l19 := S69 _ _ (by simpa using nq1) l1
      have l29 := S69 _ _ (by simpa using nq2) l2
      have lD9 := S69 _ _ (by simpa using nDp) lD6
      have hp9 := s9 _ _ hp8
      clear S69 s9 S8 hp8 lE8 pr8 he T6 K6 hl6 hd6 l1 l2 lD6 hp6 hk hc
      -- the four
      refine ⟨_, rfl, _, rfl, _, rfl, _, rfl, by show 4 ≤ sizeLine; decide, fun lm hlm => ?_⟩
      have s10 : Same H9 (upd H9 lm (.lst [.ref d, .ref q1, .ref q2, .ref e])) := Same.upd hlm
      have ll : upd H9 lm (HO.lst [.ref d, .ref q1, .ref q2, .ref e]) lm = some (.lst [.ref d, .ref q1, .ref q2, .ref e]) := upd_same
      generalize upd H9 lm (HO.lst [.ref d, .ref q1, .ref q2, .ref e]) = H10 at s10 ll ⊢
      have T10 := T9.ext s10
      have K10 := K9.ext (ExtN.of s10)
      have hl10 := s10 _ _ hl9
      have hd10 := s10 _ _ hd9
      have l110 := s10 _ _ l19
      have l210 := s10 _ _ l29
      have lD10 := s10 _ _ lD9
      have hp10 := s10 _ _ hp9
      have le10 := s10 _ _ le
      clear s10 T9 K9 hl9 hd9 l19 l29 lD9 hp9 le hlm
      refine ⟨lm, rfl, ⟨_, SqL.of ll⟩, ?_⟩
      refine for_list (K := K) (a := lm) (xs := [.ref d, .ref q1, .ref q2, .ref e]) (fun i' σ H' => ∃ v10, σ = [some (V.ref a), some (.int (0 + (i : Int))), some (.ref p), some (.int (0 + (j : Int))), some (.ref l), some (.ref d), some (.ref D), some (.ref q1), some (.ref q2), some (.ref e), v10, v11, v12, none, none] ∧ ExtN H10 H' ∧ Tabs [(Pt, qFb)] H')
        ⟨_, rfl, .refl _, T10⟩ ?_ ?_ ?_
      · rintro i' σ H' _ ⟨v10, rfl, X, _⟩
        exact SqL.of (EX.ExtN.lst X ll)
      · rintro i' x σ H' hx ⟨v10, rfl, X, T'⟩
        obtain ⟨dd, nn, rfl, hdd, hok⟩ : ∃ dd nn, x = .ref dd ∧ H10 dd = some (.dK (numK nn)) ∧ NumOk o nn := by
          match i', hx with
          | 0, h => exact ⟨d, num, (Option.some.inj h).symm, hd10, NO⟩
          | 1, h => exact ⟨q1, _, (Option.some.inj h).symm, l110, atN_ok NO m1⟩
          | 2, h => exact ⟨q2, _, (Option.some.inj h).symm, l210, atN_ok NO m2⟩
          | 3, h => exact ⟨e, mix, (Option.some.inj h).symm, le10, NOm⟩
          | n + 4, h => simp at h
        refine ⟨_, rfl, _, rfl, l, dd, o, nn, rfl, EX.ExtN.lst X hl10, by omega, hw, EX.ExtN.dK X hdd, hok, T', fun H'' X'' T'' => ⟨_, rfl, iteF ?_⟩⟩
        exact ⟨_, rfl, ExtN.trans X X'', T''⟩
      rintro σ H11 ⟨v10, rfl, X11, T11⟩
      have K11 := K10.ext X11
      have hl11 := EX.ExtN.lst X11 hl10
      have hd11 := EX.ExtN.dK X11 hd10
      have l111 := EX.ExtN.dK X11 l110
      have l211 := EX.ExtN.dK X11 l210
      have lD11 := EX.ExtN.lst X11 lD10
      have hp11 := EX.ExtN.lst X11 hp10
      clear T10 K10 hl10 hd10 l110 l210 lD10 hp10 le10 ll NOm ndm X11
      have hk12 : (atN o num m1).map (·.1) = (atN o num m2).map (·.1) := by rw [atN_keys, atN_keys]
      have ha4 : (atN o num m1).length < 64 := by unfold atN; rw [List.length_map]; omega
      -- both
      refine ⟨_, rfl, _, rfl, ?_⟩
      refine mk_cut (K := K) (num := atN o num m1) (.inl (SqL.of hl11)) hw (by omega) l111 (atN_ok NO m1) fun x1 H12 _ S12 CN1 => ?_
      refine ⟨_, rfl, _, rfl, ?_⟩
      refine mk_cut (K := K) (num := atN o num m2) (.inl (SqL.of (S12 _ _ hl11))) hw (by omega) (S12 _ _ l211) (atN_ok NO m2) fun x2 H13 _ S13 CN2 => ?_
      have C1 := CN1.at_.mono S13
      have C2 := CN2.at_
      obtain ⟨dx1, _, _, _, _, hx1, _⟩ := C1.ex
      obtain ⟨dx2, _, _, _, _, hx2, _⟩ := C2.ex
      refine ⟨x1, x2, dx1, dx2, _, _, rfl, rfl, hx1, hx2, x1, x2, o, atN o num m1, atN o num m2, rfl, C1, C2, hw, hk12, atN_ok NO m1, atN_ok NO m2, ha4, by omega, fun r1 H14 S14 _ CB => ?_⟩
      rw [join_max NO.nd] at CB
      have S114 := Same.trans S12 (Same.trans S13 S14)
      clear hx1 hx2 C1 C2 CN1 CN2 S12 S13 S14
      -- less
      refine ⟨_, rfl, _, rfl, ?_⟩
      refine mk_cut (K := K) (num := atN o num m1) (.inl (SqL.of (S114 _ _ hl11))) hw (by omega) (S114 _ _ l111) (atN_ok NO m1) fun x1 H15 _ S15 CN1 => ?_
      refine ⟨_, rfl, _, rfl, ?_⟩
      refine mk_cut (K := K) (num := atN o num m2) (.inl (SqL.of (S15 _ _ (S114 _ _ hl11)))) hw (by omega) (S15 _ _ (S114 _ _ l211)) (atN_ok NO m2) fun x2 H16 _ S16 CN2 => ?_
      have C1 := CN1.at_.mono S16
      have C2 := CN2.at_
      obtain ⟨dx1, _, _, _, _, hx1, _⟩ := C1.ex
      obtain ⟨dx2, _, _, _, _, hx2, _⟩ := C2.ex
      refine ⟨x1, x2, dx1, dx2, _, _, rfl, rfl, hx1, hx2, x1, x2, o, atN o num m1, atN o num m2, rfl, C1, C2, hw, hk12, atN_ok NO m1, atN_ok NO m2, ha4, by omega, fun r2 H17 S17 _ CL => ?_⟩
      rw [join_min NO.nd] at CL
      have S1417 := Same.trans S15 (Same.trans S16 S17)
      have CB := CB.mono S1417
      have S := Same.trans S114 S1417
      clear hx1 hx2 C1 C2 CN1 CN2 S15 S16 S17 S114 S1417
      obtain ⟨dxb, _, _, _, _, hrb, _⟩ := CB.ex
      obtain ⟨dxl, _, _, _, _, hrl, _⟩ := CL.ex
      have maxI : ∀ mv : Int, mv ∈ ([(m1 : Int), (m2 : Int)] : List Int) → (∀ y, y ∈ ([(m1 : Int), (m2 : Int)] : List Int) → y ≤ mv) → mv = ((max m1 m2 : Nat) : Int) := fun mv h1 h2 => by
        have a1 := h2 _ (.head _)
        have a2 := h2 _ (.tail _ (.head _))
        rcases List.mem_cons.mp h1 with rfl | h1
        · omega
        · have := List.mem_singleton.mp h1
          omega
      have minI : ∀ mv : Int, mv ∈ ([(m1 : Int), (m2 : Int)] : List Int) → (∀ y, y ∈ ([(m1 : Int), (m2 : Int)] : List Int) → mv ≤ y) → mv = ((min m1 m2 : Nat) : Int) := fun mv h1 h2 => by
        have a1 := h2 _ (.head _)
        have a2 := h2 _ (.tail _ (.head _))
        rcases List.mem_cons.mp h1 with rfl | h1
        · omega
        · have := List.mem_singleton.mp h1
          omega
      -- the numbers of both
      refine ⟨_, rfl, r1, dxb, _, rfl, hrb, r1, o, _, rfl, CB, fun b1 hb1 => ?_⟩
      have s18 : Same H17 (upd H17 b1 (.dK (numK (atN o num (max m1 m2))))) := Same.upd hb1
      have lb1 : upd H17 b1 (HO.dK (numK (atN o num (max m1 m2)))) b1 = some (.dK (numK (atN o num (max m1 m2)))) := upd_same
      generalize upd H17 b1 (HO.dK (numK (atN o num (max m1 m2)))) = H18 at s18 lb1 ⊢
      have S := Same.trans S s18
      refine ⟨_, rfl, _, rfl, _, rfl, D, [(m1 : Int), (m2 : Int)], rfl, SqL.of (S _ _ lD11), Nat.zero_lt_succ _, fun mv h1 h2 => ?_⟩
      rw [maxI mv h1 h2]
      refine ⟨l, d, o, num, max m1 m2, rfl, SqL.of (S _ _ hl11), S _ _ hd11, NO.nd, NO.sz, fun b2 H19 S19 _ lb2 => ?_⟩
      refine ⟨b1, b2, _, _, rfl, rfl, S19 _ _ lb1, lb2, rfl, dict_same (by rw [atN_keys]; exact NO.nd), _, rfl, iteF ?_⟩
      have S := Same.trans S S19
      have CB := CB.mono (Same.trans s18 S19)
      have CL := CL.mono (Same.trans s18 S19)
      have hrb := S19 _ _ (s18 _ _ hrb)
      have hrl := S19 _ _ (s18 _ _ hrl)
      clear s18 lb1 hb1 S19 lb2 h1 h2 mv
      -- the numbers of less
      refine ⟨_, rfl, r2, dxl, _, rfl, hrl, r2, o, _, rfl, CL, fun b1 hb1 => ?_⟩
      have s18 : Same H19 (upd H19 b1 (.dK (numK (atN o num (min m1 m2))))) := Same.upd hb1
      have lb1 : upd H19 b1 (HO.dK (numK (atN o num (min m1 m2)))) b1 = some (.dK (numK (atN o num (min m1 m2)))) := upd_same
      generalize upd H19 b1 (HO.dK (numK (atN o num (min m1 m2)))) = H20 at s18 lb1 ⊢
      have S := Same.trans S s18
      refine ⟨_, rfl, _, rfl, _, rfl, D, [(m1 : Int), (m2 : Int)], rfl, SqL.of (S _ _ lD11), Nat.zero_lt_succ _, fun mv h1 h2 => ?_⟩
      rw [minI mv h1 h2]
      refine ⟨l, d, o, num, min m1 m2, rfl, SqL.of (S _ _ hl11), S _ _ hd11, NO.nd, NO.sz, fun b2 H21 S19 _ lb2 => ?_⟩
      refine ⟨b1, b2, _, _, rfl, rfl, S19 _ _ lb1, lb2, rfl, dict_same (by rw [atN_keys]; exact NO.nd), _, rfl, iteF ?_⟩
      have S := Same.trans S S19
      have CB := CB.mono (Same.trans s18 S19)
      have hrb := S19 _ _ (s18 _ _ hrb)
      clear s18 lb1 hb1 S19 lb2 h1 h2 mv hrl CL
      -- seen
      obtain ⟨e0', e1, e2⟩ := seen_at (o := o) (num := num) (m := max m1 m2) NO.ne (Nat.max_le.mpr ⟨hm1, hm2⟩)
      have shown : ∀ v, Shown H21 o (atN o num (max m1 m2)) v → ∃ tq, v = .ref tq ∧ H21 tq = some (.tup [.int (firstAt (gaps o (atN o num (max m1 m2))) 0 : Nat), .int (lastAt (gaps o (atN o num (max m1 m2))) 0 : Nat)]) := fun v hv => by
        unfold Shown at hv
        rw [if_pos e0'] at hv
        exact hv
      refine ⟨_, rfl, r1, dxb, _, rfl, hrb, r1, o, _, rfl, CB, fun v hv => ?_⟩
      obtain ⟨tq, rfl, _⟩ := shown v hv
      refine ⟨_, rfl, ifF (decide_eq_false (fun z => nomatch z)) ?_⟩
      refine ⟨_, rfl, r1, dxb, _, rfl, hrb, r1, o, _, rfl, CB, fun v hv => ?_⟩
      obtain ⟨tq, rfl, hq⟩ := shown v hv
      refine ⟨tq, _, _, _, rfl, rfl, SqT.of hq, atI_nat (j := 0) rfl, _, rfl, D, [(m1 : Int), (m2 : Int)], rfl, SqL.of (S _ _ lD11), Nat.zero_lt_succ _, fun mv h1 h2 => ?_⟩
      rw [maxI mv h1 h2]
      refine ⟨_, _, rfl, rfl, _, rfl, ifT (decide_eq_true (by omega)) ?_⟩
      refine ⟨_, rfl, r1, dxb, _, rfl, hrb, r1, o, _, rfl, CB, fun v hv => ?_⟩
      obtain ⟨tq, rfl, hq⟩ := shown v hv
      refine ⟨tq, _, _, _, rfl, rfl, SqT.of hq, atI_nat (j := 1) rfl, _, _, rfl, rfl, _, rfl, ifF (by rw [decide_eq_true (show ((max m1 m2 : Nat) : Int) ≤ ((lastAt (gaps o (atN o num (max m1 m2))) 0 : Nat) : Int) by omega)]; rfl) ?_⟩
      exact ⟨_, _, _, _, _, _, _, _, _, _, xg, yg, rfl, K11.ext (ExtN.of S), T11.ext S, S _ _ hp11, src8⟩
    · rintro σ H' ⟨v3, v4, v5, v6, v7, v8, v9, v10, v11, v12, x, y, rfl, K1, T1, _⟩
      exact ⟨_, _, _, _, _, _, _, _, _, _, _, _, rfl, fin _ K1, T1⟩
  · rintro σ H' ⟨v1, v2, v3, v4, v5, v6, v7, v8, v9, v10, v11, v12, rfl, _⟩
    rfl
end
end K41
set_option Elab.async false
set_option linter.all false
set_option maxRecDepth 100000
set_option maxHeartbeats 4000000
/-! the law's end with tables of code objects, the law's own call met at callerA -/
namespace EX
open PySem L2 PySem.Spec PyProof.Rows LamX
/-- the tables as they stand at the head: empty, no part of what is written, each with its code object -/
structure TabsAt (K : PySem.W.Frag) (h : Heap) (cs : List (Addr × Addr)) : Prop where
  emp : ∀ p ∈ cs, h.get? p.2 = some { cls := .none, data := .fields #[] }
  out : ∀ p ∈ cs, K.lookup p.2 = none
  cod : ∀ p ∈ cs, PySem.W.CodeHd h p.1 p.2
/-- a table told by its def's name -/
structure TabOf (q : Program) (K : PySem.W.Frag) (x : Str) (c P : Addr) : Prop where
  has : ∃ d, (recsOf q).find? (fun e => e.name == x) = some d
  tab : PySem.W.tabIn K x = some (c, P)
  out : K.lookup P = none
theorem tab_by {K : PySem.W.Frag} {x : Str} {f c P : Addr} {oc oc2 : Value} {od od2 : Option Addr} {fd : FuncData} {vs : Array Value} {os1 os2 : Array (Option Value)} (h1 : PySem.W.nsIn K mainGlobals x = some (some (.ref f))) (h2 : K.lookup f = some ⟨oc, od, .func fd, os1⟩) (h3 : fd.code = .ref c)
    (h4 : K.lookup c = some ⟨oc2, od2, .fields vs, os2⟩) (h5 : (vs[11]? : Option Value) = some (.ref P)) : PySem.W.tabIn K x = some (c, P) := by
  unfold PySem.W.tabIn
  rw [h1]
  show (match K.lookup f with | some ⟨_, _, .func fd, _⟩ => _ | _ => _) = _
  rw [h2]
  show (match fd.code with | .ref c => _ | _ => _) = _
  rw [h3]
  show (match K.lookup c with | some ⟨_, _, .fields vs, _⟩ => _ | _ => _) = _
  rw [h4]
  show (match (vs[11]? : Option Value) with | some (.ref P) => some (c, P) | _ => none) = _
  rw [h5]
theorem walkT {l : PySem.W.OpenLaw} {n : Nat} {q : Program} {loose : List Str} {XP : (Str → Option Value) → Heap → Prop} {YP : World → Heap → Prop} {d : DefRec} {K : Params → PySem.W.Frag}
    (hn : l.most = some n) (hn2 : n ≤ sizeLine) (hdf : d.params.defaults = []) (hY : ∀ (w : World) (h : Heap), YP w h → (K w.params).In h)
    (F : ∀ (w : World) (mg : Str → Option Value) (fa : Addr) (h : Heap), YP w h → (K w.params).In h → h.Ns mainGlobals mg → mg d.name = some (.ref fa) → ∃ cs : List (Addr × Addr), (∀ p ∈ cs, ∃ x, TabOf q (K w.params) x p.1 p.2) ∧
      ∀ base : Heap, (K w.params).In base → base.Ns mainGlobals mg → (∀ p ∈ cs, TabB base mg p.1 p.2) → ∀ (s : Shared) (H : Hp) (a : Addr) (ns : List Int), ns.length ≤ n → (∀ p ∈ cs, H p.2 = some (.tbl #[])) → SqL (K w.params) H a (ns.map V.int) →
        Env0 l.prog w (K w.params) mg base callerA [] s H → codeAny (model l.prog w) callerA (.call (.ref fa) ⟨[.ref a], []⟩) (CR CX0 [] l.prog w H s (fun v _ => v = .bl true) E0) s) :
    PySem.W.WalkO q loose XP YP l.row.toRowW d [] (fun f vs => PySem.call f vs) := by
  refine Att.attach_callB hn hdf ?_
  intro w s₀ s₁ mg mb fa o pm cd doc a vs ns G Y ho hd hcd hmg hobj hints hlen hbits hg
  have kin := hY w _ Y
  obtain ⟨cs, TO, run⟩ := F w mg fa _ Y kin G.T.g hmg
  have TA : TabsAt (K w.params) s₁.heap cs := by
    refine ⟨fun p hp => ?_, fun p hp => ?_, fun p hp => ?_⟩ <;> obtain ⟨x, ⟨d2, hd2⟩, ht, ho2⟩ := TO p hp
    · exact (PySem.W.tab_of G.T kin hd2 ht).2
    · exact ho2
    · exact (PySem.W.tab_of G.T kin hd2 ht).1
  have rv := vals_ints hints
  have lv := hints.length
  have tabOf : ∀ b, b ∈ cs.map (·.2) → ∃ p ∈ cs, p.2 = b := fun b hb => List.mem_map.mp hb
  have emp : ∀ b, b ∈ cs.map (·.2) → s₁.heap.get? b = some { cls := .none, data := .fields #[] } := fun b hb => by
    obtain ⟨p, hp, rfl⟩ := tabOf b hb
    exact TA.emp p hp
  have aOut : a ∉ cs.map (·.2) := fun z => by
    have e := emp a z
    rw [hobj] at e
    have d2 := congrArg Obj.data (Option.some.inj e)
    cases d2
  have key : ∀ H : Hp, (∀ b, b ∈ cs.map (·.2) → H b = some (.tbl #[])) → (∀ b, b ∈ cs.map (·.2) ∨ H b = none ∨ ∃ ob xs, H b = some (.frz ob (.lst xs))) → SqL (K w.params) H a (ns.map V.int) → HOk l.prog w H s₁.heap → (∀ b, H b ≠ none → b = a ∨ b ∈ cs.map (·.2)) → (H a ≠ none → (K w.params).lookup a = none) →
      codeAny (model l.prog w) callerA (.call (.ref fa) ⟨[.ref a], []⟩) (fun r s' => r = .ok (.ret (.bool true)) ∧ OldK s₁.heap s'.heap ∧ s'.os = s₁.os ∧ AllBare s'.gens) s₁ := by
    intro H tab only sq hok who notK
    -- what is no list and no table is not tracked
    have plain : ∀ {b : Addr} {o : Obj}, s₁.heap.get? b = some o → (∀ xs m, o.data ≠ .seq xs m) → o.data ≠ .fields #[] → H b = none := by
      intro b o e1 e2 e3
      cases h : H b with
      | none => rfl
      | some u =>
        rcases who b (by rw [h]; exact fun z => nomatch z) with e4 | e4
        · rw [e4, hobj] at e1
          cases e1
          exact absurd rfl (e2 _ _)
        · rw [emp b e4] at e1
          cases e1
          exact absurd rfl e3
    have dicts : ∀ {b : Addr} {o : Obj} {es : Array DictEntry} {ep : Nat}, s₁.heap.get? b = some o → o.data = .dict es ep → H b = none := by
      intro b o es ep e1 e2
      refine plain e1 (fun xs m z => ?_) fun z => ?_ <;> rw [e2] at z <;> cases z
    have nsB : ∀ {b : Addr} {m : Str → Option Value}, s₁.heap.Ns b m → (hidT s₁.heap H).Ns b m := by
      rintro b m ⟨o, es, ep, e1, e2, r⟩
      exact ⟨o, es, ep, hidT_get e1 (dicts e1 e2), e2, r⟩
    have kinB : (K w.params).In (hidT s₁.heap H) := by
      intro b o e
      refine hidT_get (kin b o e) ?_
      cases h : H b with
      | none => rfl
      | some u =>
        rcases who b (by rw [h]; exact fun z => nomatch z) with e3 | e3
        · rw [e3, notK (by rw [← e3, h]; exact fun z => nomatch z)] at e
          cases e
        · obtain ⟨p, hp, rfl⟩ := tabOf b e3
          rw [TA.out p hp] at e
          cases e
    have TB : ∀ p ∈ cs, TabB (hidT s₁.heap H) mg p.1 p.2 := by
      intro p hp
      have ep := TA.emp p hp
      obtain ⟨o, us, file, tf, flags, tg, inF, text, tt, e1, r1, r2, r3, r4, r5, r6, r7, r8, hne⟩ := TA.cod p hp
      obtain ⟨bm, ob, b1, b2, b3, b4, b5, b6⟩ := G.T.bmain
      have bmG : bm ≠ mainGlobals := by
        intro z
        obtain ⟨o2, es, ep2, e2, hd2, _⟩ := G.T.g
        rw [z, e2] at b3
        cases b3
        rw [hd2] at b6
        cases b6
      have bmP : bm ≠ p.2 := by
        intro z
        rw [z, ep] at b3
        cases b3
        cases b6
      refine ⟨⟨o, us, file, tf, flags, tg, inF, text, tt, hidT_get e1 (plain e1 (fun xs m z => ?_) fun z => ?_), r1, r2, r3, r4, r5, r6, r7, r8, hne⟩, ⟨bm, ob, b1, b2, bmG, bmP, hidT_get b3 (plain b3 (fun xs m z => ?_) fun z => ?_), b4, b5, b6⟩, fun z => ?_⟩
      · rw [r2] at z
        cases z
      · rw [r2] at z
        cases z
        simp at r3
      · rw [b6] at z
        cases z
      · rw [b6] at z
        cases z
      · obtain ⟨o2, es, ep2, e2, hd2, _⟩ := G.T.g
        rw [z, ep] at e2
        cases e2
        cases hd2
    have e0 : Env0 l.prog w (K w.params) mg (hidT s₁.heap H) callerA [] s₁ H := by
      refine ⟨rfl, ⟨kinB, nsB G.T.g, ⟨mb, nsB G.T.b, G.T.builtins⟩, ?_⟩, fun b o e => of_hidT e, Nat.le_of_eq (hidT_size _ _), trivial, (fun b hb => absurd hb (List.not_mem_nil)), hok, .of_eq hg⟩
      obtain ⟨mc, h1, h2⟩ := G.T.nolimit
      exact ⟨mc, nsB h1, h2⟩
    refine codeAny_mono (run _ kinB (nsB G.T.g) TB s₁ H a ns hlen (fun p hp => tab p.2 (List.mem_map.mpr ⟨p, hp, rfl⟩)) sq e0) ?_
    intro r s' z
    cases r with
    | error e => exact z.elim
    | ok fl =>
      cases fl with
      | next => exact z.elim
      | brk => exact z.elim
      | cont => exact z.elim
      | ret u =>
        obtain ⟨v, H', os, bare, un, hok', rr, qq⟩ := z
        subst qq
        obtain rfl : u = Value.bool true := rr
        have kept : ∀ b o, b ∉ cs.map (·.2) → s₁.heap.get? b = some o → s'.heap.get? b = some o := by
          intro b o out e
          rcases only b with h | h | ⟨ob, xs, h⟩
          · exact absurd h out
          · exact un.keep b o e h (fun z => nomatch z) (fun z => nomatch z)
          · have h1 := (hok b _ h).1
            have h2 := (hok' b _ (un.frzs b ob _ h)).1
            rw [e] at h1
            cases h1
            exact h2
        have more : ∀ p ∈ cs, ∃ xs : Array Value, s'.heap.get? p.2 = some { cls := .none, data := .fields xs } := by
          intro p hp
          obtain ⟨xs, z⟩ := un.tbls p.2 #[] (tab p.2 (List.mem_map.mpr ⟨p, hp, rfl⟩))
          exact ⟨_, hok' p.2 _ z⟩
        refine ⟨rfl, ⟨fun b o e => ?_, fun b o e => ?_⟩, os, bare⟩
        · by_cases hb : b ∈ cs.map (·.2)
          · obtain ⟨p, hp, rfl⟩ := tabOf b hb
            obtain ⟨xs, hx⟩ := more p hp
            rw [TA.emp p hp] at e
            cases e
            exact .inr (.inl ⟨((TA.cod p hp).tab (TA.emp p hp)).isCodeTable, rfl, #[], xs, rfl, by rw [Array.empty_append]; exact hx⟩)
          · exact .inl (kept b o hb e)
        · by_cases hb : b ∈ cs.map (·.2)
          · obtain ⟨p, hp, rfl⟩ := tabOf b hb
            obtain ⟨xs, hx⟩ := more p hp
            exact ⟨_, hx⟩
          · exact ⟨o, kept b o hb e⟩
  have hz : ns.length ≤ sizeLine := Nat.le_trans hlen hn2
  -- the heap that tracks the tables, and the script where it is not written
  have start : ∀ (H : Hp) (keepA : Bool), (∀ b, H b = if b ∈ cs.map (·.2) then some (.tbl #[]) else if keepA = true ∧ b = a then some (HO.frz { cls := .type "list", data := .seq vs.toArray } (.lst (ns.map V.int))) else none) →
      (keepA = true → (K w.params).lookup a = none) → SqL (K w.params) H a (ns.map V.int) → codeAny (model l.prog w) callerA (.call (.ref fa) ⟨[.ref a], []⟩) (fun r s' => r = .ok (.ret (.bool true)) ∧ OldK s₁.heap s'.heap ∧ s'.os = s₁.os ∧ AllBare s'.gens) s₁ := by
    intro H keepA eH ok sq
    have inT : ∀ b, b ∈ cs.map (·.2) → H b = some (.tbl #[]) := fun b hb => by rw [eH, if_pos hb]
    have offT : ∀ b, b ∉ cs.map (·.2) → H b = if keepA = true ∧ b = a then some (HO.frz { cls := .type "list", data := .seq vs.toArray } (.lst (ns.map V.int))) else none := fun b hb => by rw [eH, if_neg hb]
    refine key H inT (fun b => ?_) sq (fun b u e => ?_) (fun b e => ?_) fun e => ?_
    · by_cases hb : b ∈ cs.map (·.2)
      · exact .inl hb
      · have q1 := offT b hb
        by_cases h2 : keepA = true ∧ b = a
        · rw [if_pos h2] at q1
          exact .inr (.inr ⟨_, _, q1⟩)
        · rw [if_neg h2] at q1
          exact .inr (.inl q1)
    · by_cases hb : b ∈ cs.map (·.2)
      · rw [inT b hb] at e
        cases e
        exact emp b hb
      · rw [offT b hb] at e
        by_cases h2 : keepA = true ∧ b = a
        · rw [if_pos h2] at e
          obtain ⟨_, rfl⟩ := h2
          cases e
          exact ⟨hobj, by rw [List.length_map]; exact hz, vs, _, rv, hobj⟩
        · rw [if_neg h2] at e
          cases e
    · by_cases hb : b ∈ cs.map (·.2)
      · exact .inr hb
      · rw [offT b hb] at e
        by_cases h2 : keepA = true ∧ b = a
        · exact .inl h2.2
        · exact absurd (if_neg h2) e
    · rw [offT a aOut] at e
      by_cases h2 : keepA = true ∧ a = a
      · exact ok h2.1
      · exact absurd (if_neg h2) e
  cases hk : (K w.params).lookup a with
  | some o =>
    have e := kin a o hk
    rw [hobj] at e
    cases e
    refine start (fun b => if b ∈ cs.map (·.2) then some (.tbl #[]) else none) false (fun b => by simp) (fun z => nomatch z) (.inr ⟨_, vs.toArray, _, hk, rfl, rfl, rfl, ?_, ?_⟩)
    · rw [List.size_toArray, lv]
      exact hz
    · simpa using rv
  | none =>
    refine start (fun b => if b ∈ cs.map (·.2) then some (.tbl #[]) else if b = a then some (.frz { cls := .type "list", data := .seq vs.toArray } (.lst (ns.map V.int))) else none) true (fun b => by simp) (fun _ => hk) (.inl (.inr ⟨{ cls := .type "list", data := .seq vs.toArray }, ?_⟩))
    show (if a ∈ cs.map (·.2) then _ else _) = _
    rw [if_neg aOut, if_pos rfl]
end EX

set_option Elab.async false
set_option linter.all false
set_option maxRecDepth 100000
set_option maxHeartbeats 4000000
namespace K41
open PySem L2 EX PyProof.Rows M41 LamX
/-- a def that stands in the written part -/
structure FnAt (K : PySem.W.Frag) (x qual : Str) (st : Stmt) (f : Addr) : Prop where
  ex : ∃ fd, Fun K x qual st f fd
theorem fnAt {K : PySem.W.Frag} {x qual : Str} {st : Stmt} {f : Addr} {oc : Value} {od an : Option Addr} {osl : Array (Option Value)} {kV doc pm cdv ct : Value} (l : K.lookup f = some ⟨oc, od, .func (PySem.W.fnOf x qual (defArgs st) (defBody st) (defScope st) .none kV doc pm an cdv ct), osl⟩)
    (c : PySem.W.codeIn K cdv qual = true) (k : PySem.W.keepIn K (.ref f) = true) : FnAt K x qual st f := ⟨_, fun_mk (st := st) l c k⟩
/-- a def with its code object and the table of what it makes -/
structure FnC (K : PySem.W.Frag) (x qual : Str) (st : Stmt) (f c T : Addr) : Prop where
  ex : ∃ fd, Fun K x qual st f fd ∧ fd.code = .ref c
  tab : PySem.W.tabIn K x = some (c, T)
  out : K.lookup T = none
theorem fnC {K : PySem.W.Frag} {x qual : Str} {st : Stmt} {f c T : Addr} {oc oc2 : Value} {od od2 an : Option Addr} {osl os2 : Array (Option Value)} {kV doc pm ct : Value} {vs : Array Value} (l : K.lookup f = some ⟨oc, od, .func (PySem.W.fnOf x qual (defArgs st) (defBody st) (defScope st) .none kV doc pm an (.ref c) ct), osl⟩)
    (cc : PySem.W.codeIn K (.ref c) qual = true) (k : PySem.W.keepIn K (.ref f) = true) (a : PySem.W.nsIn K mainGlobals x = some (some (.ref f))) (h4 : K.lookup c = some ⟨oc2, od2, .fields vs, os2⟩) (h5 : (vs[11]? : Option Value) = some (.ref T)) (out : K.lookup T = none) : FnC K x qual st f c T :=
  ⟨⟨_, fun_mk (st := st) l cc k, rfl⟩, tab_by a l rfl h4 h5, out⟩

theorem all_mk {l : PySem.W.OpenLaw} {w : World} {K : PySem.W.Frag} {h : Heap} {mg : Str → Option Value} {q : Program} {fa : Addr} {fL fFb c Pt C fI fOp fWin fWrd fOrd fNum fDst fOut fNm fCb fSource fDraw fLO fLN fLG fLA fLB fRi pNu gNu pSp gSp pNe gNe pSe gSe uOr uAn : Addr} (KX : K.In h) (G : h.Ns mainGlobals mg) (hfa : mg "law" = some (.ref fa))
    (aL : PySem.W.nsIn K mainGlobals "law" = some (some (.ref fL)))
    (FL : FnAt K "law" "law" sLaw fL)
    (aWin : PySem.W.nsIn K mainGlobals "is_integer_within" = some (some (.ref fWin)))
    (FWin : FnAt K "is_integer_within" "is_integer_within" sWin fWin)
    (aWrd : PySem.W.nsIn K mainGlobals "is_word" = some (some (.ref fWrd)))
    (FWrd : FnAt K "is_word" "is_word" sWrd fWrd)
    (aOrd : PySem.W.nsIn K mainGlobals "is_order" = some (some (.ref fOrd)))
    (FOrd : FnAt K "is_order" "is_order" sOrd fOrd)
    (aNum : PySem.W.nsIn K mainGlobals "are_numbers" = some (some (.ref fNum)))
    (FNum : FnAt K "are_numbers" "are_numbers" sNum fNum)
    (aDst : PySem.W.nsIn K mainGlobals "distances" = some (some (.ref fDst)))
    (FDst : FnAt K "distances" "distances" sDst fDst)
    (aOut : PySem.W.nsIn K mainGlobals "outer_moments" = some (some (.ref fOut)))
    (FOut : FnAt K "outer_moments" "outer_moments" sOut fOut)
    (aNm : PySem.W.nsIn K mainGlobals "near_moments" = some (some (.ref fNm)))
    (FNm : FnAt K "near_moments" "near_moments" sNm fNm)
    (aCb : PySem.W.nsIn K mainGlobals "check_bar" = some (some (.ref fCb)))
    (FCb : FnAt K "check_bar" "check_bar" sCb fCb)
    (aSource : PySem.W.nsIn K mainGlobals "_law_source" = some (some (.ref fSource)))
    (FSource : FnAt K "_law_source" "_law_source" sSource fSource)
    (aDraw : PySem.W.nsIn K mainGlobals "_law_draw" = some (some (.ref fDraw)))
    (FDraw : FnAt K "_law_draw" "_law_draw" sDraw fDraw)
    (aLO : PySem.W.nsIn K mainGlobals "_law_order" = some (some (.ref fLO)))
    (FLO : FnAt K "_law_order" "_law_order" sLO fLO)
    (aLN : PySem.W.nsIn K mainGlobals "_law_numbers" = some (some (.ref fLN)))
    (FLN : FnAt K "_law_numbers" "_law_numbers" sLN fLN)
    (aLG : PySem.W.nsIn K mainGlobals "_law_gap" = some (some (.ref fLG)))
    (FLG : FnAt K "_law_gap" "_law_gap" sLG fLG)
    (aLA : PySem.W.nsIn K mainGlobals "_law_at" = some (some (.ref fLA)))
    (FLA : FnAt K "_law_at" "_law_at" sLA fLA)
    (aLB : PySem.W.nsIn K mainGlobals "_law_bars" = some (some (.ref fLB)))
    (FLB : FnAt K "_law_bars" "_law_bars" sLB fLB)
    (aRi : PySem.W.nsIn K mainGlobals "_law_right" = some (some (.ref fRi)))
    (FRi : FnAt K "_law_right" "_law_right" sRi fRi)
    (aFb : PySem.W.nsIn K mainGlobals "find_bar" = some (some (.ref fFb)))
    (C_Fb : FnC K "find_bar" "find_bar" sFb fFb c Pt)
    (has1 : ∃ d, (recsOf q).find? (fun e => e.name == ("find_bar" : Str)) = some d)
    (aC : PySem.W.nsIn K mainGlobals "Cut" = some (some (.ref C)))
    (c_pg : PySem.W.plainGet K C Str.empty = true)
    (c_hd : PySem.W.hasDictIn K C = true)
    (c_po : PySem.W.plainOver K C = true)
    (c_sa : PySem.W.findIn K (.ref C) "__setattr__" = some (some (.builtin "object.__setattr__")))
    (n_steps : PySem.W.findIn K (.ref C) "steps" = some none)
    (n_chosen : PySem.W.findIn K (.ref C) "chosen" = some none)
    (n_gaps : PySem.W.findIn K (.ref C) "gaps" = some none)
    (n_least : PySem.W.findIn K (.ref C) "least" = some none)
    (n_closest : PySem.W.findIn K (.ref C) "closest" = some none)
    (n_shown : PySem.W.findIn K (.ref C) "shown" = some none)
    (m_mk : PySem.W.makesIn K C = true)
    (m_in : PySem.W.findIn K (.ref C) "__init__" = some (some (.ref fI)))
    (m_fn : PySem.W.isFn K (.ref fI) = true)
    (m_kp : PySem.W.keepIn K (.ref C) = true)
    (FI : FnAt K "__init__" "Cut.__init__" sCI fI)
    (pNu_at : PySem.W.findIn K (.ref C) "numbers" = some (some (.ref pNu)))
    (pNu_get : PySem.W.specialIn K (.ref pNu) "__get__" = some (some (.builtin "property.__get__")))
    (pNu_tk : PySem.W.takesIn K (.ref pNu) = some true)
    (r_Nu : ∃ rest, PySem.W.recIn K pNu "property" = some (.ref gNu :: rest))
    (FNu : FnAt K "numbers" "Cut.numbers" sCN gNu)
    (pSp_at : PySem.W.findIn K (.ref C) "spread" = some (some (.ref pSp)))
    (pSp_get : PySem.W.specialIn K (.ref pSp) "__get__" = some (some (.builtin "property.__get__")))
    (pSp_tk : PySem.W.takesIn K (.ref pSp) = some true)
    (r_Sp : ∃ rest, PySem.W.recIn K pSp "property" = some (.ref gSp :: rest))
    (FSp : FnAt K "spread" "Cut.spread" sCS gSp)
    (pNe_at : PySem.W.findIn K (.ref C) "nearest" = some (some (.ref pNe)))
    (pNe_get : PySem.W.specialIn K (.ref pNe) "__get__" = some (some (.builtin "property.__get__")))
    (pNe_tk : PySem.W.takesIn K (.ref pNe) = some true)
    (r_Ne : ∃ rest, PySem.W.recIn K pNe "property" = some (.ref gNe :: rest))
    (FNe : FnAt K "nearest" "Cut.nearest" sCR gNe)
    (pSe_at : PySem.W.findIn K (.ref C) "seen" = some (some (.ref pSe)))
    (pSe_get : PySem.W.specialIn K (.ref pSe) "__get__" = some (some (.builtin "property.__get__")))
    (pSe_tk : PySem.W.takesIn K (.ref pSe) = some true)
    (r_Se : ∃ rest, PySem.W.recIn K pSe "property" = some (.ref gSe :: rest))
    (FSe : FnAt K "seen" "Cut.seen" sCE gSe)
    (o_at : PySem.W.findIn K (.ref C) "check_operand" = some (some (.ref fOp)))
    (o_fn : PySem.W.isFn K (.ref fOp) = true)
    (o_kp : PySem.W.keepIn K (.ref fOp) = true)
    (FOp : FnAt K "check_operand" "Cut.check_operand" sCO fOp)
    (uOr_at : PySem.W.findIn K (.ref C) "__or__" = some (some (.ref uOr)))
    (uOr_fn : PySem.W.isFn K (.ref uOr) = true)
    (uOr_in : PySem.W.fnIn K uOr = true)
    (FOr : FnAt K "__or__" "Cut.__or__" sOr uOr)
    (uAn_at : PySem.W.findIn K (.ref C) "__and__" = some (some (.ref uAn)))
    (uAn_fn : PySem.W.isFn K (.ref uAn) = true)
    (uAn_in : PySem.W.fnIn K uAn = true)
    (FAn : FnAt K "__and__" "Cut.__and__" sAn uAn)
    (c_sf : PySem.W.selfFirst K C = true)
    (i_ha : PySem.W.findIn K (.ref C) "__class__" = some (some (.builtin "object.__class__")))
    (i_hn : PySem.W.specialIn K (.builtin "object.__class__") "__get__" = some (some (.builtin "getset_descriptor.__get__")))
    (i_tk : PySem.W.takesIn K (.builtin "object.__class__") = some true)
    (i_hm : PySem.W.mroIn K C (.type "object") = some true)
    (i_me : PySem.W.kitOne K (.ref C) (.ref C) = some true)
    (z_range : PySem.W.nsIn K mainGlobals "range" = some none)
    (z_max : PySem.W.nsIn K mainGlobals "max" = some none)
    (z_min : PySem.W.nsIn K mainGlobals "min" = some none)
    (z_len : PySem.W.nsIn K mainGlobals "len" = some none)
    (z_abs : PySem.W.nsIn K mainGlobals "abs" = some none)
    (z_all : PySem.W.nsIn K mainGlobals "all" = some none)
    (z_isinstance : PySem.W.nsIn K mainGlobals "isinstance" = some none)
    (z_tuple : PySem.W.nsIn K mainGlobals "tuple" = some none)
    (z_list : PySem.W.nsIn K mainGlobals "list" = some none)
    (z_dict : PySem.W.nsIn K mainGlobals "dict" = some none)
    (z_int : PySem.W.nsIn K mainGlobals "int" = some none)
    (z_bool : PySem.W.nsIn K mainGlobals "bool" = some none)
    (z_str : PySem.W.nsIn K mainGlobals "str" = some none)
    (z_sorted : PySem.W.nsIn K mainGlobals "sorted" = some none)
    (z_enumerate : PySem.W.nsIn K mainGlobals "enumerate" = some none)
    (z_property : PySem.W.nsIn K mainGlobals "property" = some none)
    (k_lw : ∃ t, PySem.W.nsIn K mainGlobals "LONGEST_WORD" = some (some (.int 8 t)))
    (k_lo : ∃ t, PySem.W.nsIn K mainGlobals "LONGEST_ORDER" = some (some (.int 5000 t)))
    : ∃ cs : List (Addr × Addr), (∀ p ∈ cs, ∃ x, TabOf q K x p.1 p.2) ∧
      ∀ base : Heap, K.In base → base.Ns mainGlobals mg → (∀ p ∈ cs, TabB base mg p.1 p.2) → ∀ (s : Shared) (H : Hp) (a : Addr) (ns : List Int), ns.length ≤ 63 → (∀ p ∈ cs, H p.2 = some (.tbl #[])) → SqL K H a (ns.map V.int) → Env0 l.prog w K mg base callerA [] s H →
        codeAny (model l.prog w) callerA (.call (.ref fa) ⟨[.ref a], []⟩) (CR CX0 [] l.prog w H s (fun v _ => v = .bl true) E0) s := by
  refine ⟨[(c, Pt)], fun p hp => ?_, ?_⟩
  · rw [List.mem_singleton.mp hp]
    exact ⟨"find_bar", has1, C_Fb.tab, C_Fb.out⟩
  intro base KB GB TBs s H a ns hns hTb hS e0
  have TB := TBs (c, Pt) (List.mem_singleton.mpr rfl)
  have hT0 : H Pt = some (.tbl #[]) := hTb (c, Pt) (List.mem_singleton.mpr rfl)
  have e := hfa.symm.trans (PySem.W.mg_of KX G aL)
  cases e
  have B : Bn mg := ⟨PySem.W.mg_none_of KX G z_range, PySem.W.mg_none_of KX G z_max, PySem.W.mg_none_of KX G z_min, PySem.W.mg_none_of KX G z_len, PySem.W.mg_none_of KX G z_abs, PySem.W.mg_none_of KX G z_all, PySem.W.mg_none_of KX G z_isinstance, PySem.W.mg_none_of KX G z_tuple, PySem.W.mg_none_of KX G z_list, PySem.W.mg_none_of KX G z_dict, PySem.W.mg_none_of KX G z_int, PySem.W.mg_none_of KX G z_bool, PySem.W.mg_none_of KX G z_str, PySem.W.mg_none_of KX G z_sorted, PySem.W.mg_none_of KX G z_enumerate, PySem.W.mg_none_of KX G z_property, ⟨_, PySem.W.mg_of KX G k_lw.choose_spec⟩, ⟨_, PySem.W.mg_of KX G k_lo.choose_spec⟩⟩
  have TC : CutC K C := ⟨⟨c_pg, c_hd, c_po, c_sa⟩, n_steps, n_chosen, n_gaps, n_least, n_closest, n_shown⟩
  obtain ⟨dL, GL⟩ := FL.ex
  obtain ⟨dWin, GWin⟩ := FWin.ex
  obtain ⟨dWrd, GWrd⟩ := FWrd.ex
  obtain ⟨dOrd, GOrd⟩ := FOrd.ex
  obtain ⟨dNum, GNum⟩ := FNum.ex
  obtain ⟨dDst, GDst⟩ := FDst.ex
  obtain ⟨dOut, GOut⟩ := FOut.ex
  obtain ⟨dNm, GNm⟩ := FNm.ex
  obtain ⟨dCb, GCb⟩ := FCb.ex
  obtain ⟨dSource, GSource⟩ := FSource.ex
  obtain ⟨dDraw, GDraw⟩ := FDraw.ex
  obtain ⟨dLO, GLO⟩ := FLO.ex
  obtain ⟨dLN, GLN⟩ := FLN.ex
  obtain ⟨dLG, GLG⟩ := FLG.ex
  obtain ⟨dLA, GLA⟩ := FLA.ex
  obtain ⟨dLB, GLB⟩ := FLB.ex
  obtain ⟨dRi, GRi⟩ := FRi.ex
  have bWin := GWin.binds (ps := ["obj", "low", "high"]) fun _ _ _ _ _ _ us hl => match us, hl with | [_, _, _], _ => rfl
  have bWrd := GWrd.binds (ps := ["obj"]) fun _ _ _ _ _ _ us hl => match us, hl with | [_], _ => rfl
  have bOrd := GOrd.binds (ps := ["obj"]) fun _ _ _ _ _ _ us hl => match us, hl with | [_], _ => rfl
  have bNum := GNum.binds (ps := ["obj", "order"]) fun _ _ _ _ _ _ us hl => match us, hl with | [_, _], _ => rfl
  have bDst := GDst.binds (ps := ["order", "numbers"]) fun _ _ _ _ _ _ us hl => match us, hl with | [_, _], _ => rfl
  have bOut := GOut.binds (ps := ["gaps", "least"]) fun _ _ _ _ _ _ us hl => match us, hl with | [_, _], _ => rfl
  have bNm := GNm.binds (ps := ["cut", "keys", "slack"]) fun _ _ _ _ _ _ us hl => match us, hl with | [_, _, _], _ => rfl
  have bCb := GCb.binds (ps := ["cut", "obj"]) fun _ _ _ _ _ _ us hl => match us, hl with | [_, _], _ => rfl
  have bSource := GSource.binds (ps := ["_law_script", "_law_turn"]) fun _ _ _ _ _ _ us hl => match us, hl with | [_, _], _ => rfl
  have bDraw := GDraw.binds (ps := ["_law_source_here", "_law_amount"]) fun _ _ _ _ _ _ us hl => match us, hl with | [_, _], _ => rfl
  have bLO := GLO.binds (ps := ["_law_source_here", "_law_most"]) fun _ _ _ _ _ _ us hl => match us, hl with | [_, _], _ => rfl
  have bLN := GLN.binds (ps := ["_law_source_here", "_law_order_here"]) fun _ _ _ _ _ _ us hl => match us, hl with | [_, _], _ => rfl
  have bLG := GLG.binds (ps := ["_law_order_here", "_law_numbers_here", "_law_moment"]) fun _ _ _ _ _ _ us hl => match us, hl with | [_, _, _], _ => rfl
  have bLA := GLA.binds (ps := ["_law_order_here", "_law_words", "_law_moment"]) fun _ _ _ _ _ _ us hl => match us, hl with | [_, _, _], _ => rfl
  have bLB := GLB.binds (ps := ["_law_order_here", "_law_numbers_here", "_law_pair", "_law_slack"]) fun _ _ _ _ _ _ us hl => match us, hl with | [_, _, _, _], _ => rfl
  have bRi := GRi.binds (ps := ["_law_order_here", "_law_numbers_here"]) fun _ _ _ _ _ _ us hl => match us, hl with | [_, _], _ => rfl
  obtain ⟨dNu, GNu⟩ := FNu.ex
  have bNu := GNu.binds (ps := ["self"]) fun _ _ _ _ _ _ us hl => match us, hl with | [_], _ => rfl
  obtain ⟨dSp, GSp⟩ := FSp.ex
  have bSp := GSp.binds (ps := ["self"]) fun _ _ _ _ _ _ us hl => match us, hl with | [_], _ => rfl
  obtain ⟨dNe, GNe⟩ := FNe.ex
  have bNe := GNe.binds (ps := ["self"]) fun _ _ _ _ _ _ us hl => match us, hl with | [_], _ => rfl
  obtain ⟨dSe, GSe⟩ := FSe.ex
  have bSe := GSe.binds (ps := ["self"]) fun _ _ _ _ _ _ us hl => match us, hl with | [_], _ => rfl
  obtain ⟨dOp, GOp⟩ := FOp.ex
  have bOp := GOp.binds (ps := ["self", "other"]) fun _ _ _ _ _ _ us hl => match us, hl with | [_, _], _ => rfl
  obtain ⟨dOr, GOr⟩ := FOr.ex
  have bOr := GOr.binds (ps := ["self", "other"]) fun _ _ _ _ _ _ us hl => match us, hl with | [_, _], _ => rfl
  obtain ⟨dAn, GAn⟩ := FAn.ex
  have bAn := GAn.binds (ps := ["self", "other"]) fun _ _ _ _ _ _ us hl => match us, hl with | [_, _], _ => rfl
  obtain ⟨dI, GI⟩ := FI.ex
  have bI := GI.binds (ps := ["self", "order", "numbers"]) fun _ _ _ _ _ _ us hl => match us, hl with | [_, _, _], _ => rfl
  obtain ⟨dFb, GFb, cFb⟩ := C_Fb.ex
  have bFb := GFb.binds (ps := ["cut"]) fun _ _ _ _ _ _ us hl => match us, hl with | [_], _ => rfl
  have bL : ∀ (s : Shared) (u : Value), BindsTo s dL ⟨[u], []⟩ [("_law_script", u)] := by
    obtain ⟨oc, od, kV, doc, pm, an, cdv, ct, osl, rfl, _⟩ := GL.ex
    exact fun s u => .of_eq rfl
  have DSo : DefAt l.prog w K mg base 1 "_law_source" ["_law_script", "_law_turn"] (spSource K) := ⟨_, _, ok_source GSource ⟨B.len, B.max⟩, PySem.W.mg_of KX G aSource, GSource.kp, bSource⟩
  have DDr : DefAt l.prog w K mg base 1 "_law_draw" ["_law_source_here", "_law_amount"] (spDraw) := ⟨_, _, ok_draw GDraw, PySem.W.mg_of KX G aDraw, GDraw.kp, bDraw⟩
  have DWi : DefAt l.prog w K mg base 1 "is_integer_within" ["obj", "low", "high"] (spWithin) := ⟨_, _, ok_within GWin B, PySem.W.mg_of KX G aWin, GWin.kp, bWin⟩
  have DWo : DefAt l.prog w K mg base 1 "is_word" ["obj"] (spWord) := ⟨_, _, ok_word GWrd B, PySem.W.mg_of KX G aWrd, GWrd.kp, bWrd⟩
  have DOd : DefAt l.prog w K mg base 2 "is_order" ["obj"] (spOrder K) := ⟨_, _, ok_order GOrd B DWo, PySem.W.mg_of KX G aOrd, GOrd.kp, bOrd⟩
  have DNs : DefAt l.prog w K mg base 2 "are_numbers" ["obj", "order"] (spNum K) := ⟨_, _, ok_nums GNum B DWo DWi, PySem.W.mg_of KX G aNum, GNum.kp, bNum⟩
  have DDi : DefAt l.prog w K mg base 1 "distances" ["order", "numbers"] (spDist K) := ⟨_, _, ok_dist GDst B, PySem.W.mg_of KX G aDst, GDst.kp, bDst⟩
  have DOu : DefAt l.prog w K mg base 1 "outer_moments" ["gaps", "least"] (spOut K) := ⟨_, _, ok_outer GOut B, PySem.W.mg_of KX G aOut, GOut.kp, bOut⟩
  have MC : MkAt l.prog w K mg base CX0 3 "Cut" ["self", "order", "numbers"] C (spCut K C) := ⟨PySem.W.mg_of KX G aC, fI, dI, ⟨m_mk, m_in, m_fn, m_kp⟩, ok_cut GI B TC DOd DNs DDi DOu, bI⟩
  have PNu : PrAt l.prog w K mg base 1 C "numbers" ["self"] (spNumbers K C) := ⟨TC.cl, pNu, gNu, dNu, ⟨pNu_at, pNu_get, pNu_tk, r_Nu⟩, ok_numbers GNu B TC, bNu⟩
  have PSp : PrAt l.prog w K mg base 1 C "spread" ["self"] (spSpread K C) := ⟨TC.cl, pSp, gSp, dSp, ⟨pSp_at, pSp_get, pSp_tk, r_Sp⟩, ok_spread GSp B TC, bSp⟩
  have PNe : PrAt l.prog w K mg base 1 C "nearest" ["self"] (spNear K C) := ⟨TC.cl, pNe, gNe, dNe, ⟨pNe_at, pNe_get, pNe_tk, r_Ne⟩, ok_near GNe B TC, bNe⟩
  have PSe : PrAt l.prog w K mg base 1 C "seen" ["self"] (spSeen K C) := ⟨TC.cl, pSe, gSe, dSe, ⟨pSe_at, pSe_get, pSe_tk, r_Se⟩, ok_seen GSe B TC, bSe⟩
  have MOp : MtAt l.prog w K mg base CX0 1 C "check_operand" ["self", "other"] (spOper K C) := ⟨TC.cl, fOp, dOp, ⟨o_at, o_fn, o_kp⟩, ok_oper GOp B TC ⟨TC.cl, i_ha, i_hn, i_tk, i_hm, i_me⟩ (PySem.W.mg_of KX G aC), bOp⟩
  have DOr : Dun l.prog w K mg base CX0 5 C "__or__" ["self", "other"] (spJoin K C max) := ⟨uOr, dOr, uOr_at, uOr_fn, uOr_in, ok_or GOr B TC MOp MC, bOr⟩
  have DAn : Dun l.prog w K mg base CX0 5 C "__and__" ["self", "other"] (spJoin K C min) := ⟨uAn, dAn, uAn_at, uAn_fn, uAn_in, ok_and GAn B TC MOp MC, bAn⟩
  have DNm : DefAt l.prog w K mg base 1 "near_moments" ["cut", "keys", "slack"] (spNm K C) := ⟨_, _, ok_nm GNm B TC, PySem.W.mg_of KX G aNm, GNm.kp, bNm⟩
  have DCb : DefAt l.prog w K mg base 3 "check_bar" ["cut", "obj"] (spCb K C) := ⟨_, _, ok_cb GCb B TC PSp DNm, PySem.W.mg_of KX G aCb, GCb.kp, bCb⟩
  have DFb : DefG l.prog w K mg base 4 "find_bar" ["cut"] (spFb K C [(Pt, qFb)]) := ⟨_, _, ok_fb GFb cFb TB B TC PSp DNm, PySem.W.mg_of KX G aFb, GFb.kp, bFb⟩
  have DLO : DefAt l.prog w K mg base 2 "_law_order" ["_law_source_here", "_law_most"] (spLO K) := ⟨_, _, ok_lo GLO B DDr, PySem.W.mg_of KX G aLO, GLO.kp, bLO⟩
  have DLN : DefAt l.prog w K mg base 2 "_law_numbers" ["_law_source_here", "_law_order_here"] (spLN K) := ⟨_, _, ok_ln GLN B DDr, PySem.W.mg_of KX G aLN, GLN.kp, bLN⟩
  have DLG : DefAt l.prog w K mg base 1 "_law_gap" ["_law_order_here", "_law_numbers_here", "_law_moment"] (spLG K) := ⟨_, _, ok_lg GLG B, PySem.W.mg_of KX G aLG, GLG.kp, bLG⟩
  have DLA : DefAt l.prog w K mg base 1 "_law_at" ["_law_order_here", "_law_words", "_law_moment"] (spLA K) := ⟨_, _, ok_la GLA B, PySem.W.mg_of KX G aLA, GLA.kp, bLA⟩
  have DLB : DefAt l.prog w K mg base 1 "_law_bars" ["_law_order_here", "_law_numbers_here", "_law_pair", "_law_slack"] (spLB K) := ⟨_, _, ok_lb GLB B, PySem.W.mg_of KX G aLB, GLB.kp, bLB⟩
  have DRi : DefG l.prog w K mg base 5 "_law_right" ["_law_order_here", "_law_numbers_here"] (spLR [(Pt, qFb)]) := ⟨_, _, ok_lr GRi B TC MC PSp PNe PSe DLG DLB DCb DFb, PySem.W.mg_of KX G aRi, GRi.kp, bRi⟩
  refine run_law GL B TC c_sf MC PNu PSe DOr DAn DSo DDr DLO DLN DLA DRi bL e0 hS hns fun p hp => ?_
  rw [List.mem_singleton.mp hp]
  exact TabS.nil hT0
end K41
set_option Elab.async false
set_option linter.all false
set_option maxRecDepth 100000

open PySem PySem.W PyProof.Rows in
set_option maxRecDepth 100000 in
set_option maxHeartbeats 0 in
theorem PySem.Challenge.cw_slackcache_k41_whole_spreads_of_cuts_holds : PySem.Challenge.rw_slackcache_k41_whole_spreads_of_cuts.Holds := by
  w_on; o_law; k_head; (case hw => w_witness2)
  k_fill
  refine EX.walkT (l := PySem.Challenge.rw_slackcache_k41_whole_spreads_of_cuts) (n := 63) rfl (by decide) rfl (fun w h Y => PySem.W.km_in_of Y) ?F
  case F =>
    intro w mg fa h Y KX G hmg
    refine' K41.all_mk KX G hmg ?h_aL ?h_FL ?h_aWin ?h_FWin ?h_aWrd ?h_FWrd ?h_aOrd ?h_FOrd ?h_aNum ?h_FNum ?h_aDst ?h_FDst ?h_aOut ?h_FOut ?h_aNm ?h_FNm ?h_aCb ?h_FCb ?h_aSource ?h_FSource ?h_aDraw ?h_FDraw ?h_aLO ?h_FLO ?h_aLN ?h_FLN ?h_aLG ?h_FLG ?h_aLA ?h_FLA ?h_aLB ?h_FLB ?h_aRi ?h_FRi ?h_aFb ?h_C_Fb ?h_has1 ?h_aC ?h_c_pg ?h_c_hd ?h_c_po ?h_c_sa ?h_n_steps ?h_n_chosen ?h_n_gaps ?h_n_least ?h_n_closest ?h_n_shown ?h_m_mk ?h_m_in ?h_m_fn ?h_m_kp ?h_FI ?h_pNu_at ?h_pNu_get ?h_pNu_tk ?h_r_Nu ?h_FNu ?h_pSp_at ?h_pSp_get ?h_pSp_tk ?h_r_Sp ?h_FSp ?h_pNe_at ?h_pNe_get ?h_pNe_tk ?h_r_Ne ?h_FNe ?h_pSe_at ?h_pSe_get ?h_pSe_tk ?h_r_Se ?h_FSe ?h_o_at ?h_o_fn ?h_o_kp ?h_FOp ?h_uOr_at ?h_uOr_fn ?h_uOr_in ?h_FOr ?h_uAn_at ?h_uAn_fn ?h_uAn_in ?h_FAn ?h_c_sf ?h_i_ha ?h_i_hn ?h_i_tk ?h_i_hm ?h_i_me ?h_z_range ?h_z_max ?h_z_min ?h_z_len ?h_z_abs ?h_z_all ?h_z_isinstance ?h_z_tuple ?h_z_list ?h_z_dict ?h_z_int ?h_z_bool ?h_z_str ?h_z_sorted ?h_z_enumerate ?h_z_property ?h_k_lw ?h_k_lo
    (case h_aL => k_is)
    (case h_FL => refine' K41.fnAt ?l ?c ?k; (case l => k_is); (case c => k_is); (case k => k_is))
    (case h_aWin => k_is)
    (case h_FWin => refine' K41.fnAt ?l ?c ?k; (case l => k_is); (case c => k_is); (case k => k_is))
    (case h_aWrd => k_is)
    (case h_FWrd => refine' K41.fnAt ?l ?c ?k; (case l => k_is); (case c => k_is); (case k => k_is))
    (case h_aOrd => k_is)
    (case h_FOrd => refine' K41.fnAt ?l ?c ?k; (case l => k_is); (case c => k_is); (case k => k_is))
    (case h_aNum => k_is)
    (case h_FNum => refine' K41.fnAt ?l ?c ?k; (case l => k_is); (case c => k_is); (case k => k_is))
    (case h_aDst => k_is)
    (case h_FDst => refine' K41.fnAt ?l ?c ?k; (case l => k_is); (case c => k_is); (case k => k_is))
    (case h_aOut => k_is)
    (case h_FOut => refine' K41.fnAt ?l ?c ?k; (case l => k_is); (case c => k_is); (case k => k_is))
    (case h_aNm => k_is)
    (case h_FNm => refine' K41.fnAt ?l ?c ?k; (case l => k_is); (case c => k_is); (case k => k_is))
    (case h_aCb => k_is)
    (case h_FCb => refine' K41.fnAt ?l ?c ?k; (case l => k_is); (case c => k_is); (case k => k_is))
    (case h_aSource => k_is)
    (case h_FSource => refine' K41.fnAt ?l ?c ?k; (case l => k_is); (case c => k_is); (case k => k_is))
    (case h_aDraw => k_is)
    (case h_FDraw => refine' K41.fnAt ?l ?c ?k; (case l => k_is); (case c => k_is); (case k => k_is))
    (case h_aLO => k_is)
    (case h_FLO => refine' K41.fnAt ?l ?c ?k; (case l => k_is); (case c => k_is); (case k => k_is))
    (case h_aLN => k_is)
    (case h_FLN => refine' K41.fnAt ?l ?c ?k; (case l => k_is); (case c => k_is); (case k => k_is))
    (case h_aLG => k_is)
    (case h_FLG => refine' K41.fnAt ?l ?c ?k; (case l => k_is); (case c => k_is); (case k => k_is))
    (case h_aLA => k_is)
    (case h_FLA => refine' K41.fnAt ?l ?c ?k; (case l => k_is); (case c => k_is); (case k => k_is))
    (case h_aLB => k_is)
    (case h_FLB => refine' K41.fnAt ?l ?c ?k; (case l => k_is); (case c => k_is); (case k => k_is))
    (case h_aRi => k_is)
    (case h_FRi => refine' K41.fnAt ?l ?c ?k; (case l => k_is); (case c => k_is); (case k => k_is))
    (case h_aFb => k_is)
    (case h_C_Fb => refine' K41.fnC ?l ?cc ?k ?a ?h4 ?h5 ?out; (case l => k_is); (case cc => k_is); (case k => k_is); (case a => k_is); (case h4 => k_is); (case h5 => rfl); (case out => kernel_rfl))
    (case h_has1 => exact ⟨_, rfl⟩)
    (case h_aC => k_is)
    (case h_c_pg => k_is)
    (case h_c_hd => k_is)
    (case h_c_po => k_is)
    (case h_c_sa => k_is)
    (case h_n_steps => k_is)
    (case h_n_chosen => k_is)
    (case h_n_gaps => k_is)
    (case h_n_least => k_is)
    (case h_n_closest => k_is)
    (case h_n_shown => k_is)
    (case h_m_mk => k_is)
    (case h_m_in => k_is)
    (case h_m_fn => k_is)
    (case h_m_kp => k_is)
    (case h_FI => refine' K41.fnAt ?l ?c ?k; (case l => k_is); (case c => k_is); (case k => k_is))
    (case h_pNu_at => k_is)
    (case h_pNu_get => k_is)
    (case h_pNu_tk => k_is)
    (case h_r_Nu => apply Exists.intro; k_is)
    (case h_FNu => refine' K41.fnAt ?l ?c ?k; (case l => k_is); (case c => k_is); (case k => k_is))
    (case h_pSp_at => k_is)
    (case h_pSp_get => k_is)
    (case h_pSp_tk => k_is)
    (case h_r_Sp => apply Exists.intro; k_is)
    (case h_FSp => refine' K41.fnAt ?l ?c ?k; (case l => k_is); (case c => k_is); (case k => k_is))
    (case h_pNe_at => k_is)
    (case h_pNe_get => k_is)
    (case h_pNe_tk => k_is)
    (case h_r_Ne => apply Exists.intro; k_is)
    (case h_FNe => refine' K41.fnAt ?l ?c ?k; (case l => k_is); (case c => k_is); (case k => k_is))
    (case h_pSe_at => k_is)
    (case h_pSe_get => k_is)
    (case h_pSe_tk => k_is)
    (case h_r_Se => apply Exists.intro; k_is)
    (case h_FSe => refine' K41.fnAt ?l ?c ?k; (case l => k_is); (case c => k_is); (case k => k_is))
    (case h_o_at => k_is)
    (case h_o_fn => k_is)
    (case h_o_kp => k_is)
    (case h_FOp => refine' K41.fnAt ?l ?c ?k; (case l => k_is); (case c => k_is); (case k => k_is))
    (case h_uOr_at => k_is)
    (case h_uOr_fn => k_is)
    (case h_uOr_in => k_is)
    (case h_FOr => refine' K41.fnAt ?l ?c ?k; (case l => k_is); (case c => k_is); (case k => k_is))
    (case h_uAn_at => k_is)
    (case h_uAn_fn => k_is)
    (case h_uAn_in => k_is)
    (case h_FAn => refine' K41.fnAt ?l ?c ?k; (case l => k_is); (case c => k_is); (case k => k_is))
    (case h_c_sf => k_is)
    (case h_i_ha => k_is)
    (case h_i_hn => k_is)
    (case h_i_tk => k_is)
    (case h_i_hm => k_is)
    (case h_i_me => kernel_rfl)
    (case h_z_range => k_is)
    (case h_z_max => k_is)
    (case h_z_min => k_is)
    (case h_z_len => k_is)
    (case h_z_abs => k_is)
    (case h_z_all => k_is)
    (case h_z_isinstance => k_is)
    (case h_z_tuple => k_is)
    (case h_z_list => k_is)
    (case h_z_dict => k_is)
    (case h_z_int => k_is)
    (case h_z_bool => k_is)
    (case h_z_str => k_is)
    (case h_z_sorted => k_is)
    (case h_z_enumerate => k_is)
    (case h_z_property => k_is)
    (case h_k_lw => apply Exists.intro; k_is)
    (case h_k_lo => apply Exists.intro; k_is)

