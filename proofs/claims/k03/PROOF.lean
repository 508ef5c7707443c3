import PyProof.Rows.All
import Wide.All
import OpenK.AllK
import Wide.FinOn
import HandS.ForMost
import HandS.Wide
import HandS.Exc
import HandS.ExcInit
import HandS.IsInst
import KE.KExcInit
import KE.KExcIs
import KE.KIsAll
import PyProof.ReprRoads
import HandS.ExcField
import HandS.ExcIs
import HandS.TryMany
import HandS.ExcOwn
import PyProof.InstNe
import HandS.Flow
import HandS.SlotsOwn
import OpenK.KMeth
import HandS.Property
import HandS.HeadHook1
import HandS.HeadHook2
import HandS.HeadNt
import HandS.ClsMeth
import HandS.HeadHook3
import KE.KStateDown
import Lean
import HandS.Base
import HandS.Call
import HandS.Ends
import HandS.More
import HandS.Words
import HandS.WordsExc
import HandS.Defaults
import HandS.Head0
import HandS.Head1
import HandS.Head2
import HandS.HeadEnd
import HandS.Strs
import HandS.SetFor
import HandS.SortInts
import HandS.Walk
import HandS.WordsDict
import HandS.DictComp
import KE.KDictList
import PyProof.Rows.CountFlat
import HandS.Text
import PyProof.Rows.StrMeet
import HandS.Lambda
import HandS.EndTab
import HandS.Conv
import HandS.GenYield
import HandS.GenCall
import HandS.GenList
import HandS.Style
import HandS.StrMore
import HandS.TupAny
import HandS.ExcBuiltin
import HandS.TryOnly
import HandS.Star
import HandS.CallLocal
import HandS.List
import HandS.HeadWalk
import PySem.Challenge.RW_slackcache_k03_known_chains
set_option Elab.async false
set_option linter.all false
set_option maxRecDepth 100000
set_option maxHeartbeats 4000000
namespace EX
open PySem L2 PySem.Spec PyProof.Rows
abbrev exT : List Value := [.type "Exception", .type "BaseException", .type "object"]
/-- what the written part says of an own exception class below Exception -/
structure EcC (K : PySem.W.Frag) (C : Addr) : Prop where
  ini : PySem.W.excInitIn K C exT "Exception.__new__" = true
  ovr : PySem.W.excOver K C exT = true
  sa : PySem.W.findIn K (.ref C) "__setattr__" = some (some (.builtin "object.__setattr__"))
  ga : PySem.W.findIn K (.ref C) "__getattribute__" = some (some (.builtin "BaseException.__getattribute__"))
  gg : PySem.W.findIn K (.ref C) "__getattr__" = some none
  exC : PySem.W.subIn K (.ref C) (.type "BaseException") = some true
  hdC : PySem.W.hasDictIn K C = true
  kC : PySem.W.keepIn K (.ref C) = true
  cl : (PySem.W.clsIn K C).isSome = true
  cA : PySem.W.findIn K (.ref C) "__class__" = some (some (.builtin "object.__class__"))
  mo : PySem.W.mroIn K C (.type "object") = some true
  sp : PySem.W.specialIn K (.builtin "object.__class__") "__get__" = some (some (.builtin "getset_descriptor.__get__"))
  tk : PySem.W.takesIn K (.builtin "object.__class__") = some true
theorem upd_comm {H : Hp} {a b : Addr} {o u : HO} (h : a ≠ b) : upd (upd H a o) b u = upd (upd H b u) a o := by
  funext c
  by_cases hb : c = b
  · subst hb
    rw [upd_same, upd_ne (Ne.symm h), upd_same]
  · rw [upd_ne hb]
    by_cases ha : c = a
    · subst ha
      rw [upd_same, upd_same]
    · rw [upd_ne ha, upd_ne ha, upd_ne hb]
theorem upd_upd {H : Hp} {a : Addr} {o u : HO} : upd (upd H a o) a u = upd H a u := by
  funext c
  by_cases ha : c = a
  · subst ha
    rw [upd_same, upd_same]
  · rw [upd_ne ha, upd_ne ha, upd_ne ha]
section
variable {X : Cx} {pins : List (Addr × Obj)} {σ : L2.St} {H : Hp} {s : Shared} {a C dx : Addr} {f : Str} {y : V} {u : Value} {fs : List (Str × V)} {Q : Unit → Shared → Prop} {E : Value → Shared → Prop} {A : Around}
/-- the first field of a new exception -/
theorem est_new (T : EcC X.K C) (I : Inv X pins σ H s) (e : H a = some (exo a C none)) (htk : PySem.W.takerIn X.K C f = some none) (ry : RelV y u)
    (h : ∀ dx s', H dx = none → dx ≠ a → Inv X pins σ (upd (upd H dx (exd dx [(f, y)])) a (exo a C (some dx))) s' → Q () s') :
    wpAny (model X.prog X.w) A (setAttr (.ref a) f u) Q E s := by
  obtain ⟨t1, ho⟩ := exo_at I.hok e
  obtain ⟨cd, hc, hd'⟩ := PySem.W.any_some T.hdC
  obtain ⟨hp, g, d, t, os⟩ := s
  have hlt : a < hp.objs.size := Heap.lt_size ho
  refine PySem.W.set_plain I.kIn (od := none) ⟨ho, rfl, rfl, trivial⟩ T.sa ?_
  refine PySem.W.osa_openX (od := none) PySem.F.store_Exception I.kIn ⟨ho, rfl, rfl, trivial⟩ T.ovr htk fun b => ?_
  refine wpAny_bind (wpAny_pure (wpAny_bind (PySem.W.instanceDict_exc ho (PySem.W.looks_clsIn I.kIn hc) hd' ?_)))
  show wpAny _ _ (Builtin.ObjectAttr.storeInDict hp.objs.size (.str f _) f u) _ _ _
  have hn0 : H hp.objs.size = none := I.hok.fresh (Nat.le_refl _)
  have hne : hp.objs.size ≠ a := Nat.ne_of_gt hlt
  -- the new dict is laid
  have J1 := I.laid (t' := t) (a := hp.objs.size) (o := exd hp.objs.size []) (h' := hp.push (PySem.W.dictOf [] 0)) (fun b o q => Heap.get?_push_of_some _ q) (Nat.le_refl _)
    (exd_ok (mA := fun _ => none) (Heap.Ns1.of_empty ⟨_, #[], _, Heap.get?_push_at rfl rfl, rfl, fun x hx => absurd hx (by simp), fun _ => rfl⟩) fun _ => True.intro)
  have e1 : upd H hp.objs.size (exd hp.objs.size []) a = some (exo a C none) := by rw [upd_ne (Ne.symm hne)]; exact e
  have ho1 : (hp.push (PySem.W.dictOf [] 0)).get? a = some { cls := .ref C, dict := none, data := .fields #[.ref t1, .none, .none, .none, .bool false, .none] } := Heap.get?_push_of_some _ ho
  -- the object gets it
  have ho2 : ((hp.push (PySem.W.dictOf [] 0)).update a fun o => { o with dict := some hp.objs.size }).get? a = some { cls := .ref C, dict := some hp.objs.size, data := .fields #[.ref t1, .none, .none, .none, .bool false, .none] } :=
    Heap.get?_update_self _ ho1 rfl
  have J2 := J1.write (t' := t) (x := a) (e := a) (o := exo a C (some hp.objs.size)) (h' := (hp.push (PySem.W.dictOf [] 0)).update a fun o => { o with dict := some hp.objs.size })
    (by rw [e1]; exact True.intro) (.inl rfl) (fun b o hb q => (Heap.get?_update_ne _ _ _ _ hb).trans q) ⟨_, ho2⟩ (exo_ok ho2)
  have hD : ((hp.push (PySem.W.dictOf [] 0)).update a fun o => { o with dict := some hp.objs.size }).get? hp.objs.size = some (PySem.W.dictOf [] 0) :=
    (Heap.get?_update_ne _ _ _ _ hne).trans (Heap.get?_push_at rfl rfl)
  refine PySem.HandSPX.store_in_new ⟨_, #[], _, hD, rfl, fun x hx => absurd hx (by simp), fun _ => rfl⟩ fun h' tk' hn' hs => ?_
  have hd2 : ∃ o, h'.get? hp.objs.size = some o := by
    obtain ⟨o, _, _, q, _⟩ := hn'
    exact ⟨o, q⟩
  have e2 : upd (upd H hp.objs.size (exd hp.objs.size [])) a (exo a C (some hp.objs.size)) hp.objs.size = some (exd hp.objs.size []) := by rw [upd_ne hne, upd_same]
  have J3 := J2.write (t' := tk') (x := hp.objs.size) (e := hp.objs.size) (o := exd hp.objs.size [(f, y)]) (h' := h') (by rw [e2]; exact True.intro) (.inl rfl)
    (fun b o hb q => (hs.2 b hb).trans q) hd2 (exd_ok hn' (relO_put (fs := []) ry fun _ => True.intro))
  have eH : upd (upd (upd H hp.objs.size (exd hp.objs.size [])) a (exo a C (some hp.objs.size))) hp.objs.size (exd hp.objs.size [(f, y)]) =
      upd (upd H hp.objs.size (exd hp.objs.size [(f, y)])) a (exo a C (some hp.objs.size)) := by
    rw [upd_comm (Ne.symm hne), upd_upd]
  rw [eH] at J3
  exact h _ _ hn0 hne J3
/-- a further field of an exception -/
theorem est_old (T : EcC X.K C) (I : Inv X pins σ H s) (e : H a = some (exo a C (some dx))) (ed : H dx = some (exd dx fs)) (hl : fs.length ≤ 900) (htk : PySem.W.takerIn X.K C f = some none) (ry : RelV y u)
    (h : ∀ s', Inv X pins σ (upd H dx (exd dx ((f, y) :: fs))) s' → Q () s') : wpAny (model X.prog X.w) A (setAttr (.ref a) f u) Q E s := by
  obtain ⟨t1, ho⟩ := exo_at I.hok e
  obtain ⟨mA, hns, rel⟩ := exd_at I.hok ed
  have hw := within_of rel
  obtain ⟨cd, hc, hd'⟩ := PySem.W.any_some T.hdC
  obtain ⟨hp, g, d, t, os⟩ := s
  obtain ⟨oD, es, ep, hoD, hdD, hcD⟩ := hns.count hw
  refine PySem.W.set_plain I.kIn (od := some oD) ⟨ho, rfl, rfl, hoD⟩ T.sa ?_
  refine PySem.W.osa_openX (od := some oD) PySem.F.store_Exception I.kIn ⟨ho, rfl, rfl, hoD⟩ T.ovr htk fun b => ?_
  refine wpAny_bind (wpAny_pure (wpAny_bind (wpAny_bind (wpAny_loadPart ho (wpAny_bind ((PySem.W.looks_clsIn I.kIn hc).at ?_))))))
  rw [hd']
  refine wpAny_pure (a := some dx) ?_
  show wpAny _ _ (Builtin.ObjectAttr.storeInDict dx (.str f _) f u) _ _ _
  refine PySem.OEX.store_in_old hns hw (by rw [List.length_map]; omega) fun h' tk' hn' hs => ?_
  have hd2 : ∃ o, h'.get? dx = some o := by
    obtain ⟨o, _, _, q, _⟩ := hn'
    exact ⟨o, q⟩
  exact h _ (I.write (t' := tk') (x := dx) (e := dx) (o := exd dx ((f, y) :: fs)) (h' := h') (by rw [ed]; exact True.intro) (.inl rfl) (fun b o hb q => (hs.2 b hb).trans q) hd2 (exd_ok hn' (relO_put ry rel)))
end

/-! ### readings and rules -/
/-- self.f = e, self an exception -/
def tEst (K : PySem.W.Frag) (f : Str) (to te : TE) : TS := fun D σ H => te σ H fun y H1 => to σ H1 fun x H2 => ∃ a C : Addr, x = .ref a ∧ EcC K C ∧ PySem.W.takerIn K C f = some none ∧
  ((H2 a = some (exo a C none) ∧ ∀ dx, H2 dx = none → dx ≠ a → D.nx σ (upd (upd H2 dx (exd dx [(f, y)])) a (exo a C (some dx)))) ∨
    ∃ (dx : Addr) (fs : List (Str × V)), H2 a = some (exo a C (some dx)) ∧ H2 dx = some (exd dx fs) ∧ fs.length ≤ 900 ∧ D.nx σ (upd H2 dx (exd dx ((f, y) :: fs))))
/-- C(e, ..), an exception as a value -/
def tMkE (C : Addr) (sp : Sp) (dvs : List V) (ta : TA) : TE := fun σ H Q => ta σ H fun vs H1 => vs.length ≤ 1000 ∧ ∀ a, H1 a = none →
  sp (.ref a :: (vs ++ dvs)) (upd H1 a (exo a C none)) (fun v H2 => v = .non ∧ Q (.ref a) H2) (fun _ _ _ => False)
/-- e.f, e an exception -/
def tEf (K : PySem.W.Frag) (f : Str) (te : TE) : TE := fun σ H Q => te σ H fun x H1 => ∃ (a C dx : Addr) (fs : List (Str × V)) (v : V), x = .ref a ∧ EcC K C ∧ PySem.W.findIn K (.ref C) f = some none ∧
  H1 a = some (exo a C (some dx)) ∧ H1 dx = some (exd dx fs) ∧ fs.lookup f = some v ∧ Q v H1
section
variable {X : Cx} {o e : Expr} {es : List Expr} {to te : TE} {ta : TA} {f : Str} {p p' pos : Pos}
theorem ps_est (ho : PE X o to) (he : PE X e te) (hs : swapsWith e (some (.Attribute o f p')) pos.line X.env = pure false := by rfl) : PS X (.Assign [.Attribute o f p'] e pos) (tEst X.K f to te) := by
  refine ⟨fun pins s σ H D I h => plainObj_wpAny_Assign_Attribute (thn (he.run pins s σ H _ I h) ?_) hs⟩
  intro v s1 ⟨y, H1, I1, r1, q1⟩
  refine thn (ho.run pins s1 σ H1 _ I1 q1) ?_
  intro u s2 ⟨x, H2, I2, r2, a, C, ex, T, hno, q⟩
  subst ex
  obtain rfl : u = Value.ref a := r2
  rcases q with ⟨ea, q⟩ | ⟨dx, fs, ea, ed, hl, q⟩
  · exact est_new T I2 ea hno r1 fun dx s' n ne J => ⟨σ, _, J, q dx n ne⟩
  · exact est_old T I2 ea ed hl hno r1 fun s' J => ⟨σ, _, J, q⟩
theorem pe_ef (he : PE X e te) (hb : attributeBase e f X.env (eval e X.env) = eval e X.env := by rfl) : PE X (.Attribute e f pos) (tEf X.K f te) := by
  refine ⟨fun pins s σ H Q I h => attr_of hb (thn (he.run pins s σ H _ I h) ?_)⟩
  intro u s1 ⟨x, H1, I1, rx, a, C, dx, fs, v, ex, T, hno, ea, ed, l, q⟩
  subst ex
  obtain rfl : u = Value.ref a := rx
  obtain ⟨t1, ho⟩ := exo_at I1.hok ea
  obtain ⟨mA, hns, rel⟩ := exd_at I1.hok ed
  obtain ⟨od, hod, hl⟩ := lookIn_ns hns
  obtain ⟨w0, hu, ru⟩ := RelO.some_of (v := v) (o := mA f) (by rw [← l]; exact rel f)
  have J : PySem.W.InstAt s1.heap a _ C (some od) := ⟨ho, rfl, rfl, hod⟩
  exact HandSPX.exc_get I1.kIn J T.ga T.gg T.exC (PySem.W.findObj_own T.hdC hno rfl (by rw [hl, hu])) (handed_of ru) ⟨v, H1, I1.tok _, ru, q⟩
theorem pe_mkE {CX : CXT} {x : Str} {C fI : Addr} {k : Nat} {fd : FuncData} {ps : List Str} {sp : Sp} {ds : List Value} {dvs : List V} (T : EcC X.K C) (iC : PySem.W.findIn X.K (.ref C) "__init__" = some (some (.ref fI)))
    (tI : PySem.W.typeIn X.K (.ref fI) = some (.type "function")) (F1 : FnOk X.prog X.w X.K X.mg X.base CX k fI fd ps sp) (hr : Room (k + 1) X.A) (hb : Binds X.K fd ps ds) (hd : Vals dvs ds) (hx : Passes CX X (fun _ _ _ => False))
    (hg : Gl X x) (hm : X.mg x = some (.ref C)) (ha : PA X (e :: es) ta)
    (hdb : (x == ("__debug__" : Str)) = false := by decide) (he : starEach (e :: es) X.env = (false, eval e X.env) :: starEach es X.env := by rfl) (hpl : (backTo pos (starEach es X.env)).any (·.1) = false := by rfl) :
    PE X (.Call (.Name x p) (e :: es) [] pos) (tMkE C sp dvs ta) := by
  refine ⟨fun pins s σ H Q I h => wpAny_Call_Name_kw (ld_glob I hg hm ?_ hdb)⟩
  refine PySem.W.callWith_K (h₀ := X.base) I.ok.mod.kin T.kC (thn (ha.run pos pins s σ H _ I h) ?_) he hpl
  intro us s1 ⟨vs, H1, I1, r1, hz, q1⟩
  refine ⟨I1.kIn, ?_⟩
  show wpAny _ _ (call (.ref C) us) _ _ _
  obtain ⟨nm, N', qn, bs, bm, hdct, sn, sub, ab, col, dd, k0, k1, k2, k3, k5, hC, hT⟩ := PySem.W.excInit_of I1.kIn T.ini
  obtain ⟨hp, g, dr, tk, os⟩ := s1
  have hsz : hp.objs.size ≤ hp.objs.size + 1 := Nat.le_succ _
  have hn : H1 (hp.objs.size + 1) = none := I1.hok.fresh hsz
  have hq := q1 _ hn
  have hget : ((hp.push (PySem.W.kdv_tup us)).push (PySem.HandSPX.excO C hp.objs.size)).get? (hp.objs.size + 1) = some (PySem.HandSPX.excO C hp.objs.size) := by heap_get
  have I2 := I1.laid (t' := tk) (a := hp.objs.size + 1) (o := exo (hp.objs.size + 1) C none) (h' := (hp.push (PySem.W.kdv_tup us)).push (PySem.HandSPX.excO C hp.objs.size))
    (fun b o z => Heap.get?_push_of_some _ (Heap.get?_push_of_some _ z)) hsz (exo_ok hget)
  have r2 : Vals (V.ref (hp.objs.size + 1) :: (vs ++ dvs)) (Value.ref (hp.objs.size + 1) :: (us ++ ds)) := .cons rfl (r1.append hd)
  have hl : (Value.ref (hp.objs.size + 1) :: us ++ ds).length = ps.length := r2.length.symm.trans (F1.len _ _ _ _ hq)
  have hus : us.length ≤ sizeLine := by
    have := Paired.length r1
    rw [sizeLine_eq]
    omega
  refine wpAny_call (PySem.HandSPX.call_own PySem.F.excBase_Exception hT hC (PySem.W.looks_findIn I1.kIn iC) (fun self => PySem.W.bind_fn I1.kIn self tI) hus (codeAny_mono
    (F1.run _ X.stack _ _ ⟨Value.ref (hp.objs.size + 1) :: us, []⟩ (Value.ref (hp.objs.size + 1) :: (us ++ ds)) _ _ (fun _ _ _ => False) (hr.make C us []) (I2.env0.make C us []) (hb _ (Value.ref (hp.objs.size + 1) :: us) I2.kIn hl) r2 hq) ?_))
  intro r s' hq'
  cases r with
  | error er => exact hx pins σ _ _ er s' I2 hq'
  | ok fl =>
    cases fl with
    | ret u =>
      obtain ⟨v, H2, os2, bare2, un2, hok2, rv, ev, q2⟩ := hq'
      subst ev
      obtain ⟨h2, g2, d2, t2, os'⟩ := s'
      refine ⟨rv, V.ref (hp.objs.size + 1), H2, I2.call' (ch := []) os2 un2 hok2 bare2 (fun b z => absurd z (by simp)), rfl, q2⟩
    | next => exact False.elim hq'
    | brk => exact False.elim hq'
    | cont => exact False.elim hq'
/-- isinstance(e, c), e an exception, one class -/
def rIsiE (K : PySem.W.Frag) : List V → Hp → VK → Prop := fun xs H Q => ∃ (a C dx : Addr) (fs : List (Str × V)) (c : V) (u : Value) (b : Bool), xs = [.ref a, c] ∧ H a = some (exo a C (some dx)) ∧ H dx = some (exd dx fs) ∧ EcC K C ∧ ClsV c u ∧
  PySem.W.kitOne K (.ref C) u = some b ∧ Q (.bl b) H
/-- isinstance(e, (c1, c2, ..)), the tuple just laid -/
def rIsiET (K : PySem.W.Frag) : List V → Hp → VK → Prop := fun xs H Q => ∃ (a C dx tp : Addr) (fs : List (Str × V)) (cs : List V) (us : List Value) (b : Bool), xs = [.ref a, .ref tp] ∧ H a = some (exo a C (some dx)) ∧ H dx = some (exd dx fs) ∧ EcC K C ∧
  H tp = some (.tup cs) ∧ Paired ClsV cs us ∧ PySem.W.kitAny K (.ref C) us = some b ∧ Q (.bl b) H
theorem kit_exc {K : PySem.W.Frag} {C : Addr} (T : EcC K C) {x : Addr} {ox : Obj} {od : Option Obj} : PySem.W.KitX K (.ref x) (.ref C) (fun h => PySem.W.InstAt h x ox C od) :=
  PySem.W.kitx_exc T.cl T.ga T.gg T.exC T.cA T.sp T.tk T.mo
theorem call_isiE : CallR X (.builtin "isinstance") (rIsiE X.K) := by
  intro pins s σ H xs us Q I r h
  obtain ⟨a, C, dx, fs, c, u, b, rfl, ea, ed, T, k, e, q⟩ := h
  obtain ⟨u1, u2, rfl, r1, r2⟩ := vals2 r
  obtain rfl := k.eq r2
  obtain rfl : u1 = Value.ref a := r1
  obtain ⟨t1, ho⟩ := exo_at I.hok ea
  obtain ⟨mA, hns, rel⟩ := exd_at I.hok ed
  obtain ⟨od, hod, _⟩ := lookIn_ns hns
  exact PySem.W.kia_one (kit_exc T (od := some od)) I.kIn ⟨ho, rfl, rfl, hod⟩ e (fun z => nomatch z) fun tk => ⟨.bl b, H, I.tok tk, rfl, q⟩
theorem call_isiET : CallR X (.builtin "isinstance") (rIsiET X.K) := by
  intro pins s σ H xs us Q I r h
  obtain ⟨a, C, dx, tp, fs, cs, vs, b, rfl, ea, ed, T, et, pr, e, q⟩ := h
  obtain ⟨u1, u2, rfl, r1, r2⟩ := vals2 r
  obtain rfl : u1 = Value.ref a := r1
  obtain rfl : u2 = Value.ref tp := r2
  obtain ⟨t1, ho⟩ := exo_at I.hok ea
  obtain ⟨mA, hns, rel⟩ := exd_at I.hok ed
  obtain ⟨od, hod, _⟩ := lookIn_ns hns
  have z : ObjOk X.prog X.w H s.heap tp (.tup cs) := I.hok tp _ et
  obtain ⟨_, its, rv, o, h1, h2, n, h3⟩ := z
  obtain rfl := ClsV.all pr rv
  obtain ⟨oc, od', dt, sl⟩ := o
  dsimp only at h2 h3
  subst h2 h3
  exact PySem.W.kia_tup (kit_exc T (od := some od)) I.kIn ⟨ho, rfl, rfl, hod⟩ h1 e (fun z => nomatch z) fun tk => ⟨.bl b, H, I.tok tk, rfl, q⟩
end
/-- plain data, or a dict of one int -/
inductive Rp (K : PySem.W.Frag) (H : Hp) : V → PyData → Prop where
  | dp {v : V} {d : PyData} : Dp K H v d → d.hasDict = false → Rp K H v d
  | dic {a : Addr} {k n : Int} : H a = some (.dK [(Sum.inl k, .int n)]) → Rp K H (.ref a) (.dict [(.int k, .int n)])
  | dis {a : Addr} {k : Str} {n : Int} : H a = some (.dK [(Sum.inr k, .int n)]) → Rp K H (.ref a) (.dict [(.str k, .int n)])
def rRepr (K : PySem.W.Frag) : List V → Hp → VK → Prop := fun xs H Q => ∃ (x : V) (d : PyData), xs = [x] ∧ Rp K H x d ∧ d.showable = true ∧ d.depth ≤ 60 ∧ d.shown.length ≤ sizeLine ∧ Q (.str d.shown) H
section
variable {X : Cx} {pins : List (Addr × Obj)} {σ : L2.St} {H : Hp} {s : Shared}
theorem Rp.reads (I : Inv X pins σ H s) {v : V} {d : PyData} {u : Value} (h : Rp X.K H v d) (r : RelV v u) : ∃ as, Reads s.heap u d as ∧ (d.hasDict = true → sysModules ∉ as) := by
  cases h with
  | dp h nd =>
    obtain ⟨as, q⟩ := Dp.reads I d v u h r
    exact ⟨as, q, fun z => by rw [nd] at z; cases z⟩
  | @dic a k n e =>
    obtain rfl : u = Value.ref a := r
    have z : ObjOk X.prog X.w H s.heap a (.dK [(Sum.inl k, .int n)]) := I.hok a _ e
    obtain ⟨_, hsm, vs, kv, o, es, ep, ho, hx, hd, _, hp, _⟩ := z
    cases kv with
    | @cons _ q0 _ qs k1 kr =>
      cases kr
      obtain ⟨ek, rv⟩ := k1
      obtain ⟨kk, vv⟩ := q0
      dsimp only at ek rv
      subst ek
      obtain ⟨t, rfl⟩ : ∃ t, vv = Value.int n t := rv
      generalize el : es.toList = l at hp
      cases hp with
      | @cons e1 kv1 es1 kvs1 p1 p2 p3 =>
        cases p3
        obtain ⟨hsh, key, val⟩ := e1
        dsimp only at p1 p2
        subst p2
        have p1 : Value.isInt k key = true := p1
        obtain ⟨t2, rfl⟩ : ∃ t2, key = Value.int k t2 := by
          cases key <;> simp_all [Value.isInt]
        refine ⟨a :: [] ++ [], Reads.dict ho hx.1 hd (as := []) (bs := []) ?_ ?_, fun _ z => ?_⟩
        · rw [el]
          exact ReadsAll.cons (bs := []) (Reads.int k t2) ReadsAll.nil
        · rw [el]
          exact ReadsAll.cons (bs := []) (Reads.int n t) ReadsAll.nil
        · rw [List.append_nil, List.mem_singleton] at z
          rw [z] at hsm
          simp at hsm
  | @dis a k n e =>
    obtain rfl : u = Value.ref a := r
    have z : ObjOk X.prog X.w H s.heap a (.dK [(Sum.inr k, .int n)]) := I.hok a _ e
    obtain ⟨_, hsm, vs, kv, o, es, ep, ho, hx, hd, _, hp, _⟩ := z
    cases kv with
    | @cons _ q0 _ qs k1 kr =>
      cases kr
      obtain ⟨ek, rv⟩ := k1
      obtain ⟨kk, vv⟩ := q0
      dsimp only at ek rv
      subst ek
      obtain ⟨t, rfl⟩ : ∃ t, vv = Value.int n t := rv
      generalize el : es.toList = l at hp
      cases hp with
      | @cons e1 kv1 es1 kvs1 p1 p2 p3 =>
        cases p3
        obtain ⟨hsh, key, val⟩ := e1
        dsimp only at p1 p2
        subst p2
        have p1 : Value.isStrOf k key = true := p1
        obtain ⟨t2, rfl⟩ := Value.isStrOf_shape p1
        refine ⟨a :: [] ++ [], Reads.dict ho hx.1 hd (as := []) (bs := []) ?_ ?_, fun _ z => ?_⟩
        · rw [el]
          exact ReadsAll.cons (bs := []) (Reads.str k t2) ReadsAll.nil
        · rw [el]
          exact ReadsAll.cons (bs := []) (Reads.int n t) ReadsAll.nil
        · rw [List.append_nil, List.mem_singleton] at z
          rw [z] at hsm
          simp at hsm
theorem call_reprD (hg : X.A.guards = some []) (hu : X.A.units + 70 < cLine) : CallR X (.builtin "repr") (rRepr X.K) := by
  intro pins s σ H xs us Q I r h
  obtain ⟨x, d, rfl, hR, hs, hdp, hz, q⟩ := h
  obtain ⟨u, rfl, ru⟩ := vals1 r
  obtain ⟨as, hr, hsm⟩ := hR.reads I ru
  have sc : ∀ (b : Str), d.shown = b → ∀ tk, EP X pins σ Q (.str b tk) { s with toks := s.toks + 1 } := fun b e tk => ⟨.str b, H, I.tok _, ⟨_, rfl⟩, e ▸ q⟩
  cases hr with
  | none => exact PySem.P.repr_of_none (sc _ rfl _)
  | bool b => exact PySem.P.repr_of_bool (sc _ (by cases b <;> rfl) _)
  | int i t => exact PySem.P.repr_of_int (of_decide_eq_true hs) (sc _ rfl _)
  | str y t => exact PySem.P.repr_of_str (sc _ rfl _) hz
  | list h1 h2 h3 h4 =>
    refine repr_of_reads' (Reads.list h1 h2 h3 h4) hs hsm hg (by omega) (fun _ _ e => e) (fun h' u tk k => ?_) hz
    exact ⟨.str _, H, I.kept k, ⟨_, rfl⟩, q⟩
  | tuple h1 h2 h3 h4 =>
    refine repr_of_reads' (Reads.tuple h1 h2 h3 h4) hs hsm hg (by omega) (fun _ _ e => e) (fun h' u tk k => ?_) hz
    exact ⟨.str _, H, I.kept k, ⟨_, rfl⟩, q⟩
  | dict h1 h2 h3 h4 h5 =>
    refine repr_of_reads' (Reads.dict h1 h2 h3 h4 h5) hs hsm hg (by omega) (fun _ _ e => e) (fun h' u tk k => ?_) hz
    exact ⟨.str _, H, I.kept k, ⟨_, rfl⟩, q⟩
end

/-! ### a def at one call, what runs around it known (so repr of what holds other things may be said) -/
theorem fn_at {P : Program} {w : World} {K : PySem.W.Frag} {mg : Str → Option Value} {base : Heap} {k : Nat} {x qual : Str} {st : Stmt} {f : Addr} {fd : FuncData} {N ps : List Str} (F : Fun K x qual st f fd) (S : FnScope N ps (defScope st))
    {A : Around} {outer : List Env} {s : Shared} {H : Hp} {args : Args} {us : List Value} {vs : List V} {Q : VK} {E : XK} (hr : Room (k + 1) A) (e0 : Env0 P w K mg base A outer s H) (hb : BindsTo s fd args (ps.zip us)) (rv : Vals vs us) (hl : vs.length = ps.length)
    (body : ∀ cdv : Value, Room k (A.deeper (envOfC qual (defScope st) s.heap.objs.size f cdv)) → ∃ t, PSs (cxOf CX0 P w K mg base N qual (defScope st) f cdv A outer s H E) (defBody st) t ∧ t { nx := fun _ H' => Q .non H', rt := Q } (start N vs) H) :
    codeAny (model P w) A (.call (.ref f) args) (CR CX0 outer P w H s Q E) s := by
  obtain ⟨oc, od, kV, doc, pm, an, cdv, ct, osl, rfl, lk, hcd⟩ := F.ex
  have kin : K.In s.heap := e0.mod.kin.keeps fun b o z => (e0.bs b o z).1
  have lim : s.heap.NoLimit := e0.mod.nolimit.keeps fun b o z => (e0.bs b o z).1
  have par : ∀ y ∈ ps.zip us, (defScope st).names.lookup y.1 = some .local ∨ ((defScope st).names.lookup y.1 = some .cell ∧ ((cellsFrom (s.heap.objs.size + 1) (defScope st).names []).lookup y.1).isSome = true) := by
    rintro ⟨n, v⟩ hy
    cases S.par n (List.of_mem_zip hy).1 with
    | inl q => exact .inl q
    | inr q => exact .inr ⟨q, PySem.W.cellsFrom_some _ _ _ (.inl q)⟩
  refine codeAny_call_function hr.depth (kin _ _ lk) rfl S.co S.gen rfl (PySem.W.codeRec_of kin hcd) (hb _ _ _ _ (wpAny_newFunctionEnv_cells S.kind par ?_))
  rintro env he s1 hin
  subst he
  refine ⟨lim.keeps hin.toInCall.keep, codeAny_func ?_⟩
  obtain ⟨t, ht, hq⟩ := body cdv (hr.deeper _)
  refine wpAny_mono (ht.run [] s1 (start N vs) H _ (inv_start S hr.hd e0 hl rv hin) hq) ?_ fun _ _ z => z
  rintro fl s' hs
  cases fl with
  | next =>
    obtain ⟨σ', H', J, q⟩ := hs
    exact ⟨V.non, H', J.os, J.bare, J.base, J.hok, rfl, q⟩
  | ret u =>
    obtain ⟨v, σ', H', J, r, q⟩ := hs
    exact ⟨v, H', J.os, J.bare, J.base, J.hok, r, q⟩
  | brk =>
    obtain ⟨_, _, _, q⟩ := hs
    exact q.elim
  | cont =>
    obtain ⟨_, _, _, q⟩ := hs
    exact q.elim
/-- the law's end, the law's own call met at callerA -/
theorem walkG {l : PySem.W.OpenLaw} {n : Nat} {q : Program} {loose : List Str} {XP : (Str → Option Value) → Heap → Prop} {YP : World → Heap → Prop} {d : DefRec} {K : Params → PySem.W.Frag}
    (hn : l.most = some n) (hn2 : n ≤ sizeLine) (hdf : d.params.defaults = []) (hY : ∀ (w : World) (h : Heap), YP w h → (K w.params).In h)
    (F : ∀ (w : World) (mg : Str → Option Value) (fa : Addr) (h : Heap), (K w.params).In h → h.Ns mainGlobals mg → mg d.name = some (.ref fa) →
      ∀ base : Heap, (K w.params).In base → base.Ns mainGlobals mg → ∀ (s : Shared) (H : Hp) (a : Addr) (ns : List Int), ns.length ≤ n → SqL (K w.params) H a (ns.map V.int) → Env0 l.prog w (K w.params) mg base callerA [] s H →
        codeAny (model l.prog w) callerA (.call (.ref fa) ⟨[.ref a], []⟩) (CR CX0 [] l.prog w H s (fun v _ => v = .bl true) E0) s) :
    PySem.W.WalkO q loose XP YP l.row.toRowW d [] (fun f vs => PySem.call f vs) := by
  refine Att.attach_call hn hdf ?_
  intro w s₀ s₁ mg mb fa o pm cd doc a vs ns G Y ho hd hcd hmg hobj hints hlen hg
  have kin := hY w _ Y
  have rv := vals_ints hints
  have lv := hints.length
  have key : ∀ H : Hp, Only H → SqL (K w.params) H a (ns.map V.int) → HOk l.prog w H s₁.heap → (∀ b, H b ≠ none → b = a) → (H a ≠ none → (K w.params).lookup a = none) →
      codeAny (model l.prog w) callerA (.call (.ref fa) ⟨[.ref a], []⟩) (fun r s' => r = .ok (.ret (.bool true)) ∧ OldK s₁.heap s'.heap ∧ s'.os = s₁.os ∧ AllBare s'.gens) s₁ := by
    intro H only sq hok onlyA notK
    have freeD : ∀ {b : Addr} {o : Obj} {es : Array DictEntry} {ep : Nat}, s₁.heap.get? b = some o → o.data = .dict es ep → H b = none := by
      intro b o es ep e1 e2
      cases h : H b with
      | none => rfl
      | some u =>
        have e3 : b = a := onlyA b (by rw [h]; exact fun z => nomatch z)
        rw [e3, hobj] at e1
        cases e1
        cases e2
    have nsB : ∀ {b : Addr} {m : Str → Option Value}, s₁.heap.Ns b m → (hidT s₁.heap H).Ns b m := by
      rintro b m ⟨o, es, ep, e1, e2, r⟩
      exact ⟨o, es, ep, hidT_get e1 (freeD e1 e2), e2, r⟩
    have kinB : (K w.params).In (hidT s₁.heap H) := by
      intro b o e
      refine hidT_get (kin b o e) ?_
      cases h : H b with
      | none => rfl
      | some u =>
        have e3 : b = a := onlyA b (by rw [h]; exact fun z => nomatch z)
        rw [e3, notK (by rw [← e3, h]; exact fun z => nomatch z)] at e
        cases e
    have e0 : Env0 l.prog w (K w.params) mg (hidT s₁.heap H) callerA [] s₁ H := by
      refine ⟨rfl, ⟨kinB, nsB G.T.g, ⟨mb, nsB G.T.b, G.T.builtins⟩, ?_⟩, fun b o e => of_hidT e, Nat.le_of_eq (hidT_size _ _), trivial, (fun b hb => absurd hb (List.not_mem_nil)), hok, .of_eq hg⟩
      obtain ⟨mc, h1, h2⟩ := G.T.nolimit
      exact ⟨mc, nsB h1, h2⟩
    refine codeAny_mono (F w mg fa _ kin G.T.g hmg _ kinB (nsB G.T.g) s₁ H a ns hlen sq e0) ?_
    intro r s' z
    cases r with
    | error e => exact z.elim
    | ok fl =>
      cases fl with
      | next => exact z.elim
      | brk => exact z.elim
      | cont => exact z.elim
      | ret u =>
        obtain ⟨v, H', os, bare, un, hok', rr, qq⟩ := z
        subst qq
        obtain rfl : u = Value.bool true := rr
        refine ⟨rfl, OldK.of_keep ?_, os, bare⟩
        intro b o e
        rcases only b with h | ⟨ob, xs, h⟩
        · exact un.keep b o e h (fun z => nomatch z) (fun z => nomatch z)
        · have h1 := (hok b _ h).1
          have h2 := (hok' b _ (un.frzs b ob _ h)).1
          rw [e] at h1
          cases h1
          exact h2
  have hz : ns.length ≤ sizeLine := Nat.le_trans hlen hn2
  cases hk : (K w.params).lookup a with
  | some o =>
    have e := kin a o hk
    rw [hobj] at e
    cases e
    refine key (fun _ => none) (fun _ => .inl rfl) (.inr ⟨_, vs.toArray, _, hk, rfl, rfl, rfl, ?_, ?_⟩) (fun _ _ z => nomatch z) (fun _ z => absurd rfl z) fun z => absurd rfl z
    · rw [List.size_toArray, lv]
      exact hz
    · simpa using rv
  | none =>
    have hs : ∀ b u, (if b = a then some (HO.frz { cls := .type "list", data := .seq vs.toArray } (.lst (ns.map V.int))) else none) = some u → b = a ∧ u = HO.frz { cls := .type "list", data := .seq vs.toArray } (.lst (ns.map V.int)) := by
      intro b u z
      by_cases hb : b = a
      · rw [if_pos hb] at z
        exact ⟨hb, (Option.some.inj z).symm⟩
      · rw [if_neg hb] at z
        cases z
    refine key (fun b => if b = a then some (.frz { cls := .type "list", data := .seq vs.toArray } (.lst (ns.map V.int))) else none) ?_ (.inl (.inr ⟨_, if_pos rfl⟩)) ?_ ?_ fun _ => hk
    · intro b
      by_cases hb : b = a
      · exact .inr ⟨_, _, if_pos hb⟩
      · exact .inl (if_neg hb)
    · intro b u z
      obtain ⟨rfl, rfl⟩ := hs b u z
      exact ⟨hobj, by rw [List.length_map]; exact hz, vs, _, rv, hobj⟩
    · intro b z
      cases h : (if b = a then some (HO.frz { cls := .type "list", data := .seq vs.toArray } (.lst (ns.map V.int))) else none) with
      | none => exact absurd h z
      | some u => exact (hs b u h).1

/-! ### defs and exception classes of the text, each as one fact -/
structure DefAt (P : Program) (w : World) (K : PySem.W.Frag) (mg : Str → Option Value) (base : Heap) (k : Nat) (x : Str) (ps : List Str) (sp : Sp) : Prop where
  ex : ∃ (f : Addr) (fd : FuncData), FnOk P w K mg base CX0 k f fd ps sp ∧ mg x = some (.ref f) ∧ PySem.W.keepIn K (.ref f) = true ∧ Binds K fd ps []
structure XcAt (P : Program) (w : World) (K : PySem.W.Frag) (mg : Str → Option Value) (base : Heap) (x : Str) (ps : List Str) (C : Addr) (sp : Sp) : Prop where
  T : EcC K C
  m : mg x = some (.ref C)
  ex : ∃ (fI : Addr) (fd : FuncData), PySem.W.findIn K (.ref C) "__init__" = some (some (.ref fI)) ∧ PySem.W.typeIn K (.ref fI) = some (.type "function") ∧ FnOk P w K mg base CX0 1 fI fd ps sp ∧ Binds K fd ps []
section
variable {X : Cx} {e : Expr} {es : List Expr} {ta : TA} {p pos : Pos} {x : Str} {k : Nat} {ps : List Str} {sp : Sp} {C : Addr}
theorem pe_callD (D : DefAt X.prog X.w X.K X.mg X.base k x ps sp) (hr : Room k X.A) (ha : PA X (e :: es) ta) (hg : Gl X x := by rfl) (hdb : (x == ("__debug__" : Str)) = false := by decide)
    (he : starEach (e :: es) X.env = (false, eval e X.env) :: starEach es X.env := by rfl) (hpl : (backTo pos (starEach es X.env)).any (·.1) = false := by rfl) : PE X (.Call (.Name x p) (e :: es) [] pos) (tCall sp [] E0 ta) := by
  obtain ⟨f, fd, F, m, kp, b⟩ := D.ex
  exact pe_call F hr hg m kp b .nil pass0 ha hdb he hpl
theorem pe_mkD (D : XcAt X.prog X.w X.K X.mg X.base x ps C sp) (hr : Room 2 X.A) (ha : PA X (e :: es) ta) (hg : Gl X x := by rfl) (hdb : (x == ("__debug__" : Str)) = false := by decide)
    (he : starEach (e :: es) X.env = (false, eval e X.env) :: starEach es X.env := by rfl) (hpl : (backTo pos (starEach es X.env)).any (·.1) = false := by rfl) : PE X (.Call (.Name x p) (e :: es) [] pos) (tMkE C sp [] ta) := by
  obtain ⟨fI, fd, iC, tI, F, b⟩ := D.ex
  exact pe_mkE D.T iC tI F hr b .nil (fun _ _ _ _ _ _ _ h => h.elim) hg D.m ha hdb he hpl
theorem pe_cls (D : XcAt X.prog X.w X.K X.mg X.base x ps C sp) (hg : Gl X x := by rfl) (hd : (x == ("__debug__" : Str)) = false := by decide) : PE X (.Name x pos) (tC (.ref C)) := pe_glob hg D.m rfl hd
end
/-- __init__(self, f): self.f = f -/
def spI1 (K : PySem.W.Frag) (C : Addr) (f : Str) : Sp := fun vs H Q _ => ∃ (a : Addr) (v : V), vs = [.ref a, v] ∧ H a = some (exo a C none) ∧ ∀ dx, H dx = none → dx ≠ a → Q .non (upd (upd H dx (exd dx [(f, v)])) a (exo a C (some dx)))
/-- __init__(self, f, g): self.f = f; self.g = g -/
def spI2 (K : PySem.W.Frag) (C : Addr) (f g : Str) : Sp := fun vs H Q _ => ∃ (a : Addr) (v u : V), vs = [.ref a, v, u] ∧ H a = some (exo a C none) ∧
  ∀ dx, H dx = none → dx ≠ a → Q .non (upd (upd (upd H dx (exd dx [(f, v)])) a (exo a C (some dx))) dx (exd dx [(g, u), (f, v)]))
theorem Same.upd {H : Hp} {p : Addr} {o : HO} (h : H p = none) : Same H (L2.upd H p o) := fun b u e => by
  rw [upd_ne (ne_of_none e h)]
  exact e
theorem mk1 {K : PySem.W.Frag} {C : Addr} {f : Str} {v : V} {H : Hp} {Q : V → Hp → Prop} (h : ∀ a d H', Same H H' → H' a = some (exo a C (some d)) → H' d = some (exd d [(f, v)]) → Q (.ref a) H') :
    [v].length ≤ 1000 ∧ ∀ a, H a = none → spI1 K C f (.ref a :: ([v] ++ [])) (upd H a (exo a C none)) (fun x H2 => x = .non ∧ Q (.ref a) H2) (fun _ _ _ => False) := by
  refine ⟨by show 1 ≤ 1000; decide, fun a ha => ⟨a, v, rfl, upd_same, fun d hd hne => ⟨rfl, h a d _ ?_ upd_same ?_⟩⟩⟩
  · have hd0 : H d = none := by rw [upd_ne hne] at hd; exact hd
    intro b o e
    rw [upd_ne (ne_of_none e ha), upd_ne (ne_of_none e hd0), upd_ne (ne_of_none e ha)]
    exact e
  · rw [upd_ne hne, upd_same]
theorem mk2 {K : PySem.W.Frag} {C : Addr} {f g : Str} {v u : V} {H : Hp} {Q : V → Hp → Prop} (h : ∀ a d H', Same H H' → H' a = some (exo a C (some d)) → H' d = some (exd d [(g, u), (f, v)]) → Q (.ref a) H') :
    [v, u].length ≤ 1000 ∧ ∀ a, H a = none → spI2 K C f g (.ref a :: ([v, u] ++ [])) (upd H a (exo a C none)) (fun x H2 => x = .non ∧ Q (.ref a) H2) (fun _ _ _ => False) := by
  refine ⟨by show 2 ≤ 1000; decide, fun a ha => ⟨a, v, u, rfl, upd_same, fun d hd hne => ⟨rfl, h a d _ ?_ ?_ upd_same⟩⟩⟩
  · have hd0 : H d = none := by rw [upd_ne hne] at hd; exact hd
    intro b o e
    rw [upd_ne (ne_of_none e hd0), upd_ne (ne_of_none e ha), upd_ne (ne_of_none e hd0), upd_ne (ne_of_none e ha)]
    exact e
  · rw [upd_ne (Ne.symm hne), upd_same]
/-- a new object, the heap from then on a letter -/
theorem new1 {o : HO} {H : Hp} {Q : V → Hp → Prop} (h : ∀ p H', Same H H' → H' p = some o → Q (.ref p) H') : ∀ p, H p = none → Q (.ref p) (upd H p o) := fun p hp => h p _ (Same.upd hp) upd_same
/-- exceptions that stand: their classes and fields -/
def AllX (H : Hp) (cs : List (Addr × List (Str × V))) (as : List (Addr × Addr)) : Prop := Paired (fun (c : Addr × List (Str × V)) (x : Addr × Addr) => H x.1 = some (exo x.1 c.1 (some x.2)) ∧ H x.2 = some (exd x.2 c.2)) cs as
theorem AllX.mono {H H' : Hp} (s : Same H H') : ∀ {cs : List (Addr × List (Str × V))} {as : List (Addr × Addr)}, AllX H cs as → AllX H' cs as
  | _, _, .nil => .nil
  | _, _, .cons h t => .cons ⟨s _ _ h.1, s _ _ h.2⟩ (AllX.mono s t)
theorem AllX.snoc {H : Hp} {c : Addr × List (Str × V)} {a d : Addr} (h1 : H a = some (exo a c.1 (some d))) (h2 : H d = some (exd d c.2)) : ∀ {cs : List (Addr × List (Str × V))} {as : List (Addr × Addr)}, AllX H cs as → AllX H (cs ++ [c]) (as ++ [(a, d)])
  | _, _, .nil => .cons ⟨h1, h2⟩ .nil
  | _, _, .cons h t => .cons h (AllX.snoc h1 h2 t)
theorem rd_mk1 {K : PySem.W.Frag} {C : Addr} {f : Str} {σ : L2.St} {i : Nat} {v : V} {H : Hp} {Q : V → Hp → Prop} (hv : σ[i]? = some (some v)) (h : ∀ a d H', Same H H' → H' a = some (exo a C (some d)) → H' d = some (exd d [(f, v)]) → Q (.ref a) H') :
    tMkE C (spI1 K C f) [] (tCons (tVar i) tNil) σ H Q := ⟨v, hv, mk1 h⟩
theorem rd_mk2 {K : PySem.W.Frag} {C : Addr} {f g : Str} {σ : L2.St} {i : Nat} {v u : V} {H : Hp} {Q : V → Hp → Prop} (hv : σ[i]? = some (some v)) (h : ∀ a d H', Same H H' → H' a = some (exo a C (some d)) → H' d = some (exd d [(g, u), (f, v)]) → Q (.ref a) H') :
    tMkE C (spI2 K C f g) [] (tCons (tVar i) (tCons (tC u) tNil)) σ H Q := ⟨v, hv, mk2 h⟩
theorem rd_mk2' {K : PySem.W.Frag} {C : Addr} {f g : Str} {σ : L2.St} {i : Nat} {v u : V} {H : Hp} {Q : V → Hp → Prop} (hv : σ[i]? = some (some v)) (h : ∀ a d H', Same H H' → H' a = some (exo a C (some d)) → H' d = some (exd d [(g, v), (f, u)]) → Q (.ref a) H') :
    tMkE C (spI2 K C f g) [] (tCons (tC u) (tCons (tVar i) tNil)) σ H Q := ⟨v, hv, mk2 h⟩
theorem rd_lst {ta : TA} {σ : L2.St} {H : Hp} {Q : V → Hp → Prop} (h : ta σ H fun xs H1 => xs.length ≤ sizeLine ∧ ∀ p H', Same H1 H' → H' p = some (.lst xs) → Q (.ref p) H') (mono : ∀ σ H (R R' : List V → Hp → Prop), (∀ xs H1, R xs H1 → R' xs H1) → ta σ H R → ta σ H R') : tLst ta σ H Q :=
  mono _ _ _ _ (fun xs H1 z => ⟨z.1, new1 z.2⟩) h
/-! ### a reading opened by one combinator -/
section
variable {D : Ends} {σ : L2.St} {H : Hp} {Q : V → Hp → Prop} {QL : List V → Hp → Prop} {t u : TS} {te to' tb : TE} {ta tl : TA} {g : TG} {r : R2}
theorem rd_seq (h : t { D with nx := u D } σ H) : tSeq t u D σ H := h
theorem rd_asg (h : te σ H fun x H1 => g x σ H1 D.nx) : tAsg te g D σ H := h
theorem rd_ret (h : te σ H D.rt) : tRet te D σ H := h
theorem rd_disp (h : ta σ H fun xs H1 => xs.length ≤ sizeLine ∧ ∀ p, H1 p = none → Q (.ref p) (upd H1 p (.lst xs))) : tLst ta σ H Q := h
theorem rd_cons (h : te σ H fun x H1 => tl σ H1 fun xs H2 => QL (x :: xs) H2) : tCons te tl σ H QL := h
theorem rd_nil (h : QL [] H) : tNil σ H QL := h
theorem rd_op (h : te σ H fun x H1 => tb σ H1 fun y H2 => r x y H2 Q) : tOp r te tb σ H Q := h
theorem rd_var {i : Nat} {v : V} (hv : σ[i]? = some (some v)) (h : Q v H) : tVar i σ H Q := ⟨v, hv, h⟩
theorem rd_c {v : V} (h : Q v H) : tC v σ H Q := h
end
section
variable {D : Ends} {σ : L2.St} {H : Hp} {Q : V → Hp → Prop} {QB : Bool → Hp → Prop} {te : TE} {ta : TA} {tc : TT} {t u : TS} {r : List V → Hp → VK → Prop} {K : PySem.W.Frag} {f : Str}
theorem rd_if (h : tc σ H fun b H1 => if b = true then t D σ H1 else u D σ H1) : tIfS tc t u D σ H := h
theorem rd_test (h : te σ H fun x H' => ∃ k, x = .bl k ∧ QB k H') : tTest te σ H QB := h
theorem rd_cb (h : ta σ H fun vs H1 => r vs H1 Q) : tCB r ta σ H Q := h
theorem rd_ef (h : te σ H fun x H1 => ∃ (a C dx : Addr) (fs : List (Str × V)) (v : V), x = .ref a ∧ EcC K C ∧ PySem.W.findIn K (.ref C) f = some none ∧ H1 a = some (exo a C (some dx)) ∧ H1 dx = some (exd dx fs) ∧ fs.lookup f = some v ∧ Q v H1) : tEf K f te σ H Q := h
end
end EX
set_option Elab.async false
set_option linter.all false
set_option maxRecDepth 100000
set_option maxHeartbeats 4000000
namespace EX
open PySem L2 PySem.Spec PyProof.Rows
/-! ### raising an own exception (below Exception) whose __init__ is walked -/
/-- what stands of an own exception class of one field f -/
structure XrAt (P : Program) (w : World) (K : PySem.W.Frag) (mg : Str → Option Value) (base : Heap) (x f : Str) (C : Addr) : Prop where
  T : EcC K C
  m : mg x = some (.ref C)
  tC : PySem.W.typeIn K (.ref C) = some (.type "type")
  no : PySem.W.findIn K (.ref C) f = some none
  ex : ∃ (fI : Addr) (fd : FuncData), PySem.W.findIn K (.ref C) "__init__" = some (some (.ref fI)) ∧ PySem.W.typeIn K (.ref fI) = some (.type "function") ∧ FnOk P w K mg base CX0 1 fI fd [("self" : Str), f] (spI1 K C f) ∧ Binds K fd [("self" : Str), f] []
/-- C(e), to be raised: its dict d is new and holds the field -/
def tMkR (C : Addr) (f : Str) (te : TE) : L2.St → Hp → XK → Prop := fun σ H Q => te σ H fun v H1 => ∀ d H', Same H1 H' → H1 d = none → H' d = some (.xd [(f, v)]) → Q (.ref C) (some d) H'
def one1 (R : V → Hp → Prop) : List V → Hp → Prop := fun vs H => match vs with
  | [v] => R v H
  | _ => False
section
variable {X : Cx} {e : Expr} {te : TE} {p pos kp : Pos} {x f : Str} {C : Addr} {W : WX}
theorem pmk_ec (D : XrAt X.prog X.w X.K X.mg X.base x f C) (hr : Room 2 X.A) (hg : Gl X x) (he : PE X e te)
    (hdb : (x == ("__debug__" : Str)) = false := by decide) (hse : starEach [e] X.env = (false, eval e X.env) :: starEach [] X.env := by rfl) (hpl : (backTo pos (starEach [] X.env)).any (·.1) = false := by rfl) :
    PMk X (.Call (.Name x p) [e] [] pos) (tMkR C f te) := by
  intro pins s σ H Q I h
  obtain ⟨fI, fd, iC, tI, F1, hb⟩ := D.ex
  have ha : PA X [e] (tCons te tNil) := pa_cons he pa_nil hse
  refine wpAny_Call_Name_kw (ld_glob I hg D.m (PySem.W.callWith_K (h₀ := X.base) I.ok.mod.kin D.T.kC (thn (ha.run pos pins s σ H (one1 fun v H1 => ∀ d H', Same H1 H' → H1 d = none → H' d = some (.xd [(f, v)]) → Q (.ref C) (some d) H') I h) ?_) hse hpl) hdb)
  intro us s1 ⟨vs, H1, I1, r1, q1⟩
  refine ⟨I1.kIn, (?_ : wpAny _ _ (call (.ref C) us) _ _ _)⟩
  obtain ⟨v, rfl⟩ : ∃ v, vs = [v] := by
    match vs, q1 with
    | [v], _ => exact ⟨v, rfl⟩
  replace q1 : ∀ d H', Same H1 H' → H1 d = none → H' d = some (.xd [(f, v)]) → Q (.ref C) (some d) H' := q1
  obtain ⟨u, rfl, ru⟩ := vals1 r1
  obtain ⟨nm, N', qn, bs, bm, hdct, sn, sub, ab, col, dd, k0, k1, k2, k3, k5, hC, hT⟩ := PySem.W.excInit_of I1.kIn D.T.ini
  obtain ⟨hp, g, dr, tk, os⟩ := s1
  have le1 : hp.objs.size ≤ hp.objs.size + 1 := Nat.le_succ _
  have new : H1 (hp.objs.size + 1) = none := I1.hok.fresh le1
  have grow : ∀ b o, hp.get? b = some o → ((hp.push (PySem.W.kdv_tup [u])).push (PySem.HandSPX.excO C hp.objs.size)).get? b = some o := fun b o z => Heap.get?_push_of_some _ (Heap.get?_push_of_some _ z)
  have there : ((hp.push (PySem.W.kdv_tup [u])).push (PySem.HandSPX.excO C hp.objs.size)).get? (hp.objs.size + 1) = some (PySem.HandSPX.excO C hp.objs.size) := by heap_get
  have I2 := I1.laid (t' := tk) (a := hp.objs.size + 1) (o := exo (hp.objs.size + 1) C none) (h' := (hp.push (PySem.W.kdv_tup [u])).push (PySem.HandSPX.excO C hp.objs.size)) grow le1 (exo_ok there)
  have r2 : Vals [V.ref (hp.objs.size + 1), v] [Value.ref (hp.objs.size + 1), u] := .cons rfl (.cons ru .nil)
  have hsp : spI1 X.K C f [V.ref (hp.objs.size + 1), v] (upd H1 (hp.objs.size + 1) (exo (hp.objs.size + 1) C none)) (fun w H2 => w = .non ∧ ∃ (d : Addr) (fs : List (Str × V)), H2 (hp.objs.size + 1) = some (exo (hp.objs.size + 1) C (some d)) ∧ H2 d = some (exd d fs) ∧ H1 d = none ∧ Q (.ref C) (some d) (upd (del H2 (hp.objs.size + 1)) d (.xd fs))) (fun _ _ _ => False) := by
    refine ⟨_, v, rfl, upd_same, fun d hd hne => ⟨rfl, d, [(f, v)], upd_same, ?_, ?_, ?_⟩⟩
    · rw [upd_ne hne, upd_same]
    · rw [upd_ne hne] at hd
      exact hd
    · rw [upd_ne hne] at hd
      refine q1 d _ (fun b o z => ?_) hd upd_same
      have nb : b ≠ hp.objs.size + 1 := ne_of_none z new
      rw [upd_ne (ne_of_none z hd), del_ne nb, upd_ne nb, upd_ne (ne_of_none z hd), upd_ne nb]
      exact z
  have hbt : BindsTo _ fd ⟨[Value.ref (hp.objs.size + 1), u], []⟩ ([("self" : Str), f].zip [Value.ref (hp.objs.size + 1), u]) := hb _ [Value.ref (hp.objs.size + 1), u] I2.kIn rfl
  refine wpAny_call (PySem.HandSPX.call_own PySem.F.excBase_Exception hT hC (PySem.W.looks_findIn I1.kIn iC) (fun self => PySem.W.bind_fn I1.kIn self tI) (by rw [sizeLine_eq]; show 1 ≤ _; omega) (codeAny_mono
    (F1.run _ X.stack _ _ ⟨[Value.ref (hp.objs.size + 1), u], []⟩ [Value.ref (hp.objs.size + 1), u] _ _ (fun _ _ _ => False) (hr.make C [u] []) (I2.env0.make C [u] []) hbt r2 hsp) ?_))
  rintro (er | fl) s' hq'
  · exact False.elim hq'
  · cases fl with
    | ret uu =>
      obtain ⟨w, H2, os2, bare2, un2, hok2, rv, ev, d, fs, ea, ed, hd1, q2⟩ := hq'
      subst ev
      obtain ⟨h2, g2, d2, t2, os'⟩ := s'
      exact ⟨rv, mk_end (raises_own D.T.exC D.tC) I1 le1 grow un2 hok2 os2 bare2 ea ed hd1 q2⟩
    | next => exact False.elim hq'
    | brk => exact False.elim hq'
    | cont => exact False.elim hq'
/-- raise C(e) -/
def tRaE (C : Addr) (f : Str) (te : TE) (W : WX) : TS := fun _ σ H => tMkR C f te σ H fun cls d H' => W cls d σ H'
theorem ps_raiseE (D : XrAt X.prog X.w X.K X.mg X.base x f C) (hr : Room 2 X.A) (hc : X.calm = true) (tk : Takes X W) (he : PE X e te) (hg : Gl X x := by rfl) (hdb : (x == ("__debug__" : Str)) = false := by decide)
    (hse : starEach [e] X.env = (false, eval e X.env) :: starEach [] X.env := by rfl) : PS X (.Raise (some (.Call (.Name x p) [e] [] pos)) none kp) (tRaE C f te W) := ps_raise hc tk (pmk_ec D hr hg he hdb hse (by rfl))
end

/-! ### except clauses, with and without names -/
/-- what a clause does: the class, the slot of its name, its suite -/
structure Cls1 where
  c : Value
  i : Option Nat
  ts : Addr → Value → Option Addr → TS
def slotIn (σ : L2.St) (i : Option Nat) (v : Option V) : L2.St := match i with
  | some j => σ.set j v
  | none => σ
def endsOut (D : Ends) (i : Option Nat) : Ends := { nx := fun σ' H' => D.nx (slotIn σ' i none) H', rt := D.rt, bk := fun σ' H' => D.bk (slotIn σ' i none) H', ct := fun σ' H' => D.ct (slotIn σ' i none) H' }
def wCls (K : PySem.W.Frag) (Wout : WX) (D : Ends) : List Cls1 → WX
  | [] => Wout
  | q :: r => fun cls d σ H => ∃ b, PySem.W.exmOne K cls q.c = some b ∧ (b = true → ∀ a, H a = none → q.ts a cls d (endsOut D q.i) (slotIn σ q.i (some (.ref a))) H) ∧ (b = false → wCls K Wout D r cls d σ H)
inductive ClsOk (X : Cx) : List ExceptHandler → List Cls1 → Prop
  | nil : ClsOk X [] []
  | bare {x : Str} {c : Value} {ts : Addr → Value → Option Addr → TS} {b₀ : Stmt} {suite : List Stmt} {np pos' : Pos} {hds : List ExceptHandler} {l : List Cls1} (hc : Names X x c)
      (hsu : ∀ (a : Addr) (oe : Obj) (cls : Value) (d : Option Addr) (pn : List (Addr × Obj)), Zc cls d oe → (∃ vs, oe.data = .fields vs) → PSs (X.suite a ((a, oe) :: pn)) (b₀ :: suite) (ts a cls d)) (r : ClsOk X hds l) :
      ClsOk X (.ExceptHandler (some (.Name x np)) none (b₀ :: suite) pos' :: hds) (⟨c, none, ts⟩ :: l)
  | as {x n : Str} {i : Nat} {c : Value} {ts : Addr → Value → Option Addr → TS} {b₀ : Stmt} {suite : List Stmt} {np pos' : Pos} {hds : List ExceptHandler} {l : List Cls1} (hc : Names X x c) (hi : X.N[i]? = some n) (hln : X.env.kindOf n = some .local)
      (hsu : ∀ (a : Addr) (oe : Obj) (cls : Value) (d : Option Addr) (pn : List (Addr × Obj)), Zc cls d oe → (∃ vs, oe.data = .fields vs) → PSs (X.suite a ((a, oe) :: pn)) (b₀ :: suite) (ts a cls d)) (r : ClsOk X hds l) :
      ClsOk X (.ExceptHandler (some (.Name x np)) (some n) (b₀ :: suite) pos' :: hds) (⟨c, some i, ts⟩ :: l)
section
variable {X : Cx} {body : List Stmt} {h₀ : ExceptHandler} {hds : List ExceptHandler} {l : List Cls1} {pos : Pos} {tb : WX → TS} {Wout : WX}
theorem ps_try_cls (hs : X.stack = X.env :: X.outer) (hf : X.env.frame = some X.env.locals) (hN : X.N.Nodup) (tk : Takes X Wout)
    (hb : ∀ (W : WX) (pn : List (Addr × Obj)) (xe : Value → Shared → Prop), Takes (X.tr pn xe) W → PassesOwn (model X.prog X.w) X.A X.env xe → PSs (X.tr pn xe) body (tb W))
    (hh : ClsOk X (h₀ :: hds) l) : PS X (.Try body (h₀ :: hds) [] [] pos) (fun D σ H => tb (wCls X.K Wout D l) D σ H) := by
  refine ⟨fun pins s σ H D I h => ?_⟩
  have ok := I.ok
  have hfr : X.A.frames = some (X.env :: X.outer) := by rw [ok.frames, hs]
  refine wpAny_Try_except (wpAny_mono ((hb (wCls X.K Wout D l) (X.pn ++ pins) (fun e s₁ => wpAny (model X.prog X.w) X.A (noteFrame e X.env) (fun _ s₂ => wpAny (model X.prog X.w) X.A (setFlight e none) (fun _ s₃ =>
    wpAny (model X.prog X.w) X.A (handleBy e X.env (h₀ :: hds)) (SP X pins D) X.xe s₃) X.xe s₂) X.xe s₁) (fun u s' xx => ?_) PassesOwn.looking).run [] s σ H D (I.toTry _) h) (fun f s1 hsp => ?_) (fun e s1 he => he))
  · -- it is caught here: the frame is noted, then the clauses are tried
    obtain ⟨a, B, sI, pins', σ', H', cls, d, rfl, J', nb, up, sky, na, os, ag, w⟩ := xx
    have J : Inv X pins σ' H' sI := J'.ofTry ok
    rw [show (X.tr (X.pn ++ pins) _).stack = X.env :: X.outer from hs] at sky
    refine Sky.land Zc.steady hfr hf sky fun h3 fl3 up3 => ?_
    have J3 : Inv X pins σ' H' { s' with heap := h3 } := J.landed nb fl3.1 (up.trans up3) os ag
    obtain ⟨oe3, vs3, he3, hz3, hd3⟩ := fl3.there
    have nfr : a ∉ frs (X.env :: X.outer) := fun hm => by
      obtain ⟨_, o', e', hnf⟩ := fl3.2.2.1.mem hm
      rw [he3] at e'
      cases e'
      exact hnf _ hd3
    have nL : a ≠ X.env.locals := fun z => nfr (List.mem_filterMap.mpr ⟨X.env, List.mem_cons_self, by rw [hf, z]⟩)
    have nF : a ∉ X.fs := fun hm => by
      obtain ⟨ev, hev, q⟩ := List.mem_filterMap.mp hm
      exact nfr (List.mem_filterMap.mpr ⟨ev, List.mem_cons_of_mem _ hev, q⟩)
    have S3 := J3.suite he3 hd3 na nL nF
    have LT : PySem.W.Looks (model X.prog X.w) h3 (typeOf (.ref a)) cls := fun A Q E s k q => wpAny_typeOf_ref (k _ _ he3) (by rw [hz3.1]; exact q)
    have test : ∀ {x : Str} {c : Value} {np : Pos} {Q : Value → Shared → Prop} {E : Value → Shared → Prop}, Names X x c → Q c { s' with heap := h3 } → wpAny (model X.prog X.w) (X.A.mark (some (.ref a))) (eval (.Name x np) X.env) Q E { s' with heap := h3 } := by
      intro x c np Q E hc q
      obtain ⟨hg, hdbg, hm | ⟨hm, hv, hnn⟩⟩ := hc
      · exact ld_glob (X := X.suite a ((a, oe3) :: (X.pn ++ pins))) S3 hg hm q hdbg
      · exact ld_blt (X := X.suite a ((a, oe3) :: (X.pn ++ pins))) S3 hg hm hv q hnn hdbg
    -- no clause takes it: it flies on
    have out : Wout cls d σ' H' → wpAny (model X.prog X.w) X.A (handleBy (.ref a) X.env []) (SP X pins D) X.xe { s' with heap := h3 } := by
      intro w
      refine wpAny_handleBy_nil ?_
      obtain ⟨k1, k2, k3, oe, vs, T, oT, ts', he, hz, hd, h1, hr⟩ := id fl3
      unfold PySem.passOn
      refine wpAny_bind (wpAny_field he hd h1 ?_)
      rw [if_neg (show ¬ ((Value.ref T == Value.none) = true) from by simp)]
      have fin : wpAny (model X.prog X.w) X.A (setFlight (.ref a) X.env.frame) (fun _ s4 => wpAny (model X.prog X.w) X.A (throw (.ref a) : Sem Flow) (SP X pins D) X.xe s4) X.xe { s' with heap := h3 } := by
        rw [hf]
        exact HandSPX.setFlight_upZ fl3 fun h4 hh4 up4 => wpAny_throw (tk _ _ ⟨a, B, sI, pins, σ', H', cls, d, rfl, J, nb, (up.trans up3).trans up4, .inr (.inr (by rw [hs]; exact hh4)), na, os, ag, w⟩)
      first
        | exact wpAny_bind (wpAny_pure (wpAny_bind fin))
        | exact wpAny_bind fin
    have go : ∀ {hds' : List ExceptHandler} {l' : List Cls1}, ClsOk X hds' l' → wCls X.K Wout D l' cls d σ' H' → wpAny (model X.prog X.w) X.A (handleBy (.ref a) X.env hds') (SP X pins D) X.xe { s' with heap := h3 } := by
      intro hds' l' hk
      induction hk with
      | nil => exact out
      | @bare x c ts b₀ suite np pos' hds2 l2 hc hsu r ih =>
        intro w
        obtain ⟨b, hb1, hyes, hno⟩ := w
        refine wpAny_handleBy_cons (codeAny_handlers_test (test hc ((PySem.W.exm_one (M := model X.prog X.w) (J3.kIn) LT hb1).here ?_))) (by intro q; cases q)
        cases b with
        | false => exact ih (hno rfl)
        | true =>
          refine codeAny_handlers_suite (HandSPX.lands_againZ fl3 fun h4 fl4 up4 => ?_)
          have J4 : Inv X pins σ' H' { s' with heap := h4 } := J.landed nb fl4.1 ((up.trans up3).trans up4) os ag
          obtain ⟨oe4, vs4, he4, hz4, hd4⟩ := fl4.there
          refine wpAny_mono ((hsu a oe4 cls d (X.pn ++ pins) hz4 ⟨_, hd4⟩).run [] _ _ H' _ (J4.suite he4 hd4 na nL nF) (hyes rfl a na)) (fun f s6 hsp => ?_) (fun _ _ z => False.elim z)
          cases f with
          | ret u =>
            obtain ⟨v6, σ6, H6, S6, r6, q6⟩ := hsp
            exact ⟨_, _, _, S6.unsuite ok, r6, q6⟩
          | next => exact let ⟨σ6, H6, S6, q6⟩ := hsp; ⟨_, _, S6.unsuite ok, q6⟩
          | brk => exact let ⟨σ6, H6, S6, q6⟩ := hsp; ⟨_, _, S6.unsuite ok, q6⟩
          | cont => exact let ⟨σ6, H6, S6, q6⟩ := hsp; ⟨_, _, S6.unsuite ok, q6⟩
      | @as x n i c ts b₀ suite np pos' hds2 l2 hc hi hln hsu r ih =>
        intro w
        obtain ⟨b, hb1, hyes, hno⟩ := w
        refine wpAny_handleBy_cons (codeAny_handlers_test (test hc ((PySem.W.exm_one (M := model X.prog X.w) (J3.kIn) LT hb1).here ?_))) (by intro q; cases q)
        cases b with
        | false => exact ih (hno rfl)
        | true =>
          refine codeAny_handlers_suite_as (HandSPX.lands_againZ fl3 fun h4 fl4 up4 => ?_)
          have J4 : Inv X pins σ' H' { s' with heap := h4 } := J.landed nb fl4.1 ((up.trans up3).trans up4) os ag
          obtain ⟨oe4, vs4, he4, hz4, hd4⟩ := fl4.there
          have S4 := J4.suite he4 hd4 na nL nF
          refine store_ok (X := X.suite a ((a, oe4) :: (X.pn ++ pins))) (v := .ref a) S4 hN hi (.inl hln) rfl (fun s5 S5 => ?_) (.inr hln)
          refine wpAny_mono ((hsu a oe4 cls d (X.pn ++ pins) hz4 ⟨_, hd4⟩).run [] s5 _ H' _ S5 (hyes rfl a na)) (fun f s6 hsp => ?_) (fun _ _ z => False.elim z)
          have last : ∀ {σ6 : L2.St} {H6 : Hp} {Q : Shared → Prop}, Inv (X.suite a ((a, oe4) :: (X.pn ++ pins))) [] σ6 H6 s6 → (∀ s7, Inv X pins (σ6.set i none) H6 s7 → Q s7) →
              wpAny (model X.prog X.w) X.A (do bindName X.env n .none; unbindBehindTheSuite X.env n pos') (fun _ s7 => Q s7) X.xe s6 := fun S6 hq => gone_ok (S6.unsuite ok) hN hi hln hq
          cases f with
          | ret u =>
            obtain ⟨v6, σ6, H6, S6, r6, q6⟩ := hsp
            exact last S6 fun s7 J7 => ⟨_, _, _, J7, r6, q6⟩
          | next => exact let ⟨σ6, H6, S6, q6⟩ := hsp; last S6 fun s7 J7 => ⟨_, _, J7, q6⟩
          | brk => exact let ⟨σ6, H6, S6, q6⟩ := hsp; last S6 fun s7 J7 => ⟨_, _, J7, q6⟩
          | cont => exact let ⟨σ6, H6, S6, q6⟩ := hsp; last S6 fun s7 J7 => ⟨_, _, J7, q6⟩
    exact go hh w
  · cases f with
    | ret u => exact let ⟨v, σ', H', J', r, q⟩ := hsp; ⟨v, σ', H', J'.ofTry ok, r, q⟩
    | next => exact let ⟨σ', H', J', q⟩ := hsp; wpAny_execs_nil ⟨σ', H', J'.ofTry ok, q⟩
    | brk => exact let ⟨σ', H', J', q⟩ := hsp; ⟨σ', H', J'.ofTry ok, q⟩
    | cont => exact let ⟨σ', H', J', q⟩ := hsp; ⟨σ', H', J'.ofTry ok, q⟩
end
/-! ### in a suite: the caught error's field, isinstance of it -/
theorem EcC.xf {K : PySem.W.Frag} {C : Addr} (T : EcC K C) : XfC K C := ⟨T.ga, T.gg, T.exC, T.hdC⟩
/-- isinstance(e, c), e caught -/
def rIsS (K : PySem.W.Frag) (a : Addr) (cls : Value) : List V → Hp → VK → Prop := fun xs H Q => ∃ (C dd : Addr) (fs : List (Str × V)) (c : V) (cv : Value) (b : Bool), xs = [.ref a, c] ∧ cls = .ref C ∧ EcC K C ∧ H dd = some (.xd fs) ∧ ClsV c cv ∧ PySem.W.kitOne K (.ref C) cv = some b ∧ Q (.bl b) H
theorem call_isS {X : Cx} {a dd : Addr} {cls : Value} {oe : Obj} {pn : List (Addr × Obj)} (hz : Zc cls (some dd) oe) (hf : ∃ vs, oe.data = .fields vs) :
    CallR (X.suite a ((a, oe) :: pn)) (.builtin "isinstance") (fun xs H Q => ∃ (C : Addr) (fs : List (Str × V)) (c : V) (cv : Value) (b : Bool), xs = [.ref a, c] ∧ cls = .ref C ∧ EcC X.K C ∧ H dd = some (.xd fs) ∧ ClsV c cv ∧ PySem.W.kitOne X.K (.ref C) cv = some b ∧ Q (.bl b) H) := by
  intro pins s σ H xs us Q I r h
  obtain ⟨C, fs, c, cv, b, rfl, rfl, T, ed, kc, e, q⟩ := h
  obtain ⟨u1, u2, rfl, r1, r2⟩ := vals2 r
  obtain rfl := kc.eq r2
  obtain rfl : u1 = Value.ref a := r1
  obtain ⟨ha, _⟩ := I.pin (a, oe) (List.mem_append_left _ List.mem_cons_self)
  obtain ⟨vs, hd⟩ := hf
  obtain ⟨mA, hns, hr⟩ := (show ObjOk X.prog X.w H s.heap dd (.xd fs) from I.hok dd _ ed)
  obtain ⟨od, ho, hl⟩ := lookIn_ns hns
  have J : PySem.W.InstAt s.heap a oe C (some od) := ⟨ha, hz.1, by unfold PySem.W.notCls; rw [hd] <;> rfl, by rw [hz.2]; exact ho⟩
  exact PySem.W.kia_one (kit_exc T (od := some od)) I.kIn J e (fun z => nomatch z) fun tk => ⟨.bl b, H, I.tok tk, rfl, q⟩
end EX
set_option Elab.async false
set_option linter.all false
set_option maxRecDepth 100000
set_option maxHeartbeats 4000000
namespace EX
open PySem L2 PySem.Spec PyProof.Rows
/-! ### operators of own classes -/
/-- the class at C has the method nm, whose def keeps sp -/
structure Dun (P : Program) (w : World) (K : PySem.W.Frag) (mg : Str → Option Value) (base : Heap) (CX : CXT) (k : Nat) (C : Addr) (nm : Str) (ps : List Str) (sp : Sp) : Prop where
  ex : ∃ (f : Addr) (fd : FuncData), PySem.W.findIn K (.ref C) nm = some (some (.ref f)) ∧ PySem.W.isFn K (.ref f) = true ∧ PySem.W.fnIn K f = true ∧ FnOk P w K mg base CX k f fd ps sp ∧ Binds K fd ps []
section
variable {X : Cx} {CX : CXT} {k : Nat} {C : Addr} {nm : Str} {ps : List Str} {sp : Sp} {E : XK} {pins : List (Addr × Obj)} {σ : L2.St} {H : Hp} {s : Shared}
theorem vref (a : Addr) : RelV (.ref a) (.ref a) := rfl
/-- a def run at A, which stands at the frames of X -/
theorem run_in {A : Around} {f : Addr} {fd : FuncData} {Q : VK} {us : List Value} {vs : List V} (F : FnOk X.prog X.w X.K X.mg X.base CX k f fd ps sp) (hr : Room k A) (e0 : Env0 X.prog X.w X.K X.mg X.base A X.stack s H) (hb : Binds X.K fd ps []) (hx : Passes CX X E)
    (I : Inv X pins σ H s) (r : Vals vs us) (h : sp vs H Q E) : wpAny (model X.prog X.w) A (call (.ref f) us) (EP X pins σ Q) X.xe s := by
  have hl : us.length = ps.length := by rw [← r.length]; exact F.len _ _ _ _ h
  have b : BindsTo s fd ⟨us, []⟩ (ps.zip us) := by
    have := hb s us I.kIn (by rw [List.append_nil]; exact hl)
    rwa [List.append_nil] at this
  refine wpAny_call (codeAny_mono (F.run A X.stack s H ⟨us, []⟩ us vs Q E hr e0 b r h) ?_)
  rintro (e | fl) s' hq
  · exact hx pins σ H s e s' I hq
  · cases fl with
    | ret u => exact I.after hq
    | next => exact False.elim hq
    | brk => exact False.elim hq
    | cont => exact False.elim hq
theorem inst_at {a dx : Addr} {fs : List (Str × V)} (I : Inv X pins σ H s) (e : H a = some (.ins C dx fs)) : ∃ od, PySem.W.InstAt s.heap a (PySem.W.instObj C dx) C (some od) := by
  obtain ⟨mA, O, _⟩ := ins_get I.hok e
  obtain ⟨od, J, _⟩ := O.look
  exact ⟨od, J⟩
/-- o[i] -/
def tGetO (C : Addr) (sp : Sp) (E : XK) (to ti : TE) : TE := fun σ H Q => to σ H fun x H1 => ti σ H1 fun y H2 => ∃ a dx fs, x = .ref a ∧ H2 a = some (.ins C dx fs) ∧ sp [.ref a, y] H2 Q E
theorem pe_getO {o i : Expr} {to ti : TE} {pos : Pos} (D : Dun X.prog X.w X.K X.mg X.base CX k C "__getitem__" ps sp) (hr : Room (k + 1) X.A) (hx : Passes CX X E) (ho : PE X o to) (hi : PE X i ti)
    (hsl : ∀ x y, subscripted i true x y = runValue (.builtin "lifetime.subscript" ⟨[x, y], []⟩) := by intro _ _; with_unfolding_all rfl) : PE X (.Subscript o i pos) (tGetO C sp E to ti) := by
  refine ⟨fun pins s σ H Q I h => Subscript_ (binT ho hi I h ?_)⟩
  intro v u s2 x y H2 I2 rx ry ⟨a, dx, fs, ex, ea, q⟩
  subst ex
  obtain rfl : v = Value.ref a := rx
  obtain ⟨f, fd, at_, hf, hfi, F, hb⟩ := D.ex
  obtain ⟨od, J⟩ := inst_at I2 ea
  obtain ⟨m, hF⟩ := I2.fr
  exact PySem.W.sub_K hF I2.ok.mod.kin J at_ hfi hf (run_in F hr.in1 I2.env0.in1 hb hx I2 (.cons (vref a) (.cons ry .nil)) q) (hsl _ _)
/-- k in o, k not in o; the method hands back a bool -/
def rInO (C : Addr) (sp : Sp) (E : XK) (neg : Bool) : R2 := fun y x H Q => ∃ a dx fs, x = .ref a ∧ H a = some (.ins C dx fs) ∧ sp [.ref a, y] H (fun z H' => ∃ b, z = .bl b ∧ Q (.bl (if neg then !b else b)) H') E
theorem op_inO (D : Dun X.prog X.w X.K X.mg X.base CX k C "__contains__" ps sp) (hr : Room k X.A) (hx : Passes CX X E) : OpR X (compareOp .In) (rInO C sp E false) := by
  intro pins s σ H y x u v Q I ry rx h
  obtain ⟨a, dx, fs, ex, ea, q⟩ := h
  subst ex
  obtain rfl : v = Value.ref a := rx
  obtain ⟨f, fd, at_, hf, hfi, F, hb⟩ := D.ex
  obtain ⟨od, J⟩ := inst_at I ea
  obtain ⟨m, hF⟩ := I.fr
  refine PySem.W.in_K hF I.ok.mod.kin J at_ hf (thn (run_in F hr I.env0 hb hx I (.cons (vref a) (.cons ry .nil)) q) ?_)
  rintro r s1 ⟨z, H1, I1, rz, b, rfl, q1⟩
  obtain rfl : r = Value.bool b := rz
  exact wpAny_truthy_bool ⟨.bl b, H1, I1, rfl, q1⟩
theorem op_notInO (D : Dun X.prog X.w X.K X.mg X.base CX k C "__contains__" ps sp) (hr : Room k X.A) (hx : Passes CX X E) : OpR X (compareOp .NotIn) (rInO C sp E true) := by
  intro pins s σ H y x u v Q I ry rx h
  obtain ⟨a, dx, fs, ex, ea, q⟩ := h
  subst ex
  obtain rfl : v = Value.ref a := rx
  obtain ⟨f, fd, at_, hf, hfi, F, hb⟩ := D.ex
  obtain ⟨od, J⟩ := inst_at I ea
  obtain ⟨m, hF⟩ := I.fr
  refine PySem.W.notIn_K hF I.ok.mod.kin J at_ hf (thn (run_in F hr I.env0 hb hx I (.cons (vref a) (.cons ry .nil)) q) ?_)
  rintro r s1 ⟨z, H1, I1, rz, b, rfl, q1⟩
  obtain rfl : r = Value.bool b := rz
  exact wpAny_truthy_bool ⟨.bl (!b), H1, I1, rfl, q1⟩
/-- the type of any value, as the library looks at it -/
theorem tyx_looks {x : V} {u t : Value} (I : Inv X pins σ H s) (rx : RelV x u) (ty : TyX X.K H x t) : PySem.W.Looks (model X.prog X.w) s.heap (typeOf u) t := by
  obtain ⟨P, Z, p, _⟩ := kit_of I rx ty
  exact Z.ty _ _ I.kIn p
/-- x == y by x's own method; y anything whose type is not below x's class -/
def rEqO (K : PySem.W.Frag) (C : Addr) (sp : Sp) (E : XK) : R2 := fun x y H Q => ∃ a dx fs t, x = .ref a ∧ H a = some (.ins C dx fs) ∧ TyX K H y t ∧ PySem.W.notFirst K C t = true ∧ sp [.ref a, y] H Q E
theorem op_eqO (D : Dun X.prog X.w X.K X.mg X.base CX k C "__eq__" ps sp) (hr : Room k X.A) (hx : Passes CX X E) : OpR X (compareOp .Eq) (rEqO X.K C sp E) := by
  intro pins s σ H x y v u Q I rx ry h
  obtain ⟨a, dx, fs, t, ex, ea, ty, hn, q⟩ := h
  subst ex
  obtain rfl : v = Value.ref a := rx
  obtain ⟨f, fd, at_, hf, hfi, F, hb⟩ := D.ex
  obtain ⟨od, J⟩ := inst_at I ea
  obtain ⟨m, hF⟩ := I.fr
  refine PySem.W.cmp_K (op := .Eq) hr.units0 hF I.ok.mod.kin J (tyx_looks I ry ty) hn at_ hf (wpAny_mono (run_in F hr I.env0 hb hx I (.cons (vref a) (.cons ry .nil)) q) ?_ fun _ _ z => z)
  rintro r s1 ⟨z, H1, I1, rz, q1⟩
  exact SlX.cmpback rz ⟨z, H1, I1, rz, q1⟩
/-- x != y where the class has its own == alone: the other answer -/
def rNeO (K : PySem.W.Frag) (C : Addr) (sp : Sp) (E : XK) : R2 := fun x y H Q => ∃ a dx fs t, x = .ref a ∧ H a = some (.ins C dx fs) ∧ TyX K H y t ∧ PySem.W.notFirst K C t = true ∧ sp [.ref a, y] H (fun z H' => ∃ b, z = .bl b ∧ Q (.bl (!b)) H') E
/-- what != asks of the class -/
structure NeC (K : PySem.W.Frag) (C : Addr) : Prop where
  ne : PySem.W.findIn K (.ref C) "__ne__" = some (some (.builtin "object.__ne__"))
  ob : PySem.W.mroIn K C (.type "object") = some true
theorem op_neO (D : Dun X.prog X.w X.K X.mg X.base CX k C "__eq__" ps sp) (N : NeC X.K C) (hr : Room (k + 1) X.A) (hx : Passes CX X E) : OpR X (compareOp .NotEq) (rNeO X.K C sp E) := by
  intro pins s σ H x y v u Q I rx ry h
  obtain ⟨a, dx, fs, t, ex, ea, ty, hn, q⟩ := h
  subst ex
  obtain rfl : v = Value.ref a := rx
  obtain ⟨f, fd, at_, hf, hfi, Fn, hb⟩ := D.ex
  obtain ⟨od, J⟩ := inst_at I ea
  have KX := I.kIn
  have LTy := tyx_looks I ry ty
  have call1 := run_in Fn hr.in1 I.env0.in1 hb hx I (.cons (vref a) (.cons ry .nil)) q
  have sub : PySem.W.Looks (model X.prog X.w) s.heap (isInstance (.ref a) (.type "object")) true := J.type.andThen (PySem.W.looks_mroIn KX N.ob)
  have entry : wpAny (model X.prog X.w) X.A.in1 (Builtin.«object.__ne__» ⟨[.ref a, u], []⟩) (fun fin s' => ∃ b, fin = .done (.ret (.bool b)) ∧ EP X pins σ Q (.bool b) s') X.xe s := by
    unfold Builtin.«object.__ne__»
    refine wpAny_bind (wpAny_of_eq (a := ((Value.ref a : Value), [u])) (by first | rfl | (simp only [slotArgs]; rfl)) ?_)
    refine wpAny_bind (wpAny_cRoomFor hr.in1.units0 ?_)
    refine wpAny_bind (PySem.W.ifBound_K KX J at_ hf (wpAny_mono call1 ?_ fun _ _ z => z))
    rintro r s1 ⟨z, H1, I1, rz, b, rfl, q1⟩
    obtain rfl : r = Value.bool b := rz
    exact wpAny_bind (wpAny_truthy_bool (wpAny_pure ⟨!b, rfl, .bl (!b), H1, I1, rfl, q1⟩))
  have one : wpAny (model X.prog X.w) X.A (tryCompare (.ref a) "__ne__" u) (fun r s' => ∃ b, r = some (.bool b) ∧ EP X pins σ Q (.bool b) s') X.xe s := by
    unfold tryCompare
    have bnd : wpAny (model X.prog X.w) X.A (call (.builtin "object.__ne__") [.ref a, u]) (fun r s' => ∃ b, r = .bool b ∧ EP X pins σ Q (.bool b) s') X.xe s := by
      refine wpAny_call (codeAny_call_builtin PySem.F.cmp_object.ne.plain PySem.F.cmpEntry_ne (PySem.W.check_slot PySem.F.cmpKind_ne PySem.F.cmpSplit_ne sub (PySem.F.cmpArgs_ne _ _) (wpAny_mono entry ?_ fun _ _ z => z)))
      rintro fin s1 ⟨b, rfl, e⟩
      exact ⟨b, rfl, e⟩
    refine wpAny_bind (m := callSpecialIfBound? (.ref a) "__ne__" [u]) ?_
    simp only [callSpecialIfBound?, bindSpecialIfBound?]
    refine wpAny_holding (wpAny_bind (wpAny_bind (wpAny_bind (J.type.here ((PySem.W.looks_findIn KX N.ne).here ?_)))))
    simp only [PySem.F.cmp_object.ne.bind]
    refine wpAny_bind (wpAny_askSetting (wpAny_ite ?_))
    have fin : wpAny (model X.prog X.w) X.A (call (.builtin "object.__ne__") ([.ref a] ++ [u]) >>= fun v => pure (some v)) (fun r s' => wpAny (model X.prog X.w) X.A (match r with | some .notImplemented | none => pure none | some v => pure (some v)) (fun r s' => ∃ b, r = some (.bool b) ∧ EP X pins σ Q (.bool b) s') X.xe s') X.xe s := by
      refine wpAny_bind (wpAny_mono bnd ?_ fun _ _ z => z)
      rintro r s1 ⟨b, rfl, e⟩
      exact wpAny_pure (wpAny_pure ⟨b, rfl, e⟩)
    split
    · first | exact fin | exact wpAny_pure (by exact fin) | exact wpAny_bind (wpAny_pure (by exact fin))
    · first | exact wpAny_tryCatch fin | exact wpAny_tryCatch (wpAny_pure (by exact fin)) | exact wpAny_tryCatch (wpAny_bind (wpAny_pure (by exact fin)))
  show wpAny _ _ (richCompare .NotEq (.ref a) u) _ _ _
  unfold richCompare
  simp only [oneThing_ref]
  refine wpAny_holding (wpAny_bind (wpAny_cRoomFor hr.units0 ?_))
  refine wpAny_bind (J.type.here (wpAny_bind (LTy.here ?_)))
  have tail : ∀ {R : Value → Shared → Prop}, (∀ b s', EP X pins σ Q (.bool b) s' → R (.bool b) s') → True := fun _ => trivial
  split
  · rename_i hne
    have e : PySem.W.subIn X.K t (.ref C) = some false := by
      rcases Bool.or_eq_true_iff.mp hn with e | e
      · rw [beq_iff_eq.mp e] at hne
        simp at hne
      · exact beq_iff_eq.mp e
    refine wpAny_bind ((PySem.W.looks_subIn KX e).here ?_)
    simp only [Bool.false_eq_true, if_false]
    refine wpAny_bind (wpAny_mono one ?_ fun _ _ z => z)
    rintro r s1 ⟨b, rfl, q1⟩
    exact wpAny_pure q1
  · refine wpAny_bind (wpAny_pure ?_)
    simp only [Bool.false_eq_true, if_false]
    refine wpAny_bind (wpAny_mono one ?_ fun _ _ z => z)
    rintro r s1 ⟨b, rfl, q1⟩
    exact wpAny_pure q1
/-- truth by an own __bool__ -/
theorem tru_own (D : Dun X.prog X.w X.K X.mg X.base CX k C "__bool__" ps sp) (hr : Room k X.A) (hx : Passes CX X E) : TruR X (fun x H Q => ∃ a dx fs, x = .ref a ∧ H a = some (.ins C dx fs) ∧ sp [.ref a] H (fun z H' => ∃ b, z = .bl b ∧ Q b H') E) := by
  intro pins s σ H x v Q I rx h
  obtain ⟨a, dx, fs, ex, ea, q⟩ := h
  subst ex
  obtain rfl : v = Value.ref a := rx
  obtain ⟨f, fd, at_, hf, hfi, F, hb⟩ := D.ex
  obtain ⟨od, J⟩ := inst_at I ea
  obtain ⟨m, hF⟩ := I.fr
  refine PySem.W.truthy_K hF I.ok.mod.kin J at_ hf (wpAny_mono (run_in F hr I.env0 hb hx I (.cons (vref a) .nil) q) ?_ fun _ _ z => z)
  rintro r s1 ⟨z, H1, I1, rz, b, rfl, q1⟩
  obtain rfl : r = Value.bool b := rz
  exact ⟨H1, I1, q1⟩
/-- len(o) -/
def rLenO (C : Addr) (sp : Sp) (E : XK) : List V → Hp → VK → Prop := fun xs H Q => ∃ a dx fs, xs = [.ref a] ∧ H a = some (.ins C dx fs) ∧ sp [.ref a] H (fun z H' => ∃ n : Int, z = .int n ∧ 0 ≤ n ∧ n < 2 ^ 63 ∧ Q (.int n) H') E
theorem call_lenO (D : Dun X.prog X.w X.K X.mg X.base CX k C "__len__" ps sp) (hr : Room (k + 1) X.A) (hx : Passes CX X E) : CallR X (.builtin "len") (rLenO C sp E) := by
  intro pins s σ H xs us Q I r h
  obtain ⟨a, dx, fs, rfl, ea, q⟩ := h
  obtain ⟨u, rfl, ru⟩ := vals1 r
  obtain rfl : u = Value.ref a := ru
  obtain ⟨f, fd, at_, hf, hfi, F, hb⟩ := D.ex
  obtain ⟨od, J⟩ := inst_at I ea
  obtain ⟨m, hF⟩ := I.fr
  refine PySem.W.len_K hF I.ok.mod.kin J at_ hf (wpAny_mono (run_in F hr.in1 I.env0.in1 hb hx I (.cons (vref a) .nil) q) ?_ fun _ _ z => z)
  rintro r s1 ⟨z, H1, I1, rz, n, rfl, h0, h1, q1⟩
  obtain ⟨t, rfl⟩ : ∃ t, r = Value.int n t := rz
  exact ⟨⟨h0, h1⟩, .int n, H1, I1.tok _, ⟨_, rfl⟩, q1⟩
/-- a test by truth, the rule given -/
theorem pt_tru {e : Expr} {te : TE} {r : V → Hp → (Bool → Hp → Prop) → Prop} (hr : TruR X r) (he : PE X e te) (hw : ∀ whole, isTrue e X.env whole = (do let v ← whole; standAt e.pos; holding [v] (truthy v)) := by intro _; rfl) : PT X e (fun σ H Q => te σ H fun x H' => r x H' Q) := by
  refine ⟨fun pins s σ H Q I h => isTrue_plain (thn (he.run pins s σ H _ I h) ?_) (hw _)⟩
  rintro v s1 ⟨x, H1, I1, r1, q1⟩
  exact hr pins s1 σ H1 x v Q I1 r1 q1
end
end EX
set_option Elab.async false
set_option linter.all false
set_option maxRecDepth 100000
set_option maxHeartbeats 4000000
namespace EX
open PySem L2 PySem.Spec PyProof.Rows
/-! ### data of any depth, dicts among them; repr -/
def keyD : Key → PyData
  | .inl i => .int i
  | .inr x => .str x
mutual
/-- the value v is the data d: lists, tuples, dicts (keys ints and texts) of such -/
inductive Dq (K : PySem.W.Frag) (H : Hp) : V → PyData → Prop
  | non : Dq K H .non .none
  | bl (b : Bool) : Dq K H (.bl b) (.bool b)
  | int (i : Int) : Dq K H (.int i) (.int i)
  | str (x : Str) : Dq K H (.str x) (.str x)
  | lst {a : Addr} {xs : List V} {ds : List PyData} : SqL K H a xs → DqAll K H xs ds → Dq K H (.ref a) (.list ds)
  | tup {a : Addr} {xs : List V} {ds : List PyData} : SqT K H a xs → DqAll K H xs ds → Dq K H (.ref a) (.tuple ds)
  | dic {a : Addr} {kvs : List (Key × V)} {ds : List PyData} : H a = some (.dK kvs) → DqAll K H (kvs.map (·.2)) ds → Dq K H (.ref a) (.dict ((kvs.map fun p => keyD p.1).zip ds))
inductive DqAll (K : PySem.W.Frag) (H : Hp) : List V → List PyData → Prop
  | nil : DqAll K H [] []
  | cons {v : V} {vs : List V} {d : PyData} {ds : List PyData} : Dq K H v d → DqAll K H vs ds → DqAll K H (v :: vs) (d :: ds)
end
theorem sqt_same {K : PySem.W.Frag} {H H' : Hp} {a : Addr} {xs : List V} (s : Same H H') (h : SqT K H a xs) : SqT K H' a xs :=
  h.elim (fun z => .inl (z.elim (fun z => .inl (s _ _ z)) fun ⟨o, z⟩ => .inr ⟨o, s _ _ z⟩)) .inr
mutual
theorem Dq.mono {K : PySem.W.Frag} {H H' : Hp} (s : Same H H') : ∀ {v : V} {d : PyData}, Dq K H v d → Dq K H' v d
  | _, _, .non => .non
  | _, _, .bl b => .bl b
  | _, _, .int i => .int i
  | _, _, .str x => .str x
  | _, _, .lst h a => .lst (s.seq h) (DqAll.mono s a)
  | _, _, .tup h a => .tup (sqt_same s h) (DqAll.mono s a)
  | _, _, .dic h a => .dic (s _ _ h) (DqAll.mono s a)
theorem DqAll.mono {K : PySem.W.Frag} {H H' : Hp} (s : Same H H') : ∀ {vs : List V} {ds : List PyData}, DqAll K H vs ds → DqAll K H' vs ds
  | _, _, .nil => .nil
  | _, _, .cons h t => .cons (Dq.mono s h) (DqAll.mono s t)
end
theorem DqAll.length {K : PySem.W.Frag} {H : Hp} : ∀ {vs : List V} {ds : List PyData}, DqAll K H vs ds → vs.length = ds.length
  | _, _, .nil => rfl
  | _, _, .cons _ t => congrArg (· + 1) (DqAll.length t)
section
variable {X : Cx} {pins : List (Addr × Obj)} {σ : L2.St} {H : Hp} {s : Shared}
theorem Dq.key {u : Value} {k : Key} (h : (mixKind X.prog X.w).is k u = true) : Reads s.heap u (keyD k) [] := by
  rcases keyIs_shape (show keyIs k u = true from h) with ⟨i, t, rfl, rfl⟩ | ⟨x, t, rfl, rfl⟩
  · exact Reads.int i t
  · exact Reads.str x t
theorem keys_read : ∀ {kvs : List (Key × V)} {vs : List (Key × Value)} {es : List DictEntry}, KV kvs vs → Pairs (mixKind X.prog X.w) es vs →
    ReadsAll s.heap (es.map (·.key)) (kvs.map fun p => keyD p.1) [] ∧ Vals (kvs.map (·.2)) (es.map (·.val))
  | _, _, _, .nil, .nil => ⟨ReadsAll.nil, .nil⟩
  | _, _, _, .cons hk t, .cons h1 h2 te => by
    obtain ⟨r1, r2⟩ := keys_read t te
    refine ⟨ReadsAll.cons (as := []) (Dq.key (by rw [hk.1]; exact h1)) r1, .cons ?_ r2⟩
    show L2.RelV _ (DictEntry.val _)
    rw [h2]
    exact hk.2
/-- the addresses that are read: none of them the table of modules -/
def AsOk (as : List Addr) : Prop := sysModules ∉ as
mutual
/-- where every list (not tuple) that stands in the data is known not to be the table of modules -/
inductive DqS (K : PySem.W.Frag) (H : Hp) : V → PyData → Prop
  | non : DqS K H .non .none
  | bl (b : Bool) : DqS K H (.bl b) (.bool b)
  | int (i : Int) : DqS K H (.int i) (.int i)
  | str (x : Str) : DqS K H (.str x) (.str x)
  | lst {a : Addr} {xs : List V} {ds : List PyData} : a ≠ sysModules → SqL K H a xs → DqSAll K H xs ds → DqS K H (.ref a) (.list ds)
  | tup {a : Addr} {xs : List V} {ds : List PyData} : SqT K H a xs → DqSAll K H xs ds → DqS K H (.ref a) (.tuple ds)
  | dic {a : Addr} {kvs : List (Key × V)} {ds : List PyData} : H a = some (.dK kvs) → DqSAll K H (kvs.map (·.2)) ds → DqS K H (.ref a) (.dict ((kvs.map fun p => keyD p.1).zip ds))
inductive DqSAll (K : PySem.W.Frag) (H : Hp) : List V → List PyData → Prop
  | nil : DqSAll K H [] []
  | cons {v : V} {vs : List V} {d : PyData} {ds : List PyData} : DqS K H v d → DqSAll K H vs ds → DqSAll K H (v :: vs) (d :: ds)
end
theorem DqSAll.length {K : PySem.W.Frag} {H : Hp} : ∀ {vs : List V} {ds : List PyData}, DqSAll K H vs ds → vs.length = ds.length
  | _, _, .nil => rfl
  | _, _, .cons _ t => congrArg (· + 1) (DqSAll.length t)
mutual
theorem DqS.reads (I : Inv X pins σ H s) : ∀ {v : V} {d : PyData} {u : Value}, DqS X.K H v d → RelV v u → ∃ as, Reads s.heap u d as ∧ sysModules ∉ as
  | _, _, _, .non, r => by
    cases r
    exact ⟨_, Reads.none, by simp⟩
  | _, _, _, .bl b, r => by
    cases r
    exact ⟨_, Reads.bool b, by simp⟩
  | _, _, _, .int i, r => by
    obtain ⟨t, rfl⟩ := r
    exact ⟨_, Reads.int i t, by simp⟩
  | _, _, _, .str x, r => by
    obtain ⟨t, rfl⟩ := r
    exact ⟨_, Reads.str x t, by simp⟩
  | _, _, _, .lst na hs ha, r => by
    cases r
    obtain ⟨its, rv, ⟨o, n, ho, hc, _, hd⟩, _⟩ := I.list hs
    obtain ⟨as, hr, hn⟩ := DqSAll.reads I ha rv
    exact ⟨_, Reads.list ho hc hd hr, by simp only [List.mem_cons, not_or]; exact ⟨fun z => na z.symm, hn⟩⟩
  | _, _, _, .tup hs ha, r => by
    cases r
    obtain ⟨its, rv, ⟨o, ho, hc, n, hd⟩, _⟩ := I.tuple hs
    obtain ⟨as, hr, hn⟩ := DqSAll.reads I ha rv
    exact ⟨_, Reads.tuple ho hc hd hr, hn⟩
  | _, _, _, .dic (a := a) (kvs := kvs) (ds := ds) e ha, r => by
    cases r
    obtain ⟨_, hsm, vs, kv, o, es, ep, ho, hx, hd, _, hp, _⟩ := (show ObjOk X.prog X.w H s.heap a (.dK kvs) from I.hok a _ e)
    obtain ⟨rk, rv⟩ := keys_read (s := s) kv hp
    obtain ⟨bs, hr, hn⟩ := DqSAll.reads I ha rv
    have hl : (kvs.map fun p => keyD p.1).length = ds.length := by
      have := ha.length
      simpa using this
    have z1 : ((kvs.map fun p => keyD p.1).zip ds).map (·.1) = kvs.map fun p => keyD p.1 := List.map_fst_zip (by omega)
    have z2 : ((kvs.map fun p => keyD p.1).zip ds).map (·.2) = ds := List.map_snd_zip (by omega)
    refine ⟨a :: [] ++ bs, Reads.dict ho hx.1 hd (by rw [z1]; exact rk) (by rw [z2]; exact hr), ?_⟩
    simp only [List.cons_append, List.nil_append, List.mem_cons, not_or]
    exact ⟨fun z => by rw [← z] at hsm; simp at hsm, hn⟩
theorem DqSAll.reads (I : Inv X pins σ H s) : ∀ {vs : List V} {ds : List PyData} {us : List Value}, DqSAll X.K H vs ds → Vals vs us → ∃ as, ReadsAll s.heap us ds as ∧ sysModules ∉ as
  | _, _, _, .nil, r => by
    cases r
    exact ⟨_, ReadsAll.nil, by simp⟩
  | _, _, _, .cons h1 h2, r => by
    cases r with
    | cons r1 r2 =>
      obtain ⟨as, q1, n1⟩ := DqS.reads I h1 r1
      obtain ⟨bs, q2, n2⟩ := DqSAll.reads I h2 r2
      exact ⟨_, ReadsAll.cons q1 q2, by simp only [List.mem_append, not_or]; exact ⟨n1, n2⟩⟩
end
/-- repr(x) -/
def rRepq (K : PySem.W.Frag) : List V → Hp → VK → Prop := fun xs H Q => ∃ (x : V) (d : PyData), xs = [x] ∧ DqS K H x d ∧ d.showable = true ∧ d.depth ≤ 60 ∧ d.shown.length ≤ sizeLine ∧ Q (.str d.shown) H
theorem call_reprq (hg : X.A.guards = some []) (hu : X.A.units + 70 < cLine) : CallR X (.builtin "repr") (rRepq X.K) := by
  intro pins s σ H xs us Q I r h
  obtain ⟨x, d, rfl, hR, hs, hdp, hz, q⟩ := h
  obtain ⟨u, rfl, ru⟩ := vals1 r
  obtain ⟨as, hr, hsm⟩ := hR.reads I ru
  have sc : ∀ (b : Str), d.shown = b → ∀ tk, EP X pins σ Q (.str b tk) { s with toks := s.toks + 1 } := fun b e tk => ⟨.str b, H, I.tok _, ⟨_, rfl⟩, e ▸ q⟩
  have big : ∀ {a : Addr}, Reads s.heap (.ref a) d as → wpAny (model X.prog X.w) X.A (call (.builtin "repr") [.ref a]) (EP X pins σ Q) X.xe s := fun {a} hr =>
    repr_of_reads' hr hs (fun _ => hsm) hg (by omega) (fun _ _ e => e) (fun h' u tk k => ⟨.str _, H, I.kept k, ⟨_, rfl⟩, q⟩) hz
  cases hr with
  | none => exact PySem.P.repr_of_none (sc _ rfl _)
  | bool b => exact PySem.P.repr_of_bool (sc _ (by cases b <;> rfl) _)
  | int i t => exact PySem.P.repr_of_int (of_decide_eq_true hs) (sc _ rfl _)
  | str y t => exact PySem.P.repr_of_str (sc _ rfl _) hz
  | list h1 h2 h3 h4 => exact big (Reads.list h1 h2 h3 h4)
  | tuple h1 h2 h3 h4 => exact big (Reads.tuple h1 h2 h3 h4)
  | dict h1 h2 h3 h4 h5 => exact big (Reads.dict h1 h2 h3 h4 h5)
/-- a list display, its place not the table of modules -/
def tLstN (t : TA) : TE := fun σ H Q => t σ H fun xs H1 => xs.length ≤ sizeLine ∧ ∀ p, H1 p = none → p ≠ sysModules → Q (.ref p) (upd H1 p (.lst xs))
theorem pe_lstN {es : List Expr} {t : TA} {pos : Pos} (h : PA X es t) : PE X (.List es pos) (tLstN t) := by
  refine ⟨fun pins s σ H Q I hq => wpAny_List_spliced (thn (h.run pos pins s σ H _ I hq) ?_)⟩
  rintro us s1 ⟨xs, H1, I1, r, z, q⟩
  have hf : H1 s1.heap.objs.size = none := I1.hok.fresh (Nat.le_refl _)
  have J := I1.laid (t' := s1.toks) (a := s1.heap.objs.size) (o := .lst xs) (h' := s1.heap.push { cls := .type "list", data := .seq us.toArray 0 }) (fun b u e => Heap.get?_push_of_some _ e) (Nat.le_refl _) ⟨z, us, 0, r, Heap.get?_push_size _ rfl⟩
  exact ⟨by rw [← r.length]; exact z, .ref s1.heap.objs.size, _, J, rfl, q _ hf (fun e => by have := I1.big; rw [e] at this; exact Nat.lt_irrefl _ this)⟩
end
/-! ### defs that want to know that nothing is being shown (for repr) -/
structure FnG (P : Program) (w : World) (K : PySem.W.Frag) (mg : Str → Option Value) (base : Heap) (CX : CXT) (k : Nat) (f : Addr) (fd : FuncData) (ps : List Str) (sp : Sp) : Prop where
  run : ∀ (A : Around) (outer : List Env) (s : Shared) (H : Hp) (args : Args) (us : List Value) (vs : List V) (Q : VK) (E : XK), Room k A → A.guards = some [] → Env0 P w K mg base A outer s H → BindsTo s fd args (ps.zip us) → Vals vs us → sp vs H Q E →
    codeAny (model P w) A (.call (.ref f) args) (CR CX outer P w H s Q E) s
  len : ∀ (vs : List V) (H : Hp) (Q : VK) (E : XK), sp vs H Q E → vs.length = ps.length
theorem FnG.of {P : Program} {w : World} {K : PySem.W.Frag} {mg : Str → Option Value} {base : Heap} {CX : CXT} {k : Nat} {f : Addr} {fd : FuncData} {ps : List Str} {sp : Sp} (F : FnOk P w K mg base CX k f fd ps sp) : FnG P w K mg base CX k f fd ps sp :=
  ⟨fun A outer s H args us vs Q E hr _ e0 hb rv h => F.run A outer s H args us vs Q E hr e0 hb rv h, fun vs H Q E h => F.len vs H Q E h⟩
theorem guards_deeper {A : Around} {env : Env} (h : A.guards = some []) : (A.deeper env).guards = some [] := by
  first | exact h | simpa [Around.deeper] using h
theorem okG {P : Program} {w : World} {K : PySem.W.Frag} {mg : Str → Option Value} {base : Heap} {x qual : Str} {st : Stmt} {f : Addr} {fd : FuncData} {N ps : List Str} {k : Nat} {sp : Sp} (F : Fun K x qual st f fd) (S : FnScope N ps (defScope st))
    (len : ∀ vs H Q E, sp vs H Q E → vs.length = ps.length)
    (body : ∀ (cdv : Value) (A : Around) (outer : List Env) (s : Shared) (H : Hp) (vs : List V) (Q : VK) (E : XK), (A.deeper (envOfC qual (defScope st) s.heap.objs.size f cdv)).guards = some [] → Room k (A.deeper (envOfC qual (defScope st) s.heap.objs.size f cdv)) → sp vs H Q E →
      ∃ t, PSs (cxOf CX0 P w K mg base N qual (defScope st) f cdv A outer s H E) (defBody st) t ∧ t { nx := fun _ H' => Q .non H', rt := Q } (start N vs) H) : FnG P w K mg base CX0 (k + 1) f fd ps sp :=
  ⟨fun A outer s H args us vs Q E hr hg e0 hb rv h => fn_at F S hr e0 hb rv (len _ _ _ _ h) fun cdv hr' => body cdv A outer s H vs Q E (guards_deeper hg) hr' h, len⟩
structure DefG (P : Program) (w : World) (K : PySem.W.Frag) (mg : Str → Option Value) (base : Heap) (k : Nat) (x : Str) (ps : List Str) (sp : Sp) : Prop where
  ex : ∃ (f : Addr) (fd : FuncData), FnG P w K mg base CX0 k f fd ps sp ∧ mg x = some (.ref f) ∧ PySem.W.keepIn K (.ref f) = true ∧ Binds K fd ps []
section
variable {X : Cx} {e : Expr} {es : List Expr} {ta : TA} {p pos : Pos} {x : Str} {k : Nat} {ps : List Str} {sp : Sp}
theorem pe_callG (D : DefG X.prog X.w X.K X.mg X.base k x ps sp) (hr : Room k X.A) (hgu : X.A.guards = some []) (ha : PA X (e :: es) ta) (hg : Gl X x := by rfl) (hdb : (x == ("__debug__" : Str)) = false := by decide)
    (he : starEach (e :: es) X.env = (false, eval e X.env) :: starEach es X.env := by rfl) (hpl : (backTo pos (starEach es X.env)).any (·.1) = false := by rfl) : PE X (.Call (.Name x p) (e :: es) [] pos) (tCall sp [] E0 ta) := by
  obtain ⟨f, fd, F, m, kp, hb⟩ := D.ex
  refine ⟨fun pins s σ H Q I h => wpAny_Call_Name_kw (ld_glob I hg m (PySem.W.callWith_K (h₀ := X.base) I.ok.mod.kin kp (thn (ha.run pos pins s σ H _ I h) ?_) he hpl) hdb)⟩
  rintro us s1 ⟨vs, H1, I1, r, q⟩
  refine ⟨I1.kIn, ?_⟩
  have q' : sp vs H1 Q E0 := by
    have := q
    rwa [List.append_nil] at this
  have hl : us.length = ps.length := by rw [← r.length]; exact F.len _ _ _ _ q'
  have bt : BindsTo s1 fd ⟨us, []⟩ (ps.zip us) := by
    have := hb s1 us I1.kIn (by rw [List.append_nil]; exact hl)
    rwa [List.append_nil] at this
  refine wpAny_call (codeAny_mono (F.run X.A X.stack s1 H1 ⟨us, []⟩ us vs Q E0 hr hgu I1.env0 bt r q') ?_)
  rintro (er | fl) s' hq
  · exact False.elim hq
  · cases fl with
    | ret u => exact I1.after hq
    | next => exact False.elim hq
    | brk => exact False.elim hq
    | cont => exact False.elim hq
end
end EX
set_option Elab.async false
set_option linter.all false
set_option maxRecDepth 100000
set_option maxHeartbeats 4000000
/-! what stands in the heap but for some places -/
namespace EX
open PySem L2 PyProof.Rows
/-- all that stood stands, but at the places S -/
def Keeps (S : List Addr) (H H' : Hp) : Prop := ∀ b o, b ∉ S → H b = some o → H' b = some o
variable {S T : List Addr} {H H1 H2 : Hp}
theorem Keeps.refl (S : List Addr) (H : Hp) : Keeps S H H := fun _ _ _ e => e
theorem Keeps.of (s : Same H H1) : Keeps S H H1 := fun b o _ e => s b o e
theorem Keeps.trans (a : Keeps S H H1) (b : Keeps S H1 H2) : Keeps S H H2 := fun c o n e => b c o n (a c o n e)
theorem Keeps.more (a : Keeps S H H1) (h : ∀ p ∈ S, p ∈ T) : Keeps T H H1 := fun c o n e => a c o (fun z => n (h c z)) e
theorem Keeps.then (a : Keeps S H H1) (s : Same H1 H2) : Keeps S H H2 := a.trans (.of s)
theorem Keeps.put {p : Addr} {o : HO} (a : Keeps S H H1) (hp : p ∈ S) : Keeps S H (upd H1 p o) := fun c u n e => by
  have ne : c ≠ p := fun z => n (by rw [z]; exact hp)
  rw [upd_ne ne]
  exact a c u n e
theorem Keeps.new {p : Addr} {o : HO} (a : Keeps S H H1) (hp : H1 p = none) : Keeps S H (upd H1 p o) := fun c u n e => by
  have := a c u n e
  have ne : c ≠ p := fun z => by
    rw [z, hp] at this
    cases this
  rw [upd_ne ne]
  exact this
theorem Keeps.free {p : Addr} (a : Keeps S H H1) (hS : p ∉ S) (hp : H1 p = none) : H p = none := by
  cases e : H p with
  | none => rfl
  | some o =>
    have := a p o hS e
    rw [hp] at this
    cases this
/-- what is changed was not there -/
theorem Keeps.same (a : Keeps S H H1) (h : ∀ p ∈ S, H p = none) : Same H H1 := fun b o e => a b o (fun z => by rw [h b z] at e; cases e) e
theorem Keeps.seq {K : PySem.W.Frag} {a : Addr} {xs : List V} (k : Keeps S H H1) (n : ∀ o, H a = some o → a ∉ S) (h : SqL K H a xs) : SqL K H1 a xs := by
  rcases h with (h | ⟨o, h⟩) | h
  · exact .inl (.inl (k _ _ (n _ h) h))
  · exact .inl (.inr ⟨o, k _ _ (n _ h) h⟩)
  · exact .inr h
theorem Keeps.sqt {K : PySem.W.Frag} {a : Addr} {xs : List V} (k : Keeps S H H1) (n : ∀ o, H a = some o → a ∉ S) (h : SqT K H a xs) : SqT K H1 a xs := by
  rcases h with (h | ⟨o, h⟩) | h
  · exact .inl (.inl (k _ _ (n _ h) h))
  · exact .inl (.inr ⟨o, k _ _ (n _ h) h⟩)
  · exact .inr h
theorem Keeps.lock {d : Addr} {u : HO} {od : Obj} (hd : H d = some u) (a : Keeps S (upd H d (.frz od u)) H1) : Keeps S H (upd H1 d u) := fun b o n e => by
  by_cases hb : b = d
  · subst hb
    rw [upd_same, ← hd, e]
  · rw [upd_ne hb]
    refine a b o n ?_
    rw [upd_ne hb]
    exact e
theorem ne_by {a b : Addr} {o : HO} (h : H a = some o) (hb : H b = none) : a ≠ b := fun z => by
  rw [z, hb] at h
  cases h
theorem ixI {n j : Nat} (hj : j < n) : ixN n (j : Int) = some j := by
  unfold ixN
  rw [if_pos (by omega), if_pos (by omega)]
  rfl
/-- no tuple stands there -/
def NoTup (H : Hp) (p : Addr) : Prop := (∀ xs, H p ≠ some (.tup xs)) ∧ ∀ q xs, H p ≠ some (.frz q (.tup xs))
theorem NoTup.ins {p C dx : Addr} {fs : List (Str × V)} (h : H p = some (.ins C dx fs)) : NoTup H p := ⟨fun xs z => (by rw [h] at z; cases z), fun q xs z => (by rw [h] at z; cases z)⟩
theorem NoTup.lst {p : Addr} {ys : List V} (h : H p = some (.lst ys)) : NoTup H p := ⟨fun xs z => (by rw [h] at z; cases z), fun q xs z => (by rw [h] at z; cases z)⟩
theorem NoTup.dK {p : Addr} {ys : List (Key × V)} (h : H p = some (.dK ys)) : NoTup H p := ⟨fun xs z => (by rw [h] at z; cases z), fun q xs z => (by rw [h] at z; cases z)⟩
theorem NoTup.no {p : Addr} (h : H p = Option.none) : NoTup H p := ⟨fun xs z => (by rw [h] at z; cases z), fun q xs z => (by rw [h] at z; cases z)⟩
theorem Keeps.sqt' {K : PySem.W.Frag} {a : Addr} {xs : List V} (k : Keeps S H H1) (n : ∀ p ∈ S, NoTup H p) (h : SqT K H a xs) : SqT K H1 a xs := by
  rcases h with (h | ⟨o, h⟩) | h
  · exact .inl (.inl (k _ _ (fun z => (n _ z).1 xs h) h))
  · exact .inl (.inr ⟨o, k _ _ (fun z => (n _ z).2 o xs h) h⟩)
  · exact .inr h
theorem Keeps.one {p : Addr} {o : HO} (H : Hp) : Keeps [p] H (upd H p o) := (Keeps.refl _ _).put (List.mem_singleton.mpr rfl)
theorem ifF {b : Bool} {A B : Prop} (e : b = false) (h : B) : if b = true then A else B := by
  rw [e]
  exact iteF h
theorem ifT {b : Bool} {A B : Prop} (e : b = true) (h : A) : if b = true then A else B := by
  rw [e]
  exact iteT h
theorem rd_lock {g d : Addr} {k u : List (Key × V)} {od : Obj} (h : Rd H g (.dK k)) (hd : H d = some (.dK u)) : Rd (upd H d (.frz od (.dK u))) g (.dK k) := by
  by_cases e : g = d
  · subst e
    rcases h with h | ⟨o, h⟩
    · rw [hd] at h
      cases h
      exact .inr ⟨od, upd_same⟩
    · rw [hd] at h
      cases h
  · rcases h with h | ⟨o, h⟩
    · exact .inl (by rw [upd_ne e]; exact h)
    · exact .inr ⟨o, by rw [upd_ne e]; exact h⟩
theorem rd_same {g : Addr} {k : List (Key × V)} (s : Same H H1) (h : Rd H g (.dK k)) : Rd H1 g (.dK k) := by
  rcases h with h | ⟨o, h⟩
  · exact .inl (s _ _ h)
  · exact .inr ⟨o, s _ _ h⟩
theorem sql_lock {K : PySem.W.Frag} {a d : Addr} {xs : List V} {u : List (Key × V)} {od : Obj} (h : SqL K H a xs) (hd : H d = some (.dK u)) : SqL K (upd H d (.frz od (.dK u))) a xs := by
  rcases h with (h | ⟨o, h⟩) | h
  · exact .inl (.inl (by rw [upd_ne fun z => by rw [z, hd] at h; cases h]; exact h))
  · exact .inl (.inr ⟨o, by rw [upd_ne fun z => by rw [z, hd] at h; cases h]; exact h⟩)
  · exact .inr h
theorem sqt_lock {K : PySem.W.Frag} {a d : Addr} {xs : List V} {u : List (Key × V)} {od : Obj} (h : SqT K H a xs) (hd : H d = some (.dK u)) : SqT K (upd H d (.frz od (.dK u))) a xs := by
  rcases h with (h | ⟨o, h⟩) | h
  · exact .inl (.inl (by rw [upd_ne fun z => by rw [z, hd] at h; cases h]; exact h))
  · exact .inl (.inr ⟨o, by rw [upd_ne fun z => by rw [z, hd] at h; cases h]; exact h⟩)
  · exact .inr h
theorem merge_app : ∀ (more kvs : List (Key × V)), ((kvs ++ more).map (·.1)).Nodup → mergeK kvs more = kvs ++ more
  | [], kvs, _ => by simp [mergeK]
  | e :: more, kvs, h => by
    have hno : e.1 ∉ kvs.map (·.1) := fun z => by
      rw [List.map_append, List.nodup_append] at h
      exact h.2.2 _ z _ (List.mem_map.mpr ⟨e, .head _, rfl⟩) rfl
    have hp : putK kvs e.1 e.2 = kvs ++ [e] := putK_new _ (by
      unfold valV
      have : kvs.find? (fun kv => decide (kv.1 = e.1)) = none := by
        rw [List.find?_eq_none]
        intro kv hkv
        rw [decide_eq_true_eq]
        exact fun z => hno (z ▸ List.mem_map.mpr ⟨kv, hkv, rfl⟩)
      rw [this]
      rfl)
    show mergeK (putK kvs e.1 e.2) more = _
    rw [hp, merge_app more (kvs ++ [e]) (by rw [List.append_assoc]; exact h), List.append_assoc]
    rfl
theorem merge_nd {more : List (Key × V)} (h : (more.map (·.1)).Nodup) : mergeK [] more = more := merge_app more [] h
theorem nd_inr {β : Type} {l : List (Str × β)} (h : (l.map (·.1)).Nodup) : (l.map fun p => (Sum.inr p.1 : Key)).Nodup := by
  rw [show (l.map fun p => (Sum.inr p.1 : Key)) = (l.map (·.1)).map Sum.inr by rw [List.map_map]; rfl]
  exact List.pairwise_map.mpr (h.imp fun ne e => ne (Sum.inr.inj e))
end EX
set_option Elab.async false
set_option linter.all false
set_option maxRecDepth 100000
set_option maxHeartbeats 4000000
/-! x | y, x & y of one's own class, both of it -/
namespace EX
open PySem L2 PySem.Spec PyProof.Rows
def rBinO (C : Addr) (sp : Sp) (E : XK) : R2 := fun x y H Q => ∃ a b dx dy fs gs, x = .ref a ∧ y = .ref b ∧ H a = some (.ins C dx fs) ∧ H b = some (.ins C dy gs) ∧ sp [.ref a, .ref b] H Q E
theorem op_binO {X : Cx} {CX : CXT} {k : Nat} {C : Addr} {op : Operator} {nm : Str} {ps : List Str} {sp : Sp} {E : XK} (D : Dun X.prog X.w X.K X.mg X.base CX k C nm ps sp) (hn : PySem.dunder op.info.2 = nm) (sf : PySem.W.selfFirst X.K C = true) (hr : Room k X.A) (hx : Passes CX X E) :
    OpR X (binaryOp op) (rBinO C sp E) := by
  intro pins s σ H x y v u Q I rx ry h
  obtain ⟨a, b, dx, dy, fs, gs, ex, ey, ea, eb, q⟩ := h
  subst ex
  subst ey
  obtain rfl : v = Value.ref a := rx
  obtain rfl : u = Value.ref b := ry
  obtain ⟨f, fd, at_, hf, hfi, F, hb⟩ := D.ex
  obtain ⟨od, J⟩ := inst_at I ea
  obtain ⟨od2, J2⟩ := inst_at I eb
  obtain ⟨m, hF⟩ := I.fr
  refine PySem.W.binop_K hF I.ok.mod.kin J J2.type sf (by rw [hn]; exact at_) hf (wpAny_mono (run_in F hr I.env0 hb hx I (.cons (vref a) (.cons (vref b) .nil)) q) ?_ fun _ _ z => z)
  rintro r s1 ⟨z, H1, I1, rz, q1⟩
  exact SlX.cmpback rz ⟨z, H1, I1, rz, q1⟩
end EX
set_option Elab.async false
set_option linter.all false
set_option maxRecDepth 100000
set_option maxHeartbeats 4000000
/-! methods, properties, instances of one's own classes, each as one fact -/
namespace EX
open PySem L2 PyProof.Rows
structure MtAt (P : Program) (w : World) (K : PySem.W.Frag) (mg : Str → Option Value) (base : Heap) (CX : CXT) (k : Nat) (C : Addr) (m : Str) (ps : List Str) (sp : Sp) : Prop where
  c : Cls K C
  ex : ∃ (f : Addr) (fd : FuncData), Meth K C m f ∧ FnOk P w K mg base CX k f fd ps sp ∧ Binds K fd ps []
structure PrAt (P : Program) (w : World) (K : PySem.W.Frag) (mg : Str → Option Value) (base : Heap) (k : Nat) (C : Addr) (m : Str) (ps : List Str) (sp : Sp) : Prop where
  c : Cls K C
  ex : ∃ (p f : Addr) (fd : FuncData), PropOf K C m p f ∧ FnOk P w K mg base CX0 k f fd ps sp ∧ Binds K fd ps []
structure MkAt (P : Program) (w : World) (K : PySem.W.Frag) (mg : Str → Option Value) (base : Heap) (CX : CXT) (k : Nat) (x : Str) (ps : List Str) (C : Addr) (sp : Sp) : Prop where
  m : mg x = some (.ref C)
  ex : ∃ (f : Addr) (fd : FuncData), Mk K C f ∧ FnOk P w K mg base CX k f fd ps sp ∧ Binds K fd ps []
section
variable {X : Cx} {e o : Expr} {es : List Expr} {t : TA} {ta : TE} {p pos apos : Pos} {x m : Str} {k : Nat} {ps : List Str} {sp : Sp} {C : Addr}
theorem pe_mtD {pl : Sem Bool} (D : MtAt X.prog X.w X.K X.mg X.base CX0 k C m ps sp) (hr : Room k X.A) (he : PE X o ta) (ha : PA X (e :: es) t)
    (hst : starEach (e :: es) X.env = (false, eval e X.env) :: starEach es X.env := by rfl) (hpl : (backTo pos (starEach es X.env)).any (·.1) = false := by rfl)
    (ht : eval (.Call (.Attribute o m apos) (e :: es) [] pos) X.env = (do
      let ov ← eval o X.env
      standAt apos.atName
      let (f, first) ← holding [ov] (getMethod ov m pl)
      callWith pos f first (backTo pos (starEach (e :: es) X.env)) (backToKw pos (keywordEach [] X.env))) := by rfl) : PE X (.Call (.Attribute o m apos) (e :: es) [] pos) (tMeth C m sp [] E0 ta t) := by
  obtain ⟨f, fd, hm, F, b⟩ := D.ex
  exact pe_meth (pl := pl) he D.c hm F hr b .nil pass0 ha hst hpl ht
theorem pe_mtD0 {pl : Sem Bool} (D : MtAt X.prog X.w X.K X.mg X.base CX0 k C m ps sp) (hr : Room k X.A) (he : PE X o ta)
    (ht : eval (.Call (.Attribute o m apos) [] [] pos) X.env = (do
      let ov ← eval o X.env
      standAt apos.atName
      let (f, first) ← holding [ov] (getMethod ov m pl)
      callWith pos f first (backTo pos (starEach [] X.env)) (backToKw pos (keywordEach [] X.env))) := by rfl) : PE X (.Call (.Attribute o m apos) [] [] pos) (tMeth C m sp [] E0 ta tNil) := by
  obtain ⟨f, fd, hm, F, b⟩ := D.ex
  exact pe_meth0 (pl := pl) he D.c hm F hr b .nil pass0 ht
theorem pe_prD (D : PrAt X.prog X.w X.K X.mg X.base k C m ps sp) (hr : Room (k + 1) X.A) (he : PE X e ta) (hab : attributeBase e m X.env (eval e X.env) = eval e X.env := by rfl) : PE X (.Attribute e m pos) (tProp C sp [] E0 ta) := by
  obtain ⟨q, f, fd, hp, F, b⟩ := D.ex
  exact pe_prop he D.c hp F hr b .nil pass0 hab
theorem pe_mkC (D : MkAt X.prog X.w X.K X.mg X.base CX0 k x ps C sp) (hr : Room (k + 1) X.A) (ha : PA X (e :: es) t) (hg : Gl X x := by rfl) (hdb : (x == ("__debug__" : Str)) = false := by decide)
    (he : starEach (e :: es) X.env = (false, eval e X.env) :: starEach es X.env := by rfl) (hpl : (backTo pos (starEach es X.env)).any (·.1) = false := by rfl) : PE X (.Call (.Name x p) (e :: es) [] pos) (tMake C sp [] E0 t) := by
  obtain ⟨f, fd, M, F, b⟩ := D.ex
  exact pe_make M F hr hg D.m b .nil pass0 ha hdb he hpl
end
def rMax2 : List V → Hp → VK → Prop := fun xs H Q => ∃ i j, xs = [.int i, .int j] ∧ Q (.int (if j > i then j else i)) H
def rMin2 : List V → Hp → VK → Prop := fun xs H Q => ∃ i j, xs = [.int i, .int j] ∧ Q (.int (if j < i then j else i)) H
def rLenSq (K : PySem.W.Frag) : List V → Hp → VK → Prop := fun xs H Q => ∃ p ys, xs = [.ref p] ∧ (SqL K H p ys ∨ SqT K H p ys) ∧ Q (.int ys.length) H
def rAbs : List V → Hp → VK → Prop := fun xs H Q => ∃ i, xs = [.int i] ∧ Q (.int (if i < 0 then -i else i)) H
end EX
set_option Elab.async false
set_option linter.all false
set_option maxRecDepth 100000
set_option maxHeartbeats 2000000
/-! the head's facts as Bools over what is written: own exceptions, properties, own specials -/
namespace HkX
open PySem PySem.W PySem.Calls PyProof.Rows He L2 EX
abbrev Fx : Type := Frag → Bool
/-- He's facts -/
def xF (f : He.Fa) : Fx := fun K => f.ok K
/-- an own exception class below Exception -/
def xEcc (x : PySem.Str) : Fx := fun K => excInitIn K (ga K x) exT "Exception.__new__" && (excOver K (ga K x) exT && (eqO (findIn K (.ref (ga K x)) "__setattr__") (some (some (.builtin "object.__setattr__"))) && (eqO (findIn K (.ref (ga K x)) "__getattribute__") (some (some (.builtin "BaseException.__getattribute__"))) &&
  (eqO (findIn K (.ref (ga K x)) "__getattr__") (some none) && (decide (subIn K (.ref (ga K x)) (.type "BaseException") = some true) && (hasDictIn K (ga K x) && (keepIn K (.ref (ga K x)) && ((clsIn K (ga K x)).isSome && (eqO (findIn K (.ref (ga K x)) "__class__") (some (some (.builtin "object.__class__"))) &&
  (decide (mroIn K (ga K x) (.type "object") = some true) && (eqO (specialIn K (.builtin "object.__class__") "__get__") (some (some (.builtin "getset_descriptor.__get__"))) && decide (takesIn K (.builtin "object.__class__") = some true))))))))))))
theorem ecc_ok {K : Frag} {x : PySem.Str} (h : xEcc x K = true) : EcC K (ga K x) := by
  obtain ⟨h1, h⟩ := ba h
  obtain ⟨h2, h⟩ := ba h
  obtain ⟨h3, h⟩ := ba h
  obtain ⟨h4, h⟩ := ba h
  obtain ⟨h5, h⟩ := ba h
  obtain ⟨h6, h⟩ := ba h
  obtain ⟨h7, h⟩ := ba h
  obtain ⟨h8, h⟩ := ba h
  obtain ⟨h9, h⟩ := ba h
  obtain ⟨h10, h⟩ := ba h
  obtain ⟨h11, h⟩ := ba h
  obtain ⟨h12, h13⟩ := ba h
  exact ⟨h1, h2, eqO_ok h3, eqO_ok h4, eqO_ok h5, of_decide_eq_true h6, h7, h8, h9, eqO_ok h10, of_decide_eq_true h11, eqO_ok h12, of_decide_eq_true h13⟩
/-- such a class with the one field f -/
def xXr (x f : PySem.Str) : Fx := fun K => decide (typeIn K (.ref (ga K x)) = some (.type "type")) && (eqO (findIn K (.ref (ga K x)) f) (some none) && (eqO (findIn K (.ref (ga K x)) "__init__") (some (some (.ref (ma K (ga K x) "__init__")))) && (decide (typeIn K (.ref (ma K (ga K x) "__init__")) = some (.type "function")) &&
  decide (takerIn K (ga K x) f = some none))))
theorem xr_ok {K : Frag} {x f : PySem.Str} (h : xXr x f K = true) : typeIn K (.ref (ga K x)) = some (.type "type") ∧ findIn K (.ref (ga K x)) f = some none ∧ findIn K (.ref (ga K x)) "__init__" = some (some (.ref (ma K (ga K x) "__init__"))) ∧ typeIn K (.ref (ma K (ga K x) "__init__")) = some (.type "function") ∧ takerIn K (ga K x) f = some none := by
  obtain ⟨h1, h⟩ := ba h
  obtain ⟨h2, h⟩ := ba h
  obtain ⟨h3, h⟩ := ba h
  obtain ⟨h4, h5⟩ := ba h
  exact ⟨of_decide_eq_true h1, eqO_ok h2, eqO_ok h3, of_decide_eq_true h4, of_decide_eq_true h5⟩
/-- caught as -/
def xExm (x y : PySem.Str) (b : Bool) : Fx := fun K => decide (exmOne K (.ref (ga K x)) (.ref (ga K y)) = some b)
/-- a property -/
def pg (x m : PySem.Str) (K : Frag) : Addr := He5.wf K (ga K x) "property" m
def xProp (x m : PySem.Str) : Fx := fun K => eqO (findIn K (.ref (ga K x)) m) (some (some (.ref (ma K (ga K x) m)))) && (eqO (specialIn K (.ref (ma K (ga K x) m)) "__get__") (some (some (.builtin "property.__get__"))) && (decide (takesIn K (.ref (ma K (ga K x) m)) = some true) && (match recIn K (ma K (ga K x) m) "property" with
  | some (.ref _ :: _) => true
  | _ => false)))
theorem prop_ok {K : Frag} {x m : PySem.Str} (h : xProp x m K = true) : PropOf K (ga K x) m (ma K (ga K x) m) (pg x m K) := by
  obtain ⟨h1, h⟩ := ba h
  obtain ⟨h2, h⟩ := ba h
  obtain ⟨h3, h4⟩ := ba h
  refine ⟨eqO_ok h1, eqO_ok h2, of_decide_eq_true h3, ?_⟩
  unfold pg He5.wf
  split at h4
  · rename_i f r e
    exact ⟨r, by rw [e]⟩
  · cases h4
/-- an own special -/
def xDun (x m : PySem.Str) : Fx := fun K => eqO (findIn K (.ref (ga K x)) m) (some (some (.ref (ma K (ga K x) m)))) && (isFn K (.ref (ma K (ga K x) m)) && fnIn K (ma K (ga K x) m))
theorem dun_ok {K : Frag} {x m : PySem.Str} (h : xDun x m K = true) : findIn K (.ref (ga K x)) m = some (some (.ref (ma K (ga K x) m))) ∧ isFn K (.ref (ma K (ga K x) m)) = true ∧ fnIn K (ma K (ga K x) m) = true := by
  obtain ⟨h1, h⟩ := ba h
  obtain ⟨h2, h3⟩ := ba h
  exact ⟨eqO_ok h1, h2, h3⟩
/-- isinstance of an own instance, of its own class -/
def xIsi (x : PySem.Str) : Fx := fun K => eqO (findIn K (.ref (ga K x)) "__class__") (some (some (.builtin "object.__class__"))) && (eqO (specialIn K (.builtin "object.__class__") "__get__") (some (some (.builtin "getset_descriptor.__get__"))) && (decide (takesIn K (.builtin "object.__class__") = some true) && (decide (mroIn K (ga K x) (.type "object") = some true) && decide (kitOne K (.ref (ga K x)) (.ref (ga K x)) = some true))))
theorem isi_ok {K : Frag} {x : PySem.Str} (h : xIsi x K = true) : findIn K (.ref (ga K x)) "__class__" = some (some (.builtin "object.__class__")) ∧ specialIn K (.builtin "object.__class__") "__get__" = some (some (.builtin "getset_descriptor.__get__")) ∧ takesIn K (.builtin "object.__class__") = some true ∧ mroIn K (ga K x) (.type "object") = some true ∧ kitOne K (.ref (ga K x)) (.ref (ga K x)) = some true := by
  obtain ⟨h1, h⟩ := ba h
  obtain ⟨h2, h⟩ := ba h
  obtain ⟨h3, h⟩ := ba h
  obtain ⟨h4, h5⟩ := ba h
  exact ⟨eqO_ok h1, eqO_ok h2, of_decide_eq_true h3, of_decide_eq_true h4, of_decide_eq_true h5⟩
def xSelf (x : PySem.Str) : Fx := fun K => selfFirst K (ga K x)
/-- a class's constant, an int -/
def xCInt (x f : PySem.Str) (i : Int) : Fx := fun K => readsIn K (ga K x) (.type "type") && (match findCls K (.ref (ga K x)) (.type "type") f with
  | some (.val (.int j _)) => decide (j = i)
  | _ => false)
theorem cread_of {K : Frag} {C : Addr} (h : readsIn K C (.type "type") = true) : ClX.CRead K C (.type "type") := by
  refine ⟨h, ?_⟩
  unfold readsIn at h
  obtain ⟨h, _⟩ := ba h
  obtain ⟨h, _⟩ := ba h
  obtain ⟨h, h3⟩ := ba h
  obtain ⟨_, h2⟩ := ba h
  unfold specialIn
  rw [beq_iff_eq.mp h2, Option.bind_some]
  exact beq_iff_eq.mp h3
theorem cint_ok {K : Frag} {x f : PySem.Str} {i : Int} (h : xCInt x f i K = true) : ClX.CRead K (ga K x) (.type "type") ∧ ∃ t, ClX.CVal K (ga K x) (.type "type") f (.int i) (.int i t) := by
  obtain ⟨h1, h2⟩ := ba h
  refine ⟨cread_of h1, ?_⟩
  split at h2
  · rename_i j t e
    have ej : j = i := of_decide_eq_true h2
    rw [ej] at e
    exact ⟨t, e, ⟨t, rfl⟩⟩
  · cases h2
/-! ### the Hook -/
def obsX (fx : List Fx) (fn : List He5.DefA) (K : Frag) : He.AlD := ((fx.all fun f => f K) && fn.all fun d => d.ok K, fn.map fun d => He5.fnA K (d.at_ K))
def valX (fn : List He5.DefA) : He.AlD := (true, fn.map He5.DefA.val)
def SaysX (fx : List Fx) (fn : List He5.DefA) (K : Frag) : Prop := obsX fx fn K = valX fn
def obsXG (n : Nat) (fx : List Fx) (fn : List He5.DefA) (g : Addr → Option Obj) : He.AlD := obsX fx fn (frG g (He5.asA g n))
def hookX (n : Nat) (fx : List Fx) (fn : List He5.DefA) : PySem.W.Hook where
  α := He.AlD
  obs := fun s => obsXG n fx fn s.heap.get?
  val := fun _ => valX fn
  says := fun _ h => ∃ K : Frag, K.In h ∧ SaysX fx fn K
  of := fun _ _ e => ⟨_, frG_in, e⟩
  keeps := fun _ _ _ ⟨K, hK, c⟩ k => ⟨K, Frag.In.keeps hK k, c⟩
theorem obsXG_eq {n : Nat} {fx : List Fx} {fn : List He5.DefA} {g : Addr → Option Obj} {s : Shared} (h : ∀ a, g a = s.heap.get? a) : obsXG n fx fn g = (hookX n fx fn).obs s := by
  have e : g = s.heap.get? := funext h
  rw [e] <;> rfl
section
variable {fx : List Fx} {fn : List He5.DefA} {K : Frag}
theorem SaysX.fact (c : SaysX fx fn K) (i : Nat) {f : Fx} (h : fx[i]? = some f := by rfl) : f K = true := by
  have c1 := (ba (show ((fx.all fun f => f K) && fn.all fun d => d.ok K) = true from congrArg (fun z : He.AlD => z.1) c)).1
  exact List.all_eq_true.mp c1 f (List.mem_of_getElem? h)
theorem SaysX.def_ (c : SaysX fx fn K) (i : Nat) {d : He5.DefA} (h : fn[i]? = some d := by rfl) : ∃ fd, L2.FunD K d.name d.qual d.params d.body d.scope (d.dvs K) (d.kws K) (d.at_ K) fd := by
  have c2 := (ba (show ((fx.all fun f => f K) && fn.all fun d => d.ok K) = true from congrArg (fun z : He.AlD => z.1) c)).2
  have e : fn.map (fun d => He5.fnA K (d.at_ K)) = fn.map He5.DefA.val := congrArg (fun z : He.AlD => z.2) c
  have e2 : (fn.map fun d => He5.fnA K (d.at_ K))[i]? = (fn.map He5.DefA.val)[i]? := by rw [e]
  rw [List.getElem?_map, List.getElem?_map, h] at e2
  exact He5.DefA.funD (Option.some.inj e2) (List.all_eq_true.mp c2 d (List.mem_of_getElem? h))
end
end HkX
set_option Elab.async false
set_option linter.all false
set_option maxRecDepth 100000
set_option maxHeartbeats 2000000
/-! HkX with tables of text keys -/
namespace HkX
open PySem PySem.W PySem.Calls PyProof.Rows He L2 EX
/-- the values of a table, some of them -/
def xVals (x : PySem.Str) (kvs : List (PySem.Str × He.Dv)) : Fx := fun K => He.valsB K (ga K x) kvs
theorem vals_ref {K : Frag} {x k y : PySem.Str} {kvs : List (PySem.Str × He.Dv)} (h : xVals x kvs K = true) (hq : (k, He.Dv.glo y) ∈ kvs) : nsIn K (ga K x) k = some (some (.ref (ga K y))) := by
  obtain ⟨u, h1, h2⟩ := He.valsB_ok h hq
  have e : u = .ref (ga K y) := h2
  rw [← e]
  exact h1
/-- the objects reached from the module's names in n steps; a mask of bits says which are met already -/
def putB : List Addr → Nat → List Addr → Nat × List Addr
  | [], m, acc => (m, acc)
  | a :: r, m, acc => match Nat.beq (Nat.mod (Nat.shiftRight m a) 2) 1 with
    | true => putB r m acc
    | false => putB r (Nat.lor m (Nat.shiftLeft 1 a)) (a :: acc)
def nextB (g : Addr → Option Obj) (fr : List Addr) : List Addr := fr.flatMap fun a => match g a with
  | some o => He.refsD o
  | none => []
def goB (g : Addr → Option Obj) : Nat → Nat → List Addr → List Addr
  | 0, _, fr => fr
  | n + 1, m, fr => match putB (nextB g fr) m [] with
    | (m2, fr2) => fr ++ goB g n m2 fr2
def asB (g : Addr → Option Obj) (n : Nat) : List Addr := goB g n (Nat.shiftLeft 1 mainGlobals) [mainGlobals] ++ [cStatics]
abbrev AlY : Type := He.AlD × List (Option (List (Option (PySem.Str × Int))))
def obsY (fx : List Fx) (fn : List He5.DefA) (ts : List He.Tab) (K : Frag) : AlY := (obsX fx fn K, ts.map fun t => He.dicW K (t.1 K))
def valY (fn : List He5.DefA) (ts : List He.Tab) (w : World) : AlY := (valX fn, ts.map fun t => some (He.keysIn w.params t.2))
def obsYG (n : Nat) (fx : List Fx) (fn : List He5.DefA) (ts : List He.Tab) (g : Addr → Option Obj) : AlY := obsY fx fn ts (frG g (asB g n))
def SaysY (fx : List Fx) (fn : List He5.DefA) (ts : List He.Tab) (w : World) (K : Frag) : Prop := obsY fx fn ts K = valY fn ts w
def hookY (n : Nat) (fx : List Fx) (fn : List He5.DefA) (ts : List He.Tab) : PySem.W.Hook where
  α := AlY
  obs := fun s => obsYG n fx fn ts s.heap.get?
  val := fun w => valY fn ts w
  says := fun w h => ∃ K : Frag, K.In h ∧ SaysY fx fn ts w K
  of := fun _ _ e => ⟨_, frG_in, e⟩
  keeps := fun _ _ _ ⟨K, hK, c⟩ k => ⟨K, Frag.In.keeps hK k, c⟩
theorem obsYG_eq {n : Nat} {fx : List Fx} {fn : List He5.DefA} {ts : List He.Tab} {g : Addr → Option Obj} {s : Shared} (h : ∀ a, g a = s.heap.get? a) : obsYG n fx fn ts g = (hookY n fx fn ts).obs s := by
  have e : g = s.heap.get? := funext h
  rw [e] <;> rfl
section
variable {fx : List Fx} {fn : List He5.DefA} {ts : List He.Tab} {w : World} {K : Frag}
theorem SaysY.d (c : SaysY fx fn ts w K) : SaysX fx fn K := congrArg (fun z : AlY => z.1) c
theorem SaysY.tab (c : SaysY fx fn ts w K) (i : Nat) {t : He.Tab} (h : ts[i]? = some t := by rfl) : ∃ es n, KDict K w (t.1 K) es n := by
  have e : ts.map (fun t => He.dicW K (t.1 K)) = ts.map fun t => some (He.keysIn w.params t.2) := congrArg (fun z : AlY => z.2) c
  have e2 : (ts.map fun t => He.dicW K (t.1 K))[i]? = (ts.map fun t => some (He.keysIn w.params t.2))[i]? := by rw [e]
  rw [List.getElem?_map, List.getElem?_map, h] at e2
  exact He.dicW_ok (Option.some.inj e2)
end
end HkX
set_option Elab.async false
set_option linter.all false
set_option maxRecDepth 100000
set_option maxHeartbeats 0
namespace HX03
open PySem PySem.Spec PyProof.Rows L2 EX HkX
def top (i : Nat) : Stmt := PySem.Challenge.pw_slackcache_k03_known_chains.main.body.getD i (.Pass ⟨0, 0, 0, 0⟩)
def fn0 : List He5.DefA := [⟨(fun K => He.ma K (He.ga K "InvalidKeys") "__init__"), "__init__", "InvalidKeys.__init__", defArgs (inClass (top 3) 0), defBody (inClass (top 3) 0), defScope (inClass (top 3) 0), [], []⟩,
  ⟨(fun K => He.ma K (He.ga K "InvalidName") "__init__"), "__init__", "InvalidName.__init__", defArgs (inClass (top 4) 0), defBody (inClass (top 4) 0), defScope (inClass (top 4) 0), [], []⟩,
  ⟨(fun K => He.ma K (He.ga K "InvalidAllowance") "__init__"), "__init__", "InvalidAllowance.__init__", defArgs (inClass (top 7) 0), defBody (inClass (top 7) 0), defScope (inClass (top 7) 0), [], []⟩,
  ⟨(fun K => He.ma K (He.ga K "UnknownNode") "__init__"), "__init__", "UnknownNode.__init__", defArgs (inClass (top 8) 0), defBody (inClass (top 8) 0), defScope (inClass (top 8) 0), [], []⟩,
  ⟨(fun K => He.ma K (He.ga K "NameTaken") "__init__"), "__init__", "NameTaken.__init__", defArgs (inClass (top 13) 0), defBody (inClass (top 13) 0), defScope (inClass (top 13) 0), [], []⟩,
  ⟨(fun K => He.ma K (He.ga K "NotReady") "__init__"), "__init__", "NotReady.__init__", defArgs (inClass (top 14) 0), defBody (inClass (top 14) 0), defScope (inClass (top 14) 0), [], []⟩,
  ⟨(fun K => He.ma K (He.ga K "TooLow") "__init__"), "__init__", "TooLow.__init__", defArgs (inClass (top 17) 0), defBody (inClass (top 17) 0), defScope (inClass (top 17) 0), [], []⟩,
  ⟨(fun K => He.ma K (He.ga K "LimitExceeded") "__init__"), "__init__", "LimitExceeded.__init__", defArgs (inClass (top 18) 0), defBody (inClass (top 18) 0), defScope (inClass (top 18) 0), [], []⟩,
  ⟨(fun K => He.ma K (He.ga K "Entry") "__init__"), "__init__", "Entry.__init__", defArgs (inClass (top 20) 0), defBody (inClass (top 20) 0), defScope (inClass (top 20) 0), [], []⟩,
  ⟨(fun K => He.ma K (He.ga K "Cache") "__init__"), "__init__", "Cache.__init__", defArgs (inClass (top 22) 0), defBody (inClass (top 22) 0), defScope (inClass (top 22) 0), [], []⟩,
  ⟨(fun K => He.ma K (He.ga K "Cache") "told"), "told", "Cache.told", defArgs (inClass (top 22) 15), defBody (inClass (top 22) 15), defScope (inClass (top 22) 15), [], []⟩,
  ⟨(fun K => He.ma K (He.ga K "Cache") "bound"), "bound", "Cache.bound", defArgs (inClass (top 22) 16), defBody (inClass (top 22) 16), defScope (inClass (top 22) 16), [], []⟩,
  ⟨(fun K => He.ma K (He.ga K "Cache") "serves"), "serves", "Cache.serves", defArgs (inClass (top 22) 19), defBody (inClass (top 22) 19), defScope (inClass (top 22) 19), [], []⟩,
  ⟨(fun K => He.ma K (He.ga K "Cache") "agrees"), "agrees", "Cache.agrees", defArgs (inClass (top 22) 20), defBody (inClass (top 22) 20), defScope (inClass (top 22) 20), [], []⟩,
  ⟨(fun K => He.ga K "is_word"), "is_word", "is_word", defArgs (top 29), defBody (top 29), defScope (top 29), [], []⟩,
  ⟨(fun K => He.ga K "are_keys"), "are_keys", "are_keys", defArgs (top 30), defBody (top 30), defScope (top 30), [], []⟩,
  ⟨(fun K => He.ga K "is_allowance"), "is_allowance", "is_allowance", defArgs (top 31), defBody (top 31), defScope (top 31), [], []⟩,
  ⟨(fun K => He.ga K "are_allowances"), "are_allowances", "are_allowances", defArgs (top 32), defBody (top 32), defScope (top 32), [], []⟩,
  ⟨(fun K => He.ga K "is_integer_within"), "is_integer_within", "is_integer_within", defArgs (top 28), defBody (top 28), defScope (top 28), [], []⟩,
  ⟨(fun K => He.ga K "send_to_children"), "send_to_children", "send_to_children", defArgs (top 35), defBody (top 35), defScope (top 35), [], []⟩,
  ⟨(fun K => He.ga K "accept"), "accept", "accept", defArgs (top 36), defBody (top 36), defScope (top 36), [], []⟩,
  ⟨(fun K => He.ga K "accept_waiting"), "accept_waiting", "accept_waiting", defArgs (top 37), defBody (top 37), defScope (top 37), [], []⟩,
  ⟨(fun K => He.ga K "renew"), "renew", "renew", defArgs (top 38), defBody (top 38), defScope (top 38), [], []⟩,
  ⟨(fun K => He.ga K "settle"), "settle", "settle", defArgs (top 39), defBody (top 39), defScope (top 39), [], []⟩,
  ⟨(fun K => He.ga K "start_child"), "start_child", "start_child", defArgs (top 41), defBody (top 41), defScope (top 41), [], []⟩]
def fn1 : List He5.DefA := [⟨(fun K => He.ga K "add_child"), "add_child", "add_child", defArgs (top 42), defBody (top 42), defScope (top 42), [], []⟩,
  ⟨(fun K => He.ga K "rows_from"), "rows_from", "rows_from", defArgs (top 47), defBody (top 47), defScope (top 47), [], []⟩,
  ⟨(fun K => He.ga K "give"), "give", "give", defArgs (top 48), defBody (top 48), defScope (top 48), [], []⟩,
  ⟨(fun K => He.ga K "ask"), "ask", "ask", defArgs (top 49), defBody (top 49), defScope (top 49), [], []⟩,
  ⟨(fun K => He.ga K "hear_question"), "hear_question", "hear_question", defArgs (top 50), defBody (top 50), defScope (top 50), [], []⟩,
  ⟨(fun K => He.ga K "hear_copy"), "hear_copy", "hear_copy", defArgs (top 52), defBody (top 52), defScope (top 52), [], []⟩,
  ⟨(fun K => He.ga K "hear_update"), "hear_update", "hear_update", defArgs (top 53), defBody (top 53), defScope (top 53), [], []⟩,
  ⟨(fun K => He.ga K "hear_lower"), "hear_lower", "hear_lower", defArgs (top 54), defBody (top 54), defScope (top 54), [], []⟩,
  ⟨(fun K => He.ga K "hear_raise"), "hear_raise", "hear_raise", defArgs (top 55), defBody (top 55), defScope (top 55), [], []⟩,
  ⟨(fun K => He.ga K "hear_confirm"), "hear_confirm", "hear_confirm", defArgs (top 56), defBody (top 56), defScope (top 56), [], []⟩,
  ⟨(fun K => He.ma K (He.ga K "Net") "__init__"), "__init__", "Net.__init__", defArgs (inClass (top 63) 1), defBody (inClass (top 63) 1), defScope (inClass (top 63) 1), [], []⟩,
  ⟨(fun K => He.ma K (He.ga K "Net") "__getitem__"), "__getitem__", "Net.__getitem__", defArgs (inClass (top 63) 8), defBody (inClass (top 63) 8), defScope (inClass (top 63) 8), [], []⟩,
  ⟨(fun K => He.ma K (He.ga K "Net") "check_key"), "check_key", "Net.check_key", defArgs (inClass (top 63) 12), defBody (inClass (top 63) 12), defScope (inClass (top 63) 12), [], []⟩,
  ⟨(fun K => He.ma K (He.ga K "Net") "check_need"), "check_need", "Net.check_need", defArgs (inClass (top 63) 13), defBody (inClass (top 63) 13), defScope (inClass (top 63) 13), [], []⟩,
  ⟨(fun K => He.ma K (He.ga K "Net") "join"), "join", "Net.join", defArgs (inClass (top 63) 14), defBody (inClass (top 63) 14), defScope (inClass (top 63) 14), [], []⟩,
  ⟨(fun K => He.ma K (He.ga K "Net") "write"), "write", "Net.write", defArgs (inClass (top 63) 15), defBody (inClass (top 63) 15), defScope (inClass (top 63) 15), [], []⟩,
  ⟨(fun K => He.ma K (He.ga K "Net") "read"), "read", "Net.read", defArgs (inClass (top 63) 16), defBody (inClass (top 63) 16), defScope (inClass (top 63) 16), [], [("floor", .int 0)]⟩,
  ⟨(fun K => He.ma K (He.ga K "Net") "deliver"), "deliver", "Net.deliver", defArgs (inClass (top 63) 18), defBody (inClass (top 63) 18), defScope (inClass (top 63) 18), [], []⟩,
  ⟨(fun K => He.ma K (He.ga K "Net") "answer"), "answer", "Net.answer", defArgs (inClass (top 63) 25), defBody (inClass (top 63) 25), defScope (inClass (top 63) 25), [], []⟩,
  ⟨(fun K => He.ma K (He.ga K "Net") "number"), "number", "Net.number", defArgs (inClass (top 63) 26), defBody (inClass (top 63) 26), defScope (inClass (top 63) 26), [], []⟩,
  ⟨(fun K => He.ma K (He.ga K "Net") "waiting"), "waiting", "Net.waiting", defArgs (inClass (top 63) 27), defBody (inClass (top 63) 27), defScope (inClass (top 63) 27), [], []⟩,
  ⟨(fun K => He.ma K (He.ga K "Net") "age"), "age", "Net.age", defArgs (inClass (top 63) 28), defBody (inClass (top 63) 28), defScope (inClass (top 63) 28), [], []⟩,
  ⟨(fun K => He.ma K (He.ga K "Net") "messages"), "messages", "Net.messages", defArgs (inClass (top 63) 29), defBody (inClass (top 63) 29), defScope (inClass (top 63) 29), [], []⟩,
  ⟨(fun K => He.ga K "_law_source"), "_law_source", "_law_source", defArgs (top 65), defBody (top 65), defScope (top 65), [], []⟩,
  ⟨(fun K => He.ga K "_law_draw"), "_law_draw", "_law_draw", defArgs (top 66), defBody (top 66), defScope (top 66), [], []⟩]
def fn2 : List He5.DefA := [⟨(fun K => He.ga K "_law_chain"), "_law_chain", "_law_chain", defArgs (top 67), defBody (top 67), defScope (top 67), [], []⟩,
  ⟨(fun K => He.ga K "_law_steps_right"), "_law_steps_right", "_law_steps_right", defArgs (top 68), defBody (top 68), defScope (top 68), [], []⟩,
  ⟨(fun K => He.ga K "_law_first_right"), "_law_first_right", "_law_first_right", defArgs (top 69), defBody (top 69), defScope (top 69), [], []⟩,
  ⟨(fun K => He.ga K "_law_second_right"), "_law_second_right", "_law_second_right", defArgs (top 70), defBody (top 70), defScope (top 70), [], []⟩,
  ⟨(fun K => He.ga K "law"), "law", "law", defArgs (top 71), defBody (top 71), defScope (top 71), [], []⟩]
def fn : List He5.DefA := fn0 ++ fn1 ++ fn2
def fx0 : List Fx := [xF (.glo "InvalidKeys"), xF (.glo "InvalidName"), xF (.glo "InvalidAllowance"), xF (.glo "UnknownNode"), xF (.glo "NameTaken"), xF (.glo "NotReady"), xF (.glo "TooLow"), xF (.glo "LimitExceeded"), xF (.glo "Entry"), xF (.glo "Cache"), xF (.meth "Cache" "told"), xF (.meth "Cache" "bound"), xF (.meth "Cache" "serves"), xF (.meth "Cache" "agrees"), xF (.glo "is_word"), xF (.glo "are_keys"), xF (.glo "is_allowance"), xF (.glo "are_allowances"), xF (.glo "is_integer_within"), xF (.glo "send_to_children"), xF (.glo "accept"), xF (.glo "accept_waiting"), xF (.glo "renew"), xF (.glo "settle"), xF (.glo "start_child")]
def fx1 : List Fx := [xF (.glo "add_child"), xF (.glo "rows_from"), xF (.glo "give"), xF (.glo "ask"), xF (.glo "hear_question"), xF (.glo "hear_copy"), xF (.glo "hear_update"), xF (.glo "hear_lower"), xF (.glo "hear_raise"), xF (.glo "hear_confirm"), xF (.glo "Net"), xF (.meth "Net" "check_key"), xF (.meth "Net" "check_need"), xF (.meth "Net" "join"), xF (.meth "Net" "write"), xF (.meth "Net" "read"), xF (.meth "Net" "deliver"), xF (.meth "Net" "answer"), xF (.meth "Net" "number"), xF (.meth "Net" "waiting"), xF (.meth "Net" "age"), xF (.meth "Net" "messages"), xF (.glo "_law_source"), xF (.glo "_law_draw"), xF (.glo "_law_chain")]
def fx2 : List Fx := [xF (.glo "_law_steps_right"), xF (.glo "_law_first_right"), xF (.glo "_law_second_right"), xF (.glo "law"), xF (.cls "Cache"), xF (.mkr "Cache"), xF (.noat "Cache" "home"), xF (.noat "Cache" "label"), xF (.noat "Cache" "above"), xF (.noat "Cache" "row"), xF (.noat "Cache" "gone"), xF (.noat "Cache" "cells"), xF (.noat "Cache" "entries"), xF (.noat "Cache" "kids"), xF (.cls "Entry"), xF (.mkr "Entry"), xF (.noat "Entry" "above"), xF (.noat "Entry" "down_link"), xF (.noat "Entry" "up_link"), xF (.noat "Entry" "cells"), xF (.noat "Entry" "raising"), xF (.noat "Entry" "there"), xF (.noat "Entry" "crashed"), xF (.noat "Entry" "down"), xF (.noat "Entry" "up")]
def fx3 : List Fx := [xF (.cls "Net"), xF (.mkr "Net"), xF (.noat "Net" "words"), xF (.noat "Net" "top"), xF (.noat "Net" "nodes"), xF (.noat "Net" "labels"), xF (.noat "Net" "rows"), xF (.noat "Net" "done"), xF (.noat "Net" "kept"), xF (.noat "Net" "accepted"), xF (.noat "Net" "stamps"), xF (.noat "Net" "questions"), xF (.noat "Net" "trails"), xF (.noat "Net" "answered"), xF (.noat "Net" "receipts"), xEcc "InvalidKeys", xXr "InvalidKeys" "given", xEcc "InvalidName", xXr "InvalidName" "given", xEcc "InvalidAllowance", xXr "InvalidAllowance" "given", xEcc "UnknownNode", xXr "UnknownNode" "node", xEcc "NameTaken", xXr "NameTaken" "node"]
def fx4 : List Fx := [xEcc "NotReady", xXr "NotReady" "node", xEcc "TooLow", xXr "TooLow" "least", xEcc "LimitExceeded", xXr "LimitExceeded" "limit", xDun "Net" "__getitem__", xCInt "Net" "MOST" 12, xF (.glo "ARRIVALS"), xVals "ARRIVALS" [("copy", .glo "hear_copy")], xVals "ARRIVALS" [("update", .glo "hear_update")], xVals "ARRIVALS" [("lower", .glo "hear_lower")], xVals "ARRIVALS" [("raise", .glo "hear_raise")], xVals "ARRIVALS" [("confirm", .glo "hear_confirm")], xVals "ARRIVALS" [("question", .glo "hear_question")], xF (.int "LONGEST_WORD" 8), xF (.int "MOST_KEYS" 4), xF (.str "STORE" "store"), xF (.int "MOST_WAITING" 20), xF (.int "GREATEST_ALLOWANCE" 99), xF (.int "GREATEST_NEED" 999), xF (.free "KeyError"), xF (.free "range"), xF (.free "max"), xF (.free "min")]
def fx5 : List Fx := [xF (.free "len"), xF (.free "all"), xF (.free "isinstance"), xF (.free "tuple"), xF (.free "list"), xF (.free "set"), xF (.free "int"), xF (.free "bool"), xF (.free "str"), xF (.free "sorted"), xF (.free "repr"), xF (.free "dict"), xF (.free "any")]
def fx : List Fx := fx0 ++ fx1 ++ fx2 ++ fx3 ++ fx4 ++ fx5
def names0 : List PySem.Str := ["_wall", "CacheError", "InvalidKeys", "InvalidName", "InvalidValue", "InvalidNeed", "InvalidAllowance", "UnknownNode", "UnknownKey", "UnknownQuestion", "NoCopy", "NoMessage", "NameTaken", "NotReady", "HasChildren", "Busy", "TooLow", "LimitExceeded", "Entry", "copied_entry", "Cache", "copied_node", "LONGEST_WORD", "MOST_KEYS", "GREATEST_ALLOWANCE"]
def names1 : List PySem.Str := ["is_integer_within", "is_word", "are_keys", "is_allowance", "are_allowances", "STORE", "send_to_children", "accept", "accept_waiting", "renew", "settle", "settle_all", "start_child", "add_child", "remove_entries", "remove_nodes", "take_leave", "set_allowance", "rows_from", "give", "ask", "hear_question", "hear_answer", "hear_copy", "hear_update"]
def names2 : List PySem.Str := ["hear_lower", "hear_raise", "hear_confirm", "hear_agree", "hear_gone", "ARRIVALS", "MOST_WAITING", "GREATEST_NEED", "Net", "_law_source", "_law_draw", "_law_chain", "_law_steps_right", "_law_first_right", "_law_second_right"]
def names : List PySem.Str := names0 ++ names1 ++ names2
abbrev R : PySem.W.OpenRow := PySem.W.OpenLaw.row PySem.Challenge.rw_slackcache_k03_known_chains
def ts : List He.Tab := [(fun K => He.ga K "ARRIVALS", ["copy", "update", "lower", "raise", "answer", "confirm", "agree", "question", "gone"])]
abbrev hk : PySem.W.Hook := hookY 5 fx fn ts
def ob (s : PySem.W.SharedT) : AlY := obsYG 5 fx fn ts (HandSHeadRun.getT s)
theorem ob_eq (s : PySem.W.SharedT) : ob s = hk.obs s.abs := obsYG_eq (HandSHeadRun.getT_eq s)
theorem run_f (w : World) : HandSHeadRun.RunEq R (PySem.W.view R.prog [71]) hk ob 60000 names (w.withFollow "special-get-raises" false) := by
  intro os
  kernel_rfl
theorem run_t (w : World) : HandSHeadRun.RunEq R (PySem.W.view R.prog [71]) hk ob 60000 names (w.withFollow "special-get-raises" true) := by
  intro os
  kernel_rfl
theorem run (w : World) : HandSHeadRun.RunEq R (PySem.W.view R.prog [71]) hk ob 60000 names w := PySem.W.byRow2 "special-get-raises" (P := fun w => HandSHeadRun.RunEq R (PySem.W.view R.prog [71]) hk ob 60000 names w) run_f run_t w
section
variable {K : PySem.W.Frag} {h : Heap} {mg : Str → Option Value}
theorem g_InvalidKeys (X : K.In h) (G : h.Ns mainGlobals mg) (c : SaysX fx fn K) : mg "InvalidKeys" = some (.ref (He.ga K "InvalidKeys")) := He.glo_ok X G (c.fact 0)
theorem g_InvalidName (X : K.In h) (G : h.Ns mainGlobals mg) (c : SaysX fx fn K) : mg "InvalidName" = some (.ref (He.ga K "InvalidName")) := He.glo_ok X G (c.fact 1)
theorem g_InvalidAllowance (X : K.In h) (G : h.Ns mainGlobals mg) (c : SaysX fx fn K) : mg "InvalidAllowance" = some (.ref (He.ga K "InvalidAllowance")) := He.glo_ok X G (c.fact 2)
theorem g_UnknownNode (X : K.In h) (G : h.Ns mainGlobals mg) (c : SaysX fx fn K) : mg "UnknownNode" = some (.ref (He.ga K "UnknownNode")) := He.glo_ok X G (c.fact 3)
theorem g_NameTaken (X : K.In h) (G : h.Ns mainGlobals mg) (c : SaysX fx fn K) : mg "NameTaken" = some (.ref (He.ga K "NameTaken")) := He.glo_ok X G (c.fact 4)
theorem g_NotReady (X : K.In h) (G : h.Ns mainGlobals mg) (c : SaysX fx fn K) : mg "NotReady" = some (.ref (He.ga K "NotReady")) := He.glo_ok X G (c.fact 5)
theorem g_TooLow (X : K.In h) (G : h.Ns mainGlobals mg) (c : SaysX fx fn K) : mg "TooLow" = some (.ref (He.ga K "TooLow")) := He.glo_ok X G (c.fact 6)
theorem g_LimitExceeded (X : K.In h) (G : h.Ns mainGlobals mg) (c : SaysX fx fn K) : mg "LimitExceeded" = some (.ref (He.ga K "LimitExceeded")) := He.glo_ok X G (c.fact 7)
theorem g_Entry (X : K.In h) (G : h.Ns mainGlobals mg) (c : SaysX fx fn K) : mg "Entry" = some (.ref (He.ga K "Entry")) := He.glo_ok X G (c.fact 8)
theorem g_Cache (X : K.In h) (G : h.Ns mainGlobals mg) (c : SaysX fx fn K) : mg "Cache" = some (.ref (He.ga K "Cache")) := He.glo_ok X G (c.fact 9)
theorem m_Cache_told (c : SaysX fx fn K) : Meth K (He.ga K "Cache") "told" (He.ma K (He.ga K "Cache") "told") := He.meth_ok (c.fact 10)
theorem m_Cache_bound (c : SaysX fx fn K) : Meth K (He.ga K "Cache") "bound" (He.ma K (He.ga K "Cache") "bound") := He.meth_ok (c.fact 11)
theorem m_Cache_serves (c : SaysX fx fn K) : Meth K (He.ga K "Cache") "serves" (He.ma K (He.ga K "Cache") "serves") := He.meth_ok (c.fact 12)
theorem m_Cache_agrees (c : SaysX fx fn K) : Meth K (He.ga K "Cache") "agrees" (He.ma K (He.ga K "Cache") "agrees") := He.meth_ok (c.fact 13)
theorem g_is_word (X : K.In h) (G : h.Ns mainGlobals mg) (c : SaysX fx fn K) : mg "is_word" = some (.ref (He.ga K "is_word")) := He.glo_ok X G (c.fact 14)
theorem g_are_keys (X : K.In h) (G : h.Ns mainGlobals mg) (c : SaysX fx fn K) : mg "are_keys" = some (.ref (He.ga K "are_keys")) := He.glo_ok X G (c.fact 15)
theorem g_is_allowance (X : K.In h) (G : h.Ns mainGlobals mg) (c : SaysX fx fn K) : mg "is_allowance" = some (.ref (He.ga K "is_allowance")) := He.glo_ok X G (c.fact 16)
theorem g_are_allowances (X : K.In h) (G : h.Ns mainGlobals mg) (c : SaysX fx fn K) : mg "are_allowances" = some (.ref (He.ga K "are_allowances")) := He.glo_ok X G (c.fact 17)
theorem g_is_integer_within (X : K.In h) (G : h.Ns mainGlobals mg) (c : SaysX fx fn K) : mg "is_integer_within" = some (.ref (He.ga K "is_integer_within")) := He.glo_ok X G (c.fact 18)
theorem g_send_to_children (X : K.In h) (G : h.Ns mainGlobals mg) (c : SaysX fx fn K) : mg "send_to_children" = some (.ref (He.ga K "send_to_children")) := He.glo_ok X G (c.fact 19)
theorem g_accept (X : K.In h) (G : h.Ns mainGlobals mg) (c : SaysX fx fn K) : mg "accept" = some (.ref (He.ga K "accept")) := He.glo_ok X G (c.fact 20)
theorem g_accept_waiting (X : K.In h) (G : h.Ns mainGlobals mg) (c : SaysX fx fn K) : mg "accept_waiting" = some (.ref (He.ga K "accept_waiting")) := He.glo_ok X G (c.fact 21)
theorem g_renew (X : K.In h) (G : h.Ns mainGlobals mg) (c : SaysX fx fn K) : mg "renew" = some (.ref (He.ga K "renew")) := He.glo_ok X G (c.fact 22)
theorem g_settle (X : K.In h) (G : h.Ns mainGlobals mg) (c : SaysX fx fn K) : mg "settle" = some (.ref (He.ga K "settle")) := He.glo_ok X G (c.fact 23)
theorem g_start_child (X : K.In h) (G : h.Ns mainGlobals mg) (c : SaysX fx fn K) : mg "start_child" = some (.ref (He.ga K "start_child")) := He.glo_ok X G (c.fact 24)
theorem g_add_child (X : K.In h) (G : h.Ns mainGlobals mg) (c : SaysX fx fn K) : mg "add_child" = some (.ref (He.ga K "add_child")) := He.glo_ok X G (c.fact 25)
theorem g_rows_from (X : K.In h) (G : h.Ns mainGlobals mg) (c : SaysX fx fn K) : mg "rows_from" = some (.ref (He.ga K "rows_from")) := He.glo_ok X G (c.fact 26)
theorem g_give (X : K.In h) (G : h.Ns mainGlobals mg) (c : SaysX fx fn K) : mg "give" = some (.ref (He.ga K "give")) := He.glo_ok X G (c.fact 27)
theorem g_ask (X : K.In h) (G : h.Ns mainGlobals mg) (c : SaysX fx fn K) : mg "ask" = some (.ref (He.ga K "ask")) := He.glo_ok X G (c.fact 28)
theorem g_hear_question (X : K.In h) (G : h.Ns mainGlobals mg) (c : SaysX fx fn K) : mg "hear_question" = some (.ref (He.ga K "hear_question")) := He.glo_ok X G (c.fact 29)
theorem g_hear_copy (X : K.In h) (G : h.Ns mainGlobals mg) (c : SaysX fx fn K) : mg "hear_copy" = some (.ref (He.ga K "hear_copy")) := He.glo_ok X G (c.fact 30)
theorem g_hear_update (X : K.In h) (G : h.Ns mainGlobals mg) (c : SaysX fx fn K) : mg "hear_update" = some (.ref (He.ga K "hear_update")) := He.glo_ok X G (c.fact 31)
theorem g_hear_lower (X : K.In h) (G : h.Ns mainGlobals mg) (c : SaysX fx fn K) : mg "hear_lower" = some (.ref (He.ga K "hear_lower")) := He.glo_ok X G (c.fact 32)
theorem g_hear_raise (X : K.In h) (G : h.Ns mainGlobals mg) (c : SaysX fx fn K) : mg "hear_raise" = some (.ref (He.ga K "hear_raise")) := He.glo_ok X G (c.fact 33)
theorem g_hear_confirm (X : K.In h) (G : h.Ns mainGlobals mg) (c : SaysX fx fn K) : mg "hear_confirm" = some (.ref (He.ga K "hear_confirm")) := He.glo_ok X G (c.fact 34)
theorem g_Net (X : K.In h) (G : h.Ns mainGlobals mg) (c : SaysX fx fn K) : mg "Net" = some (.ref (He.ga K "Net")) := He.glo_ok X G (c.fact 35)
theorem m_Net_check_key (c : SaysX fx fn K) : Meth K (He.ga K "Net") "check_key" (He.ma K (He.ga K "Net") "check_key") := He.meth_ok (c.fact 36)
theorem m_Net_check_need (c : SaysX fx fn K) : Meth K (He.ga K "Net") "check_need" (He.ma K (He.ga K "Net") "check_need") := He.meth_ok (c.fact 37)
theorem m_Net_join (c : SaysX fx fn K) : Meth K (He.ga K "Net") "join" (He.ma K (He.ga K "Net") "join") := He.meth_ok (c.fact 38)
theorem m_Net_write (c : SaysX fx fn K) : Meth K (He.ga K "Net") "write" (He.ma K (He.ga K "Net") "write") := He.meth_ok (c.fact 39)
theorem m_Net_read (c : SaysX fx fn K) : Meth K (He.ga K "Net") "read" (He.ma K (He.ga K "Net") "read") := He.meth_ok (c.fact 40)
theorem m_Net_deliver (c : SaysX fx fn K) : Meth K (He.ga K "Net") "deliver" (He.ma K (He.ga K "Net") "deliver") := He.meth_ok (c.fact 41)
theorem m_Net_answer (c : SaysX fx fn K) : Meth K (He.ga K "Net") "answer" (He.ma K (He.ga K "Net") "answer") := He.meth_ok (c.fact 42)
theorem m_Net_number (c : SaysX fx fn K) : Meth K (He.ga K "Net") "number" (He.ma K (He.ga K "Net") "number") := He.meth_ok (c.fact 43)
theorem m_Net_waiting (c : SaysX fx fn K) : Meth K (He.ga K "Net") "waiting" (He.ma K (He.ga K "Net") "waiting") := He.meth_ok (c.fact 44)
theorem m_Net_age (c : SaysX fx fn K) : Meth K (He.ga K "Net") "age" (He.ma K (He.ga K "Net") "age") := He.meth_ok (c.fact 45)
theorem m_Net_messages (c : SaysX fx fn K) : Meth K (He.ga K "Net") "messages" (He.ma K (He.ga K "Net") "messages") := He.meth_ok (c.fact 46)
theorem g__law_source (X : K.In h) (G : h.Ns mainGlobals mg) (c : SaysX fx fn K) : mg "_law_source" = some (.ref (He.ga K "_law_source")) := He.glo_ok X G (c.fact 47)
theorem g__law_draw (X : K.In h) (G : h.Ns mainGlobals mg) (c : SaysX fx fn K) : mg "_law_draw" = some (.ref (He.ga K "_law_draw")) := He.glo_ok X G (c.fact 48)
theorem g__law_chain (X : K.In h) (G : h.Ns mainGlobals mg) (c : SaysX fx fn K) : mg "_law_chain" = some (.ref (He.ga K "_law_chain")) := He.glo_ok X G (c.fact 49)
theorem g__law_steps_right (X : K.In h) (G : h.Ns mainGlobals mg) (c : SaysX fx fn K) : mg "_law_steps_right" = some (.ref (He.ga K "_law_steps_right")) := He.glo_ok X G (c.fact 50)
theorem g__law_first_right (X : K.In h) (G : h.Ns mainGlobals mg) (c : SaysX fx fn K) : mg "_law_first_right" = some (.ref (He.ga K "_law_first_right")) := He.glo_ok X G (c.fact 51)
theorem g__law_second_right (X : K.In h) (G : h.Ns mainGlobals mg) (c : SaysX fx fn K) : mg "_law_second_right" = some (.ref (He.ga K "_law_second_right")) := He.glo_ok X G (c.fact 52)
theorem g_law (X : K.In h) (G : h.Ns mainGlobals mg) (c : SaysX fx fn K) : mg "law" = some (.ref (He.ga K "law")) := He.glo_ok X G (c.fact 53)
theorem c_Cache (c : SaysX fx fn K) : Cls K (He.ga K "Cache") := He.cls_ok (c.fact 54)
theorem mk_Cache (c : SaysX fx fn K) : Mk K (He.ga K "Cache") (He.ma K (He.ga K "Cache") "__init__") := He.mkr_ok (c.fact 55)
theorem n_Cache_home (c : SaysX fx fn K) : NoAttr K (He.ga K "Cache") "home" := He.noat_ok (c.fact 56)
theorem n_Cache_label (c : SaysX fx fn K) : NoAttr K (He.ga K "Cache") "label" := He.noat_ok (c.fact 57)
theorem n_Cache_above (c : SaysX fx fn K) : NoAttr K (He.ga K "Cache") "above" := He.noat_ok (c.fact 58)
theorem n_Cache_row (c : SaysX fx fn K) : NoAttr K (He.ga K "Cache") "row" := He.noat_ok (c.fact 59)
theorem n_Cache_gone (c : SaysX fx fn K) : NoAttr K (He.ga K "Cache") "gone" := He.noat_ok (c.fact 60)
theorem n_Cache_cells (c : SaysX fx fn K) : NoAttr K (He.ga K "Cache") "cells" := He.noat_ok (c.fact 61)
theorem n_Cache_entries (c : SaysX fx fn K) : NoAttr K (He.ga K "Cache") "entries" := He.noat_ok (c.fact 62)
theorem n_Cache_kids (c : SaysX fx fn K) : NoAttr K (He.ga K "Cache") "kids" := He.noat_ok (c.fact 63)
theorem c_Entry (c : SaysX fx fn K) : Cls K (He.ga K "Entry") := He.cls_ok (c.fact 64)
theorem mk_Entry (c : SaysX fx fn K) : Mk K (He.ga K "Entry") (He.ma K (He.ga K "Entry") "__init__") := He.mkr_ok (c.fact 65)
theorem n_Entry_above (c : SaysX fx fn K) : NoAttr K (He.ga K "Entry") "above" := He.noat_ok (c.fact 66)
theorem n_Entry_down_link (c : SaysX fx fn K) : NoAttr K (He.ga K "Entry") "down_link" := He.noat_ok (c.fact 67)
theorem n_Entry_up_link (c : SaysX fx fn K) : NoAttr K (He.ga K "Entry") "up_link" := He.noat_ok (c.fact 68)
theorem n_Entry_cells (c : SaysX fx fn K) : NoAttr K (He.ga K "Entry") "cells" := He.noat_ok (c.fact 69)
theorem n_Entry_raising (c : SaysX fx fn K) : NoAttr K (He.ga K "Entry") "raising" := He.noat_ok (c.fact 70)
theorem n_Entry_there (c : SaysX fx fn K) : NoAttr K (He.ga K "Entry") "there" := He.noat_ok (c.fact 71)
theorem n_Entry_crashed (c : SaysX fx fn K) : NoAttr K (He.ga K "Entry") "crashed" := He.noat_ok (c.fact 72)
theorem n_Entry_down (c : SaysX fx fn K) : NoAttr K (He.ga K "Entry") "down" := He.noat_ok (c.fact 73)
theorem n_Entry_up (c : SaysX fx fn K) : NoAttr K (He.ga K "Entry") "up" := He.noat_ok (c.fact 74)
theorem c_Net (c : SaysX fx fn K) : Cls K (He.ga K "Net") := He.cls_ok (c.fact 75)
theorem mk_Net (c : SaysX fx fn K) : Mk K (He.ga K "Net") (He.ma K (He.ga K "Net") "__init__") := He.mkr_ok (c.fact 76)
theorem n_Net_words (c : SaysX fx fn K) : NoAttr K (He.ga K "Net") "words" := He.noat_ok (c.fact 77)
theorem n_Net_top (c : SaysX fx fn K) : NoAttr K (He.ga K "Net") "top" := He.noat_ok (c.fact 78)
theorem n_Net_nodes (c : SaysX fx fn K) : NoAttr K (He.ga K "Net") "nodes" := He.noat_ok (c.fact 79)
theorem n_Net_labels (c : SaysX fx fn K) : NoAttr K (He.ga K "Net") "labels" := He.noat_ok (c.fact 80)
theorem n_Net_rows (c : SaysX fx fn K) : NoAttr K (He.ga K "Net") "rows" := He.noat_ok (c.fact 81)
theorem n_Net_done (c : SaysX fx fn K) : NoAttr K (He.ga K "Net") "done" := He.noat_ok (c.fact 82)
theorem n_Net_kept (c : SaysX fx fn K) : NoAttr K (He.ga K "Net") "kept" := He.noat_ok (c.fact 83)
theorem n_Net_accepted (c : SaysX fx fn K) : NoAttr K (He.ga K "Net") "accepted" := He.noat_ok (c.fact 84)
theorem n_Net_stamps (c : SaysX fx fn K) : NoAttr K (He.ga K "Net") "stamps" := He.noat_ok (c.fact 85)
theorem n_Net_questions (c : SaysX fx fn K) : NoAttr K (He.ga K "Net") "questions" := He.noat_ok (c.fact 86)
theorem n_Net_trails (c : SaysX fx fn K) : NoAttr K (He.ga K "Net") "trails" := He.noat_ok (c.fact 87)
theorem n_Net_answered (c : SaysX fx fn K) : NoAttr K (He.ga K "Net") "answered" := He.noat_ok (c.fact 88)
theorem n_Net_receipts (c : SaysX fx fn K) : NoAttr K (He.ga K "Net") "receipts" := He.noat_ok (c.fact 89)
theorem e_InvalidKeys (c : SaysX fx fn K) : EcC K (He.ga K "InvalidKeys") := ecc_ok (c.fact 90)
theorem r_InvalidKeys (c : SaysX fx fn K) : PySem.W.typeIn K (.ref (He.ga K "InvalidKeys")) = some (.type "type") ∧ PySem.W.findIn K (.ref (He.ga K "InvalidKeys")) "given" = some none ∧ PySem.W.findIn K (.ref (He.ga K "InvalidKeys")) "__init__" = some (some (.ref (He.ma K (He.ga K "InvalidKeys") "__init__"))) ∧ PySem.W.typeIn K (.ref (He.ma K (He.ga K "InvalidKeys") "__init__")) = some (.type "function") ∧ PySem.W.takerIn K (He.ga K "InvalidKeys") "given" = some none := xr_ok (c.fact 91)
theorem e_InvalidName (c : SaysX fx fn K) : EcC K (He.ga K "InvalidName") := ecc_ok (c.fact 92)
theorem r_InvalidName (c : SaysX fx fn K) : PySem.W.typeIn K (.ref (He.ga K "InvalidName")) = some (.type "type") ∧ PySem.W.findIn K (.ref (He.ga K "InvalidName")) "given" = some none ∧ PySem.W.findIn K (.ref (He.ga K "InvalidName")) "__init__" = some (some (.ref (He.ma K (He.ga K "InvalidName") "__init__"))) ∧ PySem.W.typeIn K (.ref (He.ma K (He.ga K "InvalidName") "__init__")) = some (.type "function") ∧ PySem.W.takerIn K (He.ga K "InvalidName") "given" = some none := xr_ok (c.fact 93)
theorem e_InvalidAllowance (c : SaysX fx fn K) : EcC K (He.ga K "InvalidAllowance") := ecc_ok (c.fact 94)
theorem r_InvalidAllowance (c : SaysX fx fn K) : PySem.W.typeIn K (.ref (He.ga K "InvalidAllowance")) = some (.type "type") ∧ PySem.W.findIn K (.ref (He.ga K "InvalidAllowance")) "given" = some none ∧ PySem.W.findIn K (.ref (He.ga K "InvalidAllowance")) "__init__" = some (some (.ref (He.ma K (He.ga K "InvalidAllowance") "__init__"))) ∧ PySem.W.typeIn K (.ref (He.ma K (He.ga K "InvalidAllowance") "__init__")) = some (.type "function") ∧ PySem.W.takerIn K (He.ga K "InvalidAllowance") "given" = some none := xr_ok (c.fact 95)
theorem e_UnknownNode (c : SaysX fx fn K) : EcC K (He.ga K "UnknownNode") := ecc_ok (c.fact 96)
theorem r_UnknownNode (c : SaysX fx fn K) : PySem.W.typeIn K (.ref (He.ga K "UnknownNode")) = some (.type "type") ∧ PySem.W.findIn K (.ref (He.ga K "UnknownNode")) "node" = some none ∧ PySem.W.findIn K (.ref (He.ga K "UnknownNode")) "__init__" = some (some (.ref (He.ma K (He.ga K "UnknownNode") "__init__"))) ∧ PySem.W.typeIn K (.ref (He.ma K (He.ga K "UnknownNode") "__init__")) = some (.type "function") ∧ PySem.W.takerIn K (He.ga K "UnknownNode") "node" = some none := xr_ok (c.fact 97)
theorem e_NameTaken (c : SaysX fx fn K) : EcC K (He.ga K "NameTaken") := ecc_ok (c.fact 98)
theorem r_NameTaken (c : SaysX fx fn K) : PySem.W.typeIn K (.ref (He.ga K "NameTaken")) = some (.type "type") ∧ PySem.W.findIn K (.ref (He.ga K "NameTaken")) "node" = some none ∧ PySem.W.findIn K (.ref (He.ga K "NameTaken")) "__init__" = some (some (.ref (He.ma K (He.ga K "NameTaken") "__init__"))) ∧ PySem.W.typeIn K (.ref (He.ma K (He.ga K "NameTaken") "__init__")) = some (.type "function") ∧ PySem.W.takerIn K (He.ga K "NameTaken") "node" = some none := xr_ok (c.fact 99)
theorem e_NotReady (c : SaysX fx fn K) : EcC K (He.ga K "NotReady") := ecc_ok (c.fact 100)
theorem r_NotReady (c : SaysX fx fn K) : PySem.W.typeIn K (.ref (He.ga K "NotReady")) = some (.type "type") ∧ PySem.W.findIn K (.ref (He.ga K "NotReady")) "node" = some none ∧ PySem.W.findIn K (.ref (He.ga K "NotReady")) "__init__" = some (some (.ref (He.ma K (He.ga K "NotReady") "__init__"))) ∧ PySem.W.typeIn K (.ref (He.ma K (He.ga K "NotReady") "__init__")) = some (.type "function") ∧ PySem.W.takerIn K (He.ga K "NotReady") "node" = some none := xr_ok (c.fact 101)
theorem e_TooLow (c : SaysX fx fn K) : EcC K (He.ga K "TooLow") := ecc_ok (c.fact 102)
theorem r_TooLow (c : SaysX fx fn K) : PySem.W.typeIn K (.ref (He.ga K "TooLow")) = some (.type "type") ∧ PySem.W.findIn K (.ref (He.ga K "TooLow")) "least" = some none ∧ PySem.W.findIn K (.ref (He.ga K "TooLow")) "__init__" = some (some (.ref (He.ma K (He.ga K "TooLow") "__init__"))) ∧ PySem.W.typeIn K (.ref (He.ma K (He.ga K "TooLow") "__init__")) = some (.type "function") ∧ PySem.W.takerIn K (He.ga K "TooLow") "least" = some none := xr_ok (c.fact 103)
theorem e_LimitExceeded (c : SaysX fx fn K) : EcC K (He.ga K "LimitExceeded") := ecc_ok (c.fact 104)
theorem r_LimitExceeded (c : SaysX fx fn K) : PySem.W.typeIn K (.ref (He.ga K "LimitExceeded")) = some (.type "type") ∧ PySem.W.findIn K (.ref (He.ga K "LimitExceeded")) "limit" = some none ∧ PySem.W.findIn K (.ref (He.ga K "LimitExceeded")) "__init__" = some (some (.ref (He.ma K (He.ga K "LimitExceeded") "__init__"))) ∧ PySem.W.typeIn K (.ref (He.ma K (He.ga K "LimitExceeded") "__init__")) = some (.type "function") ∧ PySem.W.takerIn K (He.ga K "LimitExceeded") "limit" = some none := xr_ok (c.fact 105)
theorem u_Net___getitem__ (c : SaysX fx fn K) : PySem.W.findIn K (.ref (He.ga K "Net")) "__getitem__" = some (some (.ref (He.ma K (He.ga K "Net") "__getitem__"))) ∧ PySem.W.isFn K (.ref (He.ma K (He.ga K "Net") "__getitem__")) = true ∧ PySem.W.fnIn K (He.ma K (He.ga K "Net") "__getitem__") = true := dun_ok (c.fact 106)
theorem ci_Net_MOST (c : SaysX fx fn K) : ClX.CRead K (He.ga K "Net") (.type "type") ∧ ∃ t, ClX.CVal K (He.ga K "Net") (.type "type") "MOST" (.int 12) (.int 12 t) := cint_ok (c.fact 107)
theorem g_ARRIVALS (X : K.In h) (G : h.Ns mainGlobals mg) (c : SaysX fx fn K) : mg "ARRIVALS" = some (.ref (He.ga K "ARRIVALS")) := He.glo_ok X G (c.fact 108)
theorem v_ARRIVALS_copy (c : SaysX fx fn K) : PySem.W.nsIn K (He.ga K "ARRIVALS") "copy" = some (some (.ref (He.ga K "hear_copy"))) := vals_ref (c.fact 109) (.head _)
theorem v_ARRIVALS_update (c : SaysX fx fn K) : PySem.W.nsIn K (He.ga K "ARRIVALS") "update" = some (some (.ref (He.ga K "hear_update"))) := vals_ref (c.fact 110) (.head _)
theorem v_ARRIVALS_lower (c : SaysX fx fn K) : PySem.W.nsIn K (He.ga K "ARRIVALS") "lower" = some (some (.ref (He.ga K "hear_lower"))) := vals_ref (c.fact 111) (.head _)
theorem v_ARRIVALS_raise (c : SaysX fx fn K) : PySem.W.nsIn K (He.ga K "ARRIVALS") "raise" = some (some (.ref (He.ga K "hear_raise"))) := vals_ref (c.fact 112) (.head _)
theorem v_ARRIVALS_confirm (c : SaysX fx fn K) : PySem.W.nsIn K (He.ga K "ARRIVALS") "confirm" = some (some (.ref (He.ga K "hear_confirm"))) := vals_ref (c.fact 113) (.head _)
theorem v_ARRIVALS_question (c : SaysX fx fn K) : PySem.W.nsIn K (He.ga K "ARRIVALS") "question" = some (some (.ref (He.ga K "hear_question"))) := vals_ref (c.fact 114) (.head _)
theorem k_LONGEST_WORD (X : K.In h) (G : h.Ns mainGlobals mg) (c : SaysX fx fn K) : ∃ t, mg "LONGEST_WORD" = some (.int 8 t) := He.int_ok X G (c.fact 115)
theorem k_MOST_KEYS (X : K.In h) (G : h.Ns mainGlobals mg) (c : SaysX fx fn K) : ∃ t, mg "MOST_KEYS" = some (.int 4 t) := He.int_ok X G (c.fact 116)
theorem k_STORE (X : K.In h) (G : h.Ns mainGlobals mg) (c : SaysX fx fn K) : ∃ t, mg "STORE" = some (.str "store" t) := He.str_ok X G (c.fact 117)
theorem k_MOST_WAITING (X : K.In h) (G : h.Ns mainGlobals mg) (c : SaysX fx fn K) : ∃ t, mg "MOST_WAITING" = some (.int 20 t) := He.int_ok X G (c.fact 118)
theorem k_GREATEST_ALLOWANCE (X : K.In h) (G : h.Ns mainGlobals mg) (c : SaysX fx fn K) : ∃ t, mg "GREATEST_ALLOWANCE" = some (.int 99 t) := He.int_ok X G (c.fact 119)
theorem k_GREATEST_NEED (X : K.In h) (G : h.Ns mainGlobals mg) (c : SaysX fx fn K) : ∃ t, mg "GREATEST_NEED" = some (.int 999 t) := He.int_ok X G (c.fact 120)
theorem z_KeyError (X : K.In h) (G : h.Ns mainGlobals mg) (c : SaysX fx fn K) : mg "KeyError" = none := He.free_ok X G (c.fact 121)
theorem z_range (X : K.In h) (G : h.Ns mainGlobals mg) (c : SaysX fx fn K) : mg "range" = none := He.free_ok X G (c.fact 122)
theorem z_max (X : K.In h) (G : h.Ns mainGlobals mg) (c : SaysX fx fn K) : mg "max" = none := He.free_ok X G (c.fact 123)
theorem z_min (X : K.In h) (G : h.Ns mainGlobals mg) (c : SaysX fx fn K) : mg "min" = none := He.free_ok X G (c.fact 124)
theorem z_len (X : K.In h) (G : h.Ns mainGlobals mg) (c : SaysX fx fn K) : mg "len" = none := He.free_ok X G (c.fact 125)
theorem z_all (X : K.In h) (G : h.Ns mainGlobals mg) (c : SaysX fx fn K) : mg "all" = none := He.free_ok X G (c.fact 126)
theorem z_isinstance (X : K.In h) (G : h.Ns mainGlobals mg) (c : SaysX fx fn K) : mg "isinstance" = none := He.free_ok X G (c.fact 127)
theorem z_tuple (X : K.In h) (G : h.Ns mainGlobals mg) (c : SaysX fx fn K) : mg "tuple" = none := He.free_ok X G (c.fact 128)
theorem z_list (X : K.In h) (G : h.Ns mainGlobals mg) (c : SaysX fx fn K) : mg "list" = none := He.free_ok X G (c.fact 129)
theorem z_set (X : K.In h) (G : h.Ns mainGlobals mg) (c : SaysX fx fn K) : mg "set" = none := He.free_ok X G (c.fact 130)
theorem z_int (X : K.In h) (G : h.Ns mainGlobals mg) (c : SaysX fx fn K) : mg "int" = none := He.free_ok X G (c.fact 131)
theorem z_bool (X : K.In h) (G : h.Ns mainGlobals mg) (c : SaysX fx fn K) : mg "bool" = none := He.free_ok X G (c.fact 132)
theorem z_str (X : K.In h) (G : h.Ns mainGlobals mg) (c : SaysX fx fn K) : mg "str" = none := He.free_ok X G (c.fact 133)
theorem z_sorted (X : K.In h) (G : h.Ns mainGlobals mg) (c : SaysX fx fn K) : mg "sorted" = none := He.free_ok X G (c.fact 134)
theorem z_repr (X : K.In h) (G : h.Ns mainGlobals mg) (c : SaysX fx fn K) : mg "repr" = none := He.free_ok X G (c.fact 135)
theorem z_dict (X : K.In h) (G : h.Ns mainGlobals mg) (c : SaysX fx fn K) : mg "dict" = none := He.free_ok X G (c.fact 136)
theorem z_any (X : K.In h) (G : h.Ns mainGlobals mg) (c : SaysX fx fn K) : mg "any" = none := He.free_ok X G (c.fact 137)
theorem d_InvalidKeys___init__ (c : SaysX fx fn K) : ∃ fd, Fun K "__init__" "InvalidKeys.__init__" (inClass (top 3) 0) (He.ma K (He.ga K "InvalidKeys") "__init__") fd := by
  obtain ⟨fd, F⟩ := c.def_ 0
  exact ⟨fd, He5.fun_of (st := inClass (top 3) 0) F⟩
theorem d_InvalidName___init__ (c : SaysX fx fn K) : ∃ fd, Fun K "__init__" "InvalidName.__init__" (inClass (top 4) 0) (He.ma K (He.ga K "InvalidName") "__init__") fd := by
  obtain ⟨fd, F⟩ := c.def_ 1
  exact ⟨fd, He5.fun_of (st := inClass (top 4) 0) F⟩
theorem d_InvalidAllowance___init__ (c : SaysX fx fn K) : ∃ fd, Fun K "__init__" "InvalidAllowance.__init__" (inClass (top 7) 0) (He.ma K (He.ga K "InvalidAllowance") "__init__") fd := by
  obtain ⟨fd, F⟩ := c.def_ 2
  exact ⟨fd, He5.fun_of (st := inClass (top 7) 0) F⟩
theorem d_UnknownNode___init__ (c : SaysX fx fn K) : ∃ fd, Fun K "__init__" "UnknownNode.__init__" (inClass (top 8) 0) (He.ma K (He.ga K "UnknownNode") "__init__") fd := by
  obtain ⟨fd, F⟩ := c.def_ 3
  exact ⟨fd, He5.fun_of (st := inClass (top 8) 0) F⟩
theorem d_NameTaken___init__ (c : SaysX fx fn K) : ∃ fd, Fun K "__init__" "NameTaken.__init__" (inClass (top 13) 0) (He.ma K (He.ga K "NameTaken") "__init__") fd := by
  obtain ⟨fd, F⟩ := c.def_ 4
  exact ⟨fd, He5.fun_of (st := inClass (top 13) 0) F⟩
theorem d_NotReady___init__ (c : SaysX fx fn K) : ∃ fd, Fun K "__init__" "NotReady.__init__" (inClass (top 14) 0) (He.ma K (He.ga K "NotReady") "__init__") fd := by
  obtain ⟨fd, F⟩ := c.def_ 5
  exact ⟨fd, He5.fun_of (st := inClass (top 14) 0) F⟩
theorem d_TooLow___init__ (c : SaysX fx fn K) : ∃ fd, Fun K "__init__" "TooLow.__init__" (inClass (top 17) 0) (He.ma K (He.ga K "TooLow") "__init__") fd := by
  obtain ⟨fd, F⟩ := c.def_ 6
  exact ⟨fd, He5.fun_of (st := inClass (top 17) 0) F⟩
theorem d_LimitExceeded___init__ (c : SaysX fx fn K) : ∃ fd, Fun K "__init__" "LimitExceeded.__init__" (inClass (top 18) 0) (He.ma K (He.ga K "LimitExceeded") "__init__") fd := by
  obtain ⟨fd, F⟩ := c.def_ 7
  exact ⟨fd, He5.fun_of (st := inClass (top 18) 0) F⟩
theorem d_Entry___init__ (c : SaysX fx fn K) : ∃ fd, Fun K "__init__" "Entry.__init__" (inClass (top 20) 0) (He.ma K (He.ga K "Entry") "__init__") fd := by
  obtain ⟨fd, F⟩ := c.def_ 8
  exact ⟨fd, He5.fun_of (st := inClass (top 20) 0) F⟩
theorem d_Cache___init__ (c : SaysX fx fn K) : ∃ fd, Fun K "__init__" "Cache.__init__" (inClass (top 22) 0) (He.ma K (He.ga K "Cache") "__init__") fd := by
  obtain ⟨fd, F⟩ := c.def_ 9
  exact ⟨fd, He5.fun_of (st := inClass (top 22) 0) F⟩
theorem d_Cache_told (c : SaysX fx fn K) : ∃ fd, Fun K "told" "Cache.told" (inClass (top 22) 15) (He.ma K (He.ga K "Cache") "told") fd := by
  obtain ⟨fd, F⟩ := c.def_ 10
  exact ⟨fd, He5.fun_of (st := inClass (top 22) 15) F⟩
theorem d_Cache_bound (c : SaysX fx fn K) : ∃ fd, Fun K "bound" "Cache.bound" (inClass (top 22) 16) (He.ma K (He.ga K "Cache") "bound") fd := by
  obtain ⟨fd, F⟩ := c.def_ 11
  exact ⟨fd, He5.fun_of (st := inClass (top 22) 16) F⟩
theorem d_Cache_serves (c : SaysX fx fn K) : ∃ fd, Fun K "serves" "Cache.serves" (inClass (top 22) 19) (He.ma K (He.ga K "Cache") "serves") fd := by
  obtain ⟨fd, F⟩ := c.def_ 12
  exact ⟨fd, He5.fun_of (st := inClass (top 22) 19) F⟩
theorem d_Cache_agrees (c : SaysX fx fn K) : ∃ fd, Fun K "agrees" "Cache.agrees" (inClass (top 22) 20) (He.ma K (He.ga K "Cache") "agrees") fd := by
  obtain ⟨fd, F⟩ := c.def_ 13
  exact ⟨fd, He5.fun_of (st := inClass (top 22) 20) F⟩
theorem d_is_word (c : SaysX fx fn K) : ∃ fd, Fun K "is_word" "is_word" (top 29) (He.ga K "is_word") fd := by
  obtain ⟨fd, F⟩ := c.def_ 14
  exact ⟨fd, He5.fun_of (st := top 29) F⟩
theorem d_are_keys (c : SaysX fx fn K) : ∃ fd, Fun K "are_keys" "are_keys" (top 30) (He.ga K "are_keys") fd := by
  obtain ⟨fd, F⟩ := c.def_ 15
  exact ⟨fd, He5.fun_of (st := top 30) F⟩
theorem d_is_allowance (c : SaysX fx fn K) : ∃ fd, Fun K "is_allowance" "is_allowance" (top 31) (He.ga K "is_allowance") fd := by
  obtain ⟨fd, F⟩ := c.def_ 16
  exact ⟨fd, He5.fun_of (st := top 31) F⟩
theorem d_are_allowances (c : SaysX fx fn K) : ∃ fd, Fun K "are_allowances" "are_allowances" (top 32) (He.ga K "are_allowances") fd := by
  obtain ⟨fd, F⟩ := c.def_ 17
  exact ⟨fd, He5.fun_of (st := top 32) F⟩
theorem d_is_integer_within (c : SaysX fx fn K) : ∃ fd, Fun K "is_integer_within" "is_integer_within" (top 28) (He.ga K "is_integer_within") fd := by
  obtain ⟨fd, F⟩ := c.def_ 18
  exact ⟨fd, He5.fun_of (st := top 28) F⟩
theorem d_send_to_children (c : SaysX fx fn K) : ∃ fd, Fun K "send_to_children" "send_to_children" (top 35) (He.ga K "send_to_children") fd := by
  obtain ⟨fd, F⟩ := c.def_ 19
  exact ⟨fd, He5.fun_of (st := top 35) F⟩
theorem d_accept (c : SaysX fx fn K) : ∃ fd, Fun K "accept" "accept" (top 36) (He.ga K "accept") fd := by
  obtain ⟨fd, F⟩ := c.def_ 20
  exact ⟨fd, He5.fun_of (st := top 36) F⟩
theorem d_accept_waiting (c : SaysX fx fn K) : ∃ fd, Fun K "accept_waiting" "accept_waiting" (top 37) (He.ga K "accept_waiting") fd := by
  obtain ⟨fd, F⟩ := c.def_ 21
  exact ⟨fd, He5.fun_of (st := top 37) F⟩
theorem d_renew (c : SaysX fx fn K) : ∃ fd, Fun K "renew" "renew" (top 38) (He.ga K "renew") fd := by
  obtain ⟨fd, F⟩ := c.def_ 22
  exact ⟨fd, He5.fun_of (st := top 38) F⟩
theorem d_settle (c : SaysX fx fn K) : ∃ fd, Fun K "settle" "settle" (top 39) (He.ga K "settle") fd := by
  obtain ⟨fd, F⟩ := c.def_ 23
  exact ⟨fd, He5.fun_of (st := top 39) F⟩
theorem d_start_child (c : SaysX fx fn K) : ∃ fd, Fun K "start_child" "start_child" (top 41) (He.ga K "start_child") fd := by
  obtain ⟨fd, F⟩ := c.def_ 24
  exact ⟨fd, He5.fun_of (st := top 41) F⟩
theorem d_add_child (c : SaysX fx fn K) : ∃ fd, Fun K "add_child" "add_child" (top 42) (He.ga K "add_child") fd := by
  obtain ⟨fd, F⟩ := c.def_ 25
  exact ⟨fd, He5.fun_of (st := top 42) F⟩
theorem d_rows_from (c : SaysX fx fn K) : ∃ fd, Fun K "rows_from" "rows_from" (top 47) (He.ga K "rows_from") fd := by
  obtain ⟨fd, F⟩ := c.def_ 26
  exact ⟨fd, He5.fun_of (st := top 47) F⟩
theorem d_give (c : SaysX fx fn K) : ∃ fd, Fun K "give" "give" (top 48) (He.ga K "give") fd := by
  obtain ⟨fd, F⟩ := c.def_ 27
  exact ⟨fd, He5.fun_of (st := top 48) F⟩
theorem d_ask (c : SaysX fx fn K) : ∃ fd, Fun K "ask" "ask" (top 49) (He.ga K "ask") fd := by
  obtain ⟨fd, F⟩ := c.def_ 28
  exact ⟨fd, He5.fun_of (st := top 49) F⟩
theorem d_hear_question (c : SaysX fx fn K) : ∃ fd, Fun K "hear_question" "hear_question" (top 50) (He.ga K "hear_question") fd := by
  obtain ⟨fd, F⟩ := c.def_ 29
  exact ⟨fd, He5.fun_of (st := top 50) F⟩
theorem d_hear_copy (c : SaysX fx fn K) : ∃ fd, Fun K "hear_copy" "hear_copy" (top 52) (He.ga K "hear_copy") fd := by
  obtain ⟨fd, F⟩ := c.def_ 30
  exact ⟨fd, He5.fun_of (st := top 52) F⟩
theorem d_hear_update (c : SaysX fx fn K) : ∃ fd, Fun K "hear_update" "hear_update" (top 53) (He.ga K "hear_update") fd := by
  obtain ⟨fd, F⟩ := c.def_ 31
  exact ⟨fd, He5.fun_of (st := top 53) F⟩
theorem d_hear_lower (c : SaysX fx fn K) : ∃ fd, Fun K "hear_lower" "hear_lower" (top 54) (He.ga K "hear_lower") fd := by
  obtain ⟨fd, F⟩ := c.def_ 32
  exact ⟨fd, He5.fun_of (st := top 54) F⟩
theorem d_hear_raise (c : SaysX fx fn K) : ∃ fd, Fun K "hear_raise" "hear_raise" (top 55) (He.ga K "hear_raise") fd := by
  obtain ⟨fd, F⟩ := c.def_ 33
  exact ⟨fd, He5.fun_of (st := top 55) F⟩
theorem d_hear_confirm (c : SaysX fx fn K) : ∃ fd, Fun K "hear_confirm" "hear_confirm" (top 56) (He.ga K "hear_confirm") fd := by
  obtain ⟨fd, F⟩ := c.def_ 34
  exact ⟨fd, He5.fun_of (st := top 56) F⟩
theorem d_Net___init__ (c : SaysX fx fn K) : ∃ fd, Fun K "__init__" "Net.__init__" (inClass (top 63) 1) (He.ma K (He.ga K "Net") "__init__") fd := by
  obtain ⟨fd, F⟩ := c.def_ 35
  exact ⟨fd, He5.fun_of (st := inClass (top 63) 1) F⟩
theorem d_Net___getitem__ (c : SaysX fx fn K) : ∃ fd, Fun K "__getitem__" "Net.__getitem__" (inClass (top 63) 8) (He.ma K (He.ga K "Net") "__getitem__") fd := by
  obtain ⟨fd, F⟩ := c.def_ 36
  exact ⟨fd, He5.fun_of (st := inClass (top 63) 8) F⟩
theorem d_Net_check_key (c : SaysX fx fn K) : ∃ fd, Fun K "check_key" "Net.check_key" (inClass (top 63) 12) (He.ma K (He.ga K "Net") "check_key") fd := by
  obtain ⟨fd, F⟩ := c.def_ 37
  exact ⟨fd, He5.fun_of (st := inClass (top 63) 12) F⟩
theorem d_Net_check_need (c : SaysX fx fn K) : ∃ fd, Fun K "check_need" "Net.check_need" (inClass (top 63) 13) (He.ma K (He.ga K "Net") "check_need") fd := by
  obtain ⟨fd, F⟩ := c.def_ 38
  exact ⟨fd, He5.fun_of (st := inClass (top 63) 13) F⟩
theorem d_Net_join (c : SaysX fx fn K) : ∃ fd, Fun K "join" "Net.join" (inClass (top 63) 14) (He.ma K (He.ga K "Net") "join") fd := by
  obtain ⟨fd, F⟩ := c.def_ 39
  exact ⟨fd, He5.fun_of (st := inClass (top 63) 14) F⟩
theorem d_Net_write (c : SaysX fx fn K) : ∃ fd, Fun K "write" "Net.write" (inClass (top 63) 15) (He.ma K (He.ga K "Net") "write") fd := by
  obtain ⟨fd, F⟩ := c.def_ 40
  exact ⟨fd, He5.fun_of (st := inClass (top 63) 15) F⟩
theorem d_Net_read (c : SaysX fx fn K) : ∃ fd, FunD K "read" "Net.read" (defArgs (inClass (top 63) 16)) (defBody (inClass (top 63) 16)) (defScope (inClass (top 63) 16)) [] [("floor", .int 0)] (He.ma K (He.ga K "Net") "read") fd := c.def_ 41
theorem d_Net_deliver (c : SaysX fx fn K) : ∃ fd, Fun K "deliver" "Net.deliver" (inClass (top 63) 18) (He.ma K (He.ga K "Net") "deliver") fd := by
  obtain ⟨fd, F⟩ := c.def_ 42
  exact ⟨fd, He5.fun_of (st := inClass (top 63) 18) F⟩
theorem d_Net_answer (c : SaysX fx fn K) : ∃ fd, Fun K "answer" "Net.answer" (inClass (top 63) 25) (He.ma K (He.ga K "Net") "answer") fd := by
  obtain ⟨fd, F⟩ := c.def_ 43
  exact ⟨fd, He5.fun_of (st := inClass (top 63) 25) F⟩
theorem d_Net_number (c : SaysX fx fn K) : ∃ fd, Fun K "number" "Net.number" (inClass (top 63) 26) (He.ma K (He.ga K "Net") "number") fd := by
  obtain ⟨fd, F⟩ := c.def_ 44
  exact ⟨fd, He5.fun_of (st := inClass (top 63) 26) F⟩
theorem d_Net_waiting (c : SaysX fx fn K) : ∃ fd, Fun K "waiting" "Net.waiting" (inClass (top 63) 27) (He.ma K (He.ga K "Net") "waiting") fd := by
  obtain ⟨fd, F⟩ := c.def_ 45
  exact ⟨fd, He5.fun_of (st := inClass (top 63) 27) F⟩
theorem d_Net_age (c : SaysX fx fn K) : ∃ fd, Fun K "age" "Net.age" (inClass (top 63) 28) (He.ma K (He.ga K "Net") "age") fd := by
  obtain ⟨fd, F⟩ := c.def_ 46
  exact ⟨fd, He5.fun_of (st := inClass (top 63) 28) F⟩
theorem d_Net_messages (c : SaysX fx fn K) : ∃ fd, Fun K "messages" "Net.messages" (inClass (top 63) 29) (He.ma K (He.ga K "Net") "messages") fd := by
  obtain ⟨fd, F⟩ := c.def_ 47
  exact ⟨fd, He5.fun_of (st := inClass (top 63) 29) F⟩
theorem d__law_source (c : SaysX fx fn K) : ∃ fd, Fun K "_law_source" "_law_source" (top 65) (He.ga K "_law_source") fd := by
  obtain ⟨fd, F⟩ := c.def_ 48
  exact ⟨fd, He5.fun_of (st := top 65) F⟩
theorem d__law_draw (c : SaysX fx fn K) : ∃ fd, Fun K "_law_draw" "_law_draw" (top 66) (He.ga K "_law_draw") fd := by
  obtain ⟨fd, F⟩ := c.def_ 49
  exact ⟨fd, He5.fun_of (st := top 66) F⟩
theorem d__law_chain (c : SaysX fx fn K) : ∃ fd, Fun K "_law_chain" "_law_chain" (top 67) (He.ga K "_law_chain") fd := by
  obtain ⟨fd, F⟩ := c.def_ 50
  exact ⟨fd, He5.fun_of (st := top 67) F⟩
theorem d__law_steps_right (c : SaysX fx fn K) : ∃ fd, Fun K "_law_steps_right" "_law_steps_right" (top 68) (He.ga K "_law_steps_right") fd := by
  obtain ⟨fd, F⟩ := c.def_ 51
  exact ⟨fd, He5.fun_of (st := top 68) F⟩
theorem d__law_first_right (c : SaysX fx fn K) : ∃ fd, Fun K "_law_first_right" "_law_first_right" (top 69) (He.ga K "_law_first_right") fd := by
  obtain ⟨fd, F⟩ := c.def_ 52
  exact ⟨fd, He5.fun_of (st := top 69) F⟩
theorem d__law_second_right (c : SaysX fx fn K) : ∃ fd, Fun K "_law_second_right" "_law_second_right" (top 70) (He.ga K "_law_second_right") fd := by
  obtain ⟨fd, F⟩ := c.def_ 53
  exact ⟨fd, He5.fun_of (st := top 70) F⟩
theorem d_law (c : SaysX fx fn K) : ∃ fd, Fun K "law" "law" (top 71) (He.ga K "law") fd := by
  obtain ⟨fd, F⟩ := c.def_ 54
  exact ⟨fd, He5.fun_of (st := top 71) F⟩
end
end HX03
set_option Elab.async false
set_option linter.all false
set_option maxRecDepth 100000
set_option maxHeartbeats 4000000
namespace EX
open PySem L2 PyProof.Rows
/-- the eight objects, n the drawn number, each with what it is as plain data -/
inductive ItemOk (H : Hp) (n : Int) : V → PyData → Prop where
  | int : ItemOk H n (.int n) (.int n)
  | non : ItemOk H n .non .none
  | bl : ItemOk H n (.bl true) (.bool true)
  | str : ItemOk H n (.str "text") (.str "text")
  | tup {t : Addr} (h : H t = some (.tup [.int 1, .int 2])) : ItemOk H n (.ref t) (.tuple [.int 1, .int 2])
  | lst {t : Addr} (h : H t = some (.lst [.int n])) : ItemOk H n (.ref t) (.list [.int n])
  | dic {t : Addr} (h : H t = some (.dK [(Sum.inl 1, .int n)])) : ItemOk H n (.ref t) (.dict [(.int 1, .int n)])
  | nil {t : Addr} (h : H t = some (.tup [])) : ItemOk H n (.ref t) (.tuple [])
theorem ItemOk.mono {H H' : Hp} {n : Int} {v : V} {d : PyData} (s : Same H H') (h : ItemOk H n v d) : ItemOk H' n v d := by
  cases h with
  | int => exact .int
  | non => exact .non
  | bl => exact .bl
  | str => exact .str
  | tup h => exact .tup (s _ _ h)
  | lst h => exact .lst (s _ _ h)
  | dic h => exact .dic (s _ _ h)
  | nil h => exact .nil (s _ _ h)
theorem ItemOk.rp {K : PySem.W.Frag} {H : Hp} {n : Int} {v : V} {d : PyData} (h : ItemOk H n v d) : Rp K H v d := by
  cases h with
  | int => exact .dp (.int n) rfl
  | non => exact .dp .non rfl
  | bl => exact .dp (.bl true) rfl
  | str => exact .dp (.str _) rfl
  | tup h => exact .dp (.tup (SqT.of h) (.cons (.int 1) (.cons (.int 2) .nil))) (by decide)
  | lst h => exact .dp (.lst (SqL.of h) (.cons (.int n) .nil)) rfl
  | dic h => exact .dic h
  | nil h => exact .dp (.tup (SqT.of h) .nil) rfl
theorem ItemOk.small {H : Hp} {n : Int} {v : V} {d : PyData} (h : ItemOk H n v d) (h0 : -500 ≤ n) (h1 : n < 1000000) : d.showable = true ∧ d.depth ≤ 60 ∧ d.shown.length ≤ sizeLine := by
  have hn : (toString n).length ≤ 8 := int_text_length_le10 (k := 7) (by decide) (by omega)
  have hl : n.natAbs.log2 < 1920 := Nat.lt_of_lt_of_le (PySem.Flt.log2_lt_of (k := 20) (by decide) (by omega)) (by decide)
  have hs : PyData.showable (.int n) = true := by
    show decide (n.natAbs.log2 < 1920) = true
    exact decide_eq_true hl
  have hz : (PyData.shown (.int n)).length ≤ 8 := by
    show (Str.ofString (toString n)).length ≤ 8
    rw [PySem.ofString_length]
    exact hn
  cases h with
  | int => exact ⟨hs, (show 0 ≤ 60 by decide), Nat.le_trans hz (by decide)⟩
  | non => exact ⟨rfl, by decide, by decide +kernel⟩
  | bl => exact ⟨rfl, by decide, by decide +kernel⟩
  | str => exact ⟨rfl, by decide, by decide +kernel⟩
  | tup h => exact ⟨by decide +kernel, by decide, by decide +kernel⟩
  | lst h =>
    refine ⟨by show (PyData.showable (.int n) && true) = true; rw [hs]; rfl, (show 0 + 1 ≤ 60 by decide), ?_⟩
    show (listText [PyData.shown (.int n)]).length ≤ sizeLine
    show ((((("[" : Str) ++ ("" : String)) ++ PyData.shown (.int n)) ++ "]" : Str)).length ≤ sizeLine
    rw [strLen_append, strLen_append, strLen_append]
    have e1 : ("[" : Str).length = 1 := rfl
    have e2 : ((("" : String) : Str)).length = 0 := rfl
    have e3 : ((("]" : String) : Str)).length = 1 := rfl
    rw [sizeLine_eq]
    omega
  | dic h =>
    refine ⟨by show (PyData.showable (.int 1) && PyData.showable (.int n) && true) = true; rw [hs]; rfl, (show 0 + 1 ≤ 60 by decide), ?_⟩
    show (dictText [PyData.shown (.int 1) ++ ": " ++ PyData.shown (.int n)]).length ≤ sizeLine
    show (((("{" : Str) ++ (PyData.shown (.int 1) ++ ": " ++ PyData.shown (.int n))) ++ "}" : Str)).length ≤ sizeLine
    rw [strLen_append, strLen_append, strLen_append, strLen_append]
    have e1 : ("{" : Str).length = 1 := rfl
    have e2 : (PyData.shown (.int 1)).length = 1 := by decide +kernel
    have e3 : (((": " : String) : Str)).length = 2 := rfl
    have e4 : ((("}" : String) : Str)).length = 1 := rfl
    rw [sizeLine_eq]
    omega
  | nil h => exact ⟨rfl, by decide, by decide +kernel⟩
/-- lists of bools as data -/
theorem canB : ∀ bs : List Bool, PyData.canLayAll0 (bs.map PyData.bool) = true
  | [] => rfl
  | b :: r => by
    show (PyData.canLay0 (.bool b) && PyData.canLayAll0 (r.map PyData.bool)) = true
    rw [canB r]
    rfl
theorem depB : ∀ bs : List Bool, PyData.depthAll (bs.map PyData.bool) = 0
  | [] => rfl
  | b :: r => by
    show max (PyData.depth (.bool b)) (PyData.depthAll (r.map PyData.bool)) = 0
    rw [depB r]
    rfl
theorem shapedB (bs : List Bool) : SeqAt.shaped (.list (bs.map PyData.bool)) = true := by
  show (PyData.canLayAll0 (bs.map PyData.bool) && decide (PyData.depthAll (bs.map PyData.bool) + 1 ≤ 64)) = true
  rw [canB, depB]
  rfl
theorem eqvB (bs : List Bool) : PyData.eqv (.list (bs.map PyData.bool)) (.list (bs.map PyData.bool)) = true := SeqAt.eqv_refl _ (canB bs)
theorem dpB {K : PySem.W.Frag} {H : Hp} : ∀ bs : List Bool, DpAll K H (bs.map V.bl) (bs.map PyData.bool)
  | [] => .nil
  | b :: r => .cons (.bl b) (dpB r)
theorem Same.updN {H H1 : Hp} {p : Addr} {o : HO} (s : Same H H1) (h : H p = none) : Same H (L2.upd H1 p o) := fun b u e => by
  rw [upd_ne (ne_of_none e h)]
  exact s b u e
theorem AllX.get {H : Hp} : ∀ {cs : List (Addr × List (Str × V))} {as : List (Addr × Addr)} {i : Nat} {a d : Addr}, AllX H cs as → as[i]? = some (a, d) → ∃ C fs, cs[i]? = some (C, fs) ∧ H a = some (exo a C (some d)) ∧ H d = some (exd d fs)
  | _, _, 0, _, _, .cons h _, e => by
    cases e
    exact ⟨_, _, rfl, h.1, h.2⟩
  | _, _, i + 1, _, _, .cons _ t, e => AllX.get (i := i) t e
end EX
set_option Elab.async false
set_option linter.all false
set_option maxRecDepth 100000
set_option maxHeartbeats 4000000
/-! set(tuple of ints) as a value, sorted of a set of ints: up to a thousand of them -/
namespace L2
open PySem PySem.Spec PyProof.Rows Srt
section
variable {P : Program} {w : World} {A : Around} {E : Value → Shared → Prop} {s : Shared} {a : Addr}
theorem sorted_set_many {S : Int → Bool} {n : Nat} {Q : Value → Shared → Prop} (R : SetR w s.heap a S n) (hh : A.handled = none) (h64 : n ≤ 1000)
    (hQ : ∀ s' p (out : Array Value) (c : Nat) (ns : List Int), (∀ b o, s.heap.get? b = some o → s'.heap.get? b = some o) → s'.gens = s.gens → s'.os = s.os → s.heap.objs.size ≤ p →
      s'.heap.get? p = some (seqObj "list" out c) → IntsAre out.toList ns → ns.Pairwise (· < ·) → (∀ k, k ∈ ns ↔ S k = true) → ns.length = n → Q (.ref p) s') :
    wpAny (model P w) A (call (.builtin "sorted") [.ref a]) Q E s := by
  obtain ⟨o, es, ep, t, ho, hex, hd, g, nd, hm, hb, hf, hn, hr, hl⟩ := R
  refine Calls.call_function_entry kind_sorted plain_sorted entry_sorted (args_sorted1 _) ?_
  unfold Builtin.«sorted»
  refine wpAny_bind (m := checkCount "sorted" 1 1 _) (wpAny_pure ?_)
  refine wpAny_bind (collect_set (A := A.in1) hh ⟨o, ho, hex.1, hd⟩ hf hb hr hl fun s1 vs k1 hz g1 o1 pm => ?_)
  have hvl : vs.length = n := by rw [pm.length_eq, List.length_map, Array.length_toList]; exact hn
  have hI : IntsAre vs (vs.map Builtin.Re.reRawOf) := ints_of vs fun v hv => by
    obtain ⟨e, he, q⟩ := List.mem_map.mp (pm.mem_iff.mp hv)
    obtain ⟨k, tk, h1, _⟩ := g e he
    exact ⟨k, tk, by rw [← q]; exact h1⟩
  have pk : (vs.map Builtin.Re.reRawOf).Perm (es.toList.map keyOf) := by
    have q := pm.map Builtin.Re.reRawOf
    rw [List.map_map] at q
    exact q
  have hzl : vs.length ≤ sizeLine := by rw [hvl, sizeLine_eq]; omega
  refine wpAny_bind (wpAny_newList ?_ hzl)
  have hoL : (s1.heap.push (seqObj "list" vs.toArray 0)).get? s1.heap.objs.size = some (seqObj "list" vs.toArray 0) := Heap.get?_push_size _ rfl
  refine wpAny_bind (wpAny_holding (wpAny_call_entry slot_list_sort ⟨_, hoL, rfl⟩ entry_list_sort (SrtO.list_sort_ord SrtO.swo_int hoL hzl (fun h2 => SrtO.ints_sortable hI h2) fun out b1 b2 => ⟨_, rfl, ?_⟩) (args_list_sort _)))
  obtain ⟨a1, a2, a3⟩ := SrtO.ints_out hI b1 b2
  generalize hns : out.map SrtO.iv = ns' at a1 a2 a3
  obtain ⟨c, hc⟩ := sortedHeap_at (vs := vs) (out := out.toArray) hoL
  have pn : ns'.Perm (es.toList.map keyOf) := a2.trans pk
  refine wpAny_pure ⟨_, rfl, hQ _ s1.heap.objs.size out.toArray c ns' (fun b u e => ?_) g1 o1 hz hc a1 (lt_of_le_nodup ns' a3 (pn.nodup_iff.mpr nd)) (fun k => by rw [pn.mem_iff, ← hm k]) ?_⟩
  · have q := k1 b u e
    have hlt := Heap.lt_size q
    show (sortedHeap (s1.heap.push (seqObj "list" vs.toArray 0)) s1.heap.objs.size vs out.toArray).get? b = some u
    rw [sortedHeap_old (Nat.ne_of_lt hlt) (by rw [size_push']; exact Nat.lt_succ_of_lt hlt)]
    exact Heap.get?_push_of_some _ q
  · rw [pn.length_eq, List.length_map, Array.length_toList]; exact hn
end
section
variable {X : Cx}
/-- set(t), a tuple of ints -/
def rSetTup (K : PySem.W.Frag) (w : World) : List V → Hp → VK → Prop := fun xs H Q => ∃ (p : Addr) (ns : List Int), xs = [.ref p] ∧ SqT K H p (ns.map V.int) ∧ ns.length ≤ 1000 ∧
  ∀ (a : Addr) (c : Nat) (H' : Hp), Same H H' → H' a = some (SetO w a (fun j => decide (j ∈ ns)) c) → c ≤ ns.length → Q (.ref a) H'
theorem cr_setTup (hc : X.calm = true) : CallR X (.type "set") (rSetTup X.K X.w) := by
  intro pins s σ H xs us Q I r h
  obtain ⟨p0, ns, rfl, hq, hl, q⟩ := h
  rw [Vals.ref1 r]
  obtain ⟨its, rv, pt, hz⟩ := I.tuple hq
  have hi : IntsAre its.toArray.toList ns := ints_of_vals rv
  refine call_set_tupI ns (I.ok.hd hc) (show s.heap.IsTuple p0 its.toArray from pt) hi (by unfold scanBound; omega) fun h' tk c R1 hcn k => ?_
  exact ⟨.ref _, upd H s.heap.objs.size (SetO X.w s.heap.objs.size (fun j => decide (j ∈ ns)) c), I.laid (t' := tk) (fun b u e => k b u e) (Nat.le_refl _) (setO_new R1), rfl, q _ c _ (EX.Same.upd (I.hok.fresh (Nat.le_refl _))) upd_same hcn⟩
/-- sorted(found), up to a thousand members -/
def rSortedMany (w : World) : List V → Hp → VK → Prop := fun vs H Q => ∃ (a : Addr) (S : Int → Bool) (n : Nat), vs = [V.ref a] ∧ H a = some (SetO w a S n) ∧ n ≤ 1000 ∧
  ∀ (ns : List Int) (p : Addr) (H' : Hp), Same H H' → H' p = some (.lst (ns.map V.int)) → ns.Pairwise (· < ·) → (∀ k : Int, k ∈ ns ↔ S k = true) → ns.length = n → Q (.ref p) H'
theorem cr_sortedMany (hc : X.calm = true) : CallR X (.builtin "sorted") (rSortedMany X.w) := by
  intro pins s σ H vs us Q I r h
  obtain ⟨a, S, n, rfl, ha, h64, q⟩ := h
  have R := setO_get I ha
  rw [Vals.ref1 r]
  refine sorted_set_many R (I.ok.hd hc) h64 fun s' p out c ns k g o hp hg hi hs hm hl => ?_
  have hlen : (ns.map V.int).length ≤ sizeLine := by rw [List.length_map, hl, sizeLine_eq]; omega
  have hn : H p = none := I.hok.fresh hp
  have J : Inv X pins σ (upd H p (.lst (ns.map V.int))) { s with heap := s'.heap, gens := s'.gens, drawn := s'.drawn, toks := s'.toks } :=
    I.call (ch := []) (Un.laid k hp hn) (I.hok.laid k hp ⟨hlen, out.toList, c, vals_of_ints hi, hg⟩) (by rw [g]; exact I.bare) (fun _ z => nomatch z)
  have e : s' = { s with heap := s'.heap, gens := s'.gens, drawn := s'.drawn, toks := s'.toks } := by
    cases s'
    cases s
    cases o
    rfl
  rw [e]
  exact ⟨.ref p, _, J, rfl, q ns p _ (EX.Same.upd hn) upd_same hs hm hl⟩
end
/-- two rising lists with the same members are one -/
theorem rising_eq : ∀ {l m : List Int}, l.Pairwise (· < ·) → m.Pairwise (· < ·) → (∀ k, k ∈ l ↔ k ∈ m) → l = m
  | [], [], _, _, _ => rfl
  | [], y :: m, _, _, h => absurd ((h y).mpr List.mem_cons_self) (by simp)
  | x :: l, [], _, _, h => absurd ((h x).mp List.mem_cons_self) (by simp)
  | x :: l, y :: m, hl, hm, h => by
    have l1 := List.pairwise_cons.mp hl
    have m1 := List.pairwise_cons.mp hm
    have e : x = y := by
      rcases List.mem_cons.mp ((h x).mp List.mem_cons_self) with e | e
      · exact e
      · rcases List.mem_cons.mp ((h y).mpr List.mem_cons_self) with e2 | e2
        · exact e2.symm
        · have a := m1.1 x e
          have b := l1.1 y e2
          omega
    subst e
    have : l = m := rising_eq l1.2 m1.2 fun k => by
      constructor
      · intro hk
        rcases List.mem_cons.mp ((h k).mp (List.mem_cons_of_mem _ hk)) with e | e
        · have := l1.1 k hk
          omega
        · exact e
      · intro hk
        rcases List.mem_cons.mp ((h k).mpr (List.mem_cons_of_mem _ hk)) with e | e
        · have := m1.1 k hk
          omega
        · exact e
    rw [this]
end L2
set_option Elab.async false
set_option linter.all false
set_option maxRecDepth 100000
set_option maxHeartbeats 4000000
namespace EX
open PySem L2 PySem.Spec PyProof.Rows
/-! ### defs that may raise -/
structure DefX (P : Program) (w : World) (K : PySem.W.Frag) (mg : Str → Option Value) (base : Heap) (k : Nat) (x : Str) (ps : List Str) (sp : Sp) : Prop where
  ex : ∃ (f : Addr) (fd : FuncData), FnOk P w K mg base (L2.CX P w) k f fd ps sp ∧ mg x = some (.ref f) ∧ PySem.W.keepIn K (.ref f) = true ∧ Binds K fd ps []
section
variable {X : Cx} {e : Expr} {es : List Expr} {ta : TA} {p pos : Pos} {x : Str} {k : Nat} {ps : List Str} {sp : Sp}
/-- called where it doesn't raise -/
theorem pe_callX (D : DefX X.prog X.w X.K X.mg X.base k x ps sp) (hr : Room k X.A) (ha : PA X (e :: es) ta) (hg : Gl X x := by rfl) (hdb : (x == ("__debug__" : Str)) = false := by decide)
    (he : starEach (e :: es) X.env = (false, eval e X.env) :: starEach es X.env := by rfl) (hpl : (backTo pos (starEach es X.env)).any (·.1) = false := by rfl) : PE X (.Call (.Name x p) (e :: es) [] pos) (tCall sp [] E0 ta) := by
  obtain ⟨f, fd, F, m, kp, b⟩ := D.ex
  exact pe_call F hr hg m kp b .nil passL ha hdb he hpl
/-- called where what it raises goes on -/
theorem pe_callU {W : WX} (D : DefX X.prog X.w X.K X.mg X.base k x ps sp) (hr : Room k X.A) (tk : Takes X W) (ha : PA X (e :: es) ta) (hg : Gl X x := by rfl) (hdb : (x == ("__debug__" : Str)) = false := by decide)
    (he : starEach (e :: es) X.env = (false, eval e X.env) :: starEach es X.env := by rfl) (hpl : (backTo pos (starEach es X.env)).any (·.1) = false := by rfl) : PE X (.Call (.Name x p) (e :: es) [] pos) (tCallS sp (WE W) ta) := by
  obtain ⟨f, fd, F, m, kp, b⟩ := D.ex
  exact pe_callS F hr hg m kp b (fun σ => passAt tk σ) ha hdb he hpl
end
end EX
set_option Elab.async false
set_option linter.all false
set_option maxRecDepth 100000
set_option maxHeartbeats 4000000
namespace EX
open PySem PySem.Spec L2 PyProof.Rows
section
variable {X : Cx}
/-- len of a dict, locked or not -/
theorem call_lenR : CallR X (.builtin "len") (fun us H Q => ∃ d kvs, us = [V.ref d] ∧ Rd H d (.dK kvs) ∧ Q (.int kvs.length) H) := by
  intro pins s σ H us vs Q I r h
  obtain ⟨d, kvs, rfl, hd, q⟩ := h
  obtain ⟨v, rfl, rv⟩ := vals1 r
  cases rv
  exact d_len I hd fun t s' I' => ⟨.int kvs.length, H, I', ⟨t, rfl⟩, q⟩
/-- a statement that is never reached -/
def tDead : TS := fun _ _ _ => False
theorem ps_dead {st : Stmt} : PS X st tDead := ⟨fun _ _ _ _ _ _ h => h.elim⟩
/-- name = {..: .. for ..} -/
theorem ps_setDc {j : Nat} {nm : Str} {pn : Pos} {ke ve tgt src : Expr} {conds : List Expr} {sc : Scope} {own : List (Str × Nat)} {p1 p2 : Pos} {ti : TI} {tg : TG} {tt : TT} {tk tv : TE}
    (calm : X.calm = true) (nd : X.N.Nodup) (at_ : X.N[j]? = some nm) (loc : X.env.scope.names.lookup nm = some .local) (sw : swapsWith (.DictComp ke ve [⟨tgt, src, conds, 0⟩] sc p1) (some (.Name nm pn)) p2.line X.env = pure true)
    (walk : PI X tgt src ti) (ok : BlkOk X.N X.env.scope sc own)
    (ht : ∀ (s : Shared) (H : Hp) (C : Addr) (cl : List (Str × Addr)) (fp : List Addr), PG (X.blk s H sc (compEnvC sc cl C X.env) fp) tgt tg)
    (hc : ∀ (s : Shared) (H : Hp) (C : Addr) (cl : List (Str × Addr)) (fp : List Addr), PTs (X.blk s H sc (compEnvC sc cl C X.env) fp) conds tt)
    (hk : ∀ (s : Shared) (H : Hp) (C : Addr) (cl : List (Str × Addr)) (fp : List Addr), PE (X.blk s H sc (compEnvC sc cl C X.env) fp) ke tk)
    (hv : ∀ (s : Shared) (H : Hp) (C : Addr) (cl : List (Str × Addr)) (fp : List Addr), PE (X.blk s H sc (compEnvC sc cl C X.env) fp) ve tv)
    (fold : ∀ x, foldedSetIterable src X.env x = pure x := by intro _; rfl) :
    PS X (.Assign [.Name nm pn] (.DictComp ke ve [⟨tgt, src, conds, 0⟩] sc p1) p2) (tAsg (tDc ti tg tt tk tv (own.map (·.2))) (gName j)) := by
  refine ⟨fun pins s0 σ0 H0 D0 I0 rd => ?_⟩
  rw [exec_Assign_Name_used _ _ _ _ sw]
  refine wpAny_bind (wpAny_standAt (wpAny_bind ?_))
  show wpAny _ X.A (do let _ ← comprehension (.DictComp ke ve [⟨tgt, src, conds, 0⟩] sc p1) sc X.env (firstIterPos [⟨tgt, src, conds, 0⟩] p1) newDict false (eval src X.env) (some (assign (.Name nm pn) X.env))) _ _ s0
  have rd' : tDc ti tg tt tk tv (own.map (·.2)) σ0 H0 (fun x Hx => gName j x σ0 Hx D0.nx) := rd
  refine wpAny_bind (thn (dc_core (Qf := fun _ se => SP X pins D0 .next se) calm nd I0 walk ok ht hc hk hv fold rd' fun L C se me He Ie q hn f => ?_) fun _ se hq => wpAny_pure (wpAny_pure hq))
  show wpAny _ _ (assign (.Name nm pn) X.env (.ref L)) _ _ _
  refine wpAny_assign_Name (store_ok2 (v := V.ref L) Ie nd at_ (.inl loc) rfl (fun sf If ⟨b, sb, hb⟩ => ?_) (.inr loc))
  obtain ⟨g0, g1, g2, g3, g4, g5⟩ := f
  have cb : C ≠ b := by
    rcases hb with z | z
    · rw [z]
      exact g1
    · exact fun e => g4 nm b z e.symm
  exact ⟨me, hn.sameBut sb cb, fun hl sl => ⟨_, He, If.turned (t' := sf.toks) (fun a o ha e => (sl.2 a ha).trans e) g0 g1 g3 g4 g5, q⟩⟩
theorem sw_dc {ke ve : Expr} {cs : List Comprehension} {sc : Scope} {p1 pn : Pos} {nm : Str} {l : Nat} {env : Env} (kd : env.scope.kind = .function) (loc : env.scope.names.lookup nm = some .local) (line : (pn.line == p1.line) = true)
    (free : (sc.names.any fun (m, k) => m == nm && (k == .local || k == .cell)) = false) : swapsWith (.DictComp ke ve cs sc p1) (some (.Name nm pn)) l env = pure true := by
  have k1 : env.kindOf nm = some .local := loc
  have k2 : env.blockKind = .function := by
    unfold Env.blockKind
    rw [kd]
    rfl
  unfold swapsWith
  simp only [k2, k1, free, Expr.pos, line]
  rfl
end
section
variable {J : It} {n : Nat} {G : Hp → Prop} {Y : Nat → Hp → V → Hp → Prop}
/-- a dict comprehension over a walk -/
theorem dc_it (wk : Walk J n G Y) {tg : TG} {tt : TT} {tk tv : TE} {vs : List Nat} {σ : L2.St} {H1 : Hp} {D : Addr} {Qd : Hp → Prop} (Pv : Nat → Hp → Prop) (h0 : Pv 0 (L2.upd H1 D (.dK []))) (hG : ∀ i H, i ≤ n → Pv i H → G H)
    (turn : ∀ i x H H', i < n → Pv i H → Y i H x H' → tg x (wipe σ vs) H' fun σ2 H2 => wipe σ2 vs = wipe σ vs ∧ tt σ2 H2 fun b H3 =>
      if b = true then tk σ2 H3 fun y H4 => tv σ2 H4 fun z H5 => ∃ kvs k, y = kV k ∧ H5 D = some (.dK kvs) ∧ kvs.length < sizeLine ∧ Pv (i + 1) (L2.upd H5 D (.dK (putK kvs k z))) else Pv (i + 1) H3) (fin : ∀ H, Pv n H → Qd H) :
    ∃ W : Nat → Nat → Hp → Prop, (∃ m, W 0 m (L2.upd H1 D (.dK []))) ∧ ∀ i m H, W i m H →
      (J.stop i H ∧ Qd H) ∨ (J.go i H ∧ ∃ Nx : Hp → Prop, (∀ H', Nx H' → ∃ m', m' < m ∧ W (i + 1) m' H') ∧ ∀ x H', J.yld i H x H' → tg x (wipe σ vs) H' fun σ2 H2 => wipe σ2 vs = wipe σ vs ∧ tt σ2 H2 fun b H3 =>
        if b = true then tk σ2 H3 fun y H4 => tv σ2 H4 fun z H5 => ∃ kvs k, y = kV k ∧ H5 D = some (.dK kvs) ∧ kvs.length < sizeLine ∧ Nx (L2.upd H5 D (.dK (putK kvs k z))) else Nx H3) := by
  refine ⟨fun i m H => (i ≤ n ∧ m = n - i) ∧ Pv i H, ⟨n, ⟨Nat.zero_le _, by simp⟩, h0⟩, fun i m H hw => ?_⟩
  obtain ⟨⟨hi, rfl⟩, p⟩ := hw
  have g := hG i H hi p
  rcases Nat.lt_or_ge i n with lt | ge
  · exact .inr ⟨wk.goes i H lt g, Pv (i + 1), fun H' p' => ⟨n - (i + 1), by omega, ⟨lt, rfl⟩, p'⟩, fun x H' y => turn i x H H' lt p (wk.yields i H x H' lt g y)⟩
  · obtain rfl : i = n := by omega
    exact .inl ⟨wk.stops H g, fin H p⟩
end
end EX
set_option Elab.async false
set_option linter.all false
set_option maxRecDepth 100000
set_option maxHeartbeats 4000000
/-! list(d.values()) -/
namespace EX
open PySem L2 PyProof.Rows
def vtvO (v d : Addr) : HO := .ext fun h => h.get? v = some { cls := .type "dict_values", data := .fields #[.ref d] }
def rValues : V → List V → Hp → VK → Prop := fun x xs H Q => ∃ (d : Addr) (kvs : List (Key × V)), x = .ref d ∧ xs = [] ∧ H d = some (.dK kvs) ∧ ∀ v, H v = none → Q (.ref v) (upd H v (vtvO v d))
theorem mt_values {X : Cx} : MtR X "dict.values" rValues := by
  intro pins s σ H x xs v us Q I rx rv h
  obtain ⟨a, kvs, ex, ev, e, q⟩ := h
  subst ex
  subst ev
  obtain rfl : v = Value.ref a := rx
  have hus := rv.zero
  subst hus
  obtain ⟨z, lo, vs, rk, dd⟩ := (show ObjOk X.prog X.w H s.heap a (.dK kvs) from I.hok a _ e)
  have hT : s.TypeIs (.ref a) "dict" := by
    obtain ⟨ep, hat⟩ := dd.dictAt
    exact hat.dictOf.typeIs
  refine call_meetsIn PySem.F.slot_dict_values hT PySem.F.entry_dict_values (PySem.F.args_dict_values_1 _) (meets_dict_values (mixKind X.prog X.w) a lo) ⟨⟨vs, dd⟩, ?_⟩
  have J := I.laid (t' := s.toks) (a := s.heap.objs.size) (o := vtvO s.heap.objs.size a) (h' := s.heap.push { cls := .type "dict_values", data := .fields #[.ref a] }) (fun b u e => Heap.get?_push_of_some _ e) (Nat.le_refl _)
    ⟨Heap.get?_push_size _ rfl, ⟨_, Heap.get?_push_size _ rfl⟩, fun h1 h2 q k => k _ q⟩
  exact ⟨.ref s.heap.objs.size, _, J, rfl, q _ (I.hok.fresh (Nat.le_refl _))⟩
def rListV : List V → Hp → VK → Prop := fun xs H Q => ∃ (v d : Addr) (kvs : List (Key × V)), xs = [.ref v] ∧ H v = some (vtvO v d) ∧ H d = some (.dK kvs) ∧
  ∀ l, H l = none → Q (.ref l) (upd H l (.lst (kvs.map (·.2))))
theorem vals_of {kvs : List (Key × V)} {vs : List (Key × Value)} (kv : KV kvs vs) : ∀ {us : List Value}, us = vs.map (·.2) → Vals (kvs.map (·.2)) us := by
  induction kv with
  | nil => intro us e; subst e; exact .nil
  | cons h t ih => intro us e; subst e; exact .cons h.2 (ih rfl)
theorem cr_listV {X : Cx} (hc : X.calm = true) : CallR X (.type "list") rListV := by
  intro pins s σ H xs us Q I r h
  obtain ⟨v, d, kvs, rfl, ev, ed, q⟩ := h
  obtain ⟨u, rfl, ru⟩ := vals1 r
  obtain rfl : u = Value.ref v := ru
  obtain ⟨hv, _, _⟩ := I.hok v _ ev
  have hv : s.heap.get? v = some { cls := .type "dict_values", data := .fields #[.ref d] } := hv
  obtain ⟨hz, lo, vs, kv, dd⟩ := (show ObjOk X.prog X.w H s.heap d (.dK kvs) from I.hok d _ ed)
  obtain ⟨ep, hat⟩ := dd.dictAt
  have hl1 : kvs.length = vs.length := Paired.length kv
  refine PySem.W.kdl_call (PySem.W.kdl_values (knd := mixKind X.prog X.w) (r := v) (d := d) (kvs := vs) (ep := ep)) (I.ok.hd hc) ⟨⟨_, hv, rfl, rfl⟩, hat⟩ (by rw [← hl1]; exact hz) fun h' tk acc c k hS hacc => ?_
  have he : acc.toList = vs.map (·.2) := PySem.W.kdl_vals_eq acc.toList (by rw [Array.length_toList]; exact hacc.1) fun j v e => hacc.2 j v (by rw [← Array.getElem?_toList]; exact e)
  have J := I.laid (t' := tk) (a := s.heap.objs.size) (o := .lst (kvs.map (·.2))) (h' := h') k (Nat.le_refl _)
    ⟨by rw [List.length_map]; exact hz, acc.toList, c, vals_of kv he, by rw [Array.toArray_toList]; exact hS⟩
  exact ⟨.ref s.heap.objs.size, _, J, rfl, q _ (I.hok.fresh (Nat.le_refl _))⟩
end EX
set_option Elab.async false
set_option linter.all false
set_option maxRecDepth 100000
set_option maxHeartbeats 4000000
namespace EX
open PySem L2 PySem.Spec PyProof.Rows
/-! ### xs.count(y), texts -/
theorem countIn_str (k : Str) : ∀ ys : List Str, countIn (.str k) (ys.map PyData.str) = ((ys.count k : Nat) : Int)
  | [] => rfl
  | y :: ys => by
    rw [List.map_cons, countIn, countIn_str k ys, List.count_cons]
    by_cases h : (y == k) = true
    · have e : same (.str y) (.str k) = true := h
      rw [if_pos e, if_pos h]
      push_cast
      omega
    · have e : ¬ same (.str y) (.str k) = true := h
      rw [if_neg e, if_neg h]
      push_cast
      omega
def rCntS (K : PySem.W.Frag) : V → List V → Hp → VK → Prop := fun x xs H Q => ∃ (p : Addr) (ys : List Str) (k : Str), x = .ref p ∧ xs = [.str k] ∧ SqL K H p (ys.map V.str) ∧ Q (.int (ys.count k : Nat)) H
theorem mt_scount {X : Cx} : MtR X "list.count" (rCntS X.K) := by
  intro pins s σ H x xs v us Q I rx rxs h
  obtain ⟨p, ys, k, rfl, rfl, hs, q⟩ := h
  cases rx
  obtain ⟨u, rfl, ru⟩ := rxs.one
  obtain ⟨t, rfl⟩ := ru
  obtain ⟨its, rv, hl, hlen⟩ := I.list hs
  refine count_list_strs hl.isList rv.strs ?_
  rw [countIn_str]
  exact ⟨.int (ys.count k : Nat), H, I.tok _, ⟨_, rfl⟩, q⟩
end EX
set_option Elab.async false
set_option linter.all false
set_option maxRecDepth 100000
set_option maxHeartbeats 4000000
/-! lists of texts, of numbers compared -/
namespace EX
open PySem L2 PyProof.Rows
theorem dpAll_strs {K : PySem.W.Frag} {H : Hp} : ∀ o : List Str, DpAll K H (o.map V.str) (o.map PyData.str)
  | [] => .nil
  | s :: o => .cons (.str s) (dpAll_strs o)
theorem dpAll_ints {K : PySem.W.Frag} {H : Hp} : ∀ o : List Int, DpAll K H (o.map V.int) (o.map PyData.int)
  | [] => .nil
  | s :: o => .cons (.int s) (dpAll_ints o)
theorem eqv_strs : ∀ a b : List Str, PyData.eqvAll (a.map PyData.str) (b.map PyData.str) = decide (a = b)
  | [], [] => rfl
  | [], y :: b => rfl
  | x :: a, [] => rfl
  | x :: a, y :: b => by
    show ((x == y) && PyData.eqvAll (a.map PyData.str) (b.map PyData.str)) = _
    rw [eqv_strs a b]
    by_cases e : x = y
    · subst e
      by_cases f : a = b
      · subst f
        simp
      · simp [f]
    · simp [e]
theorem eqv_ints : ∀ a b : List Int, PyData.eqvAll (a.map PyData.int) (b.map PyData.int) = decide (a = b)
  | [], [] => rfl
  | [], y :: b => rfl
  | x :: a, [] => rfl
  | x :: a, y :: b => by
    show ((x == y) && PyData.eqvAll (a.map PyData.int) (b.map PyData.int)) = _
    rw [eqv_ints a b]
    by_cases e : x = y
    · subst e
      by_cases f : a = b
      · subst f
        simp
      · simp [f]
    · simp [e]
theorem lay_strs : ∀ a : List Str, (∀ s ∈ a, PyData.strOk s = true) → PyData.canLayAll0 (a.map PyData.str) = true
  | [], _ => rfl
  | x :: a, h => by
    show (PyData.strOk x && PyData.canLayAll0 (a.map PyData.str)) = true
    rw [lay_strs a fun s hs => h s (List.mem_cons_of_mem _ hs), h x (List.mem_cons_self ..)]
    rfl
theorem dep_strs : ∀ a : List Str, PyData.depthAll (a.map PyData.str) = 0
  | [] => rfl
  | x :: a => by
    show max 0 (PyData.depthAll (a.map PyData.str)) = 0
    rw [dep_strs a]
    rfl
theorem shaped_strsT {a : List Str} (h : ∀ s ∈ a, PyData.strOk s = true) : SeqAt.shaped (.tuple (a.map PyData.str)) = true := by
  unfold SeqAt.shaped
  show (PyData.canLayAll0 (a.map PyData.str) && decide (PyData.depthAll (a.map PyData.str) + 1 ≤ 64)) = true
  rw [lay_strs a h, dep_strs]
  rfl
theorem shaped_strsL {a : List Str} (h : ∀ s ∈ a, PyData.strOk s = true) : SeqAt.shaped (.list (a.map PyData.str)) = true := by
  unfold SeqAt.shaped
  show (PyData.canLayAll0 (a.map PyData.str) && decide (PyData.depthAll (a.map PyData.str) + 1 ≤ 64)) = true
  rw [lay_strs a h, dep_strs]
  rfl
end EX
set_option Elab.async false
set_option linter.all false
set_option maxRecDepth 100000
set_option maxHeartbeats 4000000
/-! two sorted arrangements of the same texts are one -/
namespace EX
open PySem L2 PySem.Spec PyProof.Rows
theorem rising_pw : ∀ (l : List Str) (p : Str), risingS p l = true → (p :: l).Pairwise fun a b => a.cps.toList ≤ b.cps.toList
  | [], p, _ => List.pairwise_singleton _ _
  | x :: r, p, h => by
    have h : (!ltCps x.cps.toList p.cps.toList && risingS x r) = true := h
    rw [Bool.and_eq_true, Bool.not_eq_true', ltCps_eq, decide_eq_false_iff_not] at h
    have h1 : p.cps.toList ≤ x.cps.toList := List.not_lt.mp h.1
    have ih := rising_pw r x h.2
    refine List.pairwise_cons.mpr ⟨fun y hy => ?_, ih⟩
    rcases List.mem_cons.mp hy with rfl | hy
    · exact h1
    · exact List.le_trans h1 ((List.pairwise_cons.mp ih).1 y hy)
theorem sortedS_same {a b : List Str} (hp : a.Perm b) (ha : sortedS a = true) (hb : sortedS b = true) : a = b := by
  have pw : ∀ l : List Str, sortedS l = true → l.Pairwise fun a b => a.cps.toList ≤ b.cps.toList := fun l h => by
    cases l with
    | nil => exact .nil
    | cons x r => exact rising_pw r x h
  refine hp.eq_of_pairwise (fun x y _ _ h1 h2 => ?_) (pw a ha) (pw b hb)
  have e : x.cps.toList = y.cps.toList := List.le_antisymm h1 h2
  cases x
  cases y
  congr 1
  exact Array.toList_inj.mp e
end EX
set_option Elab.async false
set_option linter.all false
set_option maxRecDepth 100000
set_option maxHeartbeats 4000000
namespace EX
open PySem L2 PySem.Spec PyProof.Rows LamX
/-! ### a lambda handed to a def that tells what it raised -/
/-- a wish need hold only for as many slots as there are -/
theorem takes_len {X : Cx} {W : WX} (t : Takes X W) : Takes X (fun cls d σ H => σ.length = X.N.length → W cls d σ H) := fun u s' ⟨a, B, sI, pins, σ, H, cls, d, e, I, nb, up, sky, na, os, ag, w⟩ =>
  t u s' ⟨a, B, sI, pins, σ, H, cls, d, e, I, nb, up, sky, na, os, ag, w I.len⟩
/-- isinstance(e, c) in a suite -/
def rIsD (K : PySem.W.Frag) (a : Addr) (cls : Value) (d : Option Addr) : List V → Hp → VK → Prop := fun xs H Q => ∃ dd, d = some dd ∧ ∃ (C : Addr) (fs : List (Str × V)) (c : V) (cv : Value) (b : Bool), xs = [.ref a, c] ∧ cls = .ref C ∧ EcC K C ∧ H dd = some (.xd fs) ∧ ClsV c cv ∧ PySem.W.kitOne K (.ref C) cv = some b ∧ Q (.bl b) H
theorem call_isD {X : Cx} {a : Addr} {cls : Value} {d : Option Addr} {oe : Obj} {pn : List (Addr × Obj)} (hz : Zc cls d oe) (hf : ∃ vs, oe.data = .fields vs) : CallR (X.suite a ((a, oe) :: pn)) (.builtin "isinstance") (rIsD X.K a cls d) := by
  intro pins s σ H xs us Q I r h
  obtain ⟨dd, rfl, h⟩ := h
  exact call_isS hz hf pins s σ H xs us Q I r h
/-- e.f in a suite, for the classes of which f is a field -/
def tXfs (Cs : List Addr) (a : Addr) (cls : Value) (d : Option Addr) (f : Str) (te : TE) : TE := fun σ H Q => ∃ C ∈ Cs, tXf a cls d C f te σ H Q
theorem pe_xfs {X : Cx} {a : Addr} {Cs : List Addr} {oe : Obj} {cls : Value} {d : Option Addr} {pn : List (Addr × Obj)} {e : Expr} {te : TE} {pos : Pos} {n : Str} (T : ∀ C ∈ Cs, EcC X.K C ∧ PySem.W.findIn X.K (.ref C) n = some none)
    (hz : Zc cls d oe) (hf : ∃ vs, oe.data = .fields vs) (he : PE (X.suite a ((a, oe) :: pn)) e te) (hb : attributeBase e n X.env (eval e X.env) = eval e X.env := by rfl) :
    PE (X.suite a ((a, oe) :: pn)) (.Attribute e n pos) (tXfs Cs a cls d n te) := by
  refine ⟨fun pins s σ H Q I h => ?_⟩
  obtain ⟨C, hC, h⟩ := h
  exact (pe_xf (T C hC).1.xf (T C hC).2 hz hf he hb).run pins s σ H Q I h
/-- what such a def makes of it: cs the classes caught with their words -/
def TSaid (K : PySem.W.Frag) (cs : List (Addr × Str)) (made : Str) : (XK → Hp → VK → Prop) → Hp → VK → Prop := fun tl H Q =>
  tl (fun cls d H' => ∃ (i : Nat) (C : Addr) (lbl : Str) (dd : Addr) (v : V) (dv : PyData), cs[i]? = some (C, lbl) ∧ cls = .ref C ∧ d = some dd ∧ H' dd = some (.xd [("given", v)]) ∧ DqS K H' v dv ∧ dv.showable = true ∧ dv.depth ≤ 60 ∧ dv.shown.length ≤ sizeLine ∧
    ∀ p, H' p = none → Q (.ref p) (upd H' p (.lst [.str lbl, .str dv.shown, .bl true]))) H (fun _ H' => 1 ≤ sizeLine ∧ ∀ p, H' p = none → Q (.ref p) (upd H' p (.lst [.str made])))
/-- the reading of one clause -/
def tSaid1 (K : PySem.W.Frag) (Cs : List Addr) (cb : Addr) (lbl : Str) (i : Nat) (a : Addr) (cls : Value) (d : Option Addr) : TS :=
  tRet (tLst (tCons (tC (.str lbl)) (tCons (tCB (rRepq K) (tCons (tXfs Cs a cls d "given" (tVar i)) tNil)) (tCons (tCB (rIsD K a cls d) (tCons (tVar i) (tCons (tC (.ref cb)) tNil))) tNil))))
/-- what stands of the classes -/
structure SaidC (K : PySem.W.Frag) (cb : Addr) (cs : List (Addr × Str)) : Prop where
  ec : ∀ p ∈ cs, EcC K p.1 ∧ PySem.W.findIn K (.ref p.1) "given" = some none
  cbk : ∀ p ∈ cs, PySem.W.kitOne K (.ref p.1) (.ref cb) = some true
  ex : ∀ (i j : Nat) (p q : Addr × Str), cs[i]? = some p → cs[j]? = some q → PySem.W.exmOne K (.ref p.1) (.ref q.1) = some (decide (i = j))
/-- the wish of the clauses from the k-th on, for an exception of the i-th class -/
theorem said_wish {K : PySem.W.Frag} {cb : Addr} {cs : List (Addr × Str)} (S : SaidC K cb cs) {Wout : WX} {D : Ends} {σ : L2.St} {H : Hp} {sl i : Nat} {C dd : Addr} {lbl : Str} {v : V} {dv : PyData} (hσ : sl < σ.length)
    (hi : cs[i]? = some (C, lbl)) (hx : H dd = some (.xd [("given", v)])) (hd : DqS K H v dv) (h1 : dv.showable = true) (h2 : dv.depth ≤ 60) (h3 : dv.shown.length ≤ sizeLine) (hq : ∀ p, H p = none → D.rt (.ref p) (upd H p (.lst [.str lbl, .str dv.shown, .bl true]))) :
    ∀ (l : List (Addr × Str)) (k : Nat), cs.drop k = l → k ≤ i → wCls K Wout D (l.map fun p => ⟨.ref p.1, some sl, tSaid1 K (cs.map (·.1)) cb p.2 sl⟩) (.ref C) (some dd) σ H
  | [], k, hl, hk => by
    have := congrArg List.length hl
    rw [List.length_drop] at this
    have := (List.getElem?_eq_some_iff.mp hi).1
    simp at *
    omega
  | p :: l, k, hl, hk => by
    have hp : cs[k]? = some p := by
      have : (cs.drop k)[0]? = some p := by rw [hl]; rfl
      rw [List.getElem?_drop] at this
      simpa using this
    have hl' : cs.drop (k + 1) = l := by
      rw [← List.drop_drop, hl]
      rfl
    refine ⟨decide (i = k), S.ex i k (C, lbl) p hi hp, fun e => ?_, fun e => ?_⟩
    · have e : i = k := of_decide_eq_true e
      subst e
      rw [hi] at hp
      cases hp
      intro a ha
      have hm : (C, lbl) ∈ cs := List.mem_of_getElem? hi
      have hs : (slotIn σ (some sl) (some (.ref a)))[sl]? = some (some (.ref a)) := by
        show (σ.set sl (some (.ref a)))[sl]? = _
        rw [List.getElem?_set_self hσ]
      refine ⟨C, List.mem_map.mpr ⟨_, hm, rfl⟩, _, hs, rfl, rfl, dd, _, v, rfl, hx, rfl, v, dv, rfl, hd, h1, h2, h3, ?_⟩
      exact ⟨_, hs, dd, rfl, C, _, _, .ref cb, true, rfl, rfl, (S.ec _ hm).1, hx, .own cb, S.cbk _ hm, by show 3 ≤ sizeLine; decide, hq⟩
    · have e : ¬ i = k := of_decide_eq_false e
      exact said_wish S hσ hi hx hd h1 h2 h3 hq l (k + 1) hl' (by omega)
end EX
set_option Elab.async false
set_option linter.all false
set_option maxRecDepth 100000
set_option maxHeartbeats 4000000
namespace EX
open PySem L2 PySem.Spec PyProof.Rows LamX
/-! ### what is kept where tables of code objects grow -/
theorem ExtN.of_same {H H' : Hp} (s : Same H H') : ExtN H H' := ExtN.of s
theorem ExtN.seq {K : PySem.W.Frag} {H H' : Hp} {a : Addr} {xs : List V} (s : ExtN H H') (h : SqL K H a xs) : SqL K H' a xs :=
  h.elim (fun z => .inl (z.elim (fun z => .inl (s _ _ z (fun _ e => nomatch e))) fun ⟨o, z⟩ => .inr ⟨o, s _ _ z (fun _ e => nomatch e)⟩)) .inr
theorem ExtN.sqt {K : PySem.W.Frag} {H H' : Hp} {a : Addr} {xs : List V} (s : ExtN H H') (h : SqT K H a xs) : SqT K H' a xs :=
  h.elim (fun z => .inl (z.elim (fun z => .inl (s _ _ z (fun _ e => nomatch e))) fun ⟨o, z⟩ => .inr ⟨o, s _ _ z (fun _ e => nomatch e)⟩)) .inr
theorem ExtN.dK {H H' : Hp} {a : Addr} {kvs : List (Key × V)} (s : ExtN H H') (h : H a = some (.dK kvs)) : H' a = some (.dK kvs) := s _ _ h (fun _ e => nomatch e)
theorem ExtN.lst {H H' : Hp} {a : Addr} {xs : List V} (s : ExtN H H') (h : H a = some (.lst xs)) : H' a = some (.lst xs) := s _ _ h (fun _ e => nomatch e)
mutual
theorem DqS.ext {K : PySem.W.Frag} {H H' : Hp} (s : ExtN H H') : ∀ {v : V} {d : PyData}, DqS K H v d → DqS K H' v d
  | _, _, .non => .non
  | _, _, .bl b => .bl b
  | _, _, .int i => .int i
  | _, _, .str x => .str x
  | _, _, .lst n h a => .lst n (ExtN.seq s h) (DqSAll.ext s a)
  | _, _, .tup h a => .tup (ExtN.sqt s h) (DqSAll.ext s a)
  | _, _, .dic h a => .dic (ExtN.dK s h) (DqSAll.ext s a)
theorem DqSAll.ext {K : PySem.W.Frag} {H H' : Hp} (s : ExtN H H') : ∀ {vs : List V} {ds : List PyData}, DqSAll K H vs ds → DqSAll K H' vs ds
  | _, _, .nil => .nil
  | _, _, .cons h t => .cons (DqS.ext s h) (DqSAll.ext s t)
end
/-- one object but tables changed -/
theorem Tabs.but {T : List (Addr × Str)} {H H' : Hp} {p : Addr} {o : HO} (t : Tabs T H) (b : ∀ a u, a ≠ p → H a = some u → H' a = some u) (hp : H p = some o) (n1 : ∀ ps, o ≠ .tbl ps) (n2 : ∀ c q, o ≠ CodeO c q) : Tabs T H' := fun z hz => by
  obtain ⟨ps, h1, h2, h3⟩ := t z hz
  refine ⟨ps, b _ _ (fun e => ?_) h1, h2, fun pos cv hc => ?_⟩
  · rw [e, hp] at h1
    exact n1 _ (Option.some.inj h1)
  · obtain ⟨c, e, hco⟩ := h3 pos cv hc
    refine ⟨c, e, b _ _ (fun e2 => ?_) hco⟩
    rw [e2, hp] at hco
    exact n2 _ _ (Option.some.inj hco)
theorem codeO_lst {c : Addr} {q : Str} (xs : List V) : HO.lst xs ≠ CodeO c q := fun z => by
  unfold CodeO at z
  cases z
/-- what a def tells that catches the i-th class -/
theorem lam_said {K : PySem.W.Frag} {T : List (Addr × Str)} {cs : List (Addr × Str)} {made lbl : Str} {i : Nat} {C : Addr} {v : V} {dv : PyData} {t : XK → TE} {σ : L2.St} {H : Hp} {Q : VK} (hT : Tabs T H) (hD : DqS K H v dv) (h1 : dv.showable = true) (h2 : dv.depth ≤ 60) (h3 : dv.shown.length ≤ sizeLine) (hi : cs[i]? = some (C, lbl))
    (ht : ∀ (E : XK) (H1 : Hp) (Q : VK), ExtN H H1 → (∀ d' H', Same H1 H' → H' d' = some (.xd [(("given" : Str), v)]) → E (.ref C) (some d') H') → t E σ H1 Q)
    (k : ∀ p H', ExtN H H' → Tabs T H' → H' p = some (.lst [.str lbl, .str dv.shown, .bl true]) → Q (.ref p) H') : tLam T (TSaid K cs made) t σ H Q := by
  refine ⟨hT, fun H1 e1 T1 => ht _ H1 _ e1 fun d' H' s hx => ?_⟩
  have e2 : ExtN H H' := ExtN.trans e1 (ExtN.of s)
  refine ⟨i, C, lbl, d', v, dv, hi, rfl, rfl, hx, DqS.ext e2 hD, h1, h2, h3, fun p hp => ?_⟩
  have s2 : ∀ b o, H' b = some o → upd H' p (.lst [.str lbl, .str dv.shown, .bl true]) b = some o := Same.upd hp
  exact k p _ (ExtN.trans e2 (ExtN.of s2)) ((T1.ext s).ext s2) upd_same
/-- the same compared with what is asked -/
theorem if_said {K : PySem.W.Frag} {T : List (Addr × Str)} {cs : List (Addr × Str)} {made lbl : Str} {i j : Nat} {C : Addr} {v : V} {dv : PyData} {t : XK → TE} {A : TS} {σ : L2.St} {H : Hp} {D : Ends} (hj : σ[j]? = some (some v)) (hT : Tabs T H) (hD : DqS K H v dv) (h1 : dv.showable = true) (h2 : dv.depth ≤ 60) (h3 : dv.shown.length ≤ sizeLine) (hi : cs[i]? = some (C, lbl))
    (sh : SeqAt.shaped (.list [.str lbl, .str dv.shown, .bool true]) = true) (eq : PyData.eqv (.list [.str lbl, .str dv.shown, .bool true]) (.list [.str lbl, .str dv.shown, .bool true]) = true)
    (ht : ∀ (E : XK) (H1 : Hp) (Q : VK), ExtN H H1 → (∀ d' H', Same H1 H' → H' d' = some (.xd [(("given" : Str), v)]) → E (.ref C) (some d') H') → t E σ H1 Q)
    (k : ∀ H', ExtN H H' → Tabs T H' → D.nx σ H') : tIfS (tTest (tOp (rNeD K) (tLam T (TSaid K cs made) t) (tLst (tCons (tC (.str lbl)) (tCons (tCB (rRepq K) (tCons (tVar j) tNil)) (tCons (tC (.bl true)) tNil)))))) A tNext D σ H := by
  refine lam_said hT hD h1 h2 h3 hi ht fun p H' e T' hp => ?_
  refine ⟨v, hj, v, dv, rfl, DqS.ext e hD, h1, h2, h3, by show 3 ≤ sizeLine; decide, fun q hq => ?_⟩
  have s2 : ∀ b o, H' b = some o → upd H' q (.lst [.str lbl, .str dv.shown, .bl true]) b = some o := Same.upd hq
  refine ⟨_, _, .lst (.inl (.inl (s2 _ _ hp))) (.cons (.str _) (.cons (.str _) (.cons (.bl _) .nil))), .lst (.inl (.inl upd_same)) (.cons (.str _) (.cons (.str _) (.cons (.bl _) .nil))), sh, sh, ?_⟩
  rw [eq]
  exact ⟨false, rfl, (iteF (k _ (ExtN.trans e (ExtN.of s2)) (T'.ext s2)) : if false = true then _ else _)⟩
/-- a def whose code object is known -/
theorem fn_atC {P : Program} {w : World} {K : PySem.W.Frag} {mg : Str → Option Value} {base : Heap} {k : Nat} {x qual : Str} {st : Stmt} {f c : Addr} {fd : FuncData} {N ps : List Str} {sp : Sp} (F : Fun K x qual st f fd) (hc : fd.code = .ref c) (S : FnScope N ps (defScope st)) (len : ∀ vs H Q E, sp vs H Q E → vs.length = ps.length)
    (body : ∀ (A : Around) (outer : List Env) (s : Shared) (H : Hp) (vs : List V) (Q : VK) (E : XK), (A.deeper (envOfC qual (defScope st) s.heap.objs.size f (.ref c))).guards = some [] → Room k (A.deeper (envOfC qual (defScope st) s.heap.objs.size f (.ref c))) → sp vs H Q E →
      ∃ t, PSs (cxOf CX0 P w K mg base N qual (defScope st) f (.ref c) A outer s H E) (defBody st) t ∧ t { nx := fun _ H' => Q .non H', rt := Q } (start N vs) H) : FnG P w K mg base CX0 (k + 1) f fd ps sp := by
  obtain ⟨oc, od, kV, doc, pm, an, cdv, ct, osl, rfl, lk, hcd⟩ := F.ex
  obtain rfl : cdv = .ref c := hc
  refine ⟨fun A outer s H args us vs Q E hr hg e0 hb rv h => ?_, len⟩
  have hl := len _ _ _ _ h
  have kin : K.In s.heap := e0.mod.kin.keeps fun b o z => (e0.bs b o z).1
  have lim : s.heap.NoLimit := e0.mod.nolimit.keeps fun b o z => (e0.bs b o z).1
  have par : ∀ y ∈ ps.zip us, (defScope st).names.lookup y.1 = some .local ∨ ((defScope st).names.lookup y.1 = some .cell ∧ ((cellsFrom (s.heap.objs.size + 1) (defScope st).names []).lookup y.1).isSome = true) := by
    rintro ⟨n, v⟩ hy
    cases S.par n (List.of_mem_zip hy).1 with
    | inl q => exact .inl q
    | inr q => exact .inr ⟨q, PySem.W.cellsFrom_some _ _ _ (.inl q)⟩
  refine codeAny_call_function hr.depth (kin _ _ lk) rfl S.co S.gen rfl (PySem.W.codeRec_of kin hcd) (hb _ _ _ _ (wpAny_newFunctionEnv_cells S.kind par ?_))
  rintro env he s1 hin
  subst he
  refine ⟨lim.keeps hin.toInCall.keep, codeAny_func ?_⟩
  obtain ⟨t, ht, hq⟩ := body A outer s H vs Q E (guards_deeper hg) (hr.deeper _) h
  refine wpAny_mono (ht.run [] s1 (start N vs) H _ (inv_start S hr.hd e0 hl rv hin) hq) ?_ fun _ _ z => z
  rintro fl s' hs
  cases fl with
  | next =>
    obtain ⟨σ', H', J, q⟩ := hs
    exact ⟨V.non, H', J.os, J.bare, J.base, J.hok, rfl, q⟩
  | ret u =>
    obtain ⟨v, σ', H', J, r, q⟩ := hs
    exact ⟨v, H', J.os, J.bare, J.base, J.hok, r, q⟩
  | brk =>
    obtain ⟨_, _, _, q⟩ := hs
    exact q.elim
  | cont =>
    obtain ⟨_, _, _, q⟩ := hs
    exact q.elim
/-- a display of keys and constants -/
theorem disp_c {cs : List (Key × V)} {σ : L2.St} {H : Hp} {Q : VK} (h15 : cs.length ≤ 15) (k : ∀ p H', Same H H' → H p = none → H' p = some (.dK (mergeK [] cs)) → Q (.ref p) H') : tDisp (cs.map fun c => (tC (kV c.1), tC c.2)) σ H Q := fun p hp => by
  have aux : ∀ (l : List (Key × V)) (H1 : Hp) (R : List (V × V) → Hp → Prop), R (l.map fun kv => (kV kv.1, kv.2)) H1 → tPairs (l.map fun c => (tC (kV c.1), tC c.2)) σ H1 R := by
    intro l
    induction l with
    | nil => intro H1 R h; exact h
    | cons x t ih => intro H1 R h; exact ih H1 _ h
  refine aux cs _ _ ⟨upd_same, cs, rfl, h15, k p _ (fun b o e => ?_) hp upd_same⟩
  rw [upd_ne (ne_of_none e hp), upd_ne (ne_of_none e hp)]
  exact e
/-- a display of one entry -/
theorem disp_1 {tk tv : TE} {key : Key} {v : V} {σ : L2.St} {H : Hp} {Q : VK} (hk : ∀ (H : Hp) (Q : VK), Q (kV key) H → tk σ H Q) (hv : ∀ (H : Hp) (Q : VK), Q v H → tv σ H Q) (k : ∀ p H', Same H H' → H p = none → H' p = some (.dK [(key, v)]) → Q (.ref p) H') : tDisp [(tk, tv)] σ H Q := fun p hp => by
  refine hk _ _ (hv _ _ ⟨upd_same, [(key, v)], rfl, by show 1 ≤ 15; decide, k p _ (fun b o e => ?_) hp upd_same⟩)
  rw [upd_ne (ne_of_none e hp), upd_ne (ne_of_none e hp)]
  exact e
end EX
set_option Elab.async false
set_option linter.all false
set_option maxRecDepth 100000
set_option maxHeartbeats 4000000
/-! methods, makings, own subscripts that may raise: met where they don't, met where what they raise goes on -/
namespace EX
open PySem L2 PySem.Spec PyProof.Rows
structure MtX (P : Program) (w : World) (K : PySem.W.Frag) (mg : Str → Option Value) (base : Heap) (k : Nat) (C : Addr) (m : Str) (ps : List Str) (sp : Sp) : Prop where
  c : Cls K C
  ex : ∃ (f : Addr) (fd : FuncData), Meth K C m f ∧ FnOk P w K mg base (L2.CX P w) k f fd ps sp ∧ Binds K fd ps []
structure MkX (P : Program) (w : World) (K : PySem.W.Frag) (mg : Str → Option Value) (base : Heap) (k : Nat) (x : Str) (ps : List Str) (C : Addr) (sp : Sp) : Prop where
  m : mg x = some (.ref C)
  ex : ∃ (f : Addr) (fd : FuncData), Mk K C f ∧ FnOk P w K mg base (L2.CX P w) k f fd ps sp ∧ Binds K fd ps []
abbrev DunX (P : Program) (w : World) (K : PySem.W.Frag) (mg : Str → Option Value) (base : Heap) (k : Nat) (C : Addr) (m : Str) (ps : List Str) (sp : Sp) : Prop := Dun P w K mg base (L2.CX P w) k C m ps sp
def tMethU (C : Addr) (m : Str) (sp : Sp) (W : WX) (ta : TE) (t : TA) : TE := fun σ H Q => ta σ H fun x H1 => ∃ a dx fs, x = .ref a ∧ H1 a = some (.ins C dx fs) ∧ fs.lookup m = none ∧ t σ H1 fun vs H2 => sp (x :: vs) H2 Q (WE W σ)
def tMakeU (C : Addr) (sp : Sp) (W : WX) (t : TA) : TE := fun σ H Q => t σ H fun vs H1 => ∀ x dx, H1 x = none → H1 dx = none → dx ≠ x → sp (.ref x :: vs) (upd (upd H1 dx (.own x)) x (.ins C dx [])) (fun v H2 => v = .non ∧ Q (.ref x) H2) (WE W σ)
def tGetU (C : Addr) (sp : Sp) (W : WX) (to ti : TE) : TE := fun σ H Q => to σ H fun x H1 => ti σ H1 fun y H2 => ∃ a dx fs, x = .ref a ∧ H2 a = some (.ins C dx fs) ∧ sp [.ref a, y] H2 Q (WE W σ)
section
variable {X : Cx} {W : WX} {e o i : Expr} {es : List Expr} {t : TA} {ta to ti : TE} {p pos apos : Pos} {x m : Str} {k : Nat} {ps : List Str} {sp : Sp} {C : Addr} {pins : List (Addr × Obj)} {σ : L2.St} {H : Hp} {s : Shared}
theorem pe_mtX {pl : Sem Bool} (D : MtX X.prog X.w X.K X.mg X.base k C m ps sp) (hr : Room k X.A) (he : PE X o ta) (ha : PA X (e :: es) t)
    (hst : starEach (e :: es) X.env = (false, eval e X.env) :: starEach es X.env := by rfl) (hpl : (backTo pos (starEach es X.env)).any (·.1) = false := by rfl)
    (ht : eval (.Call (.Attribute o m apos) (e :: es) [] pos) X.env = (do
      let ov ← eval o X.env
      standAt apos.atName
      let (f, first) ← holding [ov] (getMethod ov m pl)
      callWith pos f first (backTo pos (starEach (e :: es) X.env)) (backToKw pos (keywordEach [] X.env))) := by rfl) : PE X (.Call (.Attribute o m apos) (e :: es) [] pos) (tMeth C m sp [] E0 ta t) := by
  obtain ⟨f, fd, hm, F, b⟩ := D.ex
  exact pe_meth (pl := pl) he D.c hm F hr b .nil passL ha hst hpl ht
theorem pe_mtU {pl : Sem Bool} (D : MtX X.prog X.w X.K X.mg X.base k C m ps sp) (hr : Room k X.A) (tk : Takes X W) (he : PE X o ta) (ha : PA X (e :: es) t)
    (hst : starEach (e :: es) X.env = (false, eval e X.env) :: starEach es X.env := by rfl) (hpl : (backTo pos (starEach es X.env)).any (·.1) = false := by rfl)
    (ht : eval (.Call (.Attribute o m apos) (e :: es) [] pos) X.env = (do
      let ov ← eval o X.env
      standAt apos.atName
      let (f, first) ← holding [ov] (getMethod ov m pl)
      callWith pos f first (backTo pos (starEach (e :: es) X.env)) (backToKw pos (keywordEach [] X.env))) := by rfl) : PE X (.Call (.Attribute o m apos) (e :: es) [] pos) (tMethU C m sp W ta t) := by
  obtain ⟨f, fd, hm, F, hb⟩ := D.ex
  refine ⟨fun pins s σ H Q I h => ?_⟩
  refine PySem.W.methodCall_KW (pl := pl) (thn (he.run pins s σ H _ I h) fun u s1 ⟨x, H1, I1, rx, a, dx, fs, ex, ea, l, q⟩ => ?_) ht
  subst ex
  obtain rfl : u = Value.ref a := rx
  refine getmeth_ok I1 ea D.c hm l ?_
  refine PySem.W.callWith_K (first := [.ref a]) (h₀ := X.base) I.ok.mod.kin hm.kp (thn (ha.run pos pins s1 σ H1 _ I1 q) fun us s2 ⟨vs, H2, I2, r, q2⟩ => ⟨I2.kIn, ?_⟩) hst hpl
  exact run_fnS (E := WE W) (us := .ref a :: us) (vs := .ref a :: vs) F hr hb (passAt tk σ) I2 (.cons rfl r) q2
theorem pe_mkX (D : MkX X.prog X.w X.K X.mg X.base k x ps C sp) (hr : Room (k + 1) X.A) (ha : PA X (e :: es) t) (hg : Gl X x := by rfl) (hdb : (x == ("__debug__" : Str)) = false := by decide)
    (he : starEach (e :: es) X.env = (false, eval e X.env) :: starEach es X.env := by rfl) (hpl : (backTo pos (starEach es X.env)).any (·.1) = false := by rfl) : PE X (.Call (.Name x p) (e :: es) [] pos) (tMake C sp [] E0 t) := by
  obtain ⟨f, fd, M, F, b⟩ := D.ex
  exact pe_make M F hr hg D.m b .nil passL ha hdb he hpl
theorem pe_mkU (D : MkX X.prog X.w X.K X.mg X.base k x ps C sp) (hr : Room (k + 1) X.A) (tk : Takes X W) (ha : PA X (e :: es) t) (hg : Gl X x := by rfl) (hdb : (x == ("__debug__" : Str)) = false := by decide)
    (he : starEach (e :: es) X.env = (false, eval e X.env) :: starEach es X.env := by rfl) (hpl : (backTo pos (starEach es X.env)).any (·.1) = false := by rfl) : PE X (.Call (.Name x p) (e :: es) [] pos) (tMakeU C sp W t) := by
  obtain ⟨f, fd, M, F, hb⟩ := D.ex
  refine ⟨fun pins s σ H Q I h => ?_⟩
  refine wpAny_Call_Name_kw (ld_glob I hg D.m ?_ hdb)
  refine PySem.W.callWith_K (h₀ := X.base) I.ok.mod.kin M.kp (thn (ha.run pos pins s σ H _ I h) fun us s1 ⟨vs, H1, I1, r, q⟩ => ⟨I1.kIn, ?_⟩) he hpl
  have hq := q (s1.heap.objs.size + 1) s1.heap.objs.size (I1.hok.fresh (Nat.le_succ _)) (I1.hok.fresh (Nat.le_refl _)) (Nat.ne_of_lt (Nat.lt_succ_self _))
  have I2 := Inv.made (C := C) I1
  have r2 : Vals (V.ref (s1.heap.objs.size + 1) :: vs) (Value.ref (s1.heap.objs.size + 1) :: us) := .cons rfl r
  have hl : (Value.ref (s1.heap.objs.size + 1) :: us).length = ps.length := by
    have e := r2.length
    rw [F.len _ _ _ _ hq] at e
    exact e.symm
  have b := hb _ (Value.ref (s1.heap.objs.size + 1) :: us) I2.kIn (by rw [List.append_nil]; exact hl)
  rw [List.append_nil] at b
  refine wpAny_call (make_map (f := f) I1.kIn M.makes M.init (beq_iff_eq.mp M.fn) (codeAny_mono (F.run _ X.stack _ _ ⟨Value.ref (s1.heap.objs.size + 1) :: us, []⟩ (Value.ref (s1.heap.objs.size + 1) :: us) _ _ (WE W σ) (hr.make C us [])
    (I2.env0.make C us []) b r2 hq) fun r s' hq' => ?_))
  cases r with
  | error e => exact passAt tk σ pins _ _ e s' I2 hq'
  | ok fl =>
    cases fl with
    | ret u =>
      obtain ⟨v, H', I3, rv, ev, q3⟩ := I2.after hq'
      subst ev
      exact ⟨rv, ⟨V.ref (s1.heap.objs.size + 1), H', I3, rfl, q3⟩⟩
    | next => exact False.elim hq'
    | brk => exact False.elim hq'
    | cont => exact False.elim hq'
theorem run_inS {A : Around} {f : Addr} {fd : FuncData} {Q : VK} {E : XK} {us : List Value} {vs : List V} (F : FnOk X.prog X.w X.K X.mg X.base (L2.CX X.prog X.w) k f fd ps sp) (hr : Room k A) (e0 : Env0 X.prog X.w X.K X.mg X.base A X.stack s H) (hb : Binds X.K fd ps []) (hx : PassesAt (L2.CX X.prog X.w) X σ E)
    (I : Inv X pins σ H s) (r : Vals vs us) (h : sp vs H Q E) : wpAny (model X.prog X.w) A (call (.ref f) us) (EP X pins σ Q) X.xe s := by
  have hl : us.length = ps.length := by rw [← r.length]; exact F.len _ _ _ _ h
  have b : BindsTo s fd ⟨us, []⟩ (ps.zip us) := by
    have := hb s us I.kIn (by rw [List.append_nil]; exact hl)
    rwa [List.append_nil] at this
  refine wpAny_call (codeAny_mono (F.run A X.stack s H ⟨us, []⟩ us vs Q E hr e0 b r h) ?_)
  rintro (e | fl) s' hq
  · exact hx pins H s e s' I hq
  · cases fl with
    | ret u => exact I.after hq
    | next => exact False.elim hq
    | brk => exact False.elim hq
    | cont => exact False.elim hq
theorem pe_getX (D : DunX X.prog X.w X.K X.mg X.base k C "__getitem__" ps sp) (hr : Room (k + 1) X.A) (ho : PE X o to) (hi : PE X i ti)
    (hsl : ∀ x y, subscripted i true x y = runValue (.builtin "lifetime.subscript" ⟨[x, y], []⟩) := by intro _ _; with_unfolding_all rfl) : PE X (.Subscript o i pos) (tGetO C sp E0 to ti) := pe_getO D hr passL ho hi hsl
theorem pe_getU (D : DunX X.prog X.w X.K X.mg X.base k C "__getitem__" ps sp) (hr : Room (k + 1) X.A) (tk : Takes X W) (ho : PE X o to) (hi : PE X i ti)
    (hsl : ∀ x y, subscripted i true x y = runValue (.builtin "lifetime.subscript" ⟨[x, y], []⟩) := by intro _ _; with_unfolding_all rfl) : PE X (.Subscript o i pos) (tGetU C sp W to ti) := by
  refine ⟨fun pins s σ H Q I h => Subscript_ (binT ho hi I h ?_)⟩
  intro v u s2 x y H2 I2 rx ry ⟨a, dx, fs, ex, ea, q⟩
  subst ex
  obtain rfl : v = Value.ref a := rx
  obtain ⟨f, fd, at_, hf, hfi, F, hb⟩ := D.ex
  obtain ⟨od, J⟩ := inst_at I2 ea
  obtain ⟨m, hF⟩ := I2.fr
  exact PySem.W.sub_K hF I2.ok.mod.kin J at_ hfi hf (run_inS F hr.in1 I2.env0.in1 hb (passAt tk σ) I2 (.cons (vref a) (.cons ry .nil)) q) (hsl _ _)
end
end EX
set_option Elab.async false
set_option linter.all false
set_option maxRecDepth 100000
set_option maxHeartbeats 4000000
/-! len(set(x)): a list or a tuple of texts, some maybe twice -/
namespace EX
open PySem PySem.Spec PyProof.Rows SS L2
/-- how many of r are new, those before being seen -/
def dn : List Str → List Str → Nat
  | _, [] => 0
  | seen, x :: r => (if decide (x ∈ seen) = true then 0 else 1) + dn (seen ++ [x]) r
theorem dn_le : ∀ (r seen : List Str), dn seen r ≤ r.length
  | [], _ => Nat.zero_le _
  | x :: r, seen => by
    have := dn_le r (seen ++ [x])
    unfold dn
    rw [List.length_cons]
    split <;> omega
theorem dn_nodup : ∀ (r seen : List Str), r.Nodup → (∀ x ∈ r, x ∉ seen) → dn seen r = r.length
  | [], _, _, _ => rfl
  | x :: r, seen, nd, h => by
    obtain ⟨h1, h2⟩ := List.nodup_cons.mp nd
    have ih := dn_nodup r (seen ++ [x]) h2 fun y hy hz => by
      rcases List.mem_append.mp hz with z | z
      · exact h y (.tail _ hy) z
      · rw [List.mem_singleton.mp z] at hy
        exact h1 hy
    unfold dn
    rw [if_neg (by simpa using h x (.head _)), ih, List.length_cons]
    omega
theorem dn_eq : ∀ (r seen : List Str), dn seen r = r.length → r.Nodup ∧ ∀ x ∈ r, x ∉ seen
  | [], _, _ => ⟨List.nodup_nil, fun _ h => nomatch h⟩
  | x :: r, seen, h => by
    have hle := dn_le r (seen ++ [x])
    unfold dn at h
    rw [List.length_cons] at h
    by_cases hx : x ∈ seen
    · rw [if_pos (decide_eq_true hx)] at h
      omega
    · rw [if_neg (by simpa using hx)] at h
      obtain ⟨h1, h2⟩ := dn_eq r (seen ++ [x]) (by omega)
      refine ⟨List.nodup_cons.mpr ⟨fun z => h2 x z (by simp), h1⟩, fun y hy => ?_⟩
      rcases List.mem_cons.mp hy with rfl | hy
      · exact hx
      · exact fun z => h2 y hy (List.mem_append_left _ z)
section
variable {P : Program} {w : World} {A : Around} {E : Value → Shared → Prop} {s : Shared}
theorem set_update_strs {I : Addr} {fp wr : List Addr} {G : Array GenState → Array GenState → Prop} {n : Nat} {Pv : Nat → Value → Prop} {St : Nat → Shared → Prop} {R : Result → Shared → Prop}
    (W : WalksS P w A.in1 I fp wr G n Pv St) (S : Addr) (hSf : S ∉ fp) (xs : List Str) (hn : n = xs.length) (hb : n + 1 < scanBound) (hval : ∀ i v, Pv i v → ∃ k t, xs[i]? = some k ∧ v = .str k t) :
    ∀ (k i c : Nat) (s : Shared), n - i = k → i ≤ n → c ≤ i → St i s → s.heap.SetOf (PySem.strKind P w) S (fun j => decide (j ∈ xs.take i)) c →
      (∀ s', Moved (S :: wr) G s s' → s'.heap.SetOf (PySem.strKind P w) S (fun j => decide (j ∈ xs)) (c + dn (xs.take i) (xs.drop i)) → R (.ok (.ret .none)) s') →
      codeAny (model P w) A (.builtin "set.update.loop" ⟨[.ref S, .ref I], []⟩) R s := by
  have hSw : S ∉ wr := fun h => hSf (W.sub _ h)
  have hsub : ∀ b ∈ wr, b ∈ S :: wr := fun b hb => List.mem_cons_of_mem _ hb
  have at_ : ∀ {h h' : Heap} {S' : Str → Bool} {c : Nat}, h.SetOf (PySem.strKind P w) S S' c → (∀ o, h.get? S = some o → h'.get? S = some o) → h'.SetOf (PySem.strKind P w) S S' c := fun hS k => by
    obtain ⟨o, es, ep, t, ho, rest⟩ := hS
    exact ⟨o, es, ep, t, k _ ho, rest⟩
  intro k
  induction k with
  | zero =>
    intro i c s hk' hi hci hst hS hR
    have hin : i = n := by omega
    subst hin
    refine codeAny_builtin F.entry_set_update_loop ?_
    rw [Around.under_plainId F.plain_set_update_loop _]
    show wpAny _ A.in1 (pyNext (.ref I) >>= _) _ _ s
    refine wpAny_bind (W.done s _ _ hst fun s' hm => ?_)
    show wpAny _ A.in1 (ret Value.none) _ _ s'
    have e : xs.take i = xs := List.take_of_length_le (by omega)
    have e2 : xs.drop i = [] := List.drop_of_length_le (by omega)
    rw [e] at hS
    refine wpAny_pure (hR s' (hm.mono hsub) (at_ ?_ fun o e => hm.heap S o hSw e))
    rw [e2]
    exact hS
  | succ k ih =>
    intro i c s hk' hi hci hst hS hR
    have hlt : i < n := by omega
    refine codeAny_builtin F.entry_set_update_loop ?_
    rw [Around.under_plainId F.plain_set_update_loop _]
    show wpAny _ A.in1 (pyNext (.ref I) >>= _) _ _ s
    refine wpAny_bind (W.item i s _ _ hlt hst fun v s' hP hst' hm => ?_)
    obtain ⟨z, t, hz, rfl⟩ := hval i v hP
    have hS' := at_ hS fun o e => hm.heap S o hSw e
    show wpAny _ A.in1 (holding [Value.str z t] (setAdd S (.str z t)) >>= _) _ _ s'
    refine wpAny_bind (wpAny_holding ?_)
    unfold setAdd
    refine wpAny_holding ?_
    refine wpAny_bind ((PySem.strKind P w).pyHash (k := z) (strKind_is _ _ _ _) ?_)
    refine wpAny_setAddHashed_of (knd := PySem.strKind P w) (s := { s' with toks := s'.toks + 1 }) (strKind_is _ _ _ _) rfl hS' (by omega) fun h' hsb hS2 => ?_
    have hd : xs.drop i = z :: xs.drop (i + 1) := by
      obtain ⟨hl, e⟩ := List.getElem?_eq_some_iff.mp hz
      rw [← e]
      exact List.drop_eq_getElem_cons hl
    have ht : xs.take (i + 1) = xs.take i ++ [z] := by
      rw [List.take_add_one, hz]
      rfl
    have hS3 : h'.SetOf (PySem.strKind P w) S (fun j => decide (j ∈ xs.take (i + 1))) (if decide (z ∈ xs.take i) = true then c else c + 1) := SetOf_congr hS2 (fun j => by
      rw [ht]
      simp [List.mem_append]) rfl
    have hfin : (if decide (z ∈ xs.take i) = true then c else c + 1) + dn (xs.take (i + 1)) (xs.drop (i + 1)) = c + dn (xs.take i) (xs.drop i) := by
      rw [hd, ht]
      show _ = c + ((if decide (z ∈ xs.take i) = true then 0 else 1) + dn (xs.take i ++ [z]) (xs.drop (i + 1)))
      split <;> omega
    refine wpAny_pure ⟨plainId_quiet F.plain_set_update_loop _, ih (i + 1) _ _ (by omega) hlt (by split <;> omega) (W.frame _ s' _ _ hst' (Nat.le_succ _) fun b hb o e => ?_) hS3 fun s'' hm'' hS'' => ?_⟩
    · rw [hsb.2 b (fun h : b = S => hSf (by rw [← h]; exact hb))]; exact e
    · rw [hfin] at hS''
      refine hR s'' (Moved.trans W.gtrans ((hm.mono hsub).then_heap (Nat.le_succ _) fun b o hb e => ?_) hm'') hS''
      rw [hsb.2 b (fun h : b = S => hb (by rw [h]; exact List.mem_cons_self))]; exact e
set_option maxHeartbeats 8000000 in
theorem call_set_strL {l : Addr} {items : Array Value} {xs : List Str} {Q : Value → Shared → Prop} (hh : A.handled = none) (hl : s.heap.IsList l items) (hi : StrsAre items.toList xs) (hb : xs.length + 1 < scanBound)
    (h : ∀ (h' : Heap) (tk : Nat), h'.SetOf (PySem.strKind P w) s.heap.objs.size (fun j => decide (j ∈ xs)) (dn [] xs) → (∀ b o, s.heap.get? b = some o → h'.get? b = some o) → Q (.ref s.heap.objs.size) { s with heap := h', toks := tk }) :
    wpAny (model P w) A (call (.type "set") [.ref l]) Q E s := by
  have hsz : items.size = xs.length := by rw [← StrsAre.len_eq hi, Array.length_toList]
  obtain ⟨c, tl, hmro⟩ := F.called_set.mro
  have hmade := F.called_set.made
  have hsub := F.called_set.sub
  refine wpAny_call (codeAny_of_tree ?_)
  show wpAny _ _ (callAny (.type "set") _) _ _ _
  refine wpAny_pure ⟨Code.quiet_builtin _ (by decide +kernel), codeAny_builtin F.entry_type_call ?_⟩
  rw [Around.under_plain (weight_type_call_type "set" [.ref l] []) rfl]
  have h1 := F.called_set.notType
  have h2 := F.called_set.canCreate
  have hct := F.typeCall_set_1 (.ref l)
  repeat (any_goals (first | assumption | wp_step))

  refine codeAny_mono (code_set_new_1 (.ref l) (E := E) (Q₁ := fun obj s₁ => ∃ led : Bool, obj = .ref s.heap.objs.size ∧ s₁ = { s with heap := s.heap.push { cls := .type "set", dict := none, data := .set #[] 0 (.fresh 0 0 led) } }) fun led => ⟨led, rfl, rfl⟩) fun r s₁ hr => ?_
  cases r with
  | error e => exact hr
  | ok fl =>
    cases fl with
    | ret obj =>
      obtain ⟨led, rfl, rfl⟩ := hr
      have hS : (s.heap.push { cls := .type "set", dict := none, data := .set #[] 0 (.fresh 0 0 led) }).get? s.heap.objs.size = some { cls := .type "set", dict := none, data := .set #[] 0 (.fresh 0 0 led) } := Heap.get?_push_size _ rfl
      have hT : Shared.TypeIs { s with heap := s.heap.push { cls := .type "set", dict := none, data := .set #[] 0 (.fresh 0 0 led) } } (.ref s.heap.objs.size) "set" := ⟨_, hS, rfl⟩
      have hli := F.called_set.init.lookup
      have hbi := F.called_set.init.bind (.ref s.heap.objs.size)
      repeat (any_goals (first | assumption | wp_step))

      refine codeAny_mono (codeAny_call_builtin (R := wants (fun r s₂ => r = .none ∧ ∃ h' tk, s₂ = { s with heap := h', toks := tk } ∧
          h'.SetOf (PySem.strKind P w) s.heap.objs.size (fun j => decide (j ∈ xs)) (dn [] xs) ∧ (∀ b o, s.heap.get? b = some o → h'.get? b = some o)) E) F.called_set.init.plain F.entry_set_init (check_set_init_1 hT ?_)) fun r₂ s₂ hr₂ => ?_
      · obtain ⟨ol, hol, hcl, nl, hdl⟩ := hl
        obtain ⟨ocls, odict, odata, oslots⟩ := ol
        simp only at hcl hdl
        subst hcl; subst hdl
        have hol' : (s.heap.push { cls := .type "set", dict := none, data := .set #[] 0 (.fresh 0 0 led) }).get? l = some { cls := .type "list", dict := odict, data := .seq items nl, slots := oslots } := Heap.get?_push_of_some _ hol
        have hsls := F.sub_list_set
        have hslf := F.sub_list_frozenset
        have hne : (Value.type "list" == Value.type "dict") = false := by decide
        have hl1 : (s.heap.push { cls := .type "set", dict := none, data := .set #[] 0 (.fresh 0 0 led) }).IsList l items := ⟨_, hol', rfl, nl, rfl⟩
        unfold Builtin.«set.__init__» noKeywords Builtin.Frozenset.updateFrom
        generalize hPI : pyIter = PI
        wp_walk
        subst hPI
        refine wpAny_pyIter_list hl1 ?_
        refine wpAny_bind (wpAny_runValue ?_)
        have hlS : l < s.heap.objs.size := Heap.lt_size hol
        have hh3 : A.in1.in1.in1.handled = none := by simp [hh]
        have hneI : l ≠ (s.heap.push { cls := .type "set", dict := none, data := .set #[] 0 (.fresh 0 0 led) }).objs.size := by
          rw [Heap.size_push]; exact Nat.ne_of_lt (Nat.lt_succ_of_lt hlS)
        have hSf : s.heap.objs.size ∉ [(s.heap.push { cls := .type "set", dict := none, data := .set #[] 0 (.fresh 0 0 led) }).objs.size, l] := by
          rw [Heap.size_push]; simp only [List.mem_cons, List.mem_singleton, List.not_mem_nil, or_false, not_or]
          exact ⟨Nat.ne_of_lt (Nat.lt_succ_self _), Nat.ne_of_gt hlS⟩
        have hval : ∀ (i : Nat) (v : Value), items[i]? = some v → ∃ k t, xs[i]? = some k ∧ v = .str k t := fun i v hv => by
          have hi2 : i < xs.length := by rw [← hsz]; exact (Array.getElem?_eq_some_iff.mp hv).1
          obtain ⟨t, e⟩ := strs_at hi i v (by rw [Array.getElem?_toList]; exact hv)
          refine ⟨xs[i], t, List.getElem?_eq_getElem hi2, ?_⟩
          rw [e, List.getD_eq_getElem?_getD, List.getElem?_eq_getElem hi2] <;> rfl
        refine set_update_strs ((Walks.list hh3 _ l hneI items).toS) s.heap.objs.size hSf xs hsz (by rw [hsz]; exact hb) hval (items.size - 0) 0 0 _ (by omega) (Nat.zero_le _) (Nat.le_refl _)
          ⟨⟨_, Heap.get?_push_size _ rfl, rfl, rfl⟩, (hl1.push _)⟩ ?hS0 ?hR
        case hS0 =>
          have hget : ((s.heap.push { cls := .type "set", dict := none, data := .set #[] 0 (.fresh 0 0 led) }).push { cls := .type "list_iterator", data := .fields #[.ref l, .int 0 0] }).get? s.heap.objs.size
              = some { cls := .type "set", dict := none, data := .set #[] 0 (.fresh 0 0 led) } := Heap.get?_push_of_some _ hS
          exact SetOf_congr ((setObjOf_fresh (knd := PySem.strKind P w) led).setOf hget (by unfold scanBound; omega)) (fun j => by simp) rfl
        case hR =>
          intro s' hm hS'
          obtain ⟨h', g', d', tk', os'⟩ := s'
          have eg : g' = s.gens := hm.gens
          have ed : d' = s.drawn := hm.drawn
          have eo : os' = s.os := hm.os
          subst eg; subst ed; subst eo
          show wpAny _ _ _ _ _ _
          refine wpAny_pure ?_
          show wpAny _ _ (ret Value.none) _ _ _
          rw [List.take_zero, List.drop_zero, Nat.zero_add] at hS'
          refine wpAny_pure ⟨rfl, h', tk', rfl, hS', fun b o e => ?_⟩
          have hb0 : b < s.heap.objs.size := Heap.lt_size e
          have hb1 : b ≠ s.heap.objs.size := Nat.ne_of_lt hb0
          have hb2 : b ≠ (s.heap.push { cls := .type "set", dict := none, data := .set #[] 0 (.fresh 0 0 led) }).objs.size := by
            rw [Heap.size_push]; exact Nat.ne_of_lt (Nat.lt_succ_of_lt hb0)
          exact hm.heap b o (by simp only [List.mem_cons, List.mem_singleton, List.not_mem_nil, or_false, not_or]; exact ⟨hb1, hb2⟩) (Heap.get?_push_of_some _ (Heap.get?_push_of_some _ e))
      · cases r₂ with
        | error e => exact hr₂
        | ok fl₂ =>
          cases fl₂ with
          | ret r =>
            obtain ⟨rfl, h', tk, rfl, hS', hk'⟩ := hr₂
            repeat (any_goals (first | assumption | wp_step))
            exact h _ _ hS' hk'
          | _ => exact hr₂.elim
    | _ => exact hr.elim
set_option maxHeartbeats 8000000 in
theorem call_set_strT {l : Addr} {items : Array Value} {xs : List Str} {Q : Value → Shared → Prop} (hh : A.handled = none) (hl : s.heap.IsTuple l items) (hi : StrsAre items.toList xs) (hb : xs.length + 1 < scanBound)
    (h : ∀ (h' : Heap) (tk : Nat), h'.SetOf (PySem.strKind P w) s.heap.objs.size (fun j => decide (j ∈ xs)) (dn [] xs) → (∀ b o, s.heap.get? b = some o → h'.get? b = some o) → Q (.ref s.heap.objs.size) { s with heap := h', toks := tk }) :
    wpAny (model P w) A (call (.type "set") [.ref l]) Q E s := by
  have hsz : items.size = xs.length := by rw [← StrsAre.len_eq hi, Array.length_toList]
  obtain ⟨c, tl, hmro⟩ := F.called_set.mro
  have hmade := F.called_set.made
  have hsub := F.called_set.sub
  refine wpAny_call (codeAny_of_tree ?_)
  show wpAny _ _ (callAny (.type "set") _) _ _ _
  refine wpAny_pure ⟨Code.quiet_builtin _ (by decide +kernel), codeAny_builtin F.entry_type_call ?_⟩
  rw [Around.under_plain (weight_type_call_type "set" [.ref l] []) rfl]
  have h1 := F.called_set.notType
  have h2 := F.called_set.canCreate
  have hct := F.typeCall_set_1 (.ref l)
  repeat (any_goals (first | assumption | wp_step))

  refine codeAny_mono (code_set_new_1 (.ref l) (E := E) (Q₁ := fun obj s₁ => ∃ led : Bool, obj = .ref s.heap.objs.size ∧ s₁ = { s with heap := s.heap.push { cls := .type "set", dict := none, data := .set #[] 0 (.fresh 0 0 led) } }) fun led => ⟨led, rfl, rfl⟩) fun r s₁ hr => ?_
  cases r with
  | error e => exact hr
  | ok fl =>
    cases fl with
    | ret obj =>
      obtain ⟨led, rfl, rfl⟩ := hr
      have hS : (s.heap.push { cls := .type "set", dict := none, data := .set #[] 0 (.fresh 0 0 led) }).get? s.heap.objs.size = some { cls := .type "set", dict := none, data := .set #[] 0 (.fresh 0 0 led) } := Heap.get?_push_size _ rfl
      have hT : Shared.TypeIs { s with heap := s.heap.push { cls := .type "set", dict := none, data := .set #[] 0 (.fresh 0 0 led) } } (.ref s.heap.objs.size) "set" := ⟨_, hS, rfl⟩
      have hli := F.called_set.init.lookup
      have hbi := F.called_set.init.bind (.ref s.heap.objs.size)
      repeat (any_goals (first | assumption | wp_step))

      refine codeAny_mono (codeAny_call_builtin (R := wants (fun r s₂ => r = .none ∧ ∃ h' tk, s₂ = { s with heap := h', toks := tk } ∧
          h'.SetOf (PySem.strKind P w) s.heap.objs.size (fun j => decide (j ∈ xs)) (dn [] xs) ∧ (∀ b o, s.heap.get? b = some o → h'.get? b = some o)) E) F.called_set.init.plain F.entry_set_init (check_set_init_1 hT ?_)) fun r₂ s₂ hr₂ => ?_
      · obtain ⟨ol, hol, hcl, nl, hdl⟩ := hl
        obtain ⟨ocls, odict, odata, oslots⟩ := ol
        simp only at hcl hdl
        subst hcl; subst hdl
        have hol' : (s.heap.push { cls := .type "set", dict := none, data := .set #[] 0 (.fresh 0 0 led) }).get? l = some { cls := .type "tuple", dict := odict, data := .seq items nl, slots := oslots } := Heap.get?_push_of_some _ hol
        have hsls := F.sub_tuple_set
        have hslf := F.sub_tuple_frozenset
        have hne : (Value.type "tuple" == Value.type "dict") = false := by decide
        have hl1 : (s.heap.push { cls := .type "set", dict := none, data := .set #[] 0 (.fresh 0 0 led) }).IsTuple l items := ⟨_, hol', rfl, nl, rfl⟩
        unfold Builtin.«set.__init__» noKeywords Builtin.Frozenset.updateFrom
        generalize hPI : pyIter = PI
        wp_walk
        subst hPI
        refine wpAny_pyIter_tuple hl1 ?_
        refine wpAny_bind (wpAny_runValue ?_)
        have hlS : l < s.heap.objs.size := Heap.lt_size hol
        have hh3 : A.in1.in1.in1.handled = none := by simp [hh]
        have hneI : l ≠ (s.heap.push { cls := .type "set", dict := none, data := .set #[] 0 (.fresh 0 0 led) }).objs.size := by
          rw [Heap.size_push]; exact Nat.ne_of_lt (Nat.lt_succ_of_lt hlS)
        have hSf : s.heap.objs.size ∉ [(s.heap.push { cls := .type "set", dict := none, data := .set #[] 0 (.fresh 0 0 led) }).objs.size, l] := by
          rw [Heap.size_push]; simp only [List.mem_cons, List.mem_singleton, List.not_mem_nil, or_false, not_or]
          exact ⟨Nat.ne_of_lt (Nat.lt_succ_self _), Nat.ne_of_gt hlS⟩
        have hval : ∀ (i : Nat) (v : Value), items[i]? = some v → ∃ k t, xs[i]? = some k ∧ v = .str k t := fun i v hv => by
          have hi2 : i < xs.length := by rw [← hsz]; exact (Array.getElem?_eq_some_iff.mp hv).1
          obtain ⟨t, e⟩ := strs_at hi i v (by rw [Array.getElem?_toList]; exact hv)
          refine ⟨xs[i], t, List.getElem?_eq_getElem hi2, ?_⟩
          rw [e, List.getD_eq_getElem?_getD, List.getElem?_eq_getElem hi2] <;> rfl
        refine set_update_strs ((Walks.tuple hh3 _ l hneI items).toS) s.heap.objs.size hSf xs hsz (by rw [hsz]; exact hb) hval (items.size - 0) 0 0 _ (by omega) (Nat.zero_le _) (Nat.le_refl _)
          ⟨⟨_, Heap.get?_push_size _ rfl, rfl, rfl⟩, (hl1.push _)⟩ ?hS0 ?hR
        case hS0 =>
          have hget : ((s.heap.push { cls := .type "set", dict := none, data := .set #[] 0 (.fresh 0 0 led) }).push { cls := .type "tuple_iterator", data := .fields #[.ref l, .int 0 0] }).get? s.heap.objs.size
              = some { cls := .type "set", dict := none, data := .set #[] 0 (.fresh 0 0 led) } := Heap.get?_push_of_some _ hS
          exact SetOf_congr ((setObjOf_fresh (knd := PySem.strKind P w) led).setOf hget (by unfold scanBound; omega)) (fun j => by simp) rfl
        case hR =>
          intro s' hm hS'
          obtain ⟨h', g', d', tk', os'⟩ := s'
          have eg : g' = s.gens := hm.gens
          have ed : d' = s.drawn := hm.drawn
          have eo : os' = s.os := hm.os
          subst eg; subst ed; subst eo
          show wpAny _ _ _ _ _ _
          refine wpAny_pure ?_
          show wpAny _ _ (ret Value.none) _ _ _
          rw [List.take_zero, List.drop_zero, Nat.zero_add] at hS'
          refine wpAny_pure ⟨rfl, h', tk', rfl, hS', fun b o e => ?_⟩
          have hb0 : b < s.heap.objs.size := Heap.lt_size e
          have hb1 : b ≠ s.heap.objs.size := Nat.ne_of_lt hb0
          have hb2 : b ≠ (s.heap.push { cls := .type "set", dict := none, data := .set #[] 0 (.fresh 0 0 led) }).objs.size := by
            rw [Heap.size_push]; exact Nat.ne_of_lt (Nat.lt_succ_of_lt hb0)
          exact hm.heap b o (by simp only [List.mem_cons, List.mem_singleton, List.not_mem_nil, or_false, not_or]; exact ⟨hb1, hb2⟩) (Heap.get?_push_of_some _ (Heap.get?_push_of_some _ e))
      · cases r₂ with
        | error e => exact hr₂
        | ok fl₂ =>
          cases fl₂ with
          | ret r =>
            obtain ⟨rfl, h', tk, rfl, hS', hk'⟩ := hr₂
            repeat (any_goals (first | assumption | wp_step))
            exact h _ _ hS' hk'
          | _ => exact hr₂.elim
    | _ => exact hr.elim
end
section
variable {X : Cx}
def tLenSetS (K : PySem.W.Frag) (ta : TE) : TE := fun σ H Q => ta σ H fun x H1 => ∃ (l : Addr) (xs : List Str), x = .ref l ∧ (SqL K H1 l (xs.map V.str) ∨ SqT K H1 l (xs.map V.str)) ∧ xs.length ≤ 4000 ∧ Q (.int (dn [] xs : Nat)) H1
theorem pe_lenSetS {a : Expr} {ta : TE} {p p2 q pos : Pos} (hc : X.calm = true) (hg : Gl X "len") (hm : X.mg "len" = none) (hg2 : Gl X "set") (hm2 : X.mg "set" = none) (ha : PE X a ta)
    (na : starEach [a] X.env = (false, eval a X.env) :: starEach [] X.env := by rfl) : PE X (.Call (.Name "len" p) [.Call (.Name "set" p2) [a] [] q] [] pos) (tLenSetS X.K ta) := by
  refine ⟨fun pins s σ H Q I h => ?_⟩
  refine Call_ (ld_blt I hg hm boot_len ?_)
  refine PyProof.Rows.callWith_builtin1 (PyProof.Rows.args_cons ?_ rfl) rfl rfl
  refine Call_ (ld_blt I hg2 hm2 PyProof.Rows.boot_set ?_)
  refine PyProof.Rows.callWith_type1 (PyProof.Rows.args_cons (thn (ha.run pins s σ H _ I h) fun v s1 ⟨x, H1, I1, r1, q1⟩ => PyProof.Rows.args_nil ?_) na) na rfl
  obtain ⟨l, xs, rfl, hq, h1, q1⟩ := q1
  cases r1
  have hle := dn_le xs []
  have hb : xs.length + 1 < scanBound := by
    unfold scanBound
    omega
  have fin : ∀ (h' : Heap) (tk : Nat), h'.SetOf (PySem.strKind X.prog X.w) s1.heap.objs.size (fun j => decide (j ∈ xs)) (dn [] xs) → (∀ b o, s1.heap.get? b = some o → h'.get? b = some o) →
      wpAny (model X.prog X.w) X.A (spliced (backTo pos (starEach [] X.env))) (fun vs s₂ => wpAny (model X.prog X.w) X.A (call (.builtin "len") (Value.ref s1.heap.objs.size :: vs)) (EP X pins σ Q) X.xe s₂) X.xe { s1 with heap := h', toks := tk } := fun h' tk hS hk => by
    refine PyProof.Rows.args_nil ?_
    obtain ⟨o, es, ep, t, ho, hex, hd, _, _, _, hf, hn⟩ := hS
    have I2 : Inv X pins σ H1 { s1 with heap := h', toks := tk } := I1.kept fun b o e => hk b o e
    exact call_len_set ho hex hd hf (by rw [hn]; omega) ⟨.int (dn [] xs : Nat), H1, I2.tok _, ⟨_, by rw [hn]⟩, q1⟩
  rcases hq with hq | hq
  · obtain ⟨its, r, pl, hz⟩ := I1.list hq
    exact call_set_strL (I1.ok.hd hc) pl.isList (by simpa using strsAre_of r) hb fin
  · obtain ⟨its, r, pl, hz⟩ := I1.tuple hq
    exact call_set_strT (I1.ok.hd hc) pl (by simpa using strsAre_of r) hb fin
end
end EX
set_option Elab.async false
set_option linter.all false
set_option maxRecDepth 100000
set_option maxHeartbeats 1000000
/-! yield from a list -/
namespace EX
open PySem PySem.Spec PyProof.Rows GenW L2
section
variable {prog : Program} {w : World} {A : Around} {E : Value → Shared → Prop} {s : Shared}
theorem special_lst_item {it t : Addr} {i : Nat} {items : Array Value} {x : Value} {Q : Option Value → Shared → Prop} (hit : s.heap.IsListIter it t i) (ht : s.heap.IsList t items) (hx : items[i]? = some x)
    (hQ : ∀ h', Heap.IsListIter h' it t (i + 1) → Heap.SameBut it s.heap h' → Q (some x) { s with heap := h' }) : wpAny (model prog w) A (callSpecial? (.ref it) "__next__") Q E s := by
  obtain ⟨o, ho, hc, hd⟩ := id hit
  obtain ⟨ol, hol, _, nl, hdl⟩ := ht
  refine wpAny_callSpecial?_slot (name := Str.ofString "__next__") hit.typeIs slot_listiter_next (wpAny_call_entry slot_listiter_next hit.typeIs entry_listiter_next ?_ (args_listiter_next _))
  show wpAny _ _ (field (.ref it) 0 >>= _) _ _ s
  refine wpAny_bind (wpAny_field ho hd (x := .ref t) rfl ?_)
  show wpAny _ _ (if (Value.ref t == Value.none) = true then _ else _) _ _ s
  rw [if_neg (show ¬ ((Value.ref t == Value.none) = true) from Bool.false_ne_true)]
  show wpAny _ _ (field (.ref it) 1 >>= _) _ _ s
  refine wpAny_bind (wpAny_field ho hd (x := .int i 0) rfl ?_)
  show wpAny _ _ (seqItems? (.ref t) >>= _) _ _ s
  refine wpAny_bind (wpAny_seqItems hol hdl ?_)
  simp only [Int.toNat_natCast, hx]
  refine wpAny_bind (wpAny_setField ho hd (by simp) (wpAny_pure ⟨x, rfl, hQ _ ?_ (Heap.SameBut.update ..)⟩))
  exact ⟨_, Heap.get?_update_self _ ho (Obj.isFreed_of_fields (Obj.data_mapFields hd _)), (Obj.cls_mapFields ..).trans hc, by
    rw [Obj.data_mapFields hd]; simp [rawInt]⟩
theorem special_lst_end {it t : Addr} {i : Nat} {items : Array Value} {Q : Option Value → Shared → Prop} (hh : A.handled = none) (hit : s.heap.IsListIter it t i) (ht : s.heap.IsList t items) (hx : items[i]? = none)
    (hE : ∀ e h', StopX e h' → Heap.ExtBut it s.heap h' → E e { s with heap := h' }) : wpAny (model prog w) A (callSpecial? (.ref it) "__next__") Q E s := by
  obtain ⟨o, ho, hc, hd⟩ := id hit
  obtain ⟨ol, hol, _, nl, hdl⟩ := ht
  refine wpAny_callSpecial?_slot (name := Str.ofString "__next__") hit.typeIs slot_listiter_next (wpAny_call_entry slot_listiter_next hit.typeIs entry_listiter_next ?_ (args_listiter_next _))
  show wpAny _ _ (field (.ref it) 0 >>= _) _ _ s
  refine wpAny_bind (wpAny_field ho hd (x := .ref t) rfl ?_)
  show wpAny _ _ (if (Value.ref t == Value.none) = true then _ else _) _ _ s
  rw [if_neg (show ¬ ((Value.ref t == Value.none) = true) from Bool.false_ne_true)]
  show wpAny _ _ (field (.ref it) 1 >>= _) _ _ s
  refine wpAny_bind (wpAny_field ho hd (x := .int i 0) rfl ?_)
  show wpAny _ _ (seqItems? (.ref t) >>= _) _ _ s
  refine wpAny_bind (wpAny_seqItems hol hdl ?_)
  simp only [Int.toNat_natCast, hx]
  refine wpAny_bind (wpAny_rule (wpAny_bind (wpAny_setField ho hd (by simp) ?_)))
  show wpAny _ _ (newExc (.type "StopIteration") [] >>= _) _ _ _
  refine wpAny_bind ?_
  simp only [newExc, newTuple]
  refine wpAny_bind (wpAny_newObj_type ?_ (by size_fits))
  refine wpAny_bind (m := firstArgMember _ _) (wpAny_of_eq (a := Value.none) (by first | rfl | (simp only [firstArgMember]; rfl)) ?_)
  refine wpAny_newObj_type ?_ (by size_fits)
  simp only [raiseNew]
  refine wpAny_bind (wpAny_handled ?_)
  first | rw [show A.in1.handled = none from hh] | rw [hh]
  refine wpAny_bind (wpAny_pure (wpAny_throw ?_))
  refine hE _ _ ⟨_, _, _, rfl, Heap.get?_push_size _ rfl, rfl, rfl, ?_⟩ (((Heap.SameBut.update ..).extBut.push _).push _)
  first
    | rfl
    | (rw [Array.getElem?_append_left (by decide)]; rfl)
    | kernel_rfl
end
section
variable {X : Cx} {e : Expr} {te : TE}
def tYfLst (te : TE) : TYf := fun σ H Q => te σ H fun x H1 => ∃ a xs, x = .ref a ∧ H1 a = some (.lst xs) ∧ Q xs H1
theorem close_lst : typeLookup (.type "list_iterator") "close" = pure none := by rw [typeLookup_type, builtinLookup_eq_fast]; kernel_rfl
theorem yf_lst (he : PE X e te) : YfE X e (tYfLst te) := by
  refine ⟨fun pins s σ H Q I h => ?_⟩
  refine thn (he.run pins s σ H _ I h) fun v s1 ⟨x, H1, I1, r1, a, xs, ex, ha, hq⟩ => ?_
  subst ex
  obtain rfl : v = Value.ref a := r1
  obtain ⟨hlen, its, nn, rits, hta⟩ := I1.hok a _ ha
  have ht : s1.heap.IsList a its.toArray := ⟨_, hta, rfl, _, rfl⟩
  refine ⟨"list", ht.typeIs, by decide, wpAny_pyIter_list ht ?_⟩
  have ksz : ∀ b o, s1.heap.get? b = some o → b ≠ s1.heap.objs.size := fun b o e => Nat.ne_of_lt (Heap.lt_size e)
  have kp : ∀ b o, s1.heap.get? b = some o → (s1.heap.push { cls := .type "list_iterator", data := .fields #[.ref a, .int 0 0] }).get? b = some o := fun b o e => Heap.get?_push_of_some _ e
  refine ⟨s1.heap.objs.size, H1, xs, fun j h => h.IsListIter s1.heap.objs.size a j ∧ h.IsList a its.toArray, rfl, I1.kept (t' := s1.toks) kp, .inr I1.sz, Nat.ne_of_gt I1.lt, fun y c hy => ?_, I1.hok.fresh (Nat.le_refl _), fun p hp => ?_,
    ⟨⟨_, Heap.get?_push_size _ rfl, rfl, rfl⟩, ht.push _⟩, ⟨⟨"list_iterator", fun j h q => ?_, close_lst, by decide⟩, fun j h h' q hk => ?_, fun A' j x s2 Q' E' hA hx q hQ => ?_, fun A' s2 Q' E' hA q hE => ?_⟩, hq⟩
  · obtain ⟨v, o, ho, _⟩ := I1.cell y c hy
    exact ksz c o ho
  · exact ksz p.1 _ (I1.pin p hp).1
  · obtain ⟨⟨o, ho, hc, _⟩, _⟩ := q
    exact ⟨o, ho, hc⟩
  · obtain ⟨⟨o, ho, r⟩, o2, ho2, r2⟩ := q
    exact ⟨⟨o, hk _ o (.inl rfl) ho, r⟩, o2, hk _ o2 (.inr (by rw [ha]; exact fun z => by cases z)) ho2, r2⟩
  · obtain ⟨q1, q2⟩ := q
    obtain ⟨u, hu, ru⟩ := rits.get hx
    have hne : a ≠ s1.heap.objs.size := Nat.ne_of_lt (Heap.lt_size hta)
    exact special_lst_item q1 q2 (x := u) (by simpa using hu) fun h' q1' hs => hQ u h' s2.toks ru ⟨q1', q2.extBut hs.extBut hne⟩ fun b o hb eb => hs.extBut b o hb eb
  · obtain ⟨q1, q2⟩ := q
    have hnone : its.toArray[xs.length]? = none := by
      have e := rits.length
      have e2 : its[xs.length]? = none := List.getElem?_eq_none_iff.mpr (by omega)
      simpa using e2
    exact special_lst_end hA q1 q2 hnone fun e h' hS hk => hE e h' s2.toks hS fun b o hb eb => hk b o hb eb
end
end EX
set_option Elab.async false
set_option maxRecDepth 100000
set_option maxHeartbeats 4000000
namespace K03
open PySem L2
def top (i : Nat) : Stmt := PySem.Challenge.pw_slackcache_k03_known_chains.main.body.getD i (.Pass ⟨0, 0, 0, 0⟩)
abbrev sSource : Stmt := top 65
abbrev sDraw : Stmt := top 66
def M : Int := 2147483647
/-- what a source may hold -/
def SrcOk (x y : Int) : Prop := 0 ≤ x ∧ 0 ≤ y ∧ y < 2147483647
structure TxtC (mg : Str → Option Value) : Prop where
  len : mg "len" = none
  max : mg "max" = none
def spSource (K : PySem.W.Frag) : Sp := fun vs H Q _ => ∃ (a : Addr) (ns : List Int) (j : Nat), vs = [.ref a, .int (j : Int)] ∧ SqL K H a (ns.map V.int) ∧ j ≤ 1000 ∧
  ∀ p x y, H p = none → SrcOk x y → Q (.ref p) (upd H p (.lst [.int x, .int y]))
def spDraw : Sp := fun vs H Q _ => ∃ (p : Addr) (x y n : Int), vs = [.ref p, .int n] ∧ H p = some (.lst [.int x, .int y]) ∧ SrcOk x y ∧ 0 < n ∧ n < 2 ^ 100 ∧
  ∀ x' y' d, SrcOk x' y' → 0 ≤ d → d < n → Q (.int d) (upd H p (.lst [.int x', .int y']))
section
variable {P : Program} {w : World} {K : PySem.W.Frag} {mg : Str → Option Value} {base : Heap}
theorem scS : FnScope ["_law_script", "_law_turn", "_law_cell", "_law_number", "_law_seed"] ["_law_script", "_law_turn"] (defScope sSource) := ⟨rfl, rfl, rfl, by decide +kernel, rfl, by decide +kernel, by decide +kernel⟩
theorem scD : FnScope ["_law_source_here", "_law_amount", "_law_digit"] ["_law_source_here", "_law_amount"] (defScope sDraw) := ⟨rfl, rfl, rfl, by decide +kernel, rfl, by decide +kernel, by decide +kernel⟩
local macro_rules | `(tactic| walk_at "rd") => `(tactic| simp only [tSeq, tAsg, tOp, tC, tVar, tCB, tCons, tNil, tUn, tIfS, tTest, tNext, tRet, tLst, gName, gSub, rI0, rI, rU, L2.start, List.map_cons, List.map_nil, List.length_cons, List.length_nil, Nat.reduceAdd, Nat.reduceSub, List.replicate_succ, List.replicate_zero, List.cons_append, List.nil_append, List.set_cons_zero, List.set_cons_succ, List.getElem?_cons_zero, List.getElem?_cons_succ, Option.some.injEq, exists_eq_left', exists_eq_left, V.int.injEq, V.bl.injEq, V.ref.injEq, List.cons.injEq, and_true, true_and, and_assoc, exists_and_left, exists_eq', exists_const, decide_eq_true_eq, Cx.nox, Cx.wish])
set_option linter.all false
theorem ok_source {f : Addr} {fd : FuncData} (F : Fun K "_law_source" "_law_source" sSource f fd) (T : TxtC mg) : FnOk P w K mg base CX0 1 f fd ["_law_script", "_law_turn"] (spSource K) := by
  refine F.ok scS (fun vs H Q E h => ?_) (fun cdv A outer s H vs Q E hr h => ?_)
  · obtain ⟨a, ns, j, rfl, _⟩ := h
    rfl
  · obtain ⟨a, ns, j, rfl, hS, hj, k⟩ := h
    have hu := hu_of hr
    refine ⟨_, pss_cons (ps_set (i := 2) scS.nd rfl (Or.inl rfl) pe_int)
      (pss_cons (ps_if (pt_cmpR op_lt (pv 1) (pe_callB call_len_seq (by rfl) T.len PySem.boot_len (pa_cons (pv 0) pa_nil)) (nomark _))
         (pss_one (ps_set (i := 2) scS.nd rfl (Or.inl rfl) (pe_ix ix_list (pv 0) (pv 1) (fun _ _ => rfl)))) pss_nil)
      (pss_cons (ps_set (i := 3) scS.nd rfl (Or.inl rfl) (pe_callB (call_max2 rfl) (by rfl) T.max PyProof.Rows.boot_max (pa_cons (pv 2) (pa_cons (pe_op op_sub (pe_un un_neg pe_int) (pv 2)) pa_nil))))
      (pss_cons (ps_set (i := 4) scS.nd rfl (Or.inl rfl) (pe_op op_mod (pe_op op_add (pe_op op_add (pe_op op_mul (pe_op op_mod (pv 3) pe_int) pe_int) (pe_op op_mul pe_int (pv 1))) pe_int) pe_int))
      (pss_cons (ps_if (pt_cmpR op_lt (pv 3) (pe_op op_pow pe_int pe_int) (nomark _)) (pss_one (ps_set (i := 3) scS.nd rfl (Or.inl rfl) pe_int)) pss_nil)
      (pss_one (ps_ret (pe_lst (pa_cons (pv 3) (pa_cons (pv 4) pa_nil))))))))), ?_⟩
    walk_at "rd"
    have fin : ∀ (c : Int) (H1 : Hp), H1 = H →
        0 < (2147483629 : Int) ∧ CMul ((if -1 - c > c then -1 - c else c) % 2147483629) 16807 ∧ CMul 104729 (j : Int) ∧ (0 : Int) < 2147483647 ∧ CPow 10 18 ∧
        if (if -1 - c > c then -1 - c else c) < 10 ^ Int.toNat 18 then
          2 ≤ sizeLine ∧ ∀ p, H1 p = none → Q (V.ref p) (upd H1 p (HO.lst [V.int 0, V.int (((if -1 - c > c then -1 - c else c) % 2147483629 * 16807 + 104729 * (j : Int) + 11) % 2147483647)]))
        else 2 ≤ sizeLine ∧ ∀ p, H1 p = none → Q (V.ref p) (upd H1 p (HO.lst [V.int (if -1 - c > c then -1 - c else c), V.int (((if -1 - c > c then -1 - c else c) % 2147483629 * 16807 + 104729 * (j : Int) + 11) % 2147483647)])) := by
      rintro c H1 rfl
      have hm : 0 ≤ (if -1 - c > c then -1 - c else c) := by split <;> omega
      generalize (if -1 - c > c then -1 - c else c) = m at hm
      refine ⟨by decide, Or.inr ⟨by decide, by decide⟩, Or.inl ⟨by decide, by decide⟩, by decide, ⟨by decide, by decide, by decide⟩, ?_⟩
      have hs0 := Int.emod_nonneg (m % 2147483629 * 16807 + 104729 * (j : Int) + 11) (show (2147483647 : Int) ≠ 0 by decide)
      have hs1 := Int.emod_lt_of_pos (m % 2147483629 * 16807 + 104729 * (j : Int) + 11) (show (0 : Int) < 2147483647 by decide)
      split
      · exact ⟨by decide, fun p hp => k p _ _ hp ⟨by decide, hs0, hs1⟩⟩
      · exact ⟨by decide, fun p hp => k p _ _ hp ⟨hm, hs0, hs1⟩⟩
    refine ⟨_, .inl hS, ?_⟩
    split
    · rename_i hlt
      have hlt' : j < (ns.map V.int).length := by omega
      refine ⟨a, _, _, _, rfl, rfl, hS, atI_nat (List.getElem?_eq_getElem hlt'), ?_⟩
      have e : (ns.map V.int)[j] = V.int (ns[j]'(by simpa using hlt')) := by simp
      rw [e]
      walk_at "rd"
      exact fin _ _ rfl
    · exact fin 0 _ rfl
theorem ok_draw {f : Addr} {fd : FuncData} (F : Fun K "_law_draw" "_law_draw" sDraw f fd) : FnOk P w K mg base CX0 1 f fd ["_law_source_here", "_law_amount"] spDraw := by
  refine F.ok scD (fun vs H Q E h => ?_) (fun cdv A outer s H vs Q E hr h => ?_)
  · obtain ⟨p, x, y, n, rfl, _⟩ := h
    rfl
  · obtain ⟨p, x, y, n, rfl, hL, ⟨hx, hy, hy2⟩, hn, hn2, k⟩ := h
    have hu := hu_of hr
    refine ⟨_, pss_cons (ps_if (pt_cmpR op_gt (pe_ix ix_list (pv 0) pe_int (fun _ _ => rfl)) pe_int (nomark _))
        (pss_cons (ps_set (i := 2) scD.nd rfl (Or.inl rfl) (pe_op op_mod (pe_ix ix_list (pv 0) pe_int (fun _ _ => rfl)) (pv 1)))
        (pss_cons (ps_asg (pe_op op_fdivW (pe_ix ix_list (pv 0) pe_int (fun _ _ => rfl)) (pv 1)) (pg_sub (pv 0) pe_int set_list))
        (pss_one (ps_ret (pv 2))))) pss_nil)
      (pss_cons (ps_asg (pe_op op_mod (pe_op op_add (pe_op op_mul (pe_ix ix_list (pv 0) pe_int (fun _ _ => rfl)) pe_int) pe_int) pe_int) (pg_sub (pv 0) pe_int set_list))
      (pss_one (ps_ret (pe_op op_mod (pe_op op_fdivW (pe_op op_mod (pe_op op_mul (pe_ix ix_list (pv 0) pe_int (fun _ _ => rfl)) (pe_ix ix_list (pv 0) pe_int (fun _ _ => rfl))) pe_int) pe_int) (pv 1))))), ?_⟩
    have hS : SqL K H p [.int x, .int y] := SqL.of hL
    have r0 : ∀ (H' : Hp) (x y : Int) (Q' : V → Hp → Prop), H' p = some (.lst [.int x, .int y]) → Q' (.int x) H' → rIxL K (V.ref p) (V.int 0) H' Q' := fun H' x y Q' h q =>
      ⟨p, _, _, _, rfl, rfl, SqL.of h, atI_nat (j := 0) rfl, q⟩
    have r1 : ∀ (H' : Hp) (x y : Int) (Q' : V → Hp → Prop), H' p = some (.lst [.int x, .int y]) → Q' (.int y) H' → rIxL K (V.ref p) (V.int 1) H' Q' := fun H' x y Q' h q =>
      ⟨p, _, _, _, rfl, rfl, SqL.of h, atI_nat (j := 1) rfl, q⟩
    have w0 : ∀ (H' : Hp) (x y : Int) (v : V) (Q' : Hp → Prop), H' p = some (.lst [.int x, .int y]) → Q' (upd H' p (.lst [v, .int y])) → rSetL (V.ref p) (V.int 0) v H' Q' := fun H' x y v Q' h q =>
      ⟨p, _, _, _, rfl, rfl, h, rfl, q⟩
    have w1 : ∀ (H' : Hp) (x y : Int) (v : V) (Q' : Hp → Prop), H' p = some (.lst [.int x, .int y]) → Q' (upd H' p (.lst [.int x, v])) → rSetL (V.ref p) (V.int 1) v H' Q' := fun H' x y v Q' h q =>
      ⟨p, _, _, _, rfl, rfl, h, rfl, q⟩
    have hb : n.natAbs < 2 ^ 100 := by omega
    walk_at "rd"
    refine r0 _ _ _ _ hL ?_
    walk_at "rd"
    split
    · rename_i hpos
      refine r0 _ _ _ _ hL ?_
      walk_at "rd"
      refine ⟨hn, r0 _ _ _ _ hL ?_⟩
      walk_at "rd"
      refine ⟨wide_div hn hb (by decide) (by decide), w0 _ _ _ _ _ hL ?_⟩
      exact k _ _ _ ⟨Int.ediv_nonneg hx (by omega), hy, hy2⟩ (Int.emod_nonneg _ (by omega)) (Int.emod_lt_of_pos _ hn)
    · refine r1 _ _ _ _ hL ?_
      walk_at "rd"
      refine ⟨Or.inr ⟨by decide, by decide⟩, by decide, w1 _ _ _ _ _ hL ?_⟩
      have hs0 := Int.emod_nonneg (y * 48271 + 11) (show (2147483647 : Int) ≠ 0 by decide)
      have hs1 := Int.emod_lt_of_pos (y * 48271 + 11) (show (0 : Int) < 2147483647 by decide)
      generalize (y * 48271 + 11) % 2147483647 = z at hs0 hs1
      refine r1 _ x z _ upd_same (r1 _ x z _ upd_same ?_)
      walk_at "rd"
      refine ⟨Or.inr ⟨by omega, by omega⟩, by decide, ⟨by decide, by decide⟩, hn, ?_⟩
      exact k _ _ _ ⟨hx, hs0, hs1⟩ (Int.emod_nonneg _ (by omega)) (Int.emod_lt_of_pos _ hn)
end
end K03
set_option Elab.async false
set_option linter.all false
set_option maxRecDepth 100000
set_option maxHeartbeats 4000000
namespace K03
open PySem L2 EX PyProof.Rows LamX
structure Bn (mg : Str → Option Value) : Prop where
  range : mg "range" = none
  max : mg "max" = none
  min : mg "min" = none
  len : mg "len" = none
  all : mg "all" = none
  isi : mg "isinstance" = none
  tuple : mg "tuple" = none
  list : mg "list" = none
  set : mg "set" = none
  int : mg "int" = none
  bool : mg "bool" = none
  str : mg "str" = none
  sorted : mg "sorted" = none
  repr : mg "repr" = none
  lw : ∃ t, mg "LONGEST_WORD" = some (.int 8 t)
  mk4 : ∃ t, mg "MOST_KEYS" = some (.int 4 t)
  st : ∃ t, mg "STORE" = some (.str "store" t)
  mw : ∃ t, mg "MOST_WAITING" = some (.int 20 t)
  dict : mg "dict" = none
  any : mg "any" = none
  ke : mg "KeyError" = none
  ga : ∃ t, mg "GREATEST_ALLOWANCE" = some (.int 99 t)
/-! ### words -/
def isW (s : Str) : Bool := !decide (8 < (s.length : Int)) && (Txt.isascii s && (Txt.isalpha s && Txt.islower s))
def isWv : V → Bool
  | .str s => isW s
  | _ => false
/-- what may lie in a list that is asked about -/
def ItemOk (x : V) : Prop := (∃ s : Str, x = .str s ∧ s.length ≤ sizeLine) ∨ x = .non ∨ ∃ n : Int, x = .int n
def spWord : Sp := fun vs H Q _ => ∃ x : V, vs = [x] ∧ ItemOk x ∧ Q (.bl (isWv x)) H
abbrev sWrd : Stmt := top 29
theorem scWrd : FnScope ["obj"] ["obj"] (defScope sWrd) := ⟨rfl, rfl, rfl, by decide +kernel, rfl, by decide +kernel, by decide +kernel⟩
section
variable {P : Program} {w : World} {K : PySem.W.Frag} {mg : Str → Option Value} {base : Heap}
theorem ok_word {f : Addr} {fd : FuncData} (F : Fun K "is_word" "is_word" sWrd f fd) (B : Bn mg) : FnOk P w K mg base CX0 1 f fd ["obj"] spWord := by
  refine F.ok scWrd (fun vs H Q E h => ?_) (fun cdv A outer s H vs Q E hr h => ?_)
  · obtain ⟨x, rfl, _⟩ := h
    rfl
  · obtain ⟨x, rfl, hx, k⟩ := h
    refine ⟨_, (pss_cons (ps_if (PW.pt (pw_or (pt_not (pt_val (pe_callB call_isi (by rfl) B.isi PyProof.Rows.boot_isinstance (pa_cons (pv 0) (pa_cons (pe_bltn (v := .ty "str") (by rfl) B.str (by decide +kernel) rfl) pa_nil))))) (pw_or1 (pt_cmpR op_gt (pe_callB call_len_str (by rfl) B.len PySem.boot_len (pa_cons (pv 0) pa_nil)) (pe_glob (v := .int _) (by rfl) B.lw.choose_spec ⟨_, rfl⟩) (nomark _))))) (pss_one (ps_ret pe_bl)) pss_nil)
        (pss_one (ps_ret (pe_and (pe_m0 PySem.F.slot_str_isascii PySem.F.type_str_isascii mt_isascii (pv 0)) (pe_and (pe_m0 PySem.F.slot_str_isalpha PySem.F.type_str_isalpha mt_isalpha (pv 0)) (pe_one (pe_m0 PySem.F.slot_str_islower PySem.F.type_str_islower mt_islower (pv 0)))))))), ?_⟩
    rcases hx with ⟨x, rfl, hz⟩ | rfl | ⟨n, rfl⟩
    · refine ⟨_, rfl, _, _, _, _, true, rfl, .ty _, .base (.str _), kit_ty (by decide +kernel), _, rfl, iteF ?_⟩
      refine ⟨_, rfl, x, rfl, hz, _, _, rfl, rfl, _, rfl, ite2 (fun h => ?_) (fun h => ?_)⟩
      · have k : Q (.bl (isW x)) H := k
        unfold isW at k
        rw [h, Bool.not_true, Bool.false_and] at k
        exact k
      · have k : Q (.bl (isW x)) H := k
        unfold isW at k
        rw [show decide (8 < (x.length : Int)) = false by simpa using h, Bool.not_false, Bool.true_and] at k
        refine ⟨_, rfl, ⟨_, rfl⟩, _, rfl, rfl, trivial, _, rfl, ite2 (fun h1 => ?_) (fun h1 => ?_)⟩
        · rw [h1, Bool.true_and] at k
          refine ⟨_, rfl, ⟨_, rfl⟩, _, rfl, rfl, trivial, _, rfl, ite2 (fun h2 => ?_) (fun h2 => ?_)⟩
          · rw [h2, Bool.true_and] at k
            exact ⟨_, rfl, ⟨_, rfl⟩, _, rfl, rfl, trivial, k⟩
          · rw [show Txt.isalpha x = false by simpa using h2, Bool.false_and] at k
            exact k
        · rw [show Txt.isascii x = false by simpa using h1, Bool.false_and] at k
          exact k
    · exact ⟨_, rfl, _, _, _, _, false, rfl, .ty _, .base .non, kit_ty (by decide +kernel), _, rfl, iteT k⟩
    · exact ⟨_, rfl, _, _, _, _, false, rfl, .ty _, .base (.int _), kit_ty (by decide +kernel), _, rfl, iteT k⟩
end
theorem isW_len {x : Str} (h : isW x = true) : x.length ≤ sizeLine := by
  unfold isW at h
  rw [Bool.and_eq_true] at h
  have h1 := h.1
  simp at h1
  rw [sizeLine_eq]
  omega
abbrev strV (o : List Str) : List V := o.map V.str
theorem strV_get {o : List Str} {i : Nat} {x : V} (h : (strV o)[i]? = some x) : ∃ s, x = .str s ∧ o[i]? = some s := by
  rw [List.getElem?_map] at h
  cases e : o[i]? with
  | none => rw [e] at h; cases h
  | some s => rw [e] at h; exact ⟨s, (Option.some.inj h).symm, rfl⟩
theorem tyx_lst {K : PySem.W.Frag} {H : Hp} {a : Addr} {xs : List V} (h : SqL K H a xs) : TyX K H (.ref a) (.type "list") := by
  rcases h with (h | ⟨o, h⟩) | ⟨o, its, n, h1, h2, _⟩
  · exact .base (.lst h)
  · exact .base (.frz h)
  · exact .kList h1 h2
theorem tyx_tup {K : PySem.W.Frag} {H : Hp} {a : Addr} {xs : List V} (h : SqT K H a xs) : TyX K H (.ref a) (.type "tuple") := by
  rcases h with (h | ⟨o, h⟩) | ⟨o, its, n, h1, h2, _⟩
  · exact .base (.tup h)
  · exact .fTuple h
  · exact .kTuple h1 h2
/-- a list or a tuple -/
abbrev SqE (K : PySem.W.Frag) (H : Hp) (a : Addr) (xs : List V) : Prop := SqL K H a xs ∨ SqT K H a xs
theorem SqE.mono {K : PySem.W.Frag} {H H' : Hp} {a : Addr} {xs : List V} (s : Same H H') (h : SqE K H a xs) : SqE K H' a xs := h.elim (fun h => .inl (s.seq h)) fun h => .inr (sqt_same s h)
/-! ### keys -/
/-- the texts of a list of texts -/
def txs : List V → List Str
  | .str s :: r => s :: txs r
  | _ => []
theorem txs_all : ∀ {xs : List V}, (∀ x ∈ xs, isWv x = true) → strV (txs xs) = xs
  | [], _ => rfl
  | .str s :: r, h => by
    show V.str s :: strV (txs r) = _
    rw [txs_all (xs := r) fun x hx => h x (.tail _ hx)]
  | .non :: r, h => by cases h _ (.head _)
  | .bl b :: r, h => by cases h _ (.head _)
  | .int n :: r, h => by cases h _ (.head _)
  | .flt n :: r, h => by cases h _ (.head _)
  | .byt n :: r, h => by cases h _ (.head _)
  | .ty n :: r, h => by cases h _ (.head _)
  | .ref n :: r, h => by cases h _ (.head _)
def goodK (xs : List V) : Bool := (decide ((1 : Int) ≤ (xs.length : Nat)) && decide (((xs.length : Nat) : Int) ≤ 4)) && (xs.all isWv && decide (dn [] (txs xs) = xs.length))
/-- neither a list nor a tuple -/
def NotSeq (H : Hp) (x : V) : Prop := x = .non ∨ (∃ s, x = .str s) ∨ ∃ d kvs, x = .ref d ∧ H d = some (.dK kvs)
theorem NotSeq.mono {H H' : Hp} (s : Same H H') {x : V} (h : NotSeq H x) : NotSeq H' x := h.imp id (Or.imp id fun ⟨d, kvs, e, h⟩ => ⟨d, kvs, e, s _ _ h⟩)
theorem NotSeq.ty {K : PySem.W.Frag} {H : Hp} {x : V} (h : NotSeq H x) : ∃ t : String, TyX K H x (.type t) ∧ PySem.W.kitAny K (.type t) [.type "list", .type "tuple"] = some false := by
  rcases h with rfl | ⟨s, rfl⟩ | ⟨d, kvs, rfl, h⟩
  · exact ⟨_, .base .non, kitAny_cons (b := false) (kit_ty (by decide +kernel)) (fun _ => kitAny_cons (b := false) (kit_ty (by decide +kernel)) (fun _ => rfl) (fun z => absurd z (by decide))) (fun z => absurd z (by decide))⟩
  · exact ⟨_, .base (.str _), kitAny_cons (b := false) (kit_ty (by decide +kernel)) (fun _ => kitAny_cons (b := false) (kit_ty (by decide +kernel)) (fun _ => rfl) (fun z => absurd z (by decide))) (fun z => absurd z (by decide))⟩
  · exact ⟨_, .base (.dK h), kitAny_cons (b := false) (kit_ty (by decide +kernel)) (fun _ => kitAny_cons (b := false) (kit_ty (by decide +kernel)) (fun _ => rfl) (fun z => absurd z (by decide))) (fun z => absurd z (by decide))⟩
theorem seq_ty {K : PySem.W.Frag} {H : Hp} {a : Addr} {xs : List V} (h : SqE K H a xs) : ∃ t : String, TyX K H (.ref a) (.type t) ∧ PySem.W.kitAny K (.type t) [.type "list", .type "tuple"] = some true := by
  rcases h with h | h
  · exact ⟨_, tyx_lst h, kitAny_cons (b := true) (kit_ty (by decide +kernel)) (fun z => absurd z (by decide)) (fun _ => rfl)⟩
  · exact ⟨_, tyx_tup h, kitAny_cons (b := false) (kit_ty (by decide +kernel)) (fun _ => kitAny_cons (b := true) (kit_ty (by decide +kernel)) (fun z => absurd z (by decide)) (fun _ => rfl)) (fun z => absurd z (by decide))⟩
/-- what is asked to be keys: a list or tuple, or none -/
def KeyArg (K : PySem.W.Frag) (H : Hp) (x : V) (b : Bool) : Prop := (∃ a xs, x = .ref a ∧ SqE K H a xs ∧ xs.length ≤ 1000 ∧ (∀ y ∈ xs, ItemOk y) ∧ b = goodK xs) ∨ (NotSeq H x ∧ b = false)
theorem KeyArg.mono {K : PySem.W.Frag} {H H' : Hp} (s : Same H H') {x : V} {b : Bool} (h : KeyArg K H x b) : KeyArg K H' x b := h.imp (fun ⟨a, xs, e, h1, h2⟩ => ⟨a, xs, e, h1.mono s, h2⟩) fun ⟨h1, h2⟩ => ⟨h1.mono s, h2⟩
def spKeys (K : PySem.W.Frag) : Sp := fun vs H Q _ => ∃ (x : V) (b : Bool), vs = [x] ∧ KeyArg K H x b ∧ ∀ H', Same H H' → Q (.bl b) H'
abbrev sKey : Stmt := top 30
def sKeyN : List Str := ["obj", "item"]
theorem scKey : FnScope ["obj", "item"] ["obj"] (defScope sKey) := ⟨rfl, rfl, rfl, by decide +kernel, rfl, by decide +kernel, by decide +kernel⟩
section
variable {P : Program} {w : World} {K : PySem.W.Frag} {mg : Str → Option Value} {base : Heap}
theorem ok_keys {f : Addr} {fd : FuncData} (F : Fun K "are_keys" "are_keys" sKey f fd) (B : Bn mg) (GW : DefAt P w K mg base 1 "is_word" ["obj"] spWord) : FnOk P w K mg base CX0 2 f fd ["obj"] (spKeys K) := by
  refine F.ok scKey (fun vs H Q E h => ?_) (fun cdv A outer s H vs Q E hr h => ?_)
  · obtain ⟨x, b, rfl, _⟩ := h
    rfl
  · obtain ⟨x, b, rfl, hx, k⟩ := h
    have hr1 : Room 1 _ := hr
    rcases hx with ⟨a, xs, rfl, ho, hl, hi, rfl⟩ | ⟨hn, rfl⟩
    · rcases ho with ho | ho
      · refine ⟨_, (pss_cons (ps_if (PW.pt (pw_or (pt_not (pt_val (pe_callB call_isiT (by rfl) B.isi PyProof.Rows.boot_isinstance (pa_cons (pv 0) (pa_cons (pe_tup (pa_cons (pe_bltn (v := .ty "list") (by rfl) B.list (by decide +kernel) rfl) (pa_cons (pe_bltn (v := .ty "tuple") (by rfl) B.tuple (by decide +kernel) rfl) pa_nil))) pa_nil))))) (pw_or1 (pt_not (pt_chain op_le op_le pe_int (pe_callB call_len_seq (by rfl) B.len PySem.boot_len (pa_cons (pv 0) pa_nil)) (pe_glob (v := .int _) (by rfl) B.mk4.choose_spec ⟨_, rfl⟩)))))) (pss_one (ps_ret pe_bl)) pss_nil)
          (pss_cons (ps_if (pt_not (pt_val (pe_callB (cr_all rfl) (by rfl) B.all (by decide +kernel) (pa_cons (pe_lc (own := [("item", 1)]) (g := (gName 1)) (tt := tYes) (te := tCall spWord [] E0 (tCons (tVar 1) tNil)) rfl scKey.nd (pi_list (pv 0)) (blkOk_by (N := sKeyN) (sc := defScope sKey) (by decide +kernel)) (fun _ _ _ _ _ => (pg_name (i := 1) scKey.nd rfl (Or.inl rfl))) (fun _ _ _ _ _ => pts_nil) (fun _ _ _ _ _ => (pe_callD GW hr1 (pa_cons (pv 1) pa_nil)))) pa_nil)))) (pss_one (ps_ret pe_bl)) pss_nil)
          (pss_one (ps_ret (pe_cmpR op_eq (pe_lenSetS rfl (by rfl) B.len (by rfl) B.set (pv 0)) (pe_callB call_len_seq (by rfl) B.len PySem.boot_len (pa_cons (pv 0) pa_nil)) (nomark _)))))), ?_⟩
        refine ⟨_, rfl, by show 2 ≤ sizeLine; decide, fun q hq => ?_⟩
        have s1 : Same H (upd H q (.tup [.ty "list", .ty "tuple"])) := Same.upd hq
        have l1 : upd H q (HO.tup [.ty "list", .ty "tuple"]) q = some (.tup [.ty "list", .ty "tuple"]) := upd_same
        generalize upd H q (HO.tup [.ty "list", .ty "tuple"]) = H1 at s1 l1 ⊢
        have ho1 := s1.seq ho
        obtain ⟨t, hty, hk⟩ := seq_ty (K := K) (H := H1) (a := a) (xs := xs) (.inl ho1)
        refine ⟨_, q, _, _, _, true, rfl, l1, .cons (.ty _) (.cons (.ty _) .nil), hty, hk, _, rfl, iteF ?_⟩
        refine ⟨_, rfl, a, xs, rfl, .inl ho1, _, _, rfl, rfl, ?_⟩
        unfold goodK at k
        refine ⟨_, rfl, ite2 (fun h1 => ?_) (fun h1 => ?_)⟩
        rotate_left
        · rw [show decide ((1 : Int) ≤ (xs.length : Nat)) = false by simpa using h1, Bool.false_and, Bool.false_and] at k
          exact ⟨_, rfl, iteT (k _ s1)⟩
        rw [h1, Bool.true_and] at k
        refine ⟨_, _, rfl, rfl, _, rfl, ite2 (fun h2 => ?_) (fun h2 => ?_)⟩
        · rw [show decide (((xs.length : Nat) : Int) ≤ 4) = false by simpa using h2, Bool.false_and] at k
          exact k _ s1
        rw [show decide (((xs.length : Nat) : Int) ≤ 4) = true by simpa using h2, Bool.true_and] at k
        refine ⟨_, rfl, a, rfl, ⟨_, ho1⟩, fun D hD => ?_⟩
        refine lc_list (K := K) (a := a) (xs := xs) (fun q H4 => Same H1 H4 ∧ H4 D = some (.lst (((xs.take q).map isWv).map V.bl))) ⟨Same.upd hD, upd_same⟩ (fun q H4 _ z => z.1.seq ho1) ?_ ?_
        · rintro i x H4 hx ⟨S4, lD⟩
          refine ⟨rfl, ?_⟩
          refine ⟨_, rfl, x, rfl, hi x (List.mem_of_getElem? hx), ?_⟩
          refine ⟨_, lD, ?_, EX.Same.updN S4 hD, ?_⟩
          · rw [List.length_map, List.length_map, List.length_take, sizeLine_eq]
            omega
          · rw [upd_same, List.take_add_one, hx]
            simp
        rintro H4 ⟨S4, lD⟩
        rw [List.take_length] at lD
        have S := Same.trans s1 S4
        refine ⟨D, _, rfl, SqL.of lD, ?_⟩
        rw [show (xs.map isWv).all id = xs.all isWv by rw [List.all_map]; rfl]
        refine ⟨_, rfl, ite2 (fun h3 => ?_) (fun h3 => ?_)⟩
        · rw [show xs.all isWv = false by simpa using h3, Bool.false_and] at k
          exact k _ S
        have h3 : xs.all isWv = true := by simpa using h3
        rw [h3, Bool.true_and] at k
        have e3 := txs_all (xs := xs) fun x hx => List.all_eq_true.mp h3 x hx
        have ho4 : SqE K H4 a (strV (txs xs)) := by
          rw [e3]
          exact .inl (S4.seq ho1)
        refine ⟨_, rfl, a, txs xs, rfl, ho4, ?_, _, rfl, a, xs, rfl, .inl (S4.seq ho1), ?_⟩
        · have : (strV (txs xs)).length = xs.length := by rw [e3]
          rw [List.length_map] at this
          omega
        refine ⟨rfl, ?_⟩
        have e4 : decide (V.int (dn [] (txs xs) : Nat) = V.int (xs.length : Nat)) = decide (dn [] (txs xs) = xs.length) := by
          refine decide_eq_decide.mpr ⟨fun z => ?_, fun z => by rw [z]⟩
          have := V.int.inj z
          omega
        rw [e4]
        exact k _ S
      · refine ⟨_, (pss_cons (ps_if (PW.pt (pw_or (pt_not (pt_val (pe_callB call_isiT (by rfl) B.isi PyProof.Rows.boot_isinstance (pa_cons (pv 0) (pa_cons (pe_tup (pa_cons (pe_bltn (v := .ty "list") (by rfl) B.list (by decide +kernel) rfl) (pa_cons (pe_bltn (v := .ty "tuple") (by rfl) B.tuple (by decide +kernel) rfl) pa_nil))) pa_nil))))) (pw_or1 (pt_not (pt_chain op_le op_le pe_int (pe_callB call_len_seq (by rfl) B.len PySem.boot_len (pa_cons (pv 0) pa_nil)) (pe_glob (v := .int _) (by rfl) B.mk4.choose_spec ⟨_, rfl⟩)))))) (pss_one (ps_ret pe_bl)) pss_nil)
          (pss_cons (ps_if (pt_not (pt_val (pe_callB (cr_all rfl) (by rfl) B.all (by decide +kernel) (pa_cons (pe_lc (own := [("item", 1)]) (g := (gName 1)) (tt := tYes) (te := tCall spWord [] E0 (tCons (tVar 1) tNil)) rfl scKey.nd (pi_tup (pv 0)) (blkOk_by (N := sKeyN) (sc := defScope sKey) (by decide +kernel)) (fun _ _ _ _ _ => (pg_name (i := 1) scKey.nd rfl (Or.inl rfl))) (fun _ _ _ _ _ => pts_nil) (fun _ _ _ _ _ => (pe_callD GW hr1 (pa_cons (pv 1) pa_nil)))) pa_nil)))) (pss_one (ps_ret pe_bl)) pss_nil)
          (pss_one (ps_ret (pe_cmpR op_eq (pe_lenSetS rfl (by rfl) B.len (by rfl) B.set (pv 0)) (pe_callB call_len_seq (by rfl) B.len PySem.boot_len (pa_cons (pv 0) pa_nil)) (nomark _)))))), ?_⟩
        refine ⟨_, rfl, by show 2 ≤ sizeLine; decide, fun q hq => ?_⟩
        have s1 : Same H (upd H q (.tup [.ty "list", .ty "tuple"])) := Same.upd hq
        have l1 : upd H q (HO.tup [.ty "list", .ty "tuple"]) q = some (.tup [.ty "list", .ty "tuple"]) := upd_same
        generalize upd H q (HO.tup [.ty "list", .ty "tuple"]) = H1 at s1 l1 ⊢
        have ho1 := sqt_same s1 ho
        obtain ⟨t, hty, hk⟩ := seq_ty (K := K) (H := H1) (a := a) (xs := xs) (.inr ho1)
        refine ⟨_, q, _, _, _, true, rfl, l1, .cons (.ty _) (.cons (.ty _) .nil), hty, hk, _, rfl, iteF ?_⟩
        refine ⟨_, rfl, a, xs, rfl, .inr ho1, _, _, rfl, rfl, ?_⟩
        unfold goodK at k
        refine ⟨_, rfl, ite2 (fun h1 => ?_) (fun h1 => ?_)⟩
        rotate_left
        · rw [show decide ((1 : Int) ≤ (xs.length : Nat)) = false by simpa using h1, Bool.false_and, Bool.false_and] at k
          exact ⟨_, rfl, iteT (k _ s1)⟩
        rw [h1, Bool.true_and] at k
        refine ⟨_, _, rfl, rfl, _, rfl, ite2 (fun h2 => ?_) (fun h2 => ?_)⟩
        · rw [show decide (((xs.length : Nat) : Int) ≤ 4) = false by simpa using h2, Bool.false_and] at k
          exact k _ s1
        rw [show decide (((xs.length : Nat) : Int) ≤ 4) = true by simpa using h2, Bool.true_and] at k
        refine ⟨_, rfl, a, rfl, ⟨_, ho1⟩, fun D hD => ?_⟩
        refine lc_tup (K := K) (a := a) (xs := xs) (fun q H4 => Same H1 H4 ∧ H4 D = some (.lst (((xs.take q).map isWv).map V.bl))) ⟨Same.upd hD, upd_same⟩ (fun q H4 _ z => sqt_same z.1 ho1) ?_ ?_
        · rintro i x H4 hx ⟨S4, lD⟩
          refine ⟨rfl, ?_⟩
          refine ⟨_, rfl, x, rfl, hi x (List.mem_of_getElem? hx), ?_⟩
          refine ⟨_, lD, ?_, EX.Same.updN S4 hD, ?_⟩
          · rw [List.length_map, List.length_map, List.length_take, sizeLine_eq]
            omega
          · rw [upd_same, List.take_add_one, hx]
            simp
        rintro H4 ⟨S4, lD⟩
        rw [List.take_length] at lD
        have S := Same.trans s1 S4
        refine ⟨D, _, rfl, SqL.of lD, ?_⟩
        rw [show (xs.map isWv).all id = xs.all isWv by rw [List.all_map]; rfl]
        refine ⟨_, rfl, ite2 (fun h3 => ?_) (fun h3 => ?_)⟩
        · rw [show xs.all isWv = false by simpa using h3, Bool.false_and] at k
          exact k _ S
        have h3 : xs.all isWv = true := by simpa using h3
        rw [h3, Bool.true_and] at k
        have e3 := txs_all (xs := xs) fun x hx => List.all_eq_true.mp h3 x hx
        have ho4 : SqE K H4 a (strV (txs xs)) := by
          rw [e3]
          exact .inr (sqt_same S4 ho1)
        refine ⟨_, rfl, a, txs xs, rfl, ho4, ?_, _, rfl, a, xs, rfl, .inr (sqt_same S4 ho1), ?_⟩
        · have : (strV (txs xs)).length = xs.length := by rw [e3]
          rw [List.length_map] at this
          omega
        refine ⟨rfl, ?_⟩
        have e4 : decide (V.int (dn [] (txs xs) : Nat) = V.int (xs.length : Nat)) = decide (dn [] (txs xs) = xs.length) := by
          refine decide_eq_decide.mpr ⟨fun z => ?_, fun z => by rw [z]⟩
          have := V.int.inj z
          omega
        rw [e4]
        exact k _ S
    · refine ⟨_, (pss_cons (ps_if (PW.pt (pw_or (pt_not (pt_val (pe_callB call_isiT (by rfl) B.isi PyProof.Rows.boot_isinstance (pa_cons (pv 0) (pa_cons (pe_tup (pa_cons (pe_bltn (v := .ty "list") (by rfl) B.list (by decide +kernel) rfl) (pa_cons (pe_bltn (v := .ty "tuple") (by rfl) B.tuple (by decide +kernel) rfl) pa_nil))) pa_nil))))) (pw_or1 (pt_not (pt_chain op_le op_le pe_int (pe_callB call_len_seq (by rfl) B.len PySem.boot_len (pa_cons (pv 0) pa_nil)) (pe_glob (v := .int _) (by rfl) B.mk4.choose_spec ⟨_, rfl⟩)))))) (pss_one (ps_ret pe_bl)) pss_nil)
        (pss_cons (ps_if (pt_not (pt_val (pe_callB (cr_all rfl) (by rfl) B.all (by decide +kernel) (pa_cons (pe_lc (own := [("item", 1)]) (g := (gName 1)) (tt := tYes) (te := tCall spWord [] E0 (tCons (tVar 1) tNil)) rfl scKey.nd (pi_list (pv 0)) (blkOk_by (N := sKeyN) (sc := defScope sKey) (by decide +kernel)) (fun _ _ _ _ _ => (pg_name (i := 1) scKey.nd rfl (Or.inl rfl))) (fun _ _ _ _ _ => pts_nil) (fun _ _ _ _ _ => (pe_callD GW hr1 (pa_cons (pv 1) pa_nil)))) pa_nil)))) (pss_one (ps_ret pe_bl)) pss_nil)
        (pss_one (ps_ret (pe_cmpR op_eq (pe_lenSetS rfl (by rfl) B.len (by rfl) B.set (pv 0)) (pe_callB call_len_seq (by rfl) B.len PySem.boot_len (pa_cons (pv 0) pa_nil)) (nomark _)))))), ?_⟩
      refine ⟨_, rfl, by show 2 ≤ sizeLine; decide, fun q hq => ?_⟩
      have s1 : Same H (upd H q (.tup [.ty "list", .ty "tuple"])) := Same.upd hq
      have l1 : upd H q (HO.tup [.ty "list", .ty "tuple"]) q = some (.tup [.ty "list", .ty "tuple"]) := upd_same
      generalize upd H q (HO.tup [.ty "list", .ty "tuple"]) = H1 at s1 l1 ⊢
      obtain ⟨t, hty, hk⟩ := (hn.mono s1).ty (K := K)
      exact ⟨_, q, _, _, _, false, rfl, l1, .cons (.ty _) (.cons (.ty _) .nil), hty, hk, _, rfl, iteT (k _ s1)⟩
end
end K03
set_option Elab.async false
set_option linter.all false
set_option maxRecDepth 100000
set_option maxHeartbeats 4000000
/-! an own object under construction: it stands at n with its fields so far, the things made for it are kept in a list -/
namespace EX
open PySem L2 PyProof.Rows
structure Bd (N n dx : Addr) (H0 H : Hp) (fs : List (Str × V)) (l : List (Addr × HO)) : Prop where
  at_ : H n = some (.ins N dx fs)
  k : Keeps [n] H0 H
  own : ∀ x ∈ l, x.1 ≠ n ∧ H x.1 = some x.2
section
variable {N n dx : Addr} {H0 H H' : Hp} {fs fs' : List (Str × V)} {l : List (Addr × HO)} {p : Addr} {o : HO}
theorem Bd.start (h : H n = some (.ins N dx fs)) : Bd N n dx H H fs [] := ⟨h, Keeps.refl _ _, fun x hx => nomatch hx⟩
theorem Bd.same (b : Bd N n dx H0 H fs l) (s : Same H H') : Bd N n dx H0 H' fs l := ⟨s _ _ b.at_, b.k.then s, fun x hx => ⟨(b.own x hx).1, s _ _ (b.own x hx).2⟩⟩
theorem Bd.new (b : Bd N n dx H0 H fs l) (hp : H p = none) : Bd N n dx H0 (upd H p o) fs ((p, o) :: l) := by
  have hn : p ≠ n := fun z => by
    rw [z, b.at_] at hp
    cases hp
  have s : Same H (upd H p o) := fun c u e => by
    rw [upd_ne (fun z => by rw [z, hp] at e; cases e)]
    exact e
  have b2 := b.same s
  refine ⟨b2.at_, b2.k, fun x hx => ?_⟩
  rcases List.mem_cons.mp hx with rfl | hx
  · exact ⟨hn, upd_same⟩
  · exact b2.own x hx
theorem Bd.add (b : Bd N n dx H0 H fs l) (hp : H p = some o) (hn : p ≠ n) : Bd N n dx H0 H fs ((p, o) :: l) := ⟨b.at_, b.k, fun x hx => by
  rcases List.mem_cons.mp hx with rfl | hx
  · exact ⟨hn, hp⟩
  · exact b.own x hx⟩
theorem Bd.addAll {m : List (Addr × HO)} (b : Bd N n dx H0 H fs l) (h : ∀ x ∈ m, x.1 ≠ n ∧ H x.1 = some x.2) : Bd N n dx H0 H fs (l ++ m) := ⟨b.at_, b.k, fun x hx => (List.mem_append.mp hx).elim (b.own x) (h x)⟩
theorem Bd.put (b : Bd N n dx H0 H fs l) : Bd N n dx H0 (upd H n (.ins N dx fs')) fs' l := by
  refine ⟨upd_same, b.k.put (by simp), fun x hx => ?_⟩
  obtain ⟨h1, h2⟩ := b.own x hx
  refine ⟨h1, ?_⟩
  rw [upd_ne h1]
  exact h2
theorem Bd.get (b : Bd N n dx H0 H fs l) (i : Nat) {x : Addr × HO} (h : l[i]? = some x := by rfl) : H x.1 = some x.2 := (b.own x (List.mem_of_getElem? h)).2
theorem Bd.ne (b : Bd N n dx H0 H fs l) (hp : H p = none) : p ≠ n := fun z => by
  rw [z, b.at_] at hp
  cases hp
/-- an own object made inside another's making: what was there stays -/
theorem made_same {C q dy : Addr} {H1 : Hp} (hq : H q = none) (hy : H dy = none) (hn : dy ≠ q) (k : Keeps [q] (upd (upd H dy (.own q)) q (.ins C dy [])) H1) : Same H H1 := fun b o e => by
  have n1 : b ≠ q := fun z => by rw [z, hq] at e; cases e
  have n2 : b ≠ dy := fun z => by rw [z, hy] at e; cases e
  refine k b o (by simpa using n1) ?_
  rw [upd_ne n1, upd_ne n2]
  exact e
end
end EX
namespace EX
open PySem L2 PyProof.Rows
theorem unlock {H H1 : Hp} {d : Addr} {u : HO} {od : Obj} (h : H d = some u) (s : Same (upd H d (.frz od u)) H1) : Same H (upd H1 d u) := fun b o e => by
  by_cases hb : b = d
  · subst hb
    rw [upd_same, ← h, e]
  · rw [upd_ne hb]
    refine s b o ?_
    rw [upd_ne hb]
    exact e
theorem notNone {a : Addr} : (!decide (V.ref a = V.non)) = true := by
  rw [decide_eq_false (fun z => nomatch z)]
  rfl
theorem isNone {a : Addr} : decide (V.ref a = V.non) = false := decide_eq_false (fun z => nomatch z)
end EX
namespace EX
open PySem L2 PyProof.Rows
/-- new things, what was there stays -/
structure Ks (H0 H : Hp) (l : List (Addr × HO)) : Prop where
  s : Same H0 H
  own : ∀ x ∈ l, H x.1 = some x.2
section
variable {H0 H H' : Hp} {l : List (Addr × HO)} {p : Addr} {o : HO}
theorem Ks.start (H : Hp) : Ks H H [] := ⟨Same.refl _, fun x hx => nomatch hx⟩
theorem Ks.same (b : Ks H0 H l) (s : Same H H') : Ks H0 H' l := ⟨Same.trans b.s s, fun x hx => s _ _ (b.own x hx)⟩
theorem Ks.add (b : Ks H0 H l) (h : H p = some o) : Ks H0 H ((p, o) :: l) := ⟨b.s, fun x hx => by
  rcases List.mem_cons.mp hx with rfl | hx
  · exact h
  · exact b.own x hx⟩
theorem Ks.new (b : Ks H0 H l) (hp : H p = none) : Ks H0 (upd H p o) ((p, o) :: l) := (b.same (Same.upd hp)).add upd_same
theorem Ks.get (b : Ks H0 H l) (i : Nat) {x : Addr × HO} (h : l[i]? = some x := by rfl) : H x.1 = some x.2 := b.own x (List.mem_of_getElem? h)
end
end EX
set_option Elab.async false
set_option linter.all false
set_option maxRecDepth 100000
set_option maxHeartbeats 4000000
/-! a net in the heap: its changeable objects as one list of places and contents -/
namespace NZ
open PySem L2 EX PyProof.Rows
/-! ### places and contents -/
structure Holds (H : Hp) (l : List (Addr × HO)) : Prop where
  nd : (l.map (·.1)).Nodup
  at_ : ∀ x ∈ l, H x.1 = some x.2
/-- no tuple among them -/
def NoT (l : List (Addr × HO)) : Prop := ∀ x ∈ l, (∀ xs, x.2 ≠ .tup xs) ∧ ∀ q xs, x.2 ≠ .frz q (.tup xs)
section
variable {H H' : Hp} {l l' m : List (Addr × HO)} {p : Addr} {o o' : HO}
theorem Holds.same (h : Holds H l) (s : Same H H') : Holds H' l := ⟨h.nd, fun x hx => s _ _ (h.at_ x hx)⟩
theorem Holds.sub (h : Holds H l) (nd : (l'.map (·.1)).Nodup) (s : ∀ x ∈ l', x ∈ l) : Holds H l' := ⟨nd, fun x hx => h.at_ x (s x hx)⟩
theorem Holds.perm (h : Holds H l) (p : l'.Perm l) : Holds H l' := ⟨(p.map _).nodup_iff.mpr h.nd, fun x hx => h.at_ x (p.mem_iff.mp hx)⟩
/-- one place takes another content -/
theorem Holds.put (h : Holds H l) (hm : l'.map (·.1) = l.map (·.1)) (hx : ∀ x ∈ l', (x.1 = p ∧ x.2 = o') ∨ (x.1 ≠ p ∧ x ∈ l)) : Holds (upd H p o') l' := by
  refine ⟨by rw [hm]; exact h.nd, fun x hxl => ?_⟩
  rcases hx x hxl with ⟨e1, e2⟩ | ⟨n, hin⟩
  · rw [e1, upd_same, e2]
  · rw [upd_ne n]
    exact h.at_ x hin
theorem Holds.split (h : Holds H (l ++ (p, o) :: m)) : Holds (upd H p o') (l ++ (p, o') :: m) := by
  refine h.put (by simp) fun x hx => ?_
  have nd := h.nd
  rw [List.map_append, List.map_cons, List.nodup_append] at nd
  obtain ⟨_, n2, n3⟩ := nd
  rcases List.mem_append.mp hx with hx | hx
  · exact .inr ⟨fun z => n3 x.1 (List.mem_map.mpr ⟨x, hx, rfl⟩) p (.head _) z, List.mem_append_left _ hx⟩
  · rcases List.mem_cons.mp hx with rfl | hx
    · exact .inl ⟨rfl, rfl⟩
    · exact .inr ⟨fun z => (List.nodup_cons.mp n2).1 (by rw [← z]; exact List.mem_map.mpr ⟨x, hx, rfl⟩), List.mem_append_right _ (.tail _ hx)⟩
theorem Holds.new (h : Holds H l) (hp : H p = none) : Holds (upd H p o) (l ++ [(p, o)]) := by
  have hn : p ∉ l.map (·.1) := fun z => by
    obtain ⟨x, hx, e⟩ := List.mem_map.mp z
    rw [← e, h.at_ x hx] at hp
    cases hp
  refine ⟨?_, fun x hx => ?_⟩
  · rw [List.map_append, List.nodup_append]
    refine ⟨h.nd, by simp, fun a ha b hb e => ?_⟩
    rw [List.map_cons, List.map_nil, List.mem_singleton] at hb
    rw [e, hb] at ha
    exact hn ha
  · rcases List.mem_append.mp hx with hx | hx
    · rw [upd_ne (fun z => hn (by rw [← z]; exact List.mem_map.mpr ⟨x, hx, rfl⟩))]
      exact h.at_ x hx
    · rw [List.mem_singleton.mp hx, upd_same]
theorem Holds.keeps {S : List Addr} (h : Holds H l) (k : Keeps S H H') (hs : ∀ x ∈ l, x.1 ∉ S) : Holds H' l := ⟨h.nd, fun x hx => k _ _ (hs x hx) (h.at_ x hx)⟩
theorem Holds.ne (h : Holds H l) (hp : H p = none) : ∀ x ∈ l, x.1 ≠ p := fun x hx z => by
  rw [← z, h.at_ x hx] at hp
  cases hp
end
/-! ### the parts of a net -/
structure NodeZ where
  na : Addr
  dx : Addr
  cd : Addr
  en : Addr
  label : Str
  above : V
  row : V
  cells : List (Str × V)
  kids : List (Str × Addr)
  kt : V
structure RowZ where
  ra : Addr
  dx : Addr
  cd : Addr
  dq : Addr
  uq : Addr
  child : Str
  above : Str
  dl : V
  ul : V
  cells : List (Str × V)
  rais : V
  there : Bool
  crashed : Bool
  down : List V
  up : List V
structure NetZ where
  n : Addr
  dx : Addr
  nd : Addr
  rd : Addr
  dn : Addr
  kp : Addr
  ac : Addr
  sm : Addr
  tr : Addr
  an : Addr
  rc : Addr
  tw : V
  top : V
  la : V
  qs : Int
  nodes : List NodeZ
  rows : List RowZ
  done : List V
  kept : List (Str × V)
  acc : List V
  stm : List V
  trails : List (Key × V)
  answered : List (Key × V)
  receipts : List (Key × V)
abbrev strK (l : List (Str × V)) : List (Key × V) := l.map fun p => (Sum.inr p.1, p.2)
abbrev refK (l : List (Str × Addr)) : List (Key × V) := l.map fun p => (Sum.inr p.1, .ref p.2)
/-- the classes -/
structure Cs where
  C : Addr
  E : Addr
  N : Addr
abbrev nodeF (n : Addr) (z : NodeZ) : List (Str × V) := [("home", .ref n), ("label", .str z.label), ("above", z.above), ("row", z.row), ("gone", .bl false), ("cells", .ref z.cd), ("entries", .ref z.en), ("kids", z.kt)]
abbrev rowF (r : RowZ) : List (Str × V) := [("above", .str r.above), ("down_link", r.dl), ("up_link", r.ul), ("cells", .ref r.cd), ("raising", r.rais), ("there", .bl r.there), ("crashed", .bl r.crashed), ("down", .ref r.dq), ("up", .ref r.uq)]
abbrev netF (z : NetZ) : List (Str × V) := [("words", z.tw), ("top", z.top), ("nodes", .ref z.nd), ("labels", z.la), ("rows", .ref z.rd), ("done", .ref z.dn), ("kept", .ref z.kp), ("accepted", .ref z.ac), ("stamps", .ref z.sm), ("questions", .int z.qs), ("trails", .ref z.tr), ("answered", .ref z.an), ("receipts", .ref z.rc)]
def nodeO (c : Cs) (n : Addr) (z : NodeZ) : List (Addr × HO) := [(z.na, .ins c.C z.dx (nodeF n z)), (z.cd, .dK (strK z.cells)), (z.en, .dK (refK z.kids))]
def rowO (c : Cs) (r : RowZ) : List (Addr × HO) := [(r.ra, .ins c.E r.dx (rowF r)), (r.cd, .dK (strK r.cells)), (r.dq, .lst r.down), (r.uq, .lst r.up)]
abbrev nodesK (l : List NodeZ) : List (Key × V) := l.map fun z => (Sum.inr z.label, .ref z.na)
abbrev rowsK (l : List RowZ) : List (Key × V) := l.map fun r => (Sum.inr r.child, .ref r.ra)
def netO (c : Cs) (z : NetZ) : List (Addr × HO) := [(z.n, .ins c.N z.dx (netF z)), (z.nd, .dK (nodesK z.nodes)), (z.rd, .dK (rowsK z.rows)), (z.dn, .lst z.done), (z.kp, .dK (strK z.kept)), (z.ac, .lst z.acc), (z.sm, .lst z.stm), (z.tr, .dK z.trails), (z.an, .dK z.answered), (z.rc, .dK z.receipts)]
def objs (c : Cs) (z : NetZ) : List (Addr × HO) := netO c z ++ (z.nodes.flatMap (nodeO c z.n) ++ z.rows.flatMap (rowO c))
/-- the net stands in the heap -/
abbrev NetH (c : Cs) (H : Hp) (z : NetZ) : Prop := Holds H (objs c z)
section
variable {c : Cs} {H H' : Hp} {z : NetZ} {x : Addr × HO}
theorem mem_net (h : x ∈ netO c z) : x ∈ objs c z := List.mem_append_left _ h
theorem mem_node {y : NodeZ} (hy : y ∈ z.nodes) (h : x ∈ nodeO c z.n y) : x ∈ objs c z := List.mem_append_right _ (List.mem_append_left _ (List.mem_flatMap.mpr ⟨y, hy, h⟩))
theorem mem_row {y : RowZ} (hy : y ∈ z.rows) (h : x ∈ rowO c y) : x ∈ objs c z := List.mem_append_right _ (List.mem_append_right _ (List.mem_flatMap.mpr ⟨y, hy, h⟩))
theorem mem_objs (h : x ∈ objs c z) : x ∈ netO c z ∨ (∃ y ∈ z.nodes, x ∈ nodeO c z.n y) ∨ ∃ y ∈ z.rows, x ∈ rowO c y := by
  rcases List.mem_append.mp h with h | h
  · exact .inl h
  · rcases List.mem_append.mp h with h | h
    · exact .inr (.inl (List.mem_flatMap.mp h))
    · exact .inr (.inr (List.mem_flatMap.mp h))
theorem NetH.at_net (h : NetH c H z) (i : Nat) {x : Addr × HO} (e : (netO c z)[i]? = some x := by rfl) : H x.1 = some x.2 := h.at_ x (mem_net (List.mem_of_getElem? e))
theorem NetH.at_node (h : NetH c H z) {y : NodeZ} (hy : y ∈ z.nodes) (i : Nat) {x : Addr × HO} (e : (nodeO c z.n y)[i]? = some x := by rfl) : H x.1 = some x.2 := h.at_ x (mem_node hy (List.mem_of_getElem? e))
theorem NetH.at_row (h : NetH c H z) {y : RowZ} (hy : y ∈ z.rows) (i : Nat) {x : Addr × HO} (e : (rowO c y)[i]? = some x := by rfl) : H x.1 = some x.2 := h.at_ x (mem_row hy (List.mem_of_getElem? e))
/-! ### changes at one place -/
/-- the i-th own object of the net takes another content -/
theorem NetH.put_net {z' : NetZ} {a b : List (Addr × HO)} {p : Addr} {o o' : HO} (h : NetH c H z) (e : netO c z = a ++ (p, o) :: b) (e' : netO c z' = a ++ (p, o') :: b) (h1 : z'.nodes.flatMap (nodeO c z'.n) = z.nodes.flatMap (nodeO c z.n)) (h2 : z'.rows = z.rows) : NetH c (upd H p o') z' := by
  have h0 : Holds H (a ++ (p, o) :: (b ++ (z.nodes.flatMap (nodeO c z.n) ++ z.rows.flatMap (rowO c)))) := by
    have := h
    unfold NetH objs at this
    rw [e] at this
    simpa using this
  have := h0.split (o' := o')
  unfold NetH objs
  rw [e', h1, h2]
  simpa using this
theorem NetH.put_node {z' : NetZ} {xs ys : List NodeZ} {y y' : NodeZ} {a b : List (Addr × HO)} {p : Addr} {o o' : HO} (h : NetH c H z) (hz : z.nodes = xs ++ y :: ys) (hz' : z'.nodes = xs ++ y' :: ys) (e : nodeO c z.n y = a ++ (p, o) :: b) (e' : nodeO c z.n y' = a ++ (p, o') :: b) (h1 : netO c z' = netO c z) (h2 : z'.rows = z.rows) (h3 : z'.n = z.n) : NetH c (upd H p o') z' := by
  have h0 : Holds H ((netO c z ++ (xs.flatMap (nodeO c z.n) ++ a)) ++ (p, o) :: (b ++ (ys.flatMap (nodeO c z.n) ++ z.rows.flatMap (rowO c)))) := by
    have := h
    unfold NetH objs at this
    rw [hz, List.flatMap_append, List.flatMap_cons, e] at this
    simpa using this
  have := h0.split (o' := o')
  unfold NetH objs
  rw [hz', List.flatMap_append, List.flatMap_cons, h3, e', h1, h2]
  simpa using this
theorem NetH.put_row {z' : NetZ} {xs ys : List RowZ} {y y' : RowZ} {a b : List (Addr × HO)} {p : Addr} {o o' : HO} (h : NetH c H z) (hz : z.rows = xs ++ y :: ys) (hz' : z'.rows = xs ++ y' :: ys) (e : rowO c y = a ++ (p, o) :: b) (e' : rowO c y' = a ++ (p, o') :: b) (h1 : netO c z' = netO c z) (h2 : z'.nodes.flatMap (nodeO c z'.n) = z.nodes.flatMap (nodeO c z.n)) : NetH c (upd H p o') z' := by
  have h0 : Holds H ((netO c z ++ (z.nodes.flatMap (nodeO c z.n) ++ (xs.flatMap (rowO c) ++ a))) ++ (p, o) :: (b ++ ys.flatMap (rowO c))) := by
    have := h
    unfold NetH objs at this
    rw [hz, List.flatMap_append, List.flatMap_cons, e] at this
    simpa using this
  have := h0.split (o' := o')
  unfold NetH objs
  rw [hz', List.flatMap_append, List.flatMap_cons, e', h1, h2]
  simpa using this
end
end NZ
/-! ### data in tuples -/
namespace NZ
open PySem L2 EX PyProof.Rows
mutual
inductive Td (H : Hp) : V → PyData → Prop
  | non : Td H .non .none
  | bl (b : Bool) : Td H (.bl b) (.bool b)
  | int (i : Int) : Td H (.int i) (.int i)
  | str (x : Str) : Td H (.str x) (.str x)
  | tup {a : Addr} {xs : List V} {ds : List PyData} : H a = some (.tup xs) → TdAll H xs ds → Td H (.ref a) (.tuple ds)
inductive TdAll (H : Hp) : List V → List PyData → Prop
  | nil : TdAll H [] []
  | cons {v : V} {vs : List V} {d : PyData} {ds : List PyData} : Td H v d → TdAll H vs ds → TdAll H (v :: vs) (d :: ds)
end
/-- the tuples stay -/
def KT (H H' : Hp) : Prop := ∀ a xs, H a = some (.tup xs) → H' a = some (.tup xs)
theorem KT.refl (H : Hp) : KT H H := fun _ _ e => e
theorem KT.trans {H H1 H2 : Hp} (a : KT H H1) (b : KT H1 H2) : KT H H2 := fun p xs e => b p xs (a p xs e)
theorem KT.of {H H' : Hp} (s : Same H H') : KT H H' := fun a xs e => s _ _ e
theorem KT.keeps {S : List Addr} {H H' : Hp} (k : Keeps S H H') (hs : ∀ p ∈ S, ∀ xs, H p ≠ some (.tup xs)) : KT H H' := fun a xs e => k _ _ (fun z => hs a z xs e) e
theorem KT.upd {H : Hp} {p : Addr} {o : HO} (h : ∀ xs, H p ≠ some (.tup xs)) : KT H (upd H p o) := fun a xs e => by
  rw [upd_ne (fun z => h xs (by rw [← z]; exact e))]
  exact e
mutual
theorem Td.mono {H H' : Hp} (k : KT H H') : ∀ {v : V} {d : PyData}, Td H v d → Td H' v d
  | _, _, .non => .non
  | _, _, .bl b => .bl b
  | _, _, .int i => .int i
  | _, _, .str x => .str x
  | _, _, .tup h t => .tup (k _ _ h) (TdAll.mono k t)
theorem TdAll.mono {H H' : Hp} (k : KT H H') : ∀ {vs : List V} {ds : List PyData}, TdAll H vs ds → TdAll H' vs ds
  | _, _, .nil => .nil
  | _, _, .cons h t => .cons (Td.mono k h) (TdAll.mono k t)
end
mutual
theorem Td.dp {K : PySem.W.Frag} {H : Hp} : ∀ {v : V} {d : PyData}, Td H v d → Dp K H v d
  | _, _, .non => .non
  | _, _, .bl b => .bl b
  | _, _, .int i => .int i
  | _, _, .str x => .str x
  | _, _, .tup h t => .tup (SqT.of h) (TdAll.dp t)
theorem TdAll.dp {K : PySem.W.Frag} {H : Hp} : ∀ {vs : List V} {ds : List PyData}, TdAll H vs ds → DpAll K H vs ds
  | _, _, .nil => .nil
  | _, _, .cons h t => .cons (Td.dp h) (TdAll.dp t)
end
theorem TdAll.length {H : Hp} : ∀ {vs : List V} {ds : List PyData}, TdAll H vs ds → vs.length = ds.length
  | _, _, .nil => rfl
  | _, _, .cons _ t => congrArg (· + 1) (TdAll.length t)
theorem TdAll.append {H : Hp} : ∀ {vs us : List V} {ds es : List PyData}, TdAll H vs ds → TdAll H us es → TdAll H (vs ++ us) (ds ++ es)
  | _, _, _, _, .nil, h => h
  | _, _, _, _, .cons a t, h => .cons a (TdAll.append t h)
theorem TdAll.get {H : Hp} : ∀ {vs : List V} {ds : List PyData} {i : Nat} {v : V}, TdAll H vs ds → vs[i]? = some v → ∃ d, ds[i]? = some d ∧ Td H v d
  | _, _, 0, _, .cons a _, h => by
    cases h
    exact ⟨_, rfl, a⟩
  | _, _, i + 1, _, .cons _ t, h => TdAll.get (i := i) t h
theorem td_strs {H : Hp} : ∀ l : List Str, TdAll H (l.map V.str) (l.map PyData.str)
  | [] => .nil
  | s :: l => .cons (.str s) (td_strs l)
theorem td_ints {H : Hp} : ∀ l : List Int, TdAll H (l.map V.int) (l.map PyData.int)
  | [] => .nil
  | s :: l => .cons (.int s) (td_ints l)
/-- what a place of a net holds is no tuple -/
theorem objs_notup {c : Cs} {z : NetZ} : ∀ x ∈ objs c z, ∀ xs, x.2 ≠ .tup xs := by
  intro x hx xs
  rcases mem_objs hx with h | ⟨y, _, h⟩ | ⟨y, _, h⟩
  · unfold netO at h
    simp only [List.mem_cons, List.not_mem_nil, or_false] at h
    rcases h with rfl | rfl | rfl | rfl | rfl | rfl | rfl | rfl | rfl | rfl <;> exact fun z => nomatch z
  · unfold nodeO at h
    simp only [List.mem_cons, List.not_mem_nil, or_false] at h
    rcases h with rfl | rfl | rfl <;> exact fun z => nomatch z
  · unfold rowO at h
    simp only [List.mem_cons, List.not_mem_nil, or_false] at h
    rcases h with rfl | rfl | rfl | rfl <;> exact fun z => nomatch z
end NZ
namespace NZ
open PySem L2 EX PyProof.Rows
theorem Holds.grow {H1 H' : Hp} {l m : List (Addr × HO)} (h : Holds H1 l) (s : Same H1 H') (hm : Holds H' m) (hf : ∀ x ∈ m, H1 x.1 = none) : Holds H' (l ++ m) := by
  refine ⟨?_, fun x hx => (List.mem_append.mp hx).elim (fun hx => s _ _ (h.at_ x hx)) (hm.at_ x)⟩
  rw [List.map_append, List.nodup_append]
  refine ⟨h.nd, hm.nd, fun a ha b hb e => ?_⟩
  obtain ⟨x, hx, rfl⟩ := List.mem_map.mp ha
  obtain ⟨y, hy, rfl⟩ := List.mem_map.mp hb
  have := hf y hy
  rw [← e, h.at_ x hx] at this
  cases this
theorem holds2 {H : Hp} {a b : Addr × HO} (h1 : H a.1 = some a.2) (h2 : H b.1 = some b.2) (n : a.1 ≠ b.1) : Holds H [a, b] := ⟨by simpa using n, fun x hx => by
  simp only [List.mem_cons, List.not_mem_nil, or_false] at hx
  rcases hx with rfl | rfl
  · exact h1
  · exact h2⟩
theorem holds3 {H : Hp} {a b d : Addr × HO} (h1 : H a.1 = some a.2) (h2 : H b.1 = some b.2) (h3 : H d.1 = some d.2) (n1 : a.1 ≠ b.1) (n2 : a.1 ≠ d.1) (n3 : b.1 ≠ d.1) : Holds H [a, b, d] := ⟨by
  simp only [List.map_cons, List.map_nil, List.nodup_cons, List.mem_cons, List.not_mem_nil, or_false, not_or, List.nodup_nil, and_true]
  exact ⟨⟨n1, n2⟩, n3, not_false⟩, fun x hx => by
  simp only [List.mem_cons, List.not_mem_nil, or_false] at hx
  rcases hx with rfl | rfl | rfl
  · exact h1
  · exact h2
  · exact h3⟩
end NZ
set_option Elab.async false
set_option linter.all false
set_option maxRecDepth 100000
set_option maxHeartbeats 4000000
namespace K03
open PySem L2 EX PyProof.Rows LamX
open NZ
abbrev sIK : Stmt := inClass (top 3) 0
theorem scsIK : FnScope ["self", "given"] ["self", "given"] (defScope sIK) := ⟨rfl, rfl, rfl, by decide +kernel, rfl, by decide +kernel, by decide +kernel⟩
abbrev sIN : Stmt := inClass (top 4) 0
theorem scsIN : FnScope ["self", "given"] ["self", "given"] (defScope sIN) := ⟨rfl, rfl, rfl, by decide +kernel, rfl, by decide +kernel, by decide +kernel⟩
abbrev sIV : Stmt := inClass (top 5) 0
theorem scsIV : FnScope ["self", "given"] ["self", "given"] (defScope sIV) := ⟨rfl, rfl, rfl, by decide +kernel, rfl, by decide +kernel, by decide +kernel⟩
abbrev sIA : Stmt := inClass (top 7) 0
theorem scsIA : FnScope ["self", "given"] ["self", "given"] (defScope sIA) := ⟨rfl, rfl, rfl, by decide +kernel, rfl, by decide +kernel, by decide +kernel⟩
abbrev sUN : Stmt := inClass (top 8) 0
theorem scsUN : FnScope ["self", "node"] ["self", "node"] (defScope sUN) := ⟨rfl, rfl, rfl, by decide +kernel, rfl, by decide +kernel, by decide +kernel⟩
abbrev sUK : Stmt := inClass (top 9) 0
theorem scsUK : FnScope ["self", "word"] ["self", "word"] (defScope sUK) := ⟨rfl, rfl, rfl, by decide +kernel, rfl, by decide +kernel, by decide +kernel⟩
abbrev sNT : Stmt := inClass (top 13) 0
theorem scsNT : FnScope ["self", "node"] ["self", "node"] (defScope sNT) := ⟨rfl, rfl, rfl, by decide +kernel, rfl, by decide +kernel, by decide +kernel⟩
abbrev sNR : Stmt := inClass (top 14) 0
theorem scsNR : FnScope ["self", "node"] ["self", "node"] (defScope sNR) := ⟨rfl, rfl, rfl, by decide +kernel, rfl, by decide +kernel, by decide +kernel⟩
abbrev sTL : Stmt := inClass (top 17) 0
theorem scsTL : FnScope ["self", "least"] ["self", "least"] (defScope sTL) := ⟨rfl, rfl, rfl, by decide +kernel, rfl, by decide +kernel, by decide +kernel⟩
abbrev sLE : Stmt := inClass (top 18) 0
theorem scsLE : FnScope ["self", "limit"] ["self", "limit"] (defScope sLE) := ⟨rfl, rfl, rfl, by decide +kernel, rfl, by decide +kernel, by decide +kernel⟩
abbrev sNC : Stmt := inClass (top 11) 0
theorem scsNC : FnScope ["self", "word"] ["self", "word"] (defScope sNC) := ⟨rfl, rfl, rfl, by decide +kernel, rfl, by decide +kernel, by decide +kernel⟩
abbrev sHC : Stmt := inClass (top 15) 0
theorem scsHC : FnScope ["self", "node"] ["self", "node"] (defScope sHC) := ⟨rfl, rfl, rfl, by decide +kernel, rfl, by decide +kernel, by decide +kernel⟩
abbrev sBY : Stmt := inClass (top 16) 0
theorem scsBY : FnScope ["self", "node"] ["self", "node"] (defScope sBY) := ⟨rfl, rfl, rfl, by decide +kernel, rfl, by decide +kernel, by decide +kernel⟩
abbrev sID : Stmt := inClass (top 6) 0
theorem scsID : FnScope ["self", "given"] ["self", "given"] (defScope sID) := ⟨rfl, rfl, rfl, by decide +kernel, rfl, by decide +kernel, by decide +kernel⟩
abbrev sCI : Stmt := inClass (top 22) 0
theorem scCI : FnScope ["self", "home", "label", "above", "row", "cells"] ["self", "home", "label", "above", "row", "cells"] (defScope sCI) := ⟨rfl, rfl, rfl, by decide +kernel, rfl, by decide +kernel, by decide +kernel⟩
abbrev sEI : Stmt := inClass (top 20) 0
theorem scEI : FnScope ["self", "down_link", "up_link", "cells"] ["self", "down_link", "up_link", "cells"] (defScope sEI) := ⟨rfl, rfl, rfl, by decide +kernel, rfl, by decide +kernel, by decide +kernel⟩
section
variable {P : Program} {w : World} {K : PySem.W.Frag} {mg : Str → Option Value} {base : Heap}
theorem ok_IK {C f : Addr} {fd : FuncData} (F : Fun K "__init__" "InvalidKeys.__init__" sIK f fd) (T : EcC K C) (tk : PySem.W.takerIn K C "given" = some none) : FnOk P w K mg base CX0 1 f fd ["self", "given"] (spI1 K C "given") := by
  refine F.ok scsIK (fun vs H Q E h => ?_) (fun cdv A outer s H vs Q E hr h => ?_)
  · obtain ⟨a, v, rfl, _⟩ := h
    rfl
  · obtain ⟨a, v, rfl, e, q⟩ := h
    exact ⟨_, pss_one (ps_est (pv 0) (pv 1)), _, rfl, _, rfl, a, C, rfl, T, tk, .inl ⟨e, q⟩⟩
theorem ok_IN {C f : Addr} {fd : FuncData} (F : Fun K "__init__" "InvalidName.__init__" sIN f fd) (T : EcC K C) (tk : PySem.W.takerIn K C "given" = some none) : FnOk P w K mg base CX0 1 f fd ["self", "given"] (spI1 K C "given") := by
  refine F.ok scsIN (fun vs H Q E h => ?_) (fun cdv A outer s H vs Q E hr h => ?_)
  · obtain ⟨a, v, rfl, _⟩ := h
    rfl
  · obtain ⟨a, v, rfl, e, q⟩ := h
    exact ⟨_, pss_one (ps_est (pv 0) (pv 1)), _, rfl, _, rfl, a, C, rfl, T, tk, .inl ⟨e, q⟩⟩
theorem ok_IV {C f : Addr} {fd : FuncData} (F : Fun K "__init__" "InvalidValue.__init__" sIV f fd) (T : EcC K C) (tk : PySem.W.takerIn K C "given" = some none) : FnOk P w K mg base CX0 1 f fd ["self", "given"] (spI1 K C "given") := by
  refine F.ok scsIV (fun vs H Q E h => ?_) (fun cdv A outer s H vs Q E hr h => ?_)
  · obtain ⟨a, v, rfl, _⟩ := h
    rfl
  · obtain ⟨a, v, rfl, e, q⟩ := h
    exact ⟨_, pss_one (ps_est (pv 0) (pv 1)), _, rfl, _, rfl, a, C, rfl, T, tk, .inl ⟨e, q⟩⟩
theorem ok_IA {C f : Addr} {fd : FuncData} (F : Fun K "__init__" "InvalidAllowance.__init__" sIA f fd) (T : EcC K C) (tk : PySem.W.takerIn K C "given" = some none) : FnOk P w K mg base CX0 1 f fd ["self", "given"] (spI1 K C "given") := by
  refine F.ok scsIA (fun vs H Q E h => ?_) (fun cdv A outer s H vs Q E hr h => ?_)
  · obtain ⟨a, v, rfl, _⟩ := h
    rfl
  · obtain ⟨a, v, rfl, e, q⟩ := h
    exact ⟨_, pss_one (ps_est (pv 0) (pv 1)), _, rfl, _, rfl, a, C, rfl, T, tk, .inl ⟨e, q⟩⟩
theorem ok_UN {C f : Addr} {fd : FuncData} (F : Fun K "__init__" "UnknownNode.__init__" sUN f fd) (T : EcC K C) (tk : PySem.W.takerIn K C "node" = some none) : FnOk P w K mg base CX0 1 f fd ["self", "node"] (spI1 K C "node") := by
  refine F.ok scsUN (fun vs H Q E h => ?_) (fun cdv A outer s H vs Q E hr h => ?_)
  · obtain ⟨a, v, rfl, _⟩ := h
    rfl
  · obtain ⟨a, v, rfl, e, q⟩ := h
    exact ⟨_, pss_one (ps_est (pv 0) (pv 1)), _, rfl, _, rfl, a, C, rfl, T, tk, .inl ⟨e, q⟩⟩
theorem ok_UK {C f : Addr} {fd : FuncData} (F : Fun K "__init__" "UnknownKey.__init__" sUK f fd) (T : EcC K C) (tk : PySem.W.takerIn K C "word" = some none) : FnOk P w K mg base CX0 1 f fd ["self", "word"] (spI1 K C "word") := by
  refine F.ok scsUK (fun vs H Q E h => ?_) (fun cdv A outer s H vs Q E hr h => ?_)
  · obtain ⟨a, v, rfl, _⟩ := h
    rfl
  · obtain ⟨a, v, rfl, e, q⟩ := h
    exact ⟨_, pss_one (ps_est (pv 0) (pv 1)), _, rfl, _, rfl, a, C, rfl, T, tk, .inl ⟨e, q⟩⟩
theorem ok_NT {C f : Addr} {fd : FuncData} (F : Fun K "__init__" "NameTaken.__init__" sNT f fd) (T : EcC K C) (tk : PySem.W.takerIn K C "node" = some none) : FnOk P w K mg base CX0 1 f fd ["self", "node"] (spI1 K C "node") := by
  refine F.ok scsNT (fun vs H Q E h => ?_) (fun cdv A outer s H vs Q E hr h => ?_)
  · obtain ⟨a, v, rfl, _⟩ := h
    rfl
  · obtain ⟨a, v, rfl, e, q⟩ := h
    exact ⟨_, pss_one (ps_est (pv 0) (pv 1)), _, rfl, _, rfl, a, C, rfl, T, tk, .inl ⟨e, q⟩⟩
theorem ok_NR {C f : Addr} {fd : FuncData} (F : Fun K "__init__" "NotReady.__init__" sNR f fd) (T : EcC K C) (tk : PySem.W.takerIn K C "node" = some none) : FnOk P w K mg base CX0 1 f fd ["self", "node"] (spI1 K C "node") := by
  refine F.ok scsNR (fun vs H Q E h => ?_) (fun cdv A outer s H vs Q E hr h => ?_)
  · obtain ⟨a, v, rfl, _⟩ := h
    rfl
  · obtain ⟨a, v, rfl, e, q⟩ := h
    exact ⟨_, pss_one (ps_est (pv 0) (pv 1)), _, rfl, _, rfl, a, C, rfl, T, tk, .inl ⟨e, q⟩⟩
theorem ok_TL {C f : Addr} {fd : FuncData} (F : Fun K "__init__" "TooLow.__init__" sTL f fd) (T : EcC K C) (tk : PySem.W.takerIn K C "least" = some none) : FnOk P w K mg base CX0 1 f fd ["self", "least"] (spI1 K C "least") := by
  refine F.ok scsTL (fun vs H Q E h => ?_) (fun cdv A outer s H vs Q E hr h => ?_)
  · obtain ⟨a, v, rfl, _⟩ := h
    rfl
  · obtain ⟨a, v, rfl, e, q⟩ := h
    exact ⟨_, pss_one (ps_est (pv 0) (pv 1)), _, rfl, _, rfl, a, C, rfl, T, tk, .inl ⟨e, q⟩⟩
theorem ok_LE {C f : Addr} {fd : FuncData} (F : Fun K "__init__" "LimitExceeded.__init__" sLE f fd) (T : EcC K C) (tk : PySem.W.takerIn K C "limit" = some none) : FnOk P w K mg base CX0 1 f fd ["self", "limit"] (spI1 K C "limit") := by
  refine F.ok scsLE (fun vs H Q E h => ?_) (fun cdv A outer s H vs Q E hr h => ?_)
  · obtain ⟨a, v, rfl, _⟩ := h
    rfl
  · obtain ⟨a, v, rfl, e, q⟩ := h
    exact ⟨_, pss_one (ps_est (pv 0) (pv 1)), _, rfl, _, rfl, a, C, rfl, T, tk, .inl ⟨e, q⟩⟩
theorem ok_NC {C f : Addr} {fd : FuncData} (F : Fun K "__init__" "NoCopy.__init__" sNC f fd) (T : EcC K C) (tk : PySem.W.takerIn K C "word" = some none) : FnOk P w K mg base CX0 1 f fd ["self", "word"] (spI1 K C "word") := by
  refine F.ok scsNC (fun vs H Q E h => ?_) (fun cdv A outer s H vs Q E hr h => ?_)
  · obtain ⟨a, v, rfl, _⟩ := h
    rfl
  · obtain ⟨a, v, rfl, e, q⟩ := h
    exact ⟨_, pss_one (ps_est (pv 0) (pv 1)), _, rfl, _, rfl, a, C, rfl, T, tk, .inl ⟨e, q⟩⟩
theorem ok_HC {C f : Addr} {fd : FuncData} (F : Fun K "__init__" "HasChildren.__init__" sHC f fd) (T : EcC K C) (tk : PySem.W.takerIn K C "node" = some none) : FnOk P w K mg base CX0 1 f fd ["self", "node"] (spI1 K C "node") := by
  refine F.ok scsHC (fun vs H Q E h => ?_) (fun cdv A outer s H vs Q E hr h => ?_)
  · obtain ⟨a, v, rfl, _⟩ := h
    rfl
  · obtain ⟨a, v, rfl, e, q⟩ := h
    exact ⟨_, pss_one (ps_est (pv 0) (pv 1)), _, rfl, _, rfl, a, C, rfl, T, tk, .inl ⟨e, q⟩⟩
theorem ok_BY {C f : Addr} {fd : FuncData} (F : Fun K "__init__" "Busy.__init__" sBY f fd) (T : EcC K C) (tk : PySem.W.takerIn K C "node" = some none) : FnOk P w K mg base CX0 1 f fd ["self", "node"] (spI1 K C "node") := by
  refine F.ok scsBY (fun vs H Q E h => ?_) (fun cdv A outer s H vs Q E hr h => ?_)
  · obtain ⟨a, v, rfl, _⟩ := h
    rfl
  · obtain ⟨a, v, rfl, e, q⟩ := h
    exact ⟨_, pss_one (ps_est (pv 0) (pv 1)), _, rfl, _, rfl, a, C, rfl, T, tk, .inl ⟨e, q⟩⟩
theorem ok_ID {C f : Addr} {fd : FuncData} (F : Fun K "__init__" "InvalidNeed.__init__" sID f fd) (T : EcC K C) (tk : PySem.W.takerIn K C "given" = some none) : FnOk P w K mg base CX0 1 f fd ["self", "given"] (spI1 K C "given") := by
  refine F.ok scsID (fun vs H Q E h => ?_) (fun cdv A outer s H vs Q E hr h => ?_)
  · obtain ⟨a, v, rfl, _⟩ := h
    rfl
  · obtain ⟨a, v, rfl, e, q⟩ := h
    exact ⟨_, pss_one (ps_est (pv 0) (pv 1)), _, rfl, _, rfl, a, C, rfl, T, tk, .inl ⟨e, q⟩⟩
end
abbrev cfl (home label above row cells : V) (ce kt : Addr) : List (Str × V) := [("home", home), ("label", label), ("above", above), ("row", row), ("gone", .bl false), ("cells", cells), ("entries", .ref ce), ("kids", .ref kt)]
abbrev efl (above dl ul cells : V) (rt dq uq : Addr) : List (Str × V) := [("above", above), ("down_link", dl), ("up_link", ul), ("cells", cells), ("raising", .ref rt), ("there", .bl true), ("crashed", .bl false), ("down", .ref dq), ("up", .ref uq)]
structure CacheC (K : PySem.W.Frag) (C : Addr) : Prop where
  cl : Cls K C
  home : NoAttr K C "home"
  label : NoAttr K C "label"
  above : NoAttr K C "above"
  row : NoAttr K C "row"
  gone : NoAttr K C "gone"
  cells : NoAttr K C "cells"
  entries : NoAttr K C "entries"
  kids : NoAttr K C "kids"
structure EntryC (K : PySem.W.Frag) (C : Addr) : Prop where
  cl : Cls K C
  above : NoAttr K C "above"
  down_link : NoAttr K C "down_link"
  up_link : NoAttr K C "up_link"
  cells : NoAttr K C "cells"
  raising : NoAttr K C "raising"
  there : NoAttr K C "there"
  crashed : NoAttr K C "crashed"
  down : NoAttr K C "down"
  up : NoAttr K C "up"
def spCI (K : PySem.W.Frag) (C : Addr) : Sp := fun vs H Q _ => ∃ (p dx : Addr) (v1 v2 v3 v4 v5 : V), vs = [.ref p, v1, v2, v3, v4, v5] ∧ H p = some (.ins C dx []) ∧
  ∀ H' ce kt, Keeps [p] H H' → Holds H' [(p, .ins C dx (cfl v1 v2 v3 v4 v5 ce kt)), (ce, .dK [])] → H ce = none → H' kt = some (.tup []) → Q .non H'
def spEI (K : PySem.W.Frag) (C : Addr) : Sp := fun vs H Q _ => ∃ (p dx da : Addr) (x : V) (xs : List V) (ul cd : V), vs = [.ref p, .ref da, ul, cd] ∧ H p = some (.ins C dx []) ∧ H da = some (.tup (x :: xs)) ∧
  ∀ H' rt dq uq, Keeps [p] H H' → Holds H' [(p, .ins C dx (efl x (.ref da) ul cd rt dq uq)), (dq, .lst []), (uq, .lst [])] → H dq = none → H uq = none → H' rt = some (.tup []) → Q .non H'
section
variable {P : Program} {w : World} {K : PySem.W.Frag} {mg : Str → Option Value} {base : Heap}
theorem ok_ci {C f : Addr} {fd : FuncData} (F : Fun K "__init__" "Cache.__init__" sCI f fd) (T : CacheC K C) : FnOk P w K mg base CX0 1 f fd ["self", "home", "label", "above", "row", "cells"] (spCI K C) := by
  refine F.ok scCI (fun vs H Q E h => ?_) (fun cdv A outer s H vs Q E hr h => ?_)
  · obtain ⟨p, dx, v1, v2, v3, v4, v5, rfl, _⟩ := h
    rfl
  · obtain ⟨p, dx, v1, v2, v3, v4, v5, rfl, hp, k⟩ := h
    refine ⟨_, (pss_cons (ps_fld (pv 0) (pv 1) rfl)
        (pss_cons (ps_fld (pv 0) (pv 2) rfl)
        (pss_cons (ps_fld (pv 0) (pv 3) rfl)
        (pss_cons (ps_fld (pv 0) (pv 4) rfl)
        (pss_cons (ps_fld (pv 0) pe_bl rfl)
        (pss_cons (ps_fld (pv 0) (pv 5) rfl)
        (pss_cons (ps_fld (pv 0) pe_dnewK rfl)
        (pss_one (ps_fld (pv 0) (pe_tup pa_nil) rfl))))))))), ?_⟩
    have b0 := Bd.start hp
    refine ⟨_, rfl, _, rfl, p, C, dx, _, rfl, b0.at_, T.cl, T.home, by show 0 < 1000; decide, ?_⟩
    have b1 := b0.put (fs' := ([("home", v1)] : List (Str × V)))
    rw [show putF "home" (v1) ([] : List (Str × V)) = ([("home", v1)] : List (Str × V)) from by rfl]
    generalize upd H p (HO.ins C dx ([("home", v1)] : List (Str × V))) = H1 at b1 ⊢
    refine ⟨_, rfl, _, rfl, p, C, dx, _, rfl, b1.at_, T.cl, T.label, by show 1 < 1000; decide, ?_⟩
    have b2 := b1.put (fs' := ([("home", v1), ("label", v2)] : List (Str × V)))
    rw [show putF "label" (v2) ([("home", v1)] : List (Str × V)) = ([("home", v1), ("label", v2)] : List (Str × V)) from by rfl]
    generalize upd H1 p (HO.ins C dx ([("home", v1), ("label", v2)] : List (Str × V))) = H2 at b2 ⊢
    refine ⟨_, rfl, _, rfl, p, C, dx, _, rfl, b2.at_, T.cl, T.above, by show 2 < 1000; decide, ?_⟩
    have b3 := b2.put (fs' := ([("home", v1), ("label", v2), ("above", v3)] : List (Str × V)))
    rw [show putF "above" (v3) ([("home", v1), ("label", v2)] : List (Str × V)) = ([("home", v1), ("label", v2), ("above", v3)] : List (Str × V)) from by rfl]
    generalize upd H2 p (HO.ins C dx ([("home", v1), ("label", v2), ("above", v3)] : List (Str × V))) = H3 at b3 ⊢
    refine ⟨_, rfl, _, rfl, p, C, dx, _, rfl, b3.at_, T.cl, T.row, by show 3 < 1000; decide, ?_⟩
    have b4 := b3.put (fs' := ([("home", v1), ("label", v2), ("above", v3), ("row", v4)] : List (Str × V)))
    rw [show putF "row" (v4) ([("home", v1), ("label", v2), ("above", v3)] : List (Str × V)) = ([("home", v1), ("label", v2), ("above", v3), ("row", v4)] : List (Str × V)) from by rfl]
    generalize upd H3 p (HO.ins C dx ([("home", v1), ("label", v2), ("above", v3), ("row", v4)] : List (Str × V))) = H4 at b4 ⊢
    refine ⟨_, rfl, p, C, dx, _, rfl, b4.at_, T.cl, T.gone, by show 4 < 1000; decide, ?_⟩
    have b5 := b4.put (fs' := ([("home", v1), ("label", v2), ("above", v3), ("row", v4), ("gone", .bl false)] : List (Str × V)))
    rw [show putF "gone" (.bl false) ([("home", v1), ("label", v2), ("above", v3), ("row", v4)] : List (Str × V)) = ([("home", v1), ("label", v2), ("above", v3), ("row", v4), ("gone", .bl false)] : List (Str × V)) from by rfl]
    generalize upd H4 p (HO.ins C dx ([("home", v1), ("label", v2), ("above", v3), ("row", v4), ("gone", .bl false)] : List (Str × V))) = H5 at b5 ⊢
    refine ⟨_, rfl, _, rfl, p, C, dx, _, rfl, b5.at_, T.cl, T.cells, by show 5 < 1000; decide, ?_⟩
    have b6 := b5.put (fs' := ([("home", v1), ("label", v2), ("above", v3), ("row", v4), ("gone", .bl false), ("cells", v5)] : List (Str × V)))
    rw [show putF "cells" (v5) ([("home", v1), ("label", v2), ("above", v3), ("row", v4), ("gone", .bl false)] : List (Str × V)) = ([("home", v1), ("label", v2), ("above", v3), ("row", v4), ("gone", .bl false), ("cells", v5)] : List (Str × V)) from by rfl]
    generalize upd H5 p (HO.ins C dx ([("home", v1), ("label", v2), ("above", v3), ("row", v4), ("gone", .bl false), ("cells", v5)] : List (Str × V))) = H6 at b6 ⊢
    refine fun ce hce => ?_
    have fce := b6.k.free (by simpa using b6.ne hce) hce
    have b6a := b6.new (o := .dK []) hce
    generalize upd H6 ce (HO.dK []) = H6a at b6a ⊢
    refine ⟨_, rfl, p, C, dx, _, rfl, b6a.at_, T.cl, T.entries, by show 6 < 1000; decide, ?_⟩
    have b7 := b6a.put (fs' := ([("home", v1), ("label", v2), ("above", v3), ("row", v4), ("gone", .bl false), ("cells", v5), ("entries", .ref ce)] : List (Str × V)))
    rw [show putF "entries" (.ref ce) ([("home", v1), ("label", v2), ("above", v3), ("row", v4), ("gone", .bl false), ("cells", v5)] : List (Str × V)) = ([("home", v1), ("label", v2), ("above", v3), ("row", v4), ("gone", .bl false), ("cells", v5), ("entries", .ref ce)] : List (Str × V)) from by rfl]
    generalize upd H6a p (HO.ins C dx ([("home", v1), ("label", v2), ("above", v3), ("row", v4), ("gone", .bl false), ("cells", v5), ("entries", .ref ce)] : List (Str × V))) = H7 at b7 ⊢
    refine ⟨by show 0 ≤ sizeLine; decide, fun kt hkt => ?_⟩
    have fkt := b7.k.free (by simpa using b7.ne hkt) hkt
    have b7a := b7.new (o := .tup []) hkt
    generalize upd H7 kt (HO.tup []) = H7a at b7a ⊢
    refine ⟨_, rfl, p, C, dx, _, rfl, b7a.at_, T.cl, T.kids, by show 7 < 1000; decide, ?_⟩
    have b8 := b7a.put (fs' := ([("home", v1), ("label", v2), ("above", v3), ("row", v4), ("gone", .bl false), ("cells", v5), ("entries", .ref ce), ("kids", .ref kt)] : List (Str × V)))
    rw [show putF "kids" (.ref kt) ([("home", v1), ("label", v2), ("above", v3), ("row", v4), ("gone", .bl false), ("cells", v5), ("entries", .ref ce)] : List (Str × V)) = ([("home", v1), ("label", v2), ("above", v3), ("row", v4), ("gone", .bl false), ("cells", v5), ("entries", .ref ce), ("kids", .ref kt)] : List (Str × V)) from by rfl]
    generalize upd H7a p (HO.ins C dx ([("home", v1), ("label", v2), ("above", v3), ("row", v4), ("gone", .bl false), ("cells", v5), ("entries", .ref ce), ("kids", .ref kt)] : List (Str × V))) = H8 at b8 ⊢
    exact k _ ce kt b8.k (holds2 b8.at_ (b8.get 1) (b6.ne hce).symm) fce (b8.get 0)
theorem ok_ei {C f : Addr} {fd : FuncData} (F : Fun K "__init__" "Entry.__init__" sEI f fd) (T : EntryC K C) : FnOk P w K mg base CX0 1 f fd ["self", "down_link", "up_link", "cells"] (spEI K C) := by
  refine F.ok scEI (fun vs H Q E h => ?_) (fun cdv A outer s H vs Q E hr h => ?_)
  · obtain ⟨p, dx, da, x, xs, ul, cd, rfl, _⟩ := h
    rfl
  · obtain ⟨p, dx, da, x, xs, ul, cd, rfl, hp, hda, k⟩ := h
    refine ⟨_, (pss_cons (ps_fld (pv 0) (pe_ix ix_tup (pv 1) pe_int (fun _ _ => rfl)) rfl)
        (pss_cons (ps_fld (pv 0) (pv 1) rfl)
        (pss_cons (ps_fld (pv 0) (pv 2) rfl)
        (pss_cons (ps_fld (pv 0) (pv 3) rfl)
        (pss_cons (ps_fld (pv 0) (pe_tup pa_nil) rfl)
        (pss_cons (ps_fld (pv 0) pe_bl rfl)
        (pss_cons (ps_fld (pv 0) pe_bl rfl)
        (pss_cons (ps_fld (pv 0) (pe_lst pa_nil) rfl)
        (pss_one (ps_fld (pv 0) (pe_lst pa_nil) rfl)))))))))), ?_⟩
    have b0 := Bd.start hp
    refine ⟨_, rfl, da, _, _, _, rfl, rfl, SqT.of hda, atI_nat (j := 0) rfl, _, rfl, p, C, dx, _, rfl, b0.at_, T.cl, T.above, by show 0 < 1000; decide, ?_⟩
    have b1 := b0.put (fs' := ([("above", x)] : List (Str × V)))
    rw [show putF "above" (x) ([] : List (Str × V)) = ([("above", x)] : List (Str × V)) from by rfl]
    generalize upd H p (HO.ins C dx ([("above", x)] : List (Str × V))) = H1 at b1 ⊢
    refine ⟨_, rfl, _, rfl, p, C, dx, _, rfl, b1.at_, T.cl, T.down_link, by show 1 < 1000; decide, ?_⟩
    have b2 := b1.put (fs' := ([("above", x), ("down_link", .ref da)] : List (Str × V)))
    rw [show putF "down_link" (.ref da) ([("above", x)] : List (Str × V)) = ([("above", x), ("down_link", .ref da)] : List (Str × V)) from by rfl]
    generalize upd H1 p (HO.ins C dx ([("above", x), ("down_link", .ref da)] : List (Str × V))) = H2 at b2 ⊢
    refine ⟨_, rfl, _, rfl, p, C, dx, _, rfl, b2.at_, T.cl, T.up_link, by show 2 < 1000; decide, ?_⟩
    have b3 := b2.put (fs' := ([("above", x), ("down_link", .ref da), ("up_link", ul)] : List (Str × V)))
    rw [show putF "up_link" (ul) ([("above", x), ("down_link", .ref da)] : List (Str × V)) = ([("above", x), ("down_link", .ref da), ("up_link", ul)] : List (Str × V)) from by rfl]
    generalize upd H2 p (HO.ins C dx ([("above", x), ("down_link", .ref da), ("up_link", ul)] : List (Str × V))) = H3 at b3 ⊢
    refine ⟨_, rfl, _, rfl, p, C, dx, _, rfl, b3.at_, T.cl, T.cells, by show 3 < 1000; decide, ?_⟩
    have b4 := b3.put (fs' := ([("above", x), ("down_link", .ref da), ("up_link", ul), ("cells", cd)] : List (Str × V)))
    rw [show putF "cells" (cd) ([("above", x), ("down_link", .ref da), ("up_link", ul)] : List (Str × V)) = ([("above", x), ("down_link", .ref da), ("up_link", ul), ("cells", cd)] : List (Str × V)) from by rfl]
    generalize upd H3 p (HO.ins C dx ([("above", x), ("down_link", .ref da), ("up_link", ul), ("cells", cd)] : List (Str × V))) = H4 at b4 ⊢
    refine ⟨by show 0 ≤ sizeLine; decide, fun rt hrt => ?_⟩
    have frt := b4.k.free (by simpa using b4.ne hrt) hrt
    have b4a := b4.new (o := .tup []) hrt
    generalize upd H4 rt (HO.tup []) = H4a at b4a ⊢
    refine ⟨_, rfl, p, C, dx, _, rfl, b4a.at_, T.cl, T.raising, by show 4 < 1000; decide, ?_⟩
    have b5 := b4a.put (fs' := ([("above", x), ("down_link", .ref da), ("up_link", ul), ("cells", cd), ("raising", .ref rt)] : List (Str × V)))
    rw [show putF "raising" (.ref rt) ([("above", x), ("down_link", .ref da), ("up_link", ul), ("cells", cd)] : List (Str × V)) = ([("above", x), ("down_link", .ref da), ("up_link", ul), ("cells", cd), ("raising", .ref rt)] : List (Str × V)) from by rfl]
    generalize upd H4a p (HO.ins C dx ([("above", x), ("down_link", .ref da), ("up_link", ul), ("cells", cd), ("raising", .ref rt)] : List (Str × V))) = H5 at b5 ⊢
    refine ⟨_, rfl, p, C, dx, _, rfl, b5.at_, T.cl, T.there, by show 5 < 1000; decide, ?_⟩
    have b6 := b5.put (fs' := ([("above", x), ("down_link", .ref da), ("up_link", ul), ("cells", cd), ("raising", .ref rt), ("there", .bl true)] : List (Str × V)))
    rw [show putF "there" (.bl true) ([("above", x), ("down_link", .ref da), ("up_link", ul), ("cells", cd), ("raising", .ref rt)] : List (Str × V)) = ([("above", x), ("down_link", .ref da), ("up_link", ul), ("cells", cd), ("raising", .ref rt), ("there", .bl true)] : List (Str × V)) from by rfl]
    generalize upd H5 p (HO.ins C dx ([("above", x), ("down_link", .ref da), ("up_link", ul), ("cells", cd), ("raising", .ref rt), ("there", .bl true)] : List (Str × V))) = H6 at b6 ⊢
    refine ⟨_, rfl, p, C, dx, _, rfl, b6.at_, T.cl, T.crashed, by show 6 < 1000; decide, ?_⟩
    have b7 := b6.put (fs' := ([("above", x), ("down_link", .ref da), ("up_link", ul), ("cells", cd), ("raising", .ref rt), ("there", .bl true), ("crashed", .bl false)] : List (Str × V)))
    rw [show putF "crashed" (.bl false) ([("above", x), ("down_link", .ref da), ("up_link", ul), ("cells", cd), ("raising", .ref rt), ("there", .bl true)] : List (Str × V)) = ([("above", x), ("down_link", .ref da), ("up_link", ul), ("cells", cd), ("raising", .ref rt), ("there", .bl true), ("crashed", .bl false)] : List (Str × V)) from by rfl]
    generalize upd H6 p (HO.ins C dx ([("above", x), ("down_link", .ref da), ("up_link", ul), ("cells", cd), ("raising", .ref rt), ("there", .bl true), ("crashed", .bl false)] : List (Str × V))) = H7 at b7 ⊢
    refine ⟨by show 0 ≤ sizeLine; decide, fun dq hdq => ?_⟩
    have fdq := b7.k.free (by simpa using b7.ne hdq) hdq
    have b7a := b7.new (o := .lst []) hdq
    generalize upd H7 dq (HO.lst []) = H7a at b7a ⊢
    refine ⟨_, rfl, p, C, dx, _, rfl, b7a.at_, T.cl, T.down, by show 7 < 1000; decide, ?_⟩
    have b8 := b7a.put (fs' := ([("above", x), ("down_link", .ref da), ("up_link", ul), ("cells", cd), ("raising", .ref rt), ("there", .bl true), ("crashed", .bl false), ("down", .ref dq)] : List (Str × V)))
    rw [show putF "down" (.ref dq) ([("above", x), ("down_link", .ref da), ("up_link", ul), ("cells", cd), ("raising", .ref rt), ("there", .bl true), ("crashed", .bl false)] : List (Str × V)) = ([("above", x), ("down_link", .ref da), ("up_link", ul), ("cells", cd), ("raising", .ref rt), ("there", .bl true), ("crashed", .bl false), ("down", .ref dq)] : List (Str × V)) from by rfl]
    generalize upd H7a p (HO.ins C dx ([("above", x), ("down_link", .ref da), ("up_link", ul), ("cells", cd), ("raising", .ref rt), ("there", .bl true), ("crashed", .bl false), ("down", .ref dq)] : List (Str × V))) = H8 at b8 ⊢
    refine ⟨by show 0 ≤ sizeLine; decide, fun uq huq => ?_⟩
    have fuq := b8.k.free (by simpa using b8.ne huq) huq
    have b8a := b8.new (o := .lst []) huq
    generalize upd H8 uq (HO.lst []) = H8a at b8a ⊢
    refine ⟨_, rfl, p, C, dx, _, rfl, b8a.at_, T.cl, T.up, by show 8 < 1000; decide, ?_⟩
    have b9 := b8a.put (fs' := ([("above", x), ("down_link", .ref da), ("up_link", ul), ("cells", cd), ("raising", .ref rt), ("there", .bl true), ("crashed", .bl false), ("down", .ref dq), ("up", .ref uq)] : List (Str × V)))
    rw [show putF "up" (.ref uq) ([("above", x), ("down_link", .ref da), ("up_link", ul), ("cells", cd), ("raising", .ref rt), ("there", .bl true), ("crashed", .bl false), ("down", .ref dq)] : List (Str × V)) = ([("above", x), ("down_link", .ref da), ("up_link", ul), ("cells", cd), ("raising", .ref rt), ("there", .bl true), ("crashed", .bl false), ("down", .ref dq), ("up", .ref uq)] : List (Str × V)) from by rfl]
    generalize upd H8a p (HO.ins C dx ([("above", x), ("down_link", .ref da), ("up_link", ul), ("cells", cd), ("raising", .ref rt), ("there", .bl true), ("crashed", .bl false), ("down", .ref dq), ("up", .ref uq)] : List (Str × V))) = H9 at b9 ⊢
    exact k _ rt dq uq b9.k (holds3 b9.at_ (b9.get 1) (b9.get 0) (b7.ne hdq).symm (b8.ne huq).symm (ne_by (b8.get 0) huq)) fdq fuq (b9.get 2)
end
end K03
set_option Elab.async false
set_option linter.all false
set_option maxRecDepth 100000
set_option maxHeartbeats 4000000
namespace K03
open PySem L2 EX PyProof.Rows LamX
open NZ
/-! ### looks at a node -/
structure NodeH (C : Addr) (H : Hp) (n : Addr) (z : NodeZ) : Prop where
  i : H z.na = some (.ins C z.dx (nodeF n z))
  cd : H z.cd = some (.dK (strK z.cells))
  en : H z.en = some (.dK (NZ.refK z.kids))
structure RowH (E : Addr) (H : Hp) (r : RowZ) : Prop where
  i : H r.ra = some (.ins E r.dx (rowF r))
  cd : H r.cd = some (.dK (strK r.cells))
  dq : H r.dq = some (.lst r.down)
  uq : H r.uq = some (.lst r.up)
theorem NodeH.of {c : Cs} {H : Hp} {Z : NetZ} (h : NetH c H Z) {y : NodeZ} (hy : y ∈ Z.nodes) : NodeH c.C H Z.n y := ⟨h.at_node hy 0, h.at_node hy 1, h.at_node hy 2⟩
theorem RowH.of {c : Cs} {H : Hp} {Z : NetZ} (h : NetH c H Z) {y : RowZ} (hy : y ∈ Z.rows) : RowH c.E H y := ⟨h.at_row hy 0, h.at_row hy 1, h.at_row hy 2, h.at_row hy 3⟩
def spSeek (C : Addr) : Sp := fun vs H Q _ => ∃ n z, vs = [.ref z.na] ∧ NodeH C H n z ∧ Q (.ref z.na) H
/-- a look at a cell that is there -/
def spCell (C : Addr) (val : V → V → V → V → V) : Sp := fun vs H Q _ => ∃ n z k t v1 v2 v3 v4, vs = [.ref z.na, .str k] ∧ NodeH C H n z ∧ valV (strK z.cells) (Sum.inr k) = some (.ref t) ∧ H t = some (.tup [v1, v2, v3, v4]) ∧ Q (val v1 v2 v3 v4) H
abbrev spCGet (C : Addr) : Sp := spCell C fun v1 _ _ _ => v1
abbrev spAlw (C : Addr) : Sp := spCell C fun _ v2 _ _ => v2
abbrev spTold (C : Addr) : Sp := spCell C fun _ _ v3 _ => v3
def isRef : V → Bool
  | .ref _ => true
  | _ => false
/-- the keys that have a copy -/
def copied (z : NodeZ) : List Str := (z.cells.filter fun p => isRef p.2).map (·.1)
def CellsOk (z : NodeZ) : Prop := (z.cells.map (·.1)).Nodup ∧ z.cells.length ≤ 1000 ∧ ∀ p ∈ z.cells, p.2 = .non ∨ ∃ t, p.2 = .ref t
def spCk (C : Addr) : Sp := fun vs H Q _ => ∃ n z, vs = [.ref z.na] ∧ NodeH C H n z ∧ CellsOk z ∧ ∀ H' l, Same H H' → H' l = some (.lst ((copied z).map V.str)) → Q (.ref l) H'
def spCLen (C : Addr) : Sp := fun vs H Q _ => ∃ n z, vs = [.ref z.na] ∧ NodeH C H n z ∧ CellsOk z ∧ ∀ H', Same H H' → Q (.int ((copied z).length : Nat)) H'
def spEntry (C E : Addr) : Sp := fun vs H Q _ => ∃ n z ch k r v, vs = [.ref z.na, .str ch, .str k] ∧ NodeH C H n z ∧ valV (NZ.refK z.kids) (Sum.inr ch) = some (.ref r.ra) ∧ RowH E H r ∧ valV (strK r.cells) (Sum.inr k) = some v ∧ Q v H
theorem strK_get {l : List (Str × V)} {i : Nat} {k : Key} {v : V} (h : (strK l)[i]? = some (k, v)) : ∃ s, k = Sum.inr s ∧ l[i]? = some (s, v) := by
  rw [List.getElem?_map] at h
  cases e : l[i]? with
  | none => rw [e] at h; cases h
  | some p =>
    rw [e] at h
    cases h
    exact ⟨_, rfl, rfl⟩
theorem strK_val {l : List (Str × V)} (nd : (l.map (·.1)).Nodup) {k : Str} {v : V} (h : (k, v) ∈ l) : valV (strK l) (Sum.inr k) = some v := by
  induction l with
  | nil => cases h
  | cons q r ih =>
    obtain ⟨n1, n2⟩ := List.nodup_cons.mp nd
    rcases List.mem_cons.mp h with e | e
    · subst e
      exact valV_pos rfl
    · exact (valV_neg (fun z => n1 (List.mem_map.mpr ⟨_, e, (Sum.inr.inj z).symm⟩))).trans (ih n2 e)
abbrev sSk : Stmt := inClass (top 22) 2
theorem scSk : FnScope ["self", "nodes"] ["self"] (defScope sSk) := ⟨rfl, rfl, rfl, by decide +kernel, rfl, by decide +kernel, by decide +kernel⟩
abbrev sCg : Stmt := inClass (top 22) 9
theorem scCg : FnScope ["self", "at", "cell"] ["self", "at"] (defScope sCg) := ⟨rfl, rfl, rfl, by decide +kernel, rfl, by decide +kernel, by decide +kernel⟩
abbrev sCl : Stmt := inClass (top 22) 11
theorem scCl : FnScope ["self"] ["self"] (defScope sCl) := ⟨rfl, rfl, rfl, by decide +kernel, rfl, by decide +kernel, by decide +kernel⟩
abbrev sAl : Stmt := inClass (top 22) 14
theorem scAl : FnScope ["self", "key", "cell"] ["self", "key"] (defScope sAl) := ⟨rfl, rfl, rfl, by decide +kernel, rfl, by decide +kernel, by decide +kernel⟩
abbrev sTo : Stmt := inClass (top 22) 15
theorem scTo : FnScope ["self", "key", "cell"] ["self", "key"] (defScope sTo) := ⟨rfl, rfl, rfl, by decide +kernel, rfl, by decide +kernel, by decide +kernel⟩
abbrev sEn : Stmt := inClass (top 22) 18
theorem scEn : FnScope ["self", "child", "key", "entries", "cells"] ["self", "child", "key"] (defScope sEn) := ⟨rfl, rfl, rfl, by decide +kernel, rfl, by decide +kernel, by decide +kernel⟩
abbrev sCk : Stmt := inClass (top 22) 4
def sCkN : List Str := ["self", "cells", "key"]
theorem scCk : FnScope ["self", "cells", "key"] ["self"] (defScope sCk) := ⟨rfl, rfl, rfl, by decide +kernel, rfl, by decide +kernel, by decide +kernel⟩
section
variable {P : Program} {w : World} {K : PySem.W.Frag} {mg : Str → Option Value} {base : Heap}
theorem ok_seek {C f : Addr} {fd : FuncData} (F : Fun K "seek" "Cache.seek" sSk f fd) (T : CacheC K C) : FnOk P w K mg base CX0 1 f fd ["self"] (spSeek C) := by
  refine F.ok scSk (fun vs H Q E h => ?_) (fun cdv A outer s H vs Q E hr h => ?_)
  · obtain ⟨n, z, rfl, _⟩ := h
    rfl
  · obtain ⟨n, z, rfl, hz, k⟩ := h
    exact ⟨_, (pss_cons (ps_if (pt_not (pt_val (pe_fld (pv 0) rfl))) (pss_one (ps_ret (pv 0))) pss_nil)
        pss_never), _, rfl, z.na, C, _, _, _, rfl, hz.i, T.cl, T.gone, rfl, _, rfl, iteT ⟨_, rfl, k⟩⟩
theorem ok_ck {C f : Addr} {fd : FuncData} (F : Fun K "copied_keys" "Cache.copied_keys" sCk f fd) (T : CacheC K C) (GSk : MtAt P w K mg base CX0 1 C "seek" ["self"] (spSeek C)) : FnOk P w K mg base CX0 2 f fd ["self"] (spCk C) := by
  refine F.ok scCk (fun vs H Q E h => ?_) (fun cdv A outer s H vs Q E hr h => ?_)
  · obtain ⟨n, z, rfl, _⟩ := h
    rfl
  · obtain ⟨n, z, rfl, hz, ⟨nd, hl, hv⟩, k⟩ := h
    have hu := hu_of hr
    have hcd := hz.cd
    refine ⟨_, (pss_cons (ps_set (i := 1) scCk.nd rfl (Or.inr rfl) (pe_fld (pe_mtD0 GSk (hr.mono (by decide)) (pv 0)) rfl))
        (pss_one (ps_ret (pe_lock (pe_lc (own := [("key", 2)]) (g := (gName 2)) (te := (tVar 2)) rfl scCk.nd (pi_keys (pv 1)) (blkOk_by (N := sCkN) (sc := defScope sCk) (by decide +kernel)) (fun _ _ _ _ _ => (pg_name (i := 2) scCk.nd rfl (Or.inl rfl))) (fun _ _ _ _ _ => (pts_one (pt_cmp (pc_notN (pe_dget hu (pv 1) (pv 2) (fun _ _ => rfl)))))) (fun _ _ _ _ _ => (pv 2))))))), ?_⟩
    refine ⟨_, rfl, z.na, _, _, rfl, hz.i, rfl, n, z, rfl, hz, z.na, C, _, _, _, rfl, hz.i, T.cl, T.cells, rfl, ?_⟩
    refine ⟨z.cd, _, hcd, trivial, fun od => ?_⟩
    have l3 : upd H z.cd (.frz od (.dK (strK z.cells))) z.cd = some (.frz od (.dK (strK z.cells))) := upd_same
    have l3' : Rd (upd H z.cd (.frz od (.dK (strK z.cells)))) z.cd (.dK (strK z.cells)) := rd_lock (.inl hcd) hcd
    have bk : ∀ H2, Same (upd H z.cd (.frz od (.dK (strK z.cells)))) H2 → Same H (upd H2 z.cd (.dK (strK z.cells))) := fun H2 q => unlock hcd q
    generalize upd H z.cd (.frz od (.dK (strK z.cells))) = L at l3 l3' bk ⊢
    refine ⟨_, rfl, z.cd, od, rfl, .inl ⟨_, l3, fun D hD => ?_⟩⟩
    refine lc_it (walk_keys (d := z.cd) (o := od) (kvs := strK z.cells)) (fun i H2 => Same L H2 ∧ H2 D = some (.lst ((((z.cells.take i).filter fun p => isRef p.2).map (·.1)).map V.str))) ⟨Same.upd hD, upd_same⟩ (fun i H2 _ q => q.1 _ _ l3) ?_ ?_
    · rintro i x H0 H2 hi ⟨S, lD⟩ ⟨rfl, kk, vv, hg, rfl⟩
      obtain ⟨s', rfl, hn⟩ := strK_get hg
      have hmem := List.mem_of_getElem? hn
      have hval := strK_val nd hmem
      have htk : z.cells.take (i + 1) = z.cells.take i ++ [(s', vv)] := by
        rw [List.take_add_one, hn]
        rfl
      refine ⟨rfl, ?_⟩
      have len : ((((z.cells.take i).filter fun p => isRef p.2).map (·.1)).map V.str).length < sizeLine := by
        rw [List.length_map, List.length_map, sizeLine_eq]
        have := List.length_filter_le (fun p : Str × V => isRef p.2) (z.cells.take i)
        rw [List.length_take] at this
        omega
      refine ⟨_, rfl, _, rfl, z.cd, _, rfl, .inl ⟨strK z.cells, Sum.inr s', rd_same S l3', rfl, hval.symm⟩, _, rfl, ?_⟩
      rcases hv _ hmem with e | ⟨t, e⟩
      · have e : vv = .non := e
        subst e
        refine iteF ⟨S, ?_⟩
        rw [htk, List.filter_append]
        simpa [isRef] using lD
      · have e : vv = .ref t := e
        subst e
        refine ifT notNone ?_
        refine ⟨_, rfl, _, lD, len, EX.Same.updN S hD, ?_⟩
        rw [upd_same, htk, List.filter_append, List.map_append, List.map_append]
        rfl
    · rintro H2 ⟨S, lD⟩
      have e : z.cells.take (strK z.cells).length = z.cells := List.take_of_length_le (by rw [List.length_map]; exact Nat.le_refl _)
      rw [e] at lD
      refine ⟨S _ _ l3, ?_⟩
      have nD : D ≠ z.cd := fun q => by rw [q, l3] at hD; cases hD
      exact k _ D (bk _ S) (by rw [upd_ne nD]; exact lD)
theorem ok_clen {C f : Addr} {fd : FuncData} (F : Fun K "__len__" "Cache.__len__" sCl f fd) (B : Bn mg) (GCk : MtAt P w K mg base CX0 2 C "copied_keys" ["self"] (spCk C)) : FnOk P w K mg base CX0 3 f fd ["self"] (spCLen C) := by
  refine F.ok scCl (fun vs H Q E h => ?_) (fun cdv A outer s H vs Q E hr h => ?_)
  · obtain ⟨n, z, rfl, _⟩ := h
    rfl
  · obtain ⟨n, z, rfl, hz, hc, k⟩ := h
    refine ⟨_, (pss_one (ps_ret (pe_callB call_len_seq (by rfl) B.len PySem.boot_len (pa_cons (pe_mtD0 GCk (hr.mono (by decide)) (pv 0)) pa_nil)))), ?_⟩
    refine ⟨_, rfl, z.na, _, _, rfl, hz.i, rfl, n, z, rfl, hz, hc, fun H' l S hl' => ⟨l, _, rfl, .inl (SqL.of hl'), ?_⟩⟩
    rw [List.length_map]
    exact k _ S
theorem ok_cg {C f : Addr} {fd : FuncData} (F : Fun K "__getitem__" "Cache.__getitem__" sCg f fd) (B : Bn mg) (T : CacheC K C) : FnOk P w K mg base CX0 1 f fd ["self", "at"] (spCGet C) := by
  refine F.ok scCg (fun vs H Q E h => ?_) (fun cdv A outer s H vs Q E hr h => ?_)
  · obtain ⟨n, z, k, t, v1, v2, v3, v4, rfl, _⟩ := h
    rfl
  · obtain ⟨n, z, s, t, v1, v2, v3, v4, rfl, hz, hv, ht, k⟩ := h
    have hu := hu_of hr
    have hg : DGet H z.cd (.str s) (some (.ref t)) := .inl ⟨strK z.cells, Sum.inr s, .inl hz.cd, rfl, hv.symm⟩
    refine ⟨_, (pss_cons (ps_if (pt_val (pe_callB call_isi (by rfl) B.isi PyProof.Rows.boot_isinstance (pa_cons (pv 1) (pa_cons (pe_bltn (v := .ty "str") (by rfl) B.str (by decide +kernel) rfl) pa_nil)))) (pss_one (ps_try_thru0 (pss_cons (ps_set (i := 2) scCg.nd rfl (Or.inl rfl) (pe_dget hu (pe_fld (pv 0) rfl) (pv 1) (fun _ _ => rfl)))
        (pss_one (ps_if (pt_cmp (pc_notN (pv 2))) (pss_one (ps_ret (pe_ix ix_tup (pv 2) pe_int (fun _ _ => rfl)))) pss_nil))))) pss_nil)
        pss_never), ?_⟩
    refine ⟨_, rfl, _, _, _, _, true, rfl, .ty _, .base (.str _), kit_ty (by decide +kernel), _, rfl, iteT ?_⟩
    refine ⟨_, rfl, z.na, C, _, _, _, rfl, hz.i, T.cl, T.cells, rfl, _, rfl, z.cd, _, rfl, hg, ?_⟩
    exact ⟨_, rfl, _, rfl, ifT notNone ⟨_, rfl, t, _, _, _, rfl, rfl, SqT.of ht, atI_nat (j := 0) rfl, k⟩⟩
theorem ok_al {C f : Addr} {fd : FuncData} (F : Fun K "allowance" "Cache.allowance" sAl f fd) (B : Bn mg) (T : CacheC K C) : FnOk P w K mg base CX0 1 f fd ["self", "key"] (spAlw C) := by
  refine F.ok scAl (fun vs H Q E h => ?_) (fun cdv A outer s H vs Q E hr h => ?_)
  · obtain ⟨n, z, k, t, v1, v2, v3, v4, rfl, _⟩ := h
    rfl
  · obtain ⟨n, z, s, t, v1, v2, v3, v4, rfl, hz, hv, ht, k⟩ := h
    have hu := hu_of hr
    have hg : DGet H z.cd (.str s) (some (.ref t)) := .inl ⟨strK z.cells, Sum.inr s, .inl hz.cd, rfl, hv.symm⟩
    refine ⟨_, (pss_cons (ps_if (pt_val (pe_callB call_isi (by rfl) B.isi PyProof.Rows.boot_isinstance (pa_cons (pv 1) (pa_cons (pe_bltn (v := .ty "str") (by rfl) B.str (by decide +kernel) rfl) pa_nil)))) (pss_one (ps_try_thru0 (pss_cons (ps_set (i := 2) scAl.nd rfl (Or.inl rfl) (pe_dget hu (pe_fld (pv 0) rfl) (pv 1) (fun _ _ => rfl)))
        (pss_one (ps_if (pt_cmp (pc_notN (pv 2))) (pss_one (ps_ret (pe_ix ix_tup (pv 2) pe_int (fun _ _ => rfl)))) pss_nil))))) pss_nil)
        pss_never), ?_⟩
    refine ⟨_, rfl, _, _, _, _, true, rfl, .ty _, .base (.str _), kit_ty (by decide +kernel), _, rfl, iteT ?_⟩
    refine ⟨_, rfl, z.na, C, _, _, _, rfl, hz.i, T.cl, T.cells, rfl, _, rfl, z.cd, _, rfl, hg, ?_⟩
    exact ⟨_, rfl, _, rfl, ifT notNone ⟨_, rfl, t, _, _, _, rfl, rfl, SqT.of ht, atI_nat (j := 1) rfl, k⟩⟩
theorem ok_to {C f : Addr} {fd : FuncData} (F : Fun K "told" "Cache.told" sTo f fd) (B : Bn mg) (T : CacheC K C) : FnOk P w K mg base CX0 1 f fd ["self", "key"] (spTold C) := by
  refine F.ok scTo (fun vs H Q E h => ?_) (fun cdv A outer s H vs Q E hr h => ?_)
  · obtain ⟨n, z, k, t, v1, v2, v3, v4, rfl, _⟩ := h
    rfl
  · obtain ⟨n, z, s, t, v1, v2, v3, v4, rfl, hz, hv, ht, k⟩ := h
    have hu := hu_of hr
    have hg : DGet H z.cd (.str s) (some (.ref t)) := .inl ⟨strK z.cells, Sum.inr s, .inl hz.cd, rfl, hv.symm⟩
    refine ⟨_, (pss_cons (ps_if (pt_val (pe_callB call_isi (by rfl) B.isi PyProof.Rows.boot_isinstance (pa_cons (pv 1) (pa_cons (pe_bltn (v := .ty "str") (by rfl) B.str (by decide +kernel) rfl) pa_nil)))) (pss_one (ps_try_thru0 (pss_cons (ps_set (i := 2) scTo.nd rfl (Or.inl rfl) (pe_dget hu (pe_fld (pv 0) rfl) (pv 1) (fun _ _ => rfl)))
        (pss_one (ps_if (pt_cmp (pc_notN (pv 2))) (pss_one (ps_ret (pe_ix ix_tup (pv 2) pe_int (fun _ _ => rfl)))) pss_nil))))) pss_nil)
        pss_never), ?_⟩
    refine ⟨_, rfl, _, _, _, _, true, rfl, .ty _, .base (.str _), kit_ty (by decide +kernel), _, rfl, iteT ?_⟩
    refine ⟨_, rfl, z.na, C, _, _, _, rfl, hz.i, T.cl, T.cells, rfl, _, rfl, z.cd, _, rfl, hg, ?_⟩
    exact ⟨_, rfl, _, rfl, ifT notNone ⟨_, rfl, t, _, _, _, rfl, rfl, SqT.of ht, atI_nat (j := 2) rfl, k⟩⟩
theorem ok_entry {C E f : Addr} {fd : FuncData} (F : Fun K "entry" "Cache.entry" sEn f fd) (B : Bn mg) (T : CacheC K C) (TE : EntryC K E) : FnOk P w K mg base CX0 1 f fd ["self", "child", "key"] (spEntry C E) := by
  refine F.ok scEn (fun vs H Q E h => ?_) (fun cdv A outer s H vs Q E hr h => ?_)
  · obtain ⟨n, z, ch, k, r, v, rfl, _⟩ := h
    rfl
  · obtain ⟨n, z, ch, s, r, v, rfl, hz, hc, hrw, hv, k⟩ := h
    have hu := hu_of hr
    have hg : DGet H z.en (.str ch) (some (.ref r.ra)) := .inl ⟨NZ.refK z.kids, Sum.inr ch, .inl hz.en, rfl, hc.symm⟩
    have hg2 : DGet H r.cd (.str s) (some v) := .inl ⟨strK r.cells, Sum.inr s, .inl hrw.cd, rfl, hv.symm⟩
    refine ⟨_, (pss_cons (ps_if (PW.pt (pw_and (pt_val (pe_callB call_isi (by rfl) B.isi PyProof.Rows.boot_isinstance (pa_cons (pv 1) (pa_cons (pe_bltn (v := .ty "str") (by rfl) B.str (by decide +kernel) rfl) pa_nil)))) (pw_and1 (pt_val (pe_callB call_isi (by rfl) B.isi PyProof.Rows.boot_isinstance (pa_cons (pv 2) (pa_cons (pe_bltn (v := .ty "str") (by rfl) B.str (by decide +kernel) rfl) pa_nil))))))) (pss_one (ps_try_thru0 (pss_one (ps_ret (pe_dget hu (pe_fld (pe_dget hu (pe_fld (pv 0) rfl) (pv 1) (fun _ _ => rfl)) rfl) (pv 2) (fun _ _ => rfl)))))) pss_nil)
        pss_never), ?_⟩
    refine ⟨_, rfl, _, _, _, _, true, rfl, .ty _, .base (.str _), kit_ty (by decide +kernel), _, rfl, iteT ?_⟩
    refine ⟨_, rfl, _, _, _, _, true, rfl, .ty _, .base (.str _), kit_ty (by decide +kernel), _, rfl, iteT ?_⟩
    exact ⟨_, rfl, z.na, C, _, _, _, rfl, hz.i, T.cl, T.entries, rfl, _, rfl, z.en, _, rfl, hg, r.ra, _, _, _, _, rfl, hrw.i, TE.cl, TE.cells, rfl, _, rfl, r.cd, _, rfl, hg2, k⟩
end
end K03
set_option Elab.async false
set_option linter.all false
set_option maxRecDepth 100000
set_option maxHeartbeats 4000000
/-! a net as plain data, and how the heap holds it -/
namespace NZ
open PySem L2 EX PyProof.Rows
section
variable {α β γ : Type} {F G : α → β → Prop}
theorem pr_imp (w : ∀ a b, F a b → G a b) : ∀ {l : List α} {m : List β}, Paired F l m → Paired G l m
  | _, _, .nil => .nil
  | _, _, .cons h t => .cons (w _ _ h) (pr_imp w t)
theorem pr_len : ∀ {l : List α} {m : List β}, Paired F l m → l.length = m.length
  | _, _, .nil => rfl
  | _, _, .cons _ t => congrArg (· + 1) (pr_len t)
theorem pr_app : ∀ {l l' : List α} {m m' : List β}, Paired F l m → Paired F l' m' → Paired F (l ++ l') (m ++ m')
  | _, _, _, _, .nil, h => h
  | _, _, _, _, .cons h t, h' => .cons h (pr_app t h')
theorem pr_get : ∀ {l : List α} {m : List β} {i : Nat} {a : α}, Paired F l m → l[i]? = some a → ∃ b, m[i]? = some b ∧ F a b
  | _, _, 0, _, .cons h _, e => by
    cases e
    exact ⟨_, rfl, h⟩
  | _, _, i + 1, _, .cons _ t, e => pr_get (i := i) t e
theorem pr_get' : ∀ {l : List α} {m : List β} {i : Nat} {b : β}, Paired F l m → m[i]? = some b → ∃ a, l[i]? = some a ∧ F a b
  | _, _, 0, _, .cons h _, e => by
    cases e
    exact ⟨_, rfl, h⟩
  | _, _, i + 1, _, .cons _ t, e => pr_get' (i := i) t e
theorem pr_mem {l : List α} {m : List β} {a : α} (h : Paired F l m) (ha : a ∈ l) : ∃ b ∈ m, F a b := by
  obtain ⟨i, hi⟩ := List.mem_iff_getElem?.mp ha
  obtain ⟨b, hb, hf⟩ := pr_get h hi
  exact ⟨b, List.mem_of_getElem? hb, hf⟩
theorem pr_mem' {l : List α} {m : List β} {b : β} (h : Paired F l m) (hb : b ∈ m) : ∃ a ∈ l, F a b := by
  obtain ⟨i, hi⟩ := List.mem_iff_getElem?.mp hb
  obtain ⟨a, ha, hf⟩ := pr_get' h hi
  exact ⟨a, List.mem_of_getElem? ha, hf⟩
/-- a pair in the middle -/
theorem pr_mid : ∀ {m : List β} {l : List α} {i : Nat} {b : β}, Paired F l m → m[i]? = some b → ∃ l1 a l2, l = l1 ++ a :: l2 ∧ F a b ∧ Paired F l1 (m.take i) ∧ Paired F l2 (m.drop (i + 1)) ∧ l1.length = i
  | _ :: _, _, 0, _, .cons h t, e => by
    cases e
    exact ⟨[], _, _, rfl, h, .nil, t, rfl⟩
  | _ :: _, _, i + 1, _, .cons h t, e => by
    obtain ⟨l1, a, l2, e1, h1, h2, h3, h4⟩ := pr_mid (i := i) t e
    exact ⟨_ :: l1, a, l2, by rw [e1]; rfl, h1, .cons h h2, h3, congrArg (· + 1) h4⟩
theorem pr_keys {κ α β : Type} {F : κ × α → κ × β → Prop} (w : ∀ a b, F a b → a.1 = b.1) : ∀ {l : List (κ × α)} {m : List (κ × β)}, Paired F l m → l.map (·.1) = m.map (·.1)
  | _, _, .nil => rfl
  | _, _, .cons h t => by
    rw [List.map_cons, List.map_cons, w _ _ h, pr_keys w t]
end
structure CellM where
  num : Int
  val : Int
  alw : Int
  told : Int
  asked : Option Int
def optD : Option Int → PyData
  | none => .none
  | some i => .int i
def copyD (c : CellM) : PyData := .tuple [.int c.num, .int c.val]
def CellM.d (c : CellM) : PyData := .tuple [copyD c, .int c.alw, .int c.told, optD c.asked]
def cellD : Option CellM → PyData
  | none => .none
  | some c => c.d
structure NodeM where
  label : Str
  above : Option Str
  cells : List (Str × Option CellM)
  kids : List Str
/-- a message -/
inductive Msg where
  | copy (key : Str) (num val alw : Int)
  | update (key : Str) (num val : Int)
  | lower (key : Str) (alw : Int)
  | raise (key : Str) (alw : Int)
  | answer (q num val : Int) (who : Str)
  | confirm (key : Str) (num : Int)
  | agree (key : Str) (alw : Int)
  | question (q : Int) (key : Str) (need floor : Int)
  | gone
def Msg.d : Msg → PyData
  | .copy key num val alw => .tuple [.str "copy", .str key, .int num, .int val, .int alw]
  | .update key num val => .tuple [.str "update", .str key, .int num, .int val]
  | .lower key alw => .tuple [.str "lower", .str key, .int alw]
  | .raise key alw => .tuple [.str "raise", .str key, .int alw]
  | .answer q num val who => .tuple [.str "answer", .int q, .int num, .int val, .str who]
  | .confirm key num => .tuple [.str "confirm", .str key, .int num]
  | .agree key alw => .tuple [.str "agree", .str key, .int alw]
  | .question q key need floor => .tuple [.str "question", .int q, .str key, .int need, .int floor]
  | .gone => .tuple [.str "gone"]
structure RowM where
  child : Str
  above : Str
  cells : List (Str × Int × Int)
  rais : List Str
  there : Bool
  crashed : Bool
  down : List Msg
  up : List Msg
structure NetM where
  words : List Str
  nodes : List NodeM
  rows : List RowM
  done : List PyData
  kept : List (Str × List Int)
  acc : List Str
  stm : List Int
  qs : Int
  trails : List (Int × List Str)
  answ : List (Int × Int × Int × Str)
  recs : List (Int × PyData)
abbrev Ix : Type := List (Str × Addr)
def ixOf (Z : NetZ) : Ix := Z.rows.map fun r => (r.child, r.ra)
structure NodeR (H : Hp) (ix : Ix) (z : NodeZ) (m : NodeM) : Prop where
  label : z.label = m.label
  above : z.above = match m.above with | none => .non | some a => .str a
  row : match m.above with | none => z.row = .non | some _ => ∃ ra, (m.label, ra) ∈ ix ∧ z.row = .ref ra
  cells : Paired (fun (p : Str × V) (q : Str × Option CellM) => p.1 = q.1 ∧ Td H p.2 (cellD q.2)) z.cells m.cells
  kids : z.kids.map (·.1) = m.kids
  kin : ∀ p ∈ z.kids, p ∈ ix
  kt : Td H z.kt (.tuple (m.kids.map PyData.str))
structure RowR (H : Hp) (z : RowZ) (m : RowM) : Prop where
  child : z.child = m.child
  above : z.above = m.above
  dl : Td H z.dl (.tuple [.str m.above, .str m.child])
  ul : Td H z.ul (.tuple [.str m.child, .str m.above])
  cells : Paired (fun (p : Str × V) (q : Str × Int × Int) => p.1 = q.1 ∧ Td H p.2 (.tuple [.int q.2.1, .int q.2.2])) z.cells m.cells
  rais : Td H z.rais (.tuple (m.rais.map PyData.str))
  there : z.there = m.there
  crashed : z.crashed = m.crashed
  down : TdAll H z.down (m.down.map Msg.d)
  up : TdAll H z.up (m.up.map Msg.d)
structure NetR (H : Hp) (Z : NetZ) (M : NetM) : Prop where
  nodes : Paired (NodeR H (ixOf Z)) Z.nodes M.nodes
  rows : Paired (RowR H) Z.rows M.rows
  tw : Td H Z.tw (.tuple (M.words.map PyData.str))
  la : Td H Z.la (.tuple (M.nodes.map fun m => .str m.label))
  top : ∃ z rest, Z.nodes = z :: rest ∧ Z.top = .ref z.na
  done : TdAll H Z.done M.done
  kept : Paired (fun (p : Str × V) (q : Str × List Int) => p.1 = q.1 ∧ Td H p.2 (.tuple (q.2.map PyData.int))) Z.kept M.kept
  acc : Z.acc = M.acc.map V.str
  stm : Z.stm = M.stm.map V.int
  qs : Z.qs = M.qs
  tr : Paired (fun (p : Key × V) (q : Int × List Str) => p.1 = Sum.inl q.1 ∧ Td H p.2 (.tuple (q.2.map PyData.str))) Z.trails M.trails
  an : Paired (fun (p : Key × V) (q : Int × Int × Int × Str) => p.1 = Sum.inl q.1 ∧ Td H p.2 (.tuple [.int q.2.1, .int q.2.2.1, .str q.2.2.2])) Z.answered M.answ
  rc : Paired (fun (p : Key × V) (q : Int × PyData) => p.1 = Sum.inl q.1 ∧ Td H p.2 q.2) Z.receipts M.recs
/-- what always holds of a net's data -/
structure NetW (M : NetM) : Prop where
  wnd : M.words.Nodup
  w4 : M.words.length ≤ 4
  nnd : (M.nodes.map (·.label)).Nodup
  rnd : (M.rows.map (·.child)).Nodup
  cell : ∀ m ∈ M.nodes, m.cells.map (·.1) = M.words
  rcell : ∀ r ∈ M.rows, r.cells.map (·.1) = M.words
  kept : M.kept.map (·.1) = M.words
  n12 : M.nodes.length ≤ 12
  r12 : M.rows.length ≤ 1000
  kids : ∀ m ∈ M.nodes, m.kids.Nodup ∧ m.kids.length ≤ 1000
section
variable {H H' : Hp} {ix : Ix}
theorem NodeR.mono (k : KT H H') {z : NodeZ} {m : NodeM} (h : NodeR H ix z m) : NodeR H' ix z m := ⟨h.label, h.above, h.row, pr_imp (fun _ _ q => ⟨q.1, q.2.mono k⟩) h.cells, h.kids, h.kin, h.kt.mono k⟩
theorem RowR.mono (k : KT H H') {z : RowZ} {m : RowM} (h : RowR H z m) : RowR H' z m := ⟨h.child, h.above, h.dl.mono k, h.ul.mono k, pr_imp (fun _ _ q => ⟨q.1, q.2.mono k⟩) h.cells, h.rais.mono k, h.there, h.crashed, h.down.mono k, h.up.mono k⟩
theorem NetR.mono (k : KT H H') {Z : NetZ} {M : NetM} (h : NetR H Z M) : NetR H' Z M := ⟨pr_imp (fun _ _ q => q.mono k) h.nodes, pr_imp (fun _ _ q => q.mono k) h.rows, h.tw.mono k, h.la.mono k, h.top, h.done.mono k, pr_imp (fun _ _ q => ⟨q.1, q.2.mono k⟩) h.kept, h.acc, h.stm, h.qs, pr_imp (fun _ _ q => ⟨q.1, q.2.mono k⟩) h.tr, pr_imp (fun _ _ q => ⟨q.1, q.2.mono k⟩) h.an, pr_imp (fun _ _ q => ⟨q.1, q.2.mono k⟩) h.rc⟩
end
/-- the places of a net that change; its nodes' places by names -/
structure Sg where
  S : List Addr
  nx : List (Str × Addr)
def NetZ.ps (c : Cs) (Z : NetZ) : List Addr := (objs c Z).map (·.1)
def NetZ.nx (Z : NetZ) : List (Str × Addr) := Z.nodes.map fun z => (z.label, z.na)
/-- the net with its data -/
structure NetQ (c : Cs) (H : Hp) (n : Addr) (g : Sg) (M : NetM) (Z : NetZ) : Prop where
  n : Z.n = n
  ps : Z.ps c = g.S
  nx : Z.nx = g.nx
  h : NetH c H Z
  r : NetR H Z M
  w : NetW M
structure NetA (c : Cs) (H : Hp) (n : Addr) (g : Sg) (M : NetM) : Prop where
  ex : ∃ Z : NetZ, NetQ c H n g M Z
section
variable {c : Cs} {H H' : Hp} {n : Addr} {g : Sg} {M : NetM} {Z : NetZ}
theorem NetQ.mono (s : Same H H') (h : NetQ c H n g M Z) : NetQ c H' n g M Z := ⟨h.n, h.ps, h.nx, h.h.same s, h.r.mono (KT.of s), h.w⟩
theorem NetA.mono (s : Same H H') (h : NetA c H n g M) : NetA c H' n g M := let ⟨Z, q⟩ := h.ex; ⟨Z, q.mono s⟩
theorem NetQ.keeps {T : List Addr} (k : Keeps T H H') (ht : ∀ p ∈ T, p ∉ g.S) (hn : ∀ p ∈ T, ∀ xs, H p ≠ some (.tup xs)) (h : NetQ c H n g M Z) : NetQ c H' n g M Z := by
  refine ⟨h.n, h.ps, h.nx, h.h.keeps k fun x hx z => ht _ z ?_, h.r.mono (KT.keeps k hn), h.w⟩
  rw [← h.ps]
  exact List.mem_map.mpr ⟨x, hx, rfl⟩
theorem NetA.keeps {T : List Addr} (k : Keeps T H H') (ht : ∀ p ∈ T, p ∉ g.S) (hn : ∀ p ∈ T, ∀ xs, H p ≠ some (.tup xs)) (h : NetA c H n g M) : NetA c H' n g M := let ⟨Z, q⟩ := h.ex; ⟨Z, q.keeps k ht hn⟩
theorem NetQ.notup (h : NetQ c H n g M Z) : ∀ p ∈ g.S, ∀ xs, H p ≠ some (.tup xs) := fun p hp xs z => by
  rw [← h.ps] at hp
  obtain ⟨x, hx, rfl⟩ := List.mem_map.mp hp
  rw [h.h.at_ x hx] at z
  exact objs_notup x hx xs (Option.some.inj z)
theorem NetQ.at_n (h : NetQ c H n g M Z) : H n = some (.ins c.N Z.dx (netF Z)) := by
  have := h.h.at_net 0
  rw [← h.n]
  exact this
theorem NetQ.mem_n (h : NetQ c H n g M Z) : n ∈ g.S := by
  rw [← h.ps, ← h.n]
  exact .head _
/-- the node of a name -/
theorem NetQ.node (h : NetQ c H n g M Z) {s : Str} {na : Addr} (hs : (s, na) ∈ g.nx) : ∃ (i : Nat) (z : NodeZ) (m : NodeM), Z.nodes[i]? = some z ∧ M.nodes[i]? = some m ∧ z.na = na ∧ z.label = s ∧ NodeR H (ixOf Z) z m := by
  rw [← h.nx] at hs
  obtain ⟨z, hz, e⟩ := List.mem_map.mp hs
  obtain ⟨i, hi⟩ := List.mem_iff_getElem?.mp hz
  obtain ⟨m, hm, hr⟩ := pr_get h.r.nodes hi
  cases e
  exact ⟨i, z, m, hi, hm, rfl, rfl, hr⟩
/-- .. and the place of a name -/
theorem NetQ.node' (h : NetQ c H n g M Z) {i : Nat} {m : NodeM} (hm : M.nodes[i]? = some m) : ∃ z, Z.nodes[i]? = some z ∧ NodeR H (ixOf Z) z m ∧ (m.label, z.na) ∈ g.nx := by
  obtain ⟨z, hz, hr⟩ := pr_get' h.r.nodes hm
  refine ⟨z, hz, hr, ?_⟩
  rw [← h.nx, ← hr.label]
  exact List.mem_map.mpr ⟨z, List.mem_of_getElem? hz, rfl⟩
theorem nodesK_val {l : List NodeZ} (nd : (l.map (·.label)).Nodup) {z : NodeZ} (h : z ∈ l) : valV (nodesK l) (Sum.inr z.label) = some (.ref z.na) := by
  induction l with
  | nil => cases h
  | cons q r ih =>
    obtain ⟨n1, n2⟩ := List.nodup_cons.mp nd
    rcases List.mem_cons.mp h with e | e
    · subst e
      exact valV_pos rfl
    · exact (valV_neg (fun e2 => n1 (List.mem_map.mpr ⟨_, e, (Sum.inr.inj e2).symm⟩))).trans (ih n2 e)
theorem nodesK_none {l : List NodeZ} {s : Str} (h : s ∉ l.map (·.label)) : valV (nodesK l) (Sum.inr s) = none := by
  induction l with
  | nil => rfl
  | cons q r ih => exact (valV_neg (fun e2 => h (List.mem_map.mpr ⟨_, .head _, Sum.inr.inj e2⟩))).trans (ih fun z => h (.tail _ z))
theorem rowsK_val {l : List RowZ} (nd : (l.map (·.child)).Nodup) {z : RowZ} (h : z ∈ l) : valV (rowsK l) (Sum.inr z.child) = some (.ref z.ra) := by
  induction l with
  | nil => cases h
  | cons q r ih =>
    obtain ⟨n1, n2⟩ := List.nodup_cons.mp nd
    rcases List.mem_cons.mp h with e | e
    · subst e
      exact valV_pos rfl
    · exact (valV_neg (fun e2 => n1 (List.mem_map.mpr ⟨_, e, (Sum.inr.inj e2).symm⟩))).trans (ih n2 e)
theorem rowsK_none {l : List RowZ} {s : Str} (h : s ∉ l.map (·.child)) : valV (rowsK l) (Sum.inr s) = none := by
  induction l with
  | nil => rfl
  | cons q r ih => exact (valV_neg (fun e2 => h (List.mem_map.mpr ⟨_, .head _, Sum.inr.inj e2⟩))).trans (ih fun z => h (.tail _ z))
theorem pr_map {α β γ : Type} {F : α → β → Prop} {f : α → γ} {f' : β → γ} (w : ∀ a b, F a b → f a = f' b) : ∀ {l : List α} {m : List β}, Paired F l m → l.map f = m.map f'
  | _, _, .nil => rfl
  | _, _, .cons h t => by rw [List.map_cons, List.map_cons, w _ _ h, pr_map w t]
theorem NetQ.labels (h : NetQ c H n g M Z) : Z.nodes.map (·.label) = M.nodes.map (·.label) := pr_map (fun _ _ q => q.label) h.r.nodes
theorem NetQ.childs (h : NetQ c H n g M Z) : Z.rows.map (·.child) = M.rows.map (·.child) := pr_map (fun _ _ q => q.child) h.r.rows
theorem NetQ.nodeV (h : NetQ c H n g M Z) {z : NodeZ} (hz : z ∈ Z.nodes) : valV (nodesK Z.nodes) (Sum.inr z.label) = some (.ref z.na) := nodesK_val (by rw [h.labels]; exact h.w.nnd) hz
theorem NetQ.rowV (h : NetQ c H n g M Z) {z : RowZ} (hz : z ∈ Z.rows) : valV (rowsK Z.rows) (Sum.inr z.child) = some (.ref z.ra) := rowsK_val (by rw [h.childs]; exact h.w.rnd) hz
end
/-- a new net -/
def newM (ws : List Str) : NetM := { words := ws, nodes := [{ label := "store", above := none, cells := ws.map fun w => (w, some ⟨0, 0, 0, 0, none⟩), kids := [] }], rows := [], done := [], kept := ws.map fun w => (w, []), acc := [], stm := [], qs := 0, trails := [], answ := [], recs := [] }
theorem newW {ws : List Str} (nd : ws.Nodup) (h4 : ws.length ≤ 4) : NetW (newM ws) := by
  have e1 : (ws.map fun w => (w, (some ⟨0, 0, 0, 0, none⟩ : Option CellM))).map (·.1) = ws := by rw [List.map_map]; exact List.map_id'' (fun _ => rfl) ws
  have e2 : (ws.map fun w => (w, ([] : List Int))).map (·.1) = ws := by rw [List.map_map]; exact List.map_id'' (fun _ => rfl) ws
  refine ⟨nd, h4, by simp [newM], by simp [newM], fun m hm => ?_, (fun r hr => nomatch hr), e2, by show 1 ≤ 12; decide, by show 0 ≤ 1000; decide, fun m hm => ?_⟩
  · rw [List.mem_singleton.mp hm]
    exact e1
  · rw [List.mem_singleton.mp hm]
    exact ⟨List.nodup_nil, by show 0 ≤ 1000; decide⟩
end NZ
set_option Elab.async false
set_option linter.all false
set_option maxRecDepth 100000
set_option maxHeartbeats 4000000
namespace K03
open PySem L2 EX PyProof.Rows LamX
open NZ
structure NetC (K : PySem.W.Frag) (N : Addr) : Prop where
  cl : Cls K N
  f_words : NoAttr K N "words"
  f_top : NoAttr K N "top"
  f_nodes : NoAttr K N "nodes"
  f_labels : NoAttr K N "labels"
  f_rows : NoAttr K N "rows"
  f_done : NoAttr K N "done"
  f_kept : NoAttr K N "kept"
  f_accepted : NoAttr K N "accepted"
  f_stamps : NoAttr K N "stamps"
  f_questions : NoAttr K N "questions"
  f_trails : NoAttr K N "trails"
  f_answered : NoAttr K N "answered"
  f_receipts : NoAttr K N "receipts"
theorem strK_none {cl : List (Str × V)} {s : Str} (h : s ∉ cl.map (·.1)) : valV (strK cl) (Sum.inr s) = none := by
  induction cl with
  | nil => rfl
  | cons q r ih =>
    have h1 : ¬ q.1 = s := fun z => h (by rw [List.map_cons, z]; exact .head _)
    exact (valV_neg (fun z => h1 (Sum.inr.inj z))).trans (ih fun z => h (.tail _ z))
theorem strK_put {cl : List (Str × V)} {s : Str} {v : V} (h : s ∉ cl.map (·.1)) : putK (strK cl) (Sum.inr s) v = strK (cl ++ [(s, v)]) := by
  rw [putK_new _ (strK_none h)]
  show List.map _ cl ++ [(Sum.inr s, v)] = List.map _ (cl ++ [(s, v)])
  rw [List.map_append]
  rfl
/-- what good keys are -/
structure KeysOk (ws : List Str) : Prop where
  nd : ws.Nodup
  wd : ∀ s ∈ ws, isW s = true
  n1 : 1 ≤ ws.length
  n4 : ws.length ≤ 4
theorem KeysOk.good {ws : List Str} (h : KeysOk ws) : goodK (strV ws) = true := by
  have e : ∀ l : List Str, txs (strV l) = l := fun l => by
    induction l with
    | nil => rfl
    | cons s r ih => exact congrArg (s :: ·) ih
  unfold goodK
  simp only [Bool.and_eq_true, decide_eq_true_eq]
  have h1 := h.n1
  have h4 := h.n4
  refine ⟨⟨by rw [List.length_map]; omega, by rw [List.length_map]; omega⟩, ?_, ?_⟩
  · rw [List.all_eq_true]
    intro x hx
    obtain ⟨s, hs, rfl⟩ := List.mem_map.mp hx
    exact h.wd s hs
  · rw [e, dn_nodup ws [] h.nd (fun _ _ z => nomatch z), List.length_map]
theorem KeysOk.arg {K : PySem.W.Frag} {H : Hp} {a : Addr} {ws : List Str} (h : KeysOk ws) (ho : SqE K H a (strV ws)) : KeyArg K H (.ref a) true := by
  have h4 := h.n4
  refine .inl ⟨a, strV ws, rfl, ho, by rw [List.length_map]; omega, fun y hy => ?_, h.good.symm⟩
  obtain ⟨s, hs, rfl⟩ := List.mem_map.mp hy
  exact .inl ⟨s, rfl, isW_len (h.wd s hs)⟩
theorem nd_at {ws : List Str} {i : Nat} {s : Str} (nd : ws.Nodup) (h : ws[i]? = some s) : s ∉ ws.take i := fun z => by
  obtain ⟨hl, e⟩ := List.getElem?_eq_some_iff.mp h
  obtain ⟨j, hj, ej⟩ := List.getElem_of_mem z
  rw [List.length_take] at hj
  rw [List.getElem_take] at ej
  have := (List.getElem_inj nd).mp (ej.trans e.symm)
  omega
theorem k_tup2 {K : PySem.W.Frag} {H : Hp} {a : Addr} {xs : List V} {Q : VK} (h : SqL K H a xs ∨ H a = some (.tup xs)) (k : ∀ q H', Same H H' → H' q = some (.tup xs) → Q (.ref q) H') : kTup K (.ref a) H Q := by
  rcases h with h | h
  · exact .inl ⟨a, xs, rfl, h, fun q hq => k q _ (Same.upd hq) upd_same⟩
  · exact .inr ⟨a, xs, rfl, SqT.of h, k a _ (Same.refl _) h⟩
theorem holds1 {H : Hp} {a : Addr × HO} (h1 : H a.1 = some a.2) : Holds H [a] := ⟨by simp, fun x hx => by rw [List.mem_singleton.mp hx]; exact h1⟩
theorem map_ws {α : Type} {ws : List Str} {f : Str → α} {i : Nat} : ((ws.take i).map fun w => (w, f w)).map (·.1) = ws.take i := by
  rw [List.map_map]
  exact List.map_id'' (fun _ => rfl) _
theorem fr_of {H H' : Hp} {n q : Addr} (k : Keeps [n] H H') (h : H' q = none) : q = n ∨ H q = none := by
  by_cases z : q = n
  · exact .inl z
  · exact .inr (k.free (by simpa using z) h)
/-- Net.__init__ -/
def spNI (K : PySem.W.Frag) (c : Cs) (IK : Addr) : Sp := fun vs H Q E => ∃ (n dx : Addr) (x : V), vs = [.ref n, x] ∧ H n = some (.ins c.N dx []) ∧
  ((∃ a ws, x = .ref a ∧ (SqL K H a (strV ws) ∨ H a = some (.tup (strV ws))) ∧ KeysOk ws ∧ ∀ H' g, Keeps [n] H H' → NetA c H' n g (newM ws) → (∀ q ∈ g.S, q = n ∨ H q = none) → Q .non H') ∨
    (KeyArg K H x false ∧ ∀ d H', Same H H' → H d = none → H' d = some (.xd [(("given" : Str), x)]) → E (.ref IK) (some d) H'))
abbrev sNI : Stmt := inClass (top 63) 1
def sNIN : List Str := ["self", "keys", "key"]
theorem scNI : FnScope ["self", "keys", "key"] ["self", "keys"] (defScope sNI) := ⟨rfl, rfl, rfl, by decide +kernel, rfl, by decide +kernel, by decide +kernel⟩
section
variable {P : Program} {w : World} {K : PySem.W.Frag} {mg : Str → Option Value} {base : Heap}
theorem ok_ni {c : Cs} {IK f : Addr} {fd : FuncData} (F : Fun K "__init__" "Net.__init__" sNI f fd) (B : Bn mg) (T : NetC K c.N) (GK : DefAt P w K mg base 2 "are_keys" ["obj"] (spKeys K)) (MC : MkAt P w K mg base CX0 1 "Cache" ["self", "home", "label", "above", "row", "cells"] c.C (spCI K c.C)) (XI : XrAt P w K mg base "InvalidKeys" "given" IK) :
    FnOk P w K mg base (L2.CX P w) 3 f fd ["self", "keys"] (spNI K c IK) := by
  refine F.okX scNI (fun vs H Q E h => ?_) (fun cdv A outer s H vs Q E hr h => ?_)
  · obtain ⟨n, dx, x, rfl, _⟩ := h
    rfl
  · obtain ⟨n, dx, x, rfl, hn, k⟩ := h
    have hu := hu_of hr
    refine ⟨_, (pss_cons (ps_if (pt_not (pt_val (pe_callD GK (hr.mono (by decide)) (pa_cons (pv 1) pa_nil)))) (pss_one (ps_raiseE XI (hr.mono (by decide)) rfl (takes_of rfl rfl rfl rfl) (pv 1))) pss_nil)
        (pss_cons (ps_fld (pv 0) (pe_tupleOf (by rfl) B.tuple (pv 1)) rfl)
        (pss_cons (ps_fld (pv 0) (pe_mkC MC (hr.mono (by decide)) (pa_cons (pv 0) (pa_cons (pe_glob (v := .str _) (by rfl) B.st.choose_spec ⟨_, rfl⟩) (pa_cons pe_non (pa_cons pe_non (pa_cons (pe_dc (own := [("key", 2)]) (g := (gName 2)) (tt := tYes) (tk := (tVar 2)) (tv := (tTup (tCons (tTup (tCons (tC (.int 0)) (tCons (tC (.int 0)) tNil))) (tCons (tC (.int 0)) (tCons (tC (.int 0)) (tCons (tC .non) tNil)))))) rfl scNI.nd (pi_tup (pe_fld (pv 0) rfl)) (blkOk_by (N := sNIN) (sc := defScope sNI) (by decide +kernel)) (fun _ _ _ _ _ => (pg_name (i := 2) scNI.nd rfl (Or.inl rfl))) (fun _ _ _ _ _ => pts_nil) (fun _ _ _ _ _ => (pv 2)) (fun _ _ _ _ _ => (pe_tup (pa_cons (pe_tup (pa_cons pe_int (pa_cons pe_int pa_nil))) (pa_cons pe_int (pa_cons pe_int (pa_cons pe_non pa_nil))))))) pa_nil)))))) rfl)
        (pss_cons (ps_fld (pv 0) (pe_disp (pps_cons (pe_glob (v := .str _) (by rfl) B.st.choose_spec ⟨_, rfl⟩) (pe_fld (pv 0) rfl) pps_nil) rfl rfl (by simp) (by decide)) rfl)
        (pss_cons (ps_fld (pv 0) (pe_tup (pa_cons (pe_glob (v := .str _) (by rfl) B.st.choose_spec ⟨_, rfl⟩) pa_nil)) rfl)
        (pss_cons (ps_fld (pv 0) pe_dnewK rfl)
        (pss_cons (ps_fld (pv 0) (pe_lst pa_nil) rfl)
        (pss_cons (ps_fld (pv 0) (pe_dc (own := [("key", 2)]) (g := (gName 2)) (tt := tYes) (tk := (tVar 2)) (tv := (tTup tNil)) rfl scNI.nd (pi_tup (pe_fld (pv 0) rfl)) (blkOk_by (N := sNIN) (sc := defScope sNI) (by decide +kernel)) (fun _ _ _ _ _ => (pg_name (i := 2) scNI.nd rfl (Or.inl rfl))) (fun _ _ _ _ _ => pts_nil) (fun _ _ _ _ _ => (pv 2)) (fun _ _ _ _ _ => (pe_tup pa_nil))) rfl)
        (pss_cons (ps_fld (pv 0) (pe_lst pa_nil) rfl)
        (pss_cons (ps_fld (pv 0) (pe_lst pa_nil) rfl)
        (pss_cons (ps_fld (pv 0) pe_int rfl)
        (pss_cons (ps_fld (pv 0) pe_dnewK rfl)
        (pss_cons (ps_fld (pv 0) pe_dnewK rfl)
        (pss_one (ps_fld (pv 0) pe_dnewK rfl))))))))))))))), ?_⟩
    rcases k with ⟨a, ws, rfl, ho, KO, k⟩ | ⟨hx, kE⟩
    rotate_left
    · refine ⟨_, rfl, x, false, rfl, hx, fun H1 S1 => ⟨_, rfl, iteT ?_⟩⟩
      exact ⟨_, rfl, fun d H' s hd e => kE d H' (Same.trans S1 s) (S1.free hd) e⟩
    have hoE : SqE K H a (strV ws) := ho.imp id SqT.of
    refine ⟨_, rfl, .ref a, true, rfl, KO.arg hoE, fun H1 S1 => ⟨_, rfl, iteF ?_⟩⟩
    have h4 := KO.n4
    have hlw : (strV ws).length = ws.length := List.length_map _
    refine ⟨_, rfl, k_tup2 (ho.imp (S1.seq ·) (S1 _ _ ·)) fun tw H2 S2 ht2 => ?_⟩
    have S02 := Same.trans S1 S2
    have hn2 := S02 _ _ hn
    have o0 : Holds H2 [(n, .ins c.N dx [])] := holds1 hn2
    refine ⟨_, rfl, n, c.N, dx, [], rfl, hn2, T.cl, T.f_words, by show 0 < 1000; decide, ?_⟩
    rw [show putF "words" (.ref tw) ([] : List (Str × V)) = ([("words", .ref tw)] : List (Str × V)) from by rfl]
    have o1 := o0.split (l := []) (m := []) (o' := .ins c.N dx ([("words", .ref tw)] : List (Str × V)))
    have k3 : Keeps [n] H2 (upd H2 n (HO.ins c.N dx ([("words", .ref tw)] : List (Str × V)))) := Keeps.one _
    generalize upd H2 n (HO.ins c.N dx ([("words", .ref tw)] : List (Str × V))) = H3 at k3 o1 ⊢
    have hn3 : H3 n = some (.ins c.N dx ([("words", .ref tw)] : List (Str × V))) := o1.at_ _ (.head _)
    have nt : n ≠ tw := fun z => by rw [← z, hn2] at ht2; cases ht2
    have ht3 : H3 tw = some (.tup (strV ws)) := k3 _ _ (by simpa using nt.symm) ht2
    have k03 := (Keeps.of (S := [n]) S02).trans k3
    clear k3 ht2 S02 hn2 S2 o0
    -- top
    refine ⟨_, rfl, _, rfl, n, c.N, dx, _, _, rfl, hn3, T.cl, T.f_words, rfl, tw, rfl, ⟨_, SqT.of ht3⟩, fun D hD => ?_⟩
    refine dc_it (walk_tup (K := K) (a := tw) (xs := strV ws)) (fun i Hh => Same H3 Hh ∧ ∃ cv : List (Str × V), Hh D = some (.dK (strK cv)) ∧ Paired (fun (p : Str × V) (q : Str × Option CellM) => p.1 = q.1 ∧ Td Hh p.2 (cellD q.2)) cv ((ws.take i).map fun w => (w, some ⟨0, 0, 0, 0, none⟩))) ⟨Same.upd hD, [], upd_same, .nil⟩ (fun i Hh _ z => SqT.of (z.1 _ _ ht3)) ?_ ?_
    · rintro i x H0 H4 hi ⟨S, cl, lD, hcl⟩ ⟨rfl, hx⟩
      obtain ⟨s', rfl, hs⟩ := strV_get hx
      refine ⟨rfl, _, rfl, by show 2 ≤ sizeLine; decide, fun q hq => ⟨by show 4 ≤ sizeLine; decide, fun t ht => ?_⟩⟩
      have nct : q ≠ t := fun z => by rw [← z, upd_same] at ht; cases ht
      have S6 : Same H4 (upd (upd H4 q (.tup [.int 0, .int 0])) t (.tup [.ref q, .int 0, .int 0, .non])) := Same.trans (Same.upd hq) (Same.upd ht)
      have lt : upd (upd H4 q (HO.tup [.int 0, .int 0])) t (HO.tup [.ref q, .int 0, .int 0, .non]) t = some (.tup [.ref q, .int 0, .int 0, .non]) := upd_same
      have lc : upd (upd H4 q (HO.tup [.int 0, .int 0])) t (HO.tup [.ref q, .int 0, .int 0, .non]) q = some (.tup [.int 0, .int 0]) := by rw [upd_ne nct, upd_same]
      generalize upd (upd H4 q (HO.tup [.int 0, .int 0])) t (HO.tup [.ref q, .int 0, .int 0, .non]) = H6 at S6 lt lc ⊢
      have ek : cl.map (·.1) = ws.take i := (pr_keys (fun _ _ z => z.1) hcl).trans map_ws
      have hns : s' ∉ cl.map (·.1) := by
        rw [ek]
        exact nd_at KO.nd hs
      have hll : cl.length ≤ 4 := by
        have e := congrArg List.length ek
        rw [List.length_map, List.length_take] at e
        omega
      have kt : KT H6 (upd H6 D (.dK (putK (strK cl) (Sum.inr s') (.ref t)))) := KT.upd fun xs z => by rw [S6 _ _ lD] at z; cases z
      refine ⟨_, Sum.inr s', rfl, S6 _ _ lD, by rw [List.length_map, sizeLine_eq]; omega, EX.Same.updN (Same.trans S S6) hD, cl ++ [(s', .ref t)], by rw [upd_same, strK_put hns], ?_⟩
      rw [List.take_add_one, hs, List.map_append]
      refine pr_app (pr_imp (fun _ _ z => ⟨z.1, (z.2.mono (KT.of S6)).mono kt⟩) hcl) (.cons ⟨rfl, ?_⟩ .nil)
      exact Td.mono kt (.tup lt (.cons (.tup lc (.cons (.int 0) (.cons (.int 0) .nil))) (.cons (.int 0) (.cons (.int 0) (.cons .non .nil)))))
    rintro H4 ⟨S4, cl, lD, hcl⟩
    rw [hlw, List.take_length] at hcl
    refine fun cp dy hcp hdy hne => ?_
    have S40 : Same H4 (upd (upd H4 dy (.own cp)) cp (.ins c.C dy [])) := Same.trans (Same.upd hdy) (Same.upd (by rw [upd_ne (Ne.symm hne)]; exact hcp))
    refine ⟨cp, dy, .ref n, .str "store", .non, .non, .ref D, rfl, upd_same, fun H5 ce kt k5 ho5 hce hkt => ⟨rfl, ?_⟩⟩
    have S45 := made_same hcp hdy hne k5
    have hce4 := S40.free hce
    have o4 : Holds H4 ([(n, .ins c.N dx ([("words", .ref tw)] : List (Str × V)))] ++ [(D, .dK (strK cl))]) := Holds.grow (l := [(n, .ins c.N dx ([("words", .ref tw)] : List (Str × V)))]) o1 S4 (holds1 lD) fun x hx => by rw [List.mem_singleton.mp hx]; exact hD
    have o5 := o4.grow S45 ho5 fun x hx => by
      simp only [List.mem_cons, List.not_mem_nil, or_false] at hx
      rcases hx with rfl | rfl
      · exact hcp
      · exact hce4
    have S35 := Same.trans S4 S45
    have ht5 := S35 _ _ ht3
    have hcl5 := pr_imp (G := fun (p : Str × V) (q : Str × Option CellM) => p.1 = q.1 ∧ Td H5 p.2 (cellD q.2)) (fun _ _ z => ⟨z.1, z.2.mono (KT.of S45)⟩) hcl
    have k05 := k03.then S35
    have hkt' := hkt
    have f5 : ∀ {q : Addr}, H4 q = none → q = n ∨ H q = none := fun {q} hq => by
      by_cases z : q = n
      · exact .inl z
      · exact .inr ((k03.then S4).free (by simpa using z) hq)
    have fD : D = n ∨ H D = none := by
      by_cases z : D = n
      · exact .inl z
      · exact .inr (k03.free (by simpa using z) hD)
    have fcp := f5 hcp
    have fce := f5 hce4
    have lo5 : Holds H5 [(n, .ins c.N dx ([("words", .ref tw)] : List (Str × V))), (D, .dK (strK cl)), (cp, .ins c.C dy (cfl (.ref n) (.str "store") .non .non (.ref D) ce kt)), (ce, .dK [])] := o5
    clear o4 o1 hce hce4 hdy hne
    have ka := k05
    have kb : Keeps [n] H5 H5 := Keeps.refl _ _
    refine ⟨_, rfl, n, c.N, dx, _, rfl, lo5.at_ _ (.head _), T.cl, T.f_top, by show 1 < 1000; decide, ?_⟩
    rw [show putF "top" (.ref cp) ([("words", .ref tw)] : List (Str × V)) = ([("words", .ref tw), ("top", .ref cp)] : List (Str × V)) from by rfl]
    have lp1 : Holds (upd H5 n (.ins c.N dx ([("words", .ref tw), ("top", .ref cp)] : List (Str × V)))) [(n, .ins c.N dx ([("words", .ref tw), ("top", .ref cp)] : List (Str × V))), (D, .dK (strK cl)), (cp, .ins c.C dy (cfl (.ref n) (.str "store") .non .non (.ref D) ce kt)), (ce, .dK [])] := lo5.split (l := [])
    have kp1 : Keeps [n] H5 (upd H5 n (.ins c.N dx ([("words", .ref tw), ("top", .ref cp)] : List (Str × V)))) := Keeps.one _
    generalize upd H5 n (HO.ins c.N dx ([("words", .ref tw), ("top", .ref cp)] : List (Str × V))) = G1 at lp1 kp1 ⊢
    have ka := ka.trans kp1
    have kb := kb.trans kp1
    refine fun nd hnd => ?_
    have ln2' := lp1.new (o := .dK []) hnd
    refine ⟨_, rfl, n, c.N, dx, _, _, rfl, ln2'.at_ _ (.head _), T.cl, T.f_top, rfl, upd_same, [(Sum.inr "store", .ref cp)], rfl, by show 1 ≤ 15; decide, ?_⟩
    rw [EX.upd_upd, show mergeK [] ([(Sum.inr "store", .ref cp)] : List (Key × V)) = ([(Sum.inr "store", .ref cp)] : List (Key × V)) from by rfl]
    have ln2 : Holds (upd G1 nd (.dK [(Sum.inr "store", .ref cp)])) [(n, .ins c.N dx ([("words", .ref tw), ("top", .ref cp)] : List (Str × V))), (D, .dK (strK cl)), (cp, .ins c.C dy (cfl (.ref n) (.str "store") .non .non (.ref D) ce kt)), (ce, .dK []), (nd, .dK [(Sum.inr "store", .ref cp)])] := lp1.new hnd
    have kn2 : Keeps [n] G1 (upd G1 nd (.dK [(Sum.inr "store", .ref cp)])) := Keeps.of (Same.upd hnd)
    have frnd := fr_of ka hnd
    generalize upd G1 nd (HO.dK ([(Sum.inr "store", .ref cp)] : List (Key × V))) = N2 at ln2 kn2 ⊢
    clear ln2'
    have ka := ka.trans kn2
    have kb := kb.trans kn2
    refine ⟨_, rfl, n, c.N, dx, _, rfl, ln2.at_ _ (.head _), T.cl, T.f_nodes, by show 2 < 1000; decide, ?_⟩
    rw [show putF "nodes" (.ref nd) ([("words", .ref tw), ("top", .ref cp)] : List (Str × V)) = ([("words", .ref tw), ("top", .ref cp), ("nodes", .ref nd)] : List (Str × V)) from by rfl]
    have lp2 : Holds (upd N2 n (.ins c.N dx ([("words", .ref tw), ("top", .ref cp), ("nodes", .ref nd)] : List (Str × V)))) [(n, .ins c.N dx ([("words", .ref tw), ("top", .ref cp), ("nodes", .ref nd)] : List (Str × V))), (D, .dK (strK cl)), (cp, .ins c.C dy (cfl (.ref n) (.str "store") .non .non (.ref D) ce kt)), (ce, .dK []), (nd, .dK [(Sum.inr "store", .ref cp)])] := ln2.split (l := [])
    have kp2 : Keeps [n] N2 (upd N2 n (.ins c.N dx ([("words", .ref tw), ("top", .ref cp), ("nodes", .ref nd)] : List (Str × V)))) := Keeps.one _
    generalize upd N2 n (HO.ins c.N dx ([("words", .ref tw), ("top", .ref cp), ("nodes", .ref nd)] : List (Str × V))) = G2 at lp2 kp2 ⊢
    have ka := ka.trans kp2
    have kb := kb.trans kp2
    refine ⟨by show 1 ≤ sizeLine; decide, fun la hla => ?_⟩
    have ln3 : Holds (upd G2 la (.tup [.str "store"])) [(n, .ins c.N dx ([("words", .ref tw), ("top", .ref cp), ("nodes", .ref nd)] : List (Str × V))), (D, .dK (strK cl)), (cp, .ins c.C dy (cfl (.ref n) (.str "store") .non .non (.ref D) ce kt)), (ce, .dK []), (nd, .dK [(Sum.inr "store", .ref cp)])] := lp2.same (Same.upd hla)
    have kn3 : Keeps [n] G2 (upd G2 la (.tup [.str "store"])) := Keeps.of (Same.upd hla)
    have frla := fr_of ka hla
    have tpla : upd G2 la (HO.tup [.str "store"]) la = some (.tup [.str "store"]) := upd_same
    have nla : la ≠ n := (ne_by (lp2.at_ _ (.head _)) hla).symm
    generalize upd G2 la (HO.tup [.str "store"]) = N3 at ln3 kn3 tpla ⊢
    have ka := ka.trans kn3
    have kb := kb.trans kn3
    refine ⟨_, rfl, n, c.N, dx, _, rfl, ln3.at_ _ (.head _), T.cl, T.f_labels, by show 3 < 1000; decide, ?_⟩
    rw [show putF "labels" (.ref la) ([("words", .ref tw), ("top", .ref cp), ("nodes", .ref nd)] : List (Str × V)) = ([("words", .ref tw), ("top", .ref cp), ("nodes", .ref nd), ("labels", .ref la)] : List (Str × V)) from by rfl]
    have lp3 : Holds (upd N3 n (.ins c.N dx ([("words", .ref tw), ("top", .ref cp), ("nodes", .ref nd), ("labels", .ref la)] : List (Str × V)))) [(n, .ins c.N dx ([("words", .ref tw), ("top", .ref cp), ("nodes", .ref nd), ("labels", .ref la)] : List (Str × V))), (D, .dK (strK cl)), (cp, .ins c.C dy (cfl (.ref n) (.str "store") .non .non (.ref D) ce kt)), (ce, .dK []), (nd, .dK [(Sum.inr "store", .ref cp)])] := ln3.split (l := [])
    have kp3 : Keeps [n] N3 (upd N3 n (.ins c.N dx ([("words", .ref tw), ("top", .ref cp), ("nodes", .ref nd), ("labels", .ref la)] : List (Str × V)))) := Keeps.one _
    generalize upd N3 n (HO.ins c.N dx ([("words", .ref tw), ("top", .ref cp), ("nodes", .ref nd), ("labels", .ref la)] : List (Str × V))) = G3 at lp3 kp3 ⊢
    have ka := ka.trans kp3
    have kb := kb.trans kp3
    have tpla := kp3 la _ (by simpa using nla) tpla
    refine fun rw hrw => ?_
    have ln4 : Holds (upd G3 rw (.dK [])) [(n, .ins c.N dx ([("words", .ref tw), ("top", .ref cp), ("nodes", .ref nd), ("labels", .ref la)] : List (Str × V))), (D, .dK (strK cl)), (cp, .ins c.C dy (cfl (.ref n) (.str "store") .non .non (.ref D) ce kt)), (ce, .dK []), (nd, .dK [(Sum.inr "store", .ref cp)]), (rw, .dK [])] := lp3.new hrw
    have kn4 : Keeps [n] G3 (upd G3 rw (.dK [])) := Keeps.of (Same.upd hrw)
    have frrw := fr_of ka hrw
    generalize upd G3 rw (HO.dK []) = N4 at ln4 kn4 ⊢
    have ka := ka.trans kn4
    have kb := kb.trans kn4
    have tpla := kn4 la _ (by simpa using nla) tpla
    refine ⟨_, rfl, n, c.N, dx, _, rfl, ln4.at_ _ (.head _), T.cl, T.f_rows, by show 4 < 1000; decide, ?_⟩
    rw [show putF "rows" (.ref rw) ([("words", .ref tw), ("top", .ref cp), ("nodes", .ref nd), ("labels", .ref la)] : List (Str × V)) = ([("words", .ref tw), ("top", .ref cp), ("nodes", .ref nd), ("labels", .ref la), ("rows", .ref rw)] : List (Str × V)) from by rfl]
    have lp4 : Holds (upd N4 n (.ins c.N dx ([("words", .ref tw), ("top", .ref cp), ("nodes", .ref nd), ("labels", .ref la), ("rows", .ref rw)] : List (Str × V)))) [(n, .ins c.N dx ([("words", .ref tw), ("top", .ref cp), ("nodes", .ref nd), ("labels", .ref la), ("rows", .ref rw)] : List (Str × V))), (D, .dK (strK cl)), (cp, .ins c.C dy (cfl (.ref n) (.str "store") .non .non (.ref D) ce kt)), (ce, .dK []), (nd, .dK [(Sum.inr "store", .ref cp)]), (rw, .dK [])] := ln4.split (l := [])
    have kp4 : Keeps [n] N4 (upd N4 n (.ins c.N dx ([("words", .ref tw), ("top", .ref cp), ("nodes", .ref nd), ("labels", .ref la), ("rows", .ref rw)] : List (Str × V)))) := Keeps.one _
    generalize upd N4 n (HO.ins c.N dx ([("words", .ref tw), ("top", .ref cp), ("nodes", .ref nd), ("labels", .ref la), ("rows", .ref rw)] : List (Str × V))) = G4 at lp4 kp4 ⊢
    have ka := ka.trans kp4
    have kb := kb.trans kp4
    have tpla := kp4 la _ (by simpa using nla) tpla
    refine ⟨by show 0 ≤ sizeLine; decide, fun dn hdn => ?_⟩
    have ln5 : Holds (upd G4 dn (.lst [])) [(n, .ins c.N dx ([("words", .ref tw), ("top", .ref cp), ("nodes", .ref nd), ("labels", .ref la), ("rows", .ref rw)] : List (Str × V))), (D, .dK (strK cl)), (cp, .ins c.C dy (cfl (.ref n) (.str "store") .non .non (.ref D) ce kt)), (ce, .dK []), (nd, .dK [(Sum.inr "store", .ref cp)]), (rw, .dK []), (dn, .lst [])] := lp4.new hdn
    have kn5 : Keeps [n] G4 (upd G4 dn (.lst [])) := Keeps.of (Same.upd hdn)
    have frdn := fr_of ka hdn
    generalize upd G4 dn (HO.lst []) = N5 at ln5 kn5 ⊢
    have ka := ka.trans kn5
    have kb := kb.trans kn5
    have tpla := kn5 la _ (by simpa using nla) tpla
    refine ⟨_, rfl, n, c.N, dx, _, rfl, ln5.at_ _ (.head _), T.cl, T.f_done, by show 5 < 1000; decide, ?_⟩
    rw [show putF "done" (.ref dn) ([("words", .ref tw), ("top", .ref cp), ("nodes", .ref nd), ("labels", .ref la), ("rows", .ref rw)] : List (Str × V)) = ([("words", .ref tw), ("top", .ref cp), ("nodes", .ref nd), ("labels", .ref la), ("rows", .ref rw), ("done", .ref dn)] : List (Str × V)) from by rfl]
    have lp5 : Holds (upd N5 n (.ins c.N dx ([("words", .ref tw), ("top", .ref cp), ("nodes", .ref nd), ("labels", .ref la), ("rows", .ref rw), ("done", .ref dn)] : List (Str × V)))) [(n, .ins c.N dx ([("words", .ref tw), ("top", .ref cp), ("nodes", .ref nd), ("labels", .ref la), ("rows", .ref rw), ("done", .ref dn)] : List (Str × V))), (D, .dK (strK cl)), (cp, .ins c.C dy (cfl (.ref n) (.str "store") .non .non (.ref D) ce kt)), (ce, .dK []), (nd, .dK [(Sum.inr "store", .ref cp)]), (rw, .dK []), (dn, .lst [])] := ln5.split (l := [])
    have kp5 : Keeps [n] N5 (upd N5 n (.ins c.N dx ([("words", .ref tw), ("top", .ref cp), ("nodes", .ref nd), ("labels", .ref la), ("rows", .ref rw), ("done", .ref dn)] : List (Str × V)))) := Keeps.one _
    generalize upd N5 n (HO.ins c.N dx ([("words", .ref tw), ("top", .ref cp), ("nodes", .ref nd), ("labels", .ref la), ("rows", .ref rw), ("done", .ref dn)] : List (Str × V))) = G5 at lp5 kp5 ⊢
    have ka := ka.trans kp5
    have kb := kb.trans kp5
    have tpla := kp5 la _ (by simpa using nla) tpla
    -- kept
    have ht6 : G5 tw = some (.tup (strV ws)) := kb _ _ (by simpa using nt.symm) ht5
    refine ⟨_, rfl, n, c.N, dx, _, _, rfl, lp5.at_ _ (.head _), T.cl, T.f_words, rfl, tw, rfl, ⟨_, SqT.of ht6⟩, fun kp hkp => ?_⟩
    refine dc_it (walk_tup (K := K) (a := tw) (xs := strV ws)) (fun i Hh => Same G5 Hh ∧ ∃ kl : List (Str × V), Hh kp = some (.dK (strK kl)) ∧ Paired (fun (p : Str × V) (q : Str × List Int) => p.1 = q.1 ∧ Td Hh p.2 (.tuple (q.2.map PyData.int))) kl ((ws.take i).map fun w => (w, []))) ⟨Same.upd hkp, [], upd_same, .nil⟩ (fun i Hh _ z => SqT.of (z.1 _ _ ht6)) ?_ ?_
    · rintro i x H0 H4 hi ⟨S, kl, lD, hkl⟩ ⟨rfl, hx⟩
      obtain ⟨s', rfl, hs⟩ := strV_get hx
      refine ⟨rfl, _, rfl, by show 0 ≤ sizeLine; decide, fun t ht => ?_⟩
      have S6 : Same H4 (upd H4 t (.tup [])) := Same.upd ht
      have lt : upd H4 t (HO.tup []) t = some (.tup []) := upd_same
      generalize upd H4 t (HO.tup []) = H6 at S6 lt ⊢
      have ek : kl.map (·.1) = ws.take i := (pr_keys (fun _ _ z => z.1) hkl).trans map_ws
      have hns : s' ∉ kl.map (·.1) := by
        rw [ek]
        exact nd_at KO.nd hs
      have hll : kl.length ≤ 4 := by
        have e := congrArg List.length ek
        rw [List.length_map, List.length_take] at e
        omega
      have kt : KT H6 (upd H6 kp (.dK (putK (strK kl) (Sum.inr s') (.ref t)))) := KT.upd fun xs z => by rw [S6 _ _ lD] at z; cases z
      refine ⟨_, Sum.inr s', rfl, S6 _ _ lD, by rw [List.length_map, sizeLine_eq]; omega, EX.Same.updN (Same.trans S S6) hkp, kl ++ [(s', .ref t)], by rw [upd_same, strK_put hns], ?_⟩
      rw [List.take_add_one, hs, List.map_append]
      exact pr_app (pr_imp (fun _ _ z => ⟨z.1, (z.2.mono (KT.of S6)).mono kt⟩) hkl) (.cons ⟨rfl, Td.mono kt (.tup lt .nil)⟩ .nil)
    rintro N6 ⟨S6, kl, lK, hkl⟩
    rw [hlw, List.take_length] at hkl
    have ln6 : Holds N6 [(n, .ins c.N dx ([("words", .ref tw), ("top", .ref cp), ("nodes", .ref nd), ("labels", .ref la), ("rows", .ref rw), ("done", .ref dn)] : List (Str × V))), (D, .dK (strK cl)), (cp, .ins c.C dy (cfl (.ref n) (.str "store") .non .non (.ref D) ce kt)), (ce, .dK []), (nd, .dK [(Sum.inr "store", .ref cp)]), (rw, .dK []), (dn, .lst []), (kp, .dK (strK kl))] := lp5.grow S6 (holds1 lK) fun x hx => by rw [List.mem_singleton.mp hx]; exact hkp
    have kn6 : Keeps [n] G5 N6 := Keeps.of S6
    have frkp := fr_of ka hkp
    have kd : Keeps [n] N6 N6 := Keeps.refl _ _
    have ka := ka.trans kn6
    have kb := kb.trans kn6
    have tpla := kn6 la _ (by simpa using nla) tpla
    refine ⟨_, rfl, n, c.N, dx, _, rfl, ln6.at_ _ (.head _), T.cl, T.f_kept, by show 6 < 1000; decide, ?_⟩
    rw [show putF "kept" (.ref kp) ([("words", .ref tw), ("top", .ref cp), ("nodes", .ref nd), ("labels", .ref la), ("rows", .ref rw), ("done", .ref dn)] : List (Str × V)) = ([("words", .ref tw), ("top", .ref cp), ("nodes", .ref nd), ("labels", .ref la), ("rows", .ref rw), ("done", .ref dn), ("kept", .ref kp)] : List (Str × V)) from by rfl]
    have lp6 : Holds (upd N6 n (.ins c.N dx ([("words", .ref tw), ("top", .ref cp), ("nodes", .ref nd), ("labels", .ref la), ("rows", .ref rw), ("done", .ref dn), ("kept", .ref kp)] : List (Str × V)))) [(n, .ins c.N dx ([("words", .ref tw), ("top", .ref cp), ("nodes", .ref nd), ("labels", .ref la), ("rows", .ref rw), ("done", .ref dn), ("kept", .ref kp)] : List (Str × V))), (D, .dK (strK cl)), (cp, .ins c.C dy (cfl (.ref n) (.str "store") .non .non (.ref D) ce kt)), (ce, .dK []), (nd, .dK [(Sum.inr "store", .ref cp)]), (rw, .dK []), (dn, .lst []), (kp, .dK (strK kl))] := ln6.split (l := [])
    have kp6 : Keeps [n] N6 (upd N6 n (.ins c.N dx ([("words", .ref tw), ("top", .ref cp), ("nodes", .ref nd), ("labels", .ref la), ("rows", .ref rw), ("done", .ref dn), ("kept", .ref kp)] : List (Str × V)))) := Keeps.one _
    generalize upd N6 n (HO.ins c.N dx ([("words", .ref tw), ("top", .ref cp), ("nodes", .ref nd), ("labels", .ref la), ("rows", .ref rw), ("done", .ref dn), ("kept", .ref kp)] : List (Str × V))) = G6 at lp6 kp6 ⊢
    have ka := ka.trans kp6
    have kb := kb.trans kp6
    have tpla := kp6 la _ (by simpa using nla) tpla
    have kd := kd.trans kp6
    refine ⟨by show 0 ≤ sizeLine; decide, fun ac hac => ?_⟩
    have ln7 : Holds (upd G6 ac (.lst [])) [(n, .ins c.N dx ([("words", .ref tw), ("top", .ref cp), ("nodes", .ref nd), ("labels", .ref la), ("rows", .ref rw), ("done", .ref dn), ("kept", .ref kp)] : List (Str × V))), (D, .dK (strK cl)), (cp, .ins c.C dy (cfl (.ref n) (.str "store") .non .non (.ref D) ce kt)), (ce, .dK []), (nd, .dK [(Sum.inr "store", .ref cp)]), (rw, .dK []), (dn, .lst []), (kp, .dK (strK kl)), (ac, .lst [])] := lp6.new hac
    have kn7 : Keeps [n] G6 (upd G6 ac (.lst [])) := Keeps.of (Same.upd hac)
    have frac := fr_of ka hac
    generalize upd G6 ac (HO.lst []) = N7 at ln7 kn7 ⊢
    have ka := ka.trans kn7
    have kb := kb.trans kn7
    have tpla := kn7 la _ (by simpa using nla) tpla
    have kd := kd.trans kn7
    refine ⟨_, rfl, n, c.N, dx, _, rfl, ln7.at_ _ (.head _), T.cl, T.f_accepted, by show 7 < 1000; decide, ?_⟩
    rw [show putF "accepted" (.ref ac) ([("words", .ref tw), ("top", .ref cp), ("nodes", .ref nd), ("labels", .ref la), ("rows", .ref rw), ("done", .ref dn), ("kept", .ref kp)] : List (Str × V)) = ([("words", .ref tw), ("top", .ref cp), ("nodes", .ref nd), ("labels", .ref la), ("rows", .ref rw), ("done", .ref dn), ("kept", .ref kp), ("accepted", .ref ac)] : List (Str × V)) from by rfl]
    have lp7 : Holds (upd N7 n (.ins c.N dx ([("words", .ref tw), ("top", .ref cp), ("nodes", .ref nd), ("labels", .ref la), ("rows", .ref rw), ("done", .ref dn), ("kept", .ref kp), ("accepted", .ref ac)] : List (Str × V)))) [(n, .ins c.N dx ([("words", .ref tw), ("top", .ref cp), ("nodes", .ref nd), ("labels", .ref la), ("rows", .ref rw), ("done", .ref dn), ("kept", .ref kp), ("accepted", .ref ac)] : List (Str × V))), (D, .dK (strK cl)), (cp, .ins c.C dy (cfl (.ref n) (.str "store") .non .non (.ref D) ce kt)), (ce, .dK []), (nd, .dK [(Sum.inr "store", .ref cp)]), (rw, .dK []), (dn, .lst []), (kp, .dK (strK kl)), (ac, .lst [])] := ln7.split (l := [])
    have kp7 : Keeps [n] N7 (upd N7 n (.ins c.N dx ([("words", .ref tw), ("top", .ref cp), ("nodes", .ref nd), ("labels", .ref la), ("rows", .ref rw), ("done", .ref dn), ("kept", .ref kp), ("accepted", .ref ac)] : List (Str × V)))) := Keeps.one _
    generalize upd N7 n (HO.ins c.N dx ([("words", .ref tw), ("top", .ref cp), ("nodes", .ref nd), ("labels", .ref la), ("rows", .ref rw), ("done", .ref dn), ("kept", .ref kp), ("accepted", .ref ac)] : List (Str × V))) = G7 at lp7 kp7 ⊢
    have ka := ka.trans kp7
    have kb := kb.trans kp7
    have tpla := kp7 la _ (by simpa using nla) tpla
    have kd := kd.trans kp7
    refine ⟨by show 0 ≤ sizeLine; decide, fun sm hsm => ?_⟩
    have ln8 : Holds (upd G7 sm (.lst [])) [(n, .ins c.N dx ([("words", .ref tw), ("top", .ref cp), ("nodes", .ref nd), ("labels", .ref la), ("rows", .ref rw), ("done", .ref dn), ("kept", .ref kp), ("accepted", .ref ac)] : List (Str × V))), (D, .dK (strK cl)), (cp, .ins c.C dy (cfl (.ref n) (.str "store") .non .non (.ref D) ce kt)), (ce, .dK []), (nd, .dK [(Sum.inr "store", .ref cp)]), (rw, .dK []), (dn, .lst []), (kp, .dK (strK kl)), (ac, .lst []), (sm, .lst [])] := lp7.new hsm
    have kn8 : Keeps [n] G7 (upd G7 sm (.lst [])) := Keeps.of (Same.upd hsm)
    have frsm := fr_of ka hsm
    generalize upd G7 sm (HO.lst []) = N8 at ln8 kn8 ⊢
    have ka := ka.trans kn8
    have kb := kb.trans kn8
    have tpla := kn8 la _ (by simpa using nla) tpla
    have kd := kd.trans kn8
    refine ⟨_, rfl, n, c.N, dx, _, rfl, ln8.at_ _ (.head _), T.cl, T.f_stamps, by show 8 < 1000; decide, ?_⟩
    rw [show putF "stamps" (.ref sm) ([("words", .ref tw), ("top", .ref cp), ("nodes", .ref nd), ("labels", .ref la), ("rows", .ref rw), ("done", .ref dn), ("kept", .ref kp), ("accepted", .ref ac)] : List (Str × V)) = ([("words", .ref tw), ("top", .ref cp), ("nodes", .ref nd), ("labels", .ref la), ("rows", .ref rw), ("done", .ref dn), ("kept", .ref kp), ("accepted", .ref ac), ("stamps", .ref sm)] : List (Str × V)) from by rfl]
    have lp8 : Holds (upd N8 n (.ins c.N dx ([("words", .ref tw), ("top", .ref cp), ("nodes", .ref nd), ("labels", .ref la), ("rows", .ref rw), ("done", .ref dn), ("kept", .ref kp), ("accepted", .ref ac), ("stamps", .ref sm)] : List (Str × V)))) [(n, .ins c.N dx ([("words", .ref tw), ("top", .ref cp), ("nodes", .ref nd), ("labels", .ref la), ("rows", .ref rw), ("done", .ref dn), ("kept", .ref kp), ("accepted", .ref ac), ("stamps", .ref sm)] : List (Str × V))), (D, .dK (strK cl)), (cp, .ins c.C dy (cfl (.ref n) (.str "store") .non .non (.ref D) ce kt)), (ce, .dK []), (nd, .dK [(Sum.inr "store", .ref cp)]), (rw, .dK []), (dn, .lst []), (kp, .dK (strK kl)), (ac, .lst []), (sm, .lst [])] := ln8.split (l := [])
    have kp8 : Keeps [n] N8 (upd N8 n (.ins c.N dx ([("words", .ref tw), ("top", .ref cp), ("nodes", .ref nd), ("labels", .ref la), ("rows", .ref rw), ("done", .ref dn), ("kept", .ref kp), ("accepted", .ref ac), ("stamps", .ref sm)] : List (Str × V)))) := Keeps.one _
    generalize upd N8 n (HO.ins c.N dx ([("words", .ref tw), ("top", .ref cp), ("nodes", .ref nd), ("labels", .ref la), ("rows", .ref rw), ("done", .ref dn), ("kept", .ref kp), ("accepted", .ref ac), ("stamps", .ref sm)] : List (Str × V))) = G8 at lp8 kp8 ⊢
    have ka := ka.trans kp8
    have kb := kb.trans kp8
    have tpla := kp8 la _ (by simpa using nla) tpla
    have kd := kd.trans kp8
    refine ⟨_, rfl, n, c.N, dx, _, rfl, lp8.at_ _ (.head _), T.cl, T.f_questions, by show 9 < 1000; decide, ?_⟩
    rw [show putF "questions" (.int 0) ([("words", .ref tw), ("top", .ref cp), ("nodes", .ref nd), ("labels", .ref la), ("rows", .ref rw), ("done", .ref dn), ("kept", .ref kp), ("accepted", .ref ac), ("stamps", .ref sm)] : List (Str × V)) = ([("words", .ref tw), ("top", .ref cp), ("nodes", .ref nd), ("labels", .ref la), ("rows", .ref rw), ("done", .ref dn), ("kept", .ref kp), ("accepted", .ref ac), ("stamps", .ref sm), ("questions", .int 0)] : List (Str × V)) from by rfl]
    have lp9 : Holds (upd G8 n (.ins c.N dx ([("words", .ref tw), ("top", .ref cp), ("nodes", .ref nd), ("labels", .ref la), ("rows", .ref rw), ("done", .ref dn), ("kept", .ref kp), ("accepted", .ref ac), ("stamps", .ref sm), ("questions", .int 0)] : List (Str × V)))) [(n, .ins c.N dx ([("words", .ref tw), ("top", .ref cp), ("nodes", .ref nd), ("labels", .ref la), ("rows", .ref rw), ("done", .ref dn), ("kept", .ref kp), ("accepted", .ref ac), ("stamps", .ref sm), ("questions", .int 0)] : List (Str × V))), (D, .dK (strK cl)), (cp, .ins c.C dy (cfl (.ref n) (.str "store") .non .non (.ref D) ce kt)), (ce, .dK []), (nd, .dK [(Sum.inr "store", .ref cp)]), (rw, .dK []), (dn, .lst []), (kp, .dK (strK kl)), (ac, .lst []), (sm, .lst [])] := lp8.split (l := [])
    have kp9 : Keeps [n] G8 (upd G8 n (.ins c.N dx ([("words", .ref tw), ("top", .ref cp), ("nodes", .ref nd), ("labels", .ref la), ("rows", .ref rw), ("done", .ref dn), ("kept", .ref kp), ("accepted", .ref ac), ("stamps", .ref sm), ("questions", .int 0)] : List (Str × V)))) := Keeps.one _
    generalize upd G8 n (HO.ins c.N dx ([("words", .ref tw), ("top", .ref cp), ("nodes", .ref nd), ("labels", .ref la), ("rows", .ref rw), ("done", .ref dn), ("kept", .ref kp), ("accepted", .ref ac), ("stamps", .ref sm), ("questions", .int 0)] : List (Str × V))) = G9 at lp9 kp9 ⊢
    have ka := ka.trans kp9
    have kb := kb.trans kp9
    have tpla := kp9 la _ (by simpa using nla) tpla
    have kd := kd.trans kp9
    refine fun tr htr => ?_
    have ln10 : Holds (upd G9 tr (.dK [])) [(n, .ins c.N dx ([("words", .ref tw), ("top", .ref cp), ("nodes", .ref nd), ("labels", .ref la), ("rows", .ref rw), ("done", .ref dn), ("kept", .ref kp), ("accepted", .ref ac), ("stamps", .ref sm), ("questions", .int 0)] : List (Str × V))), (D, .dK (strK cl)), (cp, .ins c.C dy (cfl (.ref n) (.str "store") .non .non (.ref D) ce kt)), (ce, .dK []), (nd, .dK [(Sum.inr "store", .ref cp)]), (rw, .dK []), (dn, .lst []), (kp, .dK (strK kl)), (ac, .lst []), (sm, .lst []), (tr, .dK [])] := lp9.new htr
    have kn10 : Keeps [n] G9 (upd G9 tr (.dK [])) := Keeps.of (Same.upd htr)
    have frtr := fr_of ka htr
    generalize upd G9 tr (HO.dK []) = N10 at ln10 kn10 ⊢
    have ka := ka.trans kn10
    have kb := kb.trans kn10
    have tpla := kn10 la _ (by simpa using nla) tpla
    have kd := kd.trans kn10
    refine ⟨_, rfl, n, c.N, dx, _, rfl, ln10.at_ _ (.head _), T.cl, T.f_trails, by show 10 < 1000; decide, ?_⟩
    rw [show putF "trails" (.ref tr) ([("words", .ref tw), ("top", .ref cp), ("nodes", .ref nd), ("labels", .ref la), ("rows", .ref rw), ("done", .ref dn), ("kept", .ref kp), ("accepted", .ref ac), ("stamps", .ref sm), ("questions", .int 0)] : List (Str × V)) = ([("words", .ref tw), ("top", .ref cp), ("nodes", .ref nd), ("labels", .ref la), ("rows", .ref rw), ("done", .ref dn), ("kept", .ref kp), ("accepted", .ref ac), ("stamps", .ref sm), ("questions", .int 0), ("trails", .ref tr)] : List (Str × V)) from by rfl]
    have lp10 : Holds (upd N10 n (.ins c.N dx ([("words", .ref tw), ("top", .ref cp), ("nodes", .ref nd), ("labels", .ref la), ("rows", .ref rw), ("done", .ref dn), ("kept", .ref kp), ("accepted", .ref ac), ("stamps", .ref sm), ("questions", .int 0), ("trails", .ref tr)] : List (Str × V)))) [(n, .ins c.N dx ([("words", .ref tw), ("top", .ref cp), ("nodes", .ref nd), ("labels", .ref la), ("rows", .ref rw), ("done", .ref dn), ("kept", .ref kp), ("accepted", .ref ac), ("stamps", .ref sm), ("questions", .int 0), ("trails", .ref tr)] : List (Str × V))), (D, .dK (strK cl)), (cp, .ins c.C dy (cfl (.ref n) (.str "store") .non .non (.ref D) ce kt)), (ce, .dK []), (nd, .dK [(Sum.inr "store", .ref cp)]), (rw, .dK []), (dn, .lst []), (kp, .dK (strK kl)), (ac, .lst []), (sm, .lst []), (tr, .dK [])] := ln10.split (l := [])
    have kp10 : Keeps [n] N10 (upd N10 n (.ins c.N dx ([("words", .ref tw), ("top", .ref cp), ("nodes", .ref nd), ("labels", .ref la), ("rows", .ref rw), ("done", .ref dn), ("kept", .ref kp), ("accepted", .ref ac), ("stamps", .ref sm), ("questions", .int 0), ("trails", .ref tr)] : List (Str × V)))) := Keeps.one _
    generalize upd N10 n (HO.ins c.N dx ([("words", .ref tw), ("top", .ref cp), ("nodes", .ref nd), ("labels", .ref la), ("rows", .ref rw), ("done", .ref dn), ("kept", .ref kp), ("accepted", .ref ac), ("stamps", .ref sm), ("questions", .int 0), ("trails", .ref tr)] : List (Str × V))) = G10 at lp10 kp10 ⊢
    have ka := ka.trans kp10
    have kb := kb.trans kp10
    have tpla := kp10 la _ (by simpa using nla) tpla
    have kd := kd.trans kp10
    refine fun an han => ?_
    have ln11 : Holds (upd G10 an (.dK [])) [(n, .ins c.N dx ([("words", .ref tw), ("top", .ref cp), ("nodes", .ref nd), ("labels", .ref la), ("rows", .ref rw), ("done", .ref dn), ("kept", .ref kp), ("accepted", .ref ac), ("stamps", .ref sm), ("questions", .int 0), ("trails", .ref tr)] : List (Str × V))), (D, .dK (strK cl)), (cp, .ins c.C dy (cfl (.ref n) (.str "store") .non .non (.ref D) ce kt)), (ce, .dK []), (nd, .dK [(Sum.inr "store", .ref cp)]), (rw, .dK []), (dn, .lst []), (kp, .dK (strK kl)), (ac, .lst []), (sm, .lst []), (tr, .dK []), (an, .dK [])] := lp10.new han
    have kn11 : Keeps [n] G10 (upd G10 an (.dK [])) := Keeps.of (Same.upd han)
    have fran := fr_of ka han
    generalize upd G10 an (HO.dK []) = N11 at ln11 kn11 ⊢
    have ka := ka.trans kn11
    have kb := kb.trans kn11
    have tpla := kn11 la _ (by simpa using nla) tpla
    have kd := kd.trans kn11
    refine ⟨_, rfl, n, c.N, dx, _, rfl, ln11.at_ _ (.head _), T.cl, T.f_answered, by show 11 < 1000; decide, ?_⟩
    rw [show putF "answered" (.ref an) ([("words", .ref tw), ("top", .ref cp), ("nodes", .ref nd), ("labels", .ref la), ("rows", .ref rw), ("done", .ref dn), ("kept", .ref kp), ("accepted", .ref ac), ("stamps", .ref sm), ("questions", .int 0), ("trails", .ref tr)] : List (Str × V)) = ([("words", .ref tw), ("top", .ref cp), ("nodes", .ref nd), ("labels", .ref la), ("rows", .ref rw), ("done", .ref dn), ("kept", .ref kp), ("accepted", .ref ac), ("stamps", .ref sm), ("questions", .int 0), ("trails", .ref tr), ("answered", .ref an)] : List (Str × V)) from by rfl]
    have lp11 : Holds (upd N11 n (.ins c.N dx ([("words", .ref tw), ("top", .ref cp), ("nodes", .ref nd), ("labels", .ref la), ("rows", .ref rw), ("done", .ref dn), ("kept", .ref kp), ("accepted", .ref ac), ("stamps", .ref sm), ("questions", .int 0), ("trails", .ref tr), ("answered", .ref an)] : List (Str × V)))) [(n, .ins c.N dx ([("words", .ref tw), ("top", .ref cp), ("nodes", .ref nd), ("labels", .ref la), ("rows", .ref rw), ("done", .ref dn), ("kept", .ref kp), ("accepted", .ref ac), ("stamps", .ref sm), ("questions", .int 0), ("trails", .ref tr), ("answered", .ref an)] : List (Str × V))), (D, .dK (strK cl)), (cp, .ins c.C dy (cfl (.ref n) (.str "store") .non .non (.ref D) ce kt)), (ce, .dK []), (nd, .dK [(Sum.inr "store", .ref cp)]), (rw, .dK []), (dn, .lst []), (kp, .dK (strK kl)), (ac, .lst []), (sm, .lst []), (tr, .dK []), (an, .dK [])] := ln11.split (l := [])
    have kp11 : Keeps [n] N11 (upd N11 n (.ins c.N dx ([("words", .ref tw), ("top", .ref cp), ("nodes", .ref nd), ("labels", .ref la), ("rows", .ref rw), ("done", .ref dn), ("kept", .ref kp), ("accepted", .ref ac), ("stamps", .ref sm), ("questions", .int 0), ("trails", .ref tr), ("answered", .ref an)] : List (Str × V)))) := Keeps.one _
    generalize upd N11 n (HO.ins c.N dx ([("words", .ref tw), ("top", .ref cp), ("nodes", .ref nd), ("labels", .ref la), ("rows", .ref rw), ("done", .ref dn), ("kept", .ref kp), ("accepted", .ref ac), ("stamps", .ref sm), ("questions", .int 0), ("trails", .ref tr), ("answered", .ref an)] : List (Str × V))) = G11 at lp11 kp11 ⊢
    have ka := ka.trans kp11
    have kb := kb.trans kp11
    have tpla := kp11 la _ (by simpa using nla) tpla
    have kd := kd.trans kp11
    refine fun rc hrc => ?_
    have ln12 : Holds (upd G11 rc (.dK [])) [(n, .ins c.N dx ([("words", .ref tw), ("top", .ref cp), ("nodes", .ref nd), ("labels", .ref la), ("rows", .ref rw), ("done", .ref dn), ("kept", .ref kp), ("accepted", .ref ac), ("stamps", .ref sm), ("questions", .int 0), ("trails", .ref tr), ("answered", .ref an)] : List (Str × V))), (D, .dK (strK cl)), (cp, .ins c.C dy (cfl (.ref n) (.str "store") .non .non (.ref D) ce kt)), (ce, .dK []), (nd, .dK [(Sum.inr "store", .ref cp)]), (rw, .dK []), (dn, .lst []), (kp, .dK (strK kl)), (ac, .lst []), (sm, .lst []), (tr, .dK []), (an, .dK []), (rc, .dK [])] := lp11.new hrc
    have kn12 : Keeps [n] G11 (upd G11 rc (.dK [])) := Keeps.of (Same.upd hrc)
    have frrc := fr_of ka hrc
    generalize upd G11 rc (HO.dK []) = N12 at ln12 kn12 ⊢
    have ka := ka.trans kn12
    have kb := kb.trans kn12
    have tpla := kn12 la _ (by simpa using nla) tpla
    have kd := kd.trans kn12
    refine ⟨_, rfl, n, c.N, dx, _, rfl, ln12.at_ _ (.head _), T.cl, T.f_receipts, by show 12 < 1000; decide, ?_⟩
    rw [show putF "receipts" (.ref rc) ([("words", .ref tw), ("top", .ref cp), ("nodes", .ref nd), ("labels", .ref la), ("rows", .ref rw), ("done", .ref dn), ("kept", .ref kp), ("accepted", .ref ac), ("stamps", .ref sm), ("questions", .int 0), ("trails", .ref tr), ("answered", .ref an)] : List (Str × V)) = ([("words", .ref tw), ("top", .ref cp), ("nodes", .ref nd), ("labels", .ref la), ("rows", .ref rw), ("done", .ref dn), ("kept", .ref kp), ("accepted", .ref ac), ("stamps", .ref sm), ("questions", .int 0), ("trails", .ref tr), ("answered", .ref an), ("receipts", .ref rc)] : List (Str × V)) from by rfl]
    have lp12 : Holds (upd N12 n (.ins c.N dx ([("words", .ref tw), ("top", .ref cp), ("nodes", .ref nd), ("labels", .ref la), ("rows", .ref rw), ("done", .ref dn), ("kept", .ref kp), ("accepted", .ref ac), ("stamps", .ref sm), ("questions", .int 0), ("trails", .ref tr), ("answered", .ref an), ("receipts", .ref rc)] : List (Str × V)))) [(n, .ins c.N dx ([("words", .ref tw), ("top", .ref cp), ("nodes", .ref nd), ("labels", .ref la), ("rows", .ref rw), ("done", .ref dn), ("kept", .ref kp), ("accepted", .ref ac), ("stamps", .ref sm), ("questions", .int 0), ("trails", .ref tr), ("answered", .ref an), ("receipts", .ref rc)] : List (Str × V))), (D, .dK (strK cl)), (cp, .ins c.C dy (cfl (.ref n) (.str "store") .non .non (.ref D) ce kt)), (ce, .dK []), (nd, .dK [(Sum.inr "store", .ref cp)]), (rw, .dK []), (dn, .lst []), (kp, .dK (strK kl)), (ac, .lst []), (sm, .lst []), (tr, .dK []), (an, .dK []), (rc, .dK [])] := ln12.split (l := [])
    have kp12 : Keeps [n] N12 (upd N12 n (.ins c.N dx ([("words", .ref tw), ("top", .ref cp), ("nodes", .ref nd), ("labels", .ref la), ("rows", .ref rw), ("done", .ref dn), ("kept", .ref kp), ("accepted", .ref ac), ("stamps", .ref sm), ("questions", .int 0), ("trails", .ref tr), ("answered", .ref an), ("receipts", .ref rc)] : List (Str × V)))) := Keeps.one _
    generalize upd N12 n (HO.ins c.N dx ([("words", .ref tw), ("top", .ref cp), ("nodes", .ref nd), ("labels", .ref la), ("rows", .ref rw), ("done", .ref dn), ("kept", .ref kp), ("accepted", .ref ac), ("stamps", .ref sm), ("questions", .int 0), ("trails", .ref tr), ("answered", .ref an), ("receipts", .ref rc)] : List (Str × V))) = G12 at lp12 kp12 ⊢
    have ka := ka.trans kp12
    have kb := kb.trans kp12
    have tpla := kp12 la _ (by simpa using nla) tpla
    have kd := kd.trans kp12
    have n5 : ∀ p ∈ [n], ∀ xs, H5 p ≠ some (.tup xs) := fun p hp xs z => by
      rw [List.mem_singleton.mp hp, lo5.at_ _ (.head _)] at z
      cases z
    have n6 : ∀ p ∈ [n], ∀ xs, N6 p ≠ some (.tup xs) := fun p hp xs z => by
      rw [List.mem_singleton.mp hp, ln6.at_ _ (.head _)] at z
      cases z
    have kb' := KT.keeps kb n5
    have kd' := KT.keeps kd n6
    refine k _ ⟨NetZ.ps c { n := n, dx := dx, nd := nd, rd := rw, dn := dn, kp := kp, ac := ac, sm := sm, tr := tr, an := an, rc := rc, tw := .ref tw, top := .ref cp, la := .ref la, qs := 0, nodes := [{ na := cp, dx := dy, cd := D, en := ce, label := "store", above := .non, row := .non, cells := cl, kids := [], kt := .ref kt }], rows := [], done := [], kept := kl, acc := [], stm := [], trails := [], answered := [], receipts := [] }, NetZ.nx { n := n, dx := dx, nd := nd, rd := rw, dn := dn, kp := kp, ac := ac, sm := sm, tr := tr, an := an, rc := rc, tw := .ref tw, top := .ref cp, la := .ref la, qs := 0, nodes := [{ na := cp, dx := dy, cd := D, en := ce, label := "store", above := .non, row := .non, cells := cl, kids := [], kt := .ref kt }], rows := [], done := [], kept := kl, acc := [], stm := [], trails := [], answered := [], receipts := [] }⟩ ka ⟨{ n := n, dx := dx, nd := nd, rd := rw, dn := dn, kp := kp, ac := ac, sm := sm, tr := tr, an := an, rc := rc, tw := .ref tw, top := .ref cp, la := .ref la, qs := 0, nodes := [{ na := cp, dx := dy, cd := D, en := ce, label := "store", above := .non, row := .non, cells := cl, kids := [], kt := .ref kt }], rows := [], done := [], kept := kl, acc := [], stm := [], trails := [], answered := [], receipts := [] }, rfl, rfl, rfl, lp12.perm ?_, ?_, newW KO.nd h4⟩ ?_
    · exact List.Perm.cons _ ((List.perm_append_comm (l₁ := [(nd, _), (rw, _), (dn, _), (kp, _), (ac, _), (sm, _), (tr, _), (an, _), (rc, _)]) (l₂ := [(cp, _), (D, _), (ce, _)])).trans (List.Perm.append_right _ (List.Perm.swap _ _ _)))
    · exact ⟨.cons ⟨rfl, rfl, rfl, pr_imp (fun _ _ z => ⟨z.1, z.2.mono kb'⟩) hcl5, rfl, (fun p hp => nomatch hp), .tup (kb' _ _ hkt') .nil⟩ .nil, .nil, .tup (kb' _ _ ht5) (td_strs ws), .tup tpla (.cons (.str _) .nil), ⟨_, _, rfl, rfl⟩, .nil, pr_imp (fun _ _ z => ⟨z.1, z.2.mono kd'⟩) hkl, rfl, rfl, rfl, .nil, .nil, .nil⟩
    · intro q hq
      have hq : q ∈ NetZ.ps c _ := hq
      obtain ⟨x, hx, rfl⟩ := List.mem_map.mp hq
      rcases mem_objs hx with hx | ⟨y, hy, hx⟩ | ⟨y, hy, hx⟩
      · unfold netO at hx
        simp only [List.mem_cons, List.not_mem_nil, or_false] at hx
        rcases hx with rfl | rfl | rfl | rfl | rfl | rfl | rfl | rfl | rfl | rfl
        · exact .inl rfl
        · exact frnd
        · exact frrw
        · exact frdn
        · exact frkp
        · exact frac
        · exact frsm
        · exact frtr
        · exact fran
        · exact frrc
      · rw [List.mem_singleton.mp hy] at hx
        unfold nodeO at hx
        simp only [List.mem_cons, List.not_mem_nil, or_false] at hx
        rcases hx with rfl | rfl | rfl
        · exact fcp
        · exact fD
        · exact fce
      · cases hy
end
end K03
set_option Elab.async false
set_option linter.all false
set_option maxRecDepth 100000
set_option maxHeartbeats 4000000
/-! changes of a net's parts -/
namespace NZ
open PySem L2 EX PyProof.Rows
section
variable {α β γ : Type} {F : α → β → Prop}
theorem pr_snoc : ∀ {l : List α} {m : List β} {a : α} {b : β}, Paired F (l ++ [a]) (m ++ [b]) → Paired F l m ∧ F a b
  | [], [], _, _, .cons h .nil => ⟨.nil, h⟩
  | [], [_], _, _, .cons _ t => nomatch t
  | [], _ :: _ :: _, _, _, .cons _ t => nomatch t
  | [_], [], _, _, .cons _ t => nomatch t
  | _ :: _ :: _, [], _, _, .cons _ t => nomatch t
  | _ :: _, _ :: _, _, _, .cons h t => ⟨.cons h (pr_snoc t).1, (pr_snoc t).2⟩
theorem pr_set : ∀ {l : List α} {m : List β} {i : Nat} {a : α} {b : β}, Paired F l m → F a b → Paired F (l.set i a) (m.set i b)
  | _, _, _, _, _, .nil, _ => .nil
  | _, _, 0, _, _, .cons _ t, h => .cons h t
  | _, _, _ + 1, _, _, .cons h0 t, h => .cons h0 (pr_set t h)
theorem pr_mk {f : γ → α} {h : γ → β} (w : ∀ x, F (f x) (h x)) : ∀ l : List γ, Paired F (l.map f) (l.map h)
  | [] => .nil
  | _ :: r => .cons (w _) (pr_mk w r)
theorem mix_get {js : List γ} {f h : γ → β} {i : Nat} {j : γ} (e : js[i]? = some j) : ((js.take i).map f ++ (js.drop i).map h)[i]? = some (h j) := by
  obtain ⟨hl, e2⟩ := List.getElem?_eq_some_iff.mp e
  rw [List.getElem?_append_right (by rw [List.length_map, List.length_take]; omega), List.length_map, List.length_take, Nat.min_eq_left (Nat.le_of_lt hl), Nat.sub_self, List.drop_eq_getElem_cons hl, e2]
  rfl
theorem mix_set {js : List γ} {f h : γ → β} {i : Nat} {j : γ} (e : js[i]? = some j) : ((js.take i).map f ++ (js.drop i).map h).set i (f j) = (js.take (i + 1)).map f ++ (js.drop (i + 1)).map h := by
  obtain ⟨hl, e2⟩ := List.getElem?_eq_some_iff.mp e
  rw [List.set_append_right _ _ (by rw [List.length_map, List.length_take]; omega), List.length_map, List.length_take, Nat.min_eq_left (Nat.le_of_lt hl), Nat.sub_self, List.drop_eq_getElem_cons hl, e2, List.take_add_one, e, List.map_append, List.append_assoc]
  rfl
end
theorem rep_none {v : V} {s : Str} : ∀ {l : List (Str × V)}, s ∉ l.map (·.1) → ((strK l).map fun kv => if kv.1 = Sum.inr s then (kv.1, v) else kv) = strK l
  | [], _ => rfl
  | q :: r, h => by
    have hne : (Sum.inr q.1 : Key) ≠ Sum.inr s := fun z => h (List.mem_map.mpr ⟨_, .head _, Sum.inr.inj z⟩)
    show (if (Sum.inr q.1 : Key) = Sum.inr s then _ else _) :: List.map _ (strK r) = _
    rw [if_neg hne, rep_none (l := r) fun z => h (.tail _ z)]
    rfl
theorem rep_set {v0 v : V} {s : Str} : ∀ {l : List (Str × V)} {i : Nat}, (l.map (·.1)).Nodup → l[i]? = some (s, v0) → ((strK l).map fun kv => if kv.1 = Sum.inr s then (kv.1, v) else kv) = strK (l.set i (s, v))
  | [], _, _, e => by cases e
  | q :: r, 0, nd, e => by
    cases e
    obtain ⟨n1, n2⟩ := List.nodup_cons.mp nd
    show (if (Sum.inr s : Key) = Sum.inr s then _ else _) :: List.map _ (strK r) = _
    rw [if_pos rfl, rep_none n1]
    rfl
  | q :: r, i + 1, nd, e => by
    obtain ⟨n1, n2⟩ := List.nodup_cons.mp nd
    have hne : (Sum.inr q.1 : Key) ≠ Sum.inr s := fun z => n1 (List.mem_map.mpr ⟨_, List.mem_of_getElem? e, (Sum.inr.inj z).symm⟩)
    show (if (Sum.inr q.1 : Key) = Sum.inr s then _ else _) :: List.map _ (strK r) = _
    rw [if_neg hne, rep_set (l := r) (i := i) n2 e]
    rfl
theorem strK_set {v0 v : V} {s : Str} {l : List (Str × V)} {i : Nat} (nd : (l.map (·.1)).Nodup) (e : l[i]? = some (s, v0)) : putK (strK l) (Sum.inr s) v = strK (l.set i (s, v)) := by
  unfold putK
  have h : ((strK l).any fun kv => decide (kv.1 = (Sum.inr s : Key))) = true := List.any_eq_true.mpr ⟨(Sum.inr s, v0), List.mem_map.mpr ⟨_, List.mem_of_getElem? e, rfl⟩, by simp⟩
  rw [if_pos h]
  exact rep_set nd e
theorem set_keys {v0 v : V} {s : Str} : ∀ {l : List (Str × V)} {i : Nat}, l[i]? = some (s, v0) → (l.set i (s, v)).map (·.1) = l.map (·.1)
  | [], _, e => by cases e
  | q :: r, 0, e => by
    cases e
    rfl
  | q :: r, i + 1, e => congrArg (q.1 :: ·) (set_keys (l := r) (i := i) e)
/-- the cells of a node, opened -/
theorem td_cell {H : Hp} {v : V} {c : CellM} (h : Td H v c.d) : ∃ t q a, v = .ref t ∧ H t = some (.tup [.ref q, .int c.alw, .int c.told, a]) ∧ H q = some (.tup [.int c.num, .int c.val]) ∧ Td H a (optD c.asked) := by
  unfold CellM.d copyD at h
  cases h with
  | tup h1 t1 =>
    cases t1 with
    | cons a t2 =>
      cases t2 with
      | cons b t3 =>
        cases t3 with
        | cons d t4 =>
          cases t4 with
          | cons e t5 =>
            cases t5
            cases b
            cases d
            cases a with
            | tup h2 u1 =>
              cases u1 with
              | cons a2 u2 =>
                cases u2 with
                | cons b2 u3 =>
                  cases u3
                  cases a2
                  cases b2
                  exact ⟨_, _, _, rfl, h1, h2, e⟩
theorem td_two {H : Hp} {v : V} {a b : Int} (h : Td H v (.tuple [.int a, .int b])) : ∃ t, v = .ref t ∧ H t = some (.tup [.int a, .int b]) := by
  cases h with
  | tup h1 t1 =>
    cases t1 with
    | cons a t2 =>
      cases t2 with
      | cons b t3 =>
        cases t3
        cases a
        cases b
        exact ⟨_, rfl, h1⟩
section
variable {c : Cs} {H : Hp} {Z : NetZ} {xs ys : List RowZ} {y : RowZ}
theorem row_cells (h : NetH c H Z) (hz : Z.rows = xs ++ y :: ys) (cs : List (Str × V)) : NetH c (upd H y.cd (.dK (strK cs))) { Z with rows := xs ++ { y with cells := cs } :: ys } := by
  have e : rowsK (xs ++ { y with cells := cs } :: ys) = rowsK Z.rows := by
    rw [hz]
    simp [rowsK]
  refine h.put_row (z' := { Z with rows := xs ++ { y with cells := cs } :: ys }) (y' := { y with cells := cs }) (a := [(y.ra, .ins c.E y.dx (rowF y))]) (b := [(y.dq, .lst y.down), (y.uq, .lst y.up)]) hz rfl rfl rfl ?_ rfl
  unfold netO
  simp only [e]
theorem row_down (h : NetH c H Z) (hz : Z.rows = xs ++ y :: ys) (ds : List V) : NetH c (upd H y.dq (.lst ds)) { Z with rows := xs ++ { y with down := ds } :: ys } := by
  have e : rowsK (xs ++ { y with down := ds } :: ys) = rowsK Z.rows := by
    rw [hz]
    simp [rowsK]
  refine h.put_row (z' := { Z with rows := xs ++ { y with down := ds } :: ys }) (y' := { y with down := ds }) (a := [(y.ra, .ins c.E y.dx (rowF y)), (y.cd, .dK (strK y.cells))]) (b := [(y.uq, .lst y.up)]) hz rfl rfl rfl ?_ rfl
  unfold netO
  simp only [e]
theorem row_up (h : NetH c H Z) (hz : Z.rows = xs ++ y :: ys) (ds : List V) : NetH c (upd H y.uq (.lst ds)) { Z with rows := xs ++ { y with up := ds } :: ys } := by
  have e : rowsK (xs ++ { y with up := ds } :: ys) = rowsK Z.rows := by
    rw [hz]
    simp [rowsK]
  refine h.put_row (z' := { Z with rows := xs ++ { y with up := ds } :: ys }) (y' := { y with up := ds }) (a := [(y.ra, .ins c.E y.dx (rowF y)), (y.cd, .dK (strK y.cells)), (y.dq, .lst y.down)]) (b := []) hz rfl rfl rfl ?_ rfl
  unfold netO
  simp only [e]
end
section
variable {c : Cs} {H : Hp} {Z : NetZ} {xs ys : List NodeZ} {y : NodeZ}
theorem node_cells (h : NetH c H Z) (hz : Z.nodes = xs ++ y :: ys) (cs : List (Str × V)) : NetH c (upd H y.cd (.dK (strK cs))) { Z with nodes := xs ++ { y with cells := cs } :: ys } := by
  have e : nodesK (xs ++ { y with cells := cs } :: ys) = nodesK Z.nodes := by
    rw [hz]
    simp [nodesK]
  refine h.put_node (z' := { Z with nodes := xs ++ { y with cells := cs } :: ys }) (y' := { y with cells := cs }) (a := [(y.na, .ins c.C y.dx (nodeF Z.n y))]) (b := [(y.en, .dK (refK y.kids))]) hz rfl rfl rfl ?_ rfl rfl
  unfold netO
  simp only [e]
theorem node_kids (h : NetH c H Z) (hz : Z.nodes = xs ++ y :: ys) (ks : List (Str × Addr)) : NetH c (upd H y.en (.dK (refK ks))) { Z with nodes := xs ++ { y with kids := ks } :: ys } := by
  have e : nodesK (xs ++ { y with kids := ks } :: ys) = nodesK Z.nodes := by
    rw [hz]
    simp [nodesK]
  refine h.put_node (z' := { Z with nodes := xs ++ { y with kids := ks } :: ys }) (y' := { y with kids := ks }) (a := [(y.na, .ins c.C y.dx (nodeF Z.n y)), (y.cd, .dK (strK y.cells))]) (b := []) hz rfl rfl rfl ?_ rfl rfl
  unfold netO
  simp only [e]
theorem node_kt (h : NetH c H Z) (hz : Z.nodes = xs ++ y :: ys) (kt : V) : NetH c (upd H y.na (.ins c.C y.dx (nodeF Z.n { y with kt := kt }))) { Z with nodes := xs ++ { y with kt := kt } :: ys } := by
  have e : nodesK (xs ++ { y with kt := kt } :: ys) = nodesK Z.nodes := by
    rw [hz]
    simp [nodesK]
  refine h.put_node (z' := { Z with nodes := xs ++ { y with kt := kt } :: ys }) (y' := { y with kt := kt }) (a := []) (b := [(y.cd, .dK (strK y.cells)), (y.en, .dK (refK y.kids))]) hz rfl rfl rfl ?_ rfl rfl
  unfold netO
  simp only [e]
end
theorem Holds.add1 {H : Hp} {l : List (Addr × HO)} {p : Addr} {o : HO} (h : Holds H l) (n : p ∉ l.map (·.1)) (e : H p = some o) : Holds H (l ++ [(p, o)]) := by
  refine ⟨?_, fun x hx => (List.mem_append.mp hx).elim (h.at_ x) fun hx => by rw [List.mem_singleton.mp hx]; exact e⟩
  rw [List.map_append, List.nodup_append]
  refine ⟨h.nd, by simp, fun a ha b hb z => n ?_⟩
  rw [List.map_cons, List.map_nil, List.mem_singleton] at hb
  have hb : b = p := hb
  rw [← hb, ← z]
  exact ha
theorem _root_.EX.Keeps.updN {S : List Addr} {H H1 : Hp} {D : Addr} {o : HO} (k : Keeps S H H1) (h : H D = none) : Keeps S H (upd H1 D o) := fun b u n e => by
  rw [upd_ne (fun z => by rw [z, h] at e; cases e)]
  exact k b u n e
end NZ
namespace NZ
open PySem L2 EX PyProof.Rows
theorem perm_a {α : Type} {A B R : List α} {x1 x2 x3 : α} : (A ++ ((B ++ [x1, x2, x3]) ++ R)).Perm ((A ++ (B ++ R)) ++ [x2] ++ [x1, x3]) := by
  have h1 : ((B ++ [x1, x2, x3]) ++ R).Perm ((B ++ R) ++ [x1, x2, x3]) := by
    rw [List.append_assoc, List.append_assoc]
    exact List.Perm.append_left B List.perm_append_comm
  have h2 : ((B ++ R) ++ [x1, x2, x3]).Perm ((B ++ R) ++ [x2, x1, x3]) := List.Perm.append_left _ (List.Perm.swap _ _ _)
  have h3 := List.Perm.append_left A (h1.trans h2)
  refine h3.trans (List.Perm.of_eq ?_)
  simp
abbrev strV' (l : List Str) : List V := l.map V.str
theorem kV_nodes (l : List NodeZ) : ((nodesK l).map fun kv => kV kv.1) = strV' (l.map (·.label)) := by
  rw [List.map_map, strV', List.map_map]
  rfl
end NZ
namespace NZ
open PySem L2 EX PyProof.Rows
theorem NodeR.more {H : Hp} {ix ix' : Ix} (s : ∀ p ∈ ix, p ∈ ix') {z : NodeZ} {m : NodeM} (h : NodeR H ix z m) : NodeR H ix' z m := ⟨h.label, h.above, by
  have hr := h.row
  cases e : m.above with
  | none =>
    rw [e] at hr
    exact hr
  | some a =>
    rw [e] at hr
    obtain ⟨ra, h1, h2⟩ := hr
    exact ⟨ra, s _ h1, h2⟩, h.cells, h.kids, fun p hp => s _ (h.kin p hp), h.kt⟩
theorem refK_none {cl : List (Str × Addr)} {s : Str} (h : s ∉ cl.map (·.1)) : valV (refK cl) (Sum.inr s) = none := by
  induction cl with
  | nil => rfl
  | cons q r ih =>
    have h1 : ¬ q.1 = s := fun z => h (by rw [List.map_cons, z]; exact .head _)
    exact (valV_neg (fun z => h1 (Sum.inr.inj z))).trans (ih fun z => h (.tail _ z))
theorem refK_put {cl : List (Str × Addr)} {s : Str} {v : Addr} (h : s ∉ cl.map (·.1)) : putK (refK cl) (Sum.inr s) (.ref v) = refK (cl ++ [(s, v)]) := by
  rw [putK_new _ (refK_none h)]
  show List.map _ cl ++ [(Sum.inr s, V.ref v)] = List.map _ (cl ++ [(s, v)])
  rw [List.map_append]
  rfl
theorem rowsK_put {l : List RowZ} {y : RowZ} (h : y.child ∉ l.map (·.child)) : putK (rowsK l) (Sum.inr y.child) (.ref y.ra) = rowsK (l ++ [y]) := by
  rw [putK_new _ (rowsK_none h)]
  show List.map _ l ++ [(Sum.inr y.child, V.ref y.ra)] = List.map _ (l ++ [y])
  rw [List.map_append]
  rfl
theorem kV_kids (l : List (Str × Addr)) : (List.map (fun kv : Key × V => kV kv.1) (refK l)) = (l.map (·.1)).map V.str := by
  rw [List.map_map, List.map_map]
  rfl
theorem holds4 {H : Hp} {a b d e : Addr × HO} (h1 : H a.1 = some a.2) (h2 : H b.1 = some b.2) (h3 : H d.1 = some d.2) (h4 : H e.1 = some e.2) (nd : ([a, b, d, e].map (·.1)).Nodup) : Holds H [a, b, d, e] := ⟨nd, fun x hx => by
  simp only [List.mem_cons, List.not_mem_nil, or_false] at hx
  rcases hx with rfl | rfl | rfl | rfl
  · exact h1
  · exact h2
  · exact h3
  · exact h4⟩
theorem set_mid {α : Type} {l : List α} {i : Nat} {a b : α} (h : l[i]? = some a) : l.set i b = l.take i ++ b :: l.drop (i + 1) := by
  obtain ⟨hl, _⟩ := List.getElem?_eq_some_iff.mp h
  rw [List.set_eq_take_append_cons_drop, if_pos hl]
end NZ
namespace NZ
open PySem L2 EX PyProof.Rows
theorem Holds.join {H : Hp} {l m : List (Addr × HO)} (a : Holds H l) (b : Holds H m) (d : ∀ x ∈ l, ∀ y ∈ m, x.1 ≠ y.1) : Holds H (l ++ m) := by
  refine ⟨?_, fun x hx => (List.mem_append.mp hx).elim (a.at_ x) (b.at_ x)⟩
  rw [List.map_append, List.nodup_append]
  refine ⟨a.nd, b.nd, fun p hp q hq e => ?_⟩
  obtain ⟨x, hx, rfl⟩ := List.mem_map.mp hp
  obtain ⟨y, hy, rfl⟩ := List.mem_map.mp hq
  exact d x hx y hy e
theorem set_map_same {α β : Type} {f : α → β} {a b : α} (e : f b = f a) : ∀ {l : List α} {i : Nat}, l[i]? = some a → (l.set i b).map f = l.map f
  | [], _, h => by cases h
  | q :: r, 0, h => by
    cases h
    show f b :: _ = f a :: _
    rw [e]
  | q :: r, i + 1, h => congrArg (f q :: ·) (set_map_same (l := r) (i := i) e h)
end NZ
namespace NZ
open PySem L2 EX PyProof.Rows
/-- a message to the children that are named -/
def sendR (ks : List Str) (d : Msg) (r : RowM) : RowM := if r.child ∈ ks ∧ r.there = true then { r with down := r.down ++ [d] } else r
theorem sendR_child {ks : List Str} {d : Msg} {r : RowM} : (sendR ks d r).child = r.child := by
  unfold sendR
  split <;> rfl
theorem sendR_cells {ks : List Str} {d : Msg} {r : RowM} : (sendR ks d r).cells = r.cells := by
  unfold sendR
  split <;> rfl
theorem sendR_out {ks : List Str} {d : Msg} {r : RowM} (h : r.child ∉ ks) : sendR ks d r = r := if_neg fun z => h z.1
theorem send_childs {ks : List Str} {d : Msg} (l : List RowM) : (l.map (sendR ks d)).map (·.child) = l.map (·.child) := by
  rw [List.map_map]
  exact List.map_congr_left fun r _ => sendR_child
theorem take_mem {α : Type} {l : List α} {i : Nat} {a x : α} (h : l[i]? = some a) : x ∈ l.take (i + 1) ↔ x ∈ l.take i ∨ x = a := by
  rw [List.take_add_one, h, List.mem_append]
  simp
theorem send_step {rows : List RowM} (nd : (rows.map (·.child)).Nodup) {ks : List Str} {i j : Nat} {r : RowM} {d : Msg} (hk : ks[i]? = some r.child) (knd : ks.Nodup) (hr : rows[j]? = some r) :
    rows.map (sendR (ks.take (i + 1)) d) = (rows.map (sendR (ks.take i) d)).set j (if r.there = true then { r with down := r.down ++ [d] } else r) := by
  apply List.ext_getElem?
  intro a
  rw [List.getElem?_map, List.getElem?_set, List.getElem?_map, List.length_map]
  obtain ⟨hl, er⟩ := List.getElem?_eq_some_iff.mp hr
  by_cases h : j = a
  · subst h
    rw [if_pos rfl, if_pos hl, hr]
    show some (sendR _ d r) = _
    unfold sendR
    have hm : r.child ∈ ks.take (i + 1) := (take_mem hk).mpr (.inr rfl)
    by_cases ht : r.there = true
    · rw [if_pos ⟨hm, ht⟩, if_pos ht]
    · rw [if_neg fun z => ht z.2, if_neg ht]
  · rw [if_neg h]
    cases e : rows[a]? with
    | none => rfl
    | some q =>
      have hq : q.child ≠ r.child := fun z => by
        obtain ⟨hl2, eq⟩ := List.getElem?_eq_some_iff.mp e
        have := (List.getElem_inj (h₀ := by rw [List.length_map]; exact hl) (h₁ := by rw [List.length_map]; exact hl2) nd).mp (by rw [List.getElem_map, List.getElem_map, er, eq, z])
        exact h this
      show some (sendR _ d q) = some (sendR _ d q)
      congr 1
      unfold sendR
      have : q.child ∈ ks.take (i + 1) ↔ q.child ∈ ks.take i := (take_mem hk).trans ⟨fun z => z.elim id fun z => absurd z hq, .inl⟩
      simp only [this]
theorem upd_swap {H : Hp} {a b : Addr} {o u : HO} (h : a ≠ b) : upd (upd H a o) b u = upd (upd H b u) a o := by
  funext x
  by_cases ha : x = a
  · subst ha
    rw [upd_ne h, upd_same, upd_same]
  · by_cases hb : x = b
    · subst hb
      rw [upd_same, upd_ne ha, upd_same]
    · rw [upd_ne hb, upd_ne ha, upd_ne ha, upd_ne hb]
end NZ
set_option Elab.async false
set_option linter.all false
set_option maxRecDepth 100000
set_option maxHeartbeats 4000000
/-! one row or one node of a net takes other data -/
namespace NZ
open PySem L2 EX PyProof.Rows
theorem set_split {α : Type} {l : List α} {j : Nat} {y : α} (hj : l[j]? = some y) : l = l.take j ++ y :: l.drop (j + 1) := by
  rw [← set_mid (b := y) hj]
  refine List.ext_getElem? fun a => ?_
  rw [List.getElem?_set]
  by_cases h : j = a
  · subst h
    obtain ⟨hl, _⟩ := List.getElem?_eq_some_iff.mp hj
    rw [if_pos rfl, if_pos hl, hj]
  · rw [if_neg h]
theorem set_same {α : Type} {l : List α} {j : Nat} {y : α} (hj : l[j]? = some y) : l.set j y = l := by
  rw [set_mid hj, ← set_split hj]
section
variable {c : Cs} {H H' : Hp} {n : Addr} {g : Sg} {M : NetM} {Z : NetZ} {j i : Nat}
theorem ps_rows {Z : NetZ} {rs : List RowZ} (h : rs.map (fun r => (rowO c r).map (·.1)) = Z.rows.map fun r => (rowO c r).map (·.1)) : ({ Z with rows := rs } : NetZ).ps c = Z.ps c := by
  unfold NetZ.ps objs
  have e6 : rs.flatMap (fun r => (rowO c r).map (·.1)) = Z.rows.flatMap fun r => (rowO c r).map (·.1) := by
    rw [List.flatMap_def, List.flatMap_def, h]
  simp only [List.map_append, List.map_flatMap, e6]
  rfl
theorem ps_nodes {Z : NetZ} {rs : List NodeZ} (h : rs.map (fun r => (nodeO c Z.n r).map (·.1)) = Z.nodes.map fun r => (nodeO c Z.n r).map (·.1)) : ({ Z with nodes := rs } : NetZ).ps c = Z.ps c := by
  unfold NetZ.ps objs
  have e6 : rs.flatMap (fun r => (nodeO c Z.n r).map (·.1)) = Z.nodes.flatMap fun r => (nodeO c Z.n r).map (·.1) := by
    rw [List.flatMap_def, List.flatMap_def, h]
  simp only [List.map_append, List.map_flatMap, e6]
  rfl
theorem NetQ.setRow (q : NetQ c H n g M Z) {y y' : RowZ} {r r' : RowM} (hy : Z.rows[j]? = some y) (hr : M.rows[j]? = some r) (hH : NetH c H' { Z with rows := Z.rows.set j y' })
    (hp : (rowO c y').map (·.1) = (rowO c y).map (·.1)) (hc : y'.child = y.child) (hra : y'.ra = y.ra) (hR : RowR H' y' r') (hrc : r'.cells.map (·.1) = r.cells.map (·.1)) (kt : KT H H') :
    NetQ c H' n g { M with rows := M.rows.set j r' } { Z with rows := Z.rows.set j y' } := by
  have eix : ixOf { Z with rows := Z.rows.set j y' } = ixOf Z := set_map_same (f := fun r : RowZ => (r.child, r.ra)) (a := y) (b := y') (by rw [hc, hra]) hy
  obtain ⟨r0, h0, hyr⟩ := pr_get q.r.rows hy
  cases hr.symm.trans h0
  have erc : r'.child = r.child := by rw [← hR.child, hc, hyr.child]
  have w0 := q.w
  have w := q.r.mono kt
  refine ⟨q.n, (ps_rows (set_map_same (a := y) (b := y') hp hy)).trans q.ps, q.nx, hH, ⟨?_, pr_set w.rows hR, w.tw, w.la, w.top, w.done, w.kept, w.acc, w.stm, w.qs, w.tr, w.an, w.rc⟩, ⟨w0.wnd, w0.w4, w0.nnd, ?_, w0.cell, ?_, w0.kept, w0.n12, ?_, w0.kids⟩⟩
  · rw [eix]
    exact w.nodes
  · show ((M.rows.set j r').map (·.child)).Nodup
    rw [set_map_same (a := r) (b := r') erc hr]
    exact w0.rnd
  · intro r2 h2
    rcases List.mem_or_eq_of_mem_set h2 with h2 | rfl
    · exact w0.rcell _ h2
    · rw [hrc]
      exact w0.rcell _ (List.mem_of_getElem? hr)
  · show (M.rows.set j r').length ≤ 1000
    rw [List.length_set]
    exact w0.r12
/-- a queue of a row -/
theorem NetQ.setDown (q : NetQ c H n g M Z) {y : RowZ} {r : RowM} (hy : Z.rows[j]? = some y) (hr : M.rows[j]? = some r) {ds : List V} {dm : List Msg} (hd : TdAll H ds (dm.map Msg.d)) :
    NetQ c (upd H y.dq (.lst ds)) n g { M with rows := M.rows.set j { r with down := dm } } { Z with rows := Z.rows.set j { y with down := ds } } := by
  have hH := row_down q.h (set_split hy) ds
  rw [← set_mid hy] at hH
  obtain ⟨r0, h0, hyr⟩ := pr_get q.r.rows hy
  cases hr.symm.trans h0
  have kt : KT H (upd H y.dq (.lst ds)) := KT.upd fun xs w => by
    have := q.h.at_row (List.mem_of_getElem? hy) 2
    rw [this] at w
    cases w
  have w := hyr.mono kt
  exact q.setRow hy hr hH rfl rfl rfl ⟨w.child, w.above, w.dl, w.ul, w.cells, w.rais, w.there, w.crashed, hd.mono kt, w.up⟩ rfl kt
theorem NetQ.setCell (q : NetQ c H n g M Z) {z : NodeZ} {m : NodeM} {key : Str} {o : Option CellM} (hz : Z.nodes[j]? = some z) (hm : M.nodes[j]? = some m) (hc : m.cells[i]? = some (key, o)) {v : V} {c' : Option CellM} (hv : Td H v (cellD c')) :
    NetQ c (upd H z.cd (.dK (putK (strK z.cells) (Sum.inr key) v))) n g { M with nodes := M.nodes.set j { m with cells := m.cells.set i (key, c') } } { Z with nodes := Z.nodes.set j { z with cells := z.cells.set i (key, v) } } := by
  obtain ⟨m0, h0, zr⟩ := pr_get q.r.nodes hz
  cases hm.symm.trans h0
  have hmem := List.mem_of_getElem? hm
  have hzm := List.mem_of_getElem? hz
  have mc := q.w.cell _ hmem
  have zk : z.cells.map (·.1) = M.words := (pr_keys (fun _ _ w => w.1) zr.cells).trans mc
  obtain ⟨⟨p1a, p1b⟩, hp1, ep, hp2⟩ := pr_get' zr.cells hc
  cases ep
  rw [strK_set (v := v) (by rw [zk]; exact q.w.wnd) hp1]
  have hH := node_cells q.h (set_split hz) (z.cells.set i (key, v))
  rw [← set_mid hz] at hH
  have hcd : H z.cd = some (.dK (strK z.cells)) := q.h.at_node hzm 1
  have kt : KT H (upd H z.cd (.dK (strK (z.cells.set i (key, v))))) := KT.upd fun xs w => by
    rw [hcd] at w
    cases w
  have w := q.r.mono kt
  have zw := zr.mono kt
  have w0 := q.w
  have emc : (m.cells.set i (key, c')).map (·.1) = m.cells.map (·.1) := set_map_same (a := (key, o)) (b := (key, c')) rfl hc
  refine ⟨q.n, (ps_nodes (set_map_same (a := z) (b := { z with cells := z.cells.set i (key, v) }) rfl hz)).trans q.ps, ?_, hH, ⟨?_, w.rows, w.tw, ?_, ?_, w.done, w.kept, w.acc, w.stm, w.qs, w.tr, w.an, w.rc⟩, ⟨w0.wnd, w0.w4, ?_, w0.rnd, ?_, w0.rcell, w0.kept, ?_, w0.r12, ?_⟩⟩
  · rw [← q.nx]
    exact set_map_same (f := fun z : NodeZ => (z.label, z.na)) (a := z) (b := { z with cells := z.cells.set i (key, v) }) rfl hz
  · exact pr_set w.nodes ⟨zw.label, zw.above, zw.row, pr_set zw.cells ⟨rfl, hv.mono kt⟩, zw.kids, zw.kin, zw.kt⟩
  · show Td _ Z.la (.tuple ((M.nodes.set j { m with cells := m.cells.set i (key, c') }).map fun m => PyData.str m.label))
    rw [set_map_same (a := m) (b := { m with cells := m.cells.set i (key, c') }) rfl hm]
    exact w.la
  · obtain ⟨z0, r0, e5, e6⟩ := q.r.top
    show ∃ z1 rest, Z.nodes.set j { z with cells := z.cells.set i (key, v) } = z1 :: rest ∧ Z.top = .ref z1.na
    rw [e5] at hz ⊢
    cases j with
    | zero =>
      cases hz
      exact ⟨_, _, rfl, e6⟩
    | succ j => exact ⟨_, _, rfl, e6⟩
  · show ((M.nodes.set j { m with cells := m.cells.set i (key, c') }).map (·.label)).Nodup
    rw [set_map_same (a := m) (b := { m with cells := m.cells.set i (key, c') }) rfl hm]
    exact w0.nnd
  · intro m2 h2
    rcases List.mem_or_eq_of_mem_set h2 with h2 | rfl
    · exact w0.cell _ h2
    · exact emc.trans mc
  · show (M.nodes.set j { m with cells := m.cells.set i (key, c') }).length ≤ 12
    rw [List.length_set]
    exact w0.n12
  · intro m2 h2
    rcases List.mem_or_eq_of_mem_set h2 with h2 | rfl
    · exact w0.kids _ h2
    · show m.kids.Nodup ∧ m.kids.length ≤ 1000
      exact w0.kids _ hmem
theorem NetQ.addAcc (q : NetQ c H n g M Z) (k : Str) : NetQ c (upd H Z.ac (.lst (Z.acc ++ [.str k]))) n g { M with acc := M.acc ++ [k] } { Z with acc := Z.acc ++ [.str k] } := by
  have h0 : H Z.ac = some (.lst Z.acc) := q.h.at_net 5
  have kt : KT H (upd H Z.ac (.lst (Z.acc ++ [.str k]))) := KT.upd fun xs w => by rw [h0] at w; cases w
  have w := q.r.mono kt
  have w0 := q.w
  exact ⟨q.n, q.ps, q.nx, q.h.put_net (a := (netO c Z).take 5) (b := (netO c Z).drop 6) rfl rfl rfl rfl, ⟨w.nodes, w.rows, w.tw, w.la, w.top, w.done, w.kept, by show Z.acc ++ [V.str k] = (M.acc ++ [k]).map V.str; rw [w.acc, List.map_append]; rfl, w.stm, w.qs, w.tr, w.an, w.rc⟩, ⟨w0.wnd, w0.w4, w0.nnd, w0.rnd, w0.cell, w0.rcell, w0.kept, w0.n12, w0.r12, w0.kids⟩⟩
theorem NetQ.addStm (q : NetQ c H n g M Z) (k : Int) : NetQ c (upd H Z.sm (.lst (Z.stm ++ [.int k]))) n g { M with stm := M.stm ++ [k] } { Z with stm := Z.stm ++ [.int k] } := by
  have h0 : H Z.sm = some (.lst Z.stm) := q.h.at_net 6
  have kt : KT H (upd H Z.sm (.lst (Z.stm ++ [.int k]))) := KT.upd fun xs w => by rw [h0] at w; cases w
  have w := q.r.mono kt
  have w0 := q.w
  exact ⟨q.n, q.ps, q.nx, q.h.put_net (a := (netO c Z).take 6) (b := (netO c Z).drop 7) rfl rfl rfl rfl, ⟨w.nodes, w.rows, w.tw, w.la, w.top, w.done, w.kept, w.acc, by show Z.stm ++ [V.int k] = (M.stm ++ [k]).map V.int; rw [w.stm, List.map_append]; rfl, w.qs, w.tr, w.an, w.rc⟩, ⟨w0.wnd, w0.w4, w0.nnd, w0.rnd, w0.cell, w0.rcell, w0.kept, w0.n12, w0.r12, w0.kids⟩⟩
theorem NetQ.addDone (q : NetQ c H n g M Z) {v : V} {d : PyData} (hd : Td H v d) : NetQ c (upd H Z.dn (.lst (Z.done ++ [v]))) n g { M with done := M.done ++ [d] } { Z with done := Z.done ++ [v] } := by
  have h0 : H Z.dn = some (.lst Z.done) := q.h.at_net 3
  have kt : KT H (upd H Z.dn (.lst (Z.done ++ [v]))) := KT.upd fun xs w => by rw [h0] at w; cases w
  have w := q.r.mono kt
  have w0 := q.w
  exact ⟨q.n, q.ps, q.nx, q.h.put_net (a := (netO c Z).take 3) (b := (netO c Z).drop 4) rfl rfl rfl rfl, ⟨w.nodes, w.rows, w.tw, w.la, w.top, w.done.append (.cons (hd.mono kt) .nil), w.kept, w.acc, w.stm, w.qs, w.tr, w.an, w.rc⟩, ⟨w0.wnd, w0.w4, w0.nnd, w0.rnd, w0.cell, w0.rcell, w0.kept, w0.n12, w0.r12, w0.kids⟩⟩
theorem NetQ.setKept (q : NetQ c H n g M Z) {key : Str} {l l' : List Int} (hk : M.kept[i]? = some (key, l)) {v : V} (hv : Td H v (.tuple (l'.map PyData.int))) :
    NetQ c (upd H Z.kp (.dK (putK (strK Z.kept) (Sum.inr key) v))) n g { M with kept := M.kept.set i (key, l') } { Z with kept := Z.kept.set i (key, v) } := by
  have h0 : H Z.kp = some (.dK (strK Z.kept)) := q.h.at_net 4
  obtain ⟨⟨p1a, p1b⟩, hp1, ep, hp2⟩ := pr_get' q.r.kept hk
  cases ep
  have ek : Z.kept.map (·.1) = M.kept.map (·.1) := pr_keys (fun _ _ w => w.1) q.r.kept
  rw [strK_set (v := v) (by rw [ek, q.w.kept]; exact q.w.wnd) hp1]
  have kt : KT H (upd H Z.kp (.dK (strK (Z.kept.set i (key, v))))) := KT.upd fun xs w => by rw [h0] at w; cases w
  have w := q.r.mono kt
  have w0 := q.w
  refine ⟨q.n, q.ps, q.nx, q.h.put_net (a := (netO c Z).take 4) (b := (netO c Z).drop 5) rfl rfl rfl rfl, ⟨w.nodes, w.rows, w.tw, w.la, w.top, w.done, pr_set w.kept ⟨rfl, hv.mono kt⟩, w.acc, w.stm, w.qs, w.tr, w.an, w.rc⟩, ⟨w0.wnd, w0.w4, w0.nnd, w0.rnd, w0.cell, w0.rcell, ?_, w0.n12, w0.r12, w0.kids⟩⟩
  show (M.kept.set i (key, l')).map (·.1) = M.words
  rw [set_map_same (a := (key, l)) (b := (key, l')) rfl hk]
  exact w0.kept
theorem NetQ.in_net (q : NetQ c H n g M Z) (k : Nat) {x : Addr × HO} (e : (netO c Z)[k]? = some x := by rfl) : x.1 ∈ g.S := by
  rw [← q.ps]
  exact List.mem_map.mpr ⟨x, mem_net (List.mem_of_getElem? e), rfl⟩
theorem NetQ.in_node (q : NetQ c H n g M Z) {z : NodeZ} (hz : z ∈ Z.nodes) (k : Nat) {x : Addr × HO} (e : (nodeO c Z.n z)[k]? = some x := by rfl) : x.1 ∈ g.S := by
  rw [← q.ps]
  exact List.mem_map.mpr ⟨x, mem_node hz (List.mem_of_getElem? e), rfl⟩
theorem NetQ.in_row (q : NetQ c H n g M Z) {z : RowZ} (hz : z ∈ Z.rows) (k : Nat) {x : Addr × HO} (e : (rowO c z)[k]? = some x := by rfl) : x.1 ∈ g.S := by
  rw [← q.ps]
  exact List.mem_map.mpr ⟨x, mem_row hz (List.mem_of_getElem? e), rfl⟩
end
end NZ
set_option Elab.async false
set_option linter.all false
set_option maxRecDepth 100000
set_option maxHeartbeats 4000000
/-! a net's data looked at by names -/
namespace NZ
open PySem L2 EX PyProof.Rows
def getK {α : Type} : List (Str × α) → Str → Option α
  | [], _ => none
  | p :: r, s => if p.1 = s then some p.2 else getK r s
def setK {α : Type} (l : List (Str × α)) (s : Str) (v : α) : List (Str × α) := l.map fun p => if p.1 = s then (p.1, v) else p
def NetM.row (M : NetM) (s : Str) : Option RowM := M.rows.find? fun r => decide (r.child = s)
def NetM.nod (M : NetM) (s : Str) : Option NodeM := M.nodes.find? fun m => decide (m.label = s)
/-- the cell, if there is a copy -/
def NodeM.cell (m : NodeM) (key : Str) : Option CellM := match getK m.cells key with
  | some (some c) => some c
  | _ => none
/-- the row of a child below a node -/
def NetM.lnk (M : NetM) (ch up : Str) : Option RowM := match M.row ch with
  | some y => if y.above = up then some y else none
  | none => none
def NetM.ups (M : NetM) (s r : Str) : List Msg := match M.lnk s r with
  | some y => y.up
  | none => []
def NetM.msgs (M : NetM) (s r : Str) : List Msg := match M.lnk r s with
  | some y => y.down
  | none => M.ups s r
def NetM.updN (M : NetM) (s : Str) (f : NodeM → NodeM) : NetM := { M with nodes := M.nodes.map fun m => if m.label = s then f m else m }
def NetM.updR (M : NetM) (s : Str) (f : RowM → RowM) : NetM := { M with rows := M.rows.map fun r => if r.child = s then f r else r }
section
variable {α : Type}
theorem getK_mem : ∀ {l : List (Str × α)} {s : Str} {v : α}, (l.map (·.1)).Nodup → (s, v) ∈ l → getK l s = some v
  | p :: r, s, v, nd, h => by
    obtain ⟨n1, n2⟩ := List.nodup_cons.mp nd
    unfold getK
    rcases List.mem_cons.mp h with e | e
    · subst e
      rw [if_pos rfl]
    · rw [if_neg fun z : p.1 = s => n1 (by show p.1 ∈ _; rw [z]; exact List.mem_map.mpr ⟨_, e, rfl⟩)]
      exact getK_mem n2 e
theorem getK_in : ∀ {l : List (Str × α)} {s : Str} {v : α}, getK l s = some v → (s, v) ∈ l
  | p :: r, s, v, h => by
    unfold getK at h
    by_cases e : p.1 = s
    · rw [if_pos e] at h
      obtain ⟨a, b⟩ := p
      cases h
      cases e
      exact .head _
    · rw [if_neg e] at h
      exact .tail _ (getK_in h)
theorem getK_some : ∀ {l : List (Str × α)} {s : Str}, s ∈ l.map (·.1) → ∃ v, getK l s = some v
  | p :: r, s, h => by
    unfold getK
    by_cases e : p.1 = s
    · exact ⟨_, if_pos e⟩
    · rw [if_neg e]
      exact getK_some ((List.mem_cons.mp h).resolve_left fun z => e z.symm)
theorem setK_keys {l : List (Str × α)} {s : Str} {v : α} : (setK l s v).map (·.1) = l.map (·.1) := by
  unfold setK
  rw [List.map_map]
  refine List.map_congr_left fun p _ => ?_
  show (if p.1 = s then (p.1, v) else p).1 = p.1
  split <;> rfl
/-- a change at one place is a change by the name that stands there -/
theorem set_by {β : Type} [DecidableEq β] {f : α → β} {a : α} {F : α → α} : ∀ {l : List α} {i : Nat}, (l.map f).Nodup → l[i]? = some a → l.set i (F a) = l.map fun x => if f x = f a then F x else x
  | p :: r, 0, nd, h => by
    cases h
    obtain ⟨n1, n2⟩ := List.nodup_cons.mp nd
    rw [List.set_cons_zero, List.map_cons, if_pos rfl]
    refine congrArg _ ((List.map_id _).symm.trans (List.map_congr_left fun x hx => ?_))
    rw [if_neg fun z => n1 (by rw [← z]; exact List.mem_map.mpr ⟨x, hx, rfl⟩)]
    rfl
  | p :: r, i + 1, nd, h => by
    obtain ⟨n1, n2⟩ := List.nodup_cons.mp nd
    have hr : r[i]? = some a := h
    have hm := List.mem_of_getElem? hr
    rw [List.set_cons_succ, List.map_cons, if_neg fun z => n1 (by rw [z]; exact List.mem_map.mpr ⟨a, hm, rfl⟩), set_by n2 hr]
theorem setK_of {l : List (Str × α)} {i : Nat} {s : Str} {v0 v : α} (nd : (l.map (·.1)).Nodup) (h : l[i]? = some (s, v0)) : l.set i (s, v) = setK l s v :=
  set_by (f := fun p : Str × α => p.1) (a := (s, v0)) (F := fun p => (p.1, v)) nd h
end
section
variable {M : NetM}
theorem find_by {α β : Type} [DecidableEq β] {f : α → β} {a : α} : ∀ {l : List α}, (l.map f).Nodup → a ∈ l → (l.find? fun x => decide (f x = f a)) = some a
  | p :: r, nd, h => by
    obtain ⟨n1, n2⟩ := List.nodup_cons.mp nd
    rcases List.mem_cons.mp h with e | e
    · subst e
      rw [List.find?_cons, decide_eq_true rfl]
    · rw [List.find?_cons, decide_eq_false fun z => n1 (by rw [z]; exact List.mem_map.mpr ⟨a, e, rfl⟩)]
      exact find_by n2 e
theorem row_of (w : NetW M) {r : RowM} (h : r ∈ M.rows) : M.row r.child = some r := find_by w.rnd h
theorem nod_of (w : NetW M) {m : NodeM} (h : m ∈ M.nodes) : M.nod m.label = some m := find_by w.nnd h
theorem row_in {s : Str} {r : RowM} (h : M.row s = some r) : r ∈ M.rows ∧ r.child = s := ⟨List.mem_of_find?_eq_some h, of_decide_eq_true (List.find?_some (p := fun r : RowM => decide (r.child = s)) h)⟩
theorem nod_in {s : Str} {m : NodeM} (h : M.nod s = some m) : m ∈ M.nodes ∧ m.label = s := ⟨List.mem_of_find?_eq_some h, of_decide_eq_true (List.find?_some (p := fun m : NodeM => decide (m.label = s)) h)⟩
theorem lnk_in {s u : Str} {r : RowM} (h : M.lnk s u = some r) : M.row s = some r ∧ r.above = u := by
  unfold NetM.lnk at h
  cases e : M.row s with
  | none => rw [e] at h; cases h
  | some y =>
    rw [e] at h
    by_cases ha : y.above = u
    · have h : (if y.above = u then some y else none) = some r := h
      rw [if_pos ha] at h
      cases h
      exact ⟨rfl, ha⟩
    · have h : (if y.above = u then some y else none) = some r := h
      rw [if_neg ha] at h
      cases h
theorem lnk_of {s u : Str} {r : RowM} (h : M.row s = some r) (ha : r.above = u) : M.lnk s u = some r := by
  unfold NetM.lnk
  rw [h]
  exact if_pos ha
end
section
variable {c : Cs} {H : Hp} {n : Addr} {g : Sg} {M : NetM} {Z : NetZ}
theorem NetQ.rowK (q : NetQ c H n g M Z) (s : Str) : (M.row s = none ∧ valV (rowsK Z.rows) (Sum.inr s) = none) ∨ ∃ (j : Nat) (y : RowZ) (r : RowM), Z.rows[j]? = some y ∧ M.rows[j]? = some r ∧ RowR H y r ∧ r.child = s ∧ M.row s = some r ∧ valV (rowsK Z.rows) (Sum.inr s) = some (.ref y.ra) := by
  cases e : M.row s with
  | none =>
    refine .inl ⟨rfl, rowsK_none ?_⟩
    rw [q.childs]
    intro h
    obtain ⟨r, hr, e2⟩ := List.mem_map.mp h
    have h1 := row_of q.w hr
    have e2 : r.child = s := e2
    rw [e2, e] at h1
    cases h1
  | some r =>
    obtain ⟨h1, h2⟩ := row_in e
    obtain ⟨j, hj⟩ := List.mem_iff_getElem?.mp h1
    obtain ⟨y, hy, yr⟩ := pr_get' q.r.rows hj
    have hv := q.rowV (List.mem_of_getElem? hy)
    rw [yr.child, h2] at hv
    exact .inr ⟨j, y, r, hy, hj, yr, h2, rfl, hv⟩
theorem NetQ.nodK (q : NetQ c H n g M Z) (s : Str) : (M.nod s = none ∧ valV (nodesK Z.nodes) (Sum.inr s) = none) ∨ ∃ (j : Nat) (z : NodeZ) (m : NodeM), Z.nodes[j]? = some z ∧ M.nodes[j]? = some m ∧ NodeR H (ixOf Z) z m ∧ m.label = s ∧ M.nod s = some m ∧ valV (nodesK Z.nodes) (Sum.inr s) = some (.ref z.na) := by
  cases e : M.nod s with
  | none =>
    refine .inl ⟨rfl, nodesK_none ?_⟩
    rw [q.labels]
    intro h
    obtain ⟨m, hm, e2⟩ := List.mem_map.mp h
    have h1 := nod_of q.w hm
    have e2 : m.label = s := e2
    rw [e2, e] at h1
    cases h1
  | some m =>
    obtain ⟨h1, h2⟩ := nod_in e
    obtain ⟨j, hj⟩ := List.mem_iff_getElem?.mp h1
    obtain ⟨z, hz, zr⟩ := pr_get' q.r.nodes hj
    have hv := q.nodeV (List.mem_of_getElem? hz)
    rw [zr.label, h2] at hv
    exact .inr ⟨j, z, m, hz, hj, zr, h2, rfl, hv⟩
end
end NZ
set_option Elab.async false
set_option linter.all false
set_option maxRecDepth 100000
set_option maxHeartbeats 4000000
namespace K03
open PySem L2 EX PyProof.Rows LamX
open NZ
theorem ite_and {b : Bool} {A C : Prop} (h1 : b = true → C → A) (hC : C) : if b = true then A else C := by
  split
  · rename_i h
    exact h1 h hC
  · exact hC
/-! ### allowances -/
def okA (a : Int) : Bool := decide (1 ≤ a) && decide (a ≤ 99)
def spAlw1 : Sp := fun vs H Q _ => ∃ x : V, vs = [x] ∧ ((∃ a, x = .int a ∧ Q (.bl (okA a)) H) ∨ (∃ b, x = .bl b ∧ Q (.bl false) H))
def allowB (kvs : List (Key × V)) (ws : List Str) : Bool := decide (kvs.length = ws.length) && ws.all fun w => match valV kvs (Sum.inr w) with
  | some (.int a) => okA a
  | _ => false
/-- what is asked to be allowances: a dict of whole numbers and truth values, or no dict -/
def AllowArg (K : PySem.W.Frag) (H : Hp) (x : V) (ws : List Str) (b : Bool) : Prop := (∃ d kvs, x = .ref d ∧ H d = some (.dK kvs) ∧ (∀ w v, valV kvs w = some v → (∃ a, v = .int a) ∨ ∃ b, v = .bl b) ∧ kvs.length ≤ 1000 ∧ b = allowB kvs ws) ∨ ((∃ t : String, TyX K H x (.type t) ∧ PySem.W.kitOne K (.type t) (.type "dict") = some false) ∧ b = false)
abbrev okAt (kvs : List (Key × V)) (w : Str) : Bool := match valV kvs (Sum.inr w) with
  | some (.int a) => okA a
  | _ => false
theorem all_false {α : Type} {l : List α} {F : α → Bool} {s : α} (hs : s ∈ l) (h : F s = false) : l.all F = false := by
  rw [List.all_eq_false]
  exact ⟨s, hs, by simp [h]⟩
def spAlws (K : PySem.W.Frag) : Sp := fun vs H Q _ => ∃ (x : V) (tw : Addr) (ws : List Str) (b : Bool), vs = [x, .ref tw] ∧ H tw = some (.tup (strV ws)) ∧ ws.length ≤ 4 ∧ AllowArg K H x ws b ∧ Q (.bl b) H
/-! ### looks at a net -/
theorem isW_ok {s : Str} (h : isW s = true) : PyData.strOk s = true := by
  unfold isW at h
  simp only [Bool.and_eq_true] at h
  have h2 := h.2.1
  unfold Txt.isascii at h2
  unfold PyData.strOk
  rw [Array.all_eq_true'] at h2 ⊢
  intro x hx
  have := h2 x hx
  simp only [decide_eq_true_eq] at this ⊢
  omega
def StrB (K : PySem.W.Frag) (H : Hp) (x : V) (b : Bool) : Prop := ∃ t : String, TyX K H x (.type t) ∧ PySem.W.kitOne K (.type t) (.type "str") = some b
theorem StrB.non {K : PySem.W.Frag} {H : Hp} : StrB K H .non false := ⟨_, .base .non, kit_ty (by decide +kernel)⟩
theorem StrB.int {K : PySem.W.Frag} {H : Hp} (n : Int) : StrB K H (.int n) false := ⟨_, .base (.int _), kit_ty (by decide +kernel)⟩
theorem StrB.bl {K : PySem.W.Frag} {H : Hp} (n : Bool) : StrB K H (.bl n) false := ⟨_, .base (.bl _), kit_ty (by decide +kernel)⟩
theorem StrB.seq {K : PySem.W.Frag} {H : Hp} {a : Addr} {xs : List V} (h : SqE K H a xs) : StrB K H (.ref a) false := by
  rcases h with h | h
  · exact ⟨_, tyx_lst h, kit_ty (by decide +kernel)⟩
  · exact ⟨_, tyx_tup h, kit_ty (by decide +kernel)⟩
theorem StrB.dict {K : PySem.W.Frag} {H : Hp} {a : Addr} {kvs : List (Key × V)} (h : H a = some (.dK kvs)) : StrB K H (.ref a) false := ⟨_, .base (.dK h), kit_ty (by decide +kernel)⟩
theorem inStr (s : Str) (ws : List Str) : inV (.str s) (strV ws) = decide (s ∈ ws) := by
  induction ws with
  | nil => rfl
  | cons m t ih =>
    have e : inV (.str s) (strV (m :: t)) = ((m == s) || inV (.str s) (strV t)) := rfl
    rw [e, ih]
    by_cases h : m = s
    · rw [h]
      simp
    · have h2 : ¬ s = m := fun z => h z.symm
      simp [h, h2]
theorem flat_strV (ws : List Str) : (strV ws).all flatV = true := by
  rw [List.all_eq_true]
  intro x hx
  obtain ⟨s, _, rfl⟩ := List.mem_map.mp hx
  rfl
def BadOf (K : PySem.W.Frag) (H : Hp) (ws : List Str) (x : V) : Prop := (∃ s, x = .str s ∧ s ∉ ws) ∨ StrB K H x false
def Rais (E : XK) (H : Hp) (C : Addr) (f : Str) (x : V) : Prop := ∀ d H', Same H H' → H d = none → H' d = some (.xd [(f, x)]) → E (.ref C) (some d) H'
theorem td_tup {H : Hp} {v : V} {ds : List PyData} (h : Td H v (.tuple ds)) : ∃ a xs, v = .ref a ∧ H a = some (.tup xs) ∧ TdAll H xs ds := by
  cases h with
  | tup h t => exact ⟨_, _, rfl, h, t⟩
theorem td_strsV {H : Hp} : ∀ {xs : List V} {l : List Str}, TdAll H xs (l.map PyData.str) → xs = strV l
  | _, [], h => by
    cases h
    rfl
  | _, s :: l, h => by
    cases h with
    | cons a t =>
      cases a
      rw [td_strsV t]
      rfl
def spKeyNames (c : Cs) : Sp := fun vs H Q _ => ∃ n g M, vs = [.ref n] ∧ NetA c H n g M ∧ ∀ tw, H tw = some (.tup (strV M.words)) → Q (.ref tw) H
def spHist (c : Cs) : Sp := fun vs H Q _ => ∃ n g M, vs = [.ref n] ∧ NetA c H n g M ∧ ∀ q H', Same H H' → Td H' (.ref q) (.tuple M.done) → Q (.ref q) H'
def spNLen (c : Cs) : Sp := fun vs H Q _ => ∃ n g M, vs = [.ref n] ∧ NetA c H n g M ∧ Q (.int (M.nodes.length : Nat)) H
def spNGet (K : PySem.W.Frag) (c : Cs) (UN : Addr) : Sp := fun vs H Q E => ∃ n g M x, vs = [.ref n, x] ∧ NetA c H n g M ∧ ((∃ s na, x = .str s ∧ (s, na) ∈ g.nx ∧ Q (.ref na) H) ∨ (BadOf K H (M.nodes.map (·.label)) x ∧ Rais E H UN "node" x))
/-- net.messages of two names -/
def spMsg (c : Cs) : Sp := fun vs H Q _ => ∃ (n : Addr) (g : Sg) (M : NetM) (s r : Str), vs = [.ref n, .str s, .str r] ∧ NetA c H n g M ∧ ∀ l vs' H', Same H H' → H' l = some (.lst vs') → TdAll H' vs' ((M.msgs s r).map Msg.d) → Q (.ref l) H'
abbrev sKn : Stmt := inClass (top 63) 2
theorem scKn : FnScope ["self"] ["self"] (defScope sKn) := ⟨rfl, rfl, rfl, by decide +kernel, rfl, by decide +kernel, by decide +kernel⟩
abbrev sHi : Stmt := inClass (top 63) 4
theorem scHi : FnScope ["self"] ["self"] (defScope sHi) := ⟨rfl, rfl, rfl, by decide +kernel, rfl, by decide +kernel, by decide +kernel⟩
abbrev sNl : Stmt := inClass (top 63) 6
theorem scNl : FnScope ["self"] ["self"] (defScope sNl) := ⟨rfl, rfl, rfl, by decide +kernel, rfl, by decide +kernel, by decide +kernel⟩
abbrev sNg : Stmt := inClass (top 63) 8
theorem scNg : FnScope ["self", "at"] ["self", "at"] (defScope sNg) := ⟨rfl, rfl, rfl, by decide +kernel, rfl, by decide +kernel, by decide +kernel⟩
abbrev sMs : Stmt := inClass (top 63) 29
theorem scMs : FnScope ["self", "sender", "receiver", "rows"] ["self", "sender", "receiver"] (defScope sMs) := ⟨rfl, rfl, rfl, by decide +kernel, rfl, by decide +kernel, by decide +kernel⟩
abbrev sIa : Stmt := top 31
theorem scIa : FnScope ["obj"] ["obj"] (defScope sIa) := ⟨rfl, rfl, rfl, by decide +kernel, rfl, by decide +kernel, by decide +kernel⟩
abbrev sAa : Stmt := top 32
theorem scAa : FnScope ["obj", "keys", "key"] ["obj", "keys"] (defScope sAa) := ⟨rfl, rfl, rfl, by decide +kernel, rfl, by decide +kernel, by decide +kernel⟩
section
variable {P : Program} {w : World} {K : PySem.W.Frag} {mg : Str → Option Value} {base : Heap}
theorem ok_ia {f : Addr} {fd : FuncData} (F : Fun K "is_allowance" "is_allowance" sIa f fd) (B : Bn mg) : FnOk P w K mg base CX0 1 f fd ["obj"] spAlw1 := by
  refine F.ok scIa (fun vs H Q E h => ?_) (fun cdv A outer s H vs Q E hr h => ?_)
  · obtain ⟨x, rfl, _⟩ := h
    rfl
  · obtain ⟨x, rfl, k⟩ := h
    refine ⟨_, (pss_one (ps_ret (pe_and (pe_callB call_isi (by rfl) B.isi PyProof.Rows.boot_isinstance (pa_cons (pv 0) (pa_cons (pe_bltn (v := .ty "int") (by rfl) B.int (by decide +kernel) rfl) pa_nil))) (pe_and (pe_not (pe_callB call_isi (by rfl) B.isi PyProof.Rows.boot_isinstance (pa_cons (pv 0) (pa_cons (pe_bltn (v := .ty "bool") (by rfl) B.bool (by decide +kernel) rfl) pa_nil)))) (pe_one (pe_chain op_le op_le pe_int (pv 0) (pe_glob (v := .int _) (by rfl) B.ga.choose_spec ⟨_, rfl⟩))))))), ?_⟩
    rcases k with ⟨a, rfl, k⟩ | ⟨b, rfl, k⟩
    · refine ⟨_, rfl, _, _, _, _, true, rfl, .ty _, .base (.int _), kit_ty (by decide +kernel), _, rfl, iteT ?_⟩
      refine ⟨_, rfl, _, _, _, _, false, rfl, .ty _, .base (.int _), kit_ty (by decide +kernel), _, rfl, _, rfl, iteT ?_⟩
      unfold okA at k
      refine ⟨_, rfl, _, _, rfl, rfl, _, rfl, ite2 (fun h1 => ?_) (fun h1 => ?_)⟩
      · rw [h1, Bool.true_and] at k
        exact ⟨_, _, rfl, rfl, k⟩
      · rw [show decide (1 ≤ a) = false by simpa using h1, Bool.false_and] at k
        exact k
    · refine ⟨_, rfl, _, _, _, _, true, rfl, .ty _, .base (.bl _), kit_ty (by decide +kernel), _, rfl, iteT ?_⟩
      exact ⟨_, rfl, _, _, _, _, true, rfl, .ty _, .base (.bl _), kit_ty (by decide +kernel), _, rfl, _, rfl, iteF k⟩
theorem ok_aa {f : Addr} {fd : FuncData} (F : Fun K "are_allowances" "are_allowances" sAa f fd) (B : Bn mg) (GA : DefAt P w K mg base 1 "is_allowance" ["obj"] spAlw1) : FnOk P w K mg base CX0 2 f fd ["obj", "keys"] (spAlws K) := by
  refine F.ok scAa (fun vs H Q E h => ?_) (fun cdv A outer s H vs Q E hr h => ?_)
  · obtain ⟨x, tw, ws, b, rfl, _⟩ := h
    rfl
  · obtain ⟨x, tw, ws, b, rfl, ht, h4, hx, k⟩ := h
    have hu := hu_of hr
    have hlw : (strV ws).length = ws.length := List.length_map _
    refine ⟨_, (pss_cons (ps_if (PW.pt (pw_or (pt_not (pt_val (pe_callB call_isi (by rfl) B.isi PyProof.Rows.boot_isinstance (pa_cons (pv 0) (pa_cons (pe_bltn (v := .ty "dict") (by rfl) B.dict (by decide +kernel) rfl) pa_nil))))) (pw_or1 (pt_cmpR op_ne (pe_callB call_lenD (by rfl) B.len PySem.boot_len (pa_cons (pv 0) pa_nil)) (pe_callB call_len_seq (by rfl) B.len PySem.boot_len (pa_cons (pv 1) pa_nil)) (nomark _))))) (pss_one (ps_ret pe_bl)) pss_nil)
        (pss_cons (ps_for PassesOwn.never rfl (pi_tup (pv 1)) (pg_name (i := 2) scAa.nd rfl (Or.inl rfl)) (pss_one (ps_if (PW.pt (pw_or (pt_cmp (pc_dnotin hu (pv 2) (pv 0))) (pw_or1 (pt_not (pt_val (pe_callD GA (hr.mono (by decide)) (pa_cons (pe_dget hu (pv 0) (pv 2) (fun _ _ => rfl)) pa_nil))))))) (pss_one (ps_ret pe_bl)) pss_nil)))
        (pss_one (ps_ret pe_bl)))), ?_⟩
    rcases hx with ⟨d, kvs, rfl, hd, hv, hk, rfl⟩ | ⟨⟨t, ty, hk⟩, rfl⟩
    rotate_left
    · exact ⟨_, rfl, _, _, _, _, false, rfl, .ty _, ty, hk, _, rfl, iteT k⟩
    refine ⟨_, rfl, _, _, _, _, true, rfl, .ty _, .base (.dK hd), kit_ty (by decide +kernel), _, rfl, iteF ?_⟩
    refine ⟨_, rfl, d, _, rfl, hd, _, rfl, tw, _, rfl, .inr (SqT.of ht), rfl, _, rfl, ?_⟩
    rw [hlw]
    unfold allowB at k
    by_cases hl : kvs.length = ws.length
    rotate_left
    · rw [decide_eq_false hl, Bool.false_and] at k
      rw [decide_eq_false (fun z => hl (by have := V.int.inj z; omega))]
      exact iteT k
    rw [decide_eq_true hl, Bool.true_and] at k
    rw [decide_eq_true (by rw [hl])]
    refine iteF ?_
    refine ⟨_, rfl, tw, rfl, ⟨_, SqT.of ht⟩, ?_⟩
    refine for_it (walk_tup (K := K) (a := tw) (xs := strV ws)) (fun i σ' H' => ∃ v2, σ' = [some (.ref d), some (.ref tw), v2] ∧ H' = H ∧ (ws.take i).all (okAt kvs) = true) ⟨_, rfl, rfl, rfl⟩ (fun i σ' H' _ z => by obtain ⟨_, _, e, _⟩ := z; rw [e]; exact SqT.of ht) ?_ ?_
    · rintro i x σ' H1 H2 hi ⟨v2, rfl, rfl, hall⟩ ⟨rfl, hx⟩
      obtain ⟨s', rfl, hs⟩ := strV_get hx
      have hmem := List.mem_of_getElem? hs
      have kf : okAt kvs s' = false → Q (.bl false) H2 := fun z => by
        rw [show ws.all (okAt kvs) = false from all_false hmem z] at k
        exact k
      refine ⟨_, rfl, _, rfl, d, _, rfl, .inl ⟨kvs, Sum.inr s', .inl hd, rfl, rfl⟩, ?_⟩
      cases hval : valV kvs (Sum.inr s') with
      | none =>
        refine ⟨_, rfl, iteT (kf ?_)⟩
        unfold okAt
        simp only [hval]
      | some v =>
        refine ⟨_, rfl, iteF ?_⟩
        have hg : DGet H2 d (.str s') (some v) := .inl ⟨kvs, Sum.inr s', .inl hd, rfl, hval.symm⟩
        have hnext : okAt kvs s' = true → (ws.take (i + 1)).all (okAt kvs) = true := fun z => by
          rw [List.take_add_one, hs, List.all_append, hall]
          show (true && (okAt kvs s' && true)) = true
          rw [z]
          rfl
        rcases hv _ _ hval with ⟨a, rfl⟩ | ⟨b, rfl⟩
        · have eo : okAt kvs s' = okA a := by
            unfold okAt
            rw [hval]
          refine ⟨_, rfl, _, rfl, d, _, rfl, hg, .int a, rfl, .inl ⟨a, rfl, _, rfl, ?_⟩⟩
          cases hoa : okA a with
          | true => exact iteF ⟨_, rfl, rfl, hnext (eo.trans hoa)⟩
          | false => exact iteT (kf (eo.trans hoa))
        · refine ⟨_, rfl, _, rfl, d, _, rfl, hg, .bl b, rfl, .inr ⟨b, rfl, _, rfl, iteT (kf ?_)⟩⟩
          unfold okAt
          rw [hval]
    · rintro σ' H1 ⟨v2, rfl, rfl, hall⟩
      rw [hlw, List.take_length] at hall
      rw [show (ws.all fun w => match valV kvs (Sum.inr w) with | some (.int a) => okA a | _ => false) = true from hall] at k
      exact k
theorem ok_history {c : Cs} {UN f : Addr} {fd : FuncData} (F : Fun K "history" "Net.history" sHi f fd) (B : Bn mg) (T : NetC K c.N) : FnOk P w K mg base CX0 1 f fd ["self"] (spHist c) := by
  refine F.ok scHi (fun vs H Q E h => ?_) (fun cdv A outer s H vs Q E hr h => ?_)
  · obtain ⟨n, g, M, rfl, _⟩ := h
    rfl
  · obtain ⟨n, g, M, rfl, hN, k⟩ := h
    have hu := hu_of hr
    obtain ⟨Z, q⟩ := hN.ex
    have hn := q.at_n
    refine ⟨_, (pss_one (ps_ret (pe_tupleOf (by rfl) B.tuple (pe_fld (pv 0) rfl)))), ?_⟩
    exact ⟨_, rfl, n, c.N, _, _, _, rfl, hn, T.cl, T.f_done, rfl, k_tup2 (.inl (SqL.of (q.h.at_net 3))) fun p H' S hp => k p H' S (.tup hp (q.r.done.mono (KT.of S)))⟩
theorem ok_nlen {c : Cs} {UN f : Addr} {fd : FuncData} (F : Fun K "__len__" "Net.__len__" sNl f fd) (B : Bn mg) (T : NetC K c.N) : FnOk P w K mg base CX0 1 f fd ["self"] (spNLen c) := by
  refine F.ok scNl (fun vs H Q E h => ?_) (fun cdv A outer s H vs Q E hr h => ?_)
  · obtain ⟨n, g, M, rfl, _⟩ := h
    rfl
  · obtain ⟨n, g, M, rfl, hN, k⟩ := h
    have hu := hu_of hr
    obtain ⟨Z, q⟩ := hN.ex
    have hn := q.at_n
    refine ⟨_, (pss_one (ps_ret (pe_callB call_lenD (by rfl) B.len PySem.boot_len (pa_cons (pe_fld (pv 0) rfl) pa_nil)))), ?_⟩
    refine ⟨_, rfl, n, c.N, _, _, _, rfl, hn, T.cl, T.f_nodes, rfl, Z.nd, _, rfl, q.h.at_net 1, ?_⟩
    rw [List.length_map, pr_len q.r.nodes]
    exact k
theorem ok_nget {c : Cs} {UN f : Addr} {fd : FuncData} (F : Fun K "__getitem__" "Net.__getitem__" sNg f fd) (B : Bn mg) (T : NetC K c.N) (XUN : XrAt P w K mg base "UnknownNode" "node" UN) : FnOk P w K mg base (L2.CX P w) 3 f fd ["self", "at"] (spNGet K c UN) := by
  refine F.okX scNg (fun vs H Q E h => ?_) (fun cdv A outer s H vs Q E hr h => ?_)
  · obtain ⟨n, g, M, x, rfl, _⟩ := h
    rfl
  · obtain ⟨n, g, M, x, rfl, hN, k⟩ := h
    have hu := hu_of hr
    obtain ⟨Z, q⟩ := hN.ex
    have hn := q.at_n
    refine ⟨_, (pss_cons (ps_if (pt_val (pe_callB call_isi (by rfl) B.isi PyProof.Rows.boot_isinstance (pa_cons (pv 1) (pa_cons (pe_bltn (v := .ty "str") (by rfl) B.str (by decide +kernel) rfl) pa_nil)))) (pss_one (ps_try_only (x := "KeyError") (c := .type "KeyError") (tb := fun W => tRet (tDGetX W (tFld K (tVar 0) "nodes") (tVar 1))) (ts := fun _ _ _ => tNext) rfl rfl ⟨by rfl, by decide, .inr ⟨B.ke, boot_KeyError, by decide⟩⟩ (takes_of rfl rfl rfl rfl) (fun W pn xe tk _ => pss_one (ps_ret (pe_dgetX rfl hu tk (pe_fld (pv 0) rfl) (pv 1) (fun _ _ => rfl)))) (fun a oe cls d pn hz hf => pss_one ps_pass))) pss_nil)
        (pss_one (ps_raiseE XUN (hr.mono (by decide)) rfl (takes_of rfl rfl rfl rfl) (pv 1)))), ?_⟩
    have lab := q.labels
    rcases k with ⟨s, na, rfl, hs, k⟩ | ⟨⟨s, rfl, hs⟩ | ⟨t, ty, hk⟩, kE⟩
    · obtain ⟨i, z, m, hz, hm, ena, els, hr⟩ := q.node hs
      have hv := q.nodeV (List.mem_of_getElem? hz)
      rw [els, ena] at hv
      refine ⟨_, rfl, _, _, _, _, true, rfl, .ty _, .base (.str _), kit_ty (by decide +kernel), _, rfl, iteT ?_⟩
      refine ⟨_, rfl, n, c.N, _, _, _, rfl, hn, T.cl, T.f_nodes, rfl, _, rfl, Z.nd, _, rfl, .inl ⟨_, Sum.inr s, .inl (q.h.at_net 1), rfl, rfl⟩, fun v h2 => ?_, fun z2 => ?_⟩
      · rw [hv] at h2
        cases h2
        exact k
      · rw [hv] at z2
        cases z2
    · have hv : valV (nodesK Z.nodes) (Sum.inr s) = none := nodesK_none (by rw [lab]; exact hs)
      refine ⟨_, rfl, _, _, _, _, true, rfl, .ty _, .base (.str _), kit_ty (by decide +kernel), _, rfl, iteT ?_⟩
      refine ⟨_, rfl, n, c.N, _, _, _, rfl, hn, T.cl, T.f_nodes, rfl, _, rfl, Z.nd, _, rfl, .inl ⟨_, Sum.inr s, .inl (q.h.at_net 1), rfl, rfl⟩, fun v h2 => ?_, fun z2 d => ?_⟩
      · rw [hv] at h2
        cases h2
      · refine ⟨true, by with_unfolding_all rfl, fun _ a ha => ?_, fun z => nomatch z⟩
        exact ⟨_, rfl, fun d H' s hd e => kE d H' s hd e⟩
    · refine ⟨_, rfl, _, _, _, _, false, rfl, .ty _, ty, hk, _, rfl, iteF ?_⟩
      exact ⟨_, rfl, fun d H' s hd e => kE d H' s hd e⟩
theorem ok_msg {c : Cs} {UN f : Addr} {fd : FuncData} (F : Fun K "messages" "Net.messages" sMs f fd) (B : Bn mg) (T : NetC K c.N) (TE : EntryC K c.E) : FnOk P w K mg base CX0 1 f fd ["self", "sender", "receiver"] (spMsg c) := by
  refine F.ok scMs (fun vs H Q E h => ?_) (fun cdv A outer s H vs Q E hr h => ?_)
  · obtain ⟨n, g, M, sd, rv, rfl, _⟩ := h
    rfl
  · obtain ⟨n, g, M, sd, rv, rfl, hN, k⟩ := h
    have hu := hu_of hr
    obtain ⟨Z, q⟩ := hN.ex
    have hn := q.at_n
    refine ⟨_, (pss_cons (ps_set (i := 3) scMs.nd rfl (Or.inl rfl) (pe_fld (pv 0) rfl))
        (pss_cons (ps_if (PW.pt (pw_and (pt_val (pe_callB call_isi (by rfl) B.isi PyProof.Rows.boot_isinstance (pa_cons (pv 1) (pa_cons (pe_bltn (v := .ty "str") (by rfl) B.str (by decide +kernel) rfl) pa_nil)))) (pw_and1 (pt_val (pe_callB call_isi (by rfl) B.isi PyProof.Rows.boot_isinstance (pa_cons (pv 2) (pa_cons (pe_bltn (v := .ty "str") (by rfl) B.str (by decide +kernel) rfl) pa_nil))))))) (pss_cons (ps_if (PW.pt (pw_and (pt_cmp (pc_din hu (pv 2) (pv 3))) (pw_and1 (pt_cmpR op_eq (pe_fld (pe_dget hu (pv 3) (pv 2) (fun _ _ => rfl)) rfl) (pv 1) (nomark _))))) (pss_one (ps_ret (pe_callTy call_list_of (by rfl) B.list (by decide +kernel) (pa_cons (pe_fld (pe_dget hu (pv 3) (pv 2) (fun _ _ => rfl)) rfl) pa_nil)))) pss_nil)
        (pss_one (ps_if (PW.pt (pw_and (pt_cmp (pc_din hu (pv 1) (pv 3))) (pw_and1 (pt_cmpR op_eq (pe_fld (pe_dget hu (pv 3) (pv 1) (fun _ _ => rfl)) rfl) (pv 2) (nomark _))))) (pss_one (ps_ret (pe_callTy call_list_of (by rfl) B.list (by decide +kernel) (pa_cons (pe_fld (pe_dget hu (pv 3) (pv 1) (fun _ _ => rfl)) rfl) pa_nil)))) pss_nil))) pss_nil)
        (pss_one (ps_ret (pe_lst pa_nil))))), ?_⟩
    have hrd : H Z.rd = some (.dK (rowsK Z.rows)) := q.h.at_net 2
    refine ⟨_, rfl, n, c.N, _, _, _, rfl, hn, T.cl, T.f_rows, rfl, ?_⟩
    refine ⟨_, rfl, _, _, _, _, true, rfl, .ty _, .base (.str _), kit_ty (by decide +kernel), _, rfl, iteT ?_⟩
    refine ⟨_, rfl, _, _, _, _, true, rfl, .ty _, .base (.str _), kit_ty (by decide +kernel), _, rfl, iteT ?_⟩
    by_cases hA : ∃ r0, M.lnk rv sd = some r0
    · obtain ⟨r0, h0⟩ := hA
      obtain ⟨h1, h2⟩ := lnk_in h0
      rcases q.rowK rv with ⟨e1, _⟩ | ⟨j, y, r, hy, hrj, hyr, hc, e1, hv⟩
      · rw [h1] at e1
        cases e1
      · rw [h1] at e1
        cases e1
        have hRH := RowH.of q.h (List.mem_of_getElem? hy)
        have hg : DGet H Z.rd (.str rv) (some (.ref y.ra)) := .inl ⟨_, Sum.inr rv, .inl hrd, rfl, hv.symm⟩
        have em : M.msgs sd rv = r0.down := by unfold NetM.msgs; rw [h0]
        rw [em] at k
        refine ⟨_, rfl, _, rfl, Z.rd, _, rfl, hg, _, rfl, iteT ?_⟩
        refine ⟨_, rfl, _, rfl, Z.rd, _, rfl, hg, y.ra, c.E, _, _, _, rfl, hRH.i, TE.cl, TE.above, rfl, _, rfl, rfl, _, rfl, ifT (decide_eq_true (by rw [hyr.above, h2])) ?_⟩
        exact ⟨_, rfl, _, rfl, Z.rd, _, rfl, hg, y.ra, c.E, _, _, _, rfl, hRH.i, TE.cl, TE.down, rfl, y.dq, _, rfl, .inl (SqL.of hRH.dq), fun p hp => k p _ _ (Same.upd hp) upd_same (hyr.down.mono (KT.of (Same.upd hp)))⟩
    · have hA0 : M.lnk rv sd = none := by
        cases e : M.lnk rv sd with
        | none => rfl
        | some r => exact absurd ⟨r, e⟩ hA
      have em : M.msgs sd rv = M.ups sd rv := by unfold NetM.msgs; rw [hA0]
      rw [em] at k
      refine ⟨_, rfl, _, rfl, Z.rd, _, rfl, .inl ⟨_, Sum.inr rv, .inl hrd, rfl, rfl⟩, _, rfl, ?_⟩
      refine ite_and (fun hb els => ?_) ?_
      · rcases q.rowK rv with ⟨_, hv⟩ | ⟨j, y, r, hy, hrj, hyr, hc, e1, hv⟩
        · rw [hv] at hb
          cases hb
        · have hRH := RowH.of q.h (List.mem_of_getElem? hy)
          have hg : DGet H Z.rd (.str rv) (some (.ref y.ra)) := .inl ⟨_, Sum.inr rv, .inl hrd, rfl, hv.symm⟩
          refine ⟨_, rfl, _, rfl, Z.rd, _, rfl, hg, y.ra, c.E, _, _, _, rfl, hRH.i, TE.cl, TE.above, rfl, _, rfl, rfl, _, rfl, ifF (decide_eq_false fun z => hA ⟨r, lnk_of e1 (by rw [← hyr.above]; exact V.str.inj z)⟩) els⟩
      refine ⟨_, rfl, _, rfl, Z.rd, _, rfl, .inl ⟨_, Sum.inr sd, .inl hrd, rfl, rfl⟩, _, rfl, ?_⟩
      rcases q.rowK sd with ⟨e1, hv⟩ | ⟨j, y, r, hy, hrj, hyr, hc, e1, hv⟩
      · refine ifF (by rw [hv]; rfl) ?_
        have em2 : M.lnk sd rv = none := by unfold NetM.lnk; rw [e1]
        unfold NetM.ups at k
        rw [em2] at k
        exact ⟨by show 0 ≤ sizeLine; decide, fun p hp => k p _ _ (Same.upd hp) upd_same .nil⟩
      · have hRH := RowH.of q.h (List.mem_of_getElem? hy)
        have hg : DGet H Z.rd (.str sd) (some (.ref y.ra)) := .inl ⟨_, Sum.inr sd, .inl hrd, rfl, hv.symm⟩
        refine ifT (by rw [hv]; rfl) ?_
        refine ⟨_, rfl, _, rfl, Z.rd, _, rfl, hg, y.ra, c.E, _, _, _, rfl, hRH.i, TE.cl, TE.above, rfl, _, rfl, rfl, _, rfl, ite2 (fun hb => ?_) (fun hb => ?_)⟩
        · have ha : r.above = rv := by rw [← hyr.above]; exact V.str.inj (of_decide_eq_true hb)
          unfold NetM.ups at k
          rw [lnk_of e1 ha] at k
          exact ⟨_, rfl, _, rfl, Z.rd, _, rfl, hg, y.ra, c.E, _, _, _, rfl, hRH.i, TE.cl, TE.up, rfl, y.uq, _, rfl, .inl (SqL.of hRH.uq), fun p hp => k p _ _ (Same.upd hp) upd_same (hyr.up.mono (KT.of (Same.upd hp)))⟩
        · have em2 : M.lnk sd rv = none := by
            unfold NetM.lnk
            rw [e1]
            exact if_neg fun z => hb (decide_eq_true (by rw [hyr.above, z]))
          unfold NetM.ups at k
          rw [em2] at k
          exact ⟨by show 0 ≤ sizeLine; decide, fun p hp => k p _ _ (Same.upd hp) upd_same .nil⟩
end
end K03
set_option Elab.async false
set_option linter.all false
set_option maxRecDepth 100000
set_option maxHeartbeats 4000000
/-! tuple(d): the keys of a dict -/
namespace EX
open PySem L2 PySem.Spec PyProof.Rows
section
variable {prog : Program} {w : World} {A : Around} {E : Value → Shared → Prop} {s : Shared} {T : String} {r d : Addr} {n : Nat} {P : Nat → Value → Prop} {OK : Heap → Prop}
theorem collect_src {Q : List Value → Shared → Prop} (K : PySem.W.KdlSrc prog w T r d n P OK) (hh : A.handled = none) (hok : OK s.heap) (hn : n ≤ sizeLine)
    (hQ : ∀ (h' : Heap) (tk : Nat) (acc : Array Value), (∀ b o, s.heap.get? b = some o → h'.get? b = some o) → ItemsOf P acc n → Q acc.toList { s with heap := h', toks := tk }) :
    wpAny (model prog w) A (collect (.ref r)) Q E s := by
  have hlt := K.there _ hok
  unfold collect
  refine wpAny_bind (wpAny_runValue (codeAny_builtin F.entry_proto_collect ?_))
  rw [Around.under_plainId F.plain_proto_collect _]
  show wpAny _ A.in1 (newList [] >>= fun l => again (.builtin "list.__iadd__" ⟨[l, .ref r], []⟩)) _ _ s
  refine wpAny_bind (wpAny_newObj_type ?_)
  refine wpAny_pure ⟨plainId_quiet F.plain_list_iadd _, codeAny_builtin F.entry_list_iadd ?_⟩
  rw [Around.under_plainId F.plain_list_iadd _]
  show wpAny _ A.in1 (Builtin.List.listExtendWith (.ref s.heap.objs.size) (.ref r) (.ref s.heap.objs.size)) _ _ _
  have hS : (s.heap.push { cls := .type "list", data := .seq ([] : List Value).toArray }).get? s.heap.objs.size = some { cls := .type "list", data := .seq #[] 0 } := Heap.get?_push_size _ rfl
  refine wpAny_mono (PySem.W.kdl_extend (A := A) (R := fun rr s' => rr = .ok (.ret (.ref s.heap.objs.size)) ∧ ∃ (h' : Heap) (tk : Nat) (acc : Array Value) (c' : Nat), s' = { s with heap := h', toks := tk } ∧
      (∀ b o, s.heap.get? b = some o → h'.get? b = some o) ∧ h'.get? s.heap.objs.size = some { cls := .type "list", dict := none, data := .seq acc c', slots := #[] } ∧ ItemsOf P acc n)
    (s := { s with heap := s.heap.push { cls := .type "list", data := .seq ([] : List Value).toArray } }) K hh (K.keep _ _ hok fun b _ o e => Heap.get?_push_of_some _ e) _ (Nat.ne_of_gt hlt.1) (Nat.ne_of_gt hlt.2) _ 0 hS
    (fun h' tk acc c' hk e hi => ⟨rfl, h', tk, acc, c', rfl, fun b o q => hk b o (Nat.ne_of_lt (Heap.lt_size q)) (Heap.get?_push_of_some _ q), e, hi⟩) hn) (fun fin s' h => ?_) (fun e s' h => ?_)
  · cases fin with
    | done f =>
      obtain ⟨e, h', tk, acc, c', rfl, hk, hS', hi⟩ := h
      cases e
      show wpAny _ A (load s.heap.objs.size >>= _) _ _ _
      exact wpAny_bind (wpAny_load hS' (wpAny_pure (hQ h' tk acc hk hi)))
    | again c' =>
      refine ⟨h.1, codeAny_mono h.2 fun rr s'' hr' => ?_⟩
      obtain ⟨rfl, h', tk, acc, c', rfl, hk, hS', hi⟩ := hr'
      show wpAny _ A (load s.heap.objs.size >>= _) _ _ _
      exact wpAny_bind (wpAny_load hS' (wpAny_pure (hQ h' tk acc hk hi)))
  · exact absurd h.1 (by simp)
theorem code_tuple_new_src {Q₁ : Value → Shared → Prop} (K : PySem.W.KdlSrc prog w T r d n P OK) (hh : A.handled = none) (hok : OK s.heap) (hn : n ≤ sizeLine)
    (h : ∀ (h' : Heap) (tk : Nat) (acc : Array Value), (∀ b o, s.heap.get? b = some o → h'.get? b = some o) → ItemsOf P acc n →
      Q₁ (.ref h'.objs.size) { s with heap := h'.push { cls := .type "tuple", data := .seq acc }, toks := tk }) :
    codeAny (model prog w) A (.call (.builtin "tuple.__new__") ⟨[.type "tuple", .ref r], []⟩) (wants Q₁ E) s := by
  refine codeAny_of_tree ?_
  show wpAny _ A.in1 (do checkBuiltinCall "tuple.__new__" ⟨[.type "tuple", .ref r], []⟩; again (.builtin "tuple.__new__" ⟨[.type "tuple", .ref r], []⟩)) _ _ s
  refine wpAny_bind (wpAny_of_eq (F.newCall_tuple_1 _) (wpAny_pure ⟨plainId_quiet F.plain_tuple_new _, codeAny_builtin F.entry_tuple_new ?_⟩))
  rw [Around.under_plainId F.plain_tuple_new _]
  have hsub := sub_tuple_self
  have hinit := init_tuple_lookup
  have hmh := madeHere_tuple
  have hTI : s.TypeIs (.ref r) T := K.type s hok
  have n1 := K.notTuple
  have hh1 : A.in1.handled = none := hh
  wp_walk using wpAny_typeOf hTI, collect_src (A := A.in1) K hh1 hok hn
  intro h' tk acc hk hacc
  show wpAny _ _ (Builtin.Tuple.tupleExact acc.toList.toArray >>= fun v => ret v) _ _ _
  unfold Builtin.Tuple.tupleExact
  refine wpAny_bind (wpAny_newObj_type ?_ (by show acc.toList.toArray.size ≤ sizeLine; simp only [Array.toArray_toList]; rw [hacc.1]; exact hn))
  refine wpAny_pure ?_
  have e : acc.toList.toArray = acc := by simp
  rw [e]
  exact h h' tk acc hk hacc
theorem call_tuple_src {Q : Value → Shared → Prop} (K : PySem.W.KdlSrc prog w T r d n P OK) (hh : A.handled = none) (hok : OK s.heap) (hn : n ≤ sizeLine)
    (hQ : ∀ (h' : Heap) (tk : Nat) (acc : Array Value), (∀ b o, s.heap.get? b = some o → h'.get? b = some o) → ItemsOf P acc n →
      Q (.ref h'.objs.size) { s with heap := h'.push { cls := .type "tuple", data := .seq acc }, toks := tk }) :
    wpAny (model prog w) A (call (.type "tuple") [.ref r]) Q E s := by
  refine callType_codes (Q₁ := fun obj s₁ => s₁.TypeIs obj "tuple" ∧ Q obj s₁) F.called_tuple (F.typeCall_tuple_1 _) F.entry_object_init
    (code_tuple_new_src (A := A.in1) K hh hok hn fun h' tk acc hk hacc => ⟨⟨_, Heap.get?_push_size _ rfl, rfl⟩, hQ h' tk acc hk hacc⟩) fun obj s₁ h₁ => ?_
  exact ⟨h₁.1, F.args_object_init_2 obj _, object_init_meets F.called_tuple.init.lookup F.called_tuple.made (by decide) prog w A.in1 _ s₁ ⟨h₁.1, rfl, h₁.2⟩⟩
end
section
variable {X : Cx}
theorem call_tupleD (hcalm : X.calm = true) : CallR X (.type "tuple") (fun xs H Q => ∃ (a : Addr) (kvs : List (Key × V)), xs = [.ref a] ∧ Rd H a (.dK kvs) ∧ ∀ p, H p = none → Q (.ref p) (upd H p (.tup (kvs.map fun kv => kV kv.1)))) := by
  intro pins s σ H xs us Q I r q
  obtain ⟨a, kvs, ex, hd, q⟩ := q
  subst ex
  obtain ⟨u, eu, rx⟩ := vals1 r
  subst eu
  cases rx
  obtain ⟨z, lo, vs, rel, dd⟩ := dk_rd I.hok hd
  obtain ⟨ep, hat⟩ := dd.dictAt
  have ek : (kvs.map fun kv => kV kv.1) = vs.map fun p => kV p.1 := by
    have e := congrArg (List.map kV) rel.keys
    rw [List.map_map, List.map_map] at e
    exact e
  refine call_tuple_src (PySem.W.kdl_dict (knd := mixKind X.prog X.w) (kvs := vs) (ep := ep) lo) (I.ok.hd hcalm) hat (by rw [← rel.length]; exact z) fun h' tk acc hk hacc => ?_
  have hv : Vals (vs.map fun p => kV p.1) acc.toList := keys_at (by rw [Array.length_toList]; exact hacc.1) fun j v e => hacc.2 j v (by rw [← Array.getElem?_toList]; exact e)
  have I1 : Inv X pins σ H { s with heap := h', toks := tk } := I.kept (t' := tk) hk
  have I2 : Inv X pins σ (upd H h'.objs.size (.tup (kvs.map fun kv => kV kv.1))) { s with heap := h'.push { cls := .type "tuple", data := .seq acc }, toks := tk } :=
    I1.laid (t' := tk) (fun b o e => Heap.get?_push_of_some _ e) (Nat.le_refl _) (show ObjOk X.prog X.w _ _ _ (.tup (kvs.map fun kv => kV kv.1)) from ⟨by rw [List.length_map]; exact z, acc.toList, by rw [ek]; exact hv, IsTup.new _ _⟩)
  exact ⟨.ref h'.objs.size, _, I2, rfl, q _ (I1.hok.fresh (Nat.le_refl _))⟩
end
end EX
set_option Elab.async false
set_option linter.all false
set_option maxRecDepth 100000
set_option maxHeartbeats 4000000
namespace K03
open PySem L2 EX PyProof.Rows LamX
open NZ
abbrev sSc : Stmt := top 41
theorem scSc : FnScope ["net", "node", "child", "row", "cells", "key", "number", "value", "granted"] ["net", "node", "child", "row"] (defScope sSc) := ⟨rfl, rfl, rfl, by decide +kernel, rfl, by decide +kernel, by decide +kernel⟩
/-- a word with the copy that its parent has, and the allowance given -/
abbrev Js : Type := List (Str × CellM × Int)
def msgD (j : Str × CellM × Int) : Msg := .copy j.1 j.2.1.num j.2.1.val j.2.2
def row0 (up ch : Str) (js : Js) : RowM := { child := ch, above := up, cells := js.map fun j => (j.1, 0, j.2.2), rais := [], there := true, crashed := false, down := [], up := [] }
def row1 (up ch : Str) (js : Js) : RowM := { child := ch, above := up, cells := js.map fun j => (j.1, j.2.1.num, j.2.2), rais := [], there := true, crashed := false, down := js.map msgD, up := [] }
def node1 (up ch : Str) (ws : List Str) : NodeM := { label := ch, above := some up, cells := ws.map fun w => (w, none), kids := [] }
def startM (M : NetM) (rs : List RowM) (up ch : Str) (js : Js) : NetM := { M with nodes := M.nodes ++ [node1 up ch M.words], rows := rs ++ [row1 up ch js] }
/-- what a deed keeps -/
structure Went (H H' : Hp) (g g' : Sg) : Prop where
  k : Keeps g.S H H'
  s : ∀ q ∈ g'.S, q ∈ g.S ∨ H q = none
  nx : ∀ x ∈ g.nx, x ∈ g'.nx
def spStart (c : Cs) : Sp := fun vs H Q _ => ∃ (n na : Addr) (ch : Str) (g : Sg) (M : NetM) (Z : NetZ) (i : Nat) (z : NodeZ) (m : NodeM) (zs : List RowZ) (y : RowZ) (rs : List RowM) (js : Js), vs = [.ref n, .ref na, .str ch, .ref y.ra] ∧
  NetQ c H n g M Z ∧ Z.nodes[i]? = some z ∧ z.na = na ∧ M.nodes[i]? = some m ∧ m.cells = (js.map fun j => (j.1, some j.2.1)) ∧ js.map (·.1) = M.words ∧ Z.rows = zs ++ [y] ∧ M.rows = rs ++ [row0 m.label ch js] ∧
  ch ∉ M.nodes.map (·.label) ∧ M.nodes.length < 12 ∧ ∀ H' g', Went H H' g g' → NetA c H' n g' (startM M rs m.label ch js) → Q .non H'
section
variable {P : Program} {w : World} {K : PySem.W.Frag} {mg : Str → Option Value} {base : Heap}
theorem ok_sc {c : Cs} {f : Addr} {fd : FuncData} (F : Fun K "start_child" "start_child" sSc f fd) (B : Bn mg) (T : NetC K c.N) (TC : CacheC K c.C) (TE : EntryC K c.E) (MC : MkAt P w K mg base CX0 1 "Cache" ["self", "home", "label", "above", "row", "cells"] c.C (spCI K c.C)) : FnOk P w K mg base CX0 3 f fd ["net", "node", "child", "row"] (spStart c) := by
  refine F.ok scSc (fun vs H Q E h => ?_) (fun cdv A outer s H vs Q E hr h => ?_)
  · obtain ⟨n, na, ch, g, M, Z, i, z, m, zs, y, rs, js, rfl, _⟩ := h
    rfl
  · obtain ⟨n, na, ch, g, M, Z, i0, z, m, zs, y, rs, js, rfl, q, hz, rfl, hm, hmc, hjw, hzr, hMr, hch, h12, k⟩ := h
    have hu := hu_of hr
    have hzm := List.mem_of_getElem? hz
    obtain ⟨m', hm', zr⟩ := pr_get q.r.nodes hz
    cases hm.symm.trans hm'
    have hn := q.at_n
    have nt := q.notup
    have wnd := q.w.wnd
    have w4 := q.w.w4
    have jnd : (js.map (·.1)).Nodup := by rw [hjw]; exact wnd
    have j4 : js.length ≤ 4 := by
      have e := congrArg List.length hjw
      rw [List.length_map] at e
      omega
    have hrows := q.r.rows
    rw [hzr, hMr] at hrows
    obtain ⟨hrs, hy⟩ := pr_snoc hrows
    obtain ⟨tw, xs, etw, htw, hxs⟩ := td_tup q.r.tw
    rw [td_strsV hxs] at htw
    have hps : ∀ p ∈ (objs c Z).map (·.1), p ∈ g.S := fun p hp => by
      rw [← q.ps]
      exact hp
    have pn : n ∈ g.S := q.mem_n
    have prow : ∀ x ∈ rowO c y, x.1 ∈ g.S := fun x hx => hps _ (List.mem_map.mpr ⟨x, mem_row (by rw [hzr]; exact List.mem_append_right _ (.head _)) hx, rfl⟩)
    refine ⟨_, (pss_cons (ps_set (i := 4) scSc.nd rfl (Or.inl rfl) pe_dnewK)
        (pss_cons (ps_for PassesOwn.never rfl (pi_tup (pe_fld (pv 0) rfl)) (pg_name (i := 5) scSc.nd rfl (Or.inl rfl)) (pss_cons (ps_asg (pe_ix ix_tup (pe_dget hu (pe_fld (pv 1) rfl) (pv 5) (fun _ _ => rfl)) pe_int (fun _ _ => rfl)) (pg_tup rfl (pgs_cons (pg_name (i := 6) scSc.nd rfl (Or.inl rfl)) (pgs_cons (pg_name (i := 7) scSc.nd rfl (Or.inl rfl)) pgs_nil))))
        (pss_cons (ps_set (i := 8) scSc.nd rfl (Or.inl rfl) (pe_ix ix_tup (pe_dget hu (pe_fld (pv 3) rfl) (pv 5) (fun _ _ => rfl)) pe_int (fun _ _ => rfl)))
        (pss_cons (ps_dput hu (pe_fld (pv 3) rfl) (pv 5) (pe_tup (pa_cons (pv 6) (pa_cons (pv 8) pa_nil))) rfl)
        (pss_cons (ps_expr (pe_bm PySem.F.plainAttrs_list PySem.F.slot_list_append PySem.F.type_list_append mt_append (pe_fld (pv 3) rfl) (pa_cons (pe_tup (pa_cons pe_str (pa_cons (pv 5) (pa_cons (pv 6) (pa_cons (pv 7) (pa_cons (pv 8) pa_nil)))))) pa_nil)))
        (pss_one (ps_dput hu (pv 4) (pv 5) pe_non rfl)))))))
        (pss_cons (ps_dput hu (pe_fld (pv 0) rfl) (pv 2) (pe_mkC MC (hr.mono (by decide)) (pa_cons (pv 0) (pa_cons (pv 2) (pa_cons (pe_fld (pv 1) rfl) (pa_cons (pv 3) (pa_cons (pv 4) pa_nil)))))) rfl)
        (pss_one (ps_fld (pv 0) (pe_callTy (call_tupleD rfl) (by rfl) B.tuple (by decide +kernel) (pa_cons (pe_fld (pv 0) rfl) pa_nil)) rfl))))), ?_⟩
    refine fun D hD => ?_
    refine ⟨_, rfl, n, c.N, _, _, _, rfl, ((Same.upd hD) _ _ hn), T.cl, T.f_words, rfl, tw, etw, ⟨_, SqT.of ((Same.upd hD) _ _ htw)⟩, ?_⟩
    refine for_it (walk_tup (K := K) (a := tw) (xs := strV M.words)) (fun i σ' Hh => ∃ (v5 v6 v7 v8 : Option V) (cs : List (Str × V)) (ds : List V), σ' = [some (.ref n), some (.ref z.na), some (.str ch), some (.ref y.ra), some (.ref D), v5, v6, v7, v8] ∧ Keeps g.S H Hh ∧
      NetH c Hh { Z with rows := zs ++ [{ y with cells := cs, down := ds }] } ∧ Hh D = some (.dK (strK ((js.take i).map fun j => (j.1, V.non)))) ∧
      Paired (fun (p : Str × V) (q : Str × Int × Int) => p.1 = q.1 ∧ Td Hh p.2 (.tuple [.int q.2.1, .int q.2.2])) cs ((js.take i).map (fun j => (j.1, j.2.1.num, j.2.2)) ++ (js.drop i).map (fun j => (j.1, (0 : Int), j.2.2))) ∧ TdAll Hh ds ((js.take i).map fun j => (msgD j).d)) ?_ (fun i σ' Hh _ z => ?_) ?_ ?_
    · refine ⟨none, none, none, none, y.cells, y.down, rfl, (Keeps.refl _ _).updN hD, ?_, upd_same, ?_, ?_⟩
      · have hq := q.h.same (Same.upd (o := .dK []) hD)
        have e : Z = { Z with rows := zs ++ [{ y with cells := y.cells, down := y.down }] } := by
          rw [← hzr]
        rw [← e]
        exact hq
      · have := hy.cells
        exact pr_imp (fun _ _ w => ⟨w.1, w.2.mono (KT.of (Same.upd hD))⟩) this
      · exact hy.down.mono (KT.of (Same.upd hD))
    · obtain ⟨v5, v6, v7, v8, cs, ds, e, kk, _⟩ := z
      exact SqT.of (KT.keeps kk nt _ _ htw)
    · rintro i x σ' H1 H2 hi ⟨v5, v6, v7, v8, cs, ds, rfl, kk, hN, lD, hcs, hds⟩ ⟨rfl, hx⟩
      obtain ⟨s', rfl, hs⟩ := strV_get hx
      rw [← hjw, List.getElem?_map] at hs
      obtain ⟨j, hj, rfl⟩ := Option.map_eq_some_iff.mp hs
      have kt := KT.keeps kk nt
      -- the parent's cell
      have hcell : m.cells[i]? = some (j.1, some j.2.1) := by rw [hmc, List.getElem?_map, hj]; rfl
      obtain ⟨p1, hp1, e1, hp2⟩ := pr_get' zr.cells hcell
      obtain ⟨t, qd, av, et, ht, hqd, _⟩ := td_cell hp2
      obtain ⟨p1a, p1b⟩ := p1
      cases e1
      cases et
      have zk : z.cells.map (·.1) = M.words := (pr_keys (fun _ _ w => w.1) zr.cells).trans (q.w.cell _ (List.mem_of_getElem? hm))
      have hzv := strK_val (by rw [zk]; exact wnd) (List.mem_of_getElem? hp1)
      have hN1 := NodeH.of hN (y := z) hzm
      -- the row's cell
      obtain ⟨p2, hp3, e2, hp4⟩ := pr_get' hcs (mix_get (f := fun j => (j.1, j.2.1.num, j.2.2)) (h := fun j => (j.1, (0 : Int), j.2.2)) hj)
      obtain ⟨p2a, p2b⟩ := p2
      cases e2
      obtain ⟨t2, et2, ht2⟩ := td_two hp4
      cases et2
      have ck : cs.map (·.1) = js.map (·.1) := by
        refine (pr_keys (fun _ _ w => w.1) hcs).trans ?_
        rw [List.map_append, List.map_map, List.map_map]
        conv => rhs; rw [← List.take_append_drop i js, List.map_append]
        rfl
      have cnd : (cs.map (·.1)).Nodup := by rw [ck]; exact jnd
      have cl4 : cs.length ≤ 4 := by
        have e := congrArg List.length ck
        rw [List.length_map, List.length_map] at e
        omega
      have hcv := strK_val cnd (List.mem_of_getElem? hp3)
      have hR1 := RowH.of hN (y := { y with cells := cs, down := ds }) (List.mem_append_right _ (.head _))
      have hR1i : H2 y.ra = some (.ins c.E y.dx (rowF { y with cells := cs, down := ds })) := hR1.i
      have hR1c : H2 y.cd = some (.dK (strK cs)) := hR1.cd
      have hg1 : DGet H2 z.cd (.str j.1) (some (.ref t)) := .inl ⟨strK z.cells, Sum.inr j.1, .inl hN1.cd, rfl, hzv.symm⟩
      have hg2 : DGet H2 y.cd (.str j.1) (some (.ref t2)) := .inl ⟨strK cs, Sum.inr j.1, .inl hR1c, rfl, hcv.symm⟩
      refine ⟨_, rfl, z.na, c.C, _, _, _, rfl, hN1.i, TC.cl, TC.cells, rfl, _, rfl, z.cd, _, rfl, hg1, t, _, _, _, rfl, rfl, SqT.of (kt _ _ ht), atI_nat (j := 0) rfl, ?_⟩
      refine ⟨qd, _, rfl, SqT.of (kt _ _ hqd), rfl, _, _, rfl, _, _, rfl, rfl, ?_⟩
      refine ⟨_, rfl, y.ra, c.E, _, _, _, rfl, hR1i, TE.cl, TE.cells, rfl, _, rfl, y.cd, _, rfl, hg2, t2, _, _, _, rfl, rfl, SqT.of ht2, atI_nat (j := 1) rfl, ?_⟩
      refine ⟨_, rfl, _, rfl, by show 2 ≤ sizeLine; decide, fun t3 ht3 => ?_⟩
      have S3 : Same H2 (upd H2 t3 (.tup [.int j.2.1.num, .int j.2.2])) := Same.upd ht3
      have l3 : upd H2 t3 (HO.tup [.int j.2.1.num, .int j.2.2]) t3 = some (.tup [.int j.2.1.num, .int j.2.2]) := upd_same
      generalize upd H2 t3 (HO.tup [.int j.2.1.num, .int j.2.2]) = H3 at S3 l3 ⊢
      have lD3 := S3 _ _ lD
      have hN3 := hN.same S3
      refine ⟨_, rfl, y.ra, c.E, _, _, _, rfl, S3 _ _ hR1i, TE.cl, TE.cells, rfl, _, rfl, y.cd, _, rfl, .inl ⟨strK cs, Sum.inr j.1, S3 _ _ hR1c, rfl, by rw [List.length_map, sizeLine_eq]; omega, rfl⟩, ?_⟩
      rw [strK_set (v := .ref t3) cnd hp3]
      have hN4 := row_cells hN3 (xs := zs) (ys := []) rfl (cs.set i (j.1, .ref t3))
      have kk3 := kk.then S3
      have ycd : y.cd ∈ g.S := prow _ (.tail _ (.head _))
      have ydq : y.dq ∈ g.S := prow _ (.tail _ (.tail _ (.head _)))
      have kk4 := kk3.put (o := .dK (strK (cs.set i (j.1, .ref t3)))) ycd
      have hS4 : ∀ xs, H3 y.cd ≠ some (.tup xs) := fun xs z => by rw [S3 _ _ hR1c] at z; cases z
      have kt4 := (KT.of S3).trans (KT.upd (o := .dK (strK (cs.set i (j.1, .ref t3)))) hS4)
      have nDc : D ≠ y.cd := fun z => (q.h.ne hD _ (mem_row (by rw [hzr]; exact List.mem_append_right _ (.head _)) (.tail _ (.head _)))) z.symm
      have nDq : D ≠ y.dq := fun z => (q.h.ne hD _ (mem_row (by rw [hzr]; exact List.mem_append_right _ (.head _)) (.tail _ (.tail _ (.head _))))) z.symm
      have lD4 : upd H3 y.cd (.dK (strK (cs.set i (j.1, .ref t3)))) D = _ := (upd_ne nDc).trans lD3
      have l4 := (KT.upd (o := .dK (strK (cs.set i (j.1, .ref t3)))) hS4) _ _ l3
      generalize upd H3 y.cd (HO.dK (strK (cs.set i (j.1, .ref t3)))) = H4 at hN4 kk4 kt4 lD4 l4 ⊢
      have hR4 := RowH.of hN4 (y := { y with cells := cs.set i (j.1, .ref t3), down := ds }) (List.mem_append_right _ (.head _))
      have hR4i : H4 y.ra = some (.ins c.E y.dx (rowF y)) := hR4.i
      have hR4i : H4 y.ra = some (.ins c.E y.dx (rowF { y with cells := cs.set i (j.1, .ref t3), down := ds })) := hR4.i
      have hR4q : H4 y.dq = some (.lst ds) := hR4.dq
      refine ⟨_, rfl, y.ra, c.E, _, _, _, rfl, hR4i, TE.cl, TE.down, rfl, .inl ⟨rfl, _, SqL.of hR4q⟩, ?_⟩
      refine ⟨_, rfl, _, rfl, _, rfl, _, rfl, by show 5 ≤ sizeLine; decide, fun t4 ht4 => ?_⟩
      have S5 : Same H4 (upd H4 t4 (.tup [.str "copy", .str j.1, .int j.2.1.num, .int j.2.1.val, .int j.2.2])) := Same.upd ht4
      have l5 : upd H4 t4 (HO.tup [.str "copy", .str j.1, .int j.2.1.num, .int j.2.1.val, .int j.2.2]) t4 = some (.tup [.str "copy", .str j.1, .int j.2.1.num, .int j.2.1.val, .int j.2.2]) := upd_same
      generalize upd H4 t4 (HO.tup [.str "copy", .str j.1, .int j.2.1.num, .int j.2.1.val, .int j.2.2]) = H5 at S5 l5 ⊢
      have dl : ds.length < sizeLine := by
        have e := hds.length
        rw [List.length_map, List.length_take] at e
        rw [sizeLine_eq]
        omega
      refine ⟨y.dq, _, _, rfl, rfl, S5 _ _ hR4q, dl, ?_⟩
      have hN6 := row_down (hN4.same S5) (xs := zs) (ys := []) rfl (ds ++ [.ref t4])
      have kk6 := (kk4.then S5).put (o := .lst (ds ++ [.ref t4])) ydq
      have hS6 : ∀ xs, H5 y.dq ≠ some (.tup xs) := fun xs z => by rw [S5 _ _ hR4q] at z; cases z
      have kt6 := (kt4.trans (KT.of S5)).trans (KT.upd (o := .lst (ds ++ [.ref t4])) hS6)
      have lD6 : upd H5 y.dq (.lst (ds ++ [.ref t4])) D = _ := (upd_ne nDq).trans (S5 _ _ lD4)
      have l6 := (KT.upd (o := .lst (ds ++ [.ref t4])) hS6) _ _ (S5 _ _ l4)
      have l6' := (KT.upd (o := .lst (ds ++ [.ref t4])) hS6) _ _ l5
      generalize upd H5 y.dq (HO.lst (ds ++ [.ref t4])) = H6 at hN6 kk6 kt6 lD6 l6 l6' ⊢
      have jn : j.1 ∉ ((js.take i).map fun j => (j.1, V.non)).map (·.1) := by
        rw [List.map_map]
        have e : (js.take i).map ((fun x : Str × V => x.1) ∘ fun j => (j.1, V.non)) = (js.map (·.1)).take i := by rw [← List.map_take]; rfl
        rw [e]
        exact nd_at jnd (by rw [List.getElem?_map, hj]; rfl)
      have tl4 : ((js.take i).map fun j => (j.1, V.non)).length ≤ 4 := by
        rw [List.length_map, List.length_take]
        omega
      refine ⟨_, rfl, _, rfl, D, _, rfl, .inl ⟨_, Sum.inr j.1, lD6, rfl, by rw [List.length_map, sizeLine_eq]; omega, rfl⟩, ?_⟩
      rw [strK_put (v := .non) jn]
      have nDo : ∀ x ∈ objs c { Z with rows := zs ++ [{ y with cells := cs.set i (j.1, .ref t3), down := ds ++ [.ref t4] }] }, x.1 ≠ D := by
        intro x hx
        have e : (objs c { Z with rows := zs ++ [{ y with cells := cs.set i (j.1, .ref t3), down := ds ++ [.ref t4] }] }).map (·.1) = (objs c Z).map (·.1) := by
          unfold objs
          rw [hzr]
          simp [netO, rowO]
        have hx2 : x.1 ∈ (objs c Z).map (·.1) := by rw [← e]; exact List.mem_map.mpr ⟨x, hx, rfl⟩
        obtain ⟨x2, h2, e2⟩ := List.mem_map.mp hx2
        rw [← e2]
        exact q.h.ne hD x2 h2
      have k7 : ∀ b o, b ≠ D → H6 b = some o → upd H6 D (.dK (strK (((js.take i).map fun j => (j.1, V.non)) ++ [(j.1, V.non)]))) b = some o := fun b o hb e => by
        rw [upd_ne hb]
        exact e
      have kt7 : KT H6 (upd H6 D (.dK (strK (((js.take i).map fun j => (j.1, V.non)) ++ [(j.1, V.non)])))) := KT.upd fun xs z => by rw [lD6] at z; cases z
      refine ⟨_, _, _, _, cs.set i (j.1, .ref t3), ds ++ [.ref t4], rfl, kk6.updN hD, ⟨hN6.nd, fun x hx => k7 _ _ (nDo x hx) (hN6.at_ x hx)⟩, ?_, ?_, ?_⟩
      · rw [upd_same, List.take_add_one, hj, List.map_append]
        rfl
      · rw [← mix_set (f := fun j => (j.1, j.2.1.num, j.2.2)) (h := fun j => (j.1, (0 : Int), j.2.2)) hj]
        refine pr_set (pr_imp (fun _ _ w => ⟨w.1, (w.2.mono kt6).mono kt7⟩) hcs) ⟨rfl, ?_⟩
        exact Td.mono kt7 (.tup l6 (.cons (.int _) (.cons (.int _) .nil)))
      · rw [List.take_add_one, hj, List.map_append]
        refine ((hds.mono kt6).mono kt7).append (.cons ?_ .nil)
        exact Td.mono kt7 (.tup l6' (.cons (.str _) (.cons (.str _) (.cons (.int _) (.cons (.int _) (.cons (.int _) .nil))))))
    · rintro σ' H1 ⟨v5, v6, v7, v8, cs, ds, rfl, kk, hN, lD, hcs, hds⟩
      have elj : (strV M.words).length = js.length := by rw [List.length_map, ← hjw, List.length_map]
      rw [elj, List.take_length] at lD hds
      rw [elj, List.take_length, List.drop_length, List.map_nil, List.append_nil] at hcs
      have kt := KT.keeps kk nt
      have hN1 := NodeH.of hN (y := z) hzm
      refine ⟨_, rfl, _, rfl, _, rfl, z.na, c.C, _, _, _, rfl, hN1.i, TC.cl, TC.label, rfl, _, rfl, _, rfl, fun cp dy hcp hdy hne => ?_⟩
      refine ⟨cp, dy, .ref n, .str ch, .str z.label, .ref y.ra, .ref D, rfl, upd_same, fun H5 ce kt5 k5 ho5 hce hkt => ?_⟩
      have S40 : Same H1 (upd (upd H1 dy (.own cp)) cp (.ins c.C dy [])) := Same.trans (Same.upd hdy) (Same.upd (by rw [upd_ne (Ne.symm hne)]; exact hcp))
      have S5 := made_same hcp hdy hne k5
      have hce1 := S40.free hce
      have nDo : D ∉ (objs c { Z with rows := zs ++ [{ y with cells := cs, down := ds }] }).map (·.1) := by
        have e : (objs c { Z with rows := zs ++ [{ y with cells := cs, down := ds }] }).map (·.1) = (objs c Z).map (·.1) := by
          unfold objs
          rw [hzr]
          simp [netO, rowO]
        intro hx2
        rw [e] at hx2
        obtain ⟨x2, h2, e2⟩ := List.mem_map.mp hx2
        exact q.h.ne hD x2 h2 e2
      have ho1 := hN.add1 nDo lD
      have ho6 := Holds.grow ho1 S5 ho5 fun x hx => by
        simp only [List.mem_cons, List.not_mem_nil, or_false] at hx
        rcases hx with rfl | rfl
        · exact hcp
        · exact hce1
      have kk5 := kk.then S5
      have kt5' := kt.trans (KT.of S5)
      have hn5 := ho6.at_ _ (List.mem_append_left _ (List.mem_append_left _ (mem_net (.head _))))
      have hnd5 := ho6.at_ _ (List.mem_append_left _ (List.mem_append_left _ (mem_net (.tail _ (.head _)))))
      have lnodes : Z.nodes.length = M.nodes.length := pr_len q.r.nodes
      have hvn : valV (nodesK Z.nodes) (Sum.inr ch) = none := nodesK_none (by rw [q.labels]; exact hch)
      refine ⟨rfl, _, rfl, n, c.N, _, _, _, rfl, by rw [← q.n]; exact hn5, T.cl, T.f_nodes, rfl, _, rfl, Z.nd, _, rfl, .inl ⟨_, Sum.inr ch, hnd5, rfl, by show List.length (nodesK Z.nodes) < _; rw [List.length_map, sizeLine_eq]; omega, rfl⟩, ?_⟩
      have ek : putK (nodesK Z.nodes) (Sum.inr ch) (.ref cp) = nodesK Z.nodes ++ [(Sum.inr ch, .ref cp)] := putK_new _ hvn
      rw [ek]
      have eix : ixOf { Z with rows := zs ++ [{ y with cells := cs, down := ds }] } = ixOf Z := by
        unfold ixOf
        rw [hzr]
        simp
      obtain ⟨rest, erest⟩ : ∃ rest, rest = (((netO c Z).drop 3 ++ (Z.nodes.flatMap (nodeO c Z.n) ++ (zs ++ [{ y with cells := cs, down := ds }]).flatMap (rowO c))) ++ [(D, HO.dK (strK (js.map fun j => (j.1, V.non))))]) ++ [(cp, HO.ins c.C dy (cfl (.ref n) (.str ch) (.str z.label) (.ref y.ra) (.ref D) ce kt5)), (ce, HO.dK [])] := ⟨_, rfl⟩
      have ho7 : Holds H5 ([(Z.n, HO.ins c.N Z.dx (netF Z))] ++ (Z.nd, .dK (nodesK Z.nodes)) :: (Z.rd, .dK (rowsK (zs ++ [{ y with cells := cs, down := ds }]))) :: rest) := by
        rw [erest]
        exact ho6
      have ho8 := ho7.split (o' := .dK (nodesK Z.nodes ++ [(Sum.inr ch, .ref cp)]))
      have kk8 := kk5.put (o := .dK (nodesK Z.nodes ++ [(Sum.inr ch, .ref cp)])) (hps _ (List.mem_map.mpr ⟨_, mem_net (.tail _ (.head _)), rfl⟩))
      have kt8 := kt5'.trans (KT.upd (o := .dK (nodesK Z.nodes ++ [(Sum.inr ch, .ref cp)])) fun xs z => by rw [hnd5] at z; cases z)
      have hkt8 := (KT.upd (o := .dK (nodesK Z.nodes ++ [(Sum.inr ch, .ref cp)])) fun xs z => by rw [hnd5] at z; cases z) _ _ hkt
      have hcs8 := pr_imp (G := fun (p : Str × V) (q : Str × Int × Int) => p.1 = q.1 ∧ Td (upd H5 Z.nd (.dK (nodesK Z.nodes ++ [(Sum.inr ch, .ref cp)]))) p.2 (.tuple [.int q.2.1, .int q.2.2])) (fun _ _ w => ⟨w.1, (w.2.mono (KT.of S5)).mono (KT.upd (o := .dK (nodesK Z.nodes ++ [(Sum.inr ch, .ref cp)])) fun xs z => by rw [hnd5] at z; cases z)⟩) hcs
      have hds8 := (hds.mono (KT.of S5)).mono (KT.upd (o := .dK (nodesK Z.nodes ++ [(Sum.inr ch, .ref cp)])) fun xs z => by rw [hnd5] at z; cases z)
      have hS : ∀ q0 : Addr, H1 q0 = none → q0 ∈ g.S ∨ H q0 = none := fun q0 h0 => by
        by_cases w : q0 ∈ g.S
        · exact .inl w
        · exact .inr (kk.free w h0)
      have fcp := hS _ hcp
      have fce := hS _ hce1
      generalize upd H5 Z.nd (HO.dK (nodesK Z.nodes ++ [(Sum.inr ch, .ref cp)])) = H6 at ho8 kk8 kt8 hkt8 hcs8 hds8 ⊢
      have hn8 := ho8.at_ _ (List.mem_append_left _ (.head _))
      have hnd8 := ho8.at_ _ (List.mem_append_right _ (.head _))
      refine ⟨_, rfl, n, c.N, _, _, _, rfl, by rw [← q.n]; exact hn8, T.cl, T.f_nodes, rfl, Z.nd, _, rfl, .inl hnd8, fun la hla => ?_⟩
      have S9 : Same H6 (upd H6 la (.tup (List.map (fun kv : Key × V => kV kv.1) (nodesK Z.nodes ++ [(Sum.inr ch, V.ref cp)])))) := Same.upd hla
      have l9 : upd H6 la (HO.tup (List.map (fun kv : Key × V => kV kv.1) (nodesK Z.nodes ++ [(Sum.inr ch, V.ref cp)]))) la = some (.tup (List.map (fun kv : Key × V => kV kv.1) (nodesK Z.nodes ++ [(Sum.inr ch, V.ref cp)]))) := upd_same
      generalize upd H6 la (HO.tup (List.map (fun kv : Key × V => kV kv.1) (nodesK Z.nodes ++ [(Sum.inr ch, V.ref cp)]))) = H7 at S9 l9 ⊢
      have ho9 := ho8.same S9
      have hn9 := ho9.at_ _ (List.mem_append_left _ (.head _))
      refine ⟨_, rfl, n, c.N, Z.dx, netF Z, rfl, by rw [← q.n]; exact hn9, T.cl, T.f_labels, by show 13 < 1000; decide, ?_⟩
      rw [show putF "labels" (.ref la) (netF Z) = netF { Z with la := .ref la } from rfl]
      have ho10 := Holds.split (l := []) (o' := .ins c.N Z.dx (netF { Z with la := .ref la })) ho9
      rw [← q.n]
      have kt10 : KT H7 (upd H7 Z.n (.ins c.N Z.dx (netF { Z with la := .ref la }))) := KT.upd fun xs z => by rw [hn9] at z; cases z
      have kk10 := (kk8.then S9).put (o := .ins c.N Z.dx (netF { Z with la := .ref la })) (p := Z.n) (by rw [q.n]; exact pn)
      have kt11 := (kt8.trans (KT.of S9)).trans kt10
      have hkt11 := kt10 _ _ (S9 _ _ hkt8)
      have hla11 := kt10 _ _ l9
      have hcs11 := pr_imp (G := fun (p : Str × V) (q : Str × Int × Int) => p.1 = q.1 ∧ Td (upd H7 Z.n (.ins c.N Z.dx (netF { Z with la := .ref la }))) p.2 (.tuple [.int q.2.1, .int q.2.2])) (fun _ _ w => ⟨w.1, (w.2.mono (KT.of S9)).mono kt10⟩) hcs8
      have hds11 := (hds8.mono (KT.of S9)).mono kt10
      generalize upd H7 Z.n (HO.ins c.N Z.dx (netF { Z with la := .ref la })) = H8 at ho10 kk10 kt11 hkt11 hla11 hcs11 hds11 ⊢
      have en := q.n
      obtain ⟨yn, eyn⟩ : ∃ yn : NodeZ, yn = { na := cp, dx := dy, cd := D, en := ce, label := ch, above := .str z.label, row := .ref y.ra, cells := js.map fun j => (j.1, V.non), kids := [], kt := .ref kt5 } := ⟨_, rfl⟩
      obtain ⟨Z', eZ⟩ : ∃ Z' : NetZ, Z' = { Z with rows := zs ++ [{ y with cells := cs, down := ds }], nodes := Z.nodes ++ [yn], la := .ref la } := ⟨_, rfl⟩
      have hp : (objs c Z').Perm ([] ++ (Z.n, HO.ins c.N Z.dx (netF { Z with la := .ref la })) :: (Z.nd, .dK (nodesK Z.nodes ++ [(Sum.inr ch, .ref cp)])) :: (Z.rd, .dK (rowsK (zs ++ [{ y with cells := cs, down := ds }]))) :: rest) := by
        have e1 : objs c Z' = (netO c Z') ++ ((Z.nodes.flatMap (nodeO c Z.n) ++ [(cp, HO.ins c.C dy (cfl (.ref n) (.str ch) (.str z.label) (.ref y.ra) (.ref D) ce kt5)), (D, HO.dK (strK (js.map fun j => (j.1, V.non)))), (ce, HO.dK [])]) ++ (zs ++ [{ y with cells := cs, down := ds }]).flatMap (rowO c)) := by
          rw [eZ]
          unfold objs
          rw [List.flatMap_append, eyn]
          simp only [List.flatMap_cons, List.flatMap_nil, List.append_nil]
          rw [← en]
          rfl
        have e2 : netO c Z' = (Z.n, HO.ins c.N Z.dx (netF { Z with la := .ref la })) :: (Z.nd, .dK (nodesK Z.nodes ++ [(Sum.inr ch, .ref cp)])) :: (Z.rd, .dK (rowsK (zs ++ [{ y with cells := cs, down := ds }]))) :: (netO c Z).drop 3 := by
          rw [eZ]
          unfold netO nodesK
          simp only [List.map_append, List.map_cons, List.map_nil, eyn]
          rfl
        rw [e1]
        refine (perm_a).trans (List.Perm.of_eq ?_)
        rw [e2, erest]
        rfl
      have hH : NetH c H8 Z' := ho10.perm hp
      have elb : z.label = m.label := zr.label
      have hR : NetR H8 Z' (startM M rs m.label ch js) := by
        rw [eZ]
        refine ⟨?_, ?_, q.r.tw.mono kt11, ?_, ?_, q.r.done.mono kt11, pr_imp (fun _ _ w => ⟨w.1, w.2.mono kt11⟩) q.r.kept, q.r.acc, q.r.stm, q.r.qs, pr_imp (fun _ _ w => ⟨w.1, w.2.mono kt11⟩) q.r.tr, pr_imp (fun _ _ w => ⟨w.1, w.2.mono kt11⟩) q.r.an, pr_imp (fun _ _ w => ⟨w.1, w.2.mono kt11⟩) q.r.rc⟩
        · have eix2 : ixOf { Z with rows := zs ++ [{ y with cells := cs, down := ds }], nodes := Z.nodes ++ [yn], la := .ref la } = ixOf Z := eix
          rw [eix2]
          refine pr_app (pr_imp (fun _ _ w => w.mono kt11) q.r.nodes) (.cons ?_ .nil)
          rw [eyn]
          refine ⟨rfl, by rw [elb]; rfl, ?_, ?_, rfl, (fun p hp => nomatch hp), .tup hkt11 .nil⟩
          · refine ⟨y.ra, ?_, rfl⟩
            unfold ixOf
            rw [hzr]
            refine List.mem_map.mpr ⟨y, List.mem_append_right _ (.head _), ?_⟩
            rw [hy.child]
            rfl
          · show Paired _ _ (M.words.map fun w => (w, (none : Option CellM)))
            rw [← hjw, List.map_map]
            exact pr_mk (fun j => ⟨rfl, .non⟩) js
        · refine pr_app (pr_imp (fun _ _ w => w.mono kt11) hrs) (.cons ⟨hy.child, hy.above, hy.dl.mono kt11, hy.ul.mono kt11, hcs11, hy.rais.mono kt11, hy.there, hy.crashed, by show TdAll _ _ ((js.map msgD).map Msg.d); rw [List.map_map]; exact hds11, hy.up.mono kt11⟩ .nil)
        · refine .tup hla11 ?_
          have e3 : List.map (fun kv : Key × V => kV kv.1) (nodesK Z.nodes ++ [(Sum.inr ch, V.ref cp)]) = (M.nodes.map (·.label) ++ [ch]).map V.str := by
            rw [List.map_append, kV_nodes, q.labels, List.map_append]
            rfl
          rw [e3]
          have e4 : (startM M rs m.label ch js).nodes.map (fun m => PyData.str m.label) = (M.nodes.map (·.label) ++ [ch]).map PyData.str := by
            show (M.nodes ++ [node1 m.label ch M.words]).map _ = _
            rw [List.map_append, List.map_append, List.map_map]
            rfl
          rw [e4]
          exact td_strs _
        · obtain ⟨z0, r0, e5, e6⟩ := q.r.top
          exact ⟨z0, r0 ++ [yn], by show Z.nodes ++ [yn] = _; rw [e5]; rfl, e6⟩
      have w0 := q.w
      have hW : NetW (startM M rs m.label ch js) := by
        have r1c : (rs ++ [row1 m.label ch js]).map (·.child) = M.rows.map (·.child) := by
          rw [hMr, List.map_append, List.map_append]
          rfl
        refine ⟨wnd, w4, ?_, ?_, ?_, ?_, w0.kept, ?_, ?_, ?_⟩
        · show ((M.nodes ++ [node1 m.label ch M.words]).map (·.label)).Nodup
          rw [List.map_append, List.nodup_append]
          refine ⟨w0.nnd, by simp, fun a ha b hb e => ?_⟩
          have hb : b = ch := by simpa [node1] using hb
          rw [e, hb] at ha
          exact hch ha
        · show ((rs ++ [row1 m.label ch js]).map (·.child)).Nodup
          rw [r1c]
          exact w0.rnd
        · intro m2 h2
          rcases List.mem_append.mp (show m2 ∈ M.nodes ++ [node1 m.label ch M.words] from h2) with h2 | h2
          · exact w0.cell _ h2
          · rw [List.mem_singleton.mp h2]
            show (M.words.map fun w => (w, (none : Option CellM))).map (·.1) = M.words
            rw [List.map_map]
            exact List.map_id'' (fun _ => rfl) _
        · intro r2 h2
          rcases List.mem_append.mp (show r2 ∈ rs ++ [row1 m.label ch js] from h2) with h2 | h2
          · exact w0.rcell _ (by rw [hMr]; exact List.mem_append_left _ h2)
          · rw [List.mem_singleton.mp h2]
            show (js.map fun j => (j.1, j.2.1.num, j.2.2)).map (·.1) = M.words
            rw [← hjw, List.map_map]
            rfl
        · show (M.nodes ++ [node1 m.label ch M.words]).length ≤ 12
          rw [List.length_append]
          exact h12
        · show (rs ++ [row1 m.label ch js]).length ≤ 1000
          have e7 := congrArg List.length hMr
          have e8 := w0.r12
          rw [List.length_append, List.length_singleton] at e7 ⊢
          omega
        · intro m2 h2
          rcases List.mem_append.mp (show m2 ∈ M.nodes ++ [node1 m.label ch M.words] from h2) with h2 | h2
          · exact w0.kids _ h2
          · rw [List.mem_singleton.mp h2]
            exact ⟨List.nodup_nil, Nat.zero_le _⟩
      refine k H8 ⟨Z'.ps c, Z'.nx⟩ ⟨kk10, ?_, ?_⟩ ⟨Z', by rw [eZ]; exact q.n, rfl, rfl, hH, hR, hW⟩
      · intro q0 h0
        have h0 : q0 ∈ (objs c Z').map (·.1) := h0
        have h1 := (hp.map (·.1)).mem_iff.mp h0
        obtain ⟨x, hx, rfl⟩ := List.mem_map.mp h1
        have hob : ∀ x ∈ objs c { Z with rows := zs ++ [{ y with cells := cs, down := ds }] }, x.1 ∈ g.S := fun x hx => by
          have e : (objs c { Z with rows := zs ++ [{ y with cells := cs, down := ds }] }).map (·.1) = (objs c Z).map (·.1) := by
            unfold objs
            rw [hzr]
            simp [netO, rowO]
          refine hps _ ?_
          rw [← e]
          exact List.mem_map.mpr ⟨x, hx, rfl⟩
        rcases List.mem_cons.mp hx with rfl | hx
        · exact .inl (by rw [q.n]; exact pn)
        · rcases List.mem_cons.mp hx with rfl | hx
          · exact .inl (hps _ (List.mem_map.mpr ⟨_, mem_net (.tail _ (.head _)), rfl⟩))
          · rcases List.mem_cons.mp hx with rfl | hx
            · exact .inl (hps _ (List.mem_map.mpr ⟨_, mem_net (.tail _ (.tail _ (.head _))), rfl⟩))
            · rw [erest] at hx
              rcases List.mem_append.mp hx with hx | hx
              · rcases List.mem_append.mp hx with hx | hx
                · refine .inl (hob _ ?_)
                  exact .tail _ (.tail _ (.tail _ hx))
                · rw [List.mem_singleton.mp hx]
                  exact .inr hD
              · simp only [List.mem_cons, List.not_mem_nil, or_false] at hx
                rcases hx with rfl | rfl
                · exact fcp
                · exact fce
      · intro x hx
        rw [← q.nx] at hx
        show x ∈ Z'.nx
        rw [eZ]
        show x ∈ (Z.nodes ++ [yn]).map _
        rw [List.map_append]
        exact List.mem_append_left _ hx
end
end K03
set_option Elab.async false
set_option linter.all false
set_option maxRecDepth 100000
set_option maxHeartbeats 4000000
namespace K03
open PySem L2 EX PyProof.Rows LamX
open NZ
abbrev sAc : Stmt := top 42
theorem scAc : FnScope ["net", "node", "child", "pairs", "row", "key", "allowance"] ["net", "node", "child", "pairs"] (defScope sAc) := ⟨rfl, rfl, rfl, by decide +kernel, rfl, by decide +kernel, by decide +kernel⟩
theorem Went.trans {H1 H2 H3 : Hp} {g1 g2 g3 : Sg} (a : Went H1 H2 g1 g2) (b : Went H2 H3 g2 g3) : Went H1 H3 g1 g3 := by
  refine ⟨fun p o n e => b.k p o (fun z => ?_) (a.k p o n e), fun q hq => ?_, fun x hx => b.nx x (a.nx x hx)⟩
  · rcases a.s p z with h | h
    · exact n h
    · rw [h] at e
      cases e
  · rcases b.s q hq with h | h
    · exact a.s q h
    · by_cases z : q ∈ g1.S
      · exact .inl z
      · exact .inr (a.k.free z h)
theorem Went.refl (H : Hp) (g : Sg) : Went H H g g := ⟨Keeps.refl _ _, fun _ h => .inl h, fun _ h => h⟩
theorem Went.of {H H' : Hp} {g : Sg} (k : Keeps g.S H H') : Went H H' g g := ⟨k, fun _ h => .inl h, fun _ h => h⟩
theorem Went.before {H0 H H' : Hp} {g g' : Sg} (s : Same H0 H) (a : Went H H' g g') : Went H0 H' g g' := ⟨(Keeps.of s).trans a.k, fun q hq => (a.s q hq).imp id fun h => s.free h, a.nx⟩
/-- the list of pairs of a join -/
def PairsAt (H : Hp) (ps : List V) (js : Js) : Prop := Paired (fun (v : V) (j : Str × CellM × Int) => ∃ p, v = .ref p ∧ H p = some (.tup [.str j.1, .int j.2.2])) ps js
def joinM (M : NetM) (i : Nat) (m : NodeM) (ch : Str) (js : Js) : NetM := startM { M with nodes := M.nodes.set i { m with kids := m.kids ++ [ch] } } M.rows m.label ch js
def spAdd (c : Cs) : Sp := fun vs H Q _ => ∃ (n na pl : Addr) (ch : Str) (g : Sg) (M : NetM) (Z : NetZ) (i : Nat) (z : NodeZ) (m : NodeM) (ps : List V) (js : Js), vs = [.ref n, .ref na, .str ch, .ref pl] ∧
  NetQ c H n g M Z ∧ Z.nodes[i]? = some z ∧ z.na = na ∧ M.nodes[i]? = some m ∧ m.cells = (js.map fun j => (j.1, some j.2.1)) ∧ js.map (·.1) = M.words ∧ H pl = some (.lst ps) ∧ PairsAt H ps js ∧
  ch ∉ M.nodes.map (·.label) ∧ ch ∉ M.rows.map (·.child) ∧ M.nodes.length < 12 ∧ M.rows.length < 1000 ∧ m.kids.length < 1000 ∧ ∀ H' g', Went H H' g g' → NetA c H' n g' (joinM M i m ch js) → Q .non H'
section
variable {P : Program} {w : World} {K : PySem.W.Frag} {mg : Str → Option Value} {base : Heap}
theorem ok_ac {c : Cs} {f : Addr} {fd : FuncData} (F : Fun K "add_child" "add_child" sAc f fd) (B : Bn mg) (T : NetC K c.N) (TC : CacheC K c.C) (TE : EntryC K c.E) (ME : MkAt P w K mg base CX0 1 "Entry" ["self", "down_link", "up_link", "cells"] c.E (spEI K c.E)) (GSc : DefAt P w K mg base 3 "start_child" ["net", "node", "child", "row"] (spStart c)) : FnOk P w K mg base CX0 4 f fd ["net", "node", "child", "pairs"] (spAdd c) := by
  refine F.ok scAc (fun vs H Q E h => ?_) (fun cdv A outer s H vs Q E hr h => ?_)
  · obtain ⟨n, na, pl, ch, g, M, Z, i, z, m, ps, js, rfl, _⟩ := h
    rfl
  · obtain ⟨n, na, pl, ch, g, M, Z, i0, z, m, ps, js, rfl, q, hz, rfl, hm, hmc, hjw, hpl, hps, hch, hch2, h12, h1000, hk1000, k⟩ := h
    have hu := hu_of hr
    have hzm := List.mem_of_getElem? hz
    obtain ⟨m', hm', zr⟩ := pr_get q.r.nodes hz
    cases hm.symm.trans hm'
    have hn := q.at_n
    have wnd := q.w.wnd
    have jnd : (js.map (·.1)).Nodup := by rw [hjw]; exact wnd
    have j4 : js.length ≤ 4 := by
      have e := congrArg List.length hjw
      have w4 := q.w.w4
      rw [List.length_map] at e
      omega
    have elb : z.label = m.label := zr.label
    have hN := NodeH.of q.h hzm
    refine ⟨_, (pss_cons (ps_set (i := 4) scAc.nd rfl (Or.inl rfl) (pe_mkC ME (hr.mono (by decide)) (pa_cons (pe_tup (pa_cons (pe_fld (pv 1) rfl) (pa_cons (pv 2) pa_nil))) (pa_cons (pe_tup (pa_cons (pv 2) (pa_cons (pe_fld (pv 1) rfl) pa_nil))) (pa_cons pe_dnewK pa_nil)))))
        (pss_cons (ps_for PassesOwn.never rfl (pi_list (pv 3)) (pg_tup rfl (pgs_cons (pg_name (i := 5) scAc.nd rfl (Or.inl rfl)) (pgs_cons (pg_name (i := 6) scAc.nd rfl (Or.inl rfl)) pgs_nil))) (pss_one (ps_dput hu (pe_fld (pv 4) rfl) (pv 5) (pe_tup (pa_cons pe_int (pa_cons (pv 6) pa_nil))) rfl)))
        (pss_cons (ps_dput hu (pe_fld (pv 1) rfl) (pv 2) (pv 4) rfl)
        (pss_cons (ps_fld (pv 1) (pe_callTy (call_tupleD rfl) (by rfl) B.tuple (by decide +kernel) (pa_cons (pe_fld (pv 1) rfl) pa_nil)) rfl)
        (pss_cons (ps_dput hu (pe_fld (pv 0) rfl) (pv 2) (pv 4) rfl)
        (pss_one (ps_expr (pe_callD GSc (hr.mono (by decide)) (pa_cons (pv 0) (pa_cons (pv 1) (pa_cons (pv 2) (pa_cons (pv 4) pa_nil)))))))))))), ?_⟩
    -- the row
    refine ⟨_, rfl, z.na, c.C, _, _, _, rfl, hN.i, TC.cl, TC.label, rfl, _, rfl, by show 2 ≤ sizeLine; decide, fun dl hdl => ?_⟩
    have b1 := (Ks.start H).new (o := .tup [.str z.label, .str ch]) hdl
    generalize upd H dl (HO.tup [.str z.label, .str ch]) = H1 at b1 ⊢
    refine ⟨_, rfl, _, rfl, z.na, c.C, _, _, _, rfl, (b1.s _ _ hN.i), TC.cl, TC.label, rfl, by show 2 ≤ sizeLine; decide, fun ul hul => ?_⟩
    have b2 := b1.new (o := .tup [.str ch, .str z.label]) hul
    generalize upd H1 ul (HO.tup [.str ch, .str z.label]) = H2 at b2 ⊢
    refine fun cd hcd => ?_
    have b3 := b2.new (o := .dK []) hcd
    have fcd := b2.s.free hcd
    generalize upd H2 cd (HO.dK []) = H3 at b3 ⊢
    refine fun ra dy hra hdy hne => ?_
    have S34 : Same H3 (upd (upd H3 dy (.own ra)) ra (.ins c.E dy [])) := Same.trans (Same.upd hdy) (Same.upd (by rw [upd_ne (Ne.symm hne)]; exact hra))
    refine ⟨ra, dy, dl, .str z.label, [.str ch], .ref ul, .ref cd, rfl, upd_same, S34 _ _ (b3.get 2), fun H5 rt dq uq k5 ho5 hdq huq hrt => ⟨rfl, ?_⟩⟩
    have S5 := made_same hra hdy hne k5
    have b5 := b3.same S5
    have hdq3 := S34.free hdq
    have huq3 := S34.free huq
    have fra := b3.s.free hra
    have fdq := b3.s.free hdq3
    have fuq := b3.s.free huq3
    have hcd3 := b3.get 0
    have nra : ra ≠ cd := fun e => by rw [e, hcd3] at hra; cases hra
    have ndq : dq ≠ cd := fun e => by rw [e, hcd3] at hdq3; cases hdq3
    have nuq : uq ≠ cd := fun e => by rw [e, hcd3] at huq3; cases huq3
    have nd3 := ho5.nd
    simp only [List.map_cons, List.map_nil, List.nodup_cons, List.mem_cons, List.not_mem_nil, or_false, not_or, List.nodup_nil, and_true, not_false_eq_true] at nd3
    have hor : Holds H5 [(ra, .ins c.E dy (efl (.str z.label) (.ref dl) (.ref ul) (.ref cd) rt dq uq)), (cd, .dK (strK [])), (dq, .lst []), (uq, .lst [])] := by
      refine holds4 (ho5.at_ _ (.head _)) (b5.get 0) (ho5.at_ _ (.tail _ (.head _))) (ho5.at_ _ (.tail _ (.tail _ (.head _)))) ?_
      simp only [List.map_cons, List.map_nil, List.nodup_cons, List.mem_cons, List.not_mem_nil, or_false, not_or, List.nodup_nil, and_true, not_false_eq_true]
      exact ⟨⟨nra, nd3.1.1, nd3.1.2⟩, ⟨ndq.symm, nuq.symm⟩, nd3.2⟩
    have hdl5 := b5.get 2
    have hul5 := b5.get 1
    have S05 := b5.s
    refine ⟨_, rfl, pl, rfl, ⟨_, SqL.of (S05 _ _ hpl)⟩, ?_⟩
    obtain ⟨fl, efl'⟩ : ∃ fl, fl = efl (.str z.label) (.ref dl) (.ref ul) (.ref cd) rt dq uq := ⟨_, rfl⟩
    rw [← efl'] at hor
    refine for_it (walk_list (K := K) (a := pl) (xs := ps)) (fun i σ' Hh => ∃ (v5 v6 : Option V) (cv : List (Str × V)), σ' = [some (.ref n), some (.ref z.na), some (.str ch), some (.ref pl), some (.ref ra), v5, v6] ∧ Same H Hh ∧ KT H5 Hh ∧
      Holds Hh [(ra, .ins c.E dy fl), (cd, .dK (strK cv)), (dq, .lst []), (uq, .lst [])] ∧
      Paired (fun (p : Str × V) (q : Str × Int × Int) => p.1 = q.1 ∧ Td Hh p.2 (.tuple [.int q.2.1, .int q.2.2])) cv ((js.take i).map fun j => (j.1, (0 : Int), j.2.2)))
      ⟨none, none, [], rfl, S05, KT.refl _, hor, .nil⟩ (fun i σ' Hh _ w => by obtain ⟨_, _, _, _, S, _⟩ := w; exact SqL.of (S _ _ hpl)) ?_ ?_
    · rintro i x σ' Hh H8 hi ⟨v5, v6, cv, rfl, S, kt, ho, hcv⟩ ⟨rfl, hx⟩
      obtain ⟨j, hj, p, rfl, hp⟩ := pr_get hps hx
      have hra8 := ho.at_ _ (.head _)
      have hcd8 := ho.at_ _ (.tail _ (.head _))
      refine ⟨p, _, rfl, SqT.of (S _ _ hp), rfl, _, _, rfl, _, _, rfl, rfl, ?_⟩
      refine ⟨_, rfl, by show 2 ≤ sizeLine; decide, fun t ht => ?_⟩
      have S9 : Same H8 (upd H8 t (.tup [.int 0, .int j.2.2])) := Same.upd ht
      have l9 : upd H8 t (HO.tup [.int 0, .int j.2.2]) t = some (.tup [.int 0, .int j.2.2]) := upd_same
      generalize upd H8 t (HO.tup [.int 0, .int j.2.2]) = H9 at S9 l9 ⊢
      have hra9 := S9 _ _ hra8
      have hcd9 := S9 _ _ hcd8
      have ek : cv.map (·.1) = (js.map (·.1)).take i := by
        refine (pr_keys (fun _ _ w => w.1) hcv).trans ?_
        rw [List.map_map, ← List.map_take]
        rfl
      have hns : j.1 ∉ cv.map (·.1) := by
        rw [ek]
        exact nd_at jnd (by rw [List.getElem?_map, hj]; rfl)
      have hcl : cv.length ≤ 4 := by
        have e := congrArg List.length ek
        rw [List.length_map, List.length_take, List.length_map] at e
        omega
      rw [efl'] at hra9
      refine ⟨_, rfl, ra, c.E, _, _, _, rfl, hra9, TE.cl, TE.cells, rfl, _, rfl, cd, _, rfl, .inl ⟨strK cv, Sum.inr j.1, hcd9, rfl, by rw [List.length_map, sizeLine_eq]; omega, rfl⟩, ?_⟩
      rw [strK_put (v := .ref t) hns]
      have ho10 := Holds.split (l := [(ra, HO.ins c.E dy fl)]) (o' := .dK (strK (cv ++ [(j.1, V.ref t)]))) (ho.same S9)
      have kt10 : KT H9 (upd H9 cd (.dK (strK (cv ++ [(j.1, V.ref t)])))) := KT.upd fun xs z => by rw [hcd9] at z; cases z
      have S10 : Same H (upd H9 cd (.dK (strK (cv ++ [(j.1, V.ref t)])))) := EX.Same.updN (Same.trans S S9) fcd
      refine ⟨_, _, cv ++ [(j.1, V.ref t)], rfl, S10, (kt.trans (KT.of S9)).trans kt10, ho10, ?_⟩
      rw [List.take_add_one, hj, List.map_append]
      refine pr_app (pr_imp (fun _ _ w => ⟨w.1, (w.2.mono (KT.of S9)).mono kt10⟩) hcv) (.cons ⟨rfl, ?_⟩ .nil)
      exact Td.mono kt10 (.tup l9 (.cons (.int _) (.cons (.int _) .nil)))
    · rintro σ' H6 ⟨v5, v6, cv, rfl, S, ktl, ho, hcv⟩
      have elj : ps.length = js.length := pr_len hps
      rw [elj, List.take_length] at hcv
      have hN6 := q.h.same S
      have hz6 := NodeH.of hN6 hzm
      obtain ⟨zs1, z', zs2, ez, zr', hp1, hp2, hlen⟩ := pr_mid q.r.nodes hm
      have ez' : z' = z := by
        rw [ez, List.getElem?_append_right (by omega), hlen, Nat.sub_self] at hz
        exact Option.some.inj hz
      rw [ez'] at ez
      have hkid : ch ∉ z.kids.map (·.1) := fun w => by
        obtain ⟨p, hp, e⟩ := List.mem_map.mp w
        have := zr.kin p hp
        unfold ixOf at this
        obtain ⟨r, hr1, hr2⟩ := List.mem_map.mp this
        refine hch2 ?_
        rw [← q.childs, ← e, ← hr2]
        exact List.mem_map.mpr ⟨r, hr1, rfl⟩
      have hkl : z.kids.length = m.kids.length := by
        have e := congrArg List.length zr.kids
        rw [List.length_map] at e
        exact e
      refine ⟨_, rfl, _, rfl, z.na, c.C, _, _, _, rfl, hz6.i, TC.cl, TC.entries, rfl, _, rfl, z.en, _, rfl, .inl ⟨_, Sum.inr ch, hz6.en, rfl, by rw [List.length_map, sizeLine_eq]; omega, rfl⟩, ?_⟩
      rw [refK_put hkid]
      have nS : ∀ p, H p = none → p ∉ g.S := fun p hp w => by
        rw [← q.ps] at w
        obtain ⟨x, hx, e⟩ := List.mem_map.mp w
        exact q.h.ne hp x hx e
      have inS : ∀ x ∈ objs c Z, x.1 ∈ g.S := fun x hx => by
        rw [← q.ps]
        exact List.mem_map.mpr ⟨x, hx, rfl⟩
      have sen : z.en ∈ g.S := inS _ (mem_node hzm (.tail _ (.tail _ (.head _))))
      have sna : z.na ∈ g.S := inS _ (mem_node hzm (.head _))
      have srd : Z.rd ∈ g.S := inS _ (mem_net (.tail _ (.tail _ (.head _))))
      have hN7 := node_kids hN6 ez (z.kids ++ [(ch, ra)])
      have k7 : Keeps g.S H6 (upd H6 z.en (.dK (refK (z.kids ++ [(ch, ra)])))) := (Keeps.refl _ _).put sen
      have kt7 : KT H6 (upd H6 z.en (.dK (refK (z.kids ++ [(ch, ra)])))) := KT.upd fun xs w => by rw [hz6.en] at w; cases w
      generalize upd H6 z.en (HO.dK (refK (z.kids ++ [(ch, ra)]))) = H7 at hN7 k7 kt7 ⊢
      have hz7 := NodeH.of hN7 (y := { z with kids := z.kids ++ [(ch, ra)] }) (List.mem_append_right _ (.head _))
      have hz7i : H7 z.na = some (.ins c.C z.dx (nodeF Z.n z)) := hz7.i
      have hz7e : H7 z.en = some (.dK (refK (z.kids ++ [(ch, ra)]))) := hz7.en
      refine ⟨_, rfl, z.na, c.C, _, _, _, rfl, hz7i, TC.cl, TC.entries, rfl, z.en, _, rfl, .inl hz7e, fun kt hkt => ?_⟩
      have S8 : Same H7 (upd H7 kt (.tup (List.map (fun kv : Key × V => kV kv.1) (refK (z.kids ++ [(ch, ra)]))))) := Same.upd hkt
      have l8 : upd H7 kt (HO.tup (List.map (fun kv : Key × V => kV kv.1) (refK (z.kids ++ [(ch, ra)])))) kt = some (.tup (List.map (fun kv : Key × V => kV kv.1) (refK (z.kids ++ [(ch, ra)])))) := upd_same
      generalize upd H7 kt (HO.tup (List.map (fun kv : Key × V => kV kv.1) (refK (z.kids ++ [(ch, ra)])))) = H8 at S8 l8 ⊢
      refine ⟨_, rfl, z.na, c.C, z.dx, nodeF Z.n z, rfl, S8 _ _ hz7i, TC.cl, TC.kids, by show 8 < 1000; decide, ?_⟩
      rw [show putF "kids" (.ref kt) (nodeF Z.n z) = nodeF Z.n { z with kids := z.kids ++ [(ch, ra)], kt := .ref kt } from rfl]
      have hN9 := node_kt (hN7.same S8) (y := { z with kids := z.kids ++ [(ch, ra)] }) rfl (.ref kt)
      have k9 : Keeps g.S H6 (upd H8 z.na (.ins c.C z.dx (nodeF Z.n { z with kids := z.kids ++ [(ch, ra)], kt := .ref kt }))) := (k7.then S8).put sna
      have kt9 : KT H8 (upd H8 z.na (.ins c.C z.dx (nodeF Z.n { z with kids := z.kids ++ [(ch, ra)], kt := .ref kt }))) := KT.upd fun xs w => by rw [S8 _ _ hz7i] at w; cases w
      have kt69 := (kt7.trans (KT.of S8)).trans kt9
      have l9 := kt9 _ _ l8
      have hN9' : NetH c (upd H8 z.na (.ins c.C z.dx (nodeF Z.n { z with kids := z.kids ++ [(ch, ra)], kt := .ref kt }))) { Z with nodes := zs1 ++ { z with kids := z.kids ++ [(ch, ra)], kt := .ref kt } :: zs2 } := hN9
      clear hN9
      generalize upd H8 z.na (HO.ins c.C z.dx (nodeF Z.n { z with kids := z.kids ++ [(ch, ra)], kt := .ref kt })) = H9 at hN9' k9 kt69 l9 ⊢
      have hn9 : H9 Z.n = some (.ins c.N Z.dx (netF Z)) := hN9'.at_net 0
      have hrd9 : H9 Z.rd = some (.dK (rowsK Z.rows)) := hN9'.at_net 2
      have lr : Z.rows.length = M.rows.length := pr_len q.r.rows
      refine ⟨_, rfl, _, rfl, n, c.N, _, _, _, rfl, by rw [← q.n]; exact hn9, T.cl, T.f_rows, rfl, _, rfl, Z.rd, _, rfl, .inl ⟨_, Sum.inr ch, hrd9, rfl, by rw [List.length_map, sizeLine_eq]; omega, rfl⟩, ?_⟩
      obtain ⟨y, ey⟩ : ∃ y : RowZ, y = { ra := ra, dx := dy, cd := cd, dq := dq, uq := uq, child := ch, above := z.label, dl := .ref dl, ul := .ref ul, cells := cv, rais := .ref rt, there := true, crashed := false, down := [], up := [] } := ⟨_, rfl⟩
      have ey1 : y.child = ch := by rw [ey]
      have ey2 : y.ra = ra := by rw [ey]
      have erk : putK (rowsK Z.rows) (Sum.inr ch) (.ref ra) = rowsK (Z.rows ++ [y]) := by
        rw [← ey1, ← ey2]
        exact rowsK_put (by rw [ey1, q.childs]; exact hch2)
      rw [erk]
      obtain ⟨z9, ez9⟩ : ∃ z9 : NodeZ, z9 = { z with kids := z.kids ++ [(ch, ra)], kt := .ref kt } := ⟨_, rfl⟩
      rw [← ez9] at hN9'
      have hL9 : Holds H9 ([(Z.n, HO.ins c.N Z.dx (netF Z)), (Z.nd, .dK (nodesK (zs1 ++ z9 :: zs2)))] ++ (Z.rd, .dK (rowsK Z.rows)) :: ((netO c Z).drop 3 ++ ((zs1 ++ z9 :: zs2).flatMap (nodeO c Z.n) ++ Z.rows.flatMap (rowO c)))) := hN9'
      have hL10 := hL9.split (o' := .dK (rowsK (Z.rows ++ [y])))
      have k10 := k9.put (o := .dK (rowsK (Z.rows ++ [y]))) srd
      have kt10 := kt69.trans (KT.upd (o := .dK (rowsK (Z.rows ++ [y]))) fun xs w => by rw [hrd9] at w; cases w)
      have l10 := (KT.upd (o := .dK (rowsK (Z.rows ++ [y]))) fun xs w => by rw [hrd9] at w; cases w) _ _ l9
      generalize upd H9 Z.rd (HO.dK (rowsK (Z.rows ++ [y]))) = H10 at hL10 k10 kt10 l10 ⊢
      have hex : Holds H10 (rowO c y) := by
        have e : rowO c y = [(ra, .ins c.E dy fl), (cd, .dK (strK cv)), (dq, .lst []), (uq, .lst [])] := by
          rw [ey, efl']
          rfl
        rw [e]
        refine ho.keeps k10 fun x hx => ?_
        simp only [List.mem_cons, List.not_mem_nil, or_false] at hx
        rcases hx with rfl | rfl | rfl | rfl
        · exact nS _ fra
        · exact nS _ fcd
        · exact nS _ fdq
        · exact nS _ fuq
      have fex : ∀ x ∈ rowO c y, H x.1 = none := fun x hx => by
        rw [ey] at hx
        unfold rowO at hx
        simp only [List.mem_cons, List.not_mem_nil, or_false] at hx
        rcases hx with rfl | rfl | rfl | rfl
        · exact fra
        · exact fcd
        · exact fdq
        · exact fuq
      have epl : ([(Z.n, HO.ins c.N Z.dx (netF Z)), (Z.nd, .dK (nodesK (zs1 ++ z9 :: zs2)))] ++ (Z.rd, .dK (rowsK (Z.rows ++ [y]))) :: ((netO c Z).drop 3 ++ ((zs1 ++ z9 :: zs2).flatMap (nodeO c Z.n) ++ Z.rows.flatMap (rowO c)))).map (·.1) = (objs c Z).map (·.1) := by
        unfold objs
        rw [ez, ez9]
        simp [netO, nodeO]
      have hAll := hL10.join hex fun x hx x2 hx2 e => by
        have h1 : x.1 ∈ (objs c Z).map (·.1) := by
          rw [← epl]
          exact List.mem_map.mpr ⟨x, hx, rfl⟩
        obtain ⟨x3, h3, e3⟩ := List.mem_map.mp h1
        refine nS _ (fex x2 hx2) ?_
        rw [← e, ← e3]
        exact inS x3 h3
      obtain ⟨Z', eZ⟩ : ∃ Z' : NetZ, Z' = { Z with nodes := zs1 ++ z9 :: zs2, rows := Z.rows ++ [y] } := ⟨_, rfl⟩
      have hH : NetH c H10 Z' := by
        have e : objs c Z' = ([(Z.n, HO.ins c.N Z.dx (netF Z)), (Z.nd, .dK (nodesK (zs1 ++ z9 :: zs2)))] ++ (Z.rd, .dK (rowsK (Z.rows ++ [y]))) :: ((netO c Z).drop 3 ++ ((zs1 ++ z9 :: zs2).flatMap (nodeO c Z.n) ++ Z.rows.flatMap (rowO c)))) ++ rowO c y := by
          rw [eZ]
          unfold objs
          simp [netO, List.flatMap_append]
        unfold NetH
        rw [e]
        exact hAll
      obtain ⟨m9, em9⟩ : ∃ m9 : NodeM, m9 = { m with kids := m.kids ++ [ch] } := ⟨_, rfl⟩
      obtain ⟨M', eM⟩ : ∃ M' : NetM, M' = { M with nodes := M.nodes.set i0 m9, rows := M.rows ++ [row0 m.label ch js] } := ⟨_, rfl⟩
      have kt0 : KT H H10 := (KT.of S).trans kt10
      have kt5 : KT H5 H10 := ktl.trans kt10
      have eix : ixOf Z' = ixOf Z ++ [(ch, ra)] := by
        rw [eZ]
        unfold ixOf
        show (Z.rows ++ [y]).map _ = _
        rw [List.map_append, List.map_cons, List.map_nil, ey1, ey2]
      have inix : ∀ p ∈ ixOf Z, p ∈ ixOf Z' := fun p hp => by
        rw [eix]
        exact List.mem_append_left _ hp
      have nodeUp : ∀ (a : NodeZ) (b : NodeM), NodeR H (ixOf Z) a b → NodeR H10 (ixOf Z') a b := fun a b w => (w.mono kt0).more inix
      have lab9 : (M.nodes.set i0 m9).map (·.label) = M.nodes.map (·.label) := set_map_same (by rw [em9]) hm
      have hz9R : NodeR H10 (ixOf Z') z9 m9 := by
        have w := nodeUp _ _ zr
        rw [ez9, em9]
        refine ⟨w.label, w.above, w.row, w.cells, ?_, ?_, .tup l10 ?_⟩
        · show (z.kids ++ [(ch, ra)]).map (·.1) = m.kids ++ [ch]
          rw [List.map_append, zr.kids]
          rfl
        · intro p hp
          rcases List.mem_append.mp (show p ∈ z.kids ++ [(ch, ra)] from hp) with hp | hp
          · exact w.kin p hp
          · rw [List.mem_singleton.mp hp, eix]
            exact List.mem_append_right _ (.head _)
        · rw [kV_kids, List.map_append, zr.kids]
          exact td_strs _
      have hdl10 : H10 dl = some (.tup [.str m.label, .str ch]) := by
        rw [← elb]
        exact kt5 _ _ hdl5
      have hul10 : H10 ul = some (.tup [.str ch, .str m.label]) := by
        rw [← elb]
        exact kt5 _ _ hul5
      have hrt10 := kt5 _ _ hrt
      have hyR : RowR H10 y (row0 m.label ch js) := by
        rw [ey]
        refine ⟨rfl, elb, .tup hdl10 (.cons (.str _) (.cons (.str _) .nil)), .tup hul10 (.cons (.str _) (.cons (.str _) .nil)), ?_, .tup hrt10 .nil, rfl, rfl, .nil, .nil⟩
        exact pr_imp (fun _ _ w => ⟨w.1, w.2.mono kt10⟩) hcv
      have hR : NetR H10 Z' M' := by
        have w0 := q.r.mono kt0
        rw [eM]
        refine ⟨?_, ?_, ?_, ?_, ?_, ?_, ?_, ?_, ?_, ?_, ?_, ?_, ?_⟩
        · show Paired _ Z'.nodes (M.nodes.set i0 m9)
          rw [set_mid hm]
          have e : Z'.nodes = zs1 ++ z9 :: zs2 := by rw [eZ]
          rw [e]
          exact pr_app (pr_imp nodeUp hp1) (.cons hz9R (pr_imp nodeUp hp2))
        · show Paired _ Z'.rows (M.rows ++ [row0 m.label ch js])
          have e : Z'.rows = Z.rows ++ [y] := by rw [eZ]
          rw [e]
          exact pr_app w0.rows (.cons hyR .nil)
        · rw [eZ]
          exact w0.tw
        · have e : (M.nodes.set i0 m9).map (fun m => PyData.str m.label) = M.nodes.map fun m => PyData.str m.label := by
            have := congrArg (List.map PyData.str) lab9
            rw [List.map_map, List.map_map] at this
            exact this
          show Td H10 Z'.la (.tuple ((M.nodes.set i0 m9).map fun m => PyData.str m.label))
          rw [e, eZ]
          exact w0.la
        · obtain ⟨z0, r0, e5, e6⟩ := q.r.top
          rw [eZ]
          show ∃ z rest, zs1 ++ z9 :: zs2 = z :: rest ∧ Z.top = .ref z.na
          rw [ez] at e5
          cases zs1 with
          | nil =>
            cases e5
            exact ⟨z9, zs2, rfl, by rw [e6, ez9]⟩
          | cons a r =>
            cases e5
            exact ⟨z0, r ++ z9 :: zs2, rfl, e6⟩
        · rw [eZ]
          exact w0.done
        · rw [eZ]
          exact w0.kept
        · rw [eZ]
          exact w0.acc
        · rw [eZ]
          exact w0.stm
        · rw [eZ]
          exact w0.qs
        · rw [eZ]
          exact w0.tr
        · rw [eZ]
          exact w0.an
        · rw [eZ]
          exact w0.rc
      have w0 := q.w
      have hmem := List.mem_of_getElem? hm
      have hW : NetW M' := by
        rw [eM]
        refine ⟨wnd, w0.w4, ?_, ?_, ?_, ?_, w0.kept, ?_, ?_, ?_⟩
        · show ((M.nodes.set i0 m9).map (·.label)).Nodup
          rw [lab9]
          exact w0.nnd
        · show ((M.rows ++ [row0 m.label ch js]).map (·.child)).Nodup
          rw [List.map_append, List.nodup_append]
          refine ⟨w0.rnd, by simp, fun a ha b hb e => ?_⟩
          have hb : b = ch := by simpa [row0] using hb
          rw [e, hb] at ha
          exact hch2 ha
        · intro m2 h2
          rcases List.mem_or_eq_of_mem_set h2 with h2 | rfl
          · exact w0.cell _ h2
          · rw [em9]
            show m.cells.map (·.1) = M.words
            exact w0.cell _ hmem
        · intro r2 h2
          rcases List.mem_append.mp (show r2 ∈ M.rows ++ [row0 m.label ch js] from h2) with h2 | h2
          · exact w0.rcell _ h2
          · rw [List.mem_singleton.mp h2]
            show (js.map fun j => (j.1, (0 : Int), j.2.2)).map (·.1) = M.words
            rw [← hjw, List.map_map]
            rfl
        · show (M.nodes.set i0 m9).length ≤ 12
          rw [List.length_set]
          exact w0.n12
        · show (M.rows ++ [row0 m.label ch js]).length ≤ 1000
          rw [List.length_append]
          exact h1000
        · intro m2 h2
          rcases List.mem_or_eq_of_mem_set h2 with h2 | rfl
          · exact w0.kids _ h2
          · rw [em9]
            refine ⟨?_, ?_⟩
            · show (m.kids ++ [ch]).Nodup
              rw [List.nodup_append]
              refine ⟨(w0.kids _ hmem).1, by simp, fun a ha b hb e => ?_⟩
              rw [List.mem_singleton.mp hb] at e
              rw [e, ← zr.kids] at ha
              exact hkid ha
            · show (m.kids ++ [ch]).length ≤ 1000
              rw [List.length_append]
              exact hk1000
      have hnx : Z'.nx = g.nx := by
        rw [← q.nx, eZ]
        show (zs1 ++ z9 :: zs2).map _ = Z.nodes.map _
        rw [ez, ez9]
        simp
      have wt : Went H H10 g ⟨Z'.ps c, Z'.nx⟩ := by
        refine ⟨(Keeps.of S).trans k10, fun p hp => ?_, fun x hx => by rw [hnx]; exact hx⟩
        have hp : p ∈ (objs c Z').map (·.1) := hp
        have e : (objs c Z').map (·.1) = (objs c Z).map (·.1) ++ (rowO c y).map (·.1) := by
          rw [eZ]
          unfold objs
          rw [ez, ez9]
          simp [netO, nodeO, rowO]
        rw [e] at hp
        rcases List.mem_append.mp hp with hp | hp
        · obtain ⟨x, hx, rfl⟩ := List.mem_map.mp hp
          exact .inl (inS x hx)
        · obtain ⟨x, hx, rfl⟩ := List.mem_map.mp hp
          exact .inr (fex x hx)
      have hzi : Z'.nodes[i0]? = some z9 := by
        rw [eZ]
        show (zs1 ++ z9 :: zs2)[i0]? = some z9
        rw [List.getElem?_append_right (by omega), hlen, Nat.sub_self]
        rfl
      have hmi : M'.nodes[i0]? = some m9 := by
        rw [eM]
        show (M.nodes.set i0 m9)[i0]? = some m9
        obtain ⟨hl, _⟩ := List.getElem?_eq_some_iff.mp hm
        exact List.getElem?_set_self hl
      have em9l : m9.label = m.label := by rw [em9]
      refine ⟨_, rfl, _, rfl, _, rfl, _, rfl, n, z.na, ch, ⟨Z'.ps c, Z'.nx⟩, M', Z', i0, z9, m9, Z.rows, y, M.rows, js, by rw [ey2]; rfl, ⟨by rw [eZ]; exact q.n, rfl, rfl, hH, hR, hW⟩, hzi, by rw [ez9], hmi, by rw [em9]; exact hmc, by rw [eM]; exact hjw, by rw [eZ], by rw [eM, em9l], ?_, ?_, fun H' g' w a => k H' g' (wt.trans w) ?_⟩
      · rw [eM]
        show ch ∉ (M.nodes.set i0 m9).map (·.label)
        rw [lab9]
        exact hch
      · rw [eM]
        show (M.nodes.set i0 m9).length < 12
        rw [List.length_set]
        exact h12
      · rw [eM, em9l] at a
        rw [em9] at a
        exact a
end
end K03
set_option Elab.async false
set_option linter.all false
set_option maxRecDepth 100000
set_option maxHeartbeats 4000000
namespace K03
open PySem L2 EX PyProof.Rows LamX
open NZ
abbrev sJn : Stmt := inClass (top 63) 14
theorem scJn : FnScope ["self", "name", "parent", "allowances", "above", "key", "pairs", "least"] ["self", "name", "parent", "allowances"] (defScope sJn) := ⟨rfl, rfl, rfl, by decide +kernel, rfl, by decide +kernel, by decide +kernel⟩
def spWordB (K : PySem.W.Frag) : Sp := fun vs H Q _ => ∃ x : V, vs = [x] ∧ ((∃ s, x = .str s ∧ s.length ≤ sizeLine ∧ Q (.bl (isW s)) H) ∨ (StrB K H x false ∧ Q (.bl false) H))
/-- the places of the errors' classes -/
structure Xs where
  IN : Addr
  NT : Addr
  UN : Addr
  IA : Addr
  LE : Addr
  NR : Addr
  TL : Addr
def joinDeed (s u : Str) (js : Js) : PyData := .tuple [.str "join", .str s, .str u, .tuple (js.map fun j => .tuple [.str j.1, .int j.2.2])]
def joinD (M : NetM) (i : Nat) (m : NodeM) (ch : Str) (js : Js) : NetM := joinM { M with done := M.done ++ [joinDeed ch m.label js] } i m ch js
def spJoin (K : PySem.W.Frag) (c : Cs) (X : Xs) : Sp := fun vs H Q E => ∃ (n : Addr) (g : Sg) (M : NetM) (x up al : V), vs = [.ref n, x, up, al] ∧ NetA c H n g M ∧
  ((((∃ s, x = .str s ∧ s.length ≤ sizeLine ∧ isW s = false) ∨ StrB K H x false) ∧ Rais E H X.IN "given" x) ∨
  ∃ s, x = .str s ∧ isW s = true ∧
    (((s ∈ M.nodes.map (·.label) ∨ s ∈ M.rows.map (·.child)) ∧ Rais E H X.NT "node" x) ∨
    (s ∉ M.nodes.map (·.label) ∧ s ∉ M.rows.map (·.child) ∧
      ((BadOf K H (M.nodes.map (·.label)) up ∧ Rais E H X.UN "node" up) ∨
      ∃ (i : Nat) (m : NodeM), up = .str m.label ∧ M.nodes[i]? = some m ∧
        ((AllowArg K H al M.words false ∧ Rais E H X.IA "given" al) ∨
        (AllowArg K H al M.words true ∧
          ((12 ≤ M.nodes.length ∧ Rais E H X.LE "limit" (.int 12)) ∨
          (M.nodes.length < 12 ∧
            (((∃ k, (k, none) ∈ m.cells) ∧ Rais E H X.NR "node" up) ∨
            ∃ (js : Js) (d : Addr) (kvs : List (Key × V)), m.cells = (js.map fun j => (j.1, some j.2.1)) ∧ al = .ref d ∧ H d = some (.dK kvs) ∧ (∀ j ∈ js, valV kvs (Sum.inr j.1) = some (.int j.2.2)) ∧
              ((∃ (i : Nat) (j : Str × CellM × Int), js[i]? = some j ∧ (∀ j' ∈ js.take i, j'.2.1.alw ≤ j'.2.2) ∧ j.2.2 < j.2.1.alw ∧ Rais E H X.TL "least" (.int j.2.1.alw)) ∨
              ((∀ j ∈ js, j.2.1.alw ≤ j.2.2) ∧ M.rows.length < 1000 ∧ m.kids.length < 1000 ∧ M.done.length < 1000 ∧ ∀ H' g', Went H H' g g' → NetA c H' n g' (joinD M i m s js) → Q .non H')))))))))))
section
variable {P : Program} {w : World} {K : PySem.W.Frag} {mg : Str → Option Value} {base : Heap}
theorem ok_wordB {f : Addr} {fd : FuncData} (F : Fun K "is_word" "is_word" sWrd f fd) (B : Bn mg) : FnOk P w K mg base CX0 1 f fd ["obj"] (spWordB K) := by
  refine F.ok scWrd (fun vs H Q E h => ?_) (fun cdv A outer s H vs Q E hr h => ?_)
  · obtain ⟨x, rfl, _⟩ := h
    rfl
  · obtain ⟨x, rfl, hx⟩ := h
    refine ⟨_, (pss_cons (ps_if (PW.pt (pw_or (pt_not (pt_val (pe_callB call_isi (by rfl) B.isi PyProof.Rows.boot_isinstance (pa_cons (pv 0) (pa_cons (pe_bltn (v := .ty "str") (by rfl) B.str (by decide +kernel) rfl) pa_nil))))) (pw_or1 (pt_cmpR op_gt (pe_callB call_len_str (by rfl) B.len PySem.boot_len (pa_cons (pv 0) pa_nil)) (pe_glob (v := .int _) (by rfl) B.lw.choose_spec ⟨_, rfl⟩) (nomark _))))) (pss_one (ps_ret pe_bl)) pss_nil)
        (pss_one (ps_ret (pe_and (pe_m0 PySem.F.slot_str_isascii PySem.F.type_str_isascii mt_isascii (pv 0)) (pe_and (pe_m0 PySem.F.slot_str_isalpha PySem.F.type_str_isalpha mt_isalpha (pv 0)) (pe_one (pe_m0 PySem.F.slot_str_islower PySem.F.type_str_islower mt_islower (pv 0)))))))), ?_⟩
    rcases hx with ⟨x, rfl, hz, k⟩ | ⟨⟨t, ty, hk⟩, k⟩
    · refine ⟨_, rfl, _, _, _, _, true, rfl, .ty _, .base (.str _), kit_ty (by decide +kernel), _, rfl, iteF ?_⟩
      refine ⟨_, rfl, x, rfl, hz, _, _, rfl, rfl, _, rfl, ite2 (fun h => ?_) (fun h => ?_)⟩
      · unfold isW at k
        rw [h, Bool.not_true, Bool.false_and] at k
        exact k
      · unfold isW at k
        rw [show decide (8 < (x.length : Int)) = false by simpa using h, Bool.not_false, Bool.true_and] at k
        refine ⟨_, rfl, ⟨_, rfl⟩, _, rfl, rfl, trivial, _, rfl, ite2 (fun h1 => ?_) (fun h1 => ?_)⟩
        · rw [h1, Bool.true_and] at k
          refine ⟨_, rfl, ⟨_, rfl⟩, _, rfl, rfl, trivial, _, rfl, ite2 (fun h2 => ?_) (fun h2 => ?_)⟩
          · rw [h2, Bool.true_and] at k
            exact ⟨_, rfl, ⟨_, rfl⟩, _, rfl, rfl, trivial, k⟩
          · rw [show Txt.isalpha x = false by simpa using h2, Bool.false_and] at k
            exact k
        · rw [show Txt.isascii x = false by simpa using h1, Bool.false_and] at k
          exact k
    · exact ⟨_, rfl, _, _, _, _, false, rfl, .ty _, ty, hk, _, rfl, iteT k⟩
theorem ok_join {c : Cs} {X : Xs} {N f : Addr} {fd : FuncData} (F : Fun K "join" "Net.join" sJn f fd) (B : Bn mg) (T : NetC K c.N) (TC : CacheC K c.C) (mN : mg "Net" = some (.ref N)) (RC : ClX.CRead K N (.type "type")) (VC : ∃ t, ClX.CVal K N (.type "type") "MOST" (.int 12) (.int 12 t)) (XIN : XrAt P w K mg base "InvalidName" "given" X.IN) (XNT : XrAt P w K mg base "NameTaken" "node" X.NT) (XUN : XrAt P w K mg base "UnknownNode" "node" X.UN) (XIA : XrAt P w K mg base "InvalidAllowance" "given" X.IA) (XLE : XrAt P w K mg base "LimitExceeded" "limit" X.LE) (XNR : XrAt P w K mg base "NotReady" "node" X.NR) (XTL : XrAt P w K mg base "TooLow" "least" X.TL) (GWb : DefAt P w K mg base 1 "is_word" ["obj"] (spWordB K)) (GAa : DefAt P w K mg base 2 "are_allowances" ["obj", "keys"] (spAlws K)) (GAc : DefAt P w K mg base 4 "add_child" ["net", "node", "child", "pairs"] (spAdd c)) : FnOk P w K mg base (L2.CX P w) 5 f fd ["self", "name", "parent", "allowances"] (spJoin K c X) := by
  refine F.okX scJn (fun vs H Q E h => ?_) (fun cdv A outer s H vs Q E hr h => ?_)
  · obtain ⟨n, g, M, x, up, al, rfl, _⟩ := h
    rfl
  · obtain ⟨n, g, M, x, up, al, rfl, ⟨Z, q⟩, k⟩ := h
    have hu := hu_of hr
    have hn := q.at_n
    have hnd : H Z.nd = some (.dK (nodesK Z.nodes)) := q.h.at_net 1
    have hrd : H Z.rd = some (.dK (rowsK Z.rows)) := q.h.at_net 2
    refine ⟨_, (pss_cons (ps_if (pt_not (pt_val (pe_callD GWb (hr.mono (by decide)) (pa_cons (pv 1) pa_nil)))) (pss_one (ps_raiseE XIN (hr.mono (by decide)) rfl (takes_of rfl rfl rfl rfl) (pv 1))) pss_nil)
        (pss_cons (ps_if (PW.pt (pw_or (pt_cmp (pc_din hu (pv 1) (pe_fld (pv 0) rfl))) (pw_or1 (pt_cmp (pc_din hu (pv 1) (pe_fld (pv 0) rfl)))))) (pss_one (ps_raiseE XNT (hr.mono (by decide)) rfl (takes_of rfl rfl rfl rfl) (pv 1))) pss_nil)
        (pss_cons (ps_if (PW.pt (pw_or (pt_not (pt_val (pe_callB call_isi (by rfl) B.isi PyProof.Rows.boot_isinstance (pa_cons (pv 2) (pa_cons (pe_bltn (v := .ty "str") (by rfl) B.str (by decide +kernel) rfl) pa_nil))))) (pw_or1 (pt_cmp (pc_dnotin hu (pv 2) (pe_fld (pv 0) rfl)))))) (pss_one (ps_raiseE XUN (hr.mono (by decide)) rfl (takes_of rfl rfl rfl rfl) (pv 2))) pss_nil)
        (pss_cons (ps_if (pt_not (pt_val (pe_callD GAa (hr.mono (by decide)) (pa_cons (pv 3) (pa_cons (pe_fld (pv 0) rfl) pa_nil))))) (pss_one (ps_raiseE XIA (hr.mono (by decide)) rfl (takes_of rfl rfl rfl rfl) (pv 3))) pss_nil)
        (pss_cons (ps_if (pt_cmpR op_ge (pe_callB call_lenD (by rfl) B.len PySem.boot_len (pa_cons (pe_fld (pv 0) rfl) pa_nil)) (ClX.pe_cval (pe_glob (v := .ref N) (by rfl) mN rfl)) (nomark _)) (pss_one (ps_raiseE XLE (hr.mono (by decide)) rfl (takes_of rfl rfl rfl rfl) (ClX.pe_cval (pe_glob (v := .ref N) (by rfl) mN rfl)))) pss_nil)
        (pss_cons (ps_set (i := 4) scJn.nd rfl (Or.inl rfl) (pe_dget hu (pe_fld (pv 0) rfl) (pv 2) (fun _ _ => rfl)))
        (pss_cons (ps_for (passes_of rfl) rfl (pi_tup (pe_fld (pv 0) rfl)) (pg_name (i := 5) scJn.nd rfl (Or.inl rfl)) (pss_one (ps_if (pt_cmp (pc_isN (pe_dget hu (pe_fld (pv 4) rfl) (pv 5) (fun _ _ => rfl)))) (pss_one (ps_raiseE XNR (hr.mono (by decide)) rfl (takes_of rfl rfl rfl rfl) (pv 2))) pss_nil)))
        (pss_cons (ps_set (i := 6) scJn.nd rfl (Or.inl rfl) (pe_lst pa_nil))
        (pss_cons (ps_for (passes_of rfl) rfl (pi_tup (pe_fld (pv 0) rfl)) (pg_name (i := 5) scJn.nd rfl (Or.inl rfl)) (pss_cons (ps_set (i := 7) scJn.nd rfl (Or.inl rfl) (pe_ix ix_tup (pe_dget hu (pe_fld (pv 4) rfl) (pv 5) (fun _ _ => rfl)) pe_int (fun _ _ => rfl)))
        (pss_cons (ps_if (pt_cmpR op_lt (pe_dget hu (pv 3) (pv 5) (fun _ _ => rfl)) (pv 7) (nomark _)) (pss_one (ps_raiseE XTL (hr.mono (by decide)) rfl (takes_of rfl rfl rfl rfl) (pv 7))) pss_nil)
        (pss_one (ps_expr (pe_bm PySem.F.plainAttrs_list PySem.F.slot_list_append PySem.F.type_list_append mt_append (pv 6) (pa_cons (pe_tup (pa_cons (pv 5) (pa_cons (pe_dget hu (pv 3) (pv 5) (fun _ _ => rfl)) pa_nil))) pa_nil)))))))
        (pss_cons (ps_expr (pe_bm PySem.F.plainAttrs_list PySem.F.slot_list_append PySem.F.type_list_append mt_append (pe_fld (pv 0) rfl) (pa_cons (pe_tup (pa_cons pe_str (pa_cons (pv 1) (pa_cons (pv 2) (pa_cons (pe_tupleOf (by rfl) B.tuple (pv 6)) pa_nil))))) pa_nil)))
        (pss_one (ps_expr (pe_callD GAc (hr.mono (by decide)) (pa_cons (pv 0) (pa_cons (pv 4) (pa_cons (pv 1) (pa_cons (pv 6) pa_nil))))))))))))))))), ?_⟩
    rcases k with ⟨hx, kE⟩ | ⟨s, rfl, hs, k⟩
    · rcases hx with ⟨s, rfl, hl, hw⟩ | hx
      · refine ⟨_, rfl, _, rfl, .inl ⟨s, rfl, hl, _, rfl, ifT (by rw [hw]; rfl) ?_⟩⟩
        exact ⟨_, rfl, fun d H' s hd e => kE d H' s hd e⟩
      · refine ⟨_, rfl, _, rfl, .inr ⟨hx, _, rfl, iteT ?_⟩⟩
        exact ⟨_, rfl, fun d H' s hd e => kE d H' s hd e⟩
    refine ⟨_, rfl, _, rfl, .inl ⟨s, rfl, isW_len hs, _, rfl, ifF (by rw [hs]; rfl) ?_⟩⟩
    have lnodes : Z.nodes.length = M.nodes.length := pr_len q.r.nodes
    have hN1 : (valV (nodesK Z.nodes) (Sum.inr s)).isSome = decide (s ∈ M.nodes.map (·.label)) := by
      by_cases w : s ∈ M.nodes.map (·.label)
      · rw [decide_eq_true w]
        rw [← q.labels] at w
        obtain ⟨z, hz, rfl⟩ := List.mem_map.mp w
        rw [q.nodeV hz]
        rfl
      · rw [decide_eq_false w, nodesK_none (by rw [q.labels]; exact w)]
        rfl
    have hR1 : (valV (rowsK Z.rows) (Sum.inr s)).isSome = decide (s ∈ M.rows.map (·.child)) := by
      by_cases w : s ∈ M.rows.map (·.child)
      · rw [decide_eq_true w]
        rw [← q.childs] at w
        obtain ⟨z, hz, rfl⟩ := List.mem_map.mp w
        rw [q.rowV hz]
        rfl
      · rw [decide_eq_false w, rowsK_none (by rw [q.childs]; exact w)]
        rfl
    rcases k with ⟨hin, kE⟩ | ⟨hsn, hsr, k⟩
    · refine ⟨_, rfl, _, rfl, n, c.N, _, _, _, rfl, hn, T.cl, T.f_nodes, rfl, Z.nd, _, rfl, .inl ⟨_, Sum.inr s, .inl hnd, rfl, rfl⟩, _, rfl, ?_⟩
      by_cases w : s ∈ M.nodes.map (·.label)
      · refine ifT (hN1.trans (decide_eq_true w)) ?_
        exact ⟨_, rfl, fun d H' s hd e => kE d H' s hd e⟩
      · refine ifF (hN1.trans (decide_eq_false w)) ?_
        refine ⟨_, rfl, _, rfl, n, c.N, _, _, _, rfl, hn, T.cl, T.f_rows, rfl, Z.rd, _, rfl, .inl ⟨_, Sum.inr s, .inl hrd, rfl, rfl⟩, _, rfl, ?_⟩
        refine ifT (hR1.trans (decide_eq_true (hin.resolve_left w))) ?_
        exact ⟨_, rfl, fun d H' s hd e => kE d H' s hd e⟩
    refine ⟨_, rfl, _, rfl, n, c.N, _, _, _, rfl, hn, T.cl, T.f_nodes, rfl, Z.nd, _, rfl, .inl ⟨_, Sum.inr s, .inl hnd, rfl, rfl⟩, _, rfl, ?_⟩
    refine ifF (hN1.trans (decide_eq_false hsn)) ?_
    refine ⟨_, rfl, _, rfl, n, c.N, _, _, _, rfl, hn, T.cl, T.f_rows, rfl, Z.rd, _, rfl, .inl ⟨_, Sum.inr s, .inl hrd, rfl, rfl⟩, _, rfl, ?_⟩
    refine ifF (hR1.trans (decide_eq_false hsr)) ?_
    rcases k with ⟨hb, kE⟩ | ⟨i0, m, rfl, hm, k⟩
    · rcases hb with ⟨u, rfl, hu2⟩ | ⟨t, ty, hk⟩
      · refine ⟨_, rfl, _, _, _, _, true, rfl, .ty _, .base (.str _), kit_ty (by decide +kernel), _, rfl, iteF ?_⟩
        refine ⟨_, rfl, _, rfl, n, c.N, _, _, _, rfl, hn, T.cl, T.f_nodes, rfl, Z.nd, _, rfl, .inl ⟨_, Sum.inr u, .inl hnd, rfl, rfl⟩, _, rfl, ?_⟩
        refine ifT (by rw [nodesK_none (by rw [q.labels]; exact hu2)]; rfl) ?_
        exact ⟨_, rfl, fun d H' s hd e => kE d H' s hd e⟩
      · refine ⟨_, rfl, _, _, _, _, false, rfl, .ty _, ty, hk, _, rfl, iteT ?_⟩
        exact ⟨_, rfl, fun d H' s hd e => kE d H' s hd e⟩
    obtain ⟨z, hz, zr⟩ := pr_get' q.r.nodes hm
    have hzm := List.mem_of_getElem? hz
    have hzv := q.nodeV hzm
    rw [show z.label = m.label from zr.label] at hzv
    obtain ⟨tw, xs, etw, htw, hxs⟩ := td_tup q.r.tw
    rw [td_strsV hxs] at htw
    have w4 := q.w.w4
    refine ⟨_, rfl, _, _, _, _, true, rfl, .ty _, .base (.str _), kit_ty (by decide +kernel), _, rfl, iteF ?_⟩
    refine ⟨_, rfl, _, rfl, n, c.N, _, _, _, rfl, hn, T.cl, T.f_nodes, rfl, Z.nd, _, rfl, .inl ⟨_, Sum.inr m.label, .inl hnd, rfl, rfl⟩, _, rfl, ?_⟩
    refine ifF (by rw [hzv]; rfl) ?_
    rcases k with ⟨hal, kE⟩ | ⟨hal, k⟩
    · refine ⟨_, rfl, _, rfl, n, c.N, _, _, _, rfl, hn, T.cl, T.f_words, rfl, al, tw, M.words, false, by rw [← etw]; rfl, htw, w4, hal, _, rfl, iteT ?_⟩
      exact ⟨_, rfl, fun d H' s hd e => kE d H' s hd e⟩
    refine ⟨_, rfl, _, rfl, n, c.N, _, _, _, rfl, hn, T.cl, T.f_words, rfl, al, tw, M.words, true, by rw [← etw]; rfl, htw, w4, hal, _, rfl, iteF ?_⟩
    obtain ⟨tv, cv⟩ := VC
    have elen : ((nodesK Z.nodes).length : Nat) = M.nodes.length := by rw [List.length_map, lnodes]
    refine ⟨_, rfl, n, c.N, _, _, _, rfl, hn, T.cl, T.f_nodes, rfl, Z.nd, _, rfl, hnd, N, _, _, _, rfl, RC, cv, _, _, rfl, rfl, _, rfl, ?_⟩
    rw [elen]
    rcases k with ⟨h12, kE⟩ | ⟨h12, k⟩
    · refine ifT (decide_eq_true (by omega)) ?_
      exact ⟨N, _, _, _, rfl, RC, cv, fun d H' s hd e => kE d H' s hd e⟩
    refine ifF (decide_eq_false (by omega)) ?_
    have hgu : DGet H Z.nd (.str m.label) (some (.ref z.na)) := .inl ⟨_, Sum.inr m.label, .inl hnd, rfl, hzv.symm⟩
    refine ⟨_, rfl, n, c.N, _, _, _, rfl, hn, T.cl, T.f_nodes, rfl, _, rfl, Z.nd, _, rfl, hgu, ?_⟩
    have hN := NodeH.of q.h hzm
    have mc : m.cells.map (·.1) = M.words := q.w.cell _ (List.mem_of_getElem? hm)
    have zk : z.cells.map (·.1) = M.words := (pr_keys (fun _ _ w => w.1) zr.cells).trans mc
    have wnd := q.w.wnd
    have kN : ∀ k0, (k0, none) ∈ m.cells → Rais E H X.NR "node" (.str m.label) := by
      rcases k with ⟨_, kE⟩ | ⟨js, d, kvs, hmc, _⟩
      · exact fun _ _ => kE
      · intro k0 h0
        rw [hmc] at h0
        obtain ⟨j, _, e⟩ := List.mem_map.mp h0
        cases e
    refine ⟨_, rfl, n, c.N, _, _, _, rfl, hn, T.cl, T.f_words, rfl, tw, etw, ⟨_, SqT.of htw⟩, ?_⟩
    refine for_it (walk_tup (K := K) (a := tw) (xs := strV M.words)) (fun i σ' Hh => ∃ v5, σ' = [some (.ref n), some (.str s), some (.str m.label), some al, some (.ref z.na), v5, none, none] ∧ Hh = H ∧ ∀ p ∈ m.cells.take i, p.2 ≠ none) ⟨none, rfl, rfl, fun p hp => nomatch hp⟩ (fun i σ' Hh _ w => by obtain ⟨_, _, e, _⟩ := w; rw [e]; exact SqT.of htw) ?_ ?_
    · rintro i x σ' H1 H2 hi ⟨v5, rfl, e1, hall⟩ ⟨e2, hx⟩
      obtain ⟨s', rfl, hs'⟩ := strV_get hx
      have e3 : H2 = H := by first | exact e2.trans e1 | exact e2.symm.trans e1
      subst e3
      rw [← mc, List.getElem?_map] at hs'
      obtain ⟨⟨k0, o⟩, ho, rfl⟩ := Option.map_eq_some_iff.mp hs'
      obtain ⟨⟨p1a, p1b⟩, hp1, ep, hp2⟩ := pr_get' zr.cells ho
      cases ep
      have hv := strK_val (by rw [zk]; exact wnd) (List.mem_of_getElem? hp1)
      have hg1 : DGet H2 z.cd (.str k0) (some p1b) := .inl ⟨strK z.cells, Sum.inr k0, .inl hN.cd, rfl, hv.symm⟩
      refine ⟨_, rfl, z.na, c.C, _, _, _, rfl, hN.i, TC.cl, TC.cells, rfl, _, rfl, z.cd, _, rfl, hg1, ?_⟩
      refine ⟨_, rfl, ?_⟩
      cases o with
      | none =>
        cases hp2
        refine ifT (decide_eq_true rfl) ?_
        have kE := kN k0 (List.mem_of_getElem? ho)
        exact ⟨_, rfl, fun d H' s hd e => kE d H' s hd e⟩
      | some cm =>
        obtain ⟨t, qd, av, et, _⟩ := td_cell hp2
        cases et
        refine ifF isNone ⟨_, rfl, rfl, fun p hp => ?_⟩
        rw [List.take_add_one, ho] at hp
        rcases List.mem_append.mp hp with hp | hp
        · exact hall p hp
        · rw [show p = (k0, some cm) by simpa using hp]
          exact fun w => nomatch w
    rintro σ' H1 ⟨v5, rfl, rfl, hall⟩
    have emc : (strV M.words).length = m.cells.length := by rw [List.length_map, ← mc, List.length_map]
    rw [emc, List.take_length] at hall
    rcases k with ⟨⟨k0, h0⟩, _⟩ | ⟨js, d, kvs, hmc, rfl, hd, hkv, k⟩
    · exact absurd rfl (hall _ h0)
    have hjw : js.map (·.1) = M.words := by
      rw [← mc, hmc, List.map_map]
      rfl
    have elj : (strV M.words).length = js.length := by rw [List.length_map, ← hjw, List.length_map]
    have jnd : (js.map (·.1)).Nodup := by rw [hjw]; exact wnd
    have j4 : js.length ≤ 4 := by
      have e := congrArg List.length hjw
      rw [List.length_map] at e
      omega
    have kT : ∀ (i : Nat) (j : Str × CellM × Int), js[i]? = some j → (∀ j' ∈ js.take i, j'.2.1.alw ≤ j'.2.2) → j.2.2 < j.2.1.alw → Rais E H1 X.TL "least" (.int j.2.1.alw) := by
      intro i j hj hb hl
      rcases k with ⟨i1, j1, hj1, hb1, hl1, kE⟩ | ⟨hall, _⟩
      · have e : i = i1 := by
          rcases Nat.lt_trichotomy i i1 with w | w | w
          · have hm1 : j ∈ js.take i1 := List.mem_iff_getElem?.mpr ⟨i, by rw [List.getElem?_take_of_lt w]; exact hj⟩
            have := hb1 j hm1
            omega
          · exact w
          · have hm1 : j1 ∈ js.take i := List.mem_iff_getElem?.mpr ⟨i1, by rw [List.getElem?_take_of_lt w]; exact hj1⟩
            have := hb j1 hm1
            omega
        subst e
        cases hj.symm.trans hj1
        exact kE
      · have := hall j (List.mem_of_getElem? hj)
        omega
    refine ⟨by show 0 ≤ sizeLine; decide, fun pl hpl => ?_⟩
    refine ⟨_, rfl, n, c.N, _, _, _, rfl, (Same.upd hpl) _ _ hn, T.cl, T.f_words, rfl, tw, etw, ⟨_, SqT.of ((Same.upd hpl) _ _ htw)⟩, ?_⟩
    refine for_it (walk_tup (K := K) (a := tw) (xs := strV M.words)) (fun i σ' Hh => ∃ (v5 v7 : Option V) (ps : List V), σ' = [some (.ref n), some (.str s), some (.str m.label), some (.ref d), some (.ref z.na), v5, some (.ref pl), v7] ∧ Same H1 Hh ∧ Hh pl = some (.lst ps) ∧ PairsAt Hh ps (js.take i) ∧ ∀ j' ∈ js.take i, j'.2.1.alw ≤ j'.2.2)
      ⟨v5, none, [], rfl, Same.upd hpl, upd_same, .nil, fun p hp => nomatch hp⟩ (fun i σ' Hh _ w => by obtain ⟨_, _, _, _, S, _⟩ := w; exact SqT.of (S _ _ htw)) ?_ ?_
    · rintro i x σ' H2 H3 hi ⟨v5, v7, ps, rfl, S, lp, hps, hall2⟩ ⟨rfl, hx⟩
      obtain ⟨s', rfl, hs'⟩ := strV_get hx
      rw [← hjw, List.getElem?_map] at hs'
      obtain ⟨j, hj, rfl⟩ := Option.map_eq_some_iff.mp hs'
      have hcell : m.cells[i]? = some (j.1, some j.2.1) := by rw [hmc, List.getElem?_map, hj]; rfl
      obtain ⟨⟨p1a, p1b⟩, hp1, ep, hp2⟩ := pr_get' zr.cells hcell
      cases ep
      obtain ⟨t, qd, av, et, ht, _⟩ := td_cell hp2
      cases et
      have hv := strK_val (by rw [zk]; exact wnd) (List.mem_of_getElem? hp1)
      have hg1 : DGet H3 z.cd (.str j.1) (some (.ref t)) := .inl ⟨strK z.cells, Sum.inr j.1, .inl (S _ _ hN.cd), rfl, hv.symm⟩
      have hg2 : DGet H3 d (.str j.1) (some (.int j.2.2)) := .inl ⟨kvs, Sum.inr j.1, .inl (S _ _ hd), rfl, (hkv j (List.mem_of_getElem? hj)).symm⟩
      refine ⟨_, rfl, z.na, c.C, _, _, _, rfl, S _ _ hN.i, TC.cl, TC.cells, rfl, _, rfl, z.cd, _, rfl, hg1, t, _, _, _, rfl, rfl, SqT.of (S _ _ ht), atI_nat (j := 1) rfl, ?_⟩
      refine ⟨_, rfl, _, rfl, d, _, rfl, hg2, _, rfl, _, _, rfl, rfl, _, rfl, ite2 (fun hlt => ?_) (fun hlt => ?_)⟩
      · have kE := kT i j hj hall2 (by simpa using hlt)
        exact ⟨_, rfl, fun d H' s hd e => kE d H' (Same.trans S s) (S.free hd) e⟩
      have hle : j.2.1.alw ≤ j.2.2 := by simpa using hlt
      refine ⟨_, rfl, .inl ⟨rfl, _, SqL.of lp⟩, _, rfl, _, rfl, _, rfl, d, _, rfl, hg2, by show 2 ≤ sizeLine; decide, fun p hp => ?_⟩
      have S4 : Same H3 (upd H3 p (.tup [.str j.1, .int j.2.2])) := Same.upd hp
      have l4 : upd H3 p (HO.tup [.str j.1, .int j.2.2]) p = some (.tup [.str j.1, .int j.2.2]) := upd_same
      generalize upd H3 p (HO.tup [.str j.1, .int j.2.2]) = H4 at S4 l4 ⊢
      have lp4 := S4 _ _ lp
      have pll : ps.length < sizeLine := by
        have e := pr_len hps
        rw [List.length_take] at e
        rw [sizeLine_eq]
        omega
      refine ⟨pl, _, _, rfl, rfl, lp4, pll, ?_⟩
      have kt5 : KT H4 (upd H4 pl (.lst (ps ++ [.ref p]))) := KT.upd fun xs w => by rw [lp4] at w; cases w
      have S5 : Same H1 (upd H4 pl (.lst (ps ++ [.ref p]))) := EX.Same.updN (Same.trans S S4) hpl
      refine ⟨_, _, ps ++ [.ref p], rfl, S5, upd_same, ?_, ?_⟩
      · rw [List.take_add_one, hj]
        exact pr_app (pr_imp (fun _ _ w => by obtain ⟨p, e, h⟩ := w; exact ⟨p, e, kt5 _ _ (S4 _ _ h)⟩) hps) (.cons ⟨p, rfl, kt5 _ _ l4⟩ .nil)
      · intro j' hj'
        rw [List.take_add_one, hj] at hj'
        rcases List.mem_append.mp hj' with w | w
        · exact hall2 j' w
        · rw [show j' = j by simpa using w]
          exact hle
    rintro σ' H2 ⟨v5, v7, ps, rfl, S, lp, hps, hall2⟩
    rw [elj, List.take_length] at hps hall2
    rcases k with ⟨i1, j1, hj1, hb1, hl1, _⟩ | ⟨_, h1000, hk1000, hd1000, k⟩
    · have := hall2 j1 (List.mem_of_getElem? hj1)
      omega
    have hdn : H1 Z.dn = some (.lst Z.done) := q.h.at_net 3
    have hdl : Z.done.length = M.done.length := q.r.done.length
    have npl : pl ≠ Z.dn := (ne_by hdn hpl).symm
    refine ⟨_, rfl, n, c.N, _, _, _, rfl, S _ _ hn, T.cl, T.f_done, rfl, .inl ⟨rfl, _, SqL.of (S _ _ hdn)⟩, ?_⟩
    refine ⟨_, rfl, _, rfl, _, rfl, k_tup2 (.inl (SqL.of lp)) fun q0 H3 S3 hq0 => ⟨by show 4 ≤ sizeLine; decide, fun p hp => ?_⟩⟩
    have S4 : Same H3 (upd H3 p (.tup [.str "join", .str s, .str m.label, .ref q0])) := Same.upd hp
    have l4 : upd H3 p (HO.tup [.str "join", .str s, .str m.label, .ref q0]) p = some (.tup [.str "join", .str s, .str m.label, .ref q0]) := upd_same
    generalize upd H3 p (HO.tup [.str "join", .str s, .str m.label, .ref q0]) = H4 at S4 l4 ⊢
    have S24 := Same.trans S3 S4
    have S14 := Same.trans S S24
    refine ⟨Z.dn, _, _, rfl, rfl, S14 _ _ hdn, by rw [hdl, sizeLine_eq]; omega, ?_⟩
    have kt5 : KT H4 (upd H4 Z.dn (.lst (Z.done ++ [.ref p]))) := KT.upd fun xs w => by rw [S14 _ _ hdn] at w; cases w
    have q4 := q.mono S14
    have hH : NetH c (upd H4 Z.dn (.lst (Z.done ++ [.ref p]))) { Z with done := Z.done ++ [.ref p] } := q4.h.put_net (a := [(Z.n, .ins c.N Z.dx (netF Z)), (Z.nd, .dK (nodesK Z.nodes)), (Z.rd, .dK (rowsK Z.rows))]) (b := (netO c Z).drop 4) rfl rfl rfl rfl
    have sdn : Z.dn ∈ g.S := by
      rw [← q.ps]
      exact List.mem_map.mpr ⟨_, mem_net (.tail _ (.tail _ (.tail _ (.head _)))), rfl⟩
    have k5 : Keeps g.S H1 (upd H4 Z.dn (.lst (Z.done ++ [.ref p]))) := (Keeps.of S14).put sdn
    have lp5 : upd H4 Z.dn (.lst (Z.done ++ [.ref p])) pl = some (.lst ps) := (upd_ne npl).trans (S24 _ _ lp)
    have l5 := kt5 _ _ l4
    have l5' := kt5 _ _ (S4 _ _ hq0)
    have kt25 : KT H2 (upd H4 Z.dn (.lst (Z.done ++ [.ref p]))) := (KT.of S24).trans kt5
    have q5r := q4.r.mono kt5
    generalize upd H4 Z.dn (HO.lst (Z.done ++ [.ref p])) = H5 at hH k5 lp5 l5 l5' kt25 q5r ⊢
    have hps5 : PairsAt H5 ps js := pr_imp (fun _ _ w => by obtain ⟨p, e, h⟩ := w; exact ⟨p, e, kt25 _ _ h⟩) hps
    have hdeed : Td H5 (.ref p) (joinDeed s m.label js) := by
      refine .tup l5 (.cons (.str _) (.cons (.str _) (.cons (.str _) (.cons (.tup l5' ?_) .nil))))
      have : ∀ {ps : List V} {js : Js}, PairsAt H5 ps js → TdAll H5 ps (js.map fun j => .tuple [.str j.1, .int j.2.2]) := by
        intro ps js h
        induction h with
        | nil => exact .nil
        | cons h t ih =>
          obtain ⟨p, rfl, h⟩ := h
          exact .cons (.tup h (.cons (.str _) (.cons (.int _) .nil))) ih
      exact this hps5
    have hR : NetR H5 { Z with done := Z.done ++ [.ref p] } { M with done := M.done ++ [joinDeed s m.label js] } := ⟨q5r.nodes, q5r.rows, q5r.tw, q5r.la, q5r.top, q5r.done.append (.cons hdeed .nil), q5r.kept, q5r.acc, q5r.stm, q5r.qs, q5r.tr, q5r.an, q5r.rc⟩
    have w0 := q.w
    have hW : NetW { M with done := M.done ++ [joinDeed s m.label js] } := ⟨w0.wnd, w0.w4, w0.nnd, w0.rnd, w0.cell, w0.rcell, w0.kept, w0.n12, w0.r12, w0.kids⟩
    exact ⟨_, rfl, _, rfl, _, rfl, _, rfl, n, z.na, pl, s, g, _, { Z with done := Z.done ++ [.ref p] }, i0, z, m, ps, js, rfl, ⟨q.n, q.ps, q.nx, hH, hR, hW⟩, hz, rfl, hm, hmc, hjw, lp5, hps5, hsn, hsr, h12, h1000, hk1000, fun H' g' w a => k H' g' ((Went.of k5).trans w) a⟩
end
end K03
set_option Elab.async false
set_option linter.all false
set_option maxRecDepth 100000
set_option maxHeartbeats 4000000
namespace K03
open PySem L2 EX PyProof.Rows LamX
open NZ
abbrev sSd : Stmt := top 35
theorem scSd : FnScope ["node", "message", "row"] ["node", "message"] (defScope sSd) := ⟨rfl, rfl, rfl, by decide +kernel, rfl, by decide +kernel, by decide +kernel⟩
abbrev sAp : Stmt := top 36
theorem scAp : FnScope ["net", "key", "value", "top", "number", "row", "confirmed", "granted"] ["net", "key", "value"] (defScope sAp) := ⟨rfl, rfl, rfl, by decide +kernel, rfl, by decide +kernel, by decide +kernel⟩
def sendM (M : NetM) (ks : List Str) (d : Msg) : NetM := { M with rows := M.rows.map (sendR ks d) }
def spSend (c : Cs) : Sp := fun vs H Q _ => ∃ (na : Addr) (msg : V) (n : Addr) (g : Sg) (M : NetM) (Z : NetZ) (i : Nat) (z : NodeZ) (m : NodeM) (d : Msg), vs = [.ref na, msg] ∧ NetQ c H n g M Z ∧ Z.nodes[i]? = some z ∧ z.na = na ∧ M.nodes[i]? = some m ∧ Td H msg d.d ∧ (∀ r ∈ M.rows, r.down.length < 1000) ∧
  ∀ H', Keeps g.S H H' → NetA c H' n g (sendM M m.kids d) → Q .non H'
section
variable {P : Program} {w : World} {K : PySem.W.Frag} {mg : Str → Option Value} {base : Heap}
theorem ok_sd {c : Cs} {f : Addr} {fd : FuncData} (F : Fun K "send_to_children" "send_to_children" sSd f fd) (TC : CacheC K c.C) (TE : EntryC K c.E) : FnOk P w K mg base CX0 1 f fd ["node", "message"] (spSend c) := by
  refine F.ok scSd (fun vs H Q E h => ?_) (fun cdv A outer s H vs Q E hr h => ?_)
  · obtain ⟨na, msg, n, g, M, Z, i, z, m, d, rfl, _⟩ := h
    rfl
  · obtain ⟨na, msg, n, g, M, Z, i0, z, m, d, rfl, q, hz, rfl, hm, hmsg, hlen, k⟩ := h
    have hzm := List.mem_of_getElem? hz
    obtain ⟨m', hm', zr⟩ := pr_get q.r.nodes hz
    cases hm.symm.trans hm'
    have hN := NodeH.of q.h hzm
    have nt := q.notup
    have hkn := (q.w.kids _ (List.mem_of_getElem? hm)).1
    refine ⟨_, (pss_one (ps_lock (ps_for PassesOwn.never rfl (pi_values (pe_fld (pv 0) rfl)) (pg_name (i := 2) scSd.nd rfl (Or.inl rfl)) (pss_one (ps_if (pt_val (pe_fld (pv 2) rfl)) (pss_one (ps_expr (pe_bm PySem.F.plainAttrs_list PySem.F.slot_list_append PySem.F.type_list_append mt_append (pe_fld (pv 2) rfl) (pa_cons (pv 1) pa_nil)))) pss_nil))))), ?_⟩
    have hen := hN.en
    refine ⟨z.en, .dK (refK z.kids), hen, trivial, fun od => ?_⟩
    have nna : z.na ≠ z.en := fun e => by have := hN.i; rw [e, hen] at this; cases this
    have l3 : upd H z.en (.frz od (.dK (refK z.kids))) z.en = some (.frz od (.dK (refK z.kids))) := upd_same
    have li : upd H z.en (.frz od (.dK (refK z.kids))) z.na = some (.ins c.C z.dx (nodeF Z.n z)) := by rw [upd_ne nna]; exact hN.i
    have eU : upd (upd H z.en (.frz od (.dK (refK z.kids)))) z.en (.dK (refK z.kids)) = H := by
      rw [EX.upd_upd]
      funext x
      by_cases e : x = z.en
      · rw [e, upd_same, hen]
      · rw [upd_ne e]
    generalize upd H z.en (HO.frz od (.dK (refK z.kids))) = L at l3 li eU ⊢
    refine ⟨_, rfl, z.na, c.C, _, _, _, rfl, li, TC.cl, TC.entries, rfl, z.en, od, _, rfl, l3, ?_⟩
    refine for_it (walk_values (d := z.en) (o := od) (kvs := refK z.kids)) (fun i σ' Hh => ∃ (v : Option V) (rs : List RowZ), σ' = [some (.ref z.na), some msg, v] ∧ Hh z.en = some (.frz od (.dK (refK z.kids))) ∧ NetH c (upd Hh z.en (.dK (refK z.kids))) { Z with rows := rs } ∧ rs.map (fun r => (r.child, r.ra)) = ixOf Z ∧ Paired (RowR (upd Hh z.en (.dK (refK z.kids)))) rs (M.rows.map (sendR (m.kids.take i) d)) ∧ Keeps g.S H (upd Hh z.en (.dK (refK z.kids))) ∧ ({ Z with rows := rs } : NetZ).ps c = g.S)
      ⟨none, Z.rows, rfl, l3, by rw [eU]; exact q.h, rfl, ?_, by rw [eU]; exact Keeps.refl _ _, q.ps⟩ (fun i σ' Hh _ w => by obtain ⟨_, _, _, e, _⟩ := w; exact e) ?_ ?_
    · rw [eU, List.take_zero]
      have e : M.rows.map (sendR [] d) = M.rows := by
        conv => rhs; rw [← List.map_id M.rows]
        exact List.map_congr_left fun r _ => sendR_out (by simp)
      rw [e]
      exact q.r.rows
    · rintro i x σ' H1 H2 hi ⟨v, rs, rfl, lz, hH, eix, hrs, kk, eps⟩ ⟨rfl, kk0, hx⟩
      have hx : (refK z.kids)[i]? = some (kk0, x) := hx
      rw [List.getElem?_map] at hx
      obtain ⟨⟨ch, ra⟩, hki, e⟩ := Option.map_eq_some_iff.mp hx
      cases e
      have hmk : m.kids[i]? = some ch := by rw [← zr.kids, List.getElem?_map, hki]; rfl
      have hin := zr.kin _ (List.mem_of_getElem? hki)
      rw [← eix] at hin
      obtain ⟨y, hy, e⟩ := List.mem_map.mp hin
      cases e
      obtain ⟨j, hj⟩ := List.mem_iff_getElem?.mp hy
      obtain ⟨r', hr', hyr⟩ := pr_get hrs hj
      rw [List.getElem?_map] at hr'
      obtain ⟨r, hr, er⟩ := Option.map_eq_some_iff.mp hr'
      have hrc : r.child = y.child := by rw [hyr.child, ← er, sendR_child]
      have e0 : sendR (m.kids.take i) d r = r := sendR_out (by rw [hrc]; exact nd_at hkn hmk)
      rw [e0] at er
      subst er
      have hRH := RowH.of hH (y := y) hy
      have nra : y.ra ≠ z.en := fun e => by have := hRH.i; rw [e, upd_same] at this; cases this
      have ndq : y.dq ≠ z.en := fun e => by have := hRH.dq; rw [e, upd_same] at this; cases this
      have hri : H2 y.ra = some (.ins c.E y.dx (rowF y)) := by have := hRH.i; rw [upd_ne nra] at this; exact this
      have hrq : H2 y.dq = some (.lst y.down) := by have := hRH.dq; rw [upd_ne ndq] at this; exact this
      have hst := send_step (d := d) q.w.rnd (by rw [hrc]; exact hmk) hkn hr
      refine ⟨_, rfl, y.ra, c.E, _, _, _, rfl, hri, TE.cl, TE.there, rfl, _, rfl, ?_⟩
      cases hth : r.there with
      | false =>
        refine ifF (hyr.there.trans hth) ⟨_, rs, rfl, lz, hH, eix, ?_, kk, eps⟩
        rw [hst, hth]
        rw [if_neg Bool.false_ne_true]
        have e5 : (M.rows.map (sendR (m.kids.take i) d)).set j r = M.rows.map (sendR (m.kids.take i) d) := by
          refine List.ext_getElem? fun a => ?_
          rw [List.getElem?_set]
          by_cases h : j = a
          · subst h
            obtain ⟨hl, _⟩ := List.getElem?_eq_some_iff.mp hr
            rw [if_pos rfl, List.length_map, if_pos hl, List.getElem?_map, hr]
            show some r = some (sendR _ d r)
            rw [e0]
          · rw [if_neg h]
        rw [e5]
        exact hrs
      | true =>
        refine ifT (hyr.there.trans hth) ?_
        have hdl : y.down.length < sizeLine := by
          rw [hyr.down.length, List.length_map, sizeLine_eq]
          have := hlen r (List.mem_of_getElem? hr)
          omega
        refine ⟨_, rfl, y.ra, c.E, _, _, _, rfl, hri, TE.cl, TE.down, rfl, .inl ⟨rfl, _, SqL.of hrq⟩, _, rfl, y.dq, _, _, rfl, rfl, hrq, hdl, ?_⟩
        have esp : rs = rs.take j ++ y :: rs.drop (j + 1) := by
          have := set_mid (b := y) hj
          rw [← this]
          refine List.ext_getElem? fun a => ?_
          rw [List.getElem?_set]
          by_cases h : j = a
          · subst h
            obtain ⟨hl, _⟩ := List.getElem?_eq_some_iff.mp hj
            rw [if_pos rfl, if_pos hl, hj]
          · rw [if_neg h]
        have hH2 := row_down hH (xs := rs.take j) (ys := rs.drop (j + 1)) (y := y) esp (y.down ++ [msg])
        have hH3 : NetH c (upd (upd H2 z.en (.dK (refK z.kids))) y.dq (.lst (y.down ++ [msg]))) { Z with rows := rs.take j ++ { y with down := y.down ++ [msg] } :: rs.drop (j + 1) } := hH2
        rw [← set_mid hj, ← upd_swap ndq] at hH3
        have hmem : y.dq ∈ g.S := by
          rw [← eps]
          exact List.mem_map.mpr ⟨_, mem_row (z := { Z with rows := rs }) hy (.tail _ (.tail _ (.head _))), rfl⟩
        have kk3 := kk.put (o := .lst (y.down ++ [msg])) hmem
        have kt3 : KT (upd H2 z.en (.dK (refK z.kids))) (upd (upd H2 z.en (.dK (refK z.kids))) y.dq (.lst (y.down ++ [msg]))) := KT.upd fun xs w => by rw [hRH.dq] at w; cases w
        rw [← upd_swap ndq] at kk3 kt3
        have ktm := KT.keeps kk3 nt
        refine ⟨_, rs.set j { y with down := y.down ++ [msg] }, rfl, by rw [upd_ne ndq.symm]; exact lz, hH3, ?_, ?_, kk3, ?_⟩
        · rw [← eix]
          exact set_map_same (a := y) (b := { y with down := y.down ++ [msg] }) rfl hj
        · rw [hst, hth, if_pos rfl]
          refine pr_set (pr_imp (fun _ _ w => w.mono kt3) hrs) ?_
          have w := hyr.mono kt3
          exact ⟨w.child, w.above, w.dl, w.ul, w.cells, w.rais, w.there.trans hth, w.crashed, by rw [List.map_append]; exact w.down.append (.cons (hmsg.mono ktm) .nil), w.up⟩
        · rw [← eps]
          unfold NetZ.ps objs
          have e6 : (rs.set j { y with down := y.down ++ [msg] }).flatMap (fun r => (rowO c r).map (·.1)) = rs.flatMap fun r => (rowO c r).map (·.1) := by
            rw [List.flatMap_def, List.flatMap_def]
            rw [set_map_same (a := y) (b := { y with down := y.down ++ [msg] }) rfl hj]
          simp only [List.map_append, List.map_flatMap, e6]
          rfl
    · rintro σ' H1 ⟨v, rs, rfl, lz, hH, eix, hrs, kk, eps⟩
      refine ⟨lz, ?_⟩
      have el : (refK z.kids).length = m.kids.length := by rw [List.length_map, ← zr.kids, List.length_map]
      rw [el, List.take_length] at hrs
      have kt := KT.keeps kk nt
      refine k _ kk ⟨{ Z with rows := rs }, q.n, eps, q.nx, hH, ?_, ?_⟩
      · have w := q.r.mono kt
        have e : ixOf { Z with rows := rs } = ixOf Z := eix
        refine ⟨?_, hrs, w.tw, w.la, w.top, w.done, w.kept, w.acc, w.stm, w.qs, w.tr, w.an, w.rc⟩
        rw [e]
        exact w.nodes
      · have w0 := q.w
        refine ⟨w0.wnd, w0.w4, w0.nnd, ?_, w0.cell, ?_, w0.kept, w0.n12, ?_, w0.kids⟩
        · show ((M.rows.map (sendR m.kids d)).map (·.child)).Nodup
          rw [send_childs]
          exact w0.rnd
        · intro r hr
          obtain ⟨r0, h0, rfl⟩ := List.mem_map.mp (show r ∈ M.rows.map (sendR m.kids d) from hr)
          rw [sendR_cells]
          exact w0.rcell _ h0
        · show (M.rows.map (sendR m.kids d)).length ≤ 1000
          rw [List.length_map]
          exact w0.r12
end
end K03
set_option Elab.async false
set_option linter.all false
set_option maxRecDepth 100000
set_option maxHeartbeats 4000000
namespace K03
open PySem L2 EX PyProof.Rows LamX
open NZ
abbrev sWr : Stmt := inClass (top 63) 15
theorem scWr : FnScope ["self", "key", "value", "waiting", "number"] ["self", "key", "value"] (defScope sWr) := ⟨rfl, rfl, rfl, by decide +kernel, rfl, by decide +kernel, by decide +kernel⟩
def okCell (key : Str) (numb : Int) (r : RowM) : Bool := r.cells.all fun p => !decide (p.1 = key) || decide (numb - p.2.1 ≤ p.2.2)
/-- may the store take a value with this number -/
def accB (M : NetM) (ks : List Str) (key : Str) (numb : Int) : Bool := M.rows.all fun r => !decide (r.child ∈ ks) || okCell key numb r
def msgU (key : Str) (numb v : Int) : Msg := .update key numb v
def newC (numb v : Int) : CellM := ⟨numb, v, 0, numb, none⟩
def accM (M : NetM) (m0 : NodeM) (i : Nat) (key : Str) (v numb : Int) : NetM := sendM { M with nodes := M.nodes.set 0 { m0 with cells := m0.cells.set i (key, some (newC numb v)) }, acc := M.acc ++ [key], stm := M.stm ++ [(M.done.length : Int)] } m0.kids (msgU key numb v)
/-- room for one more -/
structure Rooms (M : NetM) : Prop where
  down : ∀ r ∈ M.rows, r.down.length < 1000
  done : M.done.length < 1000
  acc : M.acc.length < 1000
  stm : M.stm.length < 1000
def spAcc (c : Cs) : Sp := fun vs H Q _ => ∃ (n : Addr) (key : Str) (v : Int) (g : Sg) (M : NetM) (i : Nat) (m0 : NodeM) (c0 : CellM), vs = [.ref n, .str key, .int v] ∧ NetA c H n g M ∧ M.nodes[0]? = some m0 ∧ m0.cells[i]? = some (key, some c0) ∧ Rooms M ∧
  (accB M m0.kids key (c0.told + 1) = true → ∀ H', Keeps g.S H H' → NetA c H' n g (accM M m0 i key v (c0.told + 1)) → Q (.int (c0.told + 1)) H') ∧ (accB M m0.kids key (c0.told + 1) = false → Q .non H)
theorem k_cat {K : PySem.W.Frag} {H : Hp} {a b : Addr} {xs ys : List V} {Q : VK} (ha : H a = some (.tup xs)) (hb : H b = some (.tup ys)) (hy : ys ≠ []) (hl : xs.length + ys.length ≤ sizeLine) (k : ∀ q H', Same H H' → H' q = some (.tup (xs ++ ys)) → Q (.ref q) H') : rCatA K (.ref a) (.ref b) H Q :=
  ⟨a, b, xs, ys, rfl, rfl, SqT.of ha, SqT.of hb, hl, fun e => k b H (Same.refl _) (by rw [e]; exact hb), fun _ e => absurd e hy, fun _ _ p hp => k p _ (Same.upd hp) upd_same⟩
theorem td_intsV {H : Hp} : ∀ {xs : List V} {l : List Int}, TdAll H xs (l.map PyData.int) → xs = l.map V.int
  | _, [], h => by
    cases h
    rfl
  | _, s :: l, h => by
    cases h with
    | cons a t =>
      cases a
      rw [td_intsV t]
      rfl
def wDeed (key : Str) (v : Int) : PyData := .tuple [.str "write", .str key, .int v]
def writeM (M : NetM) (m0 : NodeM) (i : Nat) (key : Str) (v : Int) (c0 : CellM) (l : List Int) : NetM :=
  if accB M m0.kids key (c0.told + 1) = true then accM { M with done := M.done ++ [wDeed key v] } m0 i key v (c0.told + 1)
  else { M with done := M.done ++ [wDeed key v], kept := M.kept.set i (key, l ++ [v]) }
def spWrite (c : Cs) : Sp := fun vs H Q _ => ∃ (n : Addr) (key : Str) (v : Int) (g : Sg) (M : NetM) (i : Nat) (m0 : NodeM) (c0 : CellM) (l : List Int), vs = [.ref n, .str key, .int v] ∧ NetA c H n g M ∧ M.nodes[0]? = some m0 ∧ m0.cells[i]? = some (key, some c0) ∧ M.kept[i]? = some (key, l) ∧ l.length < 20 ∧ Rooms { M with done := M.done ++ [wDeed key v] } ∧
  ∀ H' o, Keeps g.S H H' → NetA c H' n g (writeM M m0 i key v c0 l) → (o = if accB M m0.kids key (c0.told + 1) = true then .int (c0.told + 1) else .non) → Q o H'
section
variable {P : Program} {w : World} {K : PySem.W.Frag} {mg : Str → Option Value} {base : Heap}
theorem ok_ap {c : Cs} {f : Addr} {fd : FuncData} (F : Fun K "accept" "accept" sAp f fd) (B : Bn mg) (T : NetC K c.N) (TC : CacheC K c.C) (TE : EntryC K c.E) (GSd : DefAt P w K mg base 1 "send_to_children" ["node", "message"] (spSend c)) : FnOk P w K mg base CX0 2 f fd ["net", "key", "value"] (spAcc c) := by
  refine F.ok scAp (fun vs H Q E h => ?_) (fun cdv A outer s H vs Q E hr h => ?_)
  · obtain ⟨n, key, v, g, M, i, m0, c0, rfl, _⟩ := h
    rfl
  · obtain ⟨n, key, v, g, M, i0, m0, c0, rfl, ⟨Z, q⟩, hm, hmc, rm, kt1, kf⟩ := h
    have hu := hu_of hr
    have hn := q.at_n
    obtain ⟨z, hz, zr, _⟩ := q.node' hm
    have hzm := List.mem_of_getElem? hz
    obtain ⟨z', r', e5, etop⟩ := q.r.top
    have ez : z' = z := by
      rw [e5] at hz
      exact Option.some.inj hz
    subst ez
    have hN := NodeH.of q.h hzm
    have nt := q.notup
    have mc : m0.cells.map (·.1) = M.words := q.w.cell _ (List.mem_of_getElem? hm)
    have zk : z'.cells.map (·.1) = M.words := (pr_keys (fun _ _ w => w.1) zr.cells).trans mc
    have wnd := q.w.wnd
    have hwi : M.words[i0]? = some key := by rw [← mc, List.getElem?_map, hmc]; rfl
    obtain ⟨⟨p1a, p1b⟩, hp1, ep, hp2⟩ := pr_get' zr.cells hmc
    cases ep
    obtain ⟨t, qd, av, et, ht, hqd, _⟩ := td_cell hp2
    cases et
    have hv := strK_val (by rw [zk]; exact wnd) (List.mem_of_getElem? hp1)
    have hg1 : DGet H z'.cd (.str key) (some (.ref t)) := .inl ⟨strK z'.cells, Sum.inr key, .inl hN.cd, rfl, hv.symm⟩
    refine ⟨_, (pss_cons (ps_set (i := 3) scAp.nd rfl (Or.inl rfl) (pe_fld (pv 0) rfl))
        (pss_cons (ps_set (i := 4) scAp.nd rfl (Or.inl rfl) (pe_op op_add (pe_ix ix_tup (pe_dget hu (pe_fld (pv 3) rfl) (pv 1) (fun _ _ => rfl)) pe_int (fun _ _ => rfl)) pe_int))
        (pss_cons (ps_lock (ps_for PassesOwn.never rfl (pi_values (pe_fld (pv 3) rfl)) (pg_name (i := 5) scAp.nd rfl (Or.inl rfl)) (pss_cons (ps_asg (pe_dget hu (pe_fld (pv 5) rfl) (pv 1) (fun _ _ => rfl)) (pg_tup rfl (pgs_cons (pg_name (i := 6) scAp.nd rfl (Or.inl rfl)) (pgs_cons (pg_name (i := 7) scAp.nd rfl (Or.inl rfl)) pgs_nil))))
        (pss_one (ps_if (pt_cmpR op_gt (pe_op op_sub (pv 4) (pv 6)) (pv 7) (nomark _)) (pss_one (ps_ret pe_non)) pss_nil)))))
        (pss_cons (ps_dput hu (pe_fld (pv 3) rfl) (pv 1) (pe_tup (pa_cons (pe_tup (pa_cons (pv 4) (pa_cons (pv 2) pa_nil))) (pa_cons pe_int (pa_cons (pv 4) (pa_cons pe_non pa_nil))))) rfl)
        (pss_cons (ps_expr (pe_bm PySem.F.plainAttrs_list PySem.F.slot_list_append PySem.F.type_list_append mt_append (pe_fld (pv 0) rfl) (pa_cons (pv 1) pa_nil)))
        (pss_cons (ps_expr (pe_bm PySem.F.plainAttrs_list PySem.F.slot_list_append PySem.F.type_list_append mt_append (pe_fld (pv 0) rfl) (pa_cons (pe_callB call_len_seq (by rfl) B.len PySem.boot_len (pa_cons (pe_fld (pv 0) rfl) pa_nil)) pa_nil)))
        (pss_cons (ps_expr (pe_callD GSd (hr.mono (by decide)) (pa_cons (pv 3) (pa_cons (pe_tup (pa_cons pe_str (pa_cons (pv 1) (pa_cons (pv 4) (pa_cons (pv 2) pa_nil))))) pa_nil))))
        (pss_one (ps_ret (pv 4)))))))))), ?_⟩
    refine ⟨_, rfl, n, c.N, _, _, _, rfl, hn, T.cl, T.f_top, rfl, ?_⟩
    rw [etop]
    refine ⟨_, rfl, z'.na, c.C, _, _, _, rfl, hN.i, TC.cl, TC.cells, rfl, _, rfl, z'.cd, _, rfl, hg1, t, _, _, _, rfl, rfl, SqT.of ht, atI_nat (j := 2) rfl, _, _, rfl, rfl, ?_⟩
    have hen := hN.en
    refine ⟨z'.en, .dK (refK z'.kids), hen, trivial, fun od => ?_⟩
    have nne : ∀ {a : Addr} {o : HO}, H a = some o → (∀ d, o ≠ .dK d) → a ≠ z'.en := fun {a o} h1 h2 e => by
      rw [e, hen] at h1
      exact h2 _ (Option.some.inj h1).symm
    have l3 : upd H z'.en (.frz od (.dK (refK z'.kids))) z'.en = some (.frz od (.dK (refK z'.kids))) := upd_same
    have li : ∀ {a : Addr} {o : HO}, H a = some o → (∀ d, o ≠ .dK d) → upd H z'.en (.frz od (.dK (refK z'.kids))) a = some o := fun h1 h2 => by
      rw [upd_ne (nne h1 h2)]
      exact h1
    have lr : ∀ {a : Addr} {d : List (Key × V)}, H a = some (.dK d) → Rd (upd H z'.en (.frz od (.dK (refK z'.kids)))) a (.dK d) := fun h1 => rd_lock (.inl h1) hen
    have eU : upd (upd H z'.en (.frz od (.dK (refK z'.kids)))) z'.en (.dK (refK z'.kids)) = H := by
      rw [EX.upd_upd]
      funext x
      by_cases e : x = z'.en
      · rw [e, upd_same, hen]
      · rw [upd_ne e]
    generalize upd H z'.en (HO.frz od (.dK (refK z'.kids))) = L at l3 li lr eU ⊢
    refine ⟨_, rfl, z'.na, c.C, _, _, _, rfl, li hN.i (fun _ w => nomatch w), TC.cl, TC.entries, rfl, z'.en, od, _, rfl, l3, ?_⟩
    refine for_it (walk_values (d := z'.en) (o := od) (kvs := refK z'.kids)) (fun i σ' Hh => ∃ v5 v6 v7 : Option V, σ' = [some (.ref n), some (.str key), some (.int v), some (.ref z'.na), some (.int (c0.told + 1)), v5, v6, v7] ∧ Hh = L ∧ ∀ r ∈ M.rows, r.child ∈ m0.kids.take i → okCell key (c0.told + 1) r = true) ⟨none, none, none, rfl, rfl, fun r _ w => nomatch w⟩ (fun i σ' Hh _ w => by obtain ⟨_, _, _, _, e, _⟩ := w; rw [e]; exact l3) ?_ ?_
    · rintro i x σ' H1 H2 hi ⟨v5, v6, v7, rfl, e1, hall⟩ ⟨e2, kk0, hx⟩
      have e3 : H2 = L := by first | exact e2.trans e1 | exact e2.symm.trans e1
      subst e3
      have hx : (refK z'.kids)[i]? = some (kk0, x) := hx
      rw [List.getElem?_map] at hx
      obtain ⟨⟨ch, ra⟩, hki, e⟩ := Option.map_eq_some_iff.mp hx
      cases e
      have hmk : m0.kids[i]? = some ch := by rw [← zr.kids, List.getElem?_map, hki]; rfl
      have hin := zr.kin _ (List.mem_of_getElem? hki)
      unfold ixOf at hin
      obtain ⟨y, hy, e⟩ := List.mem_map.mp hin
      cases e
      obtain ⟨r, hr, hyr⟩ := pr_mem q.r.rows hy
      have hRH := RowH.of q.h hy
      have hri : H2 y.ra = _ := li hRH.i (fun _ w => nomatch w)
      have yk : y.cells.map (·.1) = M.words := (pr_keys (fun _ _ w => w.1) hyr.cells).trans (q.w.rcell _ hr)
      have hyi : ∃ v2, y.cells[i0]? = some (key, v2) := by
        rw [← yk, List.getElem?_map] at hwi
        obtain ⟨⟨k2, v2⟩, h2, e⟩ := Option.map_eq_some_iff.mp hwi
        cases e
        exact ⟨v2, h2⟩
      obtain ⟨v2, hyi⟩ := hyi
      obtain ⟨⟨k2, conf, gr⟩, hri2, ek2, htd⟩ := pr_get hyr.cells hyi
      cases ek2
      obtain ⟨t2, et2, ht2⟩ := td_two htd
      cases et2
      have hv2 := strK_val (by rw [yk]; exact wnd) (List.mem_of_getElem? hyi)
      have hg2 : DGet H2 y.cd (.str key) (some (.ref t2)) := .inl ⟨strK y.cells, Sum.inr key, lr hRH.cd, rfl, hv2.symm⟩
      refine ⟨_, rfl, y.ra, c.E, _, _, _, rfl, hri, TE.cl, TE.cells, rfl, _, rfl, y.cd, _, rfl, hg2, t2, _, rfl, SqT.of (li ht2 (fun _ w => nomatch w)), rfl, _, _, rfl, _, _, rfl, rfl, ?_⟩
      have hok : okCell key (c0.told + 1) r = decide (c0.told + 1 - conf ≤ gr) := by
        unfold okCell
        cases hd : decide (c0.told + 1 - conf ≤ gr) with
        | false =>
          rw [List.all_eq_false]
          exact ⟨_, List.mem_of_getElem? hri2, by simp only [hd]; simp⟩
        | true =>
          rw [List.all_eq_true]
          intro p hp
          by_cases e : p.1 = key
          · have rn : (r.cells.map (·.1)).Nodup := by rw [q.w.rcell _ hr]; exact wnd
            obtain ⟨j2, hj2⟩ := List.mem_iff_getElem?.mp hp
            have : p = (key, conf, gr) := by
              obtain ⟨l1, e1⟩ := List.getElem?_eq_some_iff.mp hj2
              obtain ⟨l2, e2⟩ := List.getElem?_eq_some_iff.mp hri2
              have ij := (List.getElem_inj (h₀ := by rw [List.length_map]; exact l1) (h₁ := by rw [List.length_map]; exact l2) rn).mp (by rw [List.getElem_map, List.getElem_map, e1, e2, e])
              subst ij
              rw [← e1, ← e2]
            rw [this]
            simp only [hd]
            simp
          · rw [decide_eq_false e]
            rfl
      refine ⟨_, rfl, _, rfl, _, _, rfl, rfl, _, rfl, _, _, rfl, rfl, _, rfl, ite2 (fun hlt => ?_) (fun hlt => ?_)⟩
      · have hlt : gr < c0.told + 1 - conf := by simpa using hlt
        refine ⟨l3, ?_⟩
        rw [eU]
        refine kf ?_
        unfold accB
        rw [List.all_eq_false]
        refine ⟨r, hr, ?_⟩
        rw [hok, decide_eq_true (show r.child ∈ m0.kids by rw [← hyr.child]; exact List.mem_of_getElem? hmk), decide_eq_false (by omega)]
        simp
      · have hlt : ¬ gr < c0.told + 1 - conf := by simpa using hlt
        refine ⟨_, _, _, rfl, rfl, fun r2 h2 hk2 => ?_⟩
        rcases (take_mem hmk).mp hk2 with w | w
        · exact hall r2 h2 w
        · have er : r2 = r := by
            obtain ⟨j1, hj1⟩ := List.mem_iff_getElem?.mp h2
            obtain ⟨j2, hj2⟩ := List.mem_iff_getElem?.mp hr
            obtain ⟨l1, e1⟩ := List.getElem?_eq_some_iff.mp hj1
            obtain ⟨l2, e2⟩ := List.getElem?_eq_some_iff.mp hj2
            have ij := (List.getElem_inj (h₀ := by rw [List.length_map]; exact l1) (h₁ := by rw [List.length_map]; exact l2) q.w.rnd).mp (by rw [List.getElem_map, List.getElem_map, e1, e2, w, hyr.child])
            subst ij
            rw [← e1, ← e2]
          rw [er, hok, decide_eq_true (by omega)]
    · rintro σ' H1 ⟨v5, v6, v7, rfl, e1, hall⟩
      subst e1
      refine ⟨l3, ?_⟩
      rw [eU]
      have el : (refK z'.kids).length = m0.kids.length := by rw [List.length_map, ← zr.kids, List.length_map]
      rw [el, List.take_length] at hall
      have hacc : accB M m0.kids key (c0.told + 1) = true := by
        unfold accB
        rw [List.all_eq_true]
        intro r hr
        by_cases w : r.child ∈ m0.kids
        · rw [hall r hr w, Bool.or_true]
        · rw [decide_eq_false w]
          rfl
      have kt1 := kt1 hacc
      clear l3 li lr eU nne
      have hcd : H z'.cd = some (.dK (strK z'.cells)) := hN.cd
      refine ⟨_, rfl, _, rfl, by show 2 ≤ sizeLine; decide, fun qn hqn => ⟨_, rfl, by show 4 ≤ sizeLine; decide, fun t3 ht3 => ?_⟩⟩
      have S2 : Same H (upd (upd H qn (.tup [.int (c0.told + 1), .int v])) t3 (.tup [.ref qn, .int 0, .int (c0.told + 1), .non])) := Same.trans (Same.upd hqn) (Same.upd ht3)
      have lt3 : upd (upd H qn (HO.tup [.int (c0.told + 1), .int v])) t3 (HO.tup [.ref qn, .int 0, .int (c0.told + 1), .non]) t3 = some (.tup [.ref qn, .int 0, .int (c0.told + 1), .non]) := upd_same
      have lqn : upd (upd H qn (HO.tup [.int (c0.told + 1), .int v])) t3 (HO.tup [.ref qn, .int 0, .int (c0.told + 1), .non]) qn = some (.tup [.int (c0.told + 1), .int v]) := (Same.upd ht3) _ _ upd_same
      generalize upd (upd H qn (HO.tup [.int (c0.told + 1), .int v])) t3 (HO.tup [.ref qn, .int 0, .int (c0.told + 1), .non]) = H2 at S2 lt3 lqn ⊢
      have w4 := q.w.w4
      have zl : z'.cells.length ≤ 4 := by
        have e := congrArg List.length zk
        rw [List.length_map] at e
        omega
      refine ⟨_, rfl, z'.na, c.C, _, _, _, rfl, S2 _ _ hN.i, TC.cl, TC.cells, rfl, _, rfl, z'.cd, _, rfl, .inl ⟨strK z'.cells, Sum.inr key, S2 _ _ hcd, rfl, by rw [List.length_map, sizeLine_eq]; omega, rfl⟩, ?_⟩
      have htd : Td H2 (.ref t3) (cellD (some (newC (c0.told + 1) v))) := .tup lt3 (.cons (.tup lqn (.cons (.int _) (.cons (.int _) .nil))) (.cons (.int _) (.cons (.int _) (.cons .non .nil))))
      have q3 := (q.mono S2).setCell hz hm hmc htd
      have k3 := (Keeps.of S2).put (o := .dK (putK (strK z'.cells) (Sum.inr key) (.ref t3))) (q.in_node hzm 1)
      generalize upd H2 z'.cd (HO.dK (putK (strK z'.cells) (Sum.inr key) (.ref t3))) = H3 at q3 k3 ⊢
      have hac : H3 Z.ac = some (.lst Z.acc) := q3.h.at_net 5
      have hal : Z.acc.length < sizeLine := by
        rw [q.r.acc, List.length_map, sizeLine_eq]
        have := rm.acc
        omega
      refine ⟨_, rfl, n, c.N, _, _, _, rfl, q3.at_n, T.cl, T.f_accepted, rfl, .inl ⟨rfl, _, SqL.of hac⟩, _, rfl, Z.ac, _, _, rfl, rfl, hac, hal, ?_⟩
      have q4 := q3.addAcc key
      have k4 := k3.put (o := .lst (Z.acc ++ [.str key])) (q.in_net 5)
      have q4 : NetQ c (upd H3 Z.ac (.lst (Z.acc ++ [.str key]))) n g _ _ := q4
      generalize upd H3 Z.ac (HO.lst (Z.acc ++ [.str key])) = H4 at q4 k4 ⊢
      have hsm : H4 Z.sm = some (.lst Z.stm) := q4.h.at_net 6
      have hdn : H4 Z.dn = some (.lst Z.done) := q4.h.at_net 3
      have hsl : Z.stm.length < sizeLine := by
        rw [q.r.stm, List.length_map, sizeLine_eq]
        have := rm.stm
        omega
      refine ⟨_, rfl, n, c.N, _, _, _, rfl, q4.at_n, T.cl, T.f_stamps, rfl, .inl ⟨rfl, _, SqL.of hsm⟩, _, rfl, n, c.N, _, _, _, rfl, q4.at_n, T.cl, T.f_done, rfl, Z.dn, _, rfl, .inl (SqL.of hdn), Z.sm, _, _, rfl, rfl, hsm, hsl, ?_⟩
      rw [show Z.done.length = M.done.length from q.r.done.length]
      have q5 := q4.addStm (M.done.length : Int)
      have k5 := k4.put (o := .lst (Z.stm ++ [.int (M.done.length : Int)])) (q.in_net 6)
      have q5 : NetQ c (upd H4 Z.sm (.lst (Z.stm ++ [.int (M.done.length : Int)]))) n g _ _ := q5
      generalize upd H4 Z.sm (HO.lst (Z.stm ++ [.int (M.done.length : Int)])) = H5 at q5 k5 ⊢
      refine ⟨_, rfl, _, rfl, _, rfl, _, rfl, by show 4 ≤ sizeLine; decide, fun p hp => ?_⟩
      have S6 : Same H5 (upd H5 p (.tup [.str "update", .str key, .int (c0.told + 1), .int v])) := Same.upd hp
      have l6 : upd H5 p (HO.tup [.str "update", .str key, .int (c0.told + 1), .int v]) p = some (.tup [.str "update", .str key, .int (c0.told + 1), .int v]) := upd_same
      generalize upd H5 p (HO.tup [.str "update", .str key, .int (c0.told + 1), .int v]) = H6 at S6 l6 ⊢
      have hz5 : (Z.nodes.set 0 { z' with cells := z'.cells.set i0 (key, V.ref t3) })[0]? = some { z' with cells := z'.cells.set i0 (key, V.ref t3) } := by
        rw [e5]
        rfl
      have hm5 : (M.nodes.set 0 { m0 with cells := m0.cells.set i0 (key, some (newC (c0.told + 1) v)) })[0]? = some { m0 with cells := m0.cells.set i0 (key, some (newC (c0.told + 1) v)) } := by
        obtain ⟨hl, _⟩ := List.getElem?_eq_some_iff.mp hm
        exact List.getElem?_set_self hl
      exact ⟨z'.na, .ref p, n, g, _, _, 0, _, _, msgU key (c0.told + 1) v, rfl, q5.mono S6, hz5, rfl, hm5, .tup l6 (.cons (.str _) (.cons (.str _) (.cons (.int _) (.cons (.int _) .nil)))), rm.down, fun H' kk a => ⟨_, rfl, kt1 H' ((k5.then S6).trans kk) a⟩⟩
theorem ok_write {c : Cs} {f : Addr} {fd : FuncData} (F : Fun K "write" "Net.write" sWr f fd) (B : Bn mg) (T : NetC K c.N) (GAp : DefAt P w K mg base 2 "accept" ["net", "key", "value"] (spAcc c)) : FnOk P w K mg base CX0 3 f fd ["self", "key", "value"] (spWrite c) := by
  refine F.ok scWr (fun vs H Q E h => ?_) (fun cdv A outer s H vs Q E hr h => ?_)
  · obtain ⟨n, key, v, g, M, i, m0, c0, l, rfl, _⟩ := h
    rfl
  · obtain ⟨n, key, v, g, M, i0, m0, c0, l, rfl, ⟨Z, q⟩, hm, hmc, hkl, hl20, rm, k⟩ := h
    have hu := hu_of hr
    have hn := q.at_n
    have mc : m0.cells.map (·.1) = M.words := q.w.cell _ (List.mem_of_getElem? hm)
    have hwi : M.words[i0]? = some key := by rw [← mc, List.getElem?_map, hmc]; rfl
    obtain ⟨tw, xs, etw, htw, hxs⟩ := td_tup q.r.tw
    rw [td_strsV hxs] at htw
    refine ⟨_, (pss_cons (ps_if (PW.pt (pw_or (pt_not (pt_val (pe_callB call_isi (by rfl) B.isi PyProof.Rows.boot_isinstance (pa_cons (pv 1) (pa_cons (pe_bltn (v := .ty "str") (by rfl) B.str (by decide +kernel) rfl) pa_nil))))) (pw_or1 (pt_cmpR op_notIn_seq (pv 1) (pe_fld (pv 0) rfl) (by rfl))))) pss_never pss_nil)
        (pss_cons (ps_if (PW.pt (pw_or (pt_not (pt_val (pe_callB call_isi (by rfl) B.isi PyProof.Rows.boot_isinstance (pa_cons (pv 2) (pa_cons (pe_bltn (v := .ty "int") (by rfl) B.int (by decide +kernel) rfl) pa_nil))))) (pw_or1 (pt_val (pe_callB call_isi (by rfl) B.isi PyProof.Rows.boot_isinstance (pa_cons (pv 2) (pa_cons (pe_bltn (v := .ty "bool") (by rfl) B.bool (by decide +kernel) rfl) pa_nil))))))) pss_never pss_nil)
        (pss_cons (ps_set (i := 3) scWr.nd rfl (Or.inl rfl) (pe_dget hu (pe_fld (pv 0) rfl) (pv 1) (fun _ _ => rfl)))
        (pss_cons (ps_if (pt_cmpR op_ge (pe_callB call_len_seq (by rfl) B.len PySem.boot_len (pa_cons (pv 3) pa_nil)) (pe_glob (v := .int _) (by rfl) B.mw.choose_spec ⟨_, rfl⟩) (nomark _)) pss_never pss_nil)
        (pss_cons (ps_expr (pe_bm PySem.F.plainAttrs_list PySem.F.slot_list_append PySem.F.type_list_append mt_append (pe_fld (pv 0) rfl) (pa_cons (pe_tup (pa_cons pe_str (pa_cons (pv 1) (pa_cons (pv 2) pa_nil)))) pa_nil)))
        (pss_cons (ps_set (i := 4) scWr.nd rfl (Or.inl rfl) (pe_callD GAp (hr.mono (by decide)) (pa_cons (pv 0) (pa_cons (pv 1) (pa_cons (pv 2) pa_nil)))))
        (pss_cons (ps_if (pt_cmp (pc_isN (pv 4))) (pss_one (ps_dput hu (pe_fld (pv 0) rfl) (pv 1) (pe_op op_catA (pv 3) (pe_tup (pa_cons (pv 2) pa_nil))) rfl)) pss_nil)
        (pss_one (ps_ret (pv 4)))))))))), ?_⟩
    refine ⟨_, rfl, _, _, _, _, true, rfl, .ty _, .base (.str _), kit_ty (by decide +kernel), _, rfl, iteF ?_⟩
    refine ⟨_, rfl, _, rfl, n, c.N, _, _, _, rfl, hn, T.cl, T.f_words, rfl, ?_⟩
    rw [etw]
    refine ⟨tw, _, rfl, .inr (SqT.of htw), rfl, flat_strV _, ?_⟩
    rw [inStr, decide_eq_true (List.mem_of_getElem? hwi)]
    refine ⟨_, rfl, iteF ?_⟩
    refine ⟨_, rfl, _, _, _, _, true, rfl, .ty _, .base (.int _), kit_ty (by decide +kernel), _, rfl, iteF ?_⟩
    refine ⟨_, rfl, _, _, _, _, false, rfl, .ty _, .base (.int _), kit_ty (by decide +kernel), _, rfl, iteF ?_⟩
    obtain ⟨⟨p1a, p1b⟩, hp1, ep, hp2⟩ := pr_get' q.r.kept hkl
    cases ep
    have hp2 : Td H p1b (.tuple (l.map PyData.int)) := hp2
    obtain ⟨ka, kx, eka, hka, hkx⟩ := td_tup hp2
    subst eka
    rw [td_intsV hkx] at hka
    have ek : Z.kept.map (·.1) = M.words := (pr_keys (fun _ _ w => w.1) q.r.kept).trans q.w.kept
    have hkv := strK_val (by rw [ek]; exact q.w.wnd) (List.mem_of_getElem? hp1)
    have hkp : H Z.kp = some (.dK (strK Z.kept)) := q.h.at_net 4
    have hgk : DGet H Z.kp (.str key) (some (.ref ka)) := .inl ⟨strK Z.kept, Sum.inr key, .inl hkp, rfl, hkv.symm⟩
    refine ⟨_, rfl, n, c.N, _, _, _, rfl, hn, T.cl, T.f_kept, rfl, _, rfl, Z.kp, _, rfl, hgk, ?_⟩
    have ell : (l.map V.int).length = l.length := List.length_map _
    refine ⟨_, rfl, ka, _, rfl, .inr (SqT.of hka), _, _, rfl, rfl, _, rfl, ?_⟩
    rw [ell]
    refine ifF (decide_eq_false (by omega)) ?_
    have hdn : H Z.dn = some (.lst Z.done) := q.h.at_net 3
    have hdl : Z.done.length < sizeLine := by
      rw [q.r.done.length, sizeLine_eq]
      have := rm.done
      have e : ({ M with done := M.done ++ [wDeed key v] } : NetM).done.length = M.done.length + 1 := List.length_append
      omega
    refine ⟨_, rfl, n, c.N, _, _, _, rfl, hn, T.cl, T.f_done, rfl, .inl ⟨rfl, _, SqL.of hdn⟩, _, rfl, _, rfl, by show 3 ≤ sizeLine; decide, fun p hp => ?_⟩
    have S1 : Same H (upd H p (.tup [.str "write", .str key, .int v])) := Same.upd hp
    have l1 : upd H p (HO.tup [.str "write", .str key, .int v]) p = some (.tup [.str "write", .str key, .int v]) := upd_same
    generalize upd H p (HO.tup [.str "write", .str key, .int v]) = H1 at S1 l1 ⊢
    refine ⟨Z.dn, _, _, rfl, rfl, S1 _ _ hdn, hdl, ?_⟩
    have q2 := (q.mono S1).addDone (.tup l1 (.cons (.str _) (.cons (.str _) (.cons (.int _) .nil))))
    have k2 := (Keeps.of S1).put (o := .lst (Z.done ++ [.ref p])) (q.in_net 3)
    have hka2 : upd H1 Z.dn (.lst (Z.done ++ [.ref p])) ka = some (.tup (l.map V.int)) := (KT.upd (o := .lst (Z.done ++ [.ref p])) fun xs w => by rw [S1 _ _ hdn] at w; cases w) _ _ (S1 _ _ hka)
    have q2 : NetQ c (upd H1 Z.dn (.lst (Z.done ++ [.ref p]))) n g { M with done := M.done ++ [wDeed key v] } _ := q2
    generalize upd H1 Z.dn (HO.lst (Z.done ++ [.ref p])) = H2 at q2 k2 hka2 ⊢
    refine ⟨_, rfl, _, rfl, _, rfl, n, key, v, g, _, i0, m0, c0, rfl, ⟨_, q2⟩, hm, hmc, rm, fun ha H' kk a => ?_, fun ha => ?_⟩
    · have ha : accB M m0.kids key (c0.told + 1) = true := ha
      refine ⟨_, rfl, _, rfl, ifF (decide_eq_false fun w => nomatch w) ⟨_, rfl, k H' _ (k2.trans kk) ?_ ?_⟩⟩
      · unfold writeM
        rw [if_pos ha]
        exact a
      · rw [if_pos ha]
    · have ha : accB M m0.kids key (c0.told + 1) = false := ha
      refine ⟨_, rfl, _, rfl, ifT (decide_eq_true rfl) ?_⟩
      refine ⟨_, rfl, _, rfl, by show 1 ≤ sizeLine; decide, fun p2 hp2 => ?_⟩
      refine k_cat ((Same.upd hp2) _ _ hka2) upd_same (fun w => nomatch w) (by rw [ell, sizeLine_eq]; show l.length + 1 ≤ _; omega) fun p3 H3 S3 hp3 => ?_
      have S23 := Same.trans (Same.upd hp2) S3
      have q3 := q2.mono S23
      have hkp3 : H3 Z.kp = some (.dK (strK Z.kept)) := q3.h.at_net 4
      have kl4 : Z.kept.length ≤ 4 := by
        have e := congrArg List.length ek
        rw [List.length_map] at e
        have := q.w.w4
        omega
      refine ⟨_, rfl, n, c.N, _, _, _, rfl, q3.at_n, T.cl, T.f_kept, rfl, _, rfl, Z.kp, _, rfl, .inl ⟨strK Z.kept, Sum.inr key, hkp3, rfl, by rw [List.length_map, sizeLine_eq]; omega, rfl⟩, ?_⟩
      have htd : Td H3 (.ref p3) (.tuple ((l ++ [v]).map PyData.int)) := by
        refine .tup hp3 ?_
        rw [List.map_append]
        exact (td_ints l).append (td_ints [v])
      have q4 := q3.setKept (l' := l ++ [v]) hkl htd
      have a4 : NetA c (upd H3 Z.kp (.dK (putK (strK Z.kept) (Sum.inr key) (.ref p3)))) n g (writeM M m0 i0 key v c0 l) := by
        unfold writeM
        rw [if_neg (by rw [ha]; exact Bool.false_ne_true)]
        exact ⟨_, q4⟩
      exact ⟨_, rfl, k _ _ ((k2.then S23).put (q.in_net 4)) a4 (by rw [if_neg (by rw [ha]; exact Bool.false_ne_true)])⟩
end
end K03
set_option Elab.async false
set_option linter.all false
set_option maxRecDepth 100000
set_option maxHeartbeats 4000000
/-! the deeds as changes of a net's data, by names -/
namespace NZ
open PySem L2 EX PyProof.Rows
def RowM.get (r : RowM) (key : Str) : Option (Int × Int) := getK r.cells key
/-- the lesser of l and what the entry of a child leaves -/
def NetM.lim1 (M : NetM) (key : Str) (alw l : Int) (ch : Str) : Int := match (M.row ch).bind (·.get key) with
  | some (cf, gr) => if gr + cf - alw < l then gr + cf - alw else l
  | none => l
def NetM.limit (M : NetM) (kids : List Str) (key : Str) (alw num : Int) : Int := kids.foldl (M.lim1 key alw) num
def NetM.agr1 (M : NetM) (key : Str) (told a : Int) (ch : Str) : Bool := match (M.row ch).bind (·.get key) with
  | some (cf, gr) => decide (a ≤ gr) && decide (told + a - cf ≤ gr)
  | none => true
def NetM.agrees (M : NetM) (kids : List Str) (key : Str) (told a : Int) : Bool := kids.all (M.agr1 key told a)
def NetM.sendUp (M : NetM) (ch : Str) (d : Msg) : NetM := M.updR ch fun r => { r with up := r.up ++ [d] }
def NetM.sendDown (M : NetM) (ch : Str) (d : Msg) : NetM := M.updR ch fun r => { r with down := r.down ++ [d] }
def NetM.setCell (M : NetM) (s key : Str) (o : Option CellM) : NetM := M.updN s fun m => { m with cells := setK m.cells key o }
def NetM.setRow (M : NetM) (ch key : Str) (cf gr : Int) : NetM := M.updR ch fun r => { r with cells := setK r.cells key (cf, gr) }
/-- may a node agree to what it was asked -/
def NetM.mayAg (M : NetM) (m : NodeM) (key : Str) (told : Int) (asked : Option Int) : Bool := match asked with
  | some a => M.agrees m.kids key told a
  | none => false
def NetM.renew (M : NetM) (m : NodeM) (key : Str) (num val alw told : Int) (asked : Option Int) : NetM :=
  let ag := M.mayAg m key told asked
  let alw2 := if ag = true then asked.getD alw else alw
  let M1 := if ag = true then M.sendUp m.label (.agree key alw2) else M
  let lim := if told < num then M.limit m.kids key alw2 num else num
  let M2 := if told < lim then M1.sendUp m.label (.confirm key lim) else M1
  M2.setCell m.label key (some ⟨num, val, alw2, if told < lim then lim else told, if ag = true then none else asked⟩)
def NodeM.serves (m : NodeM) (key : Str) (need floor : Int) : Bool := match m.cell key with
  | some c => decide (floor ≤ c.num) && decide (c.told + c.alw - c.num ≤ need)
  | none => false
theorem row_updR {M : NetM} {s ch : Str} {f : RowM → RowM} (hf : ∀ r, (f r).child = r.child) : (M.updR s f).row ch = (M.row ch).map fun r => if r.child = s then f r else r := by
  unfold NetM.row NetM.updR
  show List.find? _ (M.rows.map _) = _
  rw [List.find?_map]
  have e : ((fun r : RowM => decide (r.child = ch)) ∘ fun r : RowM => if r.child = s then f r else r) = fun r : RowM => decide (r.child = ch) := by
    funext r
    show decide ((if r.child = s then f r else r).child = ch) = _
    by_cases h : r.child = s
    · rw [if_pos h, hf]
    · rw [if_neg h]
  rw [e]
theorem get_updR {M : NetM} {s ch key : Str} {f : RowM → RowM} (hf : ∀ r, (f r).child = r.child) (hg : ∀ r, (f r).cells = r.cells) : ((M.updR s f).row ch).bind (·.get key) = (M.row ch).bind (·.get key) := by
  rw [row_updR hf]
  cases M.row ch with
  | none => rfl
  | some r =>
    show RowM.get (if r.child = s then f r else r) key = r.get key
    by_cases h : r.child = s
    · rw [if_pos h]
      unfold RowM.get
      rw [hg]
    · rw [if_neg h]
theorem limit_congr {M M' : NetM} {key : Str} (h : ∀ ch, (M'.row ch).bind (·.get key) = (M.row ch).bind (·.get key)) (ks : List Str) (alw num : Int) : M'.limit ks key alw num = M.limit ks key alw num := by
  have e : M'.lim1 key alw = M.lim1 key alw := by
    funext l ch
    unfold NetM.lim1
    rw [h]
  unfold NetM.limit
  rw [e]
theorem agrees_congr {M M' : NetM} {key : Str} (h : ∀ ch, (M'.row ch).bind (·.get key) = (M.row ch).bind (·.get key)) (ks : List Str) (told a : Int) : M'.agrees ks key told a = M.agrees ks key told a := by
  have e : M'.agr1 key told a = M.agr1 key told a := by
    funext ch
    unfold NetM.agr1
    rw [h]
  unfold NetM.agrees
  rw [e]
/-! ### the store takes writes -/
def NetM.sendAll (M : NetM) (ks : List Str) (d : Msg) : NetM := { M with rows := M.rows.map (sendR ks d) }
def NetM.room (M : NetM) (ks : List Str) (key : Str) (numb : Int) : Bool := M.rows.all fun r => !decide (r.child ∈ ks) || r.cells.all fun p => !decide (p.1 = key) || decide (numb - p.2.1 ≤ p.2.2)
def NetM.accN (M : NetM) (m0 : NodeM) (key : Str) (v numb : Int) : NetM := NetM.sendAll { M.setCell m0.label key (some ⟨numb, v, 0, numb, none⟩) with acc := M.acc ++ [key], stm := M.stm ++ [(M.done.length : Int)] } m0.kids (.update key numb v)
def NetM.accept (M : NetM) (m0 : NodeM) (key : Str) (v : Int) : Option NetM := match m0.cell key with
  | some c0 => if M.room m0.kids key (c0.told + 1) = true then some (M.accN m0 key v (c0.told + 1)) else none
  | none => none
def NetM.setKept (M : NetM) (key : Str) (l : List Int) : NetM := { M with kept := setK M.kept key l }
def NetM.keptOf (M : NetM) (key : Str) : List Int := (getK M.kept key).getD []
/-- the waiting writes of a key, as far as there is room -/
def NetM.aw (key : Str) : List Int → NetM → NetM
  | [], M => M
  | v :: r, M => match M.nodes[0]? with
    | some m0 => match M.accept m0 key v with
      | some M1 => NetM.aw key r (M1.setKept key r)
      | none => M
    | none => M
def NetM.settle (M : NetM) (m : NodeM) (key : Str) : NetM := match m.above with
  | none => NetM.aw key (M.keptOf key) M
  | some _ => match m.cell key with
    | some cm => M.renew m key cm.num cm.val cm.alw cm.told cm.asked
    | none => M
/-- the store has all keys -/
structure TopOk (M : NetM) : Prop where
  ex : ∃ m0, M.nodes[0]? = some m0 ∧ ∀ k ∈ M.words, ∃ c, m0.cell k = some c
/-- room for x more -/
structure Rm (M : NetM) (x : Nat) : Prop where
  acc : M.acc.length + x < 900
  stm : M.stm.length + x < 900
  down : ∀ r ∈ M.rows, r.down.length + x < 900
  done : M.done.length < 990
theorem getK_setK {α : Type} {l : List (Str × α)} {s k : Str} {v : α} : getK (setK l s v) k = (getK l k).map fun x => if k = s then v else x := by
  induction l with
  | nil => rfl
  | cons p r ih =>
    unfold setK at ih ⊢
    rw [List.map_cons]
    unfold getK
    by_cases h : p.1 = k
    · by_cases h2 : p.1 = s
      · rw [if_pos h2, if_pos h, if_pos h]
        exact congrArg some (if_pos (show k = s from h ▸ h2)).symm
      · rw [if_neg h2, if_pos h, if_pos h]
        exact (congrArg some (if_neg (show ¬ k = s from fun e => h2 (h.trans e)))).symm
    · have e1 : (if p.1 = s then (p.1, v) else p).1 = p.1 := by split <;> rfl
      rw [if_neg h, if_neg (by rw [e1]; exact h)]
      exact ih
theorem cell_setK {m : NodeM} {key k : Str} {o : Option CellM} : ({ m with cells := setK m.cells key o } : NodeM).cell k = if k = key then (if (getK m.cells k).isSome = true then o else none) else m.cell k := by
  unfold NodeM.cell
  show (match getK (setK m.cells key o) k with | some (some c) => some c | _ => none) = _
  rw [getK_setK]
  cases h : getK m.cells k with
  | none => by_cases e : k = key <;> simp [e]
  | some x =>
    by_cases e : k = key
    · simp only [Option.map_some, if_pos e]
      cases o <;> simp
    · simp only [Option.map_some, if_neg e]
      all_goals (cases x <;> rfl)
/-! ### messages in tuples -/
def simV : PyData → V
  | .str s => .str s
  | .int i => .int i
  | .bool b => .bl b
  | _ => .non
def simB : PyData → Bool
  | .str _ => true
  | .int _ => true
  | .bool _ => true
  | .none => true
  | _ => false
theorem td_sim {H : Hp} : ∀ {xs : List V} {ds : List PyData}, TdAll H xs ds → ds.all simB = true → xs = ds.map simV
  | _, _, .nil, _ => rfl
  | _, _, .cons a t, h => by
    rw [List.all_cons, Bool.and_eq_true] at h
    rw [List.map_cons, td_sim t h.2]
    cases a with
    | tup _ _ => cases h.1
    | _ => rfl
def Msg.ds (mg : Msg) : List PyData := match mg.d with
  | .tuple ds => ds
  | _ => []
def Msg.vs (mg : Msg) : List V := mg.ds.map simV
theorem Msg.d_eq (mg : Msg) : mg.d = .tuple mg.ds := by cases mg <;> rfl
theorem td_msg {H : Hp} {v : V} {mg : Msg} (h : Td H v mg.d) : ∃ mp, v = .ref mp ∧ H mp = some (.tup mg.vs) := by
  rw [mg.d_eq] at h
  cases h with
  | tup h1 t =>
    have e := td_sim t (by cases mg <;> rfl)
    subst e
    exact ⟨_, rfl, h1⟩
theorem td_of {H : Hp} : ∀ {ds : List PyData}, ds.all simB = true → TdAll H (ds.map simV) ds
  | [], _ => .nil
  | d :: r, h => by
    rw [List.all_cons, Bool.and_eq_true] at h
    refine .cons ?_ (td_of h.2)
    cases d with
    | none => exact .non
    | bool b => exact .bl b
    | int i => exact .int i
    | str x => exact .str x
    | _ => cases h.1
theorem td_msg_of {H : Hp} {p : Addr} {mg : Msg} (h : H p = some (.tup mg.vs)) : Td H (.ref p) mg.d := by
  rw [mg.d_eq]
  exact .tup h (td_of (by cases mg <;> rfl))
/-! ### cuts of readings -/
theorem ifS_via {b : Bool} {t1 t2 : TS} {D : Ends} {σ : L2.St} {H : Hp} (R : L2.St → Hp → Prop) (h1 : b = true → ∀ D' : Ends, (∀ σ' H', R σ' H' → D'.nx σ' H') → t1 D' σ H) (h2 : b = false → ∀ D' : Ends, (∀ σ' H', R σ' H' → D'.nx σ' H') → t2 D' σ H) (k : ∀ σ' H', R σ' H' → D.nx σ' H') : if b = true then t1 D σ H else t2 D σ H := by
  cases b with
  | true => exact iteT (h1 rfl D k)
  | false => exact iteF (h2 rfl D k)
/-- a test of two parts that comes out B -/
theorem and_to {b : Bool} {u : TT} {σ : L2.St} {H : Hp} {Q : Bool → Hp → Prop} (B : Bool) (h : b = true → ∀ R : Bool → Hp → Prop, (∀ H', Same H H' → R B H') → u σ H R) (hf : b = false → B = false) (k : ∀ H', Same H H' → Q B H') : if b = true then u σ H Q else Q false H := by
  cases b with
  | true => exact iteT (h rfl Q k)
  | false =>
    have e := hf rfl
    have := k H (Same.refl _)
    rw [e] at this
    exact iteF this
/-! ### what the heap shows of it -/
section
variable {c : Cs} {H H' : Hp} {n : Addr} {g : Sg} {M : NetM} {Z : NetZ} {j i : Nat} {z : NodeZ} {m : NodeM} {y : RowZ} {r : RowM} {key : Str}
theorem strKv {l : List (Str × V)} (nd : (l.map (·.1)).Nodup) {k : Str} {v : V} (h : (k, v) ∈ l) : valV (strK l) (Sum.inr k) = some v := by
  induction l with
  | nil => cases h
  | cons q r ih =>
    obtain ⟨n1, n2⟩ := List.nodup_cons.mp nd
    rcases List.mem_cons.mp h with e | e
    · subst e
      exact valV_pos rfl
    · exact (valV_neg (fun z => n1 (List.mem_map.mpr ⟨_, e, (Sum.inr.inj z).symm⟩))).trans (ih n2 e)
theorem NetQ.zk (q : NetQ c H n g M Z) (hz : Z.nodes[j]? = some z) (hm : M.nodes[j]? = some m) : NodeR H (ixOf Z) z m ∧ z.cells.map (·.1) = M.words ∧ m.cells.map (·.1) = M.words ∧ z.cells.length ≤ 4 := by
  obtain ⟨m0, h0, zr⟩ := pr_get q.r.nodes hz
  cases hm.symm.trans h0
  have mc := q.w.cell _ (List.mem_of_getElem? hm)
  have zk := (pr_keys (fun _ _ w => w.1) zr.cells).trans mc
  refine ⟨zr, zk, mc, ?_⟩
  have e := congrArg List.length zk
  rw [List.length_map] at e
  have := q.w.w4
  omega
theorem NetQ.yk (q : NetQ c H n g M Z) (hy : Z.rows[j]? = some y) (hr : M.rows[j]? = some r) : RowR H y r ∧ y.cells.map (·.1) = M.words ∧ r.cells.map (·.1) = M.words ∧ y.cells.length ≤ 4 := by
  obtain ⟨m0, h0, yr⟩ := pr_get q.r.rows hy
  cases hr.symm.trans h0
  have mc := q.w.rcell _ (List.mem_of_getElem? hr)
  have zk := (pr_keys (fun _ _ w => w.1) yr.cells).trans mc
  refine ⟨yr, zk, mc, ?_⟩
  have e := congrArg List.length zk
  rw [List.length_map] at e
  have := q.w.w4
  omega
/-- where a node stands -/
theorem NetQ.at_ (q : NetQ c H n g M Z) {na : Addr} (hs : (m.label, na) ∈ g.nx) (hm : m ∈ M.nodes) : ∃ (j : Nat) (z : NodeZ), Z.nodes[j]? = some z ∧ M.nodes[j]? = some m ∧ z.na = na := by
  obtain ⟨j, z, m', hz, hm', hna, hl, zr⟩ := q.node hs
  have h1 := nod_of q.w (List.mem_of_getElem? hm')
  rw [← zr.label, hl, nod_of q.w hm] at h1
  cases h1
  exact ⟨j, z, hz, hm', hna⟩
/-- a kid and its row -/
theorem NetQ.kidAt (q : NetQ c H n g M Z) (hz : Z.nodes[j]? = some z) (hm : M.nodes[j]? = some m) {i : Nat} {ch : Str} {ra : Addr} (hk : z.kids[i]? = some (ch, ra)) :
    ∃ (jr : Nat) (y : RowZ) (r : RowM), Z.rows[jr]? = some y ∧ M.rows[jr]? = some r ∧ RowR H y r ∧ y.ra = ra ∧ r.child = ch ∧ M.row ch = some r ∧ m.kids[i]? = some ch := by
  obtain ⟨zr, _⟩ := q.zk hz hm
  have hmk : m.kids[i]? = some ch := by rw [← zr.kids, List.getElem?_map, hk]; rfl
  obtain ⟨y, hy, e⟩ := List.mem_map.mp (zr.kin _ (List.mem_of_getElem? hk))
  obtain ⟨e1, e2⟩ := Prod.mk.inj e
  obtain ⟨jr, hjr⟩ := List.mem_iff_getElem?.mp hy
  obtain ⟨r, hr, yr⟩ := pr_get q.r.rows hjr
  have hc : r.child = ch := by rw [← yr.child, e1]
  exact ⟨jr, y, r, hjr, hr, yr, e2, hc, by rw [← hc]; exact row_of q.w (List.mem_of_getElem? hr), hmk⟩
/-- an entry's pair -/
theorem NetQ.entAt (q : NetQ c H n g M Z) (hy : Z.rows[j]? = some y) (hr : M.rows[j]? = some r) (hk : key ∈ M.words) : ∃ (i : Nat) (cf gr : Int) (t : Addr), r.cells[i]? = some (key, cf, gr) ∧ y.cells[i]? = some (key, .ref t) ∧ r.get key = some (cf, gr) ∧ valV (strK y.cells) (Sum.inr key) = some (.ref t) ∧ H t = some (.tup [.int cf, .int gr]) := by
  obtain ⟨yr, yk, rk, _⟩ := q.yk hy hr
  have hkr : key ∈ r.cells.map (·.1) := by rw [rk]; exact hk
  obtain ⟨⟨k1, cf, gr⟩, hp, e⟩ := List.mem_map.mp hkr
  have e : k1 = key := e
  subst e
  obtain ⟨i, hi⟩ := List.mem_iff_getElem?.mp hp
  obtain ⟨⟨p1, p2⟩, h2, ek, htd⟩ := pr_get' yr.cells hi
  have ek : p1 = k1 := ek
  subst ek
  obtain ⟨t, et, ht⟩ := td_two htd
  have et : p2 = .ref t := et
  subst et
  exact ⟨i, cf, gr, t, hi, h2, getK_mem (by rw [rk]; exact q.w.wnd) hp, strKv (by rw [yk]; exact q.w.wnd) (List.mem_of_getElem? h2), ht⟩
/-- a node's cell -/
theorem NetQ.cellAt (q : NetQ c H n g M Z) (hz : Z.nodes[j]? = some z) (hm : M.nodes[j]? = some m) (hk : key ∈ M.words) : ∃ (i : Nat) (o : Option CellM), m.cells[i]? = some (key, o) ∧ m.cell key = o ∧ ((o = none ∧ valV (strK z.cells) (Sum.inr key) = some .non) ∨
    ∃ (cm : CellM) (t tc : Addr) (av : V), o = some cm ∧ valV (strK z.cells) (Sum.inr key) = some (.ref t) ∧ H t = some (.tup [.ref tc, .int cm.alw, .int cm.told, av]) ∧ H tc = some (.tup [.int cm.num, .int cm.val]) ∧ Td H av (optD cm.asked)) := by
  obtain ⟨zr, zk, mc, _⟩ := q.zk hz hm
  have hkm : key ∈ m.cells.map (·.1) := by rw [mc]; exact hk
  obtain ⟨⟨k1, o⟩, hp, e⟩ := List.mem_map.mp hkm
  have e : k1 = key := e
  subst e
  obtain ⟨i, hi⟩ := List.mem_iff_getElem?.mp hp
  obtain ⟨⟨p1, p2⟩, h2, ek, htd⟩ := pr_get' zr.cells hi
  have ek : p1 = k1 := ek
  subst ek
  have hv := strKv (by rw [zk]; exact q.w.wnd) (List.mem_of_getElem? h2)
  have hg := getK_mem (by rw [mc]; exact q.w.wnd) hp
  have hcell : m.cell p1 = o := by
    unfold NodeM.cell
    rw [hg]
    cases o <;> rfl
  refine ⟨i, o, hi, hcell, ?_⟩
  cases o with
  | none =>
    have htd : Td H p2 .none := htd
    refine .inl ⟨rfl, ?_⟩
    rw [hv]
    cases htd
    rfl
  | some cm =>
    obtain ⟨t, tc, av, e, h3, h4, h5⟩ := td_cell htd
    have e : p2 = .ref t := e
    subst e
    exact .inr ⟨cm, t, tc, av, rfl, hv, h3, h4, h5⟩
/-- a node's own row -/
theorem NetQ.ownRow (q : NetQ c H n g M Z) (hz : Z.nodes[j]? = some z) (hm : M.nodes[j]? = some m) {u : Str} (ha : m.above = some u) : ∃ (jr : Nat) (y : RowZ) (r : RowM), Z.rows[jr]? = some y ∧ M.rows[jr]? = some r ∧ RowR H y r ∧ r.child = m.label ∧ M.row m.label = some r ∧ z.row = .ref y.ra := by
  obtain ⟨zr, _⟩ := q.zk hz hm
  have h := zr.row
  rw [ha] at h
  obtain ⟨ra, hin, e⟩ := h
  obtain ⟨y, hy, e2⟩ := List.mem_map.mp hin
  obtain ⟨e3, e4⟩ := Prod.mk.inj e2
  obtain ⟨jr, hjr⟩ := List.mem_iff_getElem?.mp hy
  obtain ⟨r, hr, yr⟩ := pr_get q.r.rows hjr
  have hc : r.child = m.label := by rw [← yr.child, e3]
  exact ⟨jr, y, r, hjr, hr, yr, hc, by rw [← hc]; exact row_of q.w (List.mem_of_getElem? hr), by rw [e, e4]⟩
/-! ### steps -/
theorem NetQ.pushUp (q : NetQ c H n g M Z) (hy : Z.rows[j]? = some y) (hr : M.rows[j]? = some r) {v : V} {d : Msg} (hv : Td H v d.d) :
    NetQ c (upd H y.uq (.lst (y.up ++ [v]))) n g (M.sendUp r.child d) { Z with rows := Z.rows.set j { y with up := y.up ++ [v] } } := by
  have hH := row_up q.h (set_split hy) (y.up ++ [v])
  rw [← set_mid hy] at hH
  obtain ⟨r0, h0, hyr⟩ := pr_get q.r.rows hy
  cases hr.symm.trans h0
  have kt : KT H (upd H y.uq (.lst (y.up ++ [v]))) := KT.upd fun xs w => by
    have := q.h.at_row (List.mem_of_getElem? hy) 3
    rw [this] at w
    cases w
  have w := hyr.mono kt
  have q2 := q.setRow (r' := { r with up := r.up ++ [d] }) hy hr hH rfl rfl rfl ⟨w.child, w.above, w.dl, w.ul, w.cells, w.rais, w.there, w.crashed, w.down, by rw [List.map_append]; exact w.up.append (.cons (hv.mono kt) .nil)⟩ rfl kt
  have e : M.rows.set j { r with up := r.up ++ [d] } = (M.sendUp r.child d).rows := set_by (f := fun x : RowM => x.child) (F := fun r => { r with up := r.up ++ [d] }) q.w.rnd hr
  rw [e] at q2
  exact q2
theorem NetQ.pushDown (q : NetQ c H n g M Z) (hy : Z.rows[j]? = some y) (hr : M.rows[j]? = some r) {v : V} {d : Msg} (hv : Td H v d.d) :
    NetQ c (upd H y.dq (.lst (y.down ++ [v]))) n g (M.sendDown r.child d) { Z with rows := Z.rows.set j { y with down := y.down ++ [v] } } := by
  obtain ⟨r0, h0, hyr⟩ := pr_get q.r.rows hy
  cases hr.symm.trans h0
  have q2 := q.setDown (dm := r.down ++ [d]) hy hr (by rw [List.map_append]; exact hyr.down.append (.cons hv .nil))
  have e : M.rows.set j { r with down := r.down ++ [d] } = (M.sendDown r.child d).rows := set_by (f := fun x : RowM => x.child) (F := fun r => { r with down := r.down ++ [d] }) q.w.rnd hr
  rw [e] at q2
  exact q2
theorem NetQ.putCell (q : NetQ c H n g M Z) (hz : Z.nodes[j]? = some z) (hm : M.nodes[j]? = some m) {o o' : Option CellM} (hc : m.cells[i]? = some (key, o)) {v : V} (hv : Td H v (cellD o')) :
    NetQ c (upd H z.cd (.dK (putK (strK z.cells) (Sum.inr key) v))) n g (M.setCell m.label key o') { Z with nodes := Z.nodes.set j { z with cells := z.cells.set i (key, v) } } := by
  have q2 := q.setCell hz hm hc hv
  obtain ⟨_, _, mc, _⟩ := q.zk hz hm
  have e1 : m.cells.set i (key, o') = setK m.cells key o' := setK_of (by rw [mc]; exact q.w.wnd) hc
  have e : M.nodes.set j { m with cells := m.cells.set i (key, o') } = (M.setCell m.label key o').nodes := by
    rw [e1]
    exact set_by (f := fun x : NodeM => x.label) (F := fun m => { m with cells := setK m.cells key o' }) q.w.nnd hm
  rw [e] at q2
  exact q2
/-- the pair of an entry takes other numbers -/
theorem NetQ.putEnt (q : NetQ c H n g M Z) (hy : Z.rows[j]? = some y) (hr : M.rows[j]? = some r) {cf gr cf' gr' : Int} (hc : r.cells[i]? = some (key, cf, gr)) {t : Addr} (ht : H t = some (.tup [.int cf', .int gr'])) :
    NetQ c (upd H y.cd (.dK (putK (strK y.cells) (Sum.inr key) (.ref t)))) n g (M.setRow r.child key cf' gr') { Z with rows := Z.rows.set j { y with cells := y.cells.set i (key, .ref t) } } := by
  obtain ⟨yr, yk, rk, _⟩ := q.yk hy hr
  obtain ⟨⟨p1, p2⟩, hp, ep, _⟩ := pr_get' yr.cells hc
  have ep : p1 = key := ep
  subst ep
  rw [strK_set (v := .ref t) (by rw [yk]; exact q.w.wnd) hp]
  have hH := row_cells q.h (set_split hy) (y.cells.set i (p1, .ref t))
  rw [← set_mid hy] at hH
  have kt : KT H (upd H y.cd (.dK (strK (y.cells.set i (p1, .ref t))))) := KT.upd fun xs w => by
    have := q.h.at_row (List.mem_of_getElem? hy) 1
    rw [this] at w
    cases w
  have w := yr.mono kt
  have q2 := q.setRow (r' := { r with cells := r.cells.set i (p1, cf', gr') }) hy hr hH rfl rfl rfl ⟨w.child, w.above, w.dl, w.ul, pr_set w.cells ⟨rfl, .tup (kt _ _ ht) (.cons (.int _) (.cons (.int _) .nil))⟩, w.rais, w.there, w.crashed, w.down, w.up⟩ (set_map_same (a := (p1, cf, gr)) (b := (p1, cf', gr')) rfl hc) kt
  have e1 : r.cells.set i (p1, cf', gr') = setK r.cells p1 (cf', gr') := setK_of (by rw [rk]; exact q.w.wnd) hc
  have e : M.rows.set j { r with cells := r.cells.set i (p1, cf', gr') } = (M.setRow r.child p1 cf' gr').rows := by
    rw [e1]
    exact set_by (f := fun x : RowM => x.child) (F := fun r => { r with cells := setK r.cells p1 (cf', gr') }) q.w.rnd hr
  rw [e] at q2
  exact q2
end
end NZ
set_option Elab.async false
set_option linter.all false
set_option maxRecDepth 100000
set_option maxHeartbeats 4000000
namespace K03
open PySem L2 EX PyProof.Rows LamX
open NZ
abbrev sSv : Stmt := inClass (top 22) 19
theorem scSv : FnScope ["self", "key", "need", "floor", "copy", "allowance", "told", "asked"] ["self", "key", "need", "floor"] (defScope sSv) := ⟨rfl, rfl, rfl, by decide +kernel, rfl, by decide +kernel, by decide +kernel⟩
abbrev sAg : Stmt := inClass (top 22) 20
theorem scAg : FnScope ["self", "key", "allowance", "told", "row", "confirmed", "granted"] ["self", "key", "allowance"] (defScope sAg) := ⟨rfl, rfl, rfl, by decide +kernel, rfl, by decide +kernel, by decide +kernel⟩
abbrev sRn : Stmt := top 38
theorem scRn : FnScope ["node", "key", "copy", "allowance", "told", "asked", "row", "limit", "entry", "confirmed", "granted"] ["node", "key", "copy", "allowance", "told", "asked"] (defScope sRn) := ⟨rfl, rfl, rfl, by decide +kernel, rfl, by decide +kernel, by decide +kernel⟩
abbrev sHc : Stmt := top 52
theorem scHc : FnScope ["net", "node", "sender", "message", "key", "number", "value", "allowance"] ["net", "node", "sender", "message"] (defScope sHc) := ⟨rfl, rfl, rfl, by decide +kernel, rfl, by decide +kernel, by decide +kernel⟩
abbrev sHl : Stmt := top 54
theorem scHl : FnScope ["net", "node", "sender", "message", "key", "copy", "allowance", "told", "asked"] ["net", "node", "sender", "message"] (defScope sHl) := ⟨rfl, rfl, rfl, by decide +kernel, rfl, by decide +kernel, by decide +kernel⟩
abbrev sHr : Stmt := top 55
theorem scHr : FnScope ["net", "node", "sender", "message", "key", "copy", "allowance", "told", "asked"] ["net", "node", "sender", "message"] (defScope sHr) := ⟨rfl, rfl, rfl, by decide +kernel, rfl, by decide +kernel, by decide +kernel⟩
abbrev sHu : Stmt := top 53
theorem scHu : FnScope ["net", "node", "sender", "message", "key", "copy", "allowance", "told", "asked"] ["net", "node", "sender", "message"] (defScope sHu) := ⟨rfl, rfl, rfl, by decide +kernel, rfl, by decide +kernel, by decide +kernel⟩
/-- the node at na -/
structure At (c : Cs) (H : Hp) (n : Addr) (g : Sg) (M : NetM) (m : NodeM) (na : Addr) : Prop where
  net : NetA c H n g M
  nx : (m.label, na) ∈ g.nx
  mem : m ∈ M.nodes
def optV : Option Int → V
  | none => .non
  | some i => .int i
theorem td_opt {H : Hp} {v : V} {o : Option Int} (h : Td H v (optD o)) : v = optV o := by
  cases o with
  | none =>
    have h : Td H v .none := h
    cases h
    rfl
  | some i =>
    have h : Td H v (.int i) := h
    cases h
    rfl
def spServes (c : Cs) : Sp := fun vs H Q _ => ∃ (na : Addr) (key : Str) (need floor : Int) (n : Addr) (g : Sg) (M : NetM) (m : NodeM), vs = [.ref na, .str key, .int need, .int floor] ∧ At c H n g M m na ∧ key ∈ M.words ∧ Q (.bl (m.serves key need floor)) H
def spAgrees (c : Cs) : Sp := fun vs H Q _ => ∃ (na : Addr) (key : Str) (a : Int) (n : Addr) (g : Sg) (M : NetM) (m : NodeM) (cm : CellM), vs = [.ref na, .str key, .int a] ∧ At c H n g M m na ∧ key ∈ M.words ∧ m.cell key = some cm ∧ ∀ H', Same H H' → Q (.bl (M.agrees m.kids key cm.told a)) H'
/-- renew: the asked allowance stands with the told number of the cell -/
def spRenew (c : Cs) : Sp := fun vs H Q _ => ∃ (na cp : Addr) (key : Str) (num val alw told : Int) (asked : Option Int) (n : Addr) (g : Sg) (M : NetM) (m : NodeM) (u : Str), vs = [.ref na, .str key, .ref cp, .int alw, .int told, optV asked] ∧ H cp = some (.tup [.int num, .int val]) ∧
  At c H n g M m na ∧ m.above = some u ∧ key ∈ M.words ∧ (asked ≠ none → ∃ cm, m.cell key = some cm ∧ cm.told = told) ∧ (∀ r ∈ M.rows, r.up.length < 990) ∧ ∀ H', Keeps g.S H H' → NetA c H' n g (M.renew m key num val alw told asked) → Q .non H'
/-- hear_..: mg the message, post the net after it -/
def spHear (c : Cs) (pre : NetM → NodeM → Str → Msg → Prop) (post : NetM → NodeM → Str → Msg → NetM) : Sp := fun vs H Q _ => ∃ (n na : Addr) (sd : Str) (mv : V) (g : Sg) (M : NetM) (m : NodeM) (mg : Msg), vs = [.ref n, .ref na, .str sd, mv] ∧ Td H mv mg.d ∧ At c H n g M m na ∧ pre M m sd mg ∧ (∀ r ∈ M.rows, r.up.length < 990 ∧ r.down.length < 990) ∧ ∀ H', Keeps g.S H H' → NetA c H' n g (post M m sd mg) → Q .non H'
def preCopy (M : NetM) (m : NodeM) (_ : Str) (mg : Msg) : Prop := ∃ key num val alw, mg = .copy key num val alw ∧ key ∈ M.words ∧ ∃ u, m.above = some u
def postCopy (M : NetM) (m : NodeM) (_ : Str) : Msg → NetM
  | .copy key num val alw => M.renew m key num val alw num none
  | _ => M
def preLower (M : NetM) (m : NodeM) (_ : Str) (mg : Msg) : Prop := ∃ key alw, mg = .lower key alw ∧ key ∈ M.words ∧ (∃ u, m.above = some u) ∧ ∃ cm, m.cell key = some cm
def postLower (M : NetM) (m : NodeM) (_ : Str) : Msg → NetM
  | .lower key alw => match m.cell key with
    | some cm => M.renew m key cm.num cm.val alw cm.told cm.asked
    | none => M
  | _ => M
def preRaise (M : NetM) (m : NodeM) (_ : Str) (mg : Msg) : Prop := ∃ key alw, mg = .raise key alw ∧ key ∈ M.words ∧ (∃ u, m.above = some u) ∧ ∃ cm, m.cell key = some cm
def postRaise (M : NetM) (m : NodeM) (_ : Str) : Msg → NetM
  | .raise key alw => match m.cell key with
    | some cm => M.renew m key cm.num cm.val cm.alw cm.told (some alw)
    | none => M
  | _ => M
def preUpdate (M : NetM) (m : NodeM) (_ : Str) (mg : Msg) : Prop := ∃ key num val, mg = .update key num val ∧ key ∈ M.words ∧ (∃ u, m.above = some u) ∧ ∃ cm, m.cell key = some cm
def postUpdate (M : NetM) (m : NodeM) (_ : Str) : Msg → NetM
  | .update key num val => match m.cell key with
    | some cm => (sendM M m.kids (.update key num val)).renew m key num val cm.alw cm.told cm.asked
    | none => M
  | _ => M
section
variable {P : Program} {w : World} {K : PySem.W.Frag} {mg : Str → Option Value} {base : Heap}
theorem ok_sv {c : Cs} {f : Addr} {fd : FuncData} (F : Fun K "serves" "Cache.serves" sSv f fd) (TC : CacheC K c.C) : FnOk P w K mg base CX0 1 f fd ["self", "key", "need", "floor"] (spServes c) := by
  refine F.ok scSv (fun vs H Q E h => ?_) (fun cdv A outer s H vs Q E hr h => ?_)
  · obtain ⟨na, key, need, floor, n, g, M, m, rfl, _⟩ := h
    rfl
  · obtain ⟨na, key, need, floor, n, g, M, m, rfl, ⟨⟨Z, q⟩, hnx, hmem⟩, hk, k⟩ := h
    have hu := hu_of hr
    obtain ⟨j, z, hz, hm, rfl⟩ := q.at_ hnx hmem
    have hzm := List.mem_of_getElem? hz
    have hN := NodeH.of q.h hzm
    obtain ⟨i, o, hc, hcell, hh⟩ := q.cellAt hz hm hk
    refine ⟨_, (pss_cons (ps_if (pt_cmp (pc_isN (pe_dget hu (pe_fld (pv 0) rfl) (pv 1) (fun _ _ => rfl)))) (pss_one (ps_ret pe_bl)) pss_nil)
        (pss_cons (ps_asg (pe_dget hu (pe_fld (pv 0) rfl) (pv 1) (fun _ _ => rfl)) (pg_tup rfl (pgs_cons (pg_name (i := 4) scSv.nd rfl (Or.inl rfl)) (pgs_cons (pg_name (i := 5) scSv.nd rfl (Or.inl rfl)) (pgs_cons (pg_name (i := 6) scSv.nd rfl (Or.inl rfl)) (pgs_cons (pg_name (i := 7) scSv.nd rfl (Or.inl rfl)) pgs_nil))))))
        (pss_one (ps_ret (pe_and (pe_cmpR op_ge (pe_ix ix_tup (pv 4) pe_int (fun _ _ => rfl)) (pv 3) (nomark _)) (pe_one (pe_cmpR op_le (pe_op op_sub (pe_op op_add (pv 6) (pv 5)) (pe_ix ix_tup (pv 4) pe_int (fun _ _ => rfl))) (pv 2) (nomark _)))))))), ?_⟩
    unfold NodeM.serves at k
    rw [hcell] at k
    rcases hh with ⟨rfl, hv⟩ | ⟨cm, t, tc, av, rfl, hv, ht, htc, hav⟩
    · have hg : DGet H z.cd (.str key) (some .non) := .inl ⟨strK z.cells, Sum.inr key, .inl hN.cd, rfl, hv.symm⟩
      exact ⟨_, rfl, z.na, c.C, _, _, _, rfl, hN.i, TC.cl, TC.cells, rfl, _, rfl, z.cd, _, rfl, hg, _, rfl, ifT rfl k⟩
    · have hg : DGet H z.cd (.str key) (some (.ref t)) := .inl ⟨strK z.cells, Sum.inr key, .inl hN.cd, rfl, hv.symm⟩
      refine ⟨_, rfl, z.na, c.C, _, _, _, rfl, hN.i, TC.cl, TC.cells, rfl, _, rfl, z.cd, _, rfl, hg, _, rfl, ifF (decide_eq_false fun w => nomatch w) ?_⟩
      refine ⟨_, rfl, z.na, c.C, _, _, _, rfl, hN.i, TC.cl, TC.cells, rfl, _, rfl, z.cd, _, rfl, hg, t, _, rfl, SqT.of ht, rfl, _, _, rfl, _, _, rfl, _, _, rfl, _, _, rfl, rfl, ?_⟩
      refine ⟨_, rfl, tc, _, _, _, rfl, rfl, SqT.of htc, atI_nat (j := 0) rfl, _, rfl, _, _, rfl, rfl, ?_⟩
      have k : Q (.bl (decide (floor ≤ cm.num) && decide (cm.told + cm.alw - cm.num ≤ need))) H := k
      refine ⟨_, rfl, ite2 (fun h => ?_) (fun h => ?_)⟩
      · rw [show decide (floor ≤ cm.num) = true from h, Bool.true_and] at k
        exact ⟨_, rfl, _, rfl, _, _, rfl, rfl, _, rfl, tc, _, _, _, rfl, rfl, SqT.of htc, atI_nat (j := 0) rfl, _, _, rfl, rfl, _, rfl, _, _, rfl, rfl, k⟩
      · rw [show decide (floor ≤ cm.num) = false by simpa using h, Bool.false_and] at k
        exact k
theorem ok_ag {c : Cs} {f : Addr} {fd : FuncData} (F : Fun K "agrees" "Cache.agrees" sAg f fd) (TC : CacheC K c.C) (TE : EntryC K c.E) : FnOk P w K mg base CX0 1 f fd ["self", "key", "allowance"] (spAgrees c) := by
  refine F.ok scAg (fun vs H Q E h => ?_) (fun cdv A outer s H vs Q E hr h => ?_)
  · obtain ⟨na, key, a, n, g, M, m, cm, rfl, _⟩ := h
    rfl
  · obtain ⟨na, key, a, n, g, M, m, cm, rfl, ⟨⟨Z, q⟩, hnx, hmem⟩, hk, hcm, k⟩ := h
    have hu := hu_of hr
    obtain ⟨j, z, hz, hm, rfl⟩ := q.at_ hnx hmem
    have hzm := List.mem_of_getElem? hz
    have hN := NodeH.of q.h hzm
    obtain ⟨zr, _⟩ := q.zk hz hm
    obtain ⟨i0, o, hc, hcell, hh⟩ := q.cellAt hz hm hk
    rw [hcm] at hcell
    rcases hh with ⟨e0, _⟩ | ⟨cm', t, tc, av, e0, hv, ht, htc, hav⟩
    · rw [e0] at hcell
      cases hcell
    rw [e0] at hcell
    cases hcell
    have hg : DGet H z.cd (.str key) (some (.ref t)) := .inl ⟨strK z.cells, Sum.inr key, .inl hN.cd, rfl, hv.symm⟩
    refine ⟨_, (pss_cons (ps_set (i := 3) scAg.nd rfl (Or.inl rfl) (pe_ix ix_tup (pe_dget hu (pe_fld (pv 0) rfl) (pv 1) (fun _ _ => rfl)) pe_int (fun _ _ => rfl)))
        (pss_cons (ps_lock (ps_for PassesOwn.never rfl (pi_values (pe_fld (pv 0) rfl)) (pg_name (i := 4) scAg.nd rfl (Or.inl rfl)) (pss_cons (ps_asg (pe_dget hu (pe_fld (pv 4) rfl) (pv 1) (fun _ _ => rfl)) (pg_tup rfl (pgs_cons (pg_name (i := 5) scAg.nd rfl (Or.inl rfl)) (pgs_cons (pg_name (i := 6) scAg.nd rfl (Or.inl rfl)) pgs_nil))))
        (pss_one (ps_if (PW.pt (pw_or (pt_cmpR op_gt (pv 2) (pv 6) (nomark _)) (pw_or1 (pt_cmpR op_gt (pe_op op_sub (pe_op op_add (pv 3) (pv 2)) (pv 5)) (pv 6) (nomark _))))) (pss_one (ps_ret pe_bl)) pss_nil)))))
        (pss_one (ps_ret pe_bl)))), ?_⟩
    refine ⟨_, rfl, z.na, c.C, _, _, _, rfl, hN.i, TC.cl, TC.cells, rfl, _, rfl, z.cd, _, rfl, hg, t, _, _, _, rfl, rfl, SqT.of ht, atI_nat (j := 2) rfl, ?_⟩
    have hen := hN.en
    refine ⟨z.en, .dK (refK z.kids), hen, trivial, fun od => ?_⟩
    have nne : ∀ {a : Addr} {o : HO}, H a = some o → (∀ d, o ≠ .dK d) → a ≠ z.en := fun {a o} h1 h2 e => by
      rw [e, hen] at h1
      exact h2 _ (Option.some.inj h1).symm
    have l3 : upd H z.en (.frz od (.dK (refK z.kids))) z.en = some (.frz od (.dK (refK z.kids))) := upd_same
    have li : ∀ {a : Addr} {o : HO}, H a = some o → (∀ d, o ≠ .dK d) → upd H z.en (.frz od (.dK (refK z.kids))) a = some o := fun h1 h2 => by
      rw [upd_ne (nne h1 h2)]
      exact h1
    have lr : ∀ {a : Addr} {d : List (Key × V)}, H a = some (.dK d) → Rd (upd H z.en (.frz od (.dK (refK z.kids)))) a (.dK d) := fun h1 => rd_lock (.inl h1) hen
    have eU : upd (upd H z.en (.frz od (.dK (refK z.kids)))) z.en (.dK (refK z.kids)) = H := by
      rw [EX.upd_upd]
      funext x
      by_cases e : x = z.en
      · rw [e, upd_same, hen]
      · rw [upd_ne e]
    generalize upd H z.en (HO.frz od (.dK (refK z.kids))) = L at l3 li lr eU ⊢
    refine ⟨_, rfl, z.na, c.C, _, _, _, rfl, li hN.i (fun _ w => nomatch w), TC.cl, TC.entries, rfl, z.en, od, _, rfl, l3, ?_⟩
    refine for_it (walk_values (d := z.en) (o := od) (kvs := refK z.kids)) (fun i σ' Hh => ∃ v4 v5 v6 : Option V, σ' = [some (.ref z.na), some (.str key), some (.int a), some (.int cm.told), v4, v5, v6] ∧ Hh = L ∧ (m.kids.take i).all (M.agr1 key cm.told a) = true) ⟨none, none, none, rfl, rfl, rfl⟩ (fun i σ' Hh _ w => by obtain ⟨_, _, _, _, e, _⟩ := w; rw [e]; exact l3) ?_ ?_
    · rintro i x σ' H1 H2 hi ⟨v4, v5, v6, rfl, e1, hall⟩ ⟨e2, kk0, hx⟩
      have e3 : H2 = L := by first | exact e2.trans e1 | exact e2.symm.trans e1
      subst e3
      have hx : (refK z.kids)[i]? = some (kk0, x) := hx
      rw [List.getElem?_map] at hx
      obtain ⟨⟨ch, ra⟩, hki, e⟩ := Option.map_eq_some_iff.mp hx
      cases e
      obtain ⟨jr, y, r, hy, hr2, yr, era, hch, hrow, hmk⟩ := q.kidAt hz hm hki
      obtain ⟨i2, cf, gr, t2, hri, hyi, hget, hv2, ht2⟩ := q.entAt hy hr2 hk
      have hRH := RowH.of q.h (List.mem_of_getElem? hy)
      have hri2 : H2 y.ra = _ := li hRH.i (fun _ w => nomatch w)
      have hg2 : DGet H2 y.cd (.str key) (some (.ref t2)) := .inl ⟨strK y.cells, Sum.inr key, lr hRH.cd, rfl, hv2.symm⟩
      have h1 : M.agr1 key cm.told a ch = (decide (a ≤ gr) && decide (cm.told + a - cf ≤ gr)) := by
        unfold NetM.agr1
        rw [hrow]
        show (match r.get key with | some (cf, gr) => decide (a ≤ gr) && decide (cm.told + a - cf ≤ gr) | none => true) = _
        rw [hget]
      have fin : M.agr1 key cm.told a ch = false → Q (.bl false) H := fun h => by
        have := k H (Same.refl _)
        rw [show M.agrees m.kids key cm.told a = false from List.all_eq_false.mpr ⟨ch, List.mem_of_getElem? hmk, by rw [h]; decide⟩] at this
        exact this
      subst era
      refine ⟨_, rfl, y.ra, c.E, _, _, _, rfl, hri2, TE.cl, TE.cells, rfl, _, rfl, y.cd, _, rfl, hg2, t2, _, rfl, SqT.of (li ht2 (fun _ w => nomatch w)), rfl, _, _, rfl, _, _, rfl, rfl, ?_⟩
      refine ⟨_, rfl, _, rfl, _, _, rfl, rfl, _, rfl, ite2 (fun hlt => ?_) (fun hlt => ?_)⟩
      · refine ite2 (fun _ => ?_) (fun z => absurd rfl z)
        refine ⟨l3, ?_⟩
        rw [eU]
        refine fin ?_
        rw [h1, show decide (a ≤ gr) = false by simpa using hlt]
        rfl
      refine ⟨_, rfl, _, rfl, _, _, rfl, rfl, _, rfl, _, _, rfl, rfl, _, rfl, _, _, rfl, rfl, _, rfl, ite2 (fun hlt2 => ?_) (fun hlt2 => ?_)⟩
      · refine ⟨l3, ?_⟩
        rw [eU]
        refine fin ?_
        rw [h1, show decide (cm.told + a - cf ≤ gr) = false by simpa using hlt2, Bool.and_false]
      · refine ⟨_, _, _, rfl, rfl, ?_⟩
        rw [List.take_add_one, hmk, List.all_append, hall]
        show (true && (M.agr1 key cm.told a ch && true)) = true
        rw [h1, show decide (a ≤ gr) = true by simpa using hlt, show decide (cm.told + a - cf ≤ gr) = true by simpa using hlt2]
        rfl
    · rintro σ' H1 ⟨v4, v5, v6, rfl, e1, hall⟩
      subst e1
      refine ⟨l3, ?_⟩
      rw [eU]
      have el : (refK z.kids).length = m.kids.length := by rw [List.length_map, ← zr.kids, List.length_map]
      rw [el, List.take_length] at hall
      have := k H (Same.refl _)
      rw [show M.agrees m.kids key cm.told a = true from hall] at this
      exact this
end
end K03
set_option Elab.async false
set_option linter.all false
set_option maxRecDepth 100000
set_option maxHeartbeats 4000000
namespace K03
open PySem L2 EX PyProof.Rows LamX
open NZ
section
variable {P : Program} {w : World} {K : PySem.W.Frag} {mg : Str → Option Value} {base : Heap}
theorem ok_rn {c : Cs} {f : Addr} {fd : FuncData} (F : Fun K "renew" "renew" sRn f fd) (TC : CacheC K c.C) (TE : EntryC K c.E) (GAg : MtAt P w K mg base CX0 1 c.C "agrees" ["self", "key", "allowance"] (spAgrees c)) : FnOk P w K mg base CX0 2 f fd ["node", "key", "copy", "allowance", "told", "asked"] (spRenew c) := by
  refine F.ok scRn (fun vs H Q E h => ?_) (fun cdv A outer s H vs Q E hr h => ?_)
  · obtain ⟨na, cp, key, num, val, alw, told, asked, n, g, M, m, u, rfl, _⟩ := h
    rfl
  · obtain ⟨na, cp, key, num, val, alw, told, asked, n, g, M, m, u, rfl, hcp, ⟨⟨Z, q⟩, hnx, hmem⟩, hab, hk, hask, hup, k⟩ := h
    have hu := hu_of hr
    obtain ⟨j, z, hz, hm, rfl⟩ := q.at_ hnx hmem
    have hzm := List.mem_of_getElem? hz
    have hN := NodeH.of q.h hzm
    obtain ⟨zr, zk, mc, zl⟩ := q.zk hz hm
    obtain ⟨jr, y, r, hy, hr0, yr, hrc, hrow, ezr⟩ := q.ownRow hz hm hab
    have hym := List.mem_of_getElem? hy
    have hRH := RowH.of q.h hym
    have nt := q.notup
    have hrl := hup r (List.mem_of_getElem? hr0)
    refine ⟨_, (pss_cons (ps_set (i := 6) scRn.nd rfl (Or.inl rfl) (pe_fld (pv 0) rfl))
        (pss_cons (ps_if (PW.pt (pw_and (pt_cmp (pc_notN (pv 5))) (pw_and1 (pt_val (pe_mtD GAg (hr.mono (by decide)) (pv 0) (pa_cons (pv 1) (pa_cons (pv 5) pa_nil))))))) (pss_cons (ps_set (i := 3) scRn.nd rfl (Or.inl rfl) (pv 5))
        (pss_cons (ps_set (i := 5) scRn.nd rfl (Or.inl rfl) pe_non)
        (pss_one (ps_expr (pe_bm PySem.F.plainAttrs_list PySem.F.slot_list_append PySem.F.type_list_append mt_append (pe_fld (pv 6) rfl) (pa_cons (pe_tup (pa_cons pe_str (pa_cons (pv 1) (pa_cons (pv 3) pa_nil)))) pa_nil)))))) pss_nil)
        (pss_cons (ps_set (i := 7) scRn.nd rfl (Or.inl rfl) (pe_ix ix_tup (pv 2) pe_int (fun _ _ => rfl)))
        (pss_cons (ps_if (pt_cmpR op_gt (pv 7) (pv 4) (nomark _)) (pss_cons (ps_lock (ps_for PassesOwn.never rfl (pi_values (pe_fld (pv 0) rfl)) (pg_name (i := 8) scRn.nd rfl (Or.inl rfl)) (pss_cons (ps_asg (pe_dget hu (pe_fld (pv 8) rfl) (pv 1) (fun _ _ => rfl)) (pg_tup rfl (pgs_cons (pg_name (i := 9) scRn.nd rfl (Or.inl rfl)) (pgs_cons (pg_name (i := 10) scRn.nd rfl (Or.inl rfl)) pgs_nil))))
        (pss_one (ps_if (pt_cmpR op_lt (pe_op op_sub (pe_op op_add (pv 10) (pv 9)) (pv 3)) (pv 7) (nomark _)) (pss_one (ps_set (i := 7) scRn.nd rfl (Or.inl rfl) (pe_op op_sub (pe_op op_add (pv 10) (pv 9)) (pv 3)))) pss_nil)))))
        (pss_one (ps_if (pt_cmpR op_gt (pv 7) (pv 4) (nomark _)) (pss_cons (ps_set (i := 4) scRn.nd rfl (Or.inl rfl) (pv 7))
        (pss_one (ps_expr (pe_bm PySem.F.plainAttrs_list PySem.F.slot_list_append PySem.F.type_list_append mt_append (pe_fld (pv 6) rfl) (pa_cons (pe_tup (pa_cons pe_str (pa_cons (pv 1) (pa_cons (pv 7) pa_nil)))) pa_nil))))) pss_nil))) pss_nil)
        (pss_one (ps_dput hu (pe_fld (pv 0) rfl) (pv 1) (pe_tup (pa_cons (pv 2) (pa_cons (pv 3) (pa_cons (pv 4) (pa_cons (pv 5) pa_nil))))) rfl)))))), ?_⟩
    refine ⟨_, rfl, z.na, c.C, _, _, _, rfl, hN.i, TC.cl, TC.row, rfl, ?_⟩
    rw [ezr]
    obtain ⟨ag, eag⟩ : ∃ ag, ag = M.mayAg m key told asked := ⟨_, rfl⟩
    obtain ⟨alw2, ealw⟩ : ∃ x, x = if ag = true then asked.getD alw else alw := ⟨_, rfl⟩
    obtain ⟨ask2, eask⟩ : ∃ x : Option Int, x = if ag = true then none else asked := ⟨_, rfl⟩
    obtain ⟨M1, eM1⟩ : ∃ x, x = if ag = true then M.sendUp m.label (.agree key alw2) else M := ⟨_, rfl⟩
    have hcong : ∀ ch, (M1.row ch).bind (·.get key) = (M.row ch).bind (·.get key) := fun ch => by
      rw [eM1]
      split
      · exact get_updR (fun _ => rfl) (fun _ => rfl)
      · rfl
    refine ⟨_, rfl, _, rfl, and_to ag (fun h R kR => ?_) (fun h => ?_) (fun Ha Sa => ?_)⟩
    · cases asked with
      | none => cases h
      | some a =>
        obtain ⟨cm, hcm, htold⟩ := hask (fun w => nomatch w)
        refine ⟨_, rfl, z.na, _, _, rfl, hN.i, rfl, _, rfl, _, rfl, z.na, key, a, n, g, M, m, cm, rfl, ⟨⟨Z, q⟩, hnx, hmem⟩, hk, hcm, fun H' S => ⟨_, rfl, ?_⟩⟩
        rw [htold, show M.agrees m.kids key told a = ag from eag.symm]
        exact kR H' S
    · cases asked with
      | none => exact eag
      | some a => cases h
    have qa := q.mono Sa
    have hcpa := Sa _ _ hcp
    refine ifS_via (fun σ' H' => σ' = [some (.ref z.na), some (.str key), some (.ref cp), some (.int alw2), some (.int told), some (optV ask2), some (.ref y.ra), none, none, none, none] ∧ Keeps g.S H H' ∧ H' cp = some (.tup [.int num, .int val]) ∧ ∃ (Z1 : NetZ) (y1 : RowZ) (r1 : RowM), NetQ c H' n g M1 Z1 ∧ Z1.nodes = Z.nodes ∧ M1.nodes = M.nodes ∧ Z1.rows[jr]? = some y1 ∧ M1.rows[jr]? = some r1 ∧ y1.ra = y.ra ∧ r1.child = m.label ∧ r1.up.length < 995) (fun h D' kD => ?_) (fun h D' kD => ?_) ?_
    · subst h
      cases asked with
      | none => cases eag
      | some a =>
        have ealw : alw2 = a := ealw
        subst ealw
        have eask : ask2 = none := eask
        subst eask
        have hRHa := RowH.of qa.h hym
        refine ⟨_, rfl, _, rfl, y.ra, c.E, _, _, _, rfl, hRHa.i, TE.cl, TE.up, rfl, .inl ⟨rfl, _, SqL.of hRHa.uq⟩, _, rfl, _, rfl, by show 3 ≤ sizeLine; decide, fun p hp => ?_⟩
        rw [show upd Ha p (HO.tup [.str "agree", .str key, optV (some alw2)]) = upd Ha p (HO.tup [.str "agree", .str key, .int alw2]) from rfl]
        have S1 : Same Ha (upd Ha p (.tup [.str "agree", .str key, .int alw2])) := Same.upd hp
        have l1 : upd Ha p (HO.tup [.str "agree", .str key, .int alw2]) p = some (.tup [.str "agree", .str key, .int alw2]) := upd_same
        generalize upd Ha p (HO.tup [.str "agree", .str key, .int alw2]) = Hb at S1 l1 ⊢
        have yl : y.up.length < sizeLine := by
          rw [yr.up.length, List.length_map, sizeLine_eq]
          omega
        refine ⟨y.uq, _, _, rfl, rfl, S1 _ _ hRHa.uq, yl, ?_⟩
        have q1 := (qa.mono S1).pushUp (d := .agree key alw2) hy hr0 (.tup l1 (.cons (.str _) (.cons (.str _) (.cons (.int _) .nil))))
        rw [hrc] at q1
        have eM1 : M1 = M.sendUp m.label (.agree key alw2) := eM1
        rw [← eM1] at q1
        have k1 := (Keeps.of (Same.trans Sa S1)).put (o := .lst (y.up ++ [.ref p])) (q.in_row hym 3)
        refine kD _ _ ⟨rfl, k1, (KT.keeps k1 nt) _ _ hcp, _, { y with up := y.up ++ [.ref p] }, { r with up := r.up ++ [.agree key alw2] }, q1, rfl, by rw [eM1]; rfl, ?_, ?_, rfl, hrc, ?_⟩
        · show (Z.rows.set jr _)[jr]? = _
          rw [List.getElem?_set, if_pos rfl, if_pos (List.getElem?_eq_some_iff.mp hy).1]
        · rw [eM1]
          show (M.rows.map fun r => if r.child = m.label then { r with up := r.up ++ [.agree key alw2] } else r)[jr]? = _
          rw [List.getElem?_map, hr0]
          show some (if r.child = m.label then _ else r) = _
          rw [if_pos hrc]
        · show (r.up ++ [_]).length < 995
          rw [List.length_append, List.length_singleton]
          omega
    · subst h
      have e1 : alw2 = alw := ealw
      have e2 : ask2 = asked := eask
      have e3 : M1 = M := eM1
      subst e1 e2 e3
      exact kD _ _ ⟨rfl, Keeps.of Sa, hcpa, Z, y, r, qa, rfl, rfl, hy, hr0, rfl, hrc, by omega⟩
    rintro σ' H1 ⟨rfl, k1, hcp1, Z1, y1, r1, q1, ezn, emn, hy1, hr1, era, hrc1, hrl1⟩
    obtain ⟨lim, elim⟩ : ∃ x, x = if told < num then M.limit m.kids key alw2 num else num := ⟨_, rfl⟩
    obtain ⟨told2, etold⟩ : ∃ x, x = if told < lim then lim else told := ⟨_, rfl⟩
    obtain ⟨M2, eM2⟩ : ∃ x, x = if told < lim then M1.sendUp m.label (.confirm key lim) else M1 := ⟨_, rfl⟩
    have hz1 : Z1.nodes[j]? = some z := by rw [ezn]; exact hz
    have hm1 : M1.nodes[j]? = some m := by rw [emn]; exact hm
    have hzm1 := List.mem_of_getElem? hz1
    have hN1 := NodeH.of q1.h hzm1
    have hym1 := List.mem_of_getElem? hy1
    have hRH1 := RowH.of q1.h hym1
    obtain ⟨yr1, _⟩ := q1.yk hy1 hr1
    have ewd : M1.words = M.words := by rw [eM1]; split <;> rfl
    refine ⟨_, rfl, cp, _, _, _, rfl, rfl, SqT.of hcp1, atI_nat (j := 0) rfl, ?_⟩
    refine ⟨_, rfl, _, rfl, _, _, rfl, rfl, _, rfl, ?_⟩
    refine ifS_via (fun σ' H' => (∃ v7 v8 v9 v10 : Option V, σ' = [some (.ref z.na), some (.str key), some (.ref cp), some (.int alw2), some (.int told2), some (optV ask2), some (.ref y.ra), v7, v8, v9, v10]) ∧ Keeps g.S H H' ∧ H' cp = some (.tup [.int num, .int val]) ∧ ∃ (Z2 : NetZ), NetQ c H' n g M2 Z2 ∧ Z2.nodes = Z.nodes ∧ M2.nodes = M.nodes) (fun h D' kD => ?_) (fun h D' kD => ?_) ?_
    · have hlt : told < num := by simpa using h
      have elim : lim = M.limit m.kids key alw2 num := by rw [elim, if_pos hlt]
      have hen := hN1.en
      refine ⟨z.en, .dK (refK z.kids), hen, trivial, fun od => ?_⟩
      have nne : ∀ {a : Addr} {o : HO}, H1 a = some o → (∀ d, o ≠ .dK d) → a ≠ z.en := fun {a o} h1 h2 e => by
        rw [e, hen] at h1
        exact h2 _ (Option.some.inj h1).symm
      have l3 : upd H1 z.en (.frz od (.dK (refK z.kids))) z.en = some (.frz od (.dK (refK z.kids))) := upd_same
      have li : ∀ {a : Addr} {o : HO}, H1 a = some o → (∀ d, o ≠ .dK d) → upd H1 z.en (.frz od (.dK (refK z.kids))) a = some o := fun h1 h2 => by
        rw [upd_ne (nne h1 h2)]
        exact h1
      have lr : ∀ {a : Addr} {d : List (Key × V)}, H1 a = some (.dK d) → Rd (upd H1 z.en (.frz od (.dK (refK z.kids)))) a (.dK d) := fun h1 => rd_lock (.inl h1) hen
      have eU : upd (upd H1 z.en (.frz od (.dK (refK z.kids)))) z.en (.dK (refK z.kids)) = H1 := by
        rw [EX.upd_upd]
        funext x
        by_cases e : x = z.en
        · rw [e, upd_same, hen]
        · rw [upd_ne e]
      generalize upd H1 z.en (HO.frz od (.dK (refK z.kids))) = L at l3 li lr eU ⊢
      refine ⟨_, rfl, z.na, c.C, _, _, _, rfl, li hN1.i (fun _ w => nomatch w), TC.cl, TC.entries, rfl, z.en, od, _, rfl, l3, ?_⟩
      refine for_it (walk_values (d := z.en) (o := od) (kvs := refK z.kids)) (fun i σ' Hh => ∃ v8 v9 v10 : Option V, σ' = [some (.ref z.na), some (.str key), some (.ref cp), some (.int alw2), some (.int told), some (optV ask2), some (.ref y.ra), some (.int ((m.kids.take i).foldl (M.lim1 key alw2) num)), v8, v9, v10] ∧ Hh = L) ⟨none, none, none, rfl, rfl⟩ (fun i σ' Hh _ w => by obtain ⟨_, _, _, _, e⟩ := w; rw [e]; exact l3) ?_ ?_
      · rintro i x σ' Hx Hy hi ⟨v8, v9, v10, rfl, e1⟩ ⟨e2, kk0, hx⟩
        have e3 : Hy = L := by first | exact e2.trans e1 | exact e2.symm.trans e1
        subst e3
        have hx : (refK z.kids)[i]? = some (kk0, x) := hx
        rw [List.getElem?_map] at hx
        obtain ⟨⟨ch, ra⟩, hki, e⟩ := Option.map_eq_some_iff.mp hx
        cases e
        obtain ⟨jr3, y3, r3, hy3, hr3, yr3, era3, hch3, hrow3, hmk⟩ := q1.kidAt hz1 hm1 hki
        obtain ⟨i2, cf, gr, t2, hri, hyi, hget, hv2, ht2⟩ := q1.entAt (key := key) hy3 hr3 (by rw [ewd]; exact hk)
        have hRH3 := RowH.of q1.h (List.mem_of_getElem? hy3)
        have hri3 : Hy y3.ra = _ := li hRH3.i (fun _ w => nomatch w)
        have hg2 : DGet Hy y3.cd (.str key) (some (.ref t2)) := .inl ⟨strK y3.cells, Sum.inr key, lr hRH3.cd, rfl, hv2.symm⟩
        have hl1 : ∀ l, M.lim1 key alw2 l ch = if gr + cf - alw2 < l then gr + cf - alw2 else l := fun l => by
          unfold NetM.lim1
          rw [← hcong, hrow3]
          show (match r3.get key with | some (cf, gr) => if gr + cf - alw2 < l then gr + cf - alw2 else l | none => l) = _
          rw [hget]
        have hfold : (m.kids.take (i + 1)).foldl (M.lim1 key alw2) num = M.lim1 key alw2 ((m.kids.take i).foldl (M.lim1 key alw2) num) ch := by
          rw [List.take_add_one, hmk, List.foldl_append]
          rfl
        subst era3
        refine ⟨_, rfl, y3.ra, c.E, _, _, _, rfl, hri3, TE.cl, TE.cells, rfl, _, rfl, y3.cd, _, rfl, hg2, t2, _, rfl, SqT.of (li ht2 (fun _ w => nomatch w)), rfl, _, _, rfl, _, _, rfl, rfl, ?_⟩
        refine ⟨_, rfl, _, rfl, _, _, rfl, rfl, _, rfl, _, _, rfl, rfl, _, rfl, _, _, rfl, rfl, _, rfl, ite2 (fun hlt2 => ?_) (fun hlt2 => ?_)⟩
        · refine ⟨_, rfl, _, rfl, _, _, rfl, rfl, _, rfl, _, _, rfl, rfl, some (.ref y3.ra), some (.int cf), some (.int gr), ?_, rfl⟩
          rw [hfold, hl1, if_pos (of_decide_eq_true hlt2)]
          rfl
        · refine ⟨some (.ref y3.ra), some (.int cf), some (.int gr), ?_, rfl⟩
          rw [hfold, hl1, if_neg (fun w => hlt2 (decide_eq_true w))]
          rfl
      rintro σ' Hx ⟨v8, v9, v10, rfl, e1⟩
      subst e1
      refine ⟨l3, ?_⟩
      rw [eU]
      have el : (refK z.kids).length = m.kids.length := by rw [List.length_map, ← zr.kids, List.length_map]
      rw [el, List.take_length, show m.kids.foldl (M.lim1 key alw2) num = lim from elim.symm]
      clear l3 li lr eU nne
      refine ⟨_, rfl, _, rfl, _, _, rfl, rfl, _, rfl, ite2 (fun hlt2 => ?_) (fun hlt2 => ?_)⟩
      · have hl2 : told < lim := of_decide_eq_true hlt2
        rw [if_pos hl2] at etold eM2
        have etold := etold.symm
        subst etold
        refine ⟨_, rfl, _, rfl, y1.ra, c.E, _, _, _, by rw [era], hRH1.i, TE.cl, TE.up, rfl, .inl ⟨rfl, _, SqL.of hRH1.uq⟩, _, rfl, _, rfl, by show 3 ≤ sizeLine; decide, fun p hp => ?_⟩
        have S1 : Same H1 (upd H1 p (.tup [.str "confirm", .str key, .int lim])) := Same.upd hp
        have l1 : upd H1 p (HO.tup [.str "confirm", .str key, .int lim]) p = some (.tup [.str "confirm", .str key, .int lim]) := upd_same
        generalize upd H1 p (HO.tup [.str "confirm", .str key, .int lim]) = Hb at S1 l1 ⊢
        have yl : y1.up.length < sizeLine := by
          rw [yr1.up.length, List.length_map, sizeLine_eq]
          omega
        refine ⟨y1.uq, _, _, rfl, rfl, S1 _ _ hRH1.uq, yl, ?_⟩
        have q2 := (q1.mono S1).pushUp (d := .confirm key lim) hy1 hr1 (.tup l1 (.cons (.str _) (.cons (.str _) (.cons (.int _) .nil))))
        rw [hrc1, ← eM2] at q2
        have k2 := (k1.then S1).put (o := .lst (y1.up ++ [.ref p])) (q1.in_row hym1 3)
        refine kD _ _ ⟨⟨_, _, _, _, rfl⟩, k2, (KT.keeps k2 nt) _ _ hcp, _, q2, ezn, by rw [eM2]; exact emn⟩
      · have hl2 : ¬ told < lim := fun w => hlt2 (decide_eq_true w)
        rw [if_neg hl2] at etold eM2
        subst etold eM2
        exact kD _ _ ⟨⟨_, _, _, _, rfl⟩, k1, hcp1, Z1, q1, ezn, emn⟩
    · have hlt : ¬ told < num := by simpa using h
      have elim : lim = num := by rw [elim, if_neg hlt]
      rw [elim, if_neg hlt] at etold eM2
      subst etold eM2
      exact kD _ _ ⟨⟨_, _, _, _, rfl⟩, k1, hcp1, Z1, q1, ezn, emn⟩
    rintro σ' H2 ⟨⟨v7, v8, v9, v10, rfl⟩, k2, hcp2, Z2, q2, ezn2, emn2⟩
    have hz2 : Z2.nodes[j]? = some z := by rw [ezn2]; exact hz
    have hm2 : M2.nodes[j]? = some m := by rw [emn2]; exact hm
    have hzm2 := List.mem_of_getElem? hz2
    have hN2 := NodeH.of q2.h hzm2
    obtain ⟨i0, o, hc, _, _⟩ := q.cellAt hz hm hk
    refine ⟨_, rfl, _, rfl, _, rfl, _, rfl, by show 4 ≤ sizeLine; decide, fun t ht => ?_⟩
    have S1 : Same H2 (upd H2 t (.tup [.ref cp, .int alw2, .int told2, optV ask2])) := Same.upd ht
    have l1 : upd H2 t (HO.tup [.ref cp, .int alw2, .int told2, optV ask2]) t = some (.tup [.ref cp, .int alw2, .int told2, optV ask2]) := upd_same
    generalize upd H2 t (HO.tup [.ref cp, .int alw2, .int told2, optV ask2]) = H3 at S1 l1 ⊢
    refine ⟨_, rfl, z.na, c.C, _, _, _, rfl, S1 _ _ hN2.i, TC.cl, TC.cells, rfl, _, rfl, z.cd, _, rfl, .inl ⟨strK z.cells, Sum.inr key, S1 _ _ hN2.cd, rfl, by rw [List.length_map, sizeLine_eq]; omega, rfl⟩, ?_⟩
    have hao : Td H3 (optV ask2) (optD ask2) := by
      cases ask2 with
      | none => exact .non
      | some a => exact .int a
    have htd : Td H3 (.ref t) (cellD (some ⟨num, val, alw2, told2, ask2⟩)) := .tup l1 (.cons (.tup (S1 _ _ hcp2) (.cons (.int _) (.cons (.int _) .nil))) (.cons (.int _) (.cons (.int _) (.cons hao .nil))))
    have hfin := (q2.mono S1).putCell hz2 hm2 hc htd
    have ek : M.renew m key num val alw told asked = M2.setCell m.label key (some ⟨num, val, alw2, told2, ask2⟩) := by
      subst eM2 etold eask eM1 elim ealw eag
      rfl
    refine k _ ((k2.then S1).put (q2.in_node hzm2 1)) ?_
    rw [ek]
    exact ⟨_, hfin⟩
end
end K03
set_option Elab.async false
set_option linter.all false
set_option maxRecDepth 100000
set_option maxHeartbeats 4000000
namespace K03
open PySem L2 EX PyProof.Rows LamX
open NZ
section
variable {P : Program} {w : World} {K : PySem.W.Frag} {mg : Str → Option Value} {base : Heap}
theorem ok_hc {c : Cs} {f : Addr} {fd : FuncData} (F : Fun K "hear_copy" "hear_copy" sHc f fd) (GRn : DefAt P w K mg base 2 "renew" ["node", "key", "copy", "allowance", "told", "asked"] (spRenew c)) : FnOk P w K mg base CX0 3 f fd ["net", "node", "sender", "message"] (spHear c preCopy postCopy) := by
  refine F.ok scHc (fun vs H Q E h => ?_) (fun cdv A outer s H vs Q E hr h => ?_)
  · obtain ⟨n, na, sd, mv, g, M, m, mg, rfl, _⟩ := h
    rfl
  · obtain ⟨n, na, sd, mv, g, M, m, mg, rfl, hmv, ⟨⟨Z, q⟩, hnx, hmem⟩, hpre, hroom, k⟩ := h
    have hu := hu_of hr
    obtain ⟨key, num, val, alw, rfl, hk, u, hab⟩ := hpre
    obtain ⟨mp, rfl, hmp⟩ := td_msg hmv
    have hmp : H mp = some (.tup [.str "copy", .str key, .int num, .int val, .int alw]) := hmp
    refine ⟨_, (pss_cons (ps_asg (pe_slice sl_tupA (pv 3) (po_some pe_int) po_none) (pg_tup rfl (pgs_cons (pg_name (i := 4) scHc.nd rfl (Or.inl rfl)) (pgs_cons (pg_name (i := 5) scHc.nd rfl (Or.inl rfl)) (pgs_cons (pg_name (i := 6) scHc.nd rfl (Or.inl rfl)) (pgs_cons (pg_name (i := 7) scHc.nd rfl (Or.inl rfl)) pgs_nil))))))
        (pss_one (ps_expr (pe_callD GRn (hr.mono (by decide)) (pa_cons (pv 1) (pa_cons (pv 4) (pa_cons (pe_tup (pa_cons (pv 5) (pa_cons (pv 6) pa_nil))) (pa_cons (pv 7) (pa_cons (pv 5) (pa_cons pe_non pa_nil)))))))))), ?_⟩
    refine ⟨_, rfl, 1, rfl, mp, _, rfl, SqT.of hmp, (fun w => absurd (show HT.sIx 5 0 (some 1) = 0 from w.1) (by decide)), fun _ p hp => ?_⟩
    rw [show cutV [V.str ("copy" : Str), V.str key, V.int num, V.int val, V.int alw] (some 1) none = [V.str key, V.int num, V.int val, V.int alw] from rfl]
    have S1 : Same H (upd H p (.tup [.str key, .int num, .int val, .int alw])) := Same.upd hp
    have l1 : upd H p (HO.tup [.str key, .int num, .int val, .int alw]) p = some (.tup [.str key, .int num, .int val, .int alw]) := upd_same
    refine ⟨p, _, rfl, SqT.of l1, rfl, _, _, rfl, _, _, rfl, _, _, rfl, _, _, rfl, rfl, ?_⟩
    generalize upd H p (HO.tup [.str key, .int num, .int val, .int alw]) = H1 at S1 l1 ⊢
    refine ⟨_, rfl, _, rfl, _, rfl, _, rfl, by show 2 ≤ sizeLine; decide, fun cp hcp => ?_⟩
    have S2 : Same H1 (upd H1 cp (.tup [.int num, .int val])) := Same.upd hcp
    have l2 : upd H1 cp (HO.tup [.int num, .int val]) cp = some (.tup [.int num, .int val]) := upd_same
    generalize upd H1 cp (HO.tup [.int num, .int val]) = H2 at S2 l2 ⊢
    have S := Same.trans S1 S2
    exact ⟨_, rfl, _, rfl, na, cp, key, num, val, alw, num, none, n, g, M, m, u, rfl, l2, ⟨⟨Z, q.mono S⟩, hnx, hmem⟩, hab, hk, (fun w => absurd rfl w), fun r hr => (hroom r hr).1, fun H' kk a => k H' ((Keeps.of S).trans kk) a⟩
theorem ok_hl {c : Cs} {f : Addr} {fd : FuncData} (F : Fun K "hear_lower" "hear_lower" sHl f fd) (TC : CacheC K c.C) (GRn : DefAt P w K mg base 2 "renew" ["node", "key", "copy", "allowance", "told", "asked"] (spRenew c)) : FnOk P w K mg base CX0 3 f fd ["net", "node", "sender", "message"] (spHear c preLower postLower) := by
  refine F.ok scHl (fun vs H Q E h => ?_) (fun cdv A outer s H vs Q E hr h => ?_)
  · obtain ⟨n, na, sd, mv, g, M, m, mg, rfl, _⟩ := h
    rfl
  · obtain ⟨n, na, sd, mv, g, M, m, mg, rfl, hmv, ⟨⟨Z, q⟩, hnx, hmem⟩, hpre, hroom, k⟩ := h
    have hu := hu_of hr
    obtain ⟨key, alw, rfl, hk, ⟨u, hab⟩, cm, hcm⟩ := hpre
    obtain ⟨mp, rfl, hmp⟩ := td_msg hmv
    have hmp : H mp = some (.tup [.str "lower", .str key, .int alw]) := hmp
    have ek : postLower M m sd (.lower key alw) = M.renew m key cm.num cm.val alw cm.told cm.asked := by
      show (match m.cell key with | some cm => M.renew m key cm.num cm.val alw cm.told cm.asked | none => M) = _
      rw [hcm]
    rw [ek] at k
    obtain ⟨j, z, hz, hm, rfl⟩ := q.at_ hnx hmem
    have hzm := List.mem_of_getElem? hz
    have hN := NodeH.of q.h hzm
    obtain ⟨i0, o, hc, hcell, hh⟩ := q.cellAt hz hm hk
    rw [hcm] at hcell
    rcases hh with ⟨e0, _⟩ | ⟨cm', t, tc, av, e0, hv, ht, htc, hav⟩
    · rw [e0] at hcell
      cases hcell
    rw [e0] at hcell
    cases hcell
    rw [td_opt hav] at ht
    have hg : DGet H z.cd (.str key) (some (.ref t)) := .inl ⟨strK z.cells, Sum.inr key, .inl hN.cd, rfl, hv.symm⟩
    refine ⟨_, (pss_cons (ps_set (i := 4) scHl.nd rfl (Or.inl rfl) (pe_ix ix_tup (pv 3) pe_int (fun _ _ => rfl)))
        (pss_cons (ps_asg (pe_dget hu (pe_fld (pv 1) rfl) (pv 4) (fun _ _ => rfl)) (pg_tup rfl (pgs_cons (pg_name (i := 5) scHl.nd rfl (Or.inl rfl)) (pgs_cons (pg_name (i := 6) scHl.nd rfl (Or.inl rfl)) (pgs_cons (pg_name (i := 7) scHl.nd rfl (Or.inl rfl)) (pgs_cons (pg_name (i := 8) scHl.nd rfl (Or.inl rfl)) pgs_nil))))))
        (pss_one (ps_expr (pe_callD GRn (hr.mono (by decide)) (pa_cons (pv 1) (pa_cons (pv 4) (pa_cons (pv 5) (pa_cons (pe_ix ix_tup (pv 3) pe_int (fun _ _ => rfl)) (pa_cons (pv 7) (pa_cons (pv 8) pa_nil))))))))))), ?_⟩
    refine ⟨_, rfl, mp, _, _, _, rfl, rfl, SqT.of hmp, atI_nat (j := 1) rfl, ?_⟩
    refine ⟨_, rfl, z.na, c.C, _, _, _, rfl, hN.i, TC.cl, TC.cells, rfl, _, rfl, z.cd, _, rfl, hg, t, _, rfl, SqT.of ht, rfl, _, _, rfl, _, _, rfl, _, _, rfl, _, _, rfl, rfl, ?_⟩
    exact ⟨_, rfl, _, rfl, _, rfl, _, rfl, mp, _, _, _, rfl, rfl, SqT.of hmp, atI_nat (j := 2) rfl, _, rfl, _, rfl, z.na, tc, key, cm.num, cm.val, alw, cm.told, cm.asked, n, g, M, m, u, rfl, htc, ⟨⟨Z, q⟩, hnx, hmem⟩, hab, hk, (fun _ => ⟨cm, hcm, rfl⟩), fun r hr => (hroom r hr).1, k⟩
theorem ok_hra {c : Cs} {f : Addr} {fd : FuncData} (F : Fun K "hear_raise" "hear_raise" sHr f fd) (TC : CacheC K c.C) (GRn : DefAt P w K mg base 2 "renew" ["node", "key", "copy", "allowance", "told", "asked"] (spRenew c)) : FnOk P w K mg base CX0 3 f fd ["net", "node", "sender", "message"] (spHear c preRaise postRaise) := by
  refine F.ok scHr (fun vs H Q E h => ?_) (fun cdv A outer s H vs Q E hr h => ?_)
  · obtain ⟨n, na, sd, mv, g, M, m, mg, rfl, _⟩ := h
    rfl
  · obtain ⟨n, na, sd, mv, g, M, m, mg, rfl, hmv, ⟨⟨Z, q⟩, hnx, hmem⟩, hpre, hroom, k⟩ := h
    have hu := hu_of hr
    obtain ⟨key, alw, rfl, hk, ⟨u, hab⟩, cm, hcm⟩ := hpre
    obtain ⟨mp, rfl, hmp⟩ := td_msg hmv
    have hmp : H mp = some (.tup [.str "raise", .str key, .int alw]) := hmp
    have ek : postRaise M m sd (.raise key alw) = M.renew m key cm.num cm.val cm.alw cm.told (some alw) := by
      show (match m.cell key with | some cm => M.renew m key cm.num cm.val cm.alw cm.told (some alw) | none => M) = _
      rw [hcm]
    rw [ek] at k
    obtain ⟨j, z, hz, hm, rfl⟩ := q.at_ hnx hmem
    have hzm := List.mem_of_getElem? hz
    have hN := NodeH.of q.h hzm
    obtain ⟨i0, o, hc, hcell, hh⟩ := q.cellAt hz hm hk
    rw [hcm] at hcell
    rcases hh with ⟨e0, _⟩ | ⟨cm', t, tc, av, e0, hv, ht, htc, hav⟩
    · rw [e0] at hcell
      cases hcell
    rw [e0] at hcell
    cases hcell
    rw [td_opt hav] at ht
    have hg : DGet H z.cd (.str key) (some (.ref t)) := .inl ⟨strK z.cells, Sum.inr key, .inl hN.cd, rfl, hv.symm⟩
    refine ⟨_, (pss_cons (ps_set (i := 4) scHr.nd rfl (Or.inl rfl) (pe_ix ix_tup (pv 3) pe_int (fun _ _ => rfl)))
        (pss_cons (ps_asg (pe_dget hu (pe_fld (pv 1) rfl) (pv 4) (fun _ _ => rfl)) (pg_tup rfl (pgs_cons (pg_name (i := 5) scHr.nd rfl (Or.inl rfl)) (pgs_cons (pg_name (i := 6) scHr.nd rfl (Or.inl rfl)) (pgs_cons (pg_name (i := 7) scHr.nd rfl (Or.inl rfl)) (pgs_cons (pg_name (i := 8) scHr.nd rfl (Or.inl rfl)) pgs_nil))))))
        (pss_one (ps_expr (pe_callD GRn (hr.mono (by decide)) (pa_cons (pv 1) (pa_cons (pv 4) (pa_cons (pv 5) (pa_cons (pv 6) (pa_cons (pv 7) (pa_cons (pe_ix ix_tup (pv 3) pe_int (fun _ _ => rfl)) pa_nil))))))))))), ?_⟩
    refine ⟨_, rfl, mp, _, _, _, rfl, rfl, SqT.of hmp, atI_nat (j := 1) rfl, ?_⟩
    refine ⟨_, rfl, z.na, c.C, _, _, _, rfl, hN.i, TC.cl, TC.cells, rfl, _, rfl, z.cd, _, rfl, hg, t, _, rfl, SqT.of ht, rfl, _, _, rfl, _, _, rfl, _, _, rfl, _, _, rfl, rfl, ?_⟩
    exact ⟨_, rfl, _, rfl, _, rfl, _, rfl, _, rfl, _, rfl, mp, _, _, _, rfl, rfl, SqT.of hmp, atI_nat (j := 2) rfl, z.na, tc, key, cm.num, cm.val, cm.alw, cm.told, some alw, n, g, M, m, u, rfl, htc, ⟨⟨Z, q⟩, hnx, hmem⟩, hab, hk, (fun _ => ⟨cm, hcm, rfl⟩), fun r hr => (hroom r hr).1, k⟩
theorem ok_hup {c : Cs} {f : Addr} {fd : FuncData} (F : Fun K "hear_update" "hear_update" sHu f fd) (TC : CacheC K c.C) (GRn : DefAt P w K mg base 2 "renew" ["node", "key", "copy", "allowance", "told", "asked"] (spRenew c)) (GSd : DefAt P w K mg base 1 "send_to_children" ["node", "message"] (spSend c)) : FnOk P w K mg base CX0 3 f fd ["net", "node", "sender", "message"] (spHear c preUpdate postUpdate) := by
  refine F.ok scHu (fun vs H Q E h => ?_) (fun cdv A outer s H vs Q E hr h => ?_)
  · obtain ⟨n, na, sd, mv, g, M, m, mg, rfl, _⟩ := h
    rfl
  · obtain ⟨n, na, sd, mv, g, M, m, mg, rfl, hmv, ⟨⟨Z, q⟩, hnx, hmem⟩, hpre, hroom, k⟩ := h
    have hu := hu_of hr
    obtain ⟨key, num, val, rfl, hk, ⟨u, hab⟩, cm, hcm⟩ := hpre
    have hmv0 := hmv
    obtain ⟨mp, rfl, hmp⟩ := td_msg hmv
    have hmp : H mp = some (.tup [.str "update", .str key, .int num, .int val]) := hmp
    have ek : postUpdate M m sd (.update key num val) = (sendM M m.kids (.update key num val)).renew m key num val cm.alw cm.told cm.asked := by
      show (match m.cell key with | some cm => (sendM M m.kids (.update key num val)).renew m key num val cm.alw cm.told cm.asked | none => M) = _
      rw [hcm]
    rw [ek] at k
    obtain ⟨j, z, hz, hm, rfl⟩ := q.at_ hnx hmem
    have hzm := List.mem_of_getElem? hz
    have hN := NodeH.of q.h hzm
    obtain ⟨i0, o, hc, hcell, hh⟩ := q.cellAt hz hm hk
    rw [hcm] at hcell
    rcases hh with ⟨e0, _⟩ | ⟨cm', t, tc, av, e0, hv, ht, htc, hav⟩
    · rw [e0] at hcell
      cases hcell
    rw [e0] at hcell
    cases hcell
    rw [td_opt hav] at ht
    have hg : DGet H z.cd (.str key) (some (.ref t)) := .inl ⟨strK z.cells, Sum.inr key, .inl hN.cd, rfl, hv.symm⟩
    have nt := q.notup
    obtain ⟨zr, _⟩ := q.zk hz hm
    refine ⟨_, (pss_cons (ps_set (i := 4) scHu.nd rfl (Or.inl rfl) (pe_ix ix_tup (pv 3) pe_int (fun _ _ => rfl)))
        (pss_cons (ps_asg (pe_dget hu (pe_fld (pv 1) rfl) (pv 4) (fun _ _ => rfl)) (pg_tup rfl (pgs_cons (pg_name (i := 5) scHu.nd rfl (Or.inl rfl)) (pgs_cons (pg_name (i := 6) scHu.nd rfl (Or.inl rfl)) (pgs_cons (pg_name (i := 7) scHu.nd rfl (Or.inl rfl)) (pgs_cons (pg_name (i := 8) scHu.nd rfl (Or.inl rfl)) pgs_nil))))))
        (pss_cons (ps_if (pt_truth (pe_fld (pv 1) rfl) (by intro _; rfl)) (pss_one (ps_expr (pe_callD GSd (hr.mono (by decide)) (pa_cons (pv 1) (pa_cons (pv 3) pa_nil))))) pss_nil)
        (pss_one (ps_expr (pe_callD GRn (hr.mono (by decide)) (pa_cons (pv 1) (pa_cons (pv 4) (pa_cons (pe_slice sl_tupA (pv 3) (po_some pe_int) po_none) (pa_cons (pv 6) (pa_cons (pv 7) (pa_cons (pv 8) pa_nil)))))))))))), ?_⟩
    refine ⟨_, rfl, mp, _, _, _, rfl, rfl, SqT.of hmp, atI_nat (j := 1) rfl, ?_⟩
    refine ⟨_, rfl, z.na, c.C, _, _, _, rfl, hN.i, TC.cl, TC.cells, rfl, _, rfl, z.cd, _, rfl, hg, t, _, rfl, SqT.of ht, rfl, _, _, rfl, _, _, rfl, _, _, rfl, _, _, rfl, rfl, ?_⟩
    refine ⟨_, rfl, z.na, c.C, _, _, _, rfl, hN.i, TC.cl, TC.entries, rfl, ?_⟩
    have bk : (M.rows.map (sendR [] (.update key num val))) = M.rows := (List.map_congr_left fun r _ => sendR_out List.not_mem_nil).trans (List.map_id _)
    have bup : ∀ r ∈ (sendM M m.kids (.update key num val)).rows, r.up.length < 990 := fun r hr => by
      obtain ⟨r0, h0, rfl⟩ := List.mem_map.mp hr
      unfold sendR
      split
      · exact (hroom r0 h0).1
      · exact (hroom r0 h0).1
    refine ⟨!m.kids.isEmpty, .inr (.inr ⟨_, hN.en, ?_⟩), ?_⟩
    · rw [← zr.kids]
      cases z.kids <;> rfl
    refine ifS_via (fun σ' H' => σ' = [some (.ref n), some (.ref z.na), some (.str sd), some (.ref mp), some (.str key), some (.ref tc), some (.int cm.alw), some (.int cm.told), some (optV cm.asked)] ∧ Keeps g.S H H' ∧ NetA c H' n g (sendM M m.kids (.update key num val))) (fun h D' kD => ?_) (fun h D' kD => ?_) ?_
    · exact ⟨_, rfl, _, rfl, z.na, .ref mp, n, g, M, Z, j, z, m, .update key num val, rfl, q, hz, rfl, hm, hmv0, fun r hr => by have := (hroom r hr).2; omega, fun H' kk a => kD _ _ ⟨rfl, kk, a⟩⟩
    · have e : m.kids = [] := by
        cases hk2 : m.kids with
        | nil => rfl
        | cons a r => rw [hk2] at h; cases h
      refine kD _ _ ⟨rfl, Keeps.refl _ _, ?_⟩
      rw [e]
      unfold sendM
      rw [bk]
      exact ⟨Z, q⟩
    rintro σ' H1 ⟨rfl, k1, hN1⟩
    have htc1 := (KT.keeps k1 nt) _ _ htc
    have hmp1 := (KT.keeps k1 nt) _ _ hmp
    refine ⟨_, rfl, _, rfl, _, rfl, 2, rfl, mp, _, rfl, SqT.of hmp1, (fun w => absurd (show HT.sIx 4 0 (some 2) = 0 from w.1) (by decide)), fun _ p hp => ?_⟩
    rw [show cutV [V.str ("update" : Str), V.str key, V.int num, V.int val] (some 2) none = [V.int num, V.int val] from rfl]
    have S1 : Same H1 (upd H1 p (.tup [.int num, .int val])) := Same.upd hp
    have l1 : upd H1 p (HO.tup [.int num, .int val]) p = some (.tup [.int num, .int val]) := upd_same
    generalize upd H1 p (HO.tup [.int num, .int val]) = H2 at S1 l1 ⊢
    exact ⟨_, rfl, _, rfl, _, rfl, z.na, p, key, num, val, cm.alw, cm.told, cm.asked, n, g, _, m, u, rfl, l1, ⟨hN1.mono S1, hnx, hmem⟩, hab, hk, (fun _ => ⟨cm, hcm, rfl⟩), bup, fun H' kk a => k H' ((k1.then S1).trans kk) a⟩
end
end K03
set_option Elab.async false
set_option linter.all false
set_option maxRecDepth 100000
set_option maxHeartbeats 4000000
namespace K03
open PySem L2 EX PyProof.Rows LamX
open NZ
abbrev sAw : Stmt := top 37
theorem scAw : FnScope ["net", "key"] ["net", "key"] (defScope sAw) := ⟨rfl, rfl, rfl, by decide +kernel, rfl, by decide +kernel, by decide +kernel⟩
abbrev sSt : Stmt := top 39
theorem scSt : FnScope ["net", "node", "key", "copy", "allowance", "told", "asked"] ["net", "node", "key"] (defScope sSt) := ⟨rfl, rfl, rfl, by decide +kernel, rfl, by decide +kernel, by decide +kernel⟩
abbrev sHf : Stmt := top 56
theorem scHf : FnScope ["net", "node", "sender", "message", "key", "row"] ["net", "node", "sender", "message"] (defScope sHf) := ⟨rfl, rfl, rfl, by decide +kernel, rfl, by decide +kernel, by decide +kernel⟩
theorem accN_of {c : Cs} {H : Hp} {n : Addr} {g : Sg} {M : NetM} {Z : NetZ} (q : NetQ c H n g M Z) {m0 : NodeM} {i : Nat} {key : Str} {c0 : CellM} {v numb : Int} (hm : M.nodes[0]? = some m0) (hc : m0.cells[i]? = some (key, some c0)) : accM M m0 i key v numb = M.accN m0 key v numb := by
  have mc := q.w.cell _ (List.mem_of_getElem? hm)
  have e1 : m0.cells.set i (key, some (newC numb v)) = setK m0.cells key (some (newC numb v)) := setK_of (by rw [mc]; exact q.w.wnd) hc
  have e : M.nodes.set 0 { m0 with cells := m0.cells.set i (key, some (newC numb v)) } = (M.setCell m0.label key (some (newC numb v))).nodes := by
    rw [e1]
    exact set_by (f := fun x : NodeM => x.label) (F := fun m => { m with cells := setK m.cells key (some (newC numb v)) }) q.w.nnd hm
  unfold accM
  rw [e]
  rfl
theorem keptAt {c : Cs} {H : Hp} {n : Addr} {g : Sg} {M : NetM} {Z : NetZ} (q : NetQ c H n g M Z) {key : Str} (hk : key ∈ M.words) : ∃ (i : Nat) (t : Addr), M.kept[i]? = some (key, M.keptOf key) ∧ valV (strK Z.kept) (Sum.inr key) = some (.ref t) ∧ H t = some (.tup ((M.keptOf key).map V.int)) := by
  have hkm : key ∈ M.kept.map (·.1) := by rw [q.w.kept]; exact hk
  obtain ⟨⟨k1, l⟩, hp, e⟩ := List.mem_map.mp hkm
  have e : k1 = key := e
  subst e
  obtain ⟨i, hi⟩ := List.mem_iff_getElem?.mp hp
  obtain ⟨⟨p1, p2⟩, h2, ek, htd⟩ := pr_get' q.r.kept hi
  have ek : p1 = k1 := ek
  subst ek
  have zk : Z.kept.map (·.1) = M.words := (pr_keys (fun _ _ w => w.1) q.r.kept).trans q.w.kept
  have hg : M.keptOf p1 = l := by
    unfold NetM.keptOf
    rw [getK_mem (by rw [q.w.kept]; exact q.w.wnd) hp]
    rfl
  obtain ⟨t, xs, e, ht, hx⟩ := td_tup htd
  have e : p2 = .ref t := e
  subst e
  rw [td_intsV hx] at ht
  rw [hg]
  exact ⟨i, t, hi, strKv (by rw [zk]; exact q.w.wnd) (List.mem_of_getElem? h2), ht⟩
theorem setKept_of {c : Cs} {H : Hp} {n : Addr} {g : Sg} {M : NetM} {Z : NetZ} (q : NetQ c H n g M Z) {i : Nat} {key : Str} {l l' : List Int} (hi : M.kept[i]? = some (key, l)) : { M with kept := M.kept.set i (key, l') } = M.setKept key l' := by
  unfold NetM.setKept
  rw [setK_of (by rw [q.w.kept]; exact q.w.wnd) hi]
theorem top_acc {c : Cs} {H : Hp} {n : Addr} {g : Sg} {M : NetM} (hN : NetA c H n g M) {m0 : NodeM} {key : Str} {v numb : Int} (hm : M.nodes[0]? = some m0) (h : ∀ k ∈ M.words, ∃ c, m0.cell k = some c) : TopOk (M.accN m0 key v numb) := by
  obtain ⟨Z, q⟩ := hN.ex
  refine ⟨{ m0 with cells := setK m0.cells key (some ⟨numb, v, 0, numb, none⟩) }, ?_, fun k hk => ?_⟩
  · show (M.nodes.map fun m => if m.label = m0.label then { m with cells := setK m.cells key (some ⟨numb, v, 0, numb, none⟩) } else m)[0]? = _
    rw [List.getElem?_map, hm]
    show some (if m0.label = m0.label then _ else m0) = _
    rw [if_pos rfl]
  · obtain ⟨c1, h1⟩ := h k hk
    rw [cell_setK]
    by_cases e : k = key
    · rw [if_pos e]
      have : (getK m0.cells k).isSome = true := by
        unfold NodeM.cell at h1
        cases h2 : getK m0.cells k with
        | none => rw [h2] at h1; cases h1
        | some x => rfl
      rw [if_pos this]
      exact ⟨_, rfl⟩
    · rw [if_neg e]
      exact ⟨c1, h1⟩
theorem rm_acc {M : NetM} {m0 : NodeM} {key : Str} {v numb : Int} {x : Nat} (h : Rm M (x + 1)) : Rm (M.accN m0 key v numb) x := by
  refine ⟨?_, ?_, fun r hr => ?_, h.done⟩
  · show (M.acc ++ [key]).length + x < 900
    rw [List.length_append]
    have := h.acc
    show M.acc.length + 1 + x < 900
    omega
  · show (M.stm ++ [_]).length + x < 900
    rw [List.length_append]
    have := h.stm
    show M.stm.length + 1 + x < 900
    omega
  · obtain ⟨r0, h0, rfl⟩ := List.mem_map.mp (show r ∈ M.rows.map (sendR m0.kids _) from hr)
    have := h.down r0 h0
    unfold sendR
    split
    · show (r0.down ++ [_]).length + x < 900
      rw [List.length_append]
      show r0.down.length + 1 + x < 900
      omega
    · omega
theorem rm_rooms {M : NetM} {x : Nat} (h : Rm M x) : Rooms M := ⟨fun r hr => by have := h.down r hr; omega, by have := h.done; omega, by have := h.acc; omega, by have := h.stm; omega⟩
def spAw (c : Cs) : Sp := fun vs H Q _ => ∃ (n : Addr) (key : Str) (g : Sg) (M : NetM), vs = [.ref n, .str key] ∧ NetA c H n g M ∧ key ∈ M.words ∧ TopOk M ∧ Rm M (M.keptOf key).length ∧ ∀ H', Keeps g.S H H' → NetA c H' n g (NetM.aw key (M.keptOf key) M) → Q .non H'
/-- what settle needs: the store stands first with all keys, another node has the copy -/
structure SetPre (M : NetM) (m : NodeM) (key : Str) : Prop where
  kw : key ∈ M.words
  top : m.above = none → TopOk M ∧ Rm M (M.keptOf key).length
  low : ∀ u, m.above = some u → ∃ cm, m.cell key = some cm
  up : ∀ r ∈ M.rows, r.up.length < 990
def spSettle (c : Cs) : Sp := fun vs H Q _ => ∃ (n na : Addr) (key : Str) (g : Sg) (M : NetM) (m : NodeM), vs = [.ref n, .ref na, .str key] ∧ At c H n g M m na ∧ SetPre M m key ∧ ∀ H', Keeps g.S H H' → NetA c H' n g (M.settle m key) → Q .non H'
def preConfirm (M : NetM) (m : NodeM) (ch : Str) (mg : Msg) : Prop := ∃ key num r cf gr, mg = .confirm key num ∧ ch ∈ m.kids ∧ M.row ch = some r ∧ r.get key = some (cf, gr) ∧ SetPre (M.setRow ch key num gr) m key
def postConfirm (M : NetM) (m : NodeM) (ch : Str) : Msg → NetM
  | .confirm key num => match (M.row ch).bind (·.get key) with
    | some (_, gr) => (M.setRow ch key num gr).settle m key
    | none => M
  | _ => M

theorem refKv {l : List (Str × Addr)} (nd : (l.map (·.1)).Nodup) {k : Str} {v : Addr} (h : (k, v) ∈ l) : valV (NZ.refK l) (Sum.inr k) = some (.ref v) := by
  have e : NZ.refK l = strK (l.map fun p => (p.1, V.ref p.2)) := by simp [NZ.refK, NZ.strK]
  rw [e]
  exact strKv (by rw [List.map_map]; exact nd) (List.mem_map.mpr ⟨_, h, rfl⟩)
theorem kidOf' {c : Cs} {H : Hp} {n : Addr} {g : Sg} {M : NetM} {Z : NetZ} (q : NetQ c H n g M Z) {i j : Nat} {m : NodeM} {r : RowM} {z : NodeZ} (hz : Z.nodes[i]? = some z) (hm : M.nodes[i]? = some m) (hk : r.child ∈ m.kids) (hr : M.rows[j]? = some r) :
    ∃ y, Z.rows[j]? = some y ∧ RowR H y r ∧ valV (NZ.refK z.kids) (Sum.inr r.child) = some (.ref y.ra) ∧ RowH c.E H y := by
  obtain ⟨zr, _⟩ := q.zk hz hm
  obtain ⟨y, hy, yr⟩ := pr_get' q.r.rows hr
  have hym := List.mem_of_getElem? hy
  have nd : (z.kids.map (·.1)).Nodup := by
    rw [zr.kids]
    exact (q.w.kids _ (List.mem_of_getElem? hm)).1
  have hp : r.child ∈ z.kids.map (·.1) := by rw [zr.kids]; exact hk
  obtain ⟨⟨p1, p2⟩, hp1, e⟩ := List.mem_map.mp hp
  have e : p1 = r.child := e
  obtain ⟨y2, hy2, e2⟩ := List.mem_map.mp (zr.kin _ hp1)
  obtain ⟨e3, e4⟩ := Prod.mk.inj e2
  have h1 := q.rowV hym
  have h2 := q.rowV hy2
  rw [e3, e, e4] at h2
  rw [yr.child, h2] at h1
  refine ⟨y, hy, yr, ?_, RowH.of q.h hym⟩
  rw [← h1, ← e]
  exact refKv nd hp1
section
variable {P : Program} {w : World} {K : PySem.W.Frag} {mg : Str → Option Value} {base : Heap}
theorem ok_aw {c : Cs} {f : Addr} {fd : FuncData} (F : Fun K "accept_waiting" "accept_waiting" sAw f fd) (T : NetC K c.N) (GAp : DefAt P w K mg base 2 "accept" ["net", "key", "value"] (spAcc c)) : FnOk P w K mg base CX0 3 f fd ["net", "key"] (spAw c) := by
  refine F.ok scAw (fun vs H Q E h => ?_) (fun cdv A outer s H vs Q E hr h => ?_)
  · obtain ⟨n, key, g, M, rfl, _⟩ := h
    rfl
  · obtain ⟨n, key, g, M, rfl, hN, hk, htop, hrm, k⟩ := h
    have hu := hu_of hr
    refine ⟨_, (pss_one (ps_while PassesOwn.never (PW.pt (pw_and (pt_truth (pe_dget hu (pe_fld (pv 0) rfl) (pv 1) (fun _ _ => rfl)) (by intro _; rfl)) (pw_and1 (pt_cmp (pc_notN (pe_callD GAp (hr.mono (by decide)) (pa_cons (pv 0) (pa_cons (pv 1) (pa_cons (pe_ix ix_tup (pe_dget hu (pe_fld (pv 0) rfl) (pv 1) (fun _ _ => rfl)) pe_int (fun _ _ => rfl)) pa_nil))))))))) (pss_one (ps_dput hu (pe_fld (pv 0) rfl) (pv 1) (pe_slice sl_tupA (pe_dget hu (pe_fld (pv 0) rfl) (pv 1) (fun _ _ => rfl)) (po_some pe_int) po_none) rfl)))), ?_⟩
    refine ⟨fun x σ' H' => ∃ (M' : NetM), σ' = [some (.ref n), some (.str key)] ∧ NetA c H' n g M' ∧ Keeps g.S H H' ∧ M'.words = M.words ∧ NetM.aw key (M'.keptOf key) M' = NetM.aw key (M.keptOf key) M ∧ TopOk M' ∧ Rm M' (M'.keptOf key).length ∧ x = (M'.keptOf key).length, ⟨_, M, rfl, hN, Keeps.refl _ _, rfl, rfl, htop, hrm, rfl⟩, ?_⟩
    rintro x σ' H1 ⟨M1, rfl, hN1, k1, ew, eaw, htop1, hrm1, rfl⟩
    obtain ⟨Z1, q1⟩ := id hN1
    have hk1 : key ∈ M1.words := by rw [ew]; exact hk
    obtain ⟨i, t, hi, hv, ht⟩ := keptAt q1 hk1
    have hkp : H1 Z1.kp = some (.dK (strK Z1.kept)) := q1.h.at_net 4
    have hg : DGet H1 Z1.kp (.str key) (some (.ref t)) := .inl ⟨_, Sum.inr key, .inl hkp, rfl, hv.symm⟩
    refine ⟨_, rfl, n, c.N, _, _, _, rfl, q1.at_n, T.cl, T.f_kept, rfl, _, rfl, Z1.kp, _, rfl, hg, _, .inr (.inl ⟨_, SqT.of ht, rfl⟩), ?_⟩
    cases hl : M1.keptOf key with
    | nil =>
      rw [hl] at eaw
      refine k H1 k1 ?_
      rw [← eaw]
      exact hN1
    | cons v0 rest =>
      rw [hl] at ht eaw hi hrm1
      obtain ⟨m0, hm0, hall⟩ := htop1
      obtain ⟨c0, hc0⟩ := hall key hk1
      obtain ⟨z0, hz0, _⟩ := q1.node' hm0
      obtain ⟨i0, o, hci, hco, _⟩ := q1.cellAt hz0 hm0 hk1
      rw [hc0] at hco
      subst hco
      have eacc : NetM.accept M1 m0 key v0 = if accB M1 m0.kids key (c0.told + 1) = true then some (M1.accN m0 key v0 (c0.told + 1)) else none := by
        unfold NetM.accept
        rw [hc0]
        rfl
      have eaw2 : NetM.aw key (v0 :: rest) M1 = match M1.accept m0 key v0 with | some M2 => NetM.aw key rest (M2.setKept key rest) | none => M1 := by
        show (match M1.nodes[0]? with | some m0 => (match M1.accept m0 key v0 with | some M2 => NetM.aw key rest (M2.setKept key rest) | none => M1) | none => M1) = _
        rw [hm0]
      refine ⟨_, rfl, _, rfl, _, rfl, n, c.N, _, _, _, rfl, q1.at_n, T.cl, T.f_kept, rfl, _, rfl, Z1.kp, _, rfl, hg, t, _, _, _, rfl, rfl, SqT.of ht, atI_nat (j := 0) rfl, ?_⟩
      refine ⟨n, key, v0, g, M1, i0, m0, c0, rfl, hN1, hm0, hci, rm_rooms hrm1, fun hb H2 k2 hN2 => ?_, fun hb => ?_⟩
      · have k12 := k1.trans k2
        rw [accN_of q1 hm0 hci] at hN2
        rw [eacc, if_pos hb] at eaw2
        have eaw2 : NetM.aw key (v0 :: rest) M1 = NetM.aw key rest ((M1.accN m0 key v0 (c0.told + 1)).setKept key rest) := eaw2
        have kw2 : (M1.accN m0 key v0 (c0.told + 1)).kept = M1.kept := rfl
        have htop2 := top_acc (key := key) (v := v0) (numb := c0.told + 1) hN1 hm0 hall
        have hrm2 := rm_acc (m0 := m0) (key := key) (v := v0) (numb := c0.told + 1) (x := rest.length) hrm1
        have ew2 : (M1.accN m0 key v0 (c0.told + 1)).words = M.words := ew
        have ek2 : (M1.accN m0 key v0 (c0.told + 1)).keptOf key = v0 :: rest := hl
        generalize M1.accN m0 key v0 (c0.told + 1) = M2 at hN2 eaw2 kw2 htop2 hrm2 ew2 ek2
        obtain ⟨Z2, q2⟩ := id hN2
        have hk2 : key ∈ M2.words := by rw [ew2]; exact hk
        obtain ⟨i2, t2, hi2, hv2, ht2⟩ := keptAt q2 hk2
        rw [ek2] at ht2 hi2
        have hkp2 : H2 Z2.kp = some (.dK (strK Z2.kept)) := q2.h.at_net 4
        have hg2 : DGet H2 Z2.kp (.str key) (some (.ref t2)) := .inl ⟨_, Sum.inr key, .inl hkp2, rfl, hv2.symm⟩
        refine ⟨_, rfl, fun σ' H' => ∃ m', m' < (v0 :: rest).length ∧ _, fun _ _ h => h, ?_⟩
        refine ⟨_, rfl, n, c.N, _, _, _, rfl, q2.at_n, T.cl, T.f_kept, rfl, _, rfl, Z2.kp, _, rfl, hg2, 1, rfl, t2, _, rfl, SqT.of ht2, (fun w => ?_), fun _ p hp => ?_⟩
        · exfalso
          have w1 := w.1
          rw [show HT.sIx (List.map V.int (v0 :: rest)).length 0 (some 1) = min 1 (List.map V.int (v0 :: rest)).length from HT.sIx_nat _ _ 1, List.length_map, List.length_cons] at w1
          omega
        have ecut : cutV ((v0 :: rest).map V.int) (some 1) none = rest.map V.int := by
          unfold cutV
          rw [show HT.sIx (List.map V.int (v0 :: rest)).length 0 (some 1) = min 1 (List.map V.int (v0 :: rest)).length from HT.sIx_nat _ _ 1, HT.sIx_none, List.length_map, List.length_cons, show min 1 (rest.length + 1) = 1 by omega, show rest.length + 1 - 1 = rest.length by omega]
          show (rest.map V.int).take rest.length = rest.map V.int
          exact List.take_of_length_le (by rw [List.length_map]; exact Nat.le_refl _)
        rw [ecut]
        have S3 : Same H2 (upd H2 p (.tup (rest.map V.int))) := Same.upd hp
        have l3 : upd H2 p (HO.tup (rest.map V.int)) p = some (.tup (rest.map V.int)) := upd_same
        generalize upd H2 p (HO.tup (rest.map V.int)) = H3 at S3 l3 ⊢
        have q3 := q2.mono S3
        have kl : Z2.kept.length ≤ 4 := by
          have e := congrArg List.length ((pr_keys (fun _ _ w => w.1) q2.r.kept).trans q2.w.kept)
          rw [List.length_map] at e
          have := q2.w.w4
          omega
        refine ⟨_, rfl, n, c.N, _, _, _, rfl, q3.at_n, T.cl, T.f_kept, rfl, _, rfl, Z2.kp, _, rfl, .inl ⟨strK Z2.kept, Sum.inr key, S3 _ _ hkp2, rfl, by rw [List.length_map, sizeLine_eq]; omega, rfl⟩, ?_⟩
        have htd : Td H3 (.ref p) (.tuple (rest.map PyData.int)) := .tup l3 (td_ints rest)
        have q4 := q3.setKept (l' := rest) hi2 htd
        rw [setKept_of q2 hi2] at q4
        have k4 := (k12.then S3).put (o := .dK (putK (strK Z2.kept) (Sum.inr key) (.ref p))) (q3.in_net 4)
        have ek4 : (M2.setKept key rest).keptOf key = rest := by
          unfold NetM.keptOf NetM.setKept
          show (getK (setK M2.kept key rest) key).getD [] = rest
          rw [getK_setK]
          have : key ∈ M2.kept.map (·.1) := by rw [q2.w.kept]; exact hk2
          obtain ⟨x, hx⟩ := getK_some this
          rw [hx]
          exact if_pos rfl
        refine ⟨rest.length, Nat.lt_succ_self _, M2.setKept key rest, rfl, ⟨_, q4⟩, k4, ew2, ?_, ⟨htop2.ex⟩, ?_, ?_⟩
        · rw [ek4, ← eaw2, eaw]
        · rw [ek4]
          exact ⟨hrm2.acc, hrm2.stm, hrm2.down, hrm2.done⟩
        · rw [ek4]
      · rw [eacc, if_neg (by rw [hb]; decide)] at eaw2
        have eaw2 : NetM.aw key (v0 :: rest) M1 = M1 := eaw2
        refine ⟨_, rfl, ?_⟩
        refine k H1 k1 ?_
        rw [← eaw, eaw2]
        exact hN1
theorem ok_st {c : Cs} {f : Addr} {fd : FuncData} (F : Fun K "settle" "settle" sSt f fd) (T : NetC K c.N) (TC : CacheC K c.C) (GAw : DefAt P w K mg base 3 "accept_waiting" ["net", "key"] (spAw c)) (GRn : DefAt P w K mg base 2 "renew" ["node", "key", "copy", "allowance", "told", "asked"] (spRenew c)) : FnOk P w K mg base CX0 4 f fd ["net", "node", "key"] (spSettle c) := by
  refine F.ok scSt (fun vs H Q E h => ?_) (fun cdv A outer s H vs Q E hr h => ?_)
  · obtain ⟨n, na, key, g, M, m, rfl, _⟩ := h
    rfl
  · obtain ⟨n, na, key, g, M, m, rfl, ⟨⟨Z, q⟩, hnx, hmem⟩, hpre, k⟩ := h
    have hu := hu_of hr
    have hk := hpre.kw
    obtain ⟨j, z, hz, hm, rfl⟩ := q.at_ hnx hmem
    have hzm := List.mem_of_getElem? hz
    have hN := NodeH.of q.h hzm
    obtain ⟨zr, _⟩ := q.zk hz hm
    refine ⟨_, (pss_one (ps_if (pt_cmp (pc_isN (pe_fld (pv 1) rfl))) (pss_one (ps_if (pt_truth (pe_dget hu (pe_fld (pv 0) rfl) (pv 2) (fun _ _ => rfl)) (by intro _; rfl)) (pss_one (ps_expr (pe_callD GAw (hr.mono (by decide)) (pa_cons (pv 0) (pa_cons (pv 2) pa_nil))))) pss_nil)) (pss_cons (ps_asg (pe_dget hu (pe_fld (pv 1) rfl) (pv 2) (fun _ _ => rfl)) (pg_tup rfl (pgs_cons (pg_name (i := 3) scSt.nd rfl (Or.inl rfl)) (pgs_cons (pg_name (i := 4) scSt.nd rfl (Or.inl rfl)) (pgs_cons (pg_name (i := 5) scSt.nd rfl (Or.inl rfl)) (pgs_cons (pg_name (i := 6) scSt.nd rfl (Or.inl rfl)) pgs_nil))))))
        (pss_one (ps_expr (pe_callD GRn (hr.mono (by decide)) (pa_cons (pv 1) (pa_cons (pv 2) (pa_cons (pv 3) (pa_cons (pv 4) (pa_cons (pv 5) (pa_cons (pv 6) pa_nil)))))))))))), ?_⟩
    refine ⟨_, rfl, z.na, c.C, _, _, _, rfl, hN.i, TC.cl, TC.row, rfl, ?_⟩
    cases hab : m.above with
    | none =>
      have ezr : z.row = .non := by
        have := zr.row
        rw [hab] at this
        exact this
      have ek : M.settle m key = NetM.aw key (M.keptOf key) M := by
        unfold NetM.settle
        rw [hab]
      rw [ek] at k
      rw [ezr]
      obtain ⟨htop, hrm⟩ := hpre.top hab
      obtain ⟨i, t, hi, hv, ht⟩ := keptAt q hk
      have hkp : H Z.kp = some (.dK (strK Z.kept)) := q.h.at_net 4
      have hg : DGet H Z.kp (.str key) (some (.ref t)) := .inl ⟨_, Sum.inr key, .inl hkp, rfl, hv.symm⟩
      refine ⟨_, rfl, iteT ?_⟩
      refine ⟨_, rfl, n, c.N, _, _, _, rfl, q.at_n, T.cl, T.f_kept, rfl, _, rfl, Z.kp, _, rfl, hg, _, .inr (.inl ⟨_, SqT.of ht, rfl⟩), ?_⟩
      cases hl : M.keptOf key with
      | nil =>
        rw [hl] at k
        exact k H (Keeps.refl _ _) ⟨Z, q⟩
      | cons v0 rest => exact ⟨_, rfl, _, rfl, n, key, g, M, rfl, ⟨Z, q⟩, hk, htop, hrm, k⟩
    | some u =>
      obtain ⟨jr, y, r, hy, hr0, yr, hrc, hrow, ezr⟩ := q.ownRow hz hm hab
      obtain ⟨cm, hcm⟩ := hpre.low u hab
      have ek : M.settle m key = M.renew m key cm.num cm.val cm.alw cm.told cm.asked := by
        unfold NetM.settle
        rw [hab]
        show (match m.cell key with | some cm => M.renew m key cm.num cm.val cm.alw cm.told cm.asked | none => M) = _
        rw [hcm]
      rw [ek] at k
      rw [ezr]
      obtain ⟨i0, o, hc, hcell, hh⟩ := q.cellAt hz hm hk
      rw [hcm] at hcell
      rcases hh with ⟨e0, _⟩ | ⟨cm', t, tc, av, e0, hv, ht, htc, hav⟩
      · rw [e0] at hcell
        cases hcell
      rw [e0] at hcell
      cases hcell
      rw [td_opt hav] at ht
      have hg : DGet H z.cd (.str key) (some (.ref t)) := .inl ⟨strK z.cells, Sum.inr key, .inl hN.cd, rfl, hv.symm⟩
      refine ⟨_, rfl, ifF isNone ?_⟩
      refine ⟨_, rfl, z.na, c.C, _, _, _, rfl, hN.i, TC.cl, TC.cells, rfl, _, rfl, z.cd, _, rfl, hg, t, _, rfl, SqT.of ht, rfl, _, _, rfl, _, _, rfl, _, _, rfl, _, _, rfl, rfl, ?_⟩
      exact ⟨_, rfl, _, rfl, _, rfl, _, rfl, _, rfl, _, rfl, z.na, tc, key, cm.num, cm.val, cm.alw, cm.told, cm.asked, n, g, M, m, u, rfl, htc, ⟨⟨Z, q⟩, hnx, hmem⟩, hab, hk, (fun _ => ⟨cm, hcm, rfl⟩), hpre.up, k⟩
theorem ok_hf {c : Cs} {f : Addr} {fd : FuncData} (F : Fun K "hear_confirm" "hear_confirm" sHf f fd) (TC : CacheC K c.C) (TE : EntryC K c.E) (GSt : DefAt P w K mg base 4 "settle" ["net", "node", "key"] (spSettle c)) : FnOk P w K mg base CX0 5 f fd ["net", "node", "sender", "message"] (spHear c preConfirm postConfirm) := by
  refine F.ok scHf (fun vs H Q E h => ?_) (fun cdv A outer s H vs Q E hr h => ?_)
  · obtain ⟨n, na, sd, mv, g, M, m, mg, rfl, _⟩ := h
    rfl
  · obtain ⟨n, na, sd, mv, g, M, m, mg, rfl, hmv, ⟨⟨Z, q⟩, hnx, hmem⟩, hpre, hroom, k⟩ := h
    have hu := hu_of hr
    obtain ⟨key, num, r, cf, gr, rfl, hch, hrow, hget, hsp⟩ := hpre
    have hk : key ∈ M.words := hsp.kw
    obtain ⟨mp, rfl, hmp⟩ := td_msg hmv
    have hmp : H mp = some (.tup [.str "confirm", .str key, .int num]) := hmp
    have ek : postConfirm M m sd (.confirm key num) = (M.setRow sd key num gr).settle m key := by
      show (match (M.row sd).bind (·.get key) with | some (_, gr) => (M.setRow sd key num gr).settle m key | none => M) = _
      rw [hrow]
      show (match r.get key with | some (_, gr) => (M.setRow sd key num gr).settle m key | none => M) = _
      rw [hget]
    rw [ek] at k
    obtain ⟨j, z, hz, hm, rfl⟩ := q.at_ hnx hmem
    have hN := NodeH.of q.h (List.mem_of_getElem? hz)
    obtain ⟨hrm, hrc⟩ := row_in hrow
    obtain ⟨jr, hjr⟩ := List.mem_iff_getElem?.mp hrm
    subst hrc
    obtain ⟨y, hy, yr, hkv, hRH⟩ := kidOf' q hz hm hch hjr
    obtain ⟨i2, cf2, gr2, t2, hri, hyi, hget2, hv2, ht2⟩ := q.entAt hy hjr hk
    rw [hget] at hget2
    cases hget2
    have hye : DGet H z.en (.str r.child) (some (.ref y.ra)) := .inl ⟨_, Sum.inr r.child, .inl hN.en, rfl, hkv.symm⟩
    have hg2 : DGet H y.cd (.str key) (some (.ref t2)) := .inl ⟨strK y.cells, Sum.inr key, .inl hRH.cd, rfl, hv2.symm⟩
    have yl := (q.yk hy hjr).2.2.2
    refine ⟨_, (pss_cons (ps_set (i := 4) scHf.nd rfl (Or.inl rfl) (pe_ix ix_tup (pv 3) pe_int (fun _ _ => rfl)))
        (pss_cons (ps_set (i := 5) scHf.nd rfl (Or.inl rfl) (pe_dget hu (pe_fld (pv 1) rfl) (pv 2) (fun _ _ => rfl)))
        (pss_cons (ps_dput hu (pe_fld (pv 5) rfl) (pv 4) (pe_tup (pa_cons (pe_ix ix_tup (pv 3) pe_int (fun _ _ => rfl)) (pa_cons (pe_ix ix_tup (pe_dget hu (pe_fld (pv 5) rfl) (pv 4) (fun _ _ => rfl)) pe_int (fun _ _ => rfl)) pa_nil))) rfl)
        (pss_one (ps_expr (pe_callD GSt (hr.mono (by decide)) (pa_cons (pv 0) (pa_cons (pv 1) (pa_cons (pv 4) pa_nil))))))))), ?_⟩
    refine ⟨_, rfl, mp, _, _, _, rfl, rfl, SqT.of hmp, atI_nat (j := 1) rfl, ?_⟩
    refine ⟨_, rfl, z.na, c.C, _, _, _, rfl, hN.i, TC.cl, TC.entries, rfl, _, rfl, z.en, _, rfl, hye, ?_⟩
    refine ⟨_, rfl, mp, _, _, _, rfl, rfl, SqT.of hmp, atI_nat (j := 2) rfl, _, rfl, y.ra, c.E, _, _, _, rfl, hRH.i, TE.cl, TE.cells, rfl, _, rfl, y.cd, _, rfl, hg2, t2, _, _, _, rfl, rfl, SqT.of ht2, atI_nat (j := 1) rfl, by show 2 ≤ sizeLine; decide, fun p hp => ?_⟩
    have S1 : Same H (upd H p (.tup [.int num, .int gr])) := Same.upd hp
    have l1 : upd H p (HO.tup [.int num, .int gr]) p = some (.tup [.int num, .int gr]) := upd_same
    generalize upd H p (HO.tup [.int num, .int gr]) = H1 at S1 l1 ⊢
    refine ⟨_, rfl, y.ra, c.E, _, _, _, rfl, S1 _ _ hRH.i, TE.cl, TE.cells, rfl, _, rfl, y.cd, _, rfl, .inl ⟨strK y.cells, Sum.inr key, S1 _ _ hRH.cd, rfl, by rw [List.length_map, sizeLine_eq]; omega, rfl⟩, ?_⟩
    have q2 := (q.mono S1).putEnt hy hjr hri l1
    have k2 := (Keeps.of S1).put (o := .dK (putK (strK y.cells) (Sum.inr key) (.ref p))) (q.in_row (List.mem_of_getElem? hy) 1)
    exact ⟨_, rfl, _, rfl, _, rfl, n, z.na, key, g, _, m, rfl, ⟨⟨_, q2⟩, hnx, hmem⟩, hsp, fun H' kk a => k H' (k2.trans kk) a⟩
end
end K03
set_option Elab.async false
set_option linter.all false
set_option maxRecDepth 100000
set_option maxHeartbeats 4000000
/-! questions and answers: dicts by whole numbers -/
namespace NZ
open PySem L2 EX PyProof.Rows
section
variable {α : Type}
def getI (l : List (Int × α)) (k : Int) : Option α := (l.find? fun p => decide (p.1 = k)).map (·.2)
def putI (l : List (Int × α)) (k : Int) (v : α) : List (Int × α) := if (l.any fun p => decide (p.1 = k)) = true then l.map (fun p => if p.1 = k then (p.1, v) else p) else l ++ [(k, v)]
def dropI (l : List (Int × α)) (k : Int) : List (Int × α) := l.filter fun p => decide (p.1 ≠ k)
variable {G : V → α → Prop} {zs : List (Key × V)} {ms : List (Int × α)} {k : Int}
abbrev PrI (G : V → α → Prop) (zs : List (Key × V)) (ms : List (Int × α)) : Prop := Paired (fun (p : Key × V) (q : Int × α) => p.1 = Sum.inl q.1 ∧ G p.2 q.2) zs ms
theorem keyI {a b : Int} : ((Sum.inl a : Key) = Sum.inl b) = (a = b) := propext ⟨fun h => Sum.inl.inj h, fun h => by rw [h]⟩
theorem prI_get : ∀ {zs : List (Key × V)} {ms : List (Int × α)}, PrI G zs ms → (getI ms k = none ∧ valV zs (Sum.inl k) = none) ∨ ∃ x v, getI ms k = some x ∧ valV zs (Sum.inl k) = some v ∧ G v x
  | _, _, .nil => .inl ⟨rfl, rfl⟩
  | p :: zr, q :: mr, .cons h t => by
    by_cases e : q.1 = k
    · refine .inr ⟨q.2, p.2, ?_, valV_pos (by rw [h.1, e]), h.2⟩
      unfold getI
      rw [List.find?_cons, decide_eq_true e]
      rfl
    · have e2 : ¬ p.1 = Sum.inl k := by rw [h.1, keyI]; exact e
      have e3 : getI (q :: mr) k = getI mr k := by
        unfold getI
        rw [List.find?_cons, decide_eq_false e]
      rw [e3, valV_neg e2]
      exact prI_get t
theorem prI_any : ∀ {zs : List (Key × V)} {ms : List (Int × α)}, PrI G zs ms → (zs.any fun kv => decide (kv.1 = (Sum.inl k : Key))) = ms.any fun p => decide (p.1 = k)
  | _, _, .nil => rfl
  | p :: _, q :: _, .cons h t => by
    rw [List.any_cons, List.any_cons, prI_any t]
    congr 1
    rw [h.1]
    exact decide_eq_decide.mpr (by rw [keyI])
theorem prI_put (h : PrI G zs ms) {v : V} {x : α} (hv : G v x) : PrI G (putK zs (Sum.inl k) v) (putI ms k x) := by
  unfold putK putI
  rw [prI_any h]
  split
  · refine pr_mapm (fun p q w => ?_) h
    by_cases e : q.1 = k
    · rw [if_pos e, if_pos (by rw [w.1, e])]
      exact ⟨w.1, hv⟩
    · rw [if_neg e, if_neg (by rw [w.1, keyI]; exact e)]
      exact w
  · exact pr_app h (.cons ⟨rfl, hv⟩ .nil)
where
  pr_mapm {α β γ δ : Type} {F : α → β → Prop} {F' : γ → δ → Prop} {f : α → γ} {f' : β → δ} (w : ∀ a b, F a b → F' (f a) (f' b)) : ∀ {l : List α} {m : List β}, Paired F l m → Paired F' (l.map f) (m.map f')
    | _, _, .nil => .nil
    | _, _, .cons h t => .cons (w _ _ h) (pr_mapm w t)
theorem prI_drop : ∀ {zs : List (Key × V)} {ms : List (Int × α)}, PrI G zs ms → PrI G (dropK zs (Sum.inl k)) (dropI ms k)
  | _, _, .nil => .nil
  | p :: _, q :: _, .cons h t => by
    unfold dropK dropI
    rw [List.filter_cons, List.filter_cons]
    have e : decide (p.1 ≠ (Sum.inl k : Key)) = decide (q.1 ≠ k) := decide_eq_decide.mpr (by rw [h.1, ne_eq, keyI])
    rw [e]
    split
    · exact .cons h (prI_drop t)
    · exact prI_drop t
end
section
variable {c : Cs} {H : Hp} {n : Addr} {g : Sg} {M : NetM} {Z : NetZ} {k : Int} {v : V}
theorem NetQ.putTr (q : NetQ c H n g M Z) {x : List Str} (hv : Td H v (.tuple (x.map PyData.str))) : NetQ c (upd H Z.tr (.dK (putK Z.trails (Sum.inl k) v))) n g { M with trails := putI M.trails k x } { Z with trails := putK Z.trails (Sum.inl k) v } := by
  have ht : H Z.tr = some (.dK Z.trails) := q.h.at_net 7
  have kt : KT H (upd H Z.tr (.dK (putK Z.trails (Sum.inl k) v))) := KT.upd fun xs w => by rw [ht] at w; cases w
  have w := q.r.mono kt
  have w0 := q.w
  exact ⟨q.n, q.ps, q.nx, q.h.put_net (a := (netO c Z).take 7) (b := (netO c Z).drop 8) rfl rfl rfl rfl, ⟨w.nodes, w.rows, w.tw, w.la, w.top, w.done, w.kept, w.acc, w.stm, w.qs, prI_put (G := fun v (x : List Str) => Td _ v (.tuple (x.map PyData.str))) w.tr (hv.mono kt), w.an, w.rc⟩, ⟨w0.wnd, w0.w4, w0.nnd, w0.rnd, w0.cell, w0.rcell, w0.kept, w0.n12, w0.r12, w0.kids⟩⟩
theorem NetQ.dropTr (q : NetQ c H n g M Z) : NetQ c (upd H Z.tr (.dK (dropK Z.trails (Sum.inl k)))) n g { M with trails := dropI M.trails k } { Z with trails := dropK Z.trails (Sum.inl k) } := by
  have ht : H Z.tr = some (.dK Z.trails) := q.h.at_net 7
  have kt : KT H (upd H Z.tr (.dK (dropK Z.trails (Sum.inl k)))) := KT.upd fun xs w => by rw [ht] at w; cases w
  have w := q.r.mono kt
  have w0 := q.w
  exact ⟨q.n, q.ps, q.nx, q.h.put_net (a := (netO c Z).take 7) (b := (netO c Z).drop 8) rfl rfl rfl rfl, ⟨w.nodes, w.rows, w.tw, w.la, w.top, w.done, w.kept, w.acc, w.stm, w.qs, prI_drop (G := fun v (x : List Str) => Td _ v (.tuple (x.map PyData.str))) w.tr, w.an, w.rc⟩, ⟨w0.wnd, w0.w4, w0.nnd, w0.rnd, w0.cell, w0.rcell, w0.kept, w0.n12, w0.r12, w0.kids⟩⟩
theorem NetQ.putAn (q : NetQ c H n g M Z) {x : Int × Int × Str} (hv : Td H v (.tuple [.int x.1, .int x.2.1, .str x.2.2])) : NetQ c (upd H Z.an (.dK (putK Z.answered (Sum.inl k) v))) n g { M with answ := putI M.answ k x } { Z with answered := putK Z.answered (Sum.inl k) v } := by
  have ht : H Z.an = some (.dK Z.answered) := q.h.at_net 8
  have kt : KT H (upd H Z.an (.dK (putK Z.answered (Sum.inl k) v))) := KT.upd fun xs w => by rw [ht] at w; cases w
  have w := q.r.mono kt
  have w0 := q.w
  exact ⟨q.n, q.ps, q.nx, q.h.put_net (a := (netO c Z).take 8) (b := (netO c Z).drop 9) rfl rfl rfl rfl, ⟨w.nodes, w.rows, w.tw, w.la, w.top, w.done, w.kept, w.acc, w.stm, w.qs, w.tr, prI_put (G := fun v (x : Int × Int × Str) => Td _ v (.tuple [.int x.1, .int x.2.1, .str x.2.2])) w.an (hv.mono kt), w.rc⟩, ⟨w0.wnd, w0.w4, w0.nnd, w0.rnd, w0.cell, w0.rcell, w0.kept, w0.n12, w0.r12, w0.kids⟩⟩
theorem NetQ.putRc (q : NetQ c H n g M Z) {x : PyData} (hv : Td H v x) : NetQ c (upd H Z.rc (.dK (putK Z.receipts (Sum.inl k) v))) n g { M with recs := putI M.recs k x } { Z with receipts := putK Z.receipts (Sum.inl k) v } := by
  have ht : H Z.rc = some (.dK Z.receipts) := q.h.at_net 9
  have kt : KT H (upd H Z.rc (.dK (putK Z.receipts (Sum.inl k) v))) := KT.upd fun xs w => by rw [ht] at w; cases w
  have w := q.r.mono kt
  have w0 := q.w
  exact ⟨q.n, q.ps, q.nx, q.h.put_net (a := (netO c Z).take 9) (b := (netO c Z).drop 10) rfl rfl rfl rfl, ⟨w.nodes, w.rows, w.tw, w.la, w.top, w.done, w.kept, w.acc, w.stm, w.qs, w.tr, w.an, prI_put (G := fun v (x : PyData) => Td _ v x) w.rc (hv.mono kt)⟩, ⟨w0.wnd, w0.w4, w0.nnd, w0.rnd, w0.cell, w0.rcell, w0.kept, w0.n12, w0.r12, w0.kids⟩⟩
theorem NetQ.setQs (q : NetQ c H n g M Z) : NetQ c (upd H n (.ins c.N Z.dx (netF { Z with qs := k }))) n g { M with qs := k } { Z with qs := k } := by
  obtain rfl := q.n
  have hn := q.at_n
  have kt : KT H (upd H Z.n (.ins c.N Z.dx (netF { Z with qs := k }))) := KT.upd fun xs w => by rw [hn] at w; cases w
  have w := q.r.mono kt
  have w0 := q.w
  have hH : NetH c (upd H Z.n (.ins c.N Z.dx (netF { Z with qs := k }))) { Z with qs := k } := q.h.put_net (a := []) (b := (netO c Z).drop 1) rfl rfl rfl rfl
  exact ⟨q.n, q.ps, q.nx, hH, ⟨w.nodes, w.rows, w.tw, w.la, w.top, w.done, w.kept, w.acc, w.stm, rfl, w.tr, w.an, w.rc⟩, ⟨w0.wnd, w0.w4, w0.nnd, w0.rnd, w0.cell, w0.rcell, w0.kept, w0.n12, w0.r12, w0.kids⟩⟩
end
/-- what the nodes from one with a copy up to the store show of a key -/
inductive Path (M : NetM) (key : Str) : NodeM → List PyData → Prop
  | top {m : NodeM} {c : CellM} : m.above = none → m.cell key = some c → Path M key m [.tuple [.str "store", .int c.told]]
  | up {m m2 : NodeM} {c : CellM} {r : RowM} {u : Str} {cf gr : Int} {ds : List PyData} : m.above = some u → m.cell key = some c → M.row m.label = some r → r.get key = some (cf, gr) → m2 ∈ M.nodes → m2.label = u → Path M key m2 ds → Path M key m (.tuple [.str m.label, .int c.told, .int c.alw, .int cf, .int gr] :: ds)
theorem path_same {M M' : NetM} {key : Str} (hr : ∀ s, M'.row s = M.row s) (hn : ∀ m ∈ M.nodes, m ∈ M'.nodes) {m : NodeM} {ds : List PyData} (h : Path M key m ds) : Path M' key m ds := by
  induction h with
  | top a b => exact .top a b
  | up a b c d e f _ ih => exact .up a b ((hr _).trans c) d (hn _ e) f ih
def recOf (key : Str) (need floor num : Int) (ds : List PyData) : PyData := .tuple [.str key, .int need, .int floor, .int num, .tuple ds]
/-- a question that is asked -/
def NetM.askM (M : NetM) (m : NodeM) (key : Str) (need floor : Int) (ds : List PyData) : NetM :=
  if m.serves key need floor = true then
    match m.cell key with
    | some c => { M with qs := M.qs + 1, recs := putI M.recs (M.qs + 1) (recOf key need floor c.num ds), answ := putI M.answ (M.qs + 1) (c.num, c.val, m.label) }
    | none => M
  else NetM.sendUp { M with qs := M.qs + 1, trails := putI M.trails (M.qs + 1) [m.label] } m.label (.question (M.qs + 1) key need floor)
/-- a question that arrives at m from ch -/
def NetM.hearQ (M : NetM) (m : NodeM) (ch : Str) (q : Int) (key : Str) (need floor : Int) (ds : List PyData) : NetM :=
  if m.serves key need floor = true then
    match getI M.trails q, m.cell key with
    | some _, some c => NetM.sendDown { M with recs := putI M.recs q (recOf key need floor c.num ds) } ch (.answer q c.num c.val m.label)
    | _, _ => M
  else
    NetM.sendUp (match getI M.trails q with
      | some t => { M with trails := putI M.trails q (t ++ [m.label]) }
      | none => M) m.label (.question q key need floor)
def popUp (r : RowM) : RowM := { r with up := r.up.tail }
def popDown (r : RowM) : RowM := { r with down := r.down.tail }
/-- the first message of a link goes -/
def NetM.pop (M : NetM) (up : Bool) (ch : Str) : NetM := M.updR ch (if up = true then popUp else popDown)
section
variable {c : Cs} {H : Hp} {n : Addr} {g : Sg} {M : NetM} {Z : NetZ} {j : Nat} {y : RowZ} {r : RowM} {v0 : V} {vs : List V}
theorem td_tail {mg : Msg} {l : List Msg} (e : l = mg :: l.tail) (hu : TdAll H (v0 :: vs) (l.map Msg.d)) : Td H v0 mg.d ∧ TdAll H vs (l.tail.map Msg.d) := by
  rw [e] at hu
  cases hu with
  | cons a t => exact ⟨a, t⟩
theorem NetQ.popU (q : NetQ c H n g M Z) (hy : Z.rows[j]? = some y) (hr : M.rows[j]? = some r) (e : y.up = v0 :: vs) :
    NetQ c (upd H y.uq (.lst vs)) n g (M.pop true r.child) { Z with rows := Z.rows.set j { y with up := vs } } := by
  obtain ⟨r0, h0, hyr⟩ := pr_get q.r.rows hy
  cases hr.symm.trans h0
  have hH := row_up q.h (set_split hy) vs
  rw [← set_mid hy] at hH
  have kt : KT H (upd H y.uq (.lst vs)) := KT.upd fun xs w => by
    have := q.h.at_row (List.mem_of_getElem? hy) 3
    rw [this] at w
    cases w
  have w := hyr.mono kt
  have hu := hyr.up
  rw [e] at hu
  have htl : TdAll H vs (r.up.tail.map Msg.d) := by
    cases hr2 : r.up with
    | nil => rw [hr2] at hu; cases hu
    | cons a l =>
      rw [hr2] at hu
      cases hu with
      | cons _ t => exact t
  have q2 := q.setRow (r' := popUp r) hy hr hH rfl rfl rfl ⟨w.child, w.above, w.dl, w.ul, w.cells, w.rais, w.there, w.crashed, w.down, htl.mono kt⟩ rfl kt
  have e2 : M.rows.set j (popUp r) = (M.pop true r.child).rows := set_by (f := fun x : RowM => x.child) (F := popUp) q.w.rnd hr
  rw [e2] at q2
  exact q2
theorem NetQ.popD (q : NetQ c H n g M Z) (hy : Z.rows[j]? = some y) (hr : M.rows[j]? = some r) (e : y.down = v0 :: vs) :
    NetQ c (upd H y.dq (.lst vs)) n g (M.pop false r.child) { Z with rows := Z.rows.set j { y with down := vs } } := by
  obtain ⟨r0, h0, hyr⟩ := pr_get q.r.rows hy
  cases hr.symm.trans h0
  have hu := hyr.down
  rw [e] at hu
  have htl : TdAll H vs (r.down.tail.map Msg.d) := by
    cases hr2 : r.down with
    | nil => rw [hr2] at hu; cases hu
    | cons a l =>
      rw [hr2] at hu
      cases hu with
      | cons _ t => exact t
  have q2 := q.setDown (dm := r.down.tail) hy hr htl
  have e2 : M.rows.set j { r with down := r.down.tail } = (M.pop false r.child).rows := set_by (f := fun x : RowM => x.child) (F := popDown) q.w.rnd hr
  rw [e2] at q2
  exact q2
end
end NZ
set_option Elab.async false
set_option linter.all false
set_option maxRecDepth 100000
set_option maxHeartbeats 4000000
namespace K03
open PySem L2 EX PyProof.Rows LamX
open NZ
abbrev sRf : Stmt := top 47
theorem scRf : FnScope ["net", "node", "key", "rows", "copy", "allowance", "told", "asked", "confirmed", "granted"] ["net", "node", "key"] (defScope sRf) := ⟨rfl, rfl, rfl, by decide +kernel, rfl, by decide +kernel, by decide +kernel⟩
abbrev sGi : Stmt := top 48
theorem scGi : FnScope ["net", "node", "question", "key", "need", "floor", "number", "value"] ["net", "node", "question", "key", "need", "floor"] (defScope sGi) := ⟨rfl, rfl, rfl, by decide +kernel, rfl, by decide +kernel, by decide +kernel⟩
abbrev sAs : Stmt := top 49
theorem scAs : FnScope ["net", "node", "key", "need", "floor", "question"] ["net", "node", "key", "need", "floor"] (defScope sAs) := ⟨rfl, rfl, rfl, by decide +kernel, rfl, by decide +kernel, by decide +kernel⟩
abbrev sHq : Stmt := top 50
theorem scHq : FnScope ["net", "node", "sender", "message", "question", "key", "need", "floor", "on_trail", "row"] ["net", "node", "sender", "message"] (defScope sHq) := ⟨rfl, rfl, rfl, by decide +kernel, rfl, by decide +kernel, by decide +kernel⟩
def spRows (c : Cs) : Sp := fun vs H Q _ => ∃ (n na : Addr) (key : Str) (g : Sg) (M : NetM) (m : NodeM) (ds : List PyData), vs = [.ref n, .ref na, .str key] ∧ At c H n g M m na ∧ key ∈ M.words ∧ Path M key m ds ∧ ds.length ≤ 1000 ∧ ∀ q H', Same H H' → Td H' (.ref q) (.tuple ds) → Q (.ref q) H'
def spGive (c : Cs) : Sp := fun vs H Q _ => ∃ (n na : Addr) (q : Int) (key : Str) (need floor : Int) (g : Sg) (M : NetM) (Z : NetZ) (m : NodeM) (cm : CellM) (ds : List PyData), vs = [.ref n, .ref na, .int q, .str key, .int need, .int floor] ∧ NetQ c H n g M Z ∧ (m.label, na) ∈ g.nx ∧ m ∈ M.nodes ∧ key ∈ M.words ∧ m.cell key = some cm ∧ Path M key m ds ∧ ds.length ≤ 1000 ∧ M.recs.length < 1000 ∧
  ∀ p H' rc, Keeps g.S H H' → NetQ c H' n g { M with recs := putI M.recs q (recOf key need floor cm.num ds) } { Z with receipts := rc } → H' p = some (.tup [.int cm.num, .int cm.val, .str m.label]) → Q (.ref p) H'
structure QRoom (M : NetM) : Prop where
  recs : M.recs.length < 1000
  answ : M.answ.length < 1000
  trails : M.trails.length < 1000
  up : ∀ r ∈ M.rows, r.up.length < 990
  down : ∀ r ∈ M.rows, r.down.length < 990
/-- a node that can answer has a way up that can be told; one that cannot has a parent -/
structure QPre (M : NetM) (m : NodeM) (key : Str) (need floor : Int) (ds : List PyData) : Prop where
  kw : key ∈ M.words
  path : m.serves key need floor = true → Path M key m ds ∧ ds.length ≤ 1000
  low : m.serves key need floor = false → ∃ u, m.above = some u
def spAsk (c : Cs) : Sp := fun vs H Q _ => ∃ (n na : Addr) (key : Str) (need floor : Int) (g : Sg) (M : NetM) (m : NodeM) (ds : List PyData), vs = [.ref n, .ref na, .str key, .int need, .int floor] ∧ At c H n g M m na ∧ QPre M m key need floor ds ∧ QRoom M ∧
  ∀ H', Keeps g.S H H' → NetA c H' n g (M.askM m key need floor ds) → Q (.int (M.qs + 1)) H'
def preQuestion (ds : List PyData) (M : NetM) (m : NodeM) (ch : Str) (mg : Msg) : Prop := ∃ q key need floor, mg = .question q key need floor ∧ QPre M m key need floor ds ∧ QRoom M ∧ ch ∈ m.kids ∧ (∃ r, M.row ch = some r) ∧ (∀ t, getI M.trails q = some t → t.length < 900)
def postQuestion (ds : List PyData) (M : NetM) (m : NodeM) (ch : Str) : Msg → NetM
  | .question q key need floor => M.hearQ m ch q key need floor ds
  | _ => M
def spHearQ (c : Cs) : Sp := fun vs H Q E => ∃ ds, spHear c (preQuestion ds) (postQuestion ds) vs H Q E
section
variable {P : Program} {w : World} {K : PySem.W.Frag} {mg : Str → Option Value} {base : Heap}
theorem ok_rf {c : Cs} {f : Addr} {fd : FuncData} (F : Fun K "rows_from" "rows_from" sRf f fd) (B : Bn mg) (T : NetC K c.N) (TC : CacheC K c.C) (TE : EntryC K c.E) : FnOk P w K mg base CX0 1 f fd ["net", "node", "key"] (spRows c) := by
  refine F.ok scRf (fun vs H Q E h => ?_) (fun cdv A outer s H vs Q E hr h => ?_)
  · obtain ⟨n, na, key, g, M, m, ds, rfl, _⟩ := h
    rfl
  · obtain ⟨n, na, key, g, M, m, ds, rfl, ⟨⟨Z, q⟩, hnx, hmem⟩, hk, hpa, hdl, k⟩ := h
    have hu := hu_of hr
    refine ⟨_, (pss_cons (ps_set (i := 3) scRf.nd rfl (Or.inl rfl) (pe_lst pa_nil))
        (pss_cons (ps_while PassesOwn.never (pt_cmp (pc_notN (pe_fld (pv 1) rfl))) (pss_cons (ps_asg (pe_dget hu (pe_fld (pv 1) rfl) (pv 2) (fun _ _ => rfl)) (pg_tup rfl (pgs_cons (pg_name (i := 4) scRf.nd rfl (Or.inl rfl)) (pgs_cons (pg_name (i := 5) scRf.nd rfl (Or.inl rfl)) (pgs_cons (pg_name (i := 6) scRf.nd rfl (Or.inl rfl)) (pgs_cons (pg_name (i := 7) scRf.nd rfl (Or.inl rfl)) pgs_nil))))))
        (pss_cons (ps_asg (pe_dget hu (pe_fld (pe_fld (pv 1) rfl) rfl) (pv 2) (fun _ _ => rfl)) (pg_tup rfl (pgs_cons (pg_name (i := 8) scRf.nd rfl (Or.inl rfl)) (pgs_cons (pg_name (i := 9) scRf.nd rfl (Or.inl rfl)) pgs_nil))))
        (pss_cons (ps_expr (pe_bm PySem.F.plainAttrs_list PySem.F.slot_list_append PySem.F.type_list_append mt_append (pv 3) (pa_cons (pe_tup (pa_cons (pe_fld (pv 1) rfl) (pa_cons (pv 6) (pa_cons (pv 5) (pa_cons (pv 8) (pa_cons (pv 9) pa_nil)))))) pa_nil)))
        (pss_one (ps_set (i := 1) scRf.nd rfl (Or.inl rfl) (pe_dget hu (pe_fld (pv 0) rfl) (pe_fld (pv 1) rfl) (fun _ _ => rfl))))))))
        (pss_one (ps_ret (pe_tup (StX.pa_star (pv 3) (pa_cons (pe_tup (pa_cons (pe_glob (v := .str _) (by rfl) B.st.choose_spec ⟨_, rfl⟩) (pa_cons (pe_ix ix_tup (pe_dget hu (pe_fld (pv 1) rfl) (pv 2) (fun _ _ => rfl)) pe_int (fun _ _ => rfl)) pa_nil))) pa_nil))))))), ?_⟩
    refine ⟨by show 0 ≤ sizeLine; decide, fun rl hrl => ?_⟩
    refine ⟨fun x σ' H' => ∃ (m' : NodeM) (na' : Addr) (ds' pre : List PyData) (vs : List V) (v4 v5 v6 v7 v8 v9 : Option V), σ' = [some (.ref n), some (.ref na'), some (.str key), some (.ref rl), v4, v5, v6, v7, v8, v9] ∧ Same H H' ∧ H' rl = some (.lst vs) ∧ TdAll H' vs pre ∧ (m'.label, na') ∈ g.nx ∧ m' ∈ M.nodes ∧ Path M key m' ds' ∧ pre ++ ds' = ds ∧ x = ds'.length, ⟨_, m, na, ds, [], [], none, none, none, none, none, none, rfl, Same.upd hrl, upd_same, .nil, hnx, hmem, hpa, rfl, rfl⟩, ?_⟩
    rintro x σ' H1 ⟨m', na', ds', pre, vs, v4, v5, v6, v7, v8, v9, rfl, S1, hl1, hvs, hnx', hmem', hpa', eds, rfl⟩
    have q1 := q.mono S1
    obtain ⟨j, z, hz, hm, rfl⟩ := q1.at_ hnx' hmem'
    have hN := NodeH.of q1.h (List.mem_of_getElem? hz)
    obtain ⟨zr, _⟩ := q1.zk hz hm
    obtain ⟨i0, o, hc, hcell, hh⟩ := q1.cellAt hz hm hk
    refine ⟨_, rfl, z.na, c.C, _, _, _, rfl, hN.i, TC.cl, TC.row, rfl, ?_⟩
    cases hpa' with
    | top hab hcm =>
      rename_i cm
      have ezr : z.row = .non := by
        have := zr.row
        rw [hab] at this
        exact this
      rw [hcm] at hcell
      rcases hh with ⟨e0, _⟩ | ⟨cm', t, tc, av, e0, hv, ht, htc, hav⟩
      · rw [e0] at hcell
        cases hcell
      rw [e0] at hcell
      cases hcell
      have hg : DGet H1 z.cd (.str key) (some (.ref t)) := .inl ⟨strK z.cells, Sum.inr key, .inl hN.cd, rfl, hv.symm⟩
      rw [ezr]
      refine ⟨_, rfl, ifF rfl ?_⟩
      refine ⟨_, rfl, rl, vs, rfl, .inr (SqL.of hl1), ?_⟩
      refine ⟨_, rfl, z.na, c.C, _, _, _, rfl, hN.i, TC.cl, TC.cells, rfl, _, rfl, z.cd, _, rfl, hg, t, _, _, _, rfl, rfl, SqT.of ht, atI_nat (j := 2) rfl, by show 2 ≤ sizeLine; decide, fun p hp => ?_⟩
      have S2 : Same H1 (upd H1 p (.tup [.str "store", .int cm.told])) := Same.upd hp
      have l2 : upd H1 p (HO.tup [.str "store", .int cm.told]) p = some (.tup [.str "store", .int cm.told]) := upd_same
      generalize upd H1 p (HO.tup [.str "store", .int cm.told]) = H2 at S2 l2 ⊢
      have hvs2 := (hvs.mono (KT.of S2)).append (.cons (.tup l2 (.cons (.str _) (.cons (.int _) .nil))) .nil)
      rw [eds] at hvs2
      refine ⟨?_, fun p3 hp3 => ?_⟩
      · rw [hvs2.length, sizeLine_eq]
        omega
      exact k p3 _ (Same.trans S1 (Same.trans S2 (Same.upd hp3))) (.tup upd_same (hvs2.mono (KT.of (Same.upd hp3))))
    | up hab hcm hrow hget hm2 hl2 hpa2 =>
      rename_i m2 cm r u cf gr ds2
      obtain ⟨jr, y, r', hy, hr0, yr, hrc, hrow', ezr⟩ := q1.ownRow hz hm hab
      rw [hrow] at hrow'
      cases hrow'
      rw [hcm] at hcell
      rcases hh with ⟨e0, _⟩ | ⟨cm', t, tc, av, e0, hv, ht, htc, hav⟩
      · rw [e0] at hcell
        cases hcell
      rw [e0] at hcell
      cases hcell
      have hRH := RowH.of q1.h (List.mem_of_getElem? hy)
      obtain ⟨i2, cf2, gr2, t2, hri, hyi, hget2, hv2, ht2⟩ := q1.entAt hy hr0 hk
      rw [hget] at hget2
      cases hget2
      have hg : DGet H1 z.cd (.str key) (some (.ref t)) := .inl ⟨strK z.cells, Sum.inr key, .inl hN.cd, rfl, hv.symm⟩
      have hg2 : DGet H1 y.cd (.str key) (some (.ref t2)) := .inl ⟨strK y.cells, Sum.inr key, .inl hRH.cd, rfl, hv2.symm⟩
      rw [ezr]
      refine ⟨_, rfl, ifT notNone ?_⟩
      refine ⟨fun σ' H' => ∃ m', m' < _ ∧ _, fun _ _ h => h, ?_⟩
      refine ⟨_, rfl, z.na, c.C, _, _, _, rfl, hN.i, TC.cl, TC.cells, rfl, _, rfl, z.cd, _, rfl, hg, t, _, rfl, SqT.of ht, rfl, _, _, rfl, _, _, rfl, _, _, rfl, _, _, rfl, rfl, ?_⟩
      refine ⟨_, rfl, z.na, c.C, _, _, _, rfl, hN.i, TC.cl, TC.row, rfl, y.ra, c.E, _, _, _, ezr, hRH.i, TE.cl, TE.cells, rfl, _, rfl, y.cd, _, rfl, hg2, t2, _, rfl, SqT.of ht2, rfl, _, _, rfl, _, _, rfl, rfl, ?_⟩
      refine ⟨_, rfl, .inl ⟨rfl, _, SqL.of hl1⟩, _, rfl, z.na, c.C, _, _, _, rfl, hN.i, TC.cl, TC.label, rfl, _, rfl, _, rfl, _, rfl, _, rfl, by show 5 ≤ sizeLine; decide, fun p hp => ?_⟩
      rw [show z.label = m'.label from zr.label]
      have S2 : Same H1 (upd H1 p (.tup [.str m'.label, .int cm.told, .int cm.alw, .int cf, .int gr])) := Same.upd hp
      have l2 : upd H1 p (HO.tup [.str m'.label, .int cm.told, .int cm.alw, .int cf, .int gr]) p = some (.tup [.str m'.label, .int cm.told, .int cm.alw, .int cf, .int gr]) := upd_same
      generalize upd H1 p (HO.tup [.str m'.label, .int cm.told, .int cm.alw, .int cf, .int gr]) = H2 at S2 l2 ⊢
      have hvl : vs.length < sizeLine := by
        have e := congrArg List.length eds
        rw [List.length_append, List.length_cons] at e
        rw [hvs.length, sizeLine_eq]
        omega
      refine ⟨rl, _, _, rfl, rfl, S2 _ _ hl1, hvl, ?_⟩
      have hrli : H rl = none := hrl
      have S3 : Same H (upd H2 rl (.lst (vs ++ [.ref p]))) := EX.Same.updN (Same.trans S1 S2) hrli
      have kt3 : KT H2 (upd H2 rl (.lst (vs ++ [.ref p]))) := KT.upd fun xs w => by rw [S2 _ _ hl1] at w; cases w
      have hvs3 := ((hvs.mono (KT.of S2)).append (.cons (.tup l2 (.cons (.str _) (.cons (.int _) (.cons (.int _) (.cons (.int _) (.cons (.int _) .nil)))))) .nil)).mono kt3
      have l3 : upd H2 rl (HO.lst (vs ++ [.ref p])) rl = some (.lst (vs ++ [.ref p])) := upd_same
      generalize upd H2 rl (HO.lst (vs ++ [.ref p])) = H3 at S3 kt3 hvs3 l3 ⊢
      have q3 := q.mono S3
      obtain ⟨j2, hj2⟩ := List.mem_iff_getElem?.mp hm2
      obtain ⟨z2, hz2, zr2, hnx2⟩ := q3.node' hj2
      have hzv := q3.nodeV (List.mem_of_getElem? hz2)
      rw [zr2.label, hl2] at hzv
      obtain ⟨j3, z3, hz3, hm3, ez3⟩ := q3.at_ hnx' hmem'
      have hN3 := NodeH.of q3.h (List.mem_of_getElem? hz3)
      obtain ⟨zr3, _⟩ := q3.zk hz3 hm3
      have ha3 : z3.above = .str u := by
        rw [zr3.above, hab]
      refine ⟨_, rfl, n, c.N, _, _, _, rfl, q3.at_n, T.cl, T.f_nodes, rfl, _, rfl, z3.na, c.C, _, _, _, by rw [ez3], hN3.i, TC.cl, TC.above, rfl, Z.nd, _, rfl, .inl ⟨_, Sum.inr u, .inl (q3.h.at_net 1), ha3, hzv.symm⟩, ?_⟩
      exact ⟨ds2.length, Nat.lt_succ_self _, m2, z2.na, ds2, pre ++ [.tuple [.str m'.label, .int cm.told, .int cm.alw, .int cf, .int gr]], _, _, _, _, _, _, _, rfl, S3, l3, hvs3, hnx2, hm2, hpa2, by rw [List.append_assoc]; exact eds, rfl⟩
theorem ok_gi {c : Cs} {f : Addr} {fd : FuncData} (F : Fun K "give" "give" sGi f fd) (T : NetC K c.N) (TC : CacheC K c.C) (GRf : DefAt P w K mg base 1 "rows_from" ["net", "node", "key"] (spRows c)) : FnOk P w K mg base CX0 2 f fd ["net", "node", "question", "key", "need", "floor"] (spGive c) := by
  refine F.ok scGi (fun vs H Q E h => ?_) (fun cdv A outer s H vs Q E hr h => ?_)
  · obtain ⟨n, na, qn, key, need, floor, g, M, Z, m, cm, ds, rfl, _⟩ := h
    rfl
  · obtain ⟨n, na, qn, key, need, floor, g, M, Z, m, cm, ds, rfl, q, hnx, hmem, hk, hcm, hpa, hdl, hrl, k⟩ := h
    have hu := hu_of hr
    obtain ⟨j, z, hz, hm, rfl⟩ := q.at_ hnx hmem
    have hzm := List.mem_of_getElem? hz
    have hN := NodeH.of q.h hzm
    obtain ⟨i0, o, hc, hcell, hh⟩ := q.cellAt hz hm hk
    rw [hcm] at hcell
    rcases hh with ⟨e0, _⟩ | ⟨cm', t, tc, av, e0, hv, ht, htc, hav⟩
    · rw [e0] at hcell
      cases hcell
    rw [e0] at hcell
    cases hcell
    rw [td_opt hav] at ht
    have hg : DGet H z.cd (.str key) (some (.ref t)) := .inl ⟨strK z.cells, Sum.inr key, .inl hN.cd, rfl, hv.symm⟩
    refine ⟨_, (pss_cons (ps_asg (pe_ix ix_tup (pe_dget hu (pe_fld (pv 1) rfl) (pv 3) (fun _ _ => rfl)) pe_int (fun _ _ => rfl)) (pg_tup rfl (pgs_cons (pg_name (i := 6) scGi.nd rfl (Or.inl rfl)) (pgs_cons (pg_name (i := 7) scGi.nd rfl (Or.inl rfl)) pgs_nil))))
        (pss_cons (ps_dput hu (pe_fld (pv 0) rfl) (pv 2) (pe_tup (pa_cons (pv 3) (pa_cons (pv 4) (pa_cons (pv 5) (pa_cons (pv 6) (pa_cons (pe_callD GRf (hr.mono (by decide)) (pa_cons (pv 0) (pa_cons (pv 1) (pa_cons (pv 3) pa_nil)))) pa_nil)))))) rfl)
        (pss_one (ps_ret (pe_tup (pa_cons (pv 6) (pa_cons (pv 7) (pa_cons (pe_fld (pv 1) rfl) pa_nil)))))))), ?_⟩
    refine ⟨_, rfl, z.na, c.C, _, _, _, rfl, hN.i, TC.cl, TC.cells, rfl, _, rfl, z.cd, _, rfl, hg, t, _, _, _, rfl, rfl, SqT.of ht, atI_nat (j := 0) rfl, tc, _, rfl, SqT.of htc, rfl, _, _, rfl, _, _, rfl, rfl, ?_⟩
    refine ⟨_, rfl, _, rfl, _, rfl, _, rfl, _, rfl, _, rfl, _, rfl, n, z.na, key, g, M, m, ds, rfl, ⟨⟨Z, q⟩, hnx, hmem⟩, hk, hpa, hdl, fun qr H1 S1 hq => ⟨by show 5 ≤ sizeLine; decide, fun p hp => ?_⟩⟩
    have S2 : Same H1 (upd H1 p (.tup [.str key, .int need, .int floor, .int cm.num, .ref qr])) := Same.upd hp
    have l2 : upd H1 p (HO.tup [.str key, .int need, .int floor, .int cm.num, .ref qr]) p = some (.tup [.str key, .int need, .int floor, .int cm.num, .ref qr]) := upd_same
    generalize upd H1 p (HO.tup [.str key, .int need, .int floor, .int cm.num, .ref qr]) = H2 at S2 l2 ⊢
    have S02 := Same.trans S1 S2
    have q2 := q.mono S02
    have hrc : H2 Z.rc = some (.dK Z.receipts) := q2.h.at_net 9
    have hlen : Z.receipts.length < sizeLine := by
      rw [pr_len q.r.rc, sizeLine_eq]
      omega
    refine ⟨_, rfl, n, c.N, _, _, _, rfl, q2.at_n, T.cl, T.f_receipts, rfl, _, rfl, Z.rc, _, rfl, .inl ⟨Z.receipts, Sum.inl qn, hrc, rfl, hlen, rfl⟩, ?_⟩
    have htd : Td H2 (.ref p) (recOf key need floor cm.num ds) := .tup l2 (.cons (.str _) (.cons (.int _) (.cons (.int _) (.cons (.int _) (.cons (hq.mono (KT.of S2)) .nil)))))
    have q3 := q2.putRc (k := qn) htd
    have k3 := (Keeps.of S02).put (o := .dK (putK Z.receipts (Sum.inl qn) (.ref p))) (q.in_net 9)
    generalize upd H2 Z.rc (HO.dK (putK Z.receipts (Sum.inl qn) (.ref p))) = H3 at q3 k3 ⊢
    have hN3 : NodeH c.C H3 Z.n z := NodeH.of q3.h hzm
    obtain ⟨zr, _⟩ := q.zk hz hm
    refine ⟨_, rfl, _, rfl, _, rfl, z.na, c.C, _, _, _, rfl, hN3.i, TC.cl, TC.label, rfl, by show 3 ≤ sizeLine; decide, fun p4 hp4 => ?_⟩
    rw [show z.label = m.label from zr.label]
    exact k p4 _ _ (k3.then (Same.upd hp4)) (q3.mono (Same.upd hp4)) upd_same
theorem ok_as {c : Cs} {f : Addr} {fd : FuncData} (F : Fun K "ask" "ask" sAs f fd) (T : NetC K c.N) (TC : CacheC K c.C) (TE : EntryC K c.E) (GSv : MtAt P w K mg base CX0 1 c.C "serves" ["self", "key", "need", "floor"] (spServes c)) (GGi : DefAt P w K mg base 2 "give" ["net", "node", "question", "key", "need", "floor"] (spGive c)) : FnOk P w K mg base CX0 3 f fd ["net", "node", "key", "need", "floor"] (spAsk c) := by
  refine F.ok scAs (fun vs H Q E h => ?_) (fun cdv A outer s H vs Q E hr h => ?_)
  · obtain ⟨n, na, key, need, floor, g, M, m, ds, rfl, _⟩ := h
    rfl
  · obtain ⟨n, na, key, need, floor, g, M, m, ds, rfl, ⟨⟨Z, q⟩, hnx, hmem⟩, hp, hro, k⟩ := h
    have hu := hu_of hr
    have hk := hp.kw
    obtain ⟨j, z, hz, hm, rfl⟩ := q.at_ hnx hmem
    have hzm := List.mem_of_getElem? hz
    obtain ⟨zr, _⟩ := q.zk hz hm
    refine ⟨_, (pss_cons (ps_set (i := 5) scAs.nd rfl (Or.inl rfl) (pe_op op_add (pe_fld (pv 0) rfl) pe_int))
        (pss_cons (ps_fld (pv 0) (pv 5) rfl)
        (pss_cons (ps_if (pt_val (pe_mtD GSv (hr.mono (by decide)) (pv 1) (pa_cons (pv 2) (pa_cons (pv 3) (pa_cons (pv 4) pa_nil))))) (pss_one (ps_dput hu (pe_fld (pv 0) rfl) (pv 5) (pe_callD GGi (hr.mono (by decide)) (pa_cons (pv 0) (pa_cons (pv 1) (pa_cons (pv 5) (pa_cons (pv 2) (pa_cons (pv 3) (pa_cons (pv 4) pa_nil))))))) rfl)) (pss_cons (ps_dput hu (pe_fld (pv 0) rfl) (pv 5) (pe_tup (pa_cons (pe_fld (pv 1) rfl) pa_nil)) rfl)
        (pss_one (ps_expr (pe_bm PySem.F.plainAttrs_list PySem.F.slot_list_append PySem.F.type_list_append mt_append (pe_fld (pe_fld (pv 1) rfl) rfl) (pa_cons (pe_tup (pa_cons pe_str (pa_cons (pv 5) (pa_cons (pv 2) (pa_cons (pv 3) (pa_cons (pv 4) pa_nil)))))) pa_nil))))))
        (pss_one (ps_ret (pv 5)))))), ?_⟩
    refine ⟨_, rfl, n, c.N, _, _, _, rfl, q.at_n, T.cl, T.f_questions, rfl, _, _, rfl, rfl, ?_⟩
    rw [q.r.qs]
    refine ⟨_, rfl, _, rfl, n, c.N, Z.dx, netF Z, rfl, q.at_n, T.cl, T.f_questions, by show 13 < 1000; decide, ?_⟩
    rw [show putF "questions" (.int (M.qs + 1)) (netF Z) = netF { Z with qs := M.qs + 1 } from rfl]
    have q1 := q.setQs (k := M.qs + 1)
    have k1 : Keeps g.S H (upd H n (.ins c.N Z.dx (netF { Z with qs := M.qs + 1 }))) := (Keeps.refl _ _).put q.mem_n
    generalize upd H n (HO.ins c.N Z.dx (netF { Z with qs := M.qs + 1 })) = H1 at q1 k1 ⊢
    have hN1 : NodeH c.C H1 Z.n z := NodeH.of q1.h hzm
    refine ⟨_, rfl, z.na, _, _, rfl, hN1.i, rfl, _, rfl, _, rfl, _, rfl, z.na, key, need, floor, n, g, _, m, rfl, ⟨⟨_, q1⟩, hnx, hmem⟩, hk, _, rfl, ?_⟩
    unfold NetM.askM at k
    cases hb : m.serves key need floor with
    | true =>
      rw [hb] at k
      obtain ⟨hpa, hdl⟩ := hp.path hb
      have ex : ∃ cm, m.cell key = some cm := by
        unfold NodeM.serves at hb
        cases h : m.cell key with
        | none => rw [h] at hb; cases hb
        | some cm => exact ⟨cm, rfl⟩
      obtain ⟨cm, hcm⟩ := ex
      rw [hcm] at k
      refine iteT ?_
      have hpa1 : Path { M with qs := M.qs + 1 } key m ds := path_same (M := M) (M' := { M with qs := M.qs + 1 }) (fun _ => rfl) (fun _ h => h) hpa
      refine ⟨_, rfl, _, rfl, _, rfl, _, rfl, _, rfl, _, rfl, n, z.na, M.qs + 1, key, need, floor, g, _, _, m, cm, ds, rfl, q1, hnx, hmem, hk, hcm, hpa1, hdl, hro.recs, fun p H2 rc k2 q2 hp2 => ?_⟩
      have han : H2 Z.an = some (.dK Z.answered) := q2.h.at_net 8
      have hlen : Z.answered.length < sizeLine := by
        rw [pr_len q.r.an, sizeLine_eq]
        have := hro.answ
        omega
      refine ⟨_, rfl, n, c.N, _, _, _, rfl, q2.at_n, T.cl, T.f_answered, rfl, _, rfl, Z.an, _, rfl, .inl ⟨Z.answered, Sum.inl (M.qs + 1), han, rfl, hlen, rfl⟩, ?_⟩
      have q3 := q2.putAn (k := M.qs + 1) (x := (cm.num, cm.val, m.label)) (.tup hp2 (.cons (.int _) (.cons (.int _) (.cons (.str _) .nil))))
      exact ⟨_, rfl, k _ ((k1.trans k2).put (q2.in_net 8)) ⟨_, q3⟩⟩
    | false =>
      rw [hb] at k
      obtain ⟨u, hab⟩ := hp.low hb
      obtain ⟨jr, y, r, hy, hr0, yr, hrc, hrow, ezr⟩ := q.ownRow hz hm hab
      refine iteF ?_
      refine ⟨_, rfl, z.na, c.C, _, _, _, rfl, hN1.i, TC.cl, TC.label, rfl, by show 1 ≤ sizeLine; decide, fun p hp => ?_⟩
      rw [show z.label = m.label from zr.label]
      have S2 : Same H1 (upd H1 p (.tup [.str m.label])) := Same.upd hp
      have l2 : upd H1 p (HO.tup [.str m.label]) p = some (.tup [.str m.label]) := upd_same
      generalize upd H1 p (HO.tup [.str m.label]) = H2 at S2 l2 ⊢
      have q2 := q1.mono S2
      have htr : H2 Z.tr = some (.dK Z.trails) := q2.h.at_net 7
      have hlen : Z.trails.length < sizeLine := by
        rw [pr_len q.r.tr, sizeLine_eq]
        have := hro.trails
        omega
      refine ⟨_, rfl, n, c.N, _, _, _, rfl, q2.at_n, T.cl, T.f_trails, rfl, _, rfl, Z.tr, _, rfl, .inl ⟨Z.trails, Sum.inl (M.qs + 1), htr, rfl, hlen, rfl⟩, ?_⟩
      have q3 := q2.putTr (k := M.qs + 1) (x := [m.label]) (.tup l2 (.cons (.str _) .nil))
      have k3 := (k1.then S2).put (o := .dK (putK Z.trails (Sum.inl (M.qs + 1)) (.ref p))) (q.in_net 7)
      have q3 : NetQ c (upd H2 Z.tr (.dK (putK Z.trails (Sum.inl (M.qs + 1)) (.ref p)))) n g _ _ := q3
      generalize upd H2 Z.tr (HO.dK (putK Z.trails (Sum.inl (M.qs + 1)) (.ref p))) = H3 at q3 k3 ⊢
      have hN3 : NodeH c.C H3 Z.n z := NodeH.of q3.h hzm
      have hRH3 : RowH c.E H3 y := RowH.of q3.h (List.mem_of_getElem? hy)
      have hrl := hro.up r (List.mem_of_getElem? hr0)
      have yl : y.up.length < sizeLine := by
        rw [yr.up.length, List.length_map, sizeLine_eq]
        omega
      refine ⟨_, rfl, z.na, c.C, _, _, _, rfl, hN3.i, TC.cl, TC.row, rfl, y.ra, c.E, _, _, _, ezr, hRH3.i, TE.cl, TE.up, rfl, .inl ⟨rfl, _, SqL.of hRH3.uq⟩, _, rfl, _, rfl, _, rfl, _, rfl, by show 5 ≤ sizeLine; decide, fun p4 hp4 => ?_⟩
      have S4 : Same H3 (upd H3 p4 (.tup [.str "question", .int (M.qs + 1), .str key, .int need, .int floor])) := Same.upd hp4
      have l4 : upd H3 p4 (HO.tup [.str "question", .int (M.qs + 1), .str key, .int need, .int floor]) p4 = some (.tup [.str "question", .int (M.qs + 1), .str key, .int need, .int floor]) := upd_same
      generalize upd H3 p4 (HO.tup [.str "question", .int (M.qs + 1), .str key, .int need, .int floor]) = H4 at S4 l4 ⊢
      refine ⟨y.uq, _, _, rfl, rfl, S4 _ _ hRH3.uq, yl, ?_⟩
      have q5 := (q3.mono S4).pushUp (d := .question (M.qs + 1) key need floor) hy hr0 (td_msg_of l4)
      rw [hrc] at q5
      exact ⟨_, rfl, k _ ((k3.then S4).put (q.in_row (List.mem_of_getElem? hy) 3)) ⟨_, q5⟩⟩
theorem ok_hq {c : Cs} {f : Addr} {fd : FuncData} (F : Fun K "hear_question" "hear_question" sHq f fd) (T : NetC K c.N) (TC : CacheC K c.C) (TE : EntryC K c.E) (GSv : MtAt P w K mg base CX0 1 c.C "serves" ["self", "key", "need", "floor"] (spServes c)) (GGi : DefAt P w K mg base 2 "give" ["net", "node", "question", "key", "need", "floor"] (spGive c)) : FnOk P w K mg base CX0 3 f fd ["net", "node", "sender", "message"] (spHearQ c) := by
  refine F.ok scHq (fun vs H Q E h => ?_) (fun cdv A outer s H vs Q E hr h => ?_)
  · obtain ⟨ds, n, na, sd, mv, g, M, m, mg, rfl, _⟩ := h
    rfl
  · obtain ⟨ds, n, na, sd, mv, g, M, m, mg, rfl, hmv, ⟨⟨Z, q⟩, hnx, hmem⟩, hpre, hroom, k⟩ := h
    have hu := hu_of hr
    obtain ⟨qn, key, need, floor, rfl, hp, hro, hch, ⟨r1, hrow1⟩, htl⟩ := hpre
    have hk := hp.kw
    have hmv0 := hmv
    obtain ⟨mp, rfl, hmp⟩ := td_msg hmv
    have hmp : H mp = some (.tup [.str "question", .int qn, .str key, .int need, .int floor]) := hmp
    have k : ∀ H', Keeps g.S H H' → NetA c H' n g (M.hearQ m sd qn key need floor ds) → Q .non H' := k
    have nt := q.notup
    obtain ⟨j, z, hz, hm, rfl⟩ := q.at_ hnx hmem
    have hzm := List.mem_of_getElem? hz
    obtain ⟨zr, _⟩ := q.zk hz hm
    refine ⟨_, (pss_cons (ps_asg (pe_slice sl_tupA (pv 3) (po_some pe_int) po_none) (pg_tup rfl (pgs_cons (pg_name (i := 4) scHq.nd rfl (Or.inl rfl)) (pgs_cons (pg_name (i := 5) scHq.nd rfl (Or.inl rfl)) (pgs_cons (pg_name (i := 6) scHq.nd rfl (Or.inl rfl)) (pgs_cons (pg_name (i := 7) scHq.nd rfl (Or.inl rfl)) pgs_nil))))))
        (pss_cons (ps_set (i := 8) scHq.nd rfl (Or.inl rfl) (pe_cmp (pc_din hu (pv 4) (pe_fld (pv 0) rfl))))
        (pss_one (ps_if (pt_not (pt_val (pe_mtD GSv (hr.mono (by decide)) (pv 1) (pa_cons (pv 5) (pa_cons (pv 6) (pa_cons (pv 7) pa_nil)))))) (pss_cons (ps_if (pt_val (pv 8)) (pss_one (ps_dput hu (pe_fld (pv 0) rfl) (pv 4) (pe_op op_catA (pe_dget hu (pe_fld (pv 0) rfl) (pv 4) (fun _ _ => rfl)) (pe_tup (pa_cons (pe_fld (pv 1) rfl) pa_nil))) rfl)) pss_nil)
        (pss_one (ps_expr (pe_bm PySem.F.plainAttrs_list PySem.F.slot_list_append PySem.F.type_list_append mt_append (pe_fld (pe_fld (pv 1) rfl) rfl) (pa_cons (pv 3) pa_nil))))) (pss_one (ps_if (pt_val (pv 8)) (pss_cons (ps_set (i := 9) scHq.nd rfl (Or.inl rfl) (pe_dget hu (pe_fld (pv 1) rfl) (pv 2) (fun _ _ => rfl)))
        (pss_one (ps_expr (pe_bm PySem.F.plainAttrs_list PySem.F.slot_list_append PySem.F.type_list_append mt_append (pe_fld (pv 9) rfl) (pa_cons (pe_op op_catA (pe_tup (pa_cons pe_str (pa_cons (pv 4) pa_nil))) (pe_callD GGi (hr.mono (by decide)) (pa_cons (pv 0) (pa_cons (pv 1) (pa_cons (pv 4) (pa_cons (pv 5) (pa_cons (pv 6) (pa_cons (pv 7) pa_nil)))))))) pa_nil))))) pss_nil)))))), ?_⟩
    refine ⟨_, rfl, 1, rfl, mp, _, rfl, SqT.of hmp, (fun w => absurd (show HT.sIx 5 0 (some 1) = 0 from w.1) (by decide)), fun _ p hp0 => ?_⟩
    rw [show cutV [V.str ("question" : Str), V.int qn, V.str key, V.int need, V.int floor] (some 1) none = [V.int qn, V.str key, V.int need, V.int floor] from rfl]
    have S1 : Same H (upd H p (.tup [.int qn, .str key, .int need, .int floor])) := Same.upd hp0
    have l1 : upd H p (HO.tup [.int qn, .str key, .int need, .int floor]) p = some (.tup [.int qn, .str key, .int need, .int floor]) := upd_same
    refine ⟨p, _, rfl, SqT.of l1, rfl, _, _, rfl, _, _, rfl, _, _, rfl, _, _, rfl, rfl, ?_⟩
    generalize upd H p (HO.tup [.int qn, .str key, .int need, .int floor]) = H1 at S1 l1 ⊢
    have q1 := q.mono S1
    have hN1 : NodeH c.C H1 Z.n z := NodeH.of q1.h hzm
    have htr1 : H1 Z.tr = some (.dK Z.trails) := q1.h.at_net 7
    refine ⟨_, rfl, _, rfl, n, c.N, _, _, _, rfl, q1.at_n, T.cl, T.f_trails, rfl, Z.tr, _, rfl, .inl ⟨_, Sum.inl qn, .inl htr1, rfl, rfl⟩, ?_⟩
    have htv := prI_get (G := fun v (x : List Str) => Td H1 v (.tuple (x.map PyData.str))) (k := qn) q1.r.tr
    have hmv1 : Td H1 (.ref mp) (Msg.question qn key need floor).d := hmv0.mono (KT.of S1)
    refine ⟨_, rfl, z.na, _, _, rfl, hN1.i, rfl, _, rfl, _, rfl, _, rfl, z.na, key, need, floor, n, g, M, m, rfl, ⟨⟨Z, q1⟩, hnx, hmem⟩, hk, _, rfl, ?_⟩
    unfold NetM.hearQ at k
    cases hb : m.serves key need floor with
    | false =>
      rw [hb] at k
      obtain ⟨u, hab⟩ := hp.low hb
      obtain ⟨jr, y, r, hy, hr0, yr, hrc, hrow, ezr⟩ := q.ownRow hz hm hab
      have hrl := hro.up r (List.mem_of_getElem? hr0)
      have yl : y.up.length < sizeLine := by
        rw [yr.up.length, List.length_map, sizeLine_eq]
        omega
      refine iteT ?_
      rcases htv with ⟨e1, e2⟩ | ⟨t, v, e1, e2, hv⟩
      · rw [e1] at k
        rw [e2]
        refine ⟨_, rfl, _, rfl, iteF ?_⟩
        have hRH1 : RowH c.E H1 y := RowH.of q1.h (List.mem_of_getElem? hy)
        refine ⟨_, rfl, z.na, c.C, _, _, _, rfl, hN1.i, TC.cl, TC.row, rfl, y.ra, c.E, _, _, _, ezr, hRH1.i, TE.cl, TE.up, rfl, .inl ⟨rfl, _, SqL.of hRH1.uq⟩, _, rfl, y.uq, _, _, rfl, rfl, hRH1.uq, yl, ?_⟩
        have q5 := q1.pushUp (d := .question qn key need floor) hy hr0 hmv1
        rw [hrc] at q5
        exact k _ ((Keeps.of S1).put (q.in_row (List.mem_of_getElem? hy) 3)) ⟨_, q5⟩
      · rw [e1] at k
        rw [e2]
        refine ⟨_, rfl, _, rfl, iteT ?_⟩
        obtain ⟨ta, xs, ev, hta, hxs⟩ := td_tup hv
        subst ev
        rw [td_strsV hxs] at hta
        have hg : DGet H1 Z.tr (.int qn) (some (.ref ta)) := .inl ⟨_, Sum.inl qn, .inl htr1, rfl, e2.symm⟩
        refine ⟨_, rfl, n, c.N, _, _, _, rfl, q1.at_n, T.cl, T.f_trails, rfl, _, rfl, Z.tr, _, rfl, hg, _, rfl, z.na, c.C, _, _, _, rfl, hN1.i, TC.cl, TC.label, rfl, by show 1 ≤ sizeLine; decide, fun p2 hp2 => ?_⟩
        rw [show z.label = m.label from zr.label]
        have S2 : Same H1 (upd H1 p2 (.tup [.str m.label])) := Same.upd hp2
        have l2 : upd H1 p2 (HO.tup [.str m.label]) p2 = some (.tup [.str m.label]) := upd_same
        generalize upd H1 p2 (HO.tup [.str m.label]) = H2 at S2 l2 ⊢
        have htl2 := htl t e1
        refine k_cat (S2 _ _ hta) l2 (fun e => nomatch e) (by rw [List.length_map, sizeLine_eq]; show t.length + 1 ≤ _; omega) fun p3 H3 S3 l3 => ?_
        have S13 := Same.trans S2 S3
        have q3 := q1.mono S13
        have htr3 : H3 Z.tr = some (.dK Z.trails) := q3.h.at_net 7
        have hlen : Z.trails.length < sizeLine := by
          rw [pr_len q.r.tr, sizeLine_eq]
          have := hro.trails
          omega
        refine ⟨_, rfl, n, c.N, _, _, _, rfl, q3.at_n, T.cl, T.f_trails, rfl, _, rfl, Z.tr, _, rfl, .inl ⟨Z.trails, Sum.inl qn, htr3, rfl, hlen, rfl⟩, ?_⟩
        have htd : Td H3 (.ref p3) (.tuple ((t ++ [m.label]).map PyData.str)) := by
          refine .tup l3 ?_
          have := td_strs (H := H3) (t ++ [m.label])
          rw [List.map_append] at this
          exact this
        have q4 := q3.putTr (k := qn) (x := t ++ [m.label]) htd
        have k4 := (Keeps.of (Same.trans S1 S13)).put (o := .dK (putK Z.trails (Sum.inl qn) (.ref p3))) (q.in_net 7)
        have hmv4 : Td (upd H3 Z.tr (.dK (putK Z.trails (Sum.inl qn) (.ref p3)))) (.ref mp) (Msg.question qn key need floor).d := hmv0.mono (KT.keeps k4 nt)
        have q4 : NetQ c (upd H3 Z.tr (.dK (putK Z.trails (Sum.inl qn) (.ref p3)))) n g _ _ := q4
        generalize upd H3 Z.tr (HO.dK (putK Z.trails (Sum.inl qn) (.ref p3))) = H4 at q4 k4 hmv4 ⊢
        have hN4 : NodeH c.C H4 Z.n z := NodeH.of q4.h hzm
        have hRH4 : RowH c.E H4 y := RowH.of q4.h (List.mem_of_getElem? hy)
        refine ⟨_, rfl, z.na, c.C, _, _, _, rfl, hN4.i, TC.cl, TC.row, rfl, y.ra, c.E, _, _, _, ezr, hRH4.i, TE.cl, TE.up, rfl, .inl ⟨rfl, _, SqL.of hRH4.uq⟩, _, rfl, y.uq, _, _, rfl, rfl, hRH4.uq, yl, ?_⟩
        have q5 := q4.pushUp (d := .question qn key need floor) hy hr0 hmv4
        rw [hrc] at q5
        exact k _ (k4.put (q.in_row (List.mem_of_getElem? hy) 3)) ⟨_, q5⟩
    | true =>
      rw [hb] at k
      obtain ⟨hpa, hdl⟩ := hp.path hb
      have ex : ∃ cm, m.cell key = some cm := by
        unfold NodeM.serves at hb
        cases h : m.cell key with
        | none => rw [h] at hb; cases hb
        | some cm => exact ⟨cm, rfl⟩
      obtain ⟨cm, hcm⟩ := ex
      refine iteF ?_
      rcases htv with ⟨e1, e2⟩ | ⟨t, v, e1, e2, hv⟩
      · rw [e1] at k
        rw [e2]
        exact ⟨_, rfl, _, rfl, iteF (k H1 (Keeps.of S1) ⟨Z, q1⟩)⟩
      · rw [e1, hcm] at k
        rw [e2]
        refine ⟨_, rfl, _, rfl, iteT ?_⟩
        obtain ⟨hrm, hrc⟩ := row_in hrow1
        obtain ⟨jr, hjr⟩ := List.mem_iff_getElem?.mp hrm
        subst hrc
        obtain ⟨y, hy, yr, hkv, hRH⟩ := kidOf' q hz hm hch hjr
        have hRH1 : RowH c.E H1 y := RowH.of q1.h (List.mem_of_getElem? hy)
        have hye : DGet H1 z.en (.str r1.child) (some (.ref y.ra)) := .inl ⟨_, Sum.inr r1.child, .inl hN1.en, rfl, hkv.symm⟩
        have hrl := hro.down r1 hrm
        have yl : y.down.length < sizeLine := by
          rw [yr.down.length, List.length_map, sizeLine_eq]
          omega
        refine ⟨_, rfl, z.na, c.C, _, _, _, rfl, hN1.i, TC.cl, TC.entries, rfl, _, rfl, z.en, _, rfl, hye, ?_⟩
        refine ⟨_, rfl, y.ra, c.E, _, _, _, rfl, hRH1.i, TE.cl, TE.down, rfl, .inl ⟨rfl, _, SqL.of hRH1.dq⟩, _, rfl, by show 2 ≤ sizeLine; decide, fun p2 hp2 => ?_⟩
        have S2 : Same H1 (upd H1 p2 (.tup [.str "answer", .int qn])) := Same.upd hp2
        have l2 : upd H1 p2 (HO.tup [.str "answer", .int qn]) p2 = some (.tup [.str "answer", .int qn]) := upd_same
        generalize upd H1 p2 (HO.tup [.str "answer", .int qn]) = H2 at S2 l2 ⊢
        have q2 := q1.mono S2
        refine ⟨_, rfl, _, rfl, _, rfl, _, rfl, _, rfl, _, rfl, n, z.na, qn, key, need, floor, g, M, Z, m, cm, ds, rfl, q2, hnx, hmem, hk, hcm, hpa, hdl, hro.recs, fun p5 H5 rc k5 q5 hp5 => ?_⟩
        refine k_cat ((KT.keeps k5 q2.notup) _ _ l2) hp5 (fun e => nomatch e) (by show 5 ≤ sizeLine; decide) fun p6 H6 S6 l6 => ?_
        have q6 := q5.mono S6
        have hRH6 : RowH c.E H6 y := RowH.of q6.h (List.mem_of_getElem? hy)
        refine ⟨y.dq, _, _, rfl, rfl, hRH6.dq, yl, ?_⟩
        have q7 := q6.pushDown (d := .answer qn cm.num cm.val m.label) hy hjr (td_msg_of l6)
        exact k _ ((((Keeps.of (Same.trans S1 S2)).trans k5).then S6).put (q.in_row (List.mem_of_getElem? hy) 2)) ⟨_, q7⟩
end
end K03
set_option Elab.async false
set_option linter.all false
set_option maxRecDepth 100000
set_option maxHeartbeats 4000000
/-! calls of a slot that holds one of several defs; methods with defaults -/
namespace EX
open PySem L2 PyProof.Rows
section
variable {X : Cx} {k i : Nat} {x m : Str} {p pos apos : Pos} {e o : Expr} {es : List Expr} {t : TA} {ta : TE} {C : Addr} {ps : List Str} {sp : Sp} {dvs : List V}
/-- which promise goes with which place -/
def tCallR (i : Nat) (R : Addr → Sp → Prop) (t : TA) : TE := fun σ H Q => ∃ (f : Addr) (sp : Sp), R f sp ∧ σ[i]? = some (some (.ref f)) ∧ t σ H fun vs H1 => sp vs H1 Q fun _ _ _ => False
theorem pe_callR {R : Addr → Sp → Prop} (A : ∀ f sp, R f sp → Held X.prog X.w X.K X.mg X.base k f sp) (hr : Room k X.A) (hN : X.N[i]? = some x) (hv : Vis X.env.scope x) (ha : PA X (e :: es) t)
    (d1 : (x == ("__debug__" : Str)) = false := by decide) (d2 : (x == ("__classdict__" : Str)) = false := by decide)
    (h1 : starEach (e :: es) X.env = (false, eval e X.env) :: starEach es X.env := by rfl) (h2 : (backTo pos (starEach es X.env)).any (·.1) = false := by rfl) : PE X (.Call (.Name x p) (e :: es) [] pos) (tCallR i R t) := by
  constructor
  intro pins s σ H Q I h
  obtain ⟨f, sp, hR, hs, ht⟩ := h
  have one := pe_callA (X := X) (k := k) (i := i) (p := p) (S := fun a => if a = f then some sp else none) (fun f' sp' hh => by
    by_cases ef : f' = f
    · rw [if_pos ef] at hh
      cases hh
      rw [ef]
      exact A f sp hR
    · rw [if_neg ef] at hh
      cases hh) hr hN hv ha d1 d2 h1 h2
  exact one.run pins s σ H Q I ⟨f, sp, hs, if_pos rfl, ht⟩
/-- a method of which the last arguments are left out -/
structure MtDf (P : Program) (w : World) (K : PySem.W.Frag) (mg : Str → Option Value) (base : Heap) (k : Nat) (C : Addr) (m : Str) (ps : List Str) (sp : Sp) (dvs : List V) : Prop where
  c : Cls K C
  ex : ∃ (f : Addr) (fd : FuncData) (ds : List Value), Meth K C m f ∧ FnOk P w K mg base CX0 k f fd ps sp ∧ Binds K fd ps ds ∧ Vals dvs ds
theorem pe_mtDf {pl : Sem Bool} (D : MtDf X.prog X.w X.K X.mg X.base k C m ps sp dvs) (hr : Room k X.A) (he : PE X o ta) (ha : PA X (e :: es) t)
    (hst : starEach (e :: es) X.env = (false, eval e X.env) :: starEach es X.env := by rfl) (hpl : (backTo pos (starEach es X.env)).any (·.1) = false := by rfl)
    (ht : eval (.Call (.Attribute o m apos) (e :: es) [] pos) X.env = (do
      let ov ← eval o X.env
      standAt apos.atName
      let (f, first) ← holding [ov] (getMethod ov m pl)
      callWith pos f first (backTo pos (starEach (e :: es) X.env)) (backToKw pos (keywordEach [] X.env))) := by rfl) : PE X (.Call (.Attribute o m apos) (e :: es) [] pos) (tMeth C m sp dvs E0 ta t) := by
  obtain ⟨f, fd, ds, hm, F, b, hd⟩ := D.ex
  exact pe_meth (pl := pl) he D.c hm F hr b hd pass0 ha hst hpl ht
end
end EX
set_option Elab.async false
set_option linter.all false
set_option maxRecDepth 100000
set_option maxHeartbeats 4000000
/-! t[key] of a kept dict with text keys; what never runs -/
namespace EX
open PySem L2 PySem.Spec PyProof.Rows
section
variable {X : Cx} {d : Addr} {es : Array DictEntry} {n : Nat}
def rIxKd (K : PySem.W.Frag) (d : Addr) : R2 := fun x y H Q => ∃ (z : Str) (u0 : Value) (v0 : V), x = .ref d ∧ y = .str z ∧ PySem.W.nsIn K d z = some (some u0) ∧ RelV v0 u0 ∧ Q v0 H
theorem ix_kd (D : KDict X.K X.w d es n) : IxR X (rIxKd X.K d) := by
  intro value slice pins s σ H x y v u Q I rx ry h hs
  obtain ⟨z, u0, v0, rfl, rfl, e, r, q⟩ := h
  cases rx
  exact tail_any (kd_type D I) F.slot_dict_getitem.lookup (op_item_kd D pins s σ H (.ref d) (.str z) (.ref d) u Q I rfl ry ⟨z, u0, v0, rfl, rfl, e, r, q⟩) hs
theorem pe_never {e : Expr} : PE X e (fun _ _ _ => False) := ⟨fun _ _ _ _ _ _ h => h.elim⟩
end
end EX
set_option Elab.async false
set_option linter.all false
set_option maxRecDepth 100000
set_option maxHeartbeats 4000000
namespace K03
open PySem L2 EX PyProof.Rows LamX
open NZ
abbrev sDv : Stmt := inClass (top 63) 18
theorem scDv : FnScope ["self", "sender", "receiver", "queue", "rows", "message", "arrive"] ["self", "sender", "receiver"] (defScope sDv) := ⟨rfl, rfl, rfl, by decide +kernel, rfl, by decide +kernel, by decide +kernel⟩
def Msg.tag : Msg → Str
  | .copy _ _ _ _ => "copy"
  | .update _ _ _ => "update"
  | .lower _ _ => "lower"
  | .raise _ _ => "raise"
  | .answer _ _ _ _ => "answer"
  | .confirm _ _ => "confirm"
  | .agree _ _ => "agree"
  | .question _ _ _ _ => "question"
  | .gone => "gone"
/-- what a message does at m, sent by s -/
def heard (M : NetM) (m : NodeM) (s : Str) (mg : Msg) (M2 : NetM) : Prop := match mg with
  | .copy a b c d => preCopy M m s (.copy a b c d) ∧ M2 = postCopy M m s (.copy a b c d)
  | .update a b c => preUpdate M m s (.update a b c) ∧ M2 = postUpdate M m s (.update a b c)
  | .lower a b => preLower M m s (.lower a b) ∧ M2 = postLower M m s (.lower a b)
  | .confirm a b => preConfirm M m s (.confirm a b) ∧ M2 = postConfirm M m s (.confirm a b)
  | .raise a b => preRaise M m s (.raise a b) ∧ M2 = postRaise M m s (.raise a b)
  | .question a b c d => ∃ ds, preQuestion ds M m s (.question a b c d) ∧ M2 = postQuestion ds M m s (.question a b c d)
  | _ => False
def spArr (c : Cs) (tag : Str) : Sp := fun vs H Q _ => ∃ (n na : Addr) (sd : Str) (mv : V) (g : Sg) (M M2 : NetM) (m : NodeM) (mg : Msg), Msg.tag mg = tag ∧ vs = [.ref n, .ref na, .str sd, mv] ∧ Td H mv mg.d ∧ At c H n g M m na ∧ heard M m sd mg M2 ∧ (∀ r ∈ M.rows, r.up.length < 990 ∧ r.down.length < 990) ∧ ∀ H', Keeps g.S H H' → NetA c H' n g M2 → Q .non H'
def tags : List Str := ["copy", "update", "lower", "raise", "confirm", "question"]
theorem heard_tag {M : NetM} {m : NodeM} {s : Str} {mg : Msg} {M2 : NetM} (h : heard M m s mg M2) : Msg.tag mg ∈ tags := by
  cases mg with
  | answer _ _ _ _ => exact h.elim
  | agree _ _ => exact h.elim
  | gone => exact h.elim
  | copy _ _ _ _ => exact .head _
  | update _ _ _ => exact .tail _ (.head _)
  | lower _ _ => exact .tail _ (.tail _ (.head _))
  | raise _ _ => exact .tail _ (.tail _ (.tail _ (.head _)))
  | confirm _ _ => exact .tail _ (.tail _ (.tail _ (.tail _ (.head _))))
  | question _ _ _ _ => exact .tail _ (.tail _ (.tail _ (.tail _ (.tail _ (.head _)))))
/-- what stands behind the names of the messages -/
def ArrOk (P : Program) (w : World) (K : PySem.W.Frag) (mg : Str → Option Value) (base : Heap) (c : Cs) (aD : Addr) : Prop := ∀ tag ∈ tags, ∃ f, PySem.W.nsIn K aD tag = some (some (.ref f)) ∧ Held P w K mg base 5 f (spArr c tag)
def dDeed (s r : Str) : PyData := .tuple [.str "deliver", .str s, .str r]
/-- which queue a delivery takes, up or down -/
structure Que (M : NetM) (s r : Str) (up : Bool) (y : RowM) (mg : Msg) : Prop where
  u : up = true → M.lnk s r = some y ∧ y.up = mg :: y.up.tail
  d : up = false → M.lnk s r = none ∧ M.lnk r s = some y ∧ y.down = mg :: y.down.tail
def NetM.note (M : NetM) (d : PyData) : NetM := { M with done := M.done ++ [d] }
def spDel (c : Cs) : Sp := fun vs H Q _ => ∃ (n : Addr) (g : Sg) (M M2 : NetM) (s r : Str) (up : Bool) (y : RowM) (mg : Msg) (m : NodeM), vs = [.ref n, .str s, .str r] ∧ NetA c H n g M ∧ Que M s r up y mg ∧ m ∈ M.nodes ∧ m.label = r ∧ M.done.length < 1000 ∧ (∀ r ∈ M.rows, r.up.length < 990 ∧ r.down.length < 990) ∧
  heard ((NetM.note M (dDeed s r)).pop up y.child) m s mg M2 ∧ ∀ H' msg, Keeps g.S H H' → NetA c H' n g M2 → Td H' msg mg.d → Q msg H'
section
variable {P : Program} {w : World} {K : PySem.W.Frag} {mg : Str → Option Value} {base : Heap}
theorem arr_copy {c : Cs} {f : Addr} {fd : FuncData} {k : Nat} (F : FnOk P w K mg base CX0 k f fd ["net", "node", "sender", "message"] (spHear c preCopy postCopy)) (h : k ≤ 5) : FnOk P w K mg base CX0 5 f fd ["net", "node", "sender", "message"] (spArr c "copy") := by
  refine (F.mono h).imp fun vs H Q E q => ?_
  obtain ⟨n, na, sd, mv, g, M, M2, m, mg, ht, e, hmv, hat, hh, hb, k⟩ := q
  cases mg with
  | copy _ _ _ _ => 
    obtain ⟨hp, rfl⟩ := hh
    exact ⟨n, na, sd, mv, g, M, m, _, e, hmv, hat, hp, hb, k⟩
  | update _ _ _ => exact absurd ht (by show ¬ (("update" : Str) = "copy"); decide)
  | lower _ _ => exact absurd ht (by show ¬ (("lower" : Str) = "copy"); decide)
  | raise _ _ => exact absurd ht (by show ¬ (("raise" : Str) = "copy"); decide)
  | answer _ _ _ _ => exact absurd ht (by show ¬ (("answer" : Str) = "copy"); decide)
  | confirm _ _ => exact absurd ht (by show ¬ (("confirm" : Str) = "copy"); decide)
  | agree _ _ => exact absurd ht (by show ¬ (("agree" : Str) = "copy"); decide)
  | question _ _ _ _ => exact absurd ht (by show ¬ (("question" : Str) = "copy"); decide)
  | gone => exact absurd ht (by show ¬ (("gone" : Str) = "copy"); decide)
theorem arr_update {c : Cs} {f : Addr} {fd : FuncData} {k : Nat} (F : FnOk P w K mg base CX0 k f fd ["net", "node", "sender", "message"] (spHear c preUpdate postUpdate)) (h : k ≤ 5) : FnOk P w K mg base CX0 5 f fd ["net", "node", "sender", "message"] (spArr c "update") := by
  refine (F.mono h).imp fun vs H Q E q => ?_
  obtain ⟨n, na, sd, mv, g, M, M2, m, mg, ht, e, hmv, hat, hh, hb, k⟩ := q
  cases mg with
  | copy _ _ _ _ => exact absurd ht (by show ¬ (("copy" : Str) = "update"); decide)
  | update _ _ _ => 
    obtain ⟨hp, rfl⟩ := hh
    exact ⟨n, na, sd, mv, g, M, m, _, e, hmv, hat, hp, hb, k⟩
  | lower _ _ => exact absurd ht (by show ¬ (("lower" : Str) = "update"); decide)
  | raise _ _ => exact absurd ht (by show ¬ (("raise" : Str) = "update"); decide)
  | answer _ _ _ _ => exact absurd ht (by show ¬ (("answer" : Str) = "update"); decide)
  | confirm _ _ => exact absurd ht (by show ¬ (("confirm" : Str) = "update"); decide)
  | agree _ _ => exact absurd ht (by show ¬ (("agree" : Str) = "update"); decide)
  | question _ _ _ _ => exact absurd ht (by show ¬ (("question" : Str) = "update"); decide)
  | gone => exact absurd ht (by show ¬ (("gone" : Str) = "update"); decide)
theorem arr_lower {c : Cs} {f : Addr} {fd : FuncData} {k : Nat} (F : FnOk P w K mg base CX0 k f fd ["net", "node", "sender", "message"] (spHear c preLower postLower)) (h : k ≤ 5) : FnOk P w K mg base CX0 5 f fd ["net", "node", "sender", "message"] (spArr c "lower") := by
  refine (F.mono h).imp fun vs H Q E q => ?_
  obtain ⟨n, na, sd, mv, g, M, M2, m, mg, ht, e, hmv, hat, hh, hb, k⟩ := q
  cases mg with
  | copy _ _ _ _ => exact absurd ht (by show ¬ (("copy" : Str) = "lower"); decide)
  | update _ _ _ => exact absurd ht (by show ¬ (("update" : Str) = "lower"); decide)
  | lower _ _ => 
    obtain ⟨hp, rfl⟩ := hh
    exact ⟨n, na, sd, mv, g, M, m, _, e, hmv, hat, hp, hb, k⟩
  | raise _ _ => exact absurd ht (by show ¬ (("raise" : Str) = "lower"); decide)
  | answer _ _ _ _ => exact absurd ht (by show ¬ (("answer" : Str) = "lower"); decide)
  | confirm _ _ => exact absurd ht (by show ¬ (("confirm" : Str) = "lower"); decide)
  | agree _ _ => exact absurd ht (by show ¬ (("agree" : Str) = "lower"); decide)
  | question _ _ _ _ => exact absurd ht (by show ¬ (("question" : Str) = "lower"); decide)
  | gone => exact absurd ht (by show ¬ (("gone" : Str) = "lower"); decide)
theorem arr_confirm {c : Cs} {f : Addr} {fd : FuncData} {k : Nat} (F : FnOk P w K mg base CX0 k f fd ["net", "node", "sender", "message"] (spHear c preConfirm postConfirm)) (h : k ≤ 5) : FnOk P w K mg base CX0 5 f fd ["net", "node", "sender", "message"] (spArr c "confirm") := by
  refine (F.mono h).imp fun vs H Q E q => ?_
  obtain ⟨n, na, sd, mv, g, M, M2, m, mg, ht, e, hmv, hat, hh, hb, k⟩ := q
  cases mg with
  | copy _ _ _ _ => exact absurd ht (by show ¬ (("copy" : Str) = "confirm"); decide)
  | update _ _ _ => exact absurd ht (by show ¬ (("update" : Str) = "confirm"); decide)
  | lower _ _ => exact absurd ht (by show ¬ (("lower" : Str) = "confirm"); decide)
  | raise _ _ => exact absurd ht (by show ¬ (("raise" : Str) = "confirm"); decide)
  | answer _ _ _ _ => exact absurd ht (by show ¬ (("answer" : Str) = "confirm"); decide)
  | confirm _ _ => 
    obtain ⟨hp, rfl⟩ := hh
    exact ⟨n, na, sd, mv, g, M, m, _, e, hmv, hat, hp, hb, k⟩
  | agree _ _ => exact absurd ht (by show ¬ (("agree" : Str) = "confirm"); decide)
  | question _ _ _ _ => exact absurd ht (by show ¬ (("question" : Str) = "confirm"); decide)
  | gone => exact absurd ht (by show ¬ (("gone" : Str) = "confirm"); decide)
theorem arr_raise {c : Cs} {f : Addr} {fd : FuncData} {k : Nat} (F : FnOk P w K mg base CX0 k f fd ["net", "node", "sender", "message"] (spHear c preRaise postRaise)) (h : k ≤ 5) : FnOk P w K mg base CX0 5 f fd ["net", "node", "sender", "message"] (spArr c "raise") := by
  refine (F.mono h).imp fun vs H Q E q => ?_
  obtain ⟨n, na, sd, mv, g, M, M2, m, mg, ht, e, hmv, hat, hh, hb, k⟩ := q
  cases mg with
  | copy _ _ _ _ => exact absurd ht (by show ¬ (("copy" : Str) = "raise"); decide)
  | update _ _ _ => exact absurd ht (by show ¬ (("update" : Str) = "raise"); decide)
  | lower _ _ => exact absurd ht (by show ¬ (("lower" : Str) = "raise"); decide)
  | raise _ _ => 
    obtain ⟨hp, rfl⟩ := hh
    exact ⟨n, na, sd, mv, g, M, m, _, e, hmv, hat, hp, hb, k⟩
  | answer _ _ _ _ => exact absurd ht (by show ¬ (("answer" : Str) = "raise"); decide)
  | confirm _ _ => exact absurd ht (by show ¬ (("confirm" : Str) = "raise"); decide)
  | agree _ _ => exact absurd ht (by show ¬ (("agree" : Str) = "raise"); decide)
  | question _ _ _ _ => exact absurd ht (by show ¬ (("question" : Str) = "raise"); decide)
  | gone => exact absurd ht (by show ¬ (("gone" : Str) = "raise"); decide)
theorem arr_question {c : Cs} {f : Addr} {fd : FuncData} {k : Nat} (F : FnOk P w K mg base CX0 k f fd ["net", "node", "sender", "message"] (spHearQ c)) (h : k ≤ 5) : FnOk P w K mg base CX0 5 f fd ["net", "node", "sender", "message"] (spArr c "question") := by
  refine (F.mono h).imp fun vs H Q E q => ?_
  obtain ⟨n, na, sd, mv, g, M, M2, m, mg, ht, e, hmv, hat, hh, hb, k⟩ := q
  cases mg with
  | copy _ _ _ _ => exact absurd ht (by show ¬ (("copy" : Str) = "question"); decide)
  | update _ _ _ => exact absurd ht (by show ¬ (("update" : Str) = "question"); decide)
  | lower _ _ => exact absurd ht (by show ¬ (("lower" : Str) = "question"); decide)
  | raise _ _ => exact absurd ht (by show ¬ (("raise" : Str) = "question"); decide)
  | answer _ _ _ _ => exact absurd ht (by show ¬ (("answer" : Str) = "question"); decide)
  | confirm _ _ => exact absurd ht (by show ¬ (("confirm" : Str) = "question"); decide)
  | agree _ _ => exact absurd ht (by show ¬ (("agree" : Str) = "question"); decide)
  | question _ _ _ _ => 
    obtain ⟨ds, hp, rfl⟩ := hh
    exact ⟨ds, n, na, sd, mv, g, M, m, _, e, hmv, hat, hp, hb, k⟩
  | gone => exact absurd ht (by show ¬ (("gone" : Str) = "question"); decide)
theorem arrAll {c : Cs} {aD : Addr} (HA : ArrOk P w K mg base c aD) (f : Addr) (sp : Sp) (h : ∃ tag ∈ tags, PySem.W.nsIn K aD tag = some (some (.ref f)) ∧ sp = spArr c tag) : Held P w K mg base 5 f sp := by
  obtain ⟨tag, ht, hn, rfl⟩ := h
  obtain ⟨f2, h2, hh⟩ := HA tag ht
  rw [hn] at h2
  cases h2
  exact hh
theorem ok_dv {c : Cs} {f aD : Addr} {fd : FuncData} {es : Array DictEntry} {en : Nat} (F : Fun K "deliver" "Net.deliver" sDv f fd) (B : Bn mg) (T : NetC K c.N) (TE : EntryC K c.E) (hA : mg "ARRIVALS" = some (.ref aD)) (D : KDict K w aD es en) (HA : ArrOk P w K mg base c aD) : FnOk P w K mg base CX0 6 f fd ["self", "sender", "receiver"] (spDel c) := by
  refine F.ok scDv (fun vs H Q E h => ?_) (fun cdv A outer s H vs Q E hr h => ?_)
  · obtain ⟨n, g, M, M2, sd, rv, up, yr, mg, m, rfl, _⟩ := h
    rfl
  · obtain ⟨n, g, M, M2, sd, rv, up, r, mg, m, rfl, ⟨Z, q⟩, hq, hmem, hml, hd, hroom, hh, k⟩ := h
    have hu := hu_of hr
    have hn := q.at_n
    have nt := q.notup
    have hrd : H Z.rd = some (.dK (rowsK Z.rows)) := q.h.at_net 2
    -- the row and the queue
    obtain ⟨jr, y, hy, hr0, yr, hrc⟩ : ∃ (jr : Nat) (y : RowZ), Z.rows[jr]? = some y ∧ M.rows[jr]? = some r ∧ RowR H y r ∧ r.child = (if up = true then sd else rv) := by
      have hrow : M.row (if up = true then sd else rv) = some r := by
        cases up with
        | true => exact (lnk_in (hq.u rfl).1).1
        | false => exact (lnk_in (hq.d rfl).2.1).1
      rcases q.rowK (if up = true then sd else rv) with ⟨e, _⟩ | ⟨j, y, r2, h1, h2, h3, h4, h5, _⟩
      · rw [hrow] at e
        cases e
      · rw [hrow] at h5
        cases h5
        exact ⟨j, y, h1, h2, h3, h4⟩
    have hym := List.mem_of_getElem? hy
    have hRH := RowH.of q.h hym
    obtain ⟨v0, vs, hv0, qa, hqa, hqS, hqq⟩ : ∃ (v0 : V) (vs : List V), Td H v0 mg.d ∧ ∃ qa : Addr, qa = (if up = true then y.uq else y.dq) ∧ qa ∈ g.S ∧ (∀ {H1 : Hp} {M1 : NetM} {Z1 : NetZ}, NetQ c H1 n g M1 Z1 → Z1.rows = Z.rows → M1.rows = M.rows → H1 qa = some (.lst (v0 :: vs)) ∧ ∃ Z2, NetQ c (upd H1 qa (.lst vs)) n g (M1.pop up r.child) Z2 ∧ Z2.nodes = Z1.nodes ∧ Z2.n = Z1.n) := by
      cases up with
      | true =>
        have e := (hq.u rfl).2
        have hu := yr.up
        rw [e] at hu
        generalize hl : y.up = l at hu
        cases hu with
        | cons a t =>
          rename_i v0 vs
          refine ⟨v0, vs, a, y.uq, rfl, q.in_row hym 3, fun {H1 M1 Z1} q1 e1 e2 => ⟨?_, _, q1.popU (v0 := v0) (vs := vs) (y := y) (by rw [e1]; exact hy) (by rw [e2]; exact hr0) hl, rfl, rfl⟩⟩
          have := (RowH.of q1.h (y := y) (by rw [e1]; exact hym)).uq
          rw [hl] at this
          exact this
      | false =>
        have e := (hq.d rfl).2.2
        have hu := yr.down
        rw [e] at hu
        generalize hl : y.down = l at hu
        cases hu with
        | cons a t =>
          rename_i v0 vs
          refine ⟨v0, vs, a, y.dq, rfl, q.in_row hym 2, fun {H1 M1 Z1} q1 e1 e2 => ⟨?_, _, q1.popD (v0 := v0) (vs := vs) (y := y) (by rw [e1]; exact hy) (by rw [e2]; exact hr0) hl, rfl, rfl⟩⟩
          have := (RowH.of q1.h (y := y) (by rw [e1]; exact hym)).dq
          rw [hl] at this
          exact this
    refine ⟨_, (pss_cons (ps_set (i := 3) scDv.nd rfl (Or.inl rfl) pe_non)
        (pss_cons (ps_if (PW.pt (pw_and (pt_val (pe_callB call_isi (by rfl) B.isi PyProof.Rows.boot_isinstance (pa_cons (pv 1) (pa_cons (pe_bltn (v := .ty "str") (by rfl) B.str (by decide +kernel) rfl) pa_nil)))) (pw_and1 (pt_val (pe_callB call_isi (by rfl) B.isi PyProof.Rows.boot_isinstance (pa_cons (pv 2) (pa_cons (pe_bltn (v := .ty "str") (by rfl) B.str (by decide +kernel) rfl) pa_nil))))))) (pss_cons (ps_set (i := 4) scDv.nd rfl (Or.inl rfl) (pe_fld (pv 0) rfl))
        (pss_one (ps_if (PW.pt (pw_and (pt_cmp (pc_din hu (pv 1) (pv 4))) (pw_and1 (pt_cmpR op_eq (pe_fld (pe_dget hu (pv 4) (pv 1) (fun _ _ => rfl)) rfl) (pv 2) (nomark _))))) (pss_one (ps_set (i := 3) scDv.nd rfl (Or.inl rfl) (pe_fld (pe_dget hu (pv 4) (pv 1) (fun _ _ => rfl)) rfl))) (pss_one (ps_if (PW.pt (pw_and (pt_cmp (pc_din hu (pv 2) (pv 4))) (pw_and1 (pt_cmpR op_eq (pe_fld (pe_dget hu (pv 4) (pv 2) (fun _ _ => rfl)) rfl) (pv 1) (nomark _))))) (pss_one (ps_set (i := 3) scDv.nd rfl (Or.inl rfl) (pe_fld (pe_dget hu (pv 4) (pv 2) (fun _ _ => rfl)) rfl))) pss_nil))))) pss_nil)
        (pss_cons (ps_if (pt_not (pt_truth (pv 3) (by intro _; rfl))) pss_never pss_nil)
        (pss_cons (ps_expr (pe_bm PySem.F.plainAttrs_list PySem.F.slot_list_append PySem.F.type_list_append mt_append (pe_fld (pv 0) rfl) (pa_cons (pe_tup (pa_cons pe_str (pa_cons (pv 1) (pa_cons (pv 2) pa_nil)))) pa_nil)))
        (pss_cons (ps_set (i := 5) scDv.nd rfl (Or.inl rfl) (pe_bm PySem.F.plainAttrs_list PySem.F.slot_list_pop PySem.F.type_list_pop mt_popAt (pv 3) (pa_cons pe_int pa_nil)))
        (pss_cons (ps_set (i := 6) scDv.nd rfl (Or.inl rfl) (pe_ix (ix_kd D) (pe_glob (v := .ref aD) (by rfl) hA rfl) (pe_ix ix_tup (pv 5) pe_int (fun _ _ => rfl)) (fun _ _ => rfl)))
        (pss_cons (ps_expr (pe_callR (i := 6) (R := fun f sp => ∃ tag ∈ tags, PySem.W.nsIn K aD tag = some (some (.ref f)) ∧ sp = spArr c tag) (arrAll HA) (hr.mono (by decide)) (by rfl) (Or.inl rfl) (pa_cons (pv 0) (pa_cons (pe_dget hu (pe_fld (pv 0) rfl) (pv 2) (fun _ _ => rfl)) (pa_cons (pv 1) (pa_cons (pv 5) pa_nil))))))
        (pss_one (ps_ret (pv 5)))))))))), ?_⟩
    refine ⟨_, rfl, _, _, _, _, true, rfl, .ty _, .base (.str _), kit_ty (by decide +kernel), _, rfl, iteT ?_⟩
    refine ⟨_, rfl, _, _, _, _, true, rfl, .ty _, .base (.str _), kit_ty (by decide +kernel), _, rfl, iteT ?_⟩
    refine ⟨_, rfl, n, c.N, _, _, _, rfl, hn, T.cl, T.f_rows, rfl, ?_⟩
    refine ⟨_, rfl, _, rfl, Z.rd, _, rfl, .inl ⟨_, Sum.inr sd, .inl hrd, rfl, rfl⟩, _, rfl, and_to up (fun h R kR => ?_) (fun h => ?_) (fun H1 S1 => ?_)⟩
    · rcases q.rowK sd with ⟨_, hv⟩ | ⟨j, y2, r2, h1, h2, h3, h4, h5, hv⟩
      · rw [hv] at h
        cases h
      · have hRH2 := RowH.of q.h (List.mem_of_getElem? h1)
        have hg2 : DGet H Z.rd (.str sd) (some (.ref y2.ra)) := .inl ⟨_, Sum.inr sd, .inl hrd, rfl, hv.symm⟩
        have e : decide (V.str y2.above = V.str rv) = up := by
          cases up with
          | true =>
            have := (lnk_in (hq.u rfl).1)
            rw [h5] at this
            obtain ⟨e1, e2⟩ := this
            cases e1
            exact decide_eq_true (by rw [h3.above, e2])
          | false =>
            refine decide_eq_false fun w => ?_
            have h6 := lnk_of h5 (show r2.above = rv by rw [← h3.above]; exact V.str.inj w)
            rw [(hq.d rfl).1] at h6
            cases h6
        refine ⟨_, rfl, _, rfl, Z.rd, _, rfl, hg2, y2.ra, c.E, _, _, _, rfl, hRH2.i, TE.cl, TE.above, rfl, _, rfl, rfl, _, rfl, ?_⟩
        rw [e]
        exact kR H (Same.refl _)
    · cases up with
      | false => rfl
      | true =>
        rcases q.rowK sd with ⟨e1, _⟩ | ⟨j, y2, r2, h1, h2, h3, h4, h5, hv⟩
        · rw [(lnk_in (hq.u rfl).1).1] at e1
          cases e1
        · rw [hv] at h
          cases h
    have q1 := q.mono S1
    have hrd1 : H1 Z.rd = some (.dK (rowsK Z.rows)) := q1.h.at_net 2
    have hRH1 := RowH.of q1.h hym
    have hrv := q.rowV hym
    rw [yr.child, hrc] at hrv
    refine ifS_via (fun σ' H' => σ' = [some (.ref n), some (.str sd), some (.str rv), some (.ref qa), some (.ref Z.rd), none, none] ∧ H' = H1) (fun h D' kD => ?_) (fun h D' kD => ?_) ?_
    · subst h
      have hg : DGet H1 Z.rd (.str sd) (some (.ref y.ra)) := .inl ⟨_, Sum.inr sd, .inl hrd1, rfl, hrv.symm⟩
      refine ⟨_, rfl, _, rfl, Z.rd, _, rfl, hg, y.ra, c.E, _, _, _, rfl, hRH1.i, TE.cl, TE.up, rfl, ?_⟩
      exact kD _ _ ⟨by rw [hqa]; rfl, rfl⟩
    · subst h
      have hg : DGet H1 Z.rd (.str rv) (some (.ref y.ra)) := .inl ⟨_, Sum.inr rv, .inl hrd1, rfl, hrv.symm⟩
      refine ⟨_, rfl, _, rfl, Z.rd, _, rfl, hg, _, rfl, iteT ?_⟩
      have ha := (lnk_in (hq.d rfl).2.1).2
      refine ⟨_, rfl, _, rfl, Z.rd, _, rfl, hg, y.ra, c.E, _, _, _, rfl, hRH1.i, TE.cl, TE.above, rfl, _, rfl, rfl, _, rfl, ifT (decide_eq_true (by rw [yr.above, ha])) ?_⟩
      refine ⟨_, rfl, _, rfl, Z.rd, _, rfl, hg, y.ra, c.E, _, _, _, rfl, hRH1.i, TE.cl, TE.down, rfl, ?_⟩
      exact kD _ _ ⟨by rw [hqa]; rfl, rfl⟩
    rintro σ' Hx ⟨rfl, eH⟩
    have eH := eH.symm
    subst eH
    obtain ⟨hl1, _⟩ := hqq q1 rfl rfl
    refine ⟨_, rfl, true, .inl ⟨_, SqL.of hl1, rfl⟩, ifF rfl ?_⟩
    have hdn : H1 Z.dn = some (.lst Z.done) := q1.h.at_net 3
    have hdl2 : Z.done.length < sizeLine := by
      rw [q.r.done.length, sizeLine_eq]
      omega
    refine ⟨_, rfl, n, c.N, _, _, _, rfl, q1.at_n, T.cl, T.f_done, rfl, .inl ⟨rfl, _, SqL.of hdn⟩, _, rfl, _, rfl, by show 3 ≤ sizeLine; decide, fun p hp => ?_⟩
    have S2 : Same H1 (upd H1 p (.tup [.str "deliver", .str sd, .str rv])) := Same.upd hp
    have l2 : upd H1 p (HO.tup [.str "deliver", .str sd, .str rv]) p = some (.tup [.str "deliver", .str sd, .str rv]) := upd_same
    generalize upd H1 p (HO.tup [.str "deliver", .str sd, .str rv]) = H2 at S2 l2 ⊢
    refine ⟨Z.dn, _, _, rfl, rfl, S2 _ _ hdn, hdl2, ?_⟩
    have q3 := (q1.mono S2).addDone (d := dDeed sd rv) (.tup l2 (.cons (.str _) (.cons (.str _) (.cons (.str _) .nil))))
    have k3 := (Keeps.of (Same.trans S1 S2)).put (o := .lst (Z.done ++ [.ref p])) (q.in_net 3)
    have q3 : NetQ c (upd H2 Z.dn (.lst (Z.done ++ [.ref p]))) n g (NetM.note M (dDeed sd rv)) { Z with done := Z.done ++ [.ref p] } := q3
    generalize upd H2 Z.dn (HO.lst (Z.done ++ [.ref p])) = H3 at q3 k3 ⊢
    obtain ⟨hl3, Z4, q4, ezn, en4⟩ := hqq q3 rfl rfl
    refine ⟨_, rfl, .inl ⟨rfl, _, SqL.of hl3⟩, qa, _, 0, 0, v0, rfl, rfl, hl3, by decide, by decide, by simp [seqIndex?], rfl, ?_⟩
    rw [show (v0 :: vs).eraseIdx 0 = vs from rfl]
    have k4 := k3.put (o := .lst vs) hqS
    generalize upd H3 qa (HO.lst vs) = H4 at q4 k4 ⊢
    have kt4 := KT.keeps k4 nt
    have hv4 := hv0.mono kt4
    obtain ⟨mp, rfl, hmp⟩ := td_msg hv4
    obtain ⟨fh, hns, _⟩ := HA (Msg.tag mg) (heard_tag hh)
    have hat0 : atI (Msg.vs mg) 0 = some (.str (Msg.tag mg)) := by cases mg <;> rfl
    refine ⟨_, rfl, mp, _, _, _, rfl, rfl, SqT.of hmp, hat0, Msg.tag mg, .ref fh, .ref fh, rfl, rfl, hns, rfl, ?_⟩
    obtain ⟨j, hj⟩ := List.mem_iff_getElem?.mp hmem
    have hmem4 : m ∈ ((NetM.note M (dDeed sd rv)).pop up r.child).nodes := hmem
    obtain ⟨z, hz, zr, hnx⟩ := q4.node' (m := m) (i := j) hj
    have hzv := q4.nodeV (List.mem_of_getElem? hz)
    rw [show z.label = rv from zr.label.trans hml] at hzv
    have hnd4 : H4 Z4.nd = some (.dK (nodesK Z4.nodes)) := q4.h.at_net 1
    have hgn : DGet H4 Z4.nd (.str rv) (some (.ref z.na)) := .inl ⟨_, Sum.inr rv, .inl hnd4, rfl, hzv.symm⟩
    have hroom4 : ∀ x ∈ ((NetM.note M (dDeed sd rv)).pop up r.child).rows, x.up.length < 990 ∧ x.down.length < 990 := fun x hx => by
      obtain ⟨x0, h0, rfl⟩ := List.mem_map.mp hx
      have := hroom x0 h0
      split
      · cases up
        · exact ⟨this.1, by show x0.down.tail.length < 990; rw [List.length_tail]; omega⟩
        · exact ⟨by show x0.up.tail.length < 990; rw [List.length_tail]; omega, this.2⟩
      · exact this
    refine ⟨fh, spArr c (Msg.tag mg), ⟨Msg.tag mg, heard_tag hh, hns, rfl⟩, rfl, _, rfl, _, rfl, n, c.N, _, _, _, rfl, q4.at_n, T.cl, T.f_nodes, rfl, _, rfl, Z4.nd, _, rfl, hgn, _, rfl, _, rfl, ?_⟩
    exact ⟨n, z.na, sd, .ref mp, g, _, M2, m, mg, rfl, rfl, hv4, ⟨⟨Z4, q4⟩, hnx, hmem4⟩, hh, hroom4, fun H5 k5 hN5 => ⟨_, rfl, k H5 _ (k4.trans k5) hN5 (hv4.mono (KT.keeps k5 q4.notup))⟩⟩
end
end K03
set_option Elab.async false
set_option linter.all false
set_option maxRecDepth 100000
set_option maxHeartbeats 4000000
namespace K03
open PySem L2 EX PyProof.Rows LamX
open NZ
/-- a node's cell in the heap -/
theorem At.cell {c : Cs} {H : Hp} {n : Addr} {g : Sg} {M : NetM} {m : NodeM} {na : Addr} {key : Str} {cm : CellM} (h : At c H n g M m na) (hk : key ∈ M.words) (hc : m.cell key = some cm) :
    ∃ (z : NodeZ) (t tc : Addr) (av : V), z.na = na ∧ NodeH c.C H n z ∧ valV (strK z.cells) (Sum.inr key) = some (.ref t) ∧ H t = some (.tup [.ref tc, .int cm.alw, .int cm.told, av]) ∧ H tc = some (.tup [.int cm.num, .int cm.val]) := by
  obtain ⟨⟨Z, q⟩, hnx, hmem⟩ := h
  obtain ⟨j, z, hz, hm, e⟩ := q.at_ hnx hmem
  have hN := NodeH.of q.h (List.mem_of_getElem? hz)
  obtain ⟨i0, o, hc0, hcell, hh⟩ := q.cellAt hz hm hk
  rw [hc] at hcell
  rcases hh with ⟨e0, _⟩ | ⟨cm', t, tc, av, e0, hv, ht, htc, _⟩
  · rw [e0] at hcell
    cases hcell
  · rw [e0] at hcell
    cases hcell
    exact ⟨z, t, tc, av, e, by rw [← q.n]; exact hN, hv, ht, htc⟩
theorem topCell {c : Cs} {H : Hp} {n : Addr} {g : Sg} {M : NetM} {Z : NetZ} (q : NetQ c H n g M Z) {m0 : NodeM} (hm : M.nodes[0]? = some m0) {key : Str} (hk : key ∈ M.words) {cm : CellM} (hc : m0.cell key = some cm) :
    ∃ (z : NodeZ) (t tc : Addr) (av : V), Z.top = .ref z.na ∧ NodeH c.C H n z ∧ valV (strK z.cells) (Sum.inr key) = some (.ref t) ∧ H t = some (.tup [.ref tc, .int cm.alw, .int cm.told, av]) ∧ H tc = some (.tup [.int cm.num, .int cm.val]) := by
  obtain ⟨z, hz, zr, hnx⟩ := q.node' hm
  obtain ⟨z', r', e5, etop⟩ := q.r.top
  have ez : z' = z := by
    rw [e5] at hz
    exact Option.some.inj hz
  subst ez
  obtain ⟨z2, t, tc, av, e, h1, h2, h3, h4⟩ := At.cell (na := z'.na) ⟨⟨Z, q⟩, hnx, List.mem_of_getElem? hm⟩ hk hc
  exact ⟨z2, t, tc, av, by rw [e]; exact etop, h1, h2, h3, h4⟩
def spCellOf (c : Cs) (val : CellM → Int) : Sp := fun vs H Q _ => ∃ (na : Addr) (key : Str) (n : Addr) (g : Sg) (M : NetM) (m : NodeM) (cm : CellM), vs = [.ref na, .str key] ∧ At c H n g M m na ∧ key ∈ M.words ∧ m.cell key = some cm ∧ Q (.int (val cm)) H
def bndOf (cm : CellM) : Int := cm.told + cm.alw - cm.num
def spBound (c : Cs) : Sp := spCellOf c bndOf
def spIw : Sp := fun vs H Q _ => ∃ (q lo hi : Int), vs = [.int q, .int lo, .int hi] ∧ Q (.bl (decide (lo ≤ q) && decide (q ≤ hi))) H
def spCheckKey (c : Cs) : Sp := fun vs H Q _ => ∃ (n : Addr) (key : Str) (g : Sg) (M : NetM), vs = [.ref n, .str key] ∧ NetA c H n g M ∧ key ∈ M.words ∧ Q .non H
def spCheckNeed (c : Cs) : Sp := fun vs H Q _ => ∃ (n : Addr) (key : Str) (need floor : Int) (g : Sg) (M : NetM) (m0 : NodeM) (c0 : CellM), vs = [.ref n, .str key, .int need, .int floor] ∧ NetA c H n g M ∧ key ∈ M.words ∧ M.nodes[0]? = some m0 ∧ m0.cell key = some c0 ∧ 0 ≤ need ∧ need ≤ 999 ∧ 0 ≤ floor ∧ floor ≤ c0.told ∧ Q .non H
def spNumber (c : Cs) : Sp := fun vs H Q _ => ∃ (n : Addr) (key : Str) (g : Sg) (M : NetM) (m0 : NodeM) (c0 : CellM), vs = [.ref n, .str key] ∧ NetA c H n g M ∧ key ∈ M.words ∧ M.nodes[0]? = some m0 ∧ m0.cell key = some c0 ∧ Q (.int c0.told) H
def spWaiting (c : Cs) : Sp := fun vs H Q _ => ∃ (n : Addr) (key : Str) (g : Sg) (M : NetM), vs = [.ref n, .str key] ∧ NetA c H n g M ∧ key ∈ M.words ∧ ∀ l H', Same H H' → H l = none → H' l = some (.lst ((M.keptOf key).map V.int)) → Q (.ref l) H'
def spAge (c : Cs) : Sp := fun vs H Q _ => ∃ (n : Addr) (key : Str) (g : Sg) (M : NetM) (m m0 : NodeM) (cm c0 : CellM), vs = [.ref n, .str m.label, .str key] ∧ NetA c H n g M ∧ m ∈ M.nodes ∧ key ∈ M.words ∧ m.cell key = some cm ∧ M.nodes[0]? = some m0 ∧ m0.cell key = some c0 ∧ Q (.int (c0.told - cm.num)) H
def AnsAt (H : Hp) (v : V) : Option (Int × Int × Str) → Prop
  | none => v = .non
  | some x => Td H v (.tuple [.int x.1, .int x.2.1, .str x.2.2])
def spAnswer (c : Cs) : Sp := fun vs H Q _ => ∃ (n : Addr) (qn : Int) (g : Sg) (M : NetM), vs = [.ref n, .int qn] ∧ NetA c H n g M ∧ 1 ≤ qn ∧ qn ≤ M.qs ∧ ∀ v, AnsAt H v (getI M.answ qn) → Q v H
def rDeed (name key : Str) (need floor : Int) : PyData := .tuple [.str "read", .str name, .str key, .int need, .int floor]
def spRead (c : Cs) : Sp := fun vs H Q _ => ∃ (n : Addr) (key : Str) (need floor : Int) (g : Sg) (M : NetM) (m m0 : NodeM) (c0 : CellM) (ds : List PyData), vs = [.ref n, .str m.label, .str key, .int need, .int floor] ∧ NetA c H n g M ∧ m ∈ M.nodes ∧ key ∈ M.words ∧ M.nodes[0]? = some m0 ∧ m0.cell key = some c0 ∧
  0 ≤ need ∧ need ≤ 999 ∧ 0 ≤ floor ∧ floor ≤ c0.told ∧ QPre (NetM.note M (rDeed m.label key need floor)) m key need floor ds ∧ QRoom M ∧ M.done.length < 1000 ∧
  ∀ H', Keeps g.S H H' → NetA c H' n g ((NetM.note M (rDeed m.label key need floor)).askM m key need floor ds) → Q (.int (M.qs + 1)) H'
abbrev sBo : Stmt := inClass (top 22) 16
theorem scBo : FnScope ["self", "key", "cell"] ["self", "key"] (defScope sBo) := ⟨rfl, rfl, rfl, by decide +kernel, rfl, by decide +kernel, by decide +kernel⟩
abbrev sCk2 : Stmt := inClass (top 63) 12
theorem scCk2 : FnScope ["self", "key"] ["self", "key"] (defScope sCk2) := ⟨rfl, rfl, rfl, by decide +kernel, rfl, by decide +kernel, by decide +kernel⟩
abbrev sCn : Stmt := inClass (top 63) 13
theorem scCn : FnScope ["self", "key", "need", "floor", "number"] ["self", "key", "need", "floor"] (defScope sCn) := ⟨rfl, rfl, rfl, by decide +kernel, rfl, by decide +kernel, by decide +kernel⟩
abbrev sNu : Stmt := inClass (top 63) 26
theorem scNu : FnScope ["self", "key"] ["self", "key"] (defScope sNu) := ⟨rfl, rfl, rfl, by decide +kernel, rfl, by decide +kernel, by decide +kernel⟩
abbrev sWa : Stmt := inClass (top 63) 27
theorem scWa : FnScope ["self", "key"] ["self", "key"] (defScope sWa) := ⟨rfl, rfl, rfl, by decide +kernel, rfl, by decide +kernel, by decide +kernel⟩
abbrev sAge : Stmt := inClass (top 63) 28
theorem scAge : FnScope ["self", "name", "key", "cell"] ["self", "name", "key"] (defScope sAge) := ⟨rfl, rfl, rfl, by decide +kernel, rfl, by decide +kernel, by decide +kernel⟩
abbrev sAn : Stmt := inClass (top 63) 25
theorem scAn : FnScope ["self", "question"] ["self", "question"] (defScope sAn) := ⟨rfl, rfl, rfl, by decide +kernel, rfl, by decide +kernel, by decide +kernel⟩
abbrev sRe : Stmt := inClass (top 63) 16
theorem scRe : FnScope ["self", "name", "key", "need", "floor"] ["self", "name", "key", "need", "floor"] (defScope sRe) := ⟨rfl, rfl, rfl, by decide +kernel, rfl, by decide +kernel, by decide +kernel⟩
abbrev sIw : Stmt := top 28
theorem scIw : FnScope ["obj", "low", "high"] ["obj", "low", "high"] (defScope sIw) := ⟨rfl, rfl, rfl, by decide +kernel, rfl, by decide +kernel, by decide +kernel⟩
section
variable {P : Program} {w : World} {K : PySem.W.Frag} {mg : Str → Option Value} {base : Heap}
theorem ok_bo {c : Cs} {f : Addr} {fd : FuncData} (F : Fun K "bound" "Cache.bound" sBo f fd) (B : Bn mg) (T : CacheC K c.C) : FnOk P w K mg base CX0 1 f fd ["self", "key"] (spBound c) := by
  refine F.ok scBo (fun vs H Q E h => ?_) (fun cdv A outer s H vs Q E hr h => ?_)
  · obtain ⟨na, key, n, g, M, m, cm, rfl, _⟩ := h
    rfl
  · obtain ⟨na, key, n, g, M, m, cm, rfl, ha, hk, hc, k⟩ := h
    have hu := hu_of hr
    refine ⟨_, (pss_cons (ps_set (i := 2) scBo.nd rfl (Or.inl rfl) pe_non)
        (pss_cons (ps_if (pt_val (pe_callB call_isi (by rfl) B.isi PyProof.Rows.boot_isinstance (pa_cons (pv 1) (pa_cons (pe_bltn (v := .ty "str") (by rfl) B.str (by decide +kernel) rfl) pa_nil)))) (pss_one (ps_try_thru0 (pss_one (ps_set (i := 2) scBo.nd rfl (Or.inl rfl) (pe_dget hu (pe_fld (pv 0) rfl) (pv 1) (fun _ _ => rfl)))))) pss_nil)
        (pss_cons (ps_if (pt_cmp (pc_isN (pv 2))) pss_never pss_nil)
        (pss_one (ps_ret (pe_op op_sub (pe_op op_add (pe_ix ix_tup (pv 2) pe_int (fun _ _ => rfl)) (pe_ix ix_tup (pv 2) pe_int (fun _ _ => rfl))) (pe_ix ix_tup (pe_ix ix_tup (pv 2) pe_int (fun _ _ => rfl)) pe_int (fun _ _ => rfl)))))))), ?_⟩
    obtain ⟨z, t, tc, av, rfl, hz, hv, ht, htc⟩ := ha.cell hk hc
    have hg : DGet H z.cd (.str key) (some (.ref t)) := .inl ⟨strK z.cells, Sum.inr key, .inl hz.cd, rfl, hv.symm⟩
    refine ⟨_, rfl, _, _, _, _, true, rfl, .ty _, .base (.str _), kit_ty (by decide +kernel), _, rfl, iteT ?_⟩
    refine ⟨_, rfl, z.na, c.C, _, _, _, rfl, hz.i, T.cl, T.cells, rfl, _, rfl, z.cd, _, rfl, hg, ?_⟩
    refine ⟨_, rfl, _, rfl, ifF (decide_eq_false fun w => nomatch w) ?_⟩
    refine ⟨_, rfl, t, _, _, _, rfl, rfl, SqT.of ht, atI_nat (j := 2) rfl, _, rfl, t, _, _, _, rfl, rfl, SqT.of ht, atI_nat (j := 1) rfl, _, _, rfl, rfl, ?_⟩
    exact ⟨_, rfl, t, _, _, _, rfl, rfl, SqT.of ht, atI_nat (j := 0) rfl, tc, _, _, _, rfl, rfl, SqT.of htc, atI_nat (j := 0) rfl, _, _, rfl, rfl, k⟩
theorem ok_iw {c : Cs} {f : Addr} {fd : FuncData} (F : Fun K "is_integer_within" "is_integer_within" sIw f fd) (B : Bn mg) : FnOk P w K mg base CX0 1 f fd ["obj", "low", "high"] (spIw) := by
  refine F.ok scIw (fun vs H Q E h => ?_) (fun cdv A outer s H vs Q E hr h => ?_)
  · obtain ⟨qn, lo, hi, rfl, _⟩ := h
    rfl
  · obtain ⟨qn, lo, hi, rfl, k⟩ := h
    have hu := hu_of hr
    refine ⟨_, (pss_one (ps_ret (pe_and (pe_callB call_isi (by rfl) B.isi PyProof.Rows.boot_isinstance (pa_cons (pv 0) (pa_cons (pe_bltn (v := .ty "int") (by rfl) B.int (by decide +kernel) rfl) pa_nil))) (pe_and (pe_not (pe_callB call_isi (by rfl) B.isi PyProof.Rows.boot_isinstance (pa_cons (pv 0) (pa_cons (pe_bltn (v := .ty "bool") (by rfl) B.bool (by decide +kernel) rfl) pa_nil)))) (pe_one (pe_chain op_le op_le (pv 1) (pv 0) (pv 2))))))), ?_⟩
    refine ⟨_, rfl, _, _, _, _, true, rfl, .ty _, .base (.int _), kit_ty (by decide +kernel), _, rfl, iteT ?_⟩
    refine ⟨_, rfl, _, _, _, _, false, rfl, .ty _, .base (.int _), kit_ty (by decide +kernel), _, rfl, _, rfl, iteT ?_⟩
    refine ⟨_, rfl, _, rfl, _, _, rfl, rfl, _, rfl, ite2 (fun h1 => ?_) (fun h1 => ?_)⟩
    · rw [h1, Bool.true_and] at k
      exact ⟨_, rfl, _, _, rfl, rfl, k⟩
    · rw [show decide (lo ≤ qn) = false by simpa using h1, Bool.false_and] at k
      exact k
theorem ok_ck2 {c : Cs} {f : Addr} {fd : FuncData} (F : Fun K "check_key" "Net.check_key" sCk2 f fd) (B : Bn mg) (T : NetC K c.N) : FnOk P w K mg base CX0 1 f fd ["self", "key"] (spCheckKey c) := by
  refine F.ok scCk2 (fun vs H Q E h => ?_) (fun cdv A outer s H vs Q E hr h => ?_)
  · obtain ⟨n, key, g, M, rfl, _⟩ := h
    rfl
  · obtain ⟨n, key, g, M, rfl, hN, hk, k⟩ := h
    have hu := hu_of hr
    refine ⟨_, (pss_one (ps_if (PW.pt (pw_or (pt_not (pt_val (pe_callB call_isi (by rfl) B.isi PyProof.Rows.boot_isinstance (pa_cons (pv 1) (pa_cons (pe_bltn (v := .ty "str") (by rfl) B.str (by decide +kernel) rfl) pa_nil))))) (pw_or1 (pt_cmpR op_notIn_seq (pv 1) (pe_fld (pv 0) rfl) (by rfl))))) pss_never pss_nil)), ?_⟩
    obtain ⟨Z, q⟩ := id hN
    have hn := q.at_n
    obtain ⟨tw, xs, etw, htw, hxs⟩ := td_tup q.r.tw
    rw [td_strsV hxs] at htw
    refine ⟨_, rfl, _, _, _, _, true, rfl, .ty _, .base (.str _), kit_ty (by decide +kernel), _, rfl, iteF ?_⟩
    refine ⟨_, rfl, _, rfl, n, c.N, _, _, _, rfl, q.at_n, T.cl, T.f_words, rfl, ?_⟩
    rw [etw]
    refine ⟨tw, _, rfl, .inr (SqT.of htw), rfl, flat_strV _, ?_⟩
    rw [inStr, decide_eq_true hk]
    refine ⟨_, rfl, iteF ?_⟩
    exact k
theorem ok_cn {c : Cs} {f : Addr} {fd : FuncData} (F : Fun K "check_need" "Net.check_need" sCn f fd) (B : Bn mg) (T : NetC K c.N) (TC : CacheC K c.C) (hGN : ∃ t, mg "GREATEST_NEED" = some (.int 999 t)) : FnOk P w K mg base CX0 1 f fd ["self", "key", "need", "floor"] (spCheckNeed c) := by
  refine F.ok scCn (fun vs H Q E h => ?_) (fun cdv A outer s H vs Q E hr h => ?_)
  · obtain ⟨n, key, need, floor, g, M, m0, c0, rfl, _⟩ := h
    rfl
  · obtain ⟨n, key, need, floor, g, M, m0, c0, rfl, hN, hk, hm, hc, n0, n9, f0, f9, k⟩ := h
    have hu := hu_of hr
    refine ⟨_, (pss_cons (ps_if (PW.pt (pw_or (pt_not (pt_val (pe_callB call_isi (by rfl) B.isi PyProof.Rows.boot_isinstance (pa_cons (pv 2) (pa_cons (pe_bltn (v := .ty "int") (by rfl) B.int (by decide +kernel) rfl) pa_nil))))) (pw_or (pt_val (pe_callB call_isi (by rfl) B.isi PyProof.Rows.boot_isinstance (pa_cons (pv 2) (pa_cons (pe_bltn (v := .ty "bool") (by rfl) B.bool (by decide +kernel) rfl) pa_nil)))) (pw_or1 (pt_not (pt_chain op_le op_le pe_int (pv 2) (pe_glob (v := .int _) (by rfl) hGN.choose_spec ⟨_, rfl⟩))))))) pss_never pss_nil)
        (pss_cons (ps_set (i := 4) scCn.nd rfl (Or.inl rfl) (pe_ix ix_tup (pe_dget hu (pe_fld (pe_fld (pv 0) rfl) rfl) (pv 1) (fun _ _ => rfl)) pe_int (fun _ _ => rfl)))
        (pss_one (ps_if (PW.pt (pw_or (pt_not (pt_val (pe_callB call_isi (by rfl) B.isi PyProof.Rows.boot_isinstance (pa_cons (pv 3) (pa_cons (pe_bltn (v := .ty "int") (by rfl) B.int (by decide +kernel) rfl) pa_nil))))) (pw_or (pt_val (pe_callB call_isi (by rfl) B.isi PyProof.Rows.boot_isinstance (pa_cons (pv 3) (pa_cons (pe_bltn (v := .ty "bool") (by rfl) B.bool (by decide +kernel) rfl) pa_nil)))) (pw_or1 (pt_not (pt_chain op_le op_le pe_int (pv 3) (pv 4))))))) pss_never pss_nil)))), ?_⟩
    obtain ⟨Z, q⟩ := id hN
    have hn := q.at_n
    obtain ⟨tw, xs, etw, htw, hxs⟩ := td_tup q.r.tw
    rw [td_strsV hxs] at htw
    obtain ⟨z0, t0, tc0, av0, etop, hz0, hv0, ht0, htc0⟩ := topCell q hm hk hc
    have hg0 : DGet H z0.cd (.str key) (some (.ref t0)) := .inl ⟨strK z0.cells, Sum.inr key, .inl hz0.cd, rfl, hv0.symm⟩
    refine ⟨_, rfl, _, _, _, _, true, rfl, .ty _, .base (.int _), kit_ty (by decide +kernel), _, rfl, iteF ?_⟩
    refine ⟨_, rfl, _, _, _, _, false, rfl, .ty _, .base (.int _), kit_ty (by decide +kernel), _, rfl, iteF ?_⟩
    refine ⟨_, rfl, _, _, rfl, rfl, _, rfl, ?_⟩
    refine ifT (decide_eq_true n0) ⟨_, _, rfl, rfl, _, rfl, ?_⟩
    refine ifF (by rw [decide_eq_true n9]; rfl) ?_
    refine ⟨_, rfl, n, c.N, _, _, _, rfl, hn, T.cl, T.f_top, rfl, z0.na, c.C, _, _, _, etop, hz0.i, TC.cl, TC.cells, rfl, _, rfl, z0.cd, _, rfl, hg0, t0, _, _, _, rfl, rfl, SqT.of ht0, atI_nat (j := 2) rfl, ?_⟩
    refine ⟨_, rfl, _, _, _, _, true, rfl, .ty _, .base (.int _), kit_ty (by decide +kernel), _, rfl, iteF ?_⟩
    refine ⟨_, rfl, _, _, _, _, false, rfl, .ty _, .base (.int _), kit_ty (by decide +kernel), _, rfl, iteF ?_⟩
    refine ⟨_, rfl, _, _, rfl, rfl, _, rfl, ?_⟩
    refine ifT (decide_eq_true f0) ⟨_, rfl, _, _, rfl, rfl, _, rfl, ?_⟩
    exact ifF (by rw [decide_eq_true f9]; rfl) k
theorem ok_nu {c : Cs} {f : Addr} {fd : FuncData} (F : Fun K "number" "Net.number" sNu f fd) (B : Bn mg) (T : NetC K c.N) (TC : CacheC K c.C) : FnOk P w K mg base CX0 1 f fd ["self", "key"] (spNumber c) := by
  refine F.ok scNu (fun vs H Q E h => ?_) (fun cdv A outer s H vs Q E hr h => ?_)
  · obtain ⟨n, key, g, M, m0, c0, rfl, _⟩ := h
    rfl
  · obtain ⟨n, key, g, M, m0, c0, rfl, hN, hk, hm, hc, k⟩ := h
    have hu := hu_of hr
    refine ⟨_, (pss_cons (ps_if (PW.pt (pw_or (pt_not (pt_val (pe_callB call_isi (by rfl) B.isi PyProof.Rows.boot_isinstance (pa_cons (pv 1) (pa_cons (pe_bltn (v := .ty "str") (by rfl) B.str (by decide +kernel) rfl) pa_nil))))) (pw_or1 (pt_cmpR op_notIn_seq (pv 1) (pe_fld (pv 0) rfl) (by rfl))))) pss_never pss_nil)
        (pss_one (ps_ret (pe_ix ix_tup (pe_dget hu (pe_fld (pe_fld (pv 0) rfl) rfl) (pv 1) (fun _ _ => rfl)) pe_int (fun _ _ => rfl))))), ?_⟩
    obtain ⟨Z, q⟩ := id hN
    have hn := q.at_n
    obtain ⟨tw, xs, etw, htw, hxs⟩ := td_tup q.r.tw
    rw [td_strsV hxs] at htw
    obtain ⟨z0, t0, tc0, av0, etop, hz0, hv0, ht0, htc0⟩ := topCell q hm hk hc
    have hg0 : DGet H z0.cd (.str key) (some (.ref t0)) := .inl ⟨strK z0.cells, Sum.inr key, .inl hz0.cd, rfl, hv0.symm⟩
    refine ⟨_, rfl, _, _, _, _, true, rfl, .ty _, .base (.str _), kit_ty (by decide +kernel), _, rfl, iteF ?_⟩
    refine ⟨_, rfl, _, rfl, n, c.N, _, _, _, rfl, q.at_n, T.cl, T.f_words, rfl, ?_⟩
    rw [etw]
    refine ⟨tw, _, rfl, .inr (SqT.of htw), rfl, flat_strV _, ?_⟩
    rw [inStr, decide_eq_true hk]
    refine ⟨_, rfl, iteF ?_⟩
    exact ⟨_, rfl, n, c.N, _, _, _, rfl, hn, T.cl, T.f_top, rfl, z0.na, c.C, _, _, _, etop, hz0.i, TC.cl, TC.cells, rfl, _, rfl, z0.cd, _, rfl, hg0, t0, _, _, _, rfl, rfl, SqT.of ht0, atI_nat (j := 2) rfl, k⟩
theorem ok_wa {c : Cs} {f : Addr} {fd : FuncData} (F : Fun K "waiting" "Net.waiting" sWa f fd) (B : Bn mg) (T : NetC K c.N) : FnOk P w K mg base CX0 1 f fd ["self", "key"] (spWaiting c) := by
  refine F.ok scWa (fun vs H Q E h => ?_) (fun cdv A outer s H vs Q E hr h => ?_)
  · obtain ⟨n, key, g, M, rfl, _⟩ := h
    rfl
  · obtain ⟨n, key, g, M, rfl, hN, hk, k⟩ := h
    have hu := hu_of hr
    refine ⟨_, (pss_cons (ps_if (PW.pt (pw_or (pt_not (pt_val (pe_callB call_isi (by rfl) B.isi PyProof.Rows.boot_isinstance (pa_cons (pv 1) (pa_cons (pe_bltn (v := .ty "str") (by rfl) B.str (by decide +kernel) rfl) pa_nil))))) (pw_or1 (pt_cmpR op_notIn_seq (pv 1) (pe_fld (pv 0) rfl) (by rfl))))) pss_never pss_nil)
        (pss_one (ps_ret (pe_callTy call_list_of (by rfl) B.list (by decide +kernel) (pa_cons (pe_dget hu (pe_fld (pv 0) rfl) (pv 1) (fun _ _ => rfl)) pa_nil))))), ?_⟩
    obtain ⟨Z, q⟩ := id hN
    have hn := q.at_n
    obtain ⟨tw, xs, etw, htw, hxs⟩ := td_tup q.r.tw
    rw [td_strsV hxs] at htw
    refine ⟨_, rfl, _, _, _, _, true, rfl, .ty _, .base (.str _), kit_ty (by decide +kernel), _, rfl, iteF ?_⟩
    refine ⟨_, rfl, _, rfl, n, c.N, _, _, _, rfl, q.at_n, T.cl, T.f_words, rfl, ?_⟩
    rw [etw]
    refine ⟨tw, _, rfl, .inr (SqT.of htw), rfl, flat_strV _, ?_⟩
    rw [inStr, decide_eq_true hk]
    refine ⟨_, rfl, iteF ?_⟩
    have hkk : key ∈ M.kept.map (·.1) := by rw [q.w.kept]; exact hk
    obtain ⟨⟨k0, l⟩, hp, e⟩ := List.mem_map.mp hkk
    have e : k0 = key := e
    subst e
    obtain ⟨i, hi⟩ := List.mem_iff_getElem?.mp hp
    obtain ⟨⟨p1a, p1b⟩, hp1, ep, hp2⟩ := pr_get' q.r.kept hi
    have ep : p1a = k0 := ep
    subst ep
    have hp2 : Td H p1b (.tuple (l.map PyData.int)) := hp2
    obtain ⟨ka, kx, eka, hka, hkx⟩ := td_tup hp2
    subst eka
    rw [td_intsV hkx] at hka
    have ek : Z.kept.map (·.1) = M.words := (pr_keys (fun _ _ w => w.1) q.r.kept).trans q.w.kept
    have hkv := strK_val (by rw [ek]; exact q.w.wnd) (List.mem_of_getElem? hp1)
    have hkp : H Z.kp = some (.dK (strK Z.kept)) := q.h.at_net 4
    have hgk : DGet H Z.kp (.str p1a) (some (.ref ka)) := .inl ⟨strK Z.kept, Sum.inr p1a, .inl hkp, rfl, hkv.symm⟩
    have eko : M.keptOf p1a = l := by
      unfold NetM.keptOf
      rw [getK_mem (by rw [q.w.kept]; exact q.w.wnd) (List.mem_of_getElem? hi)]
      rfl
    rw [eko] at k
    exact ⟨_, rfl, n, c.N, _, _, _, rfl, hn, T.cl, T.f_kept, rfl, _, rfl, Z.kp, _, rfl, hgk, ka, _, rfl, .inr (SqT.of hka), fun p hp => k p _ (Same.upd hp) hp upd_same⟩
theorem ok_age {c : Cs} {f : Addr} {fd : FuncData} (F : Fun K "age" "Net.age" sAge f fd) (B : Bn mg) (T : NetC K c.N) (TC : CacheC K c.C) (GCk : MtAt P w K mg base CX0 1 c.N "check_key" ["self", "key"] (spCheckKey c)) : FnOk P w K mg base CX0 2 f fd ["self", "name", "key"] (spAge c) := by
  refine F.ok scAge (fun vs H Q E h => ?_) (fun cdv A outer s H vs Q E hr h => ?_)
  · obtain ⟨n, key, g, M, m, m0, cm, c0, rfl, _⟩ := h
    rfl
  · obtain ⟨n, key, g, M, m, m0, cm, c0, rfl, hN, hmem, hk, hcm, hm, hc, k⟩ := h
    have hu := hu_of hr
    refine ⟨_, (pss_cons (ps_if (PW.pt (pw_or (pt_not (pt_val (pe_callB call_isi (by rfl) B.isi PyProof.Rows.boot_isinstance (pa_cons (pv 1) (pa_cons (pe_bltn (v := .ty "str") (by rfl) B.str (by decide +kernel) rfl) pa_nil))))) (pw_or1 (pt_cmp (pc_dnotin hu (pv 1) (pe_fld (pv 0) rfl)))))) pss_never pss_nil)
        (pss_cons (ps_expr (pe_mtD GCk (hr.mono (by decide)) (pv 0) (pa_cons (pv 2) pa_nil)))
        (pss_cons (ps_set (i := 3) scAge.nd rfl (Or.inl rfl) (pe_dget hu (pe_fld (pe_dget hu (pe_fld (pv 0) rfl) (pv 1) (fun _ _ => rfl)) rfl) (pv 2) (fun _ _ => rfl)))
        (pss_cons (ps_if (pt_cmp (pc_isN (pv 3))) pss_never pss_nil)
        (pss_one (ps_ret (pe_op op_sub (pe_ix ix_tup (pe_dget hu (pe_fld (pe_fld (pv 0) rfl) rfl) (pv 2) (fun _ _ => rfl)) pe_int (fun _ _ => rfl)) (pe_ix ix_tup (pe_ix ix_tup (pv 3) pe_int (fun _ _ => rfl)) pe_int (fun _ _ => rfl))))))))), ?_⟩
    obtain ⟨Z, q⟩ := id hN
    have hn := q.at_n
    obtain ⟨tw, xs, etw, htw, hxs⟩ := td_tup q.r.tw
    rw [td_strsV hxs] at htw
    obtain ⟨z0, t0, tc0, av0, etop, hz0, hv0, ht0, htc0⟩ := topCell q hm hk hc
    have hg0 : DGet H z0.cd (.str key) (some (.ref t0)) := .inl ⟨strK z0.cells, Sum.inr key, .inl hz0.cd, rfl, hv0.symm⟩
    obtain ⟨j, hj⟩ := List.mem_iff_getElem?.mp hmem
    obtain ⟨z1, hz1, zr1, hnx1⟩ := q.node' hj
    have hzv := q.nodeV (List.mem_of_getElem? hz1)
    rw [zr1.label] at hzv
    obtain ⟨z, t, tc, av, ez, hz, hv, ht, htc⟩ := At.cell (na := z1.na) ⟨⟨Z, q⟩, hnx1, hmem⟩ hk hcm
    have hg : DGet H z.cd (.str key) (some (.ref t)) := .inl ⟨strK z.cells, Sum.inr key, .inl hz.cd, rfl, hv.symm⟩
    have hnd : DGet H Z.nd (.str m.label) (some (.ref z1.na)) := .inl ⟨_, Sum.inr m.label, .inl (q.h.at_net 1), rfl, hzv.symm⟩
    refine ⟨_, rfl, _, _, _, _, true, rfl, .ty _, .base (.str _), kit_ty (by decide +kernel), _, rfl, iteF ?_⟩
    refine ⟨_, rfl, _, rfl, n, c.N, _, _, _, rfl, hn, T.cl, T.f_nodes, rfl, Z.nd, _, rfl, hnd, _, rfl, iteF ?_⟩
    refine ⟨_, rfl, n, _, _, rfl, hn, rfl, _, rfl, n, key, g, M, rfl, hN, hk, ?_⟩
    refine ⟨_, rfl, n, c.N, _, _, _, rfl, hn, T.cl, T.f_nodes, rfl, _, rfl, Z.nd, _, rfl, hnd, z.na, c.C, _, _, _, by rw [ez], hz.i, TC.cl, TC.cells, rfl, _, rfl, z.cd, _, rfl, hg, ?_⟩
    refine ⟨_, rfl, _, rfl, ifF (decide_eq_false fun w => nomatch w) ?_⟩
    exact ⟨_, rfl, n, c.N, _, _, _, rfl, hn, T.cl, T.f_top, rfl, z0.na, c.C, _, _, _, etop, hz0.i, TC.cl, TC.cells, rfl, _, rfl, z0.cd, _, rfl, hg0, t0, _, _, _, rfl, rfl, SqT.of ht0, atI_nat (j := 2) rfl, _, rfl, t, _, _, _, rfl, rfl, SqT.of ht, atI_nat (j := 0) rfl, tc, _, _, _, rfl, rfl, SqT.of htc, atI_nat (j := 0) rfl, _, _, rfl, rfl, k⟩
theorem ok_an {c : Cs} {f : Addr} {fd : FuncData} (F : Fun K "answer" "Net.answer" sAn f fd) (B : Bn mg) (T : NetC K c.N) (GIw : DefAt P w K mg base 1 "is_integer_within" ["obj", "low", "high"] spIw) : FnOk P w K mg base CX0 2 f fd ["self", "question"] (spAnswer c) := by
  refine F.ok scAn (fun vs H Q E h => ?_) (fun cdv A outer s H vs Q E hr h => ?_)
  · obtain ⟨n, qn, g, M, rfl, _⟩ := h
    rfl
  · obtain ⟨n, qn, g, M, rfl, hN, h1, h2, k⟩ := h
    have hu := hu_of hr
    refine ⟨_, (pss_cons (ps_if (pt_not (pt_val (pe_callD GIw (hr.mono (by decide)) (pa_cons (pv 1) (pa_cons pe_int (pa_cons (pe_fld (pv 0) rfl) pa_nil)))))) pss_never pss_nil)
        (pss_one (ps_ret (pe_dget1 hu (pe_fld (pv 0) rfl) (pv 1) ⟨rfl, rfl, rfl, rfl⟩)))), ?_⟩
    obtain ⟨Z, q⟩ := id hN
    have hn := q.at_n
    have han : H Z.an = some (.dK Z.answered) := q.h.at_net 8
    refine ⟨_, rfl, _, rfl, n, c.N, _, _, _, rfl, hn, T.cl, T.f_questions, rfl, qn, 1, M.qs, by rw [q.r.qs]; rfl, _, rfl, ?_⟩
    rw [decide_eq_true h1, decide_eq_true h2]
    refine iteF ?_
    have hg := prI_get (G := fun v (x : Int × Int × Str) => Td H v (.tuple [.int x.1, .int x.2.1, .str x.2.2])) (k := qn) q.r.an
    refine ⟨_, rfl, n, c.N, _, _, _, rfl, hn, T.cl, T.f_answered, rfl, Z.an, rfl, .inl ⟨_, .inl han⟩, _, rfl, _, .inl ⟨_, Sum.inl qn, .inl han, rfl, rfl⟩, ?_⟩
    rcases hg with ⟨e1, e2⟩ | ⟨x, v, e1, e2, hv⟩
    · rw [e2]
      exact k .non (by rw [e1]; rfl)
    · rw [e2]
      exact k v (by rw [e1]; exact hv)
theorem ok_re {c : Cs} {f : Addr} {fd : FuncData} (F : Fun K "read" "Net.read" sRe f fd) (B : Bn mg) (T : NetC K c.N) (TC : CacheC K c.C) (GCn : MtAt P w K mg base CX0 1 c.N "check_need" ["self", "key", "need", "floor"] (spCheckNeed c)) (GAs : DefAt P w K mg base 3 "ask" ["net", "node", "key", "need", "floor"] (spAsk c)) : FnOk P w K mg base CX0 4 f fd ["self", "name", "key", "need", "floor"] (spRead c) := by
  refine F.ok scRe (fun vs H Q E h => ?_) (fun cdv A outer s H vs Q E hr h => ?_)
  · obtain ⟨n, key, need, floor, g, M, m, m0, c0, ds, rfl, _⟩ := h
    rfl
  · obtain ⟨n, key, need, floor, g, M, m, m0, c0, ds, rfl, hN, hmem, hk, hm, hc, n0, n9, f0, f9, hp, hro, hdl, k⟩ := h
    have hu := hu_of hr
    refine ⟨_, (pss_cons (ps_if (PW.pt (pw_or (pt_not (pt_val (pe_callB call_isi (by rfl) B.isi PyProof.Rows.boot_isinstance (pa_cons (pv 1) (pa_cons (pe_bltn (v := .ty "str") (by rfl) B.str (by decide +kernel) rfl) pa_nil))))) (pw_or1 (pt_cmp (pc_dnotin hu (pv 1) (pe_fld (pv 0) rfl)))))) pss_never pss_nil)
        (pss_cons (ps_if (PW.pt (pw_or (pt_not (pt_val (pe_callB call_isi (by rfl) B.isi PyProof.Rows.boot_isinstance (pa_cons (pv 2) (pa_cons (pe_bltn (v := .ty "str") (by rfl) B.str (by decide +kernel) rfl) pa_nil))))) (pw_or1 (pt_cmpR op_notIn_seq (pv 2) (pe_fld (pv 0) rfl) (by rfl))))) pss_never pss_nil)
        (pss_cons (ps_expr (pe_mtD GCn (hr.mono (by decide)) (pv 0) (pa_cons (pv 2) (pa_cons (pv 3) (pa_cons (pv 4) pa_nil)))))
        (pss_cons (ps_expr (pe_bm PySem.F.plainAttrs_list PySem.F.slot_list_append PySem.F.type_list_append mt_append (pe_fld (pv 0) rfl) (pa_cons (pe_tup (pa_cons pe_str (pa_cons (pv 1) (pa_cons (pv 2) (pa_cons (pv 3) (pa_cons (pv 4) pa_nil)))))) pa_nil)))
        (pss_one (ps_ret (pe_callD GAs (hr.mono (by decide)) (pa_cons (pv 0) (pa_cons (pe_dget hu (pe_fld (pv 0) rfl) (pv 1) (fun _ _ => rfl)) (pa_cons (pv 2) (pa_cons (pv 3) (pa_cons (pv 4) pa_nil)))))))))))), ?_⟩
    obtain ⟨Z, q⟩ := id hN
    have hn := q.at_n
    obtain ⟨tw, xs, etw, htw, hxs⟩ := td_tup q.r.tw
    rw [td_strsV hxs] at htw
    obtain ⟨j, hj⟩ := List.mem_iff_getElem?.mp hmem
    obtain ⟨z1, hz1, zr1, hnx1⟩ := q.node' hj
    have hzv := q.nodeV (List.mem_of_getElem? hz1)
    rw [zr1.label] at hzv
    have hnd : DGet H Z.nd (.str m.label) (some (.ref z1.na)) := .inl ⟨_, Sum.inr m.label, .inl (q.h.at_net 1), rfl, hzv.symm⟩
    refine ⟨_, rfl, _, _, _, _, true, rfl, .ty _, .base (.str _), kit_ty (by decide +kernel), _, rfl, iteF ?_⟩
    refine ⟨_, rfl, _, rfl, n, c.N, _, _, _, rfl, hn, T.cl, T.f_nodes, rfl, Z.nd, _, rfl, hnd, _, rfl, iteF ?_⟩
    refine ⟨_, rfl, _, _, _, _, true, rfl, .ty _, .base (.str _), kit_ty (by decide +kernel), _, rfl, iteF ?_⟩
    refine ⟨_, rfl, _, rfl, n, c.N, _, _, _, rfl, q.at_n, T.cl, T.f_words, rfl, ?_⟩
    rw [etw]
    refine ⟨tw, _, rfl, .inr (SqT.of htw), rfl, flat_strV _, ?_⟩
    rw [inStr, decide_eq_true hk]
    refine ⟨_, rfl, iteF ?_⟩
    refine ⟨_, rfl, n, _, _, rfl, hn, rfl, _, rfl, _, rfl, _, rfl, n, key, need, floor, g, M, m0, c0, rfl, hN, hk, hm, hc, n0, n9, f0, f9, ?_⟩
    have hdn : H Z.dn = some (.lst Z.done) := q.h.at_net 3
    have hdl2 : Z.done.length < sizeLine := by
      rw [q.r.done.length, sizeLine_eq]
      omega
    refine ⟨_, rfl, n, c.N, _, _, _, rfl, hn, T.cl, T.f_done, rfl, .inl ⟨rfl, _, SqL.of hdn⟩, _, rfl, _, rfl, _, rfl, _, rfl, by show 5 ≤ sizeLine; decide, fun p hp0 => ?_⟩
    have S1 : Same H (upd H p (.tup [.str "read", .str m.label, .str key, .int need, .int floor])) := Same.upd hp0
    have l1 : upd H p (HO.tup [.str "read", .str m.label, .str key, .int need, .int floor]) p = some (.tup [.str "read", .str m.label, .str key, .int need, .int floor]) := upd_same
    generalize upd H p (HO.tup [.str "read", .str m.label, .str key, .int need, .int floor]) = H1 at S1 l1 ⊢
    refine ⟨Z.dn, _, _, rfl, rfl, S1 _ _ hdn, hdl2, ?_⟩
    have q2 := (q.mono S1).addDone (d := rDeed m.label key need floor) (.tup l1 (.cons (.str _) (.cons (.str _) (.cons (.str _) (.cons (.int _) (.cons (.int _) .nil))))))
    have k2 := (Keeps.of S1).put (o := .lst (Z.done ++ [.ref p])) (q.in_net 3)
    have q2 : NetQ c (upd H1 Z.dn (.lst (Z.done ++ [.ref p]))) n g (NetM.note M (rDeed m.label key need floor)) { Z with done := Z.done ++ [.ref p] } := q2
    generalize upd H1 Z.dn (HO.lst (Z.done ++ [.ref p])) = H2 at q2 k2 ⊢
    have hnd2 : DGet H2 Z.nd (.str m.label) (some (.ref z1.na)) := .inl ⟨_, Sum.inr m.label, .inl (q2.h.at_net 1), rfl, hzv.symm⟩
    refine ⟨_, rfl, _, rfl, n, c.N, _, _, _, rfl, q2.at_n, T.cl, T.f_nodes, rfl, _, rfl, Z.nd, _, rfl, hnd2, _, rfl, _, rfl, _, rfl, ?_⟩
    exact ⟨n, z1.na, key, need, floor, g, _, m, ds, rfl, ⟨⟨_, q2⟩, hnx1, hmem⟩, hp, ⟨hro.recs, hro.answ, hro.trails, hro.up, hro.down⟩, fun H3 k3 hN3 => k H3 (k2.trans k3) hN3⟩
end
end K03
set_option Elab.async false
set_option linter.all false
set_option maxRecDepth 100000
set_option maxHeartbeats 4000000
namespace K03
open PySem L2 EX PyProof.Rows LamX
open NZ
/-! ### a delivery, computed -/
def topB (M : NetM) : Bool := match M.nodes[0]? with
  | some m0 => M.words.all fun k => (m0.cell k).isSome
  | none => false
theorem top_of {M : NetM} (h : topB M = true) : TopOk M := by
  unfold topB at h
  cases e : M.nodes[0]? with
  | none => rw [e] at h; cases h
  | some m0 =>
    rw [e] at h
    exact ⟨m0, e, fun k hk => Option.isSome_iff_exists.mp (List.all_eq_true.mp h k hk)⟩
def rmB (M : NetM) (x : Nat) : Bool := decide (M.acc.length + x < 900) && (decide (M.stm.length + x < 900) && ((M.rows.all fun r => decide (r.down.length + x < 900)) && decide (M.done.length < 990)))
theorem rm_of {M : NetM} {x : Nat} (h : rmB M x = true) : Rm M x := by
  unfold rmB at h
  simp only [Bool.and_eq_true, decide_eq_true_eq] at h
  obtain ⟨h1, h2, h3, h4⟩ := h
  exact ⟨h1, h2, fun r hr => of_decide_eq_true (List.all_eq_true.mp h3 r hr), h4⟩
def upB (M : NetM) : Bool := M.rows.all fun r => decide (r.up.length < 990)
def setB (M : NetM) (m : NodeM) (key : Str) : Bool := decide (key ∈ M.words) && ((match m.above with
  | none => topB M && rmB M (M.keptOf key).length
  | some _ => (m.cell key).isSome) && upB M)
theorem set_of {M : NetM} {m : NodeM} {key : Str} (h : setB M m key = true) : SetPre M m key := by
  unfold setB at h
  rw [Bool.and_eq_true, Bool.and_eq_true] at h
  obtain ⟨h1, h2, h3⟩ := h
  refine ⟨of_decide_eq_true h1, fun e => ?_, fun u e => ?_, fun r hr => of_decide_eq_true (List.all_eq_true.mp h3 r hr)⟩
  · rw [e] at h2
    obtain ⟨h4, h5⟩ := Bool.and_eq_true_iff.mp h2
    exact ⟨top_of h4, rm_of h5⟩
  · rw [e] at h2
    exact Option.isSome_iff_exists.mp h2
def pathE (M : NetM) (key : Str) : Nat → NodeM → Option (List PyData)
  | 0, _ => none
  | k + 1, m => match m.above with
    | none => match m.cell key with
      | some c => some [.tuple [.str "store", .int c.told]]
      | none => none
    | some u => match m.cell key, M.row m.label, M.nod u with
      | some c, some r, some m2 => match r.get key, pathE M key k m2 with
        | some (cf, gr), some ds => some (.tuple [.str m.label, .int c.told, .int c.alw, .int cf, .int gr] :: ds)
        | _, _ => none
      | _, _, _ => none
theorem path_of {M : NetM} {key : Str} : ∀ {k : Nat} {m : NodeM} {ds : List PyData}, pathE M key k m = some ds → Path M key m ds ∧ ds.length ≤ k
  | 0, _, _, h => by cases h
  | k + 1, m, ds, h => by
    unfold pathE at h
    cases ha : m.above with
    | none =>
      rw [ha] at h
      cases hc : m.cell key with
      | none => rw [hc] at h; cases h
      | some c =>
        rw [hc] at h
        cases h
        exact ⟨.top ha hc, Nat.succ_le_succ (Nat.zero_le _)⟩
    | some u =>
      rw [ha] at h
      dsimp only at h
      cases hc : m.cell key with
      | none => rw [hc] at h; cases h
      | some c =>
        cases hr : M.row m.label with
        | none => rw [hc, hr] at h; cases h
        | some r =>
          cases hn : M.nod u with
          | none => rw [hc, hr, hn] at h; cases h
          | some m2 =>
            rw [hc, hr, hn] at h
            dsimp only at h
            cases hg : r.get key with
            | none => rw [hg] at h; cases h
            | some p =>
              obtain ⟨cf, gr⟩ := p
              cases hp : pathE M key k m2 with
              | none => rw [hg, hp] at h; cases h
              | some ds2 =>
                rw [hg, hp] at h
                cases h
                obtain ⟨p1, p2⟩ := path_of hp
                obtain ⟨n1, n2⟩ := nod_in hn
                exact ⟨.up ha hc hr hg n1 n2 p1, Nat.succ_le_succ p2⟩
def qroomB (M : NetM) : Bool := decide (M.recs.length < 1000) && (decide (M.answ.length < 1000) && (decide (M.trails.length < 1000) && M.rows.all fun r => decide (r.up.length < 990) && decide (r.down.length < 990)))
theorem qroom_of {M : NetM} (h : qroomB M = true) : QRoom M := by
  unfold qroomB at h
  simp only [Bool.and_eq_true, decide_eq_true_eq] at h
  obtain ⟨h1, h2, h3, h4⟩ := h
  rw [List.all_eq_true] at h4
  refine ⟨h1, h2, h3, fun r hr => ?_, fun r hr => ?_⟩
  · have := h4 r hr
    simp only [Bool.and_eq_true, decide_eq_true_eq] at this
    exact this.1
  · have := h4 r hr
    simp only [Bool.and_eq_true, decide_eq_true_eq] at this
    exact this.2
def qpreE (M : NetM) (m : NodeM) (key : Str) (need floor : Int) : Option (List PyData) :=
  if decide (key ∈ M.words) = true then
    if m.serves key need floor = true then pathE M key 20 m
    else if m.above.isSome = true then some [] else none
  else none
theorem qpre_of {M : NetM} {m : NodeM} {key : Str} {need floor : Int} {ds : List PyData} (h : qpreE M m key need floor = some ds) : QPre M m key need floor ds := by
  unfold qpreE at h
  split at h
  · rename_i hk
    split at h
    · rename_i hs
      obtain ⟨p1, p2⟩ := path_of h
      exact ⟨of_decide_eq_true hk, fun _ => ⟨p1, by omega⟩, fun z => by rw [hs] at z; cases z⟩
    · rename_i hs
      split at h
      · rename_i ha
        exact ⟨of_decide_eq_true hk, fun z => absurd z hs, fun _ => Option.isSome_iff_exists.mp ha⟩
      · cases h
  · cases h
def trB (M : NetM) (q : Int) : Bool := match getI M.trails q with
  | some t => decide (t.length < 900)
  | none => true
def heardE (M : NetM) (m : NodeM) (s : Str) : Msg → Option NetM
  | .copy a b c d => if (decide (a ∈ M.words) && m.above.isSome) = true then some (postCopy M m s (.copy a b c d)) else none
  | .update a b c => if (decide (a ∈ M.words) && (m.above.isSome && (m.cell a).isSome)) = true then some (postUpdate M m s (.update a b c)) else none
  | .lower a b => if (decide (a ∈ M.words) && (m.above.isSome && (m.cell a).isSome)) = true then some (postLower M m s (.lower a b)) else none
  | .raise a b => if (decide (a ∈ M.words) && (m.above.isSome && (m.cell a).isSome)) = true then some (postRaise M m s (.raise a b)) else none
  | .confirm a b => match M.row s with
    | some r => match r.get a with
      | some (_, gr) => if (decide (s ∈ m.kids) && setB (M.setRow s a b gr) m a) = true then some (postConfirm M m s (.confirm a b)) else none
      | none => none
    | none => none
  | .question a b c d => match qpreE M m b c d with
    | some ds => if (qroomB M && (decide (s ∈ m.kids) && ((M.row s).isSome && trB M a))) = true then some (postQuestion ds M m s (.question a b c d)) else none
    | none => none
  | _ => none
theorem heard_of {M : NetM} {m : NodeM} {s : Str} {mg : Msg} {M2 : NetM} (h : heardE M m s mg = some M2) : heard M m s mg M2 := by
  have three : ∀ {a : Str} {x : NetM}, (if (decide (a ∈ M.words) && (m.above.isSome && (m.cell a).isSome)) = true then some x else none) = some M2 → a ∈ M.words ∧ (∃ u, m.above = some u) ∧ (∃ cm, m.cell a = some cm) ∧ M2 = x := fun {a x} h => by
    split at h
    · rename_i hb
      rw [Bool.and_eq_true, Bool.and_eq_true] at hb
      cases h
      exact ⟨of_decide_eq_true hb.1, Option.isSome_iff_exists.mp hb.2.1, Option.isSome_iff_exists.mp hb.2.2, rfl⟩
    · cases h
  cases mg with
  | copy a b c d =>
    have h : (if (decide (a ∈ M.words) && m.above.isSome) = true then some (postCopy M m s (.copy a b c d)) else none) = some M2 := h
    split at h
    · rename_i hb
      rw [Bool.and_eq_true] at hb
      cases h
      exact ⟨⟨a, b, c, d, rfl, of_decide_eq_true hb.1, Option.isSome_iff_exists.mp hb.2⟩, rfl⟩
    · cases h
  | update a b c =>
    obtain ⟨h1, h2, h3, h4⟩ := three h
    exact ⟨⟨a, b, c, rfl, h1, h2, h3⟩, h4⟩
  | lower a b =>
    obtain ⟨h1, h2, h3, h4⟩ := three h
    exact ⟨⟨a, b, rfl, h1, h2, h3⟩, h4⟩
  | raise a b =>
    obtain ⟨h1, h2, h3, h4⟩ := three h
    exact ⟨⟨a, b, rfl, h1, h2, h3⟩, h4⟩
  | confirm a b =>
    unfold heardE at h
    dsimp only at h
    cases hr : M.row s with
    | none => rw [hr] at h; cases h
    | some r =>
      rw [hr] at h
      dsimp only at h
      cases hg : r.get a with
      | none => rw [hg] at h; cases h
      | some p =>
        obtain ⟨cf, gr⟩ := p
        rw [hg] at h
        dsimp only at h
        split at h
        · rename_i hb
          rw [Bool.and_eq_true] at hb
          cases h
          exact ⟨⟨a, b, r, cf, gr, rfl, of_decide_eq_true hb.1, hr, hg, set_of hb.2⟩, rfl⟩
        · cases h
  | question a b c d =>
    unfold heardE at h
    dsimp only at h
    cases hq : qpreE M m b c d with
    | none => rw [hq] at h; cases h
    | some ds =>
      rw [hq] at h
      dsimp only at h
      split at h
      · rename_i hb
        rw [Bool.and_eq_true, Bool.and_eq_true, Bool.and_eq_true] at hb
        cases h
        refine ⟨ds, ⟨a, b, c, d, rfl, qpre_of hq, qroom_of hb.1, of_decide_eq_true hb.2.1, Option.isSome_iff_exists.mp hb.2.2.1, fun t ht => ?_⟩, rfl⟩
        have := hb.2.2.2
        unfold trB at this
        rw [ht] at this
        exact of_decide_eq_true this
      · cases h
  | answer _ _ _ _ => cases h
  | agree _ _ => cases h
  | gone => cases h
def queE (M : NetM) (s r : Str) : Option (Bool × RowM × Msg) := match M.lnk s r with
  | some y => match y.up with
    | mg :: _ => some (true, y, mg)
    | [] => none
  | none => match M.lnk r s with
    | some y => match y.down with
      | mg :: _ => some (false, y, mg)
      | [] => none
    | none => none
theorem que_of {M : NetM} {s r : Str} {up : Bool} {y : RowM} {mg : Msg} (h : queE M s r = some (up, y, mg)) : Que M s r up y mg := by
  unfold queE at h
  cases e : M.lnk s r with
  | some y0 =>
    rw [e] at h
    dsimp only at h
    cases eu : y0.up with
    | nil => rw [eu] at h; cases h
    | cons a l =>
      rw [eu] at h
      cases h
      exact ⟨fun _ => ⟨e, by rw [eu]; rfl⟩, (fun z => nomatch z)⟩
  | none =>
    rw [e] at h
    dsimp only at h
    cases e2 : M.lnk r s with
    | none => rw [e2] at h; cases h
    | some y0 =>
      rw [e2] at h
      dsimp only at h
      cases eu : y0.down with
      | nil => rw [eu] at h; cases h
      | cons a l =>
        rw [eu] at h
        cases h
        exact ⟨(fun z => nomatch z), fun _ => ⟨e, e2, by rw [eu]; rfl⟩⟩
def delE (M : NetM) (s r : Str) : Option (NetM × Msg) := match queE M s r, M.nod r with
  | some (up, y, mg), some m => if (decide (M.done.length < 1000) && M.rows.all fun r => decide (r.up.length < 990) && decide (r.down.length < 990)) = true then
      match heardE ((NetM.note M (dDeed s r)).pop up y.child) m s mg with
      | some M2 => some (M2, mg)
      | none => none
    else none
  | _, _ => none
theorem del_of {M M2 : NetM} {s r : Str} {mg : Msg} (h : delE M s r = some (M2, mg)) : ∃ (up : Bool) (y : RowM) (m : NodeM), Que M s r up y mg ∧ m ∈ M.nodes ∧ m.label = r ∧ M.done.length < 1000 ∧ (∀ r ∈ M.rows, r.up.length < 990 ∧ r.down.length < 990) ∧ heard ((NetM.note M (dDeed s r)).pop up y.child) m s mg M2 := by
  unfold delE at h
  cases hq : queE M s r with
  | none => rw [hq] at h; cases h
  | some p =>
    obtain ⟨up, y, mg0⟩ := p
    cases hn : M.nod r with
    | none => rw [hq, hn] at h; cases h
    | some m =>
      rw [hq, hn] at h
      dsimp only at h
      split at h
      · rename_i hb
        rw [Bool.and_eq_true] at hb
        cases hh : heardE ((NetM.note M (dDeed s r)).pop up y.child) m s mg0 with
        | none => rw [hh] at h; cases h
        | some M3 =>
          rw [hh] at h
          cases h
          obtain ⟨n1, n2⟩ := nod_in hn
          refine ⟨up, y, m, que_of hq, n1, n2, of_decide_eq_true hb.1, fun r hr => ?_, heard_of hh⟩
          have := List.all_eq_true.mp hb.2 r hr
          simp only [Bool.and_eq_true, decide_eq_true_eq] at this
          exact this
      · cases h
/-- deliveries one behind another, each of the message that is told -/
inductive Run : NetM → List (Str × Str × Msg) → NetM → Prop
  | nil {M : NetM} : Run M [] M
  | cons {M M1 M2 : NetM} {s r : Str} {mg : Msg} {l : List (Str × Str × Msg)} : delE M s r = some (M1, mg) → SeqAt.shaped (.list [mg.d]) = true → M.msgs s r = mg :: (M.msgs s r).tail → Run M1 l M2 → Run M ((s, r, mg) :: l) M2
def stepD (x : Str × Str × Msg) : PyData := .tuple [.str x.1, .str x.2.1, x.2.2.d]
end K03
set_option Elab.async false
set_option linter.all false
set_option maxRecDepth 100000
set_option maxHeartbeats 4000000
/-! displays one behind another; comparing data -/
namespace NZ
open PySem L2 EX PyProof.Rows
theorem tcons_c {v : V} {r : TA} {σ : L2.St} {H : Hp} {Q : List V → Hp → Prop} (h : r σ H fun vs H2 => Q (v :: vs) H2) : tCons (tC v) r σ H Q := h
theorem tcons_1 {te : TE} {σ : L2.St} {H : Hp} {Q : List V → Hp → Prop} (h : te σ H fun v H1 => Q [v] H1) : tCons te tNil σ H Q := h
theorem shaped_one {d : PyData} (h : SeqAt.shaped (.list [d]) = true) : SeqAt.shaped d = true := by
  have h1 := SeqAt.canLay_of_shaped h
  have h2 := SeqAt.depth_of_shaped h
  unfold SeqAt.shaped
  have e1 : PyData.canLay0 (.list [d]) = (d.canLay0 && true) := by rw [PyData.canLay0, PyData.canLayAll0, PyData.canLayAll0]
  rw [e1, Bool.and_true] at h1
  rw [h1, Bool.true_and]
  refine decide_eq_true ?_
  have e2 : d.depth ≤ PyData.depth (.list [d]) := by
    simp only [PyData.depth, PyData.depthAll]
    omega
  omega
theorem eqv_sh {d : PyData} (h : SeqAt.shaped d = true) : PyData.eqv d d = true := PySem.SeqAt.eqv_refl d (SeqAt.canLay_of_shaped h)
/-- the same data on both sides: not different -/
theorem ne_self {K : PySem.W.Frag} {H : Hp} {x y : V} {d : PyData} {Q : VK} (hx : Dp K H x d) (hy : Dp K H y d) (h : SeqAt.shaped d = true) (k : Q (.bl false) H) : rNeD K x y H Q := ⟨d, d, hx, hy, h, h, by rw [eqv_sh h]; exact k⟩
theorem eq_self {K : PySem.W.Frag} {H : Hp} {x y : V} {d : PyData} {Q : VK} (hx : Dp K H x d) (hy : Dp K H y d) (h : SeqAt.shaped d = true) (k : Q (.bl true) H) : rEqD K x y H Q := ⟨d, d, hx, hy, h, h, by rw [eqv_sh h]; exact k⟩
theorem cut_1 (v : V) (vs : List V) : cutV (v :: vs) none (some 1) = [v] := by
  unfold cutV
  simp [HT.sIx]
/-- what a net stands on is taken -/
theorem nfree {c : Cs} {H : Hp} {n : Addr} {g : Sg} {M : NetM} (hN : NetA c H n g M) {p : Addr} (hp : H p = none) : p ∉ g.S := fun z => by
  obtain ⟨Z, q⟩ := hN
  rw [← q.ps] at z
  obtain ⟨x, hx, e⟩ := List.mem_map.mp z
  exact q.h.ne hp x hx e
end NZ
set_option Elab.async false
set_option linter.all false
set_option maxRecDepth 100000
set_option maxHeartbeats 4000000
namespace K03
open PySem L2 EX PyProof.Rows LamX
open NZ
def chM0 (a b : Int) : NetM := ⟨["key"], [⟨"store", none, [("key", some ⟨0, 0, 0, 0, none⟩)], []⟩], [], [], [("key", [])], [], [], 0, [], [], []⟩
def chM1 (a b : Int) : NetM := ⟨["key"], [⟨"store", none, [("key", some ⟨0, 0, 0, 0, none⟩)], ["up"]⟩, ⟨"up", (some "store"), [("key", none)], []⟩], [⟨"up", "store", [("key", 0, a)], [], true, false, [.copy "key" 0 0 a], []⟩], [(.tuple [(.str "join"), (.str "up"), (.str "store"), (.tuple [(.tuple [(.str "key"), (.int a)])])])], [("key", [])], [], [], 0, [], [], []⟩
def chM2 (a b : Int) : NetM := ⟨["key"], [⟨"store", none, [("key", some ⟨0, 0, 0, 0, none⟩)], ["up"]⟩, ⟨"up", (some "store"), [("key", some ⟨0, 0, a, 0, none⟩)], []⟩], [⟨"up", "store", [("key", 0, a)], [], true, false, [], []⟩], [(.tuple [(.str "join"), (.str "up"), (.str "store"), (.tuple [(.tuple [(.str "key"), (.int a)])])]), (.tuple [(.str "deliver"), (.str "store"), (.str "up")])], [("key", [])], [], [], 0, [], [], []⟩
def chM3 (a b : Int) : NetM := ⟨["key"], [⟨"store", none, [("key", some ⟨0, 0, 0, 0, none⟩)], ["up"]⟩, ⟨"up", (some "store"), [("key", some ⟨0, 0, a, 0, none⟩)], ["low"]⟩, ⟨"low", (some "up"), [("key", none)], []⟩], [⟨"up", "store", [("key", 0, a)], [], true, false, [], []⟩, ⟨"low", "up", [("key", 0, b)], [], true, false, [.copy "key" 0 0 b], []⟩], [(.tuple [(.str "join"), (.str "up"), (.str "store"), (.tuple [(.tuple [(.str "key"), (.int a)])])]), (.tuple [(.str "deliver"), (.str "store"), (.str "up")]), (.tuple [(.str "join"), (.str "low"), (.str "up"), (.tuple [(.tuple [(.str "key"), (.int b)])])])], [("key", [])], [], [], 0, [], [], []⟩
def chM4 (a b : Int) : NetM := ⟨["key"], [⟨"store", none, [("key", some ⟨0, 0, 0, 0, none⟩)], ["up"]⟩, ⟨"up", (some "store"), [("key", some ⟨0, 0, a, 0, none⟩)], ["low"]⟩, ⟨"low", (some "up"), [("key", some ⟨0, 0, b, 0, none⟩)], []⟩], [⟨"up", "store", [("key", 0, a)], [], true, false, [], []⟩, ⟨"low", "up", [("key", 0, b)], [], true, false, [], []⟩], [(.tuple [(.str "join"), (.str "up"), (.str "store"), (.tuple [(.tuple [(.str "key"), (.int a)])])]), (.tuple [(.str "deliver"), (.str "store"), (.str "up")]), (.tuple [(.str "join"), (.str "low"), (.str "up"), (.tuple [(.tuple [(.str "key"), (.int b)])])]), (.tuple [(.str "deliver"), (.str "up"), (.str "low")])], [("key", [])], [], [], 0, [], [], []⟩
def kc0 : CellM := ⟨0, 0, 0, 0, none⟩
def node0 : NodeM := ⟨"store", none, [("key", some kc0)], []⟩
def spChain (c : Cs) : Sp := fun vs H Q _ => ∃ (a b : Int), vs = [.int a, .int b] ∧ 1 ≤ a ∧ a ≤ b ∧ b ≤ 99 ∧ ∀ H' n g, Same H H' → NetA c H' n g (chM4 a b) → (∀ q ∈ g.S, H q = none) → Q (.ref n) H'
def spSteps (c : Cs) : Sp := fun vs H Q _ => ∃ (n l : Addr) (g : Sg) (M M' : NetM) (steps : List (Str × Str × Msg)) (xs : List V), vs = [.ref n, .ref l] ∧ NetA c H n g M ∧ Run M steps M' ∧ H l = some (.lst xs) ∧ l ∉ g.S ∧ TdAll H xs (steps.map stepD) ∧ steps.length ≤ 1000 ∧
  ∀ H', Keeps g.S H H' → NetA c H' n g M' → Q (.bl true) H'
abbrev sCh : Stmt := top 67
theorem scCh : FnScope ["_law_first", "_law_second", "_law_net"] ["_law_first", "_law_second"] (defScope sCh) := ⟨rfl, rfl, rfl, by decide +kernel, rfl, by decide +kernel, by decide +kernel⟩
abbrev sSr : Stmt := top 68
theorem scSr : FnScope ["_law_net", "_law_steps", "_law_sender", "_law_receiver", "_law_message"] ["_law_net", "_law_steps"] (defScope sSr) := ⟨rfl, rfl, rfl, by decide +kernel, rfl, by decide +kernel, by decide +kernel⟩
section
variable {P : Program} {w : World} {K : PySem.W.Frag} {mg : Str → Option Value} {base : Heap}
theorem valV1 (k : Str) (v : V) : valV [((Sum.inr k : Key), v)] (Sum.inr k) = some v := valV_pos rfl
theorem alw1 {K : PySem.W.Frag} {H : Hp} {d : Addr} {a : Int} (h : H d = some (.dK [((Sum.inr ("key" : Str) : Key), .int a)])) (h1 : 1 ≤ a) (h9 : a ≤ 99) : AllowArg K H (.ref d) [("key" : Str)] true := by
  refine .inl ⟨d, _, rfl, h, fun w v hv => ?_, by show 1 ≤ 1000; decide, ?_⟩
  · by_cases e : w = Sum.inr ("key" : Str)
    · subst e
      rw [valV1] at hv
      cases hv
      exact .inl ⟨_, rfl⟩
    · rw [valV_neg (fun z => e z.symm)] at hv
      cases hv
  · have e1 : okAt [((Sum.inr ("key" : Str) : Key), V.int a)] "key" = true := by
      unfold okAt
      rw [valV1]
      show okA a = true
      unfold okA
      rw [decide_eq_true h1, decide_eq_true h9]
      rfl
    show true = (true && (okAt [((Sum.inr ("key" : Str) : Key), V.int a)] "key" && true))
    rw [e1]
    rfl
theorem ex_st {α : Type} {l : List α} {k : Nat} (h : k < l.length) : ∃ v, l[k]? = some v := ⟨l[k], List.getElem?_eq_getElem h⟩
theorem td_step {H : Hp} {xv : List V} {s r : Str} {d : PyData} (h : TdAll H xv [.str s, .str r, d]) : ∃ mv, xv = [.str s, .str r, mv] ∧ Td H mv d := by
  cases h with
  | cons a t =>
    cases a
    cases t with
    | cons a t =>
      cases a
      cases t with
      | cons a t =>
        cases t
        exact ⟨_, rfl, a⟩
theorem ok_ch {c : Cs} {X : Xs} {IK f : Addr} {fd : FuncData} (F : Fun K "_law_chain" "_law_chain" sCh f fd) (B : Bn mg) (TN : NetC K c.N) (MN : MkX P w K mg base 3 "Net" ["self", "keys"] c.N (spNI K c IK)) (GJn : MtX P w K mg base 5 c.N "join" ["self", "name", "parent", "allowances"] (spJoin K c X)) (GDv : MtAt P w K mg base CX0 6 c.N "deliver" ["self", "sender", "receiver"] (spDel c)) : FnOk P w K mg base CX0 7 f fd ["_law_first", "_law_second"] (spChain c) := by
  refine F.ok scCh (fun vs H Q E h => ?_) (fun cdv A outer s H vs Q E hr h => ?_)
  · obtain ⟨a, b, rfl, _⟩ := h
    rfl
  · obtain ⟨a, b, rfl, h1, h2, h9, k⟩ := h
    have hu := hu_of hr
    refine ⟨_, (pss_cons (ps_set (i := 2) scCh.nd rfl (Or.inl rfl) (pe_mkX MN (hr.mono (by decide)) (pa_cons (pe_lst (pa_cons pe_str pa_nil)) pa_nil)))
        (pss_cons (ps_expr (pe_mtX GJn (hr.mono (by decide)) (pv 2) (pa_cons pe_str (pa_cons pe_str (pa_cons (pe_disp (pps_cons pe_str (pv 0) pps_nil) rfl rfl (by simp) (by decide)) pa_nil)))))
        (pss_cons (ps_expr (pe_mtD GDv (hr.mono (by decide)) (pv 2) (pa_cons pe_str (pa_cons pe_str pa_nil))))
        (pss_cons (ps_expr (pe_mtX GJn (hr.mono (by decide)) (pv 2) (pa_cons pe_str (pa_cons pe_str (pa_cons (pe_disp (pps_cons pe_str (pv 1) pps_nil) rfl rfl (by simp) (by decide)) pa_nil)))))
        (pss_cons (ps_expr (pe_mtD GDv (hr.mono (by decide)) (pv 2) (pa_cons pe_str (pa_cons pe_str pa_nil))))
        (pss_one (ps_ret (pv 2)))))))), ?_⟩
    refine ⟨by show 1 ≤ sizeLine; decide, fun lk hlk => ?_⟩
    have s1 : Same H (upd H lk (.lst [.str "key"])) := Same.upd hlk
    have llk : upd H lk (HO.lst [.str "key"]) lk = some (.lst (strV [("key" : Str)])) := upd_same
    generalize upd H lk (HO.lst [.str "key"]) = H1 at s1 llk ⊢
    refine fun n dx hn hdx hne => ?_
    have s2 : Same H1 (upd (upd H1 dx (.own n)) n (.ins c.N dx [])) := Same.trans (Same.upd hdx) (Same.upd (by rw [upd_ne (Ne.symm hne)]; exact hn))
    have KO : KeysOk [("key" : Str)] := ⟨by decide +kernel, by decide +kernel, by decide, by decide⟩
    refine ⟨n, dx, .ref lk, rfl, upd_same, .inl ⟨lk, _, rfl, .inl (SqL.of (s2 _ _ llk)), KO, fun H4 g k4 hN hg => ⟨rfl, ?_⟩⟩⟩
    have sH4 : Same H H4 := Same.trans s1 (made_same hn hdx hne k4)
    have fg : ∀ q ∈ g.S, H q = none := fun q hq => s1.free (by
      rcases hg q hq with e | e
      · rw [e]
        exact hn
      · exact (Same.trans (Same.upd hdx) (Same.upd (by rw [upd_ne (Ne.symm hne)]; exact hn))).free e)
    have hN : NetA c H4 n g (chM0 a b) := hN
    -- up joins
    obtain ⟨Z4, q4⟩ := id hN
    refine ⟨_, rfl, n, _, _, rfl, q4.at_n, rfl, tcons_c (tcons_c (tcons_1 ?_))⟩
    refine disp_1 (key := Sum.inr ("key" : Str)) (v := .int a) (fun _ _ h => h) (fun _ _ h => ⟨_, rfl, h⟩) fun d5 H5 S5 fd5 hd5 => ?_
    refine ⟨n, g, _, .str "up", .str "store", .ref d5, rfl, hN.mono S5, .inr ⟨"up", rfl, by decide +kernel, .inr ⟨by show ("up" : Str) ∉ [("store" : Str)]; decide +kernel, by show ("up" : Str) ∉ ([] : List Str); decide +kernel, .inr ⟨0, node0, rfl, rfl, .inr ⟨alw1 hd5 h1 (by omega), .inr ⟨by show 1 < 12; decide, .inr ⟨[("key", kc0, a)], d5, _, rfl, rfl, hd5, fun j hj => ?_, .inr ⟨fun j hj => ?_, by show 0 < 1000; decide, by show 0 < 1000; decide, by show 0 < 1000; decide, fun H6 g6 w6 hN6 => ?_⟩⟩⟩⟩⟩⟩⟩⟩
    · rw [List.mem_singleton.mp hj]
      exact valV1 _ _
    · rw [List.mem_singleton.mp hj]
      show (0 : Int) ≤ a
      omega
    have hN6 : NetA c H6 n g6 (chM1 a b) := hN6
    have sH6 : Same H H6 := ((Keeps.of (Same.trans sH4 S5)).trans w6.k).same fg
    have fg6 : ∀ q ∈ g6.S, H q = none := fun q hq => (w6.s q hq).elim (fg q) fun e => sH4.free (S5.free e)
    -- its copy arrives
    have d1 : delE (chM1 a b) "store" "up" = some (chM2 a b, .copy "key" 0 0 a) := by kernel_rfl
    obtain ⟨u1, y1, m1, e1, e2, e3, e4, e5, e6⟩ := del_of d1
    obtain ⟨Z6, q6⟩ := id hN6
    refine ⟨_, rfl, n, _, _, rfl, q6.at_n, rfl, n, g6, _, _, "store", "up", u1, y1, _, m1, rfl, hN6, e1, e2, e3, e4, e5, e6, fun H7 msg7 k7 hN7 _ => ?_⟩
    have sH7 : Same H H7 := ((Keeps.of sH6).trans k7).same fg6
    -- low joins
    obtain ⟨Z7, q7⟩ := id hN7
    refine ⟨_, rfl, n, _, _, rfl, q7.at_n, rfl, tcons_c (tcons_c (tcons_1 ?_))⟩
    refine disp_1 (key := Sum.inr ("key" : Str)) (v := .int b) (fun _ _ h => h) (fun _ _ h => ⟨_, rfl, h⟩) fun d8 H8 S8 fd8 hd8 => ?_
    refine ⟨n, g6, _, .str "low", .str "up", .ref d8, rfl, hN7.mono S8, .inr ⟨"low", rfl, by decide +kernel, .inr ⟨by show ("low" : Str) ∉ [("store" : Str), "up"]; decide +kernel, by show ("low" : Str) ∉ [("up" : Str)]; decide +kernel, .inr ⟨1, ⟨"up", some "store", [("key", some ⟨0, 0, a, 0, none⟩)], []⟩, rfl, rfl, .inr ⟨alw1 hd8 (by omega) h9, .inr ⟨by show 2 < 12; decide, .inr ⟨[("key", ⟨0, 0, a, 0, none⟩, b)], d8, _, rfl, rfl, hd8, fun j hj => ?_, .inr ⟨fun j hj => ?_, by show 1 < 1000; decide, by show 0 < 1000; decide, by show 2 < 1000; decide, fun H9 g9 w9 hN9 => ?_⟩⟩⟩⟩⟩⟩⟩⟩
    · rw [List.mem_singleton.mp hj]
      exact valV1 _ _
    · rw [List.mem_singleton.mp hj]
      exact h2
    have hN9 : NetA c H9 n g9 (chM3 a b) := hN9
    have sH9 : Same H H9 := ((Keeps.of (Same.trans sH7 S8)).trans w9.k).same fg6
    have fg9 : ∀ q ∈ g9.S, H q = none := fun q hq => (w9.s q hq).elim (fg6 q) fun e => sH7.free (S8.free e)
    have d2 : delE (chM3 a b) "up" "low" = some (chM4 a b, .copy "key" 0 0 b) := by kernel_rfl
    obtain ⟨u2, y2, m2, z1, z2, z3, z4, z5, z6⟩ := del_of d2
    obtain ⟨Z9, q9⟩ := id hN9
    refine ⟨_, rfl, n, _, _, rfl, q9.at_n, rfl, n, g9, _, _, "up", "low", u2, y2, _, m2, rfl, hN9, z1, z2, z3, z4, z5, z6, fun H10 msg10 k10 hN10 _ => ?_⟩
    exact ⟨_, rfl, k H10 n g9 (((Keeps.of sH9).trans k10).same fg9) hN10 fg9⟩
theorem ok_sr {c : Cs} {f : Addr} {fd : FuncData} (F : Fun K "_law_steps_right" "_law_steps_right" sSr f fd) (B : Bn mg) (GMs : MtAt P w K mg base CX0 1 c.N "messages" ["self", "sender", "receiver"] (spMsg c)) (GDv : MtAt P w K mg base CX0 6 c.N "deliver" ["self", "sender", "receiver"] (spDel c)) : FnOk P w K mg base CX0 7 f fd ["_law_net", "_law_steps"] (spSteps c) := by
  refine F.ok scSr (fun vs H Q E h => ?_) (fun cdv A outer s H vs Q E hr h => ?_)
  · obtain ⟨n, l, g, M, M', steps, xs, rfl, _⟩ := h
    rfl
  · obtain ⟨n, l, g, M, M', steps, xs, rfl, hN, hrun, hl, nl, hxs, hlen, k⟩ := h
    have hu := hu_of hr
    have hu64 : _ + 64 < cLine := hr.units
    refine ⟨_, (pss_cons (ps_for PassesOwn.never rfl (pi_list (pv 1)) (pg_tup rfl (pgs_cons (pg_name (i := 2) scSr.nd rfl (Or.inl rfl)) (pgs_cons (pg_name (i := 3) scSr.nd rfl (Or.inl rfl)) (pgs_cons (pg_name (i := 4) scSr.nd rfl (Or.inl rfl)) pgs_nil)))) (pss_one (ps_if (PW.pt (pw_or (pt_cmpR (op_neD hu64) (pe_slice sl_list (pe_mtD GMs (hr.mono (by decide)) (pv 0) (pa_cons (pv 2) (pa_cons (pv 3) pa_nil))) po_none (po_some pe_int)) (pe_lst (pa_cons (pv 4) pa_nil)) (nomark _)) (pw_or1 (pt_cmpR (op_neD hu64) (pe_mtD GDv (hr.mono (by decide)) (pv 0) (pa_cons (pv 2) (pa_cons (pv 3) pa_nil))) (pv 4) (nomark _))))) (pss_one (ps_ret pe_bl)) pss_nil)))
        (pss_one (ps_ret pe_bl))), ?_⟩
    have nt : ∀ p ∈ g.S, ∀ ys, H p ≠ some (.tup ys) := by
      obtain ⟨Z, q⟩ := hN
      exact q.notup
    have hxl : xs.length = steps.length := by
      rw [hxs.length, List.length_map]
    refine ⟨_, rfl, l, rfl, ⟨_, SqL.of hl⟩, ?_⟩
    refine for_list (K := K) (a := l) (xs := xs) (fun i σ Hh => ∃ (v2 v3 v4 : Option V) (Mi : NetM), σ = [some (.ref n), some (.ref l), v2, v3, v4] ∧ NetA c Hh n g Mi ∧ Run Mi (steps.drop i) M' ∧ Keeps g.S H Hh) ⟨_, _, _, M, rfl, hN, hrun, Keeps.refl _ _⟩ (fun i σ Hh _ w => by
      obtain ⟨_, _, _, _, _, _, _, kk⟩ := w
      exact SqL.of (kk _ _ nl hl)) ?_ ?_
    · rintro i x σ Hh hi ⟨v2, v3, v4, Mi, rfl, hNi, hri, kk⟩
      have hil : i < steps.length := by
        rw [← hxl]
        exact (List.getElem?_eq_some_iff.mp hi).1
      obtain ⟨st, hst⟩ := ex_st hil
      obtain ⟨sd, rv, mg⟩ := st
      have hdr : steps.drop i = (sd, rv, mg) :: steps.drop (i + 1) := by
        rw [List.drop_eq_getElem_cons hil]
        congr 1
        exact (List.getElem?_eq_some_iff.mp hst).2
      rw [hdr] at hri
      cases hri with
      | cons hd hsh hms hrest =>
        rename_i M1
        obtain ⟨d', hd', tdx⟩ := hxs.get hi
        rw [List.getElem?_map, hst] at hd'
        cases hd'
        have tdx := tdx.mono (KT.keeps kk nt)
        obtain ⟨xa, xv, rfl, hxa, hxv⟩ := td_tup tdx
        obtain ⟨mv, rfl, hmv⟩ := td_step hxv
        refine ⟨xa, _, rfl, SqT.of hxa, rfl, _, _, rfl, _, _, rfl, _, _, rfl, rfl, ?_⟩
        obtain ⟨Z, q⟩ := id hNi
        refine ⟨_, rfl, n, _, _, rfl, q.at_n, rfl, _, rfl, _, rfl, n, g, Mi, sd, rv, rfl, hNi, fun l2 vs2 H2 S2 hl2 hv2 => ?_⟩
        rw [hms] at hv2
        cases hv2 with
        | cons hv0 hvr =>
          rename_i v0 vr
          refine ⟨1, rfl, l2, _, rfl, SqL.of hl2, fun p hp => ?_⟩
          rw [cut_1]
          have S3 : Same H2 (upd H2 p (.lst [v0])) := Same.upd hp
          have lp : upd H2 p (HO.lst [v0]) p = some (.lst [v0]) := upd_same
          generalize upd H2 p (HO.lst [v0]) = H3 at S3 lp ⊢
          refine ⟨_, rfl, by show 1 ≤ sizeLine; decide, fun p2 hp2 => ?_⟩
          have S4 : Same H3 (upd H3 p2 (.lst [mv])) := Same.upd hp2
          have lp2 : upd H3 p2 (HO.lst [mv]) p2 = some (.lst [mv]) := upd_same
          generalize upd H3 p2 (HO.lst [mv]) = H4 at S4 lp2 ⊢
          have S24 := Same.trans S3 S4
          have S04 := Same.trans S2 S24
          have hmv4 := hmv.mono (KT.of S04)
          refine ne_self (d := .list [mg.d]) (.lst (SqL.of (S4 _ _ lp)) (.cons (hv0.mono (KT.of S24)).dp .nil)) (.lst (SqL.of lp2) (.cons hmv4.dp .nil)) hsh ⟨_, rfl, iteF ?_⟩
          obtain ⟨u1, y1, m1, e1, e2, e3, e4, e5, e6⟩ := del_of hd
          have hN4 := hNi.mono S04
          obtain ⟨Z4, q4⟩ := id hN4
          refine ⟨_, rfl, n, _, _, rfl, q4.at_n, rfl, _, rfl, _, rfl, n, g, _, _, sd, rv, u1, y1, _, m1, rfl, hN4, e1, e2, e3, e4, e5, e6, fun H7 msg7 k7 hN7 hm7 => ?_⟩
          have hmv7 := hmv4.mono (KT.keeps k7 q4.notup)
          exact ⟨_, rfl, ne_self hm7.dp hmv7.dp (shaped_one hsh) ⟨_, rfl, iteF ⟨_, _, _, M1, rfl, hN7, hrest, (kk.then S04).trans k7⟩⟩⟩
    · rintro σ Hh ⟨v2, v3, v4, Mi, rfl, hNi, hri, kk⟩
      rw [List.drop_of_length_le (by omega)] at hri
      cases hri
      exact k Hh kk hNi
end
end K03
set_option Elab.async false
set_option linter.all false
set_option maxRecDepth 100000
set_option maxHeartbeats 4000000
namespace K03
open PySem L2 EX PyProof.Rows LamX
open NZ
section
variable {K : PySem.W.Frag} {c : Cs} {UN : Addr} {H : Hp} {n na : Addr} {g : Sg} {M : NetM} {m m0 : NodeM} {cm c0 : CellM} {Q : VK} {key : Str}
theorem rd_get (hN : NetA c H n g M) (hm : m ∈ M.nodes) (k : ∀ na, At c H n g M m na → Q (.ref na) H) : tGetO c.N (spNGet K c UN) E0 (fun _ H R => R (.ref n) H) (tC (.str m.label)) [] H Q := by
  obtain ⟨Z, q⟩ := id hN
  obtain ⟨j, hj⟩ := List.mem_iff_getElem?.mp hm
  obtain ⟨z, hz, zr, hnx⟩ := q.node' hj
  exact ⟨n, Z.dx, _, rfl, q.at_n, n, g, M, .str m.label, rfl, hN, .inl ⟨m.label, z.na, rfl, hnx, k z.na ⟨⟨Z, q⟩, hnx, hm⟩⟩⟩
theorem rd_told {v : Int} (h : At c H n g M m na) (hk : key ∈ M.words) (hc : m.cell key = some cm) (ev : cm.told = v) (k : Q (.int v) H) : tMeth c.C "told" (spTold c.C) [] E0 (fun _ H R => R (.ref na) H) (tCons (tC (.str key)) tNil) [] H Q := by
  subst ev
  obtain ⟨z, t, tc, av, rfl, hz, hv, ht, htc⟩ := h.cell hk hc
  exact ⟨z.na, _, _, rfl, hz.i, rfl, n, z, key, t, _, _, _, _, rfl, hz, hv, ht, k⟩
theorem rd_bound {v : Int} (h : At c H n g M m na) (hk : key ∈ M.words) (hc : m.cell key = some cm) (ev : bndOf cm = v) (k : Q (.int v) H) : tMeth c.C "bound" (spBound c) [] E0 (fun _ H R => R (.ref na) H) (tCons (tC (.str key)) tNil) [] H Q := by
  subst ev
  obtain ⟨z, t, tc, av, rfl, hz, hv, ht, htc⟩ := h.cell hk hc
  exact ⟨z.na, _, _, rfl, hz.i, rfl, z.na, key, n, g, M, m, cm, rfl, h, hk, hc, k⟩
theorem rd_number {v : Int} (hN : NetA c H n g M) (hk : key ∈ M.words) (hm : M.nodes[0]? = some m0) (hc : m0.cell key = some c0) (ev : c0.told = v) (k : Q (.int v) H) : tMeth c.N "number" (spNumber c) [] E0 (fun _ H R => R (.ref n) H) (tCons (tC (.str key)) tNil) [] H Q := by
  subst ev
  obtain ⟨Z, q⟩ := id hN
  exact ⟨n, _, _, rfl, q.at_n, rfl, n, key, g, M, m0, c0, rfl, hN, hk, hm, hc, k⟩
theorem rd_age {v : Int} (hN : NetA c H n g M) (hmem : m ∈ M.nodes) (hk : key ∈ M.words) (hcm : m.cell key = some cm) (hm : M.nodes[0]? = some m0) (hc : m0.cell key = some c0) (ev : c0.told - cm.num = v) (k : Q (.int v) H) : tMeth c.N "age" (spAge c) [] E0 (fun _ H R => R (.ref n) H) (tCons (tC (.str m.label)) (tCons (tC (.str key)) tNil)) [] H Q := by
  subst ev
  obtain ⟨Z, q⟩ := id hN
  exact ⟨n, _, _, rfl, q.at_n, rfl, n, key, g, M, m, m0, cm, c0, rfl, hN, hmem, hk, hcm, hm, hc, k⟩
theorem rd_waiting (hN : NetA c H n g M) (hk : key ∈ M.words) (k : ∀ l H', Same H H' → H l = none → H' l = some (.lst ((M.keptOf key).map V.int)) → Q (.ref l) H') : tMeth c.N "waiting" (spWaiting c) [] E0 (fun _ H R => R (.ref n) H) (tCons (tC (.str key)) tNil) [] H Q := by
  obtain ⟨Z, q⟩ := id hN
  exact ⟨n, _, _, rfl, q.at_n, rfl, n, key, g, M, rfl, hN, hk, k⟩
theorem rd_messages {s r : Str} (hN : NetA c H n g M) (k : ∀ l vs' H', Same H H' → H' l = some (.lst vs') → TdAll H' vs' ((M.msgs s r).map Msg.d) → Q (.ref l) H') : tMeth c.N "messages" (spMsg c) [] E0 (fun _ H R => R (.ref n) H) (tCons (tC (.str s)) (tCons (tC (.str r)) tNil)) [] H Q := by
  obtain ⟨Z, q⟩ := id hN
  exact ⟨n, _, _, rfl, q.at_n, rfl, n, g, M, s, r, rfl, hN, k⟩
end
def fM0 (x1 x2 x3 x4 : Int) : NetM := ⟨["key"], [⟨"store", none, [("key", some ⟨1, x1, 0, 1, none⟩)], ["up"]⟩, ⟨"up", (some "store"), [("key", some ⟨0, 0, 1, 0, none⟩)], ["low"]⟩, ⟨"low", (some "up"), [("key", some ⟨0, 0, 3, 0, none⟩)], []⟩], [⟨"up", "store", [("key", 0, 1)], [], true, false, [.update "key" 1 x1], []⟩, ⟨"low", "up", [("key", 0, 3)], [], true, false, [], []⟩], [(.tuple [(.str "join"), (.str "up"), (.str "store"), (.tuple [(.tuple [(.str "key"), (.int 1)])])]), (.tuple [(.str "deliver"), (.str "store"), (.str "up")]), (.tuple [(.str "join"), (.str "low"), (.str "up"), (.tuple [(.tuple [(.str "key"), (.int 3)])])]), (.tuple [(.str "deliver"), (.str "up"), (.str "low")]), (.tuple [(.str "write"), (.str "key"), (.int x1)])], [("key", [])], ["key"], [5], 0, [], [], []⟩
def fM1 (x1 x2 x3 x4 : Int) : NetM := ⟨["key"], [⟨"store", none, [("key", some ⟨1, x1, 0, 1, none⟩)], ["up"]⟩, ⟨"up", (some "store"), [("key", some ⟨0, 0, 1, 0, none⟩)], ["low"]⟩, ⟨"low", (some "up"), [("key", some ⟨0, 0, 3, 0, none⟩)], []⟩], [⟨"up", "store", [("key", 0, 1)], [], true, false, [.update "key" 1 x1], []⟩, ⟨"low", "up", [("key", 0, 3)], [], true, false, [], []⟩], [(.tuple [(.str "join"), (.str "up"), (.str "store"), (.tuple [(.tuple [(.str "key"), (.int 1)])])]), (.tuple [(.str "deliver"), (.str "store"), (.str "up")]), (.tuple [(.str "join"), (.str "low"), (.str "up"), (.tuple [(.tuple [(.str "key"), (.int 3)])])]), (.tuple [(.str "deliver"), (.str "up"), (.str "low")]), (.tuple [(.str "write"), (.str "key"), (.int x1)]), (.tuple [(.str "write"), (.str "key"), (.int x2)])], [("key", [x2])], ["key"], [5], 0, [], [], []⟩
def fM2 (x1 x2 x3 x4 : Int) : NetM := ⟨["key"], [⟨"store", none, [("key", some ⟨1, x1, 0, 1, none⟩)], ["up"]⟩, ⟨"up", (some "store"), [("key", some ⟨0, 0, 1, 0, none⟩)], ["low"]⟩, ⟨"low", (some "up"), [("key", some ⟨0, 0, 3, 0, none⟩)], []⟩], [⟨"up", "store", [("key", 0, 1)], [], true, false, [.update "key" 1 x1], []⟩, ⟨"low", "up", [("key", 0, 3)], [], true, false, [], []⟩], [(.tuple [(.str "join"), (.str "up"), (.str "store"), (.tuple [(.tuple [(.str "key"), (.int 1)])])]), (.tuple [(.str "deliver"), (.str "store"), (.str "up")]), (.tuple [(.str "join"), (.str "low"), (.str "up"), (.tuple [(.tuple [(.str "key"), (.int 3)])])]), (.tuple [(.str "deliver"), (.str "up"), (.str "low")]), (.tuple [(.str "write"), (.str "key"), (.int x1)]), (.tuple [(.str "write"), (.str "key"), (.int x2)]), (.tuple [(.str "write"), (.str "key"), (.int x3)])], [("key", [x2, x3])], ["key"], [5], 0, [], [], []⟩
def fM3 (x1 x2 x3 x4 : Int) : NetM := ⟨["key"], [⟨"store", none, [("key", some ⟨1, x1, 0, 1, none⟩)], ["up"]⟩, ⟨"up", (some "store"), [("key", some ⟨0, 0, 1, 0, none⟩)], ["low"]⟩, ⟨"low", (some "up"), [("key", some ⟨0, 0, 3, 0, none⟩)], []⟩], [⟨"up", "store", [("key", 0, 1)], [], true, false, [.update "key" 1 x1], []⟩, ⟨"low", "up", [("key", 0, 3)], [], true, false, [], []⟩], [(.tuple [(.str "join"), (.str "up"), (.str "store"), (.tuple [(.tuple [(.str "key"), (.int 1)])])]), (.tuple [(.str "deliver"), (.str "store"), (.str "up")]), (.tuple [(.str "join"), (.str "low"), (.str "up"), (.tuple [(.tuple [(.str "key"), (.int 3)])])]), (.tuple [(.str "deliver"), (.str "up"), (.str "low")]), (.tuple [(.str "write"), (.str "key"), (.int x1)]), (.tuple [(.str "write"), (.str "key"), (.int x2)]), (.tuple [(.str "write"), (.str "key"), (.int x3)]), (.tuple [(.str "write"), (.str "key"), (.int x4)])], [("key", [x2, x3, x4])], ["key"], [5], 0, [], [], []⟩
def fM4 (x1 x2 x3 x4 : Int) : NetM := ⟨["key"], [⟨"store", none, [("key", some ⟨1, x1, 0, 1, none⟩)], ["up"]⟩, ⟨"up", (some "store"), [("key", some ⟨1, x1, 1, 1, none⟩)], ["low"]⟩, ⟨"low", (some "up"), [("key", some ⟨0, 0, 3, 0, none⟩)], []⟩], [⟨"up", "store", [("key", 0, 1)], [], true, false, [], [.confirm "key" 1]⟩, ⟨"low", "up", [("key", 0, 3)], [], true, false, [.update "key" 1 x1], []⟩], [(.tuple [(.str "join"), (.str "up"), (.str "store"), (.tuple [(.tuple [(.str "key"), (.int 1)])])]), (.tuple [(.str "deliver"), (.str "store"), (.str "up")]), (.tuple [(.str "join"), (.str "low"), (.str "up"), (.tuple [(.tuple [(.str "key"), (.int 3)])])]), (.tuple [(.str "deliver"), (.str "up"), (.str "low")]), (.tuple [(.str "write"), (.str "key"), (.int x1)]), (.tuple [(.str "write"), (.str "key"), (.int x2)]), (.tuple [(.str "write"), (.str "key"), (.int x3)]), (.tuple [(.str "write"), (.str "key"), (.int x4)]), (.tuple [(.str "deliver"), (.str "store"), (.str "up")])], [("key", [x2, x3, x4])], ["key"], [5], 0, [], [], []⟩
def fM5 (x1 x2 x3 x4 : Int) : NetM := ⟨["key"], [⟨"store", none, [("key", some ⟨2, x2, 0, 2, none⟩)], ["up"]⟩, ⟨"up", (some "store"), [("key", some ⟨1, x1, 1, 1, none⟩)], ["low"]⟩, ⟨"low", (some "up"), [("key", some ⟨0, 0, 3, 0, none⟩)], []⟩], [⟨"up", "store", [("key", 1, 1)], [], true, false, [.update "key" 2 x2], []⟩, ⟨"low", "up", [("key", 0, 3)], [], true, false, [.update "key" 1 x1], []⟩], [(.tuple [(.str "join"), (.str "up"), (.str "store"), (.tuple [(.tuple [(.str "key"), (.int 1)])])]), (.tuple [(.str "deliver"), (.str "store"), (.str "up")]), (.tuple [(.str "join"), (.str "low"), (.str "up"), (.tuple [(.tuple [(.str "key"), (.int 3)])])]), (.tuple [(.str "deliver"), (.str "up"), (.str "low")]), (.tuple [(.str "write"), (.str "key"), (.int x1)]), (.tuple [(.str "write"), (.str "key"), (.int x2)]), (.tuple [(.str "write"), (.str "key"), (.int x3)]), (.tuple [(.str "write"), (.str "key"), (.int x4)]), (.tuple [(.str "deliver"), (.str "store"), (.str "up")]), (.tuple [(.str "deliver"), (.str "up"), (.str "store")])], [("key", [x3, x4])], ["key", "key"], [5, 10], 0, [], [], []⟩
def fM6 (x1 x2 x3 x4 : Int) : NetM := ⟨["key"], [⟨"store", none, [("key", some ⟨2, x2, 0, 2, none⟩)], ["up"]⟩, ⟨"up", (some "store"), [("key", some ⟨2, x2, 1, 2, none⟩)], ["low"]⟩, ⟨"low", (some "up"), [("key", some ⟨0, 0, 3, 0, none⟩)], []⟩], [⟨"up", "store", [("key", 1, 1)], [], true, false, [], [.confirm "key" 2]⟩, ⟨"low", "up", [("key", 0, 3)], [], true, false, [.update "key" 1 x1, .update "key" 2 x2], []⟩], [(.tuple [(.str "join"), (.str "up"), (.str "store"), (.tuple [(.tuple [(.str "key"), (.int 1)])])]), (.tuple [(.str "deliver"), (.str "store"), (.str "up")]), (.tuple [(.str "join"), (.str "low"), (.str "up"), (.tuple [(.tuple [(.str "key"), (.int 3)])])]), (.tuple [(.str "deliver"), (.str "up"), (.str "low")]), (.tuple [(.str "write"), (.str "key"), (.int x1)]), (.tuple [(.str "write"), (.str "key"), (.int x2)]), (.tuple [(.str "write"), (.str "key"), (.int x3)]), (.tuple [(.str "write"), (.str "key"), (.int x4)]), (.tuple [(.str "deliver"), (.str "store"), (.str "up")]), (.tuple [(.str "deliver"), (.str "up"), (.str "store")]), (.tuple [(.str "deliver"), (.str "store"), (.str "up")])], [("key", [x3, x4])], ["key", "key"], [5, 10], 0, [], [], []⟩
def fM7 (x1 x2 x3 x4 : Int) : NetM := ⟨["key"], [⟨"store", none, [("key", some ⟨3, x3, 0, 3, none⟩)], ["up"]⟩, ⟨"up", (some "store"), [("key", some ⟨2, x2, 1, 2, none⟩)], ["low"]⟩, ⟨"low", (some "up"), [("key", some ⟨0, 0, 3, 0, none⟩)], []⟩], [⟨"up", "store", [("key", 2, 1)], [], true, false, [.update "key" 3 x3], []⟩, ⟨"low", "up", [("key", 0, 3)], [], true, false, [.update "key" 1 x1, .update "key" 2 x2], []⟩], [(.tuple [(.str "join"), (.str "up"), (.str "store"), (.tuple [(.tuple [(.str "key"), (.int 1)])])]), (.tuple [(.str "deliver"), (.str "store"), (.str "up")]), (.tuple [(.str "join"), (.str "low"), (.str "up"), (.tuple [(.tuple [(.str "key"), (.int 3)])])]), (.tuple [(.str "deliver"), (.str "up"), (.str "low")]), (.tuple [(.str "write"), (.str "key"), (.int x1)]), (.tuple [(.str "write"), (.str "key"), (.int x2)]), (.tuple [(.str "write"), (.str "key"), (.int x3)]), (.tuple [(.str "write"), (.str "key"), (.int x4)]), (.tuple [(.str "deliver"), (.str "store"), (.str "up")]), (.tuple [(.str "deliver"), (.str "up"), (.str "store")]), (.tuple [(.str "deliver"), (.str "store"), (.str "up")]), (.tuple [(.str "deliver"), (.str "up"), (.str "store")])], [("key", [x4])], ["key", "key", "key"], [5, 10, 12], 0, [], [], []⟩
def fM8 (x1 x2 x3 x4 : Int) : NetM := ⟨["key"], [⟨"store", none, [("key", some ⟨3, x3, 0, 3, none⟩)], ["up"]⟩, ⟨"up", (some "store"), [("key", some ⟨3, x3, 1, 2, none⟩)], ["low"]⟩, ⟨"low", (some "up"), [("key", some ⟨0, 0, 3, 0, none⟩)], []⟩], [⟨"up", "store", [("key", 2, 1)], [], true, false, [], []⟩, ⟨"low", "up", [("key", 0, 3)], [], true, false, [.update "key" 1 x1, .update "key" 2 x2, .update "key" 3 x3], []⟩], [(.tuple [(.str "join"), (.str "up"), (.str "store"), (.tuple [(.tuple [(.str "key"), (.int 1)])])]), (.tuple [(.str "deliver"), (.str "store"), (.str "up")]), (.tuple [(.str "join"), (.str "low"), (.str "up"), (.tuple [(.tuple [(.str "key"), (.int 3)])])]), (.tuple [(.str "deliver"), (.str "up"), (.str "low")]), (.tuple [(.str "write"), (.str "key"), (.int x1)]), (.tuple [(.str "write"), (.str "key"), (.int x2)]), (.tuple [(.str "write"), (.str "key"), (.int x3)]), (.tuple [(.str "write"), (.str "key"), (.int x4)]), (.tuple [(.str "deliver"), (.str "store"), (.str "up")]), (.tuple [(.str "deliver"), (.str "up"), (.str "store")]), (.tuple [(.str "deliver"), (.str "store"), (.str "up")]), (.tuple [(.str "deliver"), (.str "up"), (.str "store")]), (.tuple [(.str "deliver"), (.str "store"), (.str "up")])], [("key", [x4])], ["key", "key", "key"], [5, 10, 12], 0, [], [], []⟩
def fM9 (x1 x2 x3 x4 : Int) : NetM := ⟨["key"], [⟨"store", none, [("key", some ⟨3, x3, 0, 3, none⟩)], ["up"]⟩, ⟨"up", (some "store"), [("key", some ⟨3, x3, 1, 2, none⟩)], ["low"]⟩, ⟨"low", (some "up"), [("key", some ⟨1, x1, 3, 1, none⟩)], []⟩], [⟨"up", "store", [("key", 2, 1)], [], true, false, [], []⟩, ⟨"low", "up", [("key", 0, 3)], [], true, false, [.update "key" 2 x2, .update "key" 3 x3], [.confirm "key" 1]⟩], [(.tuple [(.str "join"), (.str "up"), (.str "store"), (.tuple [(.tuple [(.str "key"), (.int 1)])])]), (.tuple [(.str "deliver"), (.str "store"), (.str "up")]), (.tuple [(.str "join"), (.str "low"), (.str "up"), (.tuple [(.tuple [(.str "key"), (.int 3)])])]), (.tuple [(.str "deliver"), (.str "up"), (.str "low")]), (.tuple [(.str "write"), (.str "key"), (.int x1)]), (.tuple [(.str "write"), (.str "key"), (.int x2)]), (.tuple [(.str "write"), (.str "key"), (.int x3)]), (.tuple [(.str "write"), (.str "key"), (.int x4)]), (.tuple [(.str "deliver"), (.str "store"), (.str "up")]), (.tuple [(.str "deliver"), (.str "up"), (.str "store")]), (.tuple [(.str "deliver"), (.str "store"), (.str "up")]), (.tuple [(.str "deliver"), (.str "up"), (.str "store")]), (.tuple [(.str "deliver"), (.str "store"), (.str "up")]), (.tuple [(.str "deliver"), (.str "up"), (.str "low")])], [("key", [x4])], ["key", "key", "key"], [5, 10, 12], 0, [], [], []⟩
def fM10 (x1 x2 x3 x4 : Int) : NetM := ⟨["key"], [⟨"store", none, [("key", some ⟨3, x3, 0, 3, none⟩)], ["up"]⟩, ⟨"up", (some "store"), [("key", some ⟨3, x3, 1, 3, none⟩)], ["low"]⟩, ⟨"low", (some "up"), [("key", some ⟨1, x1, 3, 1, none⟩)], []⟩], [⟨"up", "store", [("key", 2, 1)], [], true, false, [], [.confirm "key" 3]⟩, ⟨"low", "up", [("key", 1, 3)], [], true, false, [.update "key" 2 x2, .update "key" 3 x3], []⟩], [(.tuple [(.str "join"), (.str "up"), (.str "store"), (.tuple [(.tuple [(.str "key"), (.int 1)])])]), (.tuple [(.str "deliver"), (.str "store"), (.str "up")]), (.tuple [(.str "join"), (.str "low"), (.str "up"), (.tuple [(.tuple [(.str "key"), (.int 3)])])]), (.tuple [(.str "deliver"), (.str "up"), (.str "low")]), (.tuple [(.str "write"), (.str "key"), (.int x1)]), (.tuple [(.str "write"), (.str "key"), (.int x2)]), (.tuple [(.str "write"), (.str "key"), (.int x3)]), (.tuple [(.str "write"), (.str "key"), (.int x4)]), (.tuple [(.str "deliver"), (.str "store"), (.str "up")]), (.tuple [(.str "deliver"), (.str "up"), (.str "store")]), (.tuple [(.str "deliver"), (.str "store"), (.str "up")]), (.tuple [(.str "deliver"), (.str "up"), (.str "store")]), (.tuple [(.str "deliver"), (.str "store"), (.str "up")]), (.tuple [(.str "deliver"), (.str "up"), (.str "low")]), (.tuple [(.str "deliver"), (.str "low"), (.str "up")])], [("key", [x4])], ["key", "key", "key"], [5, 10, 12], 0, [], [], []⟩
def fM11 (x1 x2 x3 x4 : Int) : NetM := ⟨["key"], [⟨"store", none, [("key", some ⟨4, x4, 0, 4, none⟩)], ["up"]⟩, ⟨"up", (some "store"), [("key", some ⟨3, x3, 1, 3, none⟩)], ["low"]⟩, ⟨"low", (some "up"), [("key", some ⟨1, x1, 3, 1, none⟩)], []⟩], [⟨"up", "store", [("key", 3, 1)], [], true, false, [.update "key" 4 x4], []⟩, ⟨"low", "up", [("key", 1, 3)], [], true, false, [.update "key" 2 x2, .update "key" 3 x3], []⟩], [(.tuple [(.str "join"), (.str "up"), (.str "store"), (.tuple [(.tuple [(.str "key"), (.int 1)])])]), (.tuple [(.str "deliver"), (.str "store"), (.str "up")]), (.tuple [(.str "join"), (.str "low"), (.str "up"), (.tuple [(.tuple [(.str "key"), (.int 3)])])]), (.tuple [(.str "deliver"), (.str "up"), (.str "low")]), (.tuple [(.str "write"), (.str "key"), (.int x1)]), (.tuple [(.str "write"), (.str "key"), (.int x2)]), (.tuple [(.str "write"), (.str "key"), (.int x3)]), (.tuple [(.str "write"), (.str "key"), (.int x4)]), (.tuple [(.str "deliver"), (.str "store"), (.str "up")]), (.tuple [(.str "deliver"), (.str "up"), (.str "store")]), (.tuple [(.str "deliver"), (.str "store"), (.str "up")]), (.tuple [(.str "deliver"), (.str "up"), (.str "store")]), (.tuple [(.str "deliver"), (.str "store"), (.str "up")]), (.tuple [(.str "deliver"), (.str "up"), (.str "low")]), (.tuple [(.str "deliver"), (.str "low"), (.str "up")]), (.tuple [(.str "deliver"), (.str "up"), (.str "store")])], [("key", [])], ["key", "key", "key", "key"], [5, 10, 12, 16], 0, [], [], []⟩
theorem fD4 (x1 x2 x3 x4 : Int) : delE (fM3 x1 x2 x3 x4) "store" "up" = some (fM4 x1 x2 x3 x4, .update "key" 1 x1) := by kernel_rfl
theorem fE4 (x1 x2 x3 x4 : Int) : SeqAt.shaped (.list [Msg.d (.update "key" 1 x1)]) = true := by kernel_rfl
theorem fF4 (x1 x2 x3 x4 : Int) : NetM.msgs (fM3 x1 x2 x3 x4) "store" "up" = .update "key" 1 x1 :: (NetM.msgs (fM3 x1 x2 x3 x4) "store" "up").tail := by kernel_rfl
theorem fD5 (x1 x2 x3 x4 : Int) : delE (fM4 x1 x2 x3 x4) "up" "store" = some (fM5 x1 x2 x3 x4, .confirm "key" 1) := by kernel_rfl
theorem fE5 (x1 x2 x3 x4 : Int) : SeqAt.shaped (.list [Msg.d (.confirm "key" 1)]) = true := by kernel_rfl
theorem fF5 (x1 x2 x3 x4 : Int) : NetM.msgs (fM4 x1 x2 x3 x4) "up" "store" = .confirm "key" 1 :: (NetM.msgs (fM4 x1 x2 x3 x4) "up" "store").tail := by kernel_rfl
theorem fD6 (x1 x2 x3 x4 : Int) : delE (fM5 x1 x2 x3 x4) "store" "up" = some (fM6 x1 x2 x3 x4, .update "key" 2 x2) := by kernel_rfl
theorem fE6 (x1 x2 x3 x4 : Int) : SeqAt.shaped (.list [Msg.d (.update "key" 2 x2)]) = true := by kernel_rfl
theorem fF6 (x1 x2 x3 x4 : Int) : NetM.msgs (fM5 x1 x2 x3 x4) "store" "up" = .update "key" 2 x2 :: (NetM.msgs (fM5 x1 x2 x3 x4) "store" "up").tail := by kernel_rfl
theorem fD7 (x1 x2 x3 x4 : Int) : delE (fM6 x1 x2 x3 x4) "up" "store" = some (fM7 x1 x2 x3 x4, .confirm "key" 2) := by kernel_rfl
theorem fE7 (x1 x2 x3 x4 : Int) : SeqAt.shaped (.list [Msg.d (.confirm "key" 2)]) = true := by kernel_rfl
theorem fF7 (x1 x2 x3 x4 : Int) : NetM.msgs (fM6 x1 x2 x3 x4) "up" "store" = .confirm "key" 2 :: (NetM.msgs (fM6 x1 x2 x3 x4) "up" "store").tail := by kernel_rfl
theorem fD8 (x1 x2 x3 x4 : Int) : delE (fM7 x1 x2 x3 x4) "store" "up" = some (fM8 x1 x2 x3 x4, .update "key" 3 x3) := by kernel_rfl
theorem fE8 (x1 x2 x3 x4 : Int) : SeqAt.shaped (.list [Msg.d (.update "key" 3 x3)]) = true := by kernel_rfl
theorem fF8 (x1 x2 x3 x4 : Int) : NetM.msgs (fM7 x1 x2 x3 x4) "store" "up" = .update "key" 3 x3 :: (NetM.msgs (fM7 x1 x2 x3 x4) "store" "up").tail := by kernel_rfl
theorem fD9 (x1 x2 x3 x4 : Int) : delE (fM8 x1 x2 x3 x4) "up" "low" = some (fM9 x1 x2 x3 x4, .update "key" 1 x1) := by kernel_rfl
theorem fE9 (x1 x2 x3 x4 : Int) : SeqAt.shaped (.list [Msg.d (.update "key" 1 x1)]) = true := by kernel_rfl
theorem fF9 (x1 x2 x3 x4 : Int) : NetM.msgs (fM8 x1 x2 x3 x4) "up" "low" = .update "key" 1 x1 :: (NetM.msgs (fM8 x1 x2 x3 x4) "up" "low").tail := by kernel_rfl
theorem fD10 (x1 x2 x3 x4 : Int) : delE (fM9 x1 x2 x3 x4) "low" "up" = some (fM10 x1 x2 x3 x4, .confirm "key" 1) := by kernel_rfl
theorem fE10 (x1 x2 x3 x4 : Int) : SeqAt.shaped (.list [Msg.d (.confirm "key" 1)]) = true := by kernel_rfl
theorem fF10 (x1 x2 x3 x4 : Int) : NetM.msgs (fM9 x1 x2 x3 x4) "low" "up" = .confirm "key" 1 :: (NetM.msgs (fM9 x1 x2 x3 x4) "low" "up").tail := by kernel_rfl
theorem fD11 (x1 x2 x3 x4 : Int) : delE (fM10 x1 x2 x3 x4) "up" "store" = some (fM11 x1 x2 x3 x4, .confirm "key" 3) := by kernel_rfl
theorem fE11 (x1 x2 x3 x4 : Int) : SeqAt.shaped (.list [Msg.d (.confirm "key" 3)]) = true := by kernel_rfl
theorem fF11 (x1 x2 x3 x4 : Int) : NetM.msgs (fM10 x1 x2 x3 x4) "up" "store" = .confirm "key" 3 :: (NetM.msgs (fM10 x1 x2 x3 x4) "up" "store").tail := by kernel_rfl
def sM0 (x1 x2 x3 x4 : Int) : NetM := ⟨["key"], [⟨"store", none, [("key", some ⟨1, x1, 0, 1, none⟩)], ["up"]⟩, ⟨"up", (some "store"), [("key", some ⟨0, 0, 2, 0, none⟩)], ["low"]⟩, ⟨"low", (some "up"), [("key", some ⟨0, 0, 2, 0, none⟩)], []⟩], [⟨"up", "store", [("key", 0, 2)], [], true, false, [.update "key" 1 x1], []⟩, ⟨"low", "up", [("key", 0, 2)], [], true, false, [], []⟩], [(.tuple [(.str "join"), (.str "up"), (.str "store"), (.tuple [(.tuple [(.str "key"), (.int 2)])])]), (.tuple [(.str "deliver"), (.str "store"), (.str "up")]), (.tuple [(.str "join"), (.str "low"), (.str "up"), (.tuple [(.tuple [(.str "key"), (.int 2)])])]), (.tuple [(.str "deliver"), (.str "up"), (.str "low")]), (.tuple [(.str "write"), (.str "key"), (.int x1)])], [("key", [])], ["key"], [5], 0, [], [], []⟩
def sM1 (x1 x2 x3 x4 : Int) : NetM := ⟨["key"], [⟨"store", none, [("key", some ⟨2, x2, 0, 2, none⟩)], ["up"]⟩, ⟨"up", (some "store"), [("key", some ⟨0, 0, 2, 0, none⟩)], ["low"]⟩, ⟨"low", (some "up"), [("key", some ⟨0, 0, 2, 0, none⟩)], []⟩], [⟨"up", "store", [("key", 0, 2)], [], true, false, [.update "key" 1 x1, .update "key" 2 x2], []⟩, ⟨"low", "up", [("key", 0, 2)], [], true, false, [], []⟩], [(.tuple [(.str "join"), (.str "up"), (.str "store"), (.tuple [(.tuple [(.str "key"), (.int 2)])])]), (.tuple [(.str "deliver"), (.str "store"), (.str "up")]), (.tuple [(.str "join"), (.str "low"), (.str "up"), (.tuple [(.tuple [(.str "key"), (.int 2)])])]), (.tuple [(.str "deliver"), (.str "up"), (.str "low")]), (.tuple [(.str "write"), (.str "key"), (.int x1)]), (.tuple [(.str "write"), (.str "key"), (.int x2)])], [("key", [])], ["key", "key"], [5, 6], 0, [], [], []⟩
def sM2 (x1 x2 x3 x4 : Int) : NetM := ⟨["key"], [⟨"store", none, [("key", some ⟨2, x2, 0, 2, none⟩)], ["up"]⟩, ⟨"up", (some "store"), [("key", some ⟨0, 0, 2, 0, none⟩)], ["low"]⟩, ⟨"low", (some "up"), [("key", some ⟨0, 0, 2, 0, none⟩)], []⟩], [⟨"up", "store", [("key", 0, 2)], [], true, false, [.update "key" 1 x1, .update "key" 2 x2], []⟩, ⟨"low", "up", [("key", 0, 2)], [], true, false, [], []⟩], [(.tuple [(.str "join"), (.str "up"), (.str "store"), (.tuple [(.tuple [(.str "key"), (.int 2)])])]), (.tuple [(.str "deliver"), (.str "store"), (.str "up")]), (.tuple [(.str "join"), (.str "low"), (.str "up"), (.tuple [(.tuple [(.str "key"), (.int 2)])])]), (.tuple [(.str "deliver"), (.str "up"), (.str "low")]), (.tuple [(.str "write"), (.str "key"), (.int x1)]), (.tuple [(.str "write"), (.str "key"), (.int x2)]), (.tuple [(.str "write"), (.str "key"), (.int x3)])], [("key", [x3])], ["key", "key"], [5, 6], 0, [], [], []⟩
def sM3 (x1 x2 x3 x4 : Int) : NetM := ⟨["key"], [⟨"store", none, [("key", some ⟨2, x2, 0, 2, none⟩)], ["up"]⟩, ⟨"up", (some "store"), [("key", some ⟨1, x1, 2, 0, none⟩)], ["low"]⟩, ⟨"low", (some "up"), [("key", some ⟨0, 0, 2, 0, none⟩)], []⟩], [⟨"up", "store", [("key", 0, 2)], [], true, false, [.update "key" 2 x2], []⟩, ⟨"low", "up", [("key", 0, 2)], [], true, false, [.update "key" 1 x1], []⟩], [(.tuple [(.str "join"), (.str "up"), (.str "store"), (.tuple [(.tuple [(.str "key"), (.int 2)])])]), (.tuple [(.str "deliver"), (.str "store"), (.str "up")]), (.tuple [(.str "join"), (.str "low"), (.str "up"), (.tuple [(.tuple [(.str "key"), (.int 2)])])]), (.tuple [(.str "deliver"), (.str "up"), (.str "low")]), (.tuple [(.str "write"), (.str "key"), (.int x1)]), (.tuple [(.str "write"), (.str "key"), (.int x2)]), (.tuple [(.str "write"), (.str "key"), (.int x3)]), (.tuple [(.str "deliver"), (.str "store"), (.str "up")])], [("key", [x3])], ["key", "key"], [5, 6], 0, [], [], []⟩
def sM4 (x1 x2 x3 x4 : Int) : NetM := ⟨["key"], [⟨"store", none, [("key", some ⟨2, x2, 0, 2, none⟩)], ["up"]⟩, ⟨"up", (some "store"), [("key", some ⟨2, x2, 2, 0, none⟩)], ["low"]⟩, ⟨"low", (some "up"), [("key", some ⟨0, 0, 2, 0, none⟩)], []⟩], [⟨"up", "store", [("key", 0, 2)], [], true, false, [], []⟩, ⟨"low", "up", [("key", 0, 2)], [], true, false, [.update "key" 1 x1, .update "key" 2 x2], []⟩], [(.tuple [(.str "join"), (.str "up"), (.str "store"), (.tuple [(.tuple [(.str "key"), (.int 2)])])]), (.tuple [(.str "deliver"), (.str "store"), (.str "up")]), (.tuple [(.str "join"), (.str "low"), (.str "up"), (.tuple [(.tuple [(.str "key"), (.int 2)])])]), (.tuple [(.str "deliver"), (.str "up"), (.str "low")]), (.tuple [(.str "write"), (.str "key"), (.int x1)]), (.tuple [(.str "write"), (.str "key"), (.int x2)]), (.tuple [(.str "write"), (.str "key"), (.int x3)]), (.tuple [(.str "deliver"), (.str "store"), (.str "up")]), (.tuple [(.str "deliver"), (.str "store"), (.str "up")])], [("key", [x3])], ["key", "key"], [5, 6], 0, [], [], []⟩
def sM5 (x1 x2 x3 x4 : Int) : NetM := ⟨["key"], [⟨"store", none, [("key", some ⟨2, x2, 0, 2, none⟩)], ["up"]⟩, ⟨"up", (some "store"), [("key", some ⟨2, x2, 2, 0, none⟩)], ["low"]⟩, ⟨"low", (some "up"), [("key", some ⟨1, x1, 2, 1, none⟩)], []⟩], [⟨"up", "store", [("key", 0, 2)], [], true, false, [], []⟩, ⟨"low", "up", [("key", 0, 2)], [], true, false, [.update "key" 2 x2], [.confirm "key" 1]⟩], [(.tuple [(.str "join"), (.str "up"), (.str "store"), (.tuple [(.tuple [(.str "key"), (.int 2)])])]), (.tuple [(.str "deliver"), (.str "store"), (.str "up")]), (.tuple [(.str "join"), (.str "low"), (.str "up"), (.tuple [(.tuple [(.str "key"), (.int 2)])])]), (.tuple [(.str "deliver"), (.str "up"), (.str "low")]), (.tuple [(.str "write"), (.str "key"), (.int x1)]), (.tuple [(.str "write"), (.str "key"), (.int x2)]), (.tuple [(.str "write"), (.str "key"), (.int x3)]), (.tuple [(.str "deliver"), (.str "store"), (.str "up")]), (.tuple [(.str "deliver"), (.str "store"), (.str "up")]), (.tuple [(.str "deliver"), (.str "up"), (.str "low")])], [("key", [x3])], ["key", "key"], [5, 6], 0, [], [], []⟩
def sM6 (x1 x2 x3 x4 : Int) : NetM := ⟨["key"], [⟨"store", none, [("key", some ⟨2, x2, 0, 2, none⟩)], ["up"]⟩, ⟨"up", (some "store"), [("key", some ⟨2, x2, 2, 1, none⟩)], ["low"]⟩, ⟨"low", (some "up"), [("key", some ⟨1, x1, 2, 1, none⟩)], []⟩], [⟨"up", "store", [("key", 0, 2)], [], true, false, [], [.confirm "key" 1]⟩, ⟨"low", "up", [("key", 1, 2)], [], true, false, [.update "key" 2 x2], []⟩], [(.tuple [(.str "join"), (.str "up"), (.str "store"), (.tuple [(.tuple [(.str "key"), (.int 2)])])]), (.tuple [(.str "deliver"), (.str "store"), (.str "up")]), (.tuple [(.str "join"), (.str "low"), (.str "up"), (.tuple [(.tuple [(.str "key"), (.int 2)])])]), (.tuple [(.str "deliver"), (.str "up"), (.str "low")]), (.tuple [(.str "write"), (.str "key"), (.int x1)]), (.tuple [(.str "write"), (.str "key"), (.int x2)]), (.tuple [(.str "write"), (.str "key"), (.int x3)]), (.tuple [(.str "deliver"), (.str "store"), (.str "up")]), (.tuple [(.str "deliver"), (.str "store"), (.str "up")]), (.tuple [(.str "deliver"), (.str "up"), (.str "low")]), (.tuple [(.str "deliver"), (.str "low"), (.str "up")])], [("key", [x3])], ["key", "key"], [5, 6], 0, [], [], []⟩
def sM7 (x1 x2 x3 x4 : Int) : NetM := ⟨["key"], [⟨"store", none, [("key", some ⟨3, x3, 0, 3, none⟩)], ["up"]⟩, ⟨"up", (some "store"), [("key", some ⟨2, x2, 2, 1, none⟩)], ["low"]⟩, ⟨"low", (some "up"), [("key", some ⟨1, x1, 2, 1, none⟩)], []⟩], [⟨"up", "store", [("key", 1, 2)], [], true, false, [.update "key" 3 x3], []⟩, ⟨"low", "up", [("key", 1, 2)], [], true, false, [.update "key" 2 x2], []⟩], [(.tuple [(.str "join"), (.str "up"), (.str "store"), (.tuple [(.tuple [(.str "key"), (.int 2)])])]), (.tuple [(.str "deliver"), (.str "store"), (.str "up")]), (.tuple [(.str "join"), (.str "low"), (.str "up"), (.tuple [(.tuple [(.str "key"), (.int 2)])])]), (.tuple [(.str "deliver"), (.str "up"), (.str "low")]), (.tuple [(.str "write"), (.str "key"), (.int x1)]), (.tuple [(.str "write"), (.str "key"), (.int x2)]), (.tuple [(.str "write"), (.str "key"), (.int x3)]), (.tuple [(.str "deliver"), (.str "store"), (.str "up")]), (.tuple [(.str "deliver"), (.str "store"), (.str "up")]), (.tuple [(.str "deliver"), (.str "up"), (.str "low")]), (.tuple [(.str "deliver"), (.str "low"), (.str "up")]), (.tuple [(.str "deliver"), (.str "up"), (.str "store")])], [("key", [])], ["key", "key", "key"], [5, 6, 12], 0, [], [], []⟩
def sM8 (x1 x2 x3 x4 : Int) : NetM := ⟨["key"], [⟨"store", none, [("key", some ⟨3, x3, 0, 3, none⟩)], ["up"]⟩, ⟨"up", (some "store"), [("key", some ⟨2, x2, 2, 1, none⟩)], ["low"]⟩, ⟨"low", (some "up"), [("key", some ⟨1, x1, 2, 1, none⟩)], []⟩], [⟨"up", "store", [("key", 1, 2)], [], true, false, [.update "key" 3 x3], []⟩, ⟨"low", "up", [("key", 1, 2)], [], true, false, [.update "key" 2 x2], [.question 1 "key" 1 0]⟩], [(.tuple [(.str "join"), (.str "up"), (.str "store"), (.tuple [(.tuple [(.str "key"), (.int 2)])])]), (.tuple [(.str "deliver"), (.str "store"), (.str "up")]), (.tuple [(.str "join"), (.str "low"), (.str "up"), (.tuple [(.tuple [(.str "key"), (.int 2)])])]), (.tuple [(.str "deliver"), (.str "up"), (.str "low")]), (.tuple [(.str "write"), (.str "key"), (.int x1)]), (.tuple [(.str "write"), (.str "key"), (.int x2)]), (.tuple [(.str "write"), (.str "key"), (.int x3)]), (.tuple [(.str "deliver"), (.str "store"), (.str "up")]), (.tuple [(.str "deliver"), (.str "store"), (.str "up")]), (.tuple [(.str "deliver"), (.str "up"), (.str "low")]), (.tuple [(.str "deliver"), (.str "low"), (.str "up")]), (.tuple [(.str "deliver"), (.str "up"), (.str "store")]), (.tuple [(.str "read"), (.str "low"), (.str "key"), (.int 1), (.int 0)])], [("key", [])], ["key", "key", "key"], [5, 6, 12], 1, [(1, ["low"])], [], []⟩
def sM9 (x1 x2 x3 x4 : Int) : NetM := ⟨["key"], [⟨"store", none, [("key", some ⟨3, x3, 0, 3, none⟩)], ["up"]⟩, ⟨"up", (some "store"), [("key", some ⟨2, x2, 2, 1, none⟩)], ["low"]⟩, ⟨"low", (some "up"), [("key", some ⟨1, x1, 2, 1, none⟩)], []⟩], [⟨"up", "store", [("key", 1, 2)], [], true, false, [.update "key" 3 x3], []⟩, ⟨"low", "up", [("key", 1, 2)], [], true, false, [.update "key" 2 x2], [.question 1 "key" 1 0]⟩], [(.tuple [(.str "join"), (.str "up"), (.str "store"), (.tuple [(.tuple [(.str "key"), (.int 2)])])]), (.tuple [(.str "deliver"), (.str "store"), (.str "up")]), (.tuple [(.str "join"), (.str "low"), (.str "up"), (.tuple [(.tuple [(.str "key"), (.int 2)])])]), (.tuple [(.str "deliver"), (.str "up"), (.str "low")]), (.tuple [(.str "write"), (.str "key"), (.int x1)]), (.tuple [(.str "write"), (.str "key"), (.int x2)]), (.tuple [(.str "write"), (.str "key"), (.int x3)]), (.tuple [(.str "deliver"), (.str "store"), (.str "up")]), (.tuple [(.str "deliver"), (.str "store"), (.str "up")]), (.tuple [(.str "deliver"), (.str "up"), (.str "low")]), (.tuple [(.str "deliver"), (.str "low"), (.str "up")]), (.tuple [(.str "deliver"), (.str "up"), (.str "store")]), (.tuple [(.str "read"), (.str "low"), (.str "key"), (.int 1), (.int 0)]), (.tuple [(.str "read"), (.str "up"), (.str "key"), (.int 1), (.int 0)])], [("key", [])], ["key", "key", "key"], [5, 6, 12], 2, [(1, ["low"])], [(2, 2, x2, "up")], [(2, (.tuple [(.str "key"), (.int 1), (.int 0), (.int 2), (.tuple [(.tuple [(.str "up"), (.int 1), (.int 2), (.int 1), (.int 2)]), (.tuple [(.str "store"), (.int 3)])])]))]⟩
def sM10 (x1 x2 x3 x4 : Int) : NetM := ⟨["key"], [⟨"store", none, [("key", some ⟨3, x3, 0, 3, none⟩)], ["up"]⟩, ⟨"up", (some "store"), [("key", some ⟨2, x2, 2, 1, none⟩)], ["low"]⟩, ⟨"low", (some "up"), [("key", some ⟨1, x1, 2, 1, none⟩)], []⟩], [⟨"up", "store", [("key", 1, 2)], [], true, false, [.update "key" 3 x3], []⟩, ⟨"low", "up", [("key", 1, 2)], [], true, false, [.update "key" 2 x2, .answer 1 2 x2 "up"], []⟩], [(.tuple [(.str "join"), (.str "up"), (.str "store"), (.tuple [(.tuple [(.str "key"), (.int 2)])])]), (.tuple [(.str "deliver"), (.str "store"), (.str "up")]), (.tuple [(.str "join"), (.str "low"), (.str "up"), (.tuple [(.tuple [(.str "key"), (.int 2)])])]), (.tuple [(.str "deliver"), (.str "up"), (.str "low")]), (.tuple [(.str "write"), (.str "key"), (.int x1)]), (.tuple [(.str "write"), (.str "key"), (.int x2)]), (.tuple [(.str "write"), (.str "key"), (.int x3)]), (.tuple [(.str "deliver"), (.str "store"), (.str "up")]), (.tuple [(.str "deliver"), (.str "store"), (.str "up")]), (.tuple [(.str "deliver"), (.str "up"), (.str "low")]), (.tuple [(.str "deliver"), (.str "low"), (.str "up")]), (.tuple [(.str "deliver"), (.str "up"), (.str "store")]), (.tuple [(.str "read"), (.str "low"), (.str "key"), (.int 1), (.int 0)]), (.tuple [(.str "read"), (.str "up"), (.str "key"), (.int 1), (.int 0)]), (.tuple [(.str "deliver"), (.str "low"), (.str "up")])], [("key", [])], ["key", "key", "key"], [5, 6, 12], 2, [(1, ["low"])], [(2, 2, x2, "up")], [(2, (.tuple [(.str "key"), (.int 1), (.int 0), (.int 2), (.tuple [(.tuple [(.str "up"), (.int 1), (.int 2), (.int 1), (.int 2)]), (.tuple [(.str "store"), (.int 3)])])])), (1, (.tuple [(.str "key"), (.int 1), (.int 0), (.int 2), (.tuple [(.tuple [(.str "up"), (.int 1), (.int 2), (.int 1), (.int 2)]), (.tuple [(.str "store"), (.int 3)])])]))]⟩
theorem sD3 (x1 x2 x3 x4 : Int) : delE (sM2 x1 x2 x3 x4) "store" "up" = some (sM3 x1 x2 x3 x4, .update "key" 1 x1) := by kernel_rfl
theorem sE3 (x1 x2 x3 x4 : Int) : SeqAt.shaped (.list [Msg.d (.update "key" 1 x1)]) = true := by kernel_rfl
theorem sF3 (x1 x2 x3 x4 : Int) : NetM.msgs (sM2 x1 x2 x3 x4) "store" "up" = .update "key" 1 x1 :: (NetM.msgs (sM2 x1 x2 x3 x4) "store" "up").tail := by kernel_rfl
theorem sD4 (x1 x2 x3 x4 : Int) : delE (sM3 x1 x2 x3 x4) "store" "up" = some (sM4 x1 x2 x3 x4, .update "key" 2 x2) := by kernel_rfl
theorem sE4 (x1 x2 x3 x4 : Int) : SeqAt.shaped (.list [Msg.d (.update "key" 2 x2)]) = true := by kernel_rfl
theorem sF4 (x1 x2 x3 x4 : Int) : NetM.msgs (sM3 x1 x2 x3 x4) "store" "up" = .update "key" 2 x2 :: (NetM.msgs (sM3 x1 x2 x3 x4) "store" "up").tail := by kernel_rfl
theorem sD5 (x1 x2 x3 x4 : Int) : delE (sM4 x1 x2 x3 x4) "up" "low" = some (sM5 x1 x2 x3 x4, .update "key" 1 x1) := by kernel_rfl
theorem sE5 (x1 x2 x3 x4 : Int) : SeqAt.shaped (.list [Msg.d (.update "key" 1 x1)]) = true := by kernel_rfl
theorem sF5 (x1 x2 x3 x4 : Int) : NetM.msgs (sM4 x1 x2 x3 x4) "up" "low" = .update "key" 1 x1 :: (NetM.msgs (sM4 x1 x2 x3 x4) "up" "low").tail := by kernel_rfl
theorem sD6 (x1 x2 x3 x4 : Int) : delE (sM5 x1 x2 x3 x4) "low" "up" = some (sM6 x1 x2 x3 x4, .confirm "key" 1) := by kernel_rfl
theorem sE6 (x1 x2 x3 x4 : Int) : SeqAt.shaped (.list [Msg.d (.confirm "key" 1)]) = true := by kernel_rfl
theorem sF6 (x1 x2 x3 x4 : Int) : NetM.msgs (sM5 x1 x2 x3 x4) "low" "up" = .confirm "key" 1 :: (NetM.msgs (sM5 x1 x2 x3 x4) "low" "up").tail := by kernel_rfl
theorem sD7 (x1 x2 x3 x4 : Int) : delE (sM6 x1 x2 x3 x4) "up" "store" = some (sM7 x1 x2 x3 x4, .confirm "key" 1) := by kernel_rfl
theorem sE7 (x1 x2 x3 x4 : Int) : SeqAt.shaped (.list [Msg.d (.confirm "key" 1)]) = true := by kernel_rfl
theorem sF7 (x1 x2 x3 x4 : Int) : NetM.msgs (sM6 x1 x2 x3 x4) "up" "store" = .confirm "key" 1 :: (NetM.msgs (sM6 x1 x2 x3 x4) "up" "store").tail := by kernel_rfl
theorem sD10 (x1 x2 x3 x4 : Int) : delE (sM9 x1 x2 x3 x4) "low" "up" = some (sM10 x1 x2 x3 x4, .question 1 "key" 1 0) := by kernel_rfl
theorem sE10 (x1 x2 x3 x4 : Int) : SeqAt.shaped (.list [Msg.d (.question 1 "key" 1 0)]) = true := by kernel_rfl
theorem sF10 (x1 x2 x3 x4 : Int) : NetM.msgs (sM9 x1 x2 x3 x4) "low" "up" = .question 1 "key" 1 0 :: (NetM.msgs (sM9 x1 x2 x3 x4) "low" "up").tail := by kernel_rfl
end K03
set_option Elab.async false
set_option linter.all false
set_option maxRecDepth 100000
set_option maxHeartbeats 4000000
namespace K03
open PySem L2 EX PyProof.Rows LamX
open NZ
theorem Keeps.drop {D : Addr} {S : List Addr} {H H' : Hp} (k : Keeps (D :: S) H H') (hD : H D = none) : Keeps S H H' := fun b o n e => k b o (fun z => (List.mem_cons.mp z).elim (fun w => by rw [w, hD] at e; cases e) n) e
theorem Keeps.consD {D : Addr} {S : List Addr} {H H' : Hp} (k : Keeps S H H') : Keeps (D :: S) H H' := k.more fun _ h => .tail _ h
theorem w_one {c : Cs} {H0 Hh : Hp} {n D : Addr} {g : Sg} {M M' : NetM} {m0 : NodeM} {c0 : CellM} {lk : List Int} {v : Int} {acc : List V} {y : V} {E : XK} {Pv : Hp → Prop} (kk : Keeps (D :: g.S) H0 Hh) (hN : NetA c Hh n g M) (hd : Hh D = some (.lst acc)) (nD : D ∉ g.S)
    (h1 : M.nodes[0]? = some m0) (h2 : m0.cells[0]? = some (("key" : Str), some c0)) (h3 : M.kept[0]? = some (("key" : Str), lk)) (h4 : lk.length < 20) (h5 : Rooms { M with done := M.done ++ [wDeed "key" v] }) (h6 : writeM M m0 0 "key" v c0 lk = M') (h7 : (if accB M m0.kids "key" (c0.told + 1) = true then V.int (c0.told + 1) else .non) = y)
    (hl : acc.length < 1000) (k : ∀ H', Keeps (D :: g.S) H0 H' → NetA c H' n g M' → H' D = some (.lst (acc ++ [y])) → Pv H') :
    spWrite c [.ref n, .str "key", .int v] Hh (fun o H' => ∃ acc, H' D = some (.lst acc) ∧ acc.length < sizeLine ∧ Pv (upd H' D (.lst (acc ++ [o])))) E := by
  refine ⟨n, "key", v, g, M, 0, m0, c0, lk, rfl, hN, h1, h2, h3, h4, h5, fun H' o k1 hN1 ho => ?_⟩
  have hd1 := k1 _ _ nD hd
  refine ⟨acc, hd1, by rw [sizeLine_eq]; omega, ?_⟩
  rw [h6] at hN1
  rw [h7] at ho
  subst ho
  refine k _ (((kk.trans (Keeps.consD k1))).put (.head _)) (hN1.keeps (T := [D]) (Keeps.one H') (fun p h => by rw [List.mem_singleton.mp h]; exact nD) (fun p h xs w => by rw [List.mem_singleton.mp h, hd1] at w; cases w)) upd_same
theorem at4 {xs : List V} {i : Nat} {x : V} (h : xs[i]? = some x) (hl : xs.length ≤ 4) : i = 0 ∨ i = 1 ∨ i = 2 ∨ i = 3 := by
  have := (List.getElem?_eq_some_iff.mp h).1
  omega
def fW (x1 x2 x3 x4 : Int) : Nat → NetM
  | 0 => chM4 1 3
  | 1 => fM0 x1 x2 x3 x4
  | 2 => fM1 x1 x2 x3 x4
  | 3 => fM2 x1 x2 x3 x4
  | _ => fM3 x1 x2 x3 x4
def fR : List V := [.int 1, .non, .non, .non]
theorem fw0 (x1 x2 x3 x4 : Int) : Rooms { (chM4 1 3) with done := (chM4 1 3).done ++ [wDeed "key" x1] } ∧ writeM (chM4 1 3) ⟨"store", none, [("key", some ⟨0, 0, 0, 0, none⟩)], ["up"]⟩ 0 "key" x1 ⟨0, 0, 0, 0, none⟩ [] = fM0 x1 x2 x3 x4 ∧ (if accB (chM4 1 3) (NodeM.kids ⟨"store", none, [("key", some ⟨0, 0, 0, 0, none⟩)], ["up"]⟩) "key" (CellM.told ⟨0, 0, 0, 0, none⟩ + 1) = true then V.int (CellM.told ⟨0, 0, 0, 0, none⟩ + 1) else .non) = .int 1 := by
  refine ⟨⟨fun r hr => ?_, of_decide_eq_true (by kernel_rfl), of_decide_eq_true (by kernel_rfl), of_decide_eq_true (by kernel_rfl)⟩, by kernel_rfl, by kernel_rfl⟩
  exact of_decide_eq_true (List.all_eq_true.mp (show ((chM4 1 3).rows.all fun r => decide (r.down.length < 1000)) = true by kernel_rfl) r hr)
theorem fw1 (x1 x2 x3 x4 : Int) : Rooms { (fM0 x1 x2 x3 x4) with done := (fM0 x1 x2 x3 x4).done ++ [wDeed "key" x2] } ∧ writeM (fM0 x1 x2 x3 x4) ⟨"store", none, [("key", some ⟨1, x1, 0, 1, none⟩)], ["up"]⟩ 0 "key" x2 ⟨1, x1, 0, 1, none⟩ [] = fM1 x1 x2 x3 x4 ∧ (if accB (fM0 x1 x2 x3 x4) (NodeM.kids ⟨"store", none, [("key", some ⟨1, x1, 0, 1, none⟩)], ["up"]⟩) "key" (CellM.told ⟨1, x1, 0, 1, none⟩ + 1) = true then V.int (CellM.told ⟨1, x1, 0, 1, none⟩ + 1) else .non) = .non := by
  refine ⟨⟨fun r hr => ?_, of_decide_eq_true (by kernel_rfl), of_decide_eq_true (by kernel_rfl), of_decide_eq_true (by kernel_rfl)⟩, by kernel_rfl, by kernel_rfl⟩
  exact of_decide_eq_true (List.all_eq_true.mp (show ((fM0 x1 x2 x3 x4).rows.all fun r => decide (r.down.length < 1000)) = true by kernel_rfl) r hr)
theorem fw2 (x1 x2 x3 x4 : Int) : Rooms { (fM1 x1 x2 x3 x4) with done := (fM1 x1 x2 x3 x4).done ++ [wDeed "key" x3] } ∧ writeM (fM1 x1 x2 x3 x4) ⟨"store", none, [("key", some ⟨1, x1, 0, 1, none⟩)], ["up"]⟩ 0 "key" x3 ⟨1, x1, 0, 1, none⟩ [x2] = fM2 x1 x2 x3 x4 ∧ (if accB (fM1 x1 x2 x3 x4) (NodeM.kids ⟨"store", none, [("key", some ⟨1, x1, 0, 1, none⟩)], ["up"]⟩) "key" (CellM.told ⟨1, x1, 0, 1, none⟩ + 1) = true then V.int (CellM.told ⟨1, x1, 0, 1, none⟩ + 1) else .non) = .non := by
  refine ⟨⟨fun r hr => ?_, of_decide_eq_true (by kernel_rfl), of_decide_eq_true (by kernel_rfl), of_decide_eq_true (by kernel_rfl)⟩, by kernel_rfl, by kernel_rfl⟩
  exact of_decide_eq_true (List.all_eq_true.mp (show ((fM1 x1 x2 x3 x4).rows.all fun r => decide (r.down.length < 1000)) = true by kernel_rfl) r hr)
theorem fw3 (x1 x2 x3 x4 : Int) : Rooms { (fM2 x1 x2 x3 x4) with done := (fM2 x1 x2 x3 x4).done ++ [wDeed "key" x4] } ∧ writeM (fM2 x1 x2 x3 x4) ⟨"store", none, [("key", some ⟨1, x1, 0, 1, none⟩)], ["up"]⟩ 0 "key" x4 ⟨1, x1, 0, 1, none⟩ [x2, x3] = fM3 x1 x2 x3 x4 ∧ (if accB (fM2 x1 x2 x3 x4) (NodeM.kids ⟨"store", none, [("key", some ⟨1, x1, 0, 1, none⟩)], ["up"]⟩) "key" (CellM.told ⟨1, x1, 0, 1, none⟩ + 1) = true then V.int (CellM.told ⟨1, x1, 0, 1, none⟩ + 1) else .non) = .non := by
  refine ⟨⟨fun r hr => ?_, of_decide_eq_true (by kernel_rfl), of_decide_eq_true (by kernel_rfl), of_decide_eq_true (by kernel_rfl)⟩, by kernel_rfl, by kernel_rfl⟩
  exact of_decide_eq_true (List.all_eq_true.mp (show ((fM2 x1 x2 x3 x4).rows.all fun r => decide (r.down.length < 1000)) = true by kernel_rfl) r hr)
def sW (x1 x2 x3 x4 : Int) : Nat → NetM
  | 0 => chM4 2 2
  | 1 => sM0 x1 x2 x3 x4
  | 2 => sM1 x1 x2 x3 x4
  | _ => sM2 x1 x2 x3 x4
def sR : List V := [.int 1, .int 2, .non]
theorem sw0 (x1 x2 x3 x4 : Int) : Rooms { (chM4 2 2) with done := (chM4 2 2).done ++ [wDeed "key" x1] } ∧ writeM (chM4 2 2) ⟨"store", none, [("key", some ⟨0, 0, 0, 0, none⟩)], ["up"]⟩ 0 "key" x1 ⟨0, 0, 0, 0, none⟩ [] = sM0 x1 x2 x3 x4 ∧ (if accB (chM4 2 2) (NodeM.kids ⟨"store", none, [("key", some ⟨0, 0, 0, 0, none⟩)], ["up"]⟩) "key" (CellM.told ⟨0, 0, 0, 0, none⟩ + 1) = true then V.int (CellM.told ⟨0, 0, 0, 0, none⟩ + 1) else .non) = .int 1 := by
  refine ⟨⟨fun r hr => ?_, of_decide_eq_true (by kernel_rfl), of_decide_eq_true (by kernel_rfl), of_decide_eq_true (by kernel_rfl)⟩, by kernel_rfl, by kernel_rfl⟩
  exact of_decide_eq_true (List.all_eq_true.mp (show ((chM4 2 2).rows.all fun r => decide (r.down.length < 1000)) = true by kernel_rfl) r hr)
theorem sw1 (x1 x2 x3 x4 : Int) : Rooms { (sM0 x1 x2 x3 x4) with done := (sM0 x1 x2 x3 x4).done ++ [wDeed "key" x2] } ∧ writeM (sM0 x1 x2 x3 x4) ⟨"store", none, [("key", some ⟨1, x1, 0, 1, none⟩)], ["up"]⟩ 0 "key" x2 ⟨1, x1, 0, 1, none⟩ [] = sM1 x1 x2 x3 x4 ∧ (if accB (sM0 x1 x2 x3 x4) (NodeM.kids ⟨"store", none, [("key", some ⟨1, x1, 0, 1, none⟩)], ["up"]⟩) "key" (CellM.told ⟨1, x1, 0, 1, none⟩ + 1) = true then V.int (CellM.told ⟨1, x1, 0, 1, none⟩ + 1) else .non) = .int 2 := by
  refine ⟨⟨fun r hr => ?_, of_decide_eq_true (by kernel_rfl), of_decide_eq_true (by kernel_rfl), of_decide_eq_true (by kernel_rfl)⟩, by kernel_rfl, by kernel_rfl⟩
  exact of_decide_eq_true (List.all_eq_true.mp (show ((sM0 x1 x2 x3 x4).rows.all fun r => decide (r.down.length < 1000)) = true by kernel_rfl) r hr)
theorem sw2 (x1 x2 x3 x4 : Int) : Rooms { (sM1 x1 x2 x3 x4) with done := (sM1 x1 x2 x3 x4).done ++ [wDeed "key" x3] } ∧ writeM (sM1 x1 x2 x3 x4) ⟨"store", none, [("key", some ⟨2, x2, 0, 2, none⟩)], ["up"]⟩ 0 "key" x3 ⟨2, x2, 0, 2, none⟩ [] = sM2 x1 x2 x3 x4 ∧ (if accB (sM1 x1 x2 x3 x4) (NodeM.kids ⟨"store", none, [("key", some ⟨2, x2, 0, 2, none⟩)], ["up"]⟩) "key" (CellM.told ⟨2, x2, 0, 2, none⟩ + 1) = true then V.int (CellM.told ⟨2, x2, 0, 2, none⟩ + 1) else .non) = .non := by
  refine ⟨⟨fun r hr => ?_, of_decide_eq_true (by kernel_rfl), of_decide_eq_true (by kernel_rfl), of_decide_eq_true (by kernel_rfl)⟩, by kernel_rfl, by kernel_rfl⟩
  exact of_decide_eq_true (List.all_eq_true.mp (show ((sM1 x1 x2 x3 x4).rows.all fun r => decide (r.down.length < 1000)) = true by kernel_rfl) r hr)
def spVals : Sp := fun vs H Q _ => ∃ (l : Addr) (x1 x2 x3 x4 : Int), vs = [.ref l] ∧ H l = some (.lst [.int x1, .int x2, .int x3, .int x4]) ∧ ∀ H', Same H H' → Q (.bl true) H'
abbrev sFi : Stmt := top 69
def sFiN : List Str := ["_law_values", "_law_net", "_law_one", "_law_two", "_law_three", "_law_four", "_law_steps", "_law_value"]
theorem scFi : FnScope ["_law_values", "_law_net", "_law_one", "_law_two", "_law_three", "_law_four", "_law_steps", "_law_value"] ["_law_values"] (defScope sFi) := ⟨rfl, rfl, rfl, by decide +kernel, rfl, by decide +kernel, by decide +kernel⟩
section
variable {P : Program} {w : World} {K : PySem.W.Frag} {mg : Str → Option Value} {base : Heap}
theorem ok_fi {c : Cs} {UN f : Addr} {fd : FuncData} (F : Fun K "_law_first_right" "_law_first_right" sFi f fd) (B : Bn mg) (TN : NetC K c.N) (DG : DunX P w K mg base 3 c.N "__getitem__" ["self", "at"] (spNGet K c UN)) (GTo : MtAt P w K mg base CX0 1 c.C "told" ["self", "key"] (spTold c.C)) (GBo : MtAt P w K mg base CX0 1 c.C "bound" ["self", "key"] (spBound c)) (GNu : MtAt P w K mg base CX0 1 c.N "number" ["self", "key"] (spNumber c)) (GAge : MtAt P w K mg base CX0 2 c.N "age" ["self", "name", "key"] (spAge c)) (GWa : MtAt P w K mg base CX0 1 c.N "waiting" ["self", "key"] (spWaiting c)) (GMs : MtAt P w K mg base CX0 1 c.N "messages" ["self", "sender", "receiver"] (spMsg c)) (GWr : MtAt P w K mg base CX0 3 c.N "write" ["self", "key", "value"] (spWrite c))
    (GCh : DefAt P w K mg base 7 "_law_chain" ["_law_first", "_law_second"] (spChain c)) (GSr : DefAt P w K mg base 7 "_law_steps_right" ["_law_net", "_law_steps"] (spSteps c)) : FnOk P w K mg base CX0 8 f fd ["_law_values"] spVals := by
  refine F.ok scFi (fun vs H Q E h => ?_) (fun cdv A outer s H vs Q E hr h => ?_)
  · obtain ⟨l, x1, x2, x3, x4, rfl, _⟩ := h
    rfl
  · obtain ⟨l, x1, x2, x3, x4, rfl, hl, k⟩ := h
    have hu := hu_of hr
    have hu64 : _ + 64 < cLine := hr.units
    refine ⟨_, (pss_cons (ps_set (i := 1) scFi.nd rfl (Or.inr rfl) (pe_callD GCh (hr.mono (by decide)) (pa_cons pe_int (pa_cons pe_int pa_nil))))
        (pss_cons (ps_asg (pv 0) (pg_lst rfl (pgs_cons (pg_name (i := 2) scFi.nd rfl (Or.inl rfl)) (pgs_cons (pg_name (i := 3) scFi.nd rfl (Or.inl rfl)) (pgs_cons (pg_name (i := 4) scFi.nd rfl (Or.inl rfl)) (pgs_cons (pg_name (i := 5) scFi.nd rfl (Or.inl rfl)) pgs_nil))))))
        (pss_cons (ps_if (PW.pt (pw_or (pt_cmpR (op_neD hu64) (pe_lc (own := [("_law_value", 7)]) (g := (gName 7)) (tt := tYes) (te := (tMeth c.N "write" (spWrite c) [] E0 (tVar 1) (tCons (tC (.str "key")) (tCons (tVar 7) tNil)))) rfl scFi.nd (pi_list (pv 0)) (blkOk_by (N := sFiN) (sc := defScope sFi) (by decide +kernel)) (fun _ _ _ _ _ => (pg_name (i := 7) scFi.nd rfl (Or.inl rfl))) (fun _ _ _ _ _ => pts_nil) (fun _ _ _ _ _ => (pe_mtD GWr (hr.mono (by decide)) (pv 1) (pa_cons pe_str (pa_cons (pv 7) pa_nil))))) (pe_lst (pa_cons pe_int (pa_cons pe_non (pa_cons pe_non (pa_cons pe_non pa_nil))))) (nomark _)) (pw_or1 (pt_cmpR (op_neD hu64) (pe_mtD GWa (hr.mono (by decide)) (pv 1) (pa_cons pe_str pa_nil)) (pe_slice sl_list (pv 0) (po_some pe_int) po_none) (nomark _))))) (pss_one (ps_ret pe_bl)) pss_nil)
        (pss_cons (ps_if (pt_not (pt_val (pe_callD GSr (hr.mono (by decide)) (pa_cons (pv 1) (pa_cons (pe_lst (pa_cons (pe_tup (pa_cons pe_str (pa_cons pe_str (pa_cons (pe_tup (pa_cons pe_str (pa_cons pe_str (pa_cons pe_int (pa_cons (pv 2) pa_nil))))) pa_nil)))) pa_nil)) pa_nil))))) (pss_one (ps_ret pe_bl)) pss_nil)
        (pss_cons (ps_if (PW.pt (pw_or (pt_cmpR op_ne (pe_mtD GTo (hr.mono (by decide)) (pe_getX DG (hr.mono (by decide)) (pv 1) pe_str) (pa_cons pe_str pa_nil)) pe_int (nomark _)) (pw_or1 (pt_cmpR (op_neD hu64) (pe_mtD GMs (hr.mono (by decide)) (pv 1) (pa_cons pe_str (pa_cons pe_str pa_nil))) (pe_lst (pa_cons (pe_tup (pa_cons pe_str (pa_cons pe_str (pa_cons pe_int (pa_cons (pv 2) pa_nil))))) pa_nil)) (nomark _))))) (pss_one (ps_ret pe_bl)) pss_nil)
        (pss_cons (ps_if (pt_not (pt_val (pe_callD GSr (hr.mono (by decide)) (pa_cons (pv 1) (pa_cons (pe_lst (pa_cons (pe_tup (pa_cons pe_str (pa_cons pe_str (pa_cons (pe_tup (pa_cons pe_str (pa_cons pe_str (pa_cons pe_int pa_nil)))) pa_nil)))) (pa_cons (pe_tup (pa_cons pe_str (pa_cons pe_str (pa_cons (pe_tup (pa_cons pe_str (pa_cons pe_str (pa_cons pe_int (pa_cons (pv 3) pa_nil))))) pa_nil)))) pa_nil))) pa_nil))))) (pss_one (ps_ret pe_bl)) pss_nil)
        (pss_cons (ps_if (pt_cmpR (op_neD hu64) (pe_lst (pa_cons (pe_mtD GNu (hr.mono (by decide)) (pv 1) (pa_cons pe_str pa_nil)) (pa_cons (pe_mtD GTo (hr.mono (by decide)) (pe_getX DG (hr.mono (by decide)) (pv 1) pe_str) (pa_cons pe_str pa_nil)) (pa_cons (pe_mtD GBo (hr.mono (by decide)) (pe_getX DG (hr.mono (by decide)) (pv 1) pe_str) (pa_cons pe_str pa_nil)) (pa_cons (pe_mtD GBo (hr.mono (by decide)) (pe_getX DG (hr.mono (by decide)) (pv 1) pe_str) (pa_cons pe_str pa_nil)) pa_nil))))) (pe_lst (pa_cons pe_int (pa_cons pe_int (pa_cons pe_int (pa_cons pe_int pa_nil))))) (nomark _)) (pss_one (ps_ret pe_bl)) pss_nil)
        (pss_cons (ps_set (i := 6) scFi.nd rfl (Or.inl rfl) (pe_lst (pa_cons (pe_tup (pa_cons pe_str (pa_cons pe_str (pa_cons (pe_tup (pa_cons pe_str (pa_cons pe_str (pa_cons pe_int pa_nil)))) pa_nil)))) (pa_cons (pe_tup (pa_cons pe_str (pa_cons pe_str (pa_cons (pe_tup (pa_cons pe_str (pa_cons pe_str (pa_cons pe_int (pa_cons (pv 4) pa_nil))))) pa_nil)))) pa_nil))))
        (pss_cons (ps_if (pt_not (pt_val (pe_callD GSr (hr.mono (by decide)) (pa_cons (pv 1) (pa_cons (pv 6) pa_nil))))) (pss_one (ps_ret pe_bl)) pss_nil)
        (pss_cons (ps_if (pt_cmpR (op_neD hu64) (pe_lst (pa_cons (pe_mtD GTo (hr.mono (by decide)) (pe_getX DG (hr.mono (by decide)) (pv 1) pe_str) (pa_cons pe_str pa_nil)) (pa_cons (pe_mtD GBo (hr.mono (by decide)) (pe_getX DG (hr.mono (by decide)) (pv 1) pe_str) (pa_cons pe_str pa_nil)) (pa_cons (pe_mtD GMs (hr.mono (by decide)) (pv 1) (pa_cons pe_str (pa_cons pe_str pa_nil))) pa_nil)))) (pe_lst (pa_cons pe_int (pa_cons pe_int (pa_cons (pe_lst pa_nil) pa_nil)))) (nomark _)) (pss_one (ps_ret pe_bl)) pss_nil)
        (pss_cons (ps_if (PW.pt (pw_or (pt_cmpR (op_neD hu64) (pe_mtD GWa (hr.mono (by decide)) (pv 1) (pa_cons pe_str pa_nil)) (pe_lst (pa_cons (pv 5) pa_nil)) (nomark _)) (pw_or1 (pt_cmpR (op_neD hu64) (pe_lst (pa_cons (pe_mtD GAge (hr.mono (by decide)) (pv 1) (pa_cons pe_str (pa_cons pe_str pa_nil))) (pa_cons (pe_mtD GAge (hr.mono (by decide)) (pv 1) (pa_cons pe_str (pa_cons pe_str pa_nil))) pa_nil))) (pe_lst (pa_cons pe_int (pa_cons pe_int pa_nil))) (nomark _))))) (pss_one (ps_ret pe_bl)) pss_nil)
        (pss_cons (ps_set (i := 6) scFi.nd rfl (Or.inl rfl) (pe_lst (pa_cons (pe_tup (pa_cons pe_str (pa_cons pe_str (pa_cons (pe_tup (pa_cons pe_str (pa_cons pe_str (pa_cons pe_int (pa_cons (pv 2) pa_nil))))) pa_nil)))) (pa_cons (pe_tup (pa_cons pe_str (pa_cons pe_str (pa_cons (pe_tup (pa_cons pe_str (pa_cons pe_str (pa_cons pe_int pa_nil)))) pa_nil)))) pa_nil))))
        (pss_cons (ps_if (pt_not (pt_val (pe_callD GSr (hr.mono (by decide)) (pa_cons (pv 1) (pa_cons (pe_op op_cat (pv 6) (pe_lst (pa_cons (pe_tup (pa_cons pe_str (pa_cons pe_str (pa_cons (pe_tup (pa_cons pe_str (pa_cons pe_str (pa_cons pe_int pa_nil)))) pa_nil)))) pa_nil))) pa_nil))))) (pss_one (ps_ret pe_bl)) pss_nil)
        (pss_one (ps_ret (pe_and (pe_cmpR (op_eqD hu64) (pe_mtD GWa (hr.mono (by decide)) (pv 1) (pa_cons pe_str pa_nil)) (pe_lst pa_nil) (nomark _)) (pe_and (pe_cmpR op_eq (pe_mtD GNu (hr.mono (by decide)) (pv 1) (pa_cons pe_str pa_nil)) pe_int (nomark _)) (pe_one (pe_cmpR op_eq (pe_mtD GAge (hr.mono (by decide)) (pv 1) (pa_cons pe_str (pa_cons pe_str pa_nil))) pe_int (nomark _)))))))))))))))))))), ?_⟩
    refine ⟨1, 3, rfl, by decide, by decide, by decide, fun H1 n g S1 hN1 fg => ?_⟩
    have k0 : Keeps g.S H H1 := Keeps.of S1
    have nl : l ∉ g.S := fun z => by
      rw [fg l z] at hl
      cases hl
    have hl1 := S1 _ _ hl
    refine ⟨_, rfl, l, _, rfl, SqL.of hl1, rfl, _, _, rfl, _, _, rfl, _, _, rfl, _, _, rfl, rfl, ?_⟩
    refine ⟨_, rfl, l, rfl, ⟨_, SqL.of hl1⟩, fun D hD => ?_⟩
    have nD : D ∉ g.S := nfree hN1 hD
    have nDl : l ≠ D := fun z => by
      rw [← z, hl1] at hD
      cases hD
    refine lc_list (K := K) (a := l) (xs := [.int x1, .int x2, .int x3, .int x4]) (fun i Hh => Keeps (D :: g.S) H1 Hh ∧ NetA c Hh n g (fW x1 x2 x3 x4 i) ∧ Hh D = some (.lst (fR.take i))) ⟨(Keeps.refl _ _).put (.head _), hN1.mono (Same.upd hD), upd_same⟩ (fun i Hh _ w => SqL.of (w.1 _ _ (fun z => (List.mem_cons.mp z).elim nDl nl) hl1)) ?_ ?_
    · rintro i x Hh hx ⟨kk, hNh, hd⟩
      obtain ⟨Zh, qh⟩ := id hNh
      rcases Nat.lt_or_ge 0 i with hi | hi
      rotate_left
      · obtain rfl : i = 0 := by omega
        cases hx
        obtain ⟨r1, r2, r3⟩ := fw0 x1 x2 x3 x4
        refine ⟨rfl, ?_⟩
        refine ⟨_, rfl, n, _, _, rfl, qh.at_n, rfl, _, rfl, ?_⟩
        exact w_one (E := E0) (Pv := fun Hx => Keeps (D :: g.S) H1 Hx ∧ NetA c Hx n g (fW x1 x2 x3 x4 (0 + 1)) ∧ Hx D = some (.lst (fR.take (0 + 1)))) kk hNh hd nD rfl rfl rfl (of_decide_eq_true (by kernel_rfl)) r1 r2 r3 (of_decide_eq_true (by kernel_rfl)) fun H' a b d => ⟨a, b, d⟩
      rcases Nat.lt_or_ge 1 i with hi | hi
      rotate_left
      · obtain rfl : i = 1 := by omega
        cases hx
        obtain ⟨r1, r2, r3⟩ := fw1 x1 x2 x3 x4
        refine ⟨rfl, ?_⟩
        refine ⟨_, rfl, n, _, _, rfl, qh.at_n, rfl, _, rfl, ?_⟩
        exact w_one (E := E0) (Pv := fun Hx => Keeps (D :: g.S) H1 Hx ∧ NetA c Hx n g (fW x1 x2 x3 x4 (1 + 1)) ∧ Hx D = some (.lst (fR.take (1 + 1)))) kk hNh hd nD rfl rfl rfl (of_decide_eq_true (by kernel_rfl)) r1 r2 r3 (of_decide_eq_true (by kernel_rfl)) fun H' a b d => ⟨a, b, d⟩
      rcases Nat.lt_or_ge 2 i with hi | hi
      rotate_left
      · obtain rfl : i = 2 := by omega
        cases hx
        obtain ⟨r1, r2, r3⟩ := fw2 x1 x2 x3 x4
        refine ⟨rfl, ?_⟩
        refine ⟨_, rfl, n, _, _, rfl, qh.at_n, rfl, _, rfl, ?_⟩
        exact w_one (E := E0) (Pv := fun Hx => Keeps (D :: g.S) H1 Hx ∧ NetA c Hx n g (fW x1 x2 x3 x4 (2 + 1)) ∧ Hx D = some (.lst (fR.take (2 + 1)))) kk hNh hd nD rfl rfl rfl (of_decide_eq_true (by kernel_rfl)) r1 r2 r3 (of_decide_eq_true (by kernel_rfl)) fun H' a b d => ⟨a, b, d⟩
      have hi : i ≤ 3 := by
        have := (List.getElem?_eq_some_iff.mp hx).1
        have : i < 4 := this
        omega
      · obtain rfl : i = 3 := by omega
        cases hx
        obtain ⟨r1, r2, r3⟩ := fw3 x1 x2 x3 x4
        refine ⟨rfl, ?_⟩
        refine ⟨_, rfl, n, _, _, rfl, qh.at_n, rfl, _, rfl, ?_⟩
        exact w_one (E := E0) (Pv := fun Hx => Keeps (D :: g.S) H1 Hx ∧ NetA c Hx n g (fW x1 x2 x3 x4 (3 + 1)) ∧ Hx D = some (.lst (fR.take (3 + 1)))) kk hNh hd nD rfl rfl rfl (of_decide_eq_true (by kernel_rfl)) r1 r2 r3 (of_decide_eq_true (by kernel_rfl)) fun H' a b d => ⟨a, b, d⟩
    rintro H2 ⟨kk0, hN0, hd0⟩
    have kw1 : Keeps g.S H1 H2 := Keeps.drop kk0 hD
    have kk1001 := k0.trans kw1
    have hN1001 : NetA c H2 n g (fM3 x1 x2 x3 x4) := hN0
    have lD : H2 D = some (.lst fR) := hd0
    refine ⟨by show 4 ≤ sizeLine; decide, fun p2 hp2 => ?_⟩
    have S3 : Same H2 (upd H2 p2 (.lst [.int 1, .non, .non, .non])) := Same.upd hp2
    have lp2 : upd H2 p2 (HO.lst [.int 1, .non, .non, .non]) p2 = some (.lst [.int 1, .non, .non, .non]) := upd_same
    generalize upd H2 p2 (HO.lst [.int 1, .non, .non, .non]) = H3 at S3 lp2 ⊢
    refine ne_self (d := .list [.int 1, .none, .none, .none]) (.lst (SqL.of (S3 _ _ lD)) (.cons (.int _) (.cons .non (.cons .non (.cons .non .nil))))) (.lst (SqL.of lp2) (.cons (.int _) (.cons .non (.cons .non (.cons .non .nil))))) (by kernel_rfl) ⟨_, rfl, iteF ?_⟩
    refine ⟨_, rfl, rd_waiting (hN1001.mono S3) (of_decide_eq_true (by kernel_rfl)) fun p3 H4 S4 fp3 lp3 => ?_⟩
    rw [show NetM.keptOf (fM3 x1 x2 x3 x4) "key" = [x2, x3, x4] from by kernel_rfl] at lp3
    have hlv : H4 l = some (.lst [.int x1, .int x2, .int x3, .int x4]) := (kk1001.then (Same.trans S3 S4)) _ _ nl hl
    refine ⟨_, rfl, 1, rfl, l, _, rfl, SqL.of hlv, fun p4 hp4 => ?_⟩
    have S5 : Same H4 (upd H4 p4 (.lst (cutV [.int x1, .int x2, .int x3, .int x4] (some 1) none))) := Same.upd hp4
    have lp4 : upd H4 p4 (HO.lst (cutV [.int x1, .int x2, .int x3, .int x4] (some 1) none)) p4 = some (.lst (cutV [.int x1, .int x2, .int x3, .int x4] (some 1) none)) := upd_same
    generalize upd H4 p4 (HO.lst (cutV [.int x1, .int x2, .int x3, .int x4] (some 1) none)) = H5 at S5 lp4 ⊢
    refine ne_self (d := .list [.int x2, .int x3, .int x4]) (.lst (SqL.of (S5 _ _ lp3)) (.cons (.int _) (.cons (.int _) (.cons (.int _) .nil)))) (.lst (SqL.of lp4) (.cons (.int _) (.cons (.int _) (.cons (.int _) .nil)))) (by kernel_rfl) ⟨_, rfl, iteF ?_⟩
    refine ⟨_, rfl, ?_⟩
    refine ⟨_, rfl, by show 4 ≤ sizeLine; decide, fun p5 hp5 => ?_⟩
    have S6 : Same H5 (upd H5 p5 (.tup [.str "update", .str "key", .int 1, .int x1])) := Same.upd hp5
    have lp5 : upd H5 p5 (HO.tup [.str "update", .str "key", .int 1, .int x1]) p5 = some (.tup [.str "update", .str "key", .int 1, .int x1]) := upd_same
    generalize upd H5 p5 (HO.tup [.str "update", .str "key", .int 1, .int x1]) = H6 at S6 lp5 ⊢
    refine ⟨by show 3 ≤ sizeLine; decide, fun p6 hp6 => ?_⟩
    have S7 : Same H6 (upd H6 p6 (.tup [.str "store", .str "up", .ref p5])) := Same.upd hp6
    have lp6 : upd H6 p6 (HO.tup [.str "store", .str "up", .ref p5]) p6 = some (.tup [.str "store", .str "up", .ref p5]) := upd_same
    generalize upd H6 p6 (HO.tup [.str "store", .str "up", .ref p5]) = H7 at S7 lp6 ⊢
    refine ⟨by show 1 ≤ sizeLine; decide, fun p7 hp7 => ?_⟩
    have S8 : Same H7 (upd H7 p7 (.lst [.ref p6])) := Same.upd hp7
    have lp7 : upd H7 p7 (HO.lst [.ref p6]) p7 = some (.lst [.ref p6]) := upd_same
    generalize upd H7 p7 (HO.lst [.ref p6]) = H8 at S8 lp7 ⊢
    have nf_p7 : p7 ∉ g.S := nfree (hN1001.mono (Same.trans S3 (Same.trans S4 (Same.trans S5 (Same.trans S6 S7))))) hp7
    have hN1008 := (hN1001.mono (Same.trans S3 (Same.trans S4 (Same.trans S5 (Same.trans S6 (Same.trans S7 S8))))))
    have kk1008 := kk1001.then (Same.trans S3 (Same.trans S4 (Same.trans S5 (Same.trans S6 (Same.trans S7 S8)))))
    refine ⟨n, p7, g, _, (fM4 x1 x2 x3 x4), [("store", "up", .update "key" 1 x1)], [.ref p6], rfl, hN1008, (.cons (fD4 x1 x2 x3 x4) (fE4 x1 x2 x3 x4) (fF4 x1 x2 x3 x4) .nil), lp7, nf_p7, (.cons (.tup (S8 _ _ lp6) (.cons (.str _) (.cons (.str _) (.cons (.tup ((Same.trans S7 S8) _ _ lp5) (.cons (.str _) (.cons (.str _) (.cons (.int _) (.cons (.int _) .nil))))) .nil)))) .nil), of_decide_eq_true (by kernel_rfl), fun H9 k9 hN9 => ?_⟩
    have kk9 := kk1008.trans k9
    refine ⟨_, rfl, iteF ?_⟩
    refine ⟨_, rfl, rd_get (m := ⟨"up", (some "store"), [("key", some ⟨1, x1, 1, 1, none⟩)], ["low"]⟩) hN9 (List.mem_of_getElem? (i := 1) rfl) fun na9 hat9 => ?_⟩
    refine rd_told (v := 1) (cm := ⟨1, x1, 1, 1, none⟩) hat9 (of_decide_eq_true (by kernel_rfl)) (by kernel_rfl) (by kernel_rfl) ?_
    refine ⟨rfl, _, rfl, ifF (by kernel_rfl) ?_⟩
    refine ⟨_, rfl, rd_messages hN9 fun p11 vp11 H10 S10 lp11 tp11 => ?_⟩
    rw [show NetM.msgs (fM4 x1 x2 x3 x4) "up" "low" = [.update "key" 1 x1] from by kernel_rfl] at tp11
    refine ⟨_, rfl, by show 4 ≤ sizeLine; decide, fun p12 hp12 => ?_⟩
    have S11 : Same H10 (upd H10 p12 (.tup [.str "update", .str "key", .int 1, .int x1])) := Same.upd hp12
    have lp12 : upd H10 p12 (HO.tup [.str "update", .str "key", .int 1, .int x1]) p12 = some (.tup [.str "update", .str "key", .int 1, .int x1]) := upd_same
    generalize upd H10 p12 (HO.tup [.str "update", .str "key", .int 1, .int x1]) = H11 at S11 lp12 ⊢
    refine ⟨by show 1 ≤ sizeLine; decide, fun p13 hp13 => ?_⟩
    have S12 : Same H11 (upd H11 p13 (.lst [.ref p12])) := Same.upd hp13
    have lp13 : upd H11 p13 (HO.lst [.ref p12]) p13 = some (.lst [.ref p12]) := upd_same
    generalize upd H11 p13 (HO.lst [.ref p12]) = H12 at S12 lp13 ⊢
    refine ne_self (d := .list [Msg.d (.update "key" 1 x1)]) (.lst (SqL.of ((Same.trans S11 S12) _ _ lp11)) (tp11.mono (KT.of (Same.trans S11 S12))).dp) (.lst (SqL.of lp13) (.cons (.tup (SqT.of (S12 _ _ lp12)) (.cons (.str _) (.cons (.str _) (.cons (.int _) (.cons (.int _) .nil))))) .nil)) (by kernel_rfl) ⟨_, rfl, iteF ?_⟩
    refine ⟨_, rfl, ?_⟩
    refine ⟨by show 3 ≤ sizeLine; decide, fun p14 hp14 => ?_⟩
    have S13 : Same H12 (upd H12 p14 (.tup [.str "confirm", .str "key", .int 1])) := Same.upd hp14
    have lp14 : upd H12 p14 (HO.tup [.str "confirm", .str "key", .int 1]) p14 = some (.tup [.str "confirm", .str "key", .int 1]) := upd_same
    generalize upd H12 p14 (HO.tup [.str "confirm", .str "key", .int 1]) = H13 at S13 lp14 ⊢
    refine ⟨by show 3 ≤ sizeLine; decide, fun p15 hp15 => ?_⟩
    have S14 : Same H13 (upd H13 p15 (.tup [.str "up", .str "store", .ref p14])) := Same.upd hp15
    have lp15 : upd H13 p15 (HO.tup [.str "up", .str "store", .ref p14]) p15 = some (.tup [.str "up", .str "store", .ref p14]) := upd_same
    generalize upd H13 p15 (HO.tup [.str "up", .str "store", .ref p14]) = H14 at S14 lp15 ⊢
    refine ⟨_, rfl, by show 4 ≤ sizeLine; decide, fun p16 hp16 => ?_⟩
    have S15 : Same H14 (upd H14 p16 (.tup [.str "update", .str "key", .int 2, .int x2])) := Same.upd hp16
    have lp16 : upd H14 p16 (HO.tup [.str "update", .str "key", .int 2, .int x2]) p16 = some (.tup [.str "update", .str "key", .int 2, .int x2]) := upd_same
    generalize upd H14 p16 (HO.tup [.str "update", .str "key", .int 2, .int x2]) = H15 at S15 lp16 ⊢
    refine ⟨by show 3 ≤ sizeLine; decide, fun p17 hp17 => ?_⟩
    have S16 : Same H15 (upd H15 p17 (.tup [.str "store", .str "up", .ref p16])) := Same.upd hp17
    have lp17 : upd H15 p17 (HO.tup [.str "store", .str "up", .ref p16]) p17 = some (.tup [.str "store", .str "up", .ref p16]) := upd_same
    generalize upd H15 p17 (HO.tup [.str "store", .str "up", .ref p16]) = H16 at S16 lp17 ⊢
    refine ⟨by show 2 ≤ sizeLine; decide, fun p18 hp18 => ?_⟩
    have S17 : Same H16 (upd H16 p18 (.lst [.ref p15, .ref p17])) := Same.upd hp18
    have lp18 : upd H16 p18 (HO.lst [.ref p15, .ref p17]) p18 = some (.lst [.ref p15, .ref p17]) := upd_same
    generalize upd H16 p18 (HO.lst [.ref p15, .ref p17]) = H17 at S17 lp18 ⊢
    have nf_p18 : p18 ∉ g.S := nfree (hN9.mono (Same.trans S10 (Same.trans S11 (Same.trans S12 (Same.trans S13 (Same.trans S14 (Same.trans S15 S16))))))) hp18
    have hN1019 := (hN9.mono (Same.trans S10 (Same.trans S11 (Same.trans S12 (Same.trans S13 (Same.trans S14 (Same.trans S15 (Same.trans S16 S17))))))))
    have kk1019 := kk9.then (Same.trans S10 (Same.trans S11 (Same.trans S12 (Same.trans S13 (Same.trans S14 (Same.trans S15 (Same.trans S16 S17)))))))
    refine ⟨n, p18, g, _, (fM6 x1 x2 x3 x4), [("up", "store", .confirm "key" 1), ("store", "up", .update "key" 2 x2)], [.ref p15, .ref p17], rfl, hN1019, (.cons (fD5 x1 x2 x3 x4) (fE5 x1 x2 x3 x4) (fF5 x1 x2 x3 x4) (.cons (fD6 x1 x2 x3 x4) (fE6 x1 x2 x3 x4) (fF6 x1 x2 x3 x4) .nil)), lp18, nf_p18, (.cons (.tup ((Same.trans S15 (Same.trans S16 S17)) _ _ lp15) (.cons (.str _) (.cons (.str _) (.cons (.tup ((Same.trans S14 (Same.trans S15 (Same.trans S16 S17))) _ _ lp14) (.cons (.str _) (.cons (.str _) (.cons (.int _) .nil)))) .nil)))) (.cons (.tup (S17 _ _ lp17) (.cons (.str _) (.cons (.str _) (.cons (.tup ((Same.trans S16 S17) _ _ lp16) (.cons (.str _) (.cons (.str _) (.cons (.int _) (.cons (.int _) .nil))))) .nil)))) .nil)), of_decide_eq_true (by kernel_rfl), fun H18 k18 hN18 => ?_⟩
    have kk18 := kk1019.trans k18
    refine ⟨_, rfl, iteF ?_⟩
    refine ⟨_, rfl, rd_number (v := 2) (m0 := ⟨"store", none, [("key", some ⟨2, x2, 0, 2, none⟩)], ["up"]⟩) (c0 := ⟨2, x2, 0, 2, none⟩) hN18 (of_decide_eq_true (by kernel_rfl)) rfl (by kernel_rfl) (by kernel_rfl) ?_⟩
    refine ⟨_, rfl, rd_get (m := ⟨"up", (some "store"), [("key", some ⟨2, x2, 1, 2, none⟩)], ["low"]⟩) hN18 (List.mem_of_getElem? (i := 1) rfl) fun na20 hat20 => ?_⟩
    refine rd_told (v := 2) (cm := ⟨2, x2, 1, 2, none⟩) hat20 (of_decide_eq_true (by kernel_rfl)) (by kernel_rfl) (by kernel_rfl) ?_
    refine ⟨_, rfl, rd_get (m := ⟨"up", (some "store"), [("key", some ⟨2, x2, 1, 2, none⟩)], ["low"]⟩) hN18 (List.mem_of_getElem? (i := 1) rfl) fun na21 hat21 => ?_⟩
    refine rd_bound (v := 1) (cm := ⟨2, x2, 1, 2, none⟩) hat21 (of_decide_eq_true (by kernel_rfl)) (by kernel_rfl) (by kernel_rfl) ?_
    refine ⟨_, rfl, rd_get (m := ⟨"low", (some "up"), [("key", some ⟨0, 0, 3, 0, none⟩)], []⟩) hN18 (List.mem_of_getElem? (i := 2) rfl) fun na22 hat22 => ?_⟩
    refine rd_bound (v := 3) (cm := ⟨0, 0, 3, 0, none⟩) hat22 (of_decide_eq_true (by kernel_rfl)) (by kernel_rfl) (by kernel_rfl) ?_
    refine ⟨by show 4 ≤ sizeLine; decide, fun p24 hp24 => ?_⟩
    have S19 : Same H18 (upd H18 p24 (.lst [.int 2, .int 2, .int 1, .int 3])) := Same.upd hp24
    have lp24 : upd H18 p24 (HO.lst [.int 2, .int 2, .int 1, .int 3]) p24 = some (.lst [.int 2, .int 2, .int 1, .int 3]) := upd_same
    generalize upd H18 p24 (HO.lst [.int 2, .int 2, .int 1, .int 3]) = H19 at S19 lp24 ⊢
    refine ⟨by show 4 ≤ sizeLine; decide, fun p25 hp25 => ?_⟩
    have S20 : Same H19 (upd H19 p25 (.lst [.int 2, .int 2, .int 1, .int 3])) := Same.upd hp25
    have lp25 : upd H19 p25 (HO.lst [.int 2, .int 2, .int 1, .int 3]) p25 = some (.lst [.int 2, .int 2, .int 1, .int 3]) := upd_same
    generalize upd H19 p25 (HO.lst [.int 2, .int 2, .int 1, .int 3]) = H20 at S20 lp25 ⊢
    refine ne_self (d := .list [.int 2, .int 2, .int 1, .int 3]) (.lst (SqL.of (S20 _ _ lp24)) (.cons (.int _) (.cons (.int _) (.cons (.int _) (.cons (.int _) .nil))))) (.lst (SqL.of lp25) (.cons (.int _) (.cons (.int _) (.cons (.int _) (.cons (.int _) .nil))))) (by kernel_rfl) ⟨_, rfl, iteF ?_⟩
    refine ⟨by show 3 ≤ sizeLine; decide, fun p26 hp26 => ?_⟩
    have S21 : Same H20 (upd H20 p26 (.tup [.str "confirm", .str "key", .int 2])) := Same.upd hp26
    have lp26 : upd H20 p26 (HO.tup [.str "confirm", .str "key", .int 2]) p26 = some (.tup [.str "confirm", .str "key", .int 2]) := upd_same
    generalize upd H20 p26 (HO.tup [.str "confirm", .str "key", .int 2]) = H21 at S21 lp26 ⊢
    refine ⟨by show 3 ≤ sizeLine; decide, fun p27 hp27 => ?_⟩
    have S22 : Same H21 (upd H21 p27 (.tup [.str "up", .str "store", .ref p26])) := Same.upd hp27
    have lp27 : upd H21 p27 (HO.tup [.str "up", .str "store", .ref p26]) p27 = some (.tup [.str "up", .str "store", .ref p26]) := upd_same
    generalize upd H21 p27 (HO.tup [.str "up", .str "store", .ref p26]) = H22 at S22 lp27 ⊢
    refine ⟨_, rfl, by show 4 ≤ sizeLine; decide, fun p28 hp28 => ?_⟩
    have S23 : Same H22 (upd H22 p28 (.tup [.str "update", .str "key", .int 3, .int x3])) := Same.upd hp28
    have lp28 : upd H22 p28 (HO.tup [.str "update", .str "key", .int 3, .int x3]) p28 = some (.tup [.str "update", .str "key", .int 3, .int x3]) := upd_same
    generalize upd H22 p28 (HO.tup [.str "update", .str "key", .int 3, .int x3]) = H23 at S23 lp28 ⊢
    refine ⟨by show 3 ≤ sizeLine; decide, fun p29 hp29 => ?_⟩
    have S24 : Same H23 (upd H23 p29 (.tup [.str "store", .str "up", .ref p28])) := Same.upd hp29
    have lp29 : upd H23 p29 (HO.tup [.str "store", .str "up", .ref p28]) p29 = some (.tup [.str "store", .str "up", .ref p28]) := upd_same
    generalize upd H23 p29 (HO.tup [.str "store", .str "up", .ref p28]) = H24 at S24 lp29 ⊢
    refine ⟨by show 2 ≤ sizeLine; decide, fun p30 hp30 => ?_⟩
    have S25 : Same H24 (upd H24 p30 (.lst [.ref p27, .ref p29])) := Same.upd hp30
    have lp30 : upd H24 p30 (HO.lst [.ref p27, .ref p29]) p30 = some (.lst [.ref p27, .ref p29]) := upd_same
    generalize upd H24 p30 (HO.lst [.ref p27, .ref p29]) = H25 at S25 lp30 ⊢
    have nf_p30 : p30 ∉ g.S := nfree (hN18.mono (Same.trans S19 (Same.trans S20 (Same.trans S21 (Same.trans S22 (Same.trans S23 S24)))))) hp30
    refine ⟨_, rfl, _, rfl, ?_⟩
    have hN1031 := (hN18.mono (Same.trans S19 (Same.trans S20 (Same.trans S21 (Same.trans S22 (Same.trans S23 (Same.trans S24 S25)))))))
    have kk1031 := kk18.then (Same.trans S19 (Same.trans S20 (Same.trans S21 (Same.trans S22 (Same.trans S23 (Same.trans S24 S25))))))
    refine ⟨n, p30, g, _, (fM8 x1 x2 x3 x4), [("up", "store", .confirm "key" 2), ("store", "up", .update "key" 3 x3)], [.ref p27, .ref p29], rfl, hN1031, (.cons (fD7 x1 x2 x3 x4) (fE7 x1 x2 x3 x4) (fF7 x1 x2 x3 x4) (.cons (fD8 x1 x2 x3 x4) (fE8 x1 x2 x3 x4) (fF8 x1 x2 x3 x4) .nil)), lp30, nf_p30, (.cons (.tup ((Same.trans S23 (Same.trans S24 S25)) _ _ lp27) (.cons (.str _) (.cons (.str _) (.cons (.tup ((Same.trans S22 (Same.trans S23 (Same.trans S24 S25))) _ _ lp26) (.cons (.str _) (.cons (.str _) (.cons (.int _) .nil)))) .nil)))) (.cons (.tup (S25 _ _ lp29) (.cons (.str _) (.cons (.str _) (.cons (.tup ((Same.trans S24 S25) _ _ lp28) (.cons (.str _) (.cons (.str _) (.cons (.int _) (.cons (.int _) .nil))))) .nil)))) .nil)), of_decide_eq_true (by kernel_rfl), fun H26 k26 hN26 => ?_⟩
    have kk26 := kk1031.trans k26
    refine ⟨_, rfl, iteF ?_⟩
    refine ⟨_, rfl, rd_get (m := ⟨"up", (some "store"), [("key", some ⟨3, x3, 1, 2, none⟩)], ["low"]⟩) hN26 (List.mem_of_getElem? (i := 1) rfl) fun na32 hat32 => ?_⟩
    refine rd_told (v := 2) (cm := ⟨3, x3, 1, 2, none⟩) hat32 (of_decide_eq_true (by kernel_rfl)) (by kernel_rfl) (by kernel_rfl) ?_
    refine ⟨_, rfl, rd_get (m := ⟨"up", (some "store"), [("key", some ⟨3, x3, 1, 2, none⟩)], ["low"]⟩) hN26 (List.mem_of_getElem? (i := 1) rfl) fun na33 hat33 => ?_⟩
    refine rd_bound (v := 0) (cm := ⟨3, x3, 1, 2, none⟩) hat33 (of_decide_eq_true (by kernel_rfl)) (by kernel_rfl) (by kernel_rfl) ?_
    refine ⟨_, rfl, rd_messages hN26 fun p35 vp35 H27 S27 lp35 tp35 => ?_⟩
    rw [show NetM.msgs (fM8 x1 x2 x3 x4) "up" "store" = [] from by kernel_rfl] at tp35
    refine ⟨by show 3 ≤ sizeLine; decide, fun p36 hp36 => ?_⟩
    have S28 : Same H27 (upd H27 p36 (.lst [.int 2, .int 0, .ref p35])) := Same.upd hp36
    have lp36 : upd H27 p36 (HO.lst [.int 2, .int 0, .ref p35]) p36 = some (.lst [.int 2, .int 0, .ref p35]) := upd_same
    generalize upd H27 p36 (HO.lst [.int 2, .int 0, .ref p35]) = H28 at S28 lp36 ⊢
    refine ⟨by show 0 ≤ sizeLine; decide, fun p37 hp37 => ?_⟩
    have S29 : Same H28 (upd H28 p37 (.lst [])) := Same.upd hp37
    have lp37 : upd H28 p37 (HO.lst []) p37 = some (.lst []) := upd_same
    generalize upd H28 p37 (HO.lst []) = H29 at S29 lp37 ⊢
    refine ⟨by show 3 ≤ sizeLine; decide, fun p38 hp38 => ?_⟩
    have S30 : Same H29 (upd H29 p38 (.lst [.int 2, .int 0, .ref p37])) := Same.upd hp38
    have lp38 : upd H29 p38 (HO.lst [.int 2, .int 0, .ref p37]) p38 = some (.lst [.int 2, .int 0, .ref p37]) := upd_same
    generalize upd H29 p38 (HO.lst [.int 2, .int 0, .ref p37]) = H30 at S30 lp38 ⊢
    refine ne_self (d := .list [.int 2, .int 0, .list []]) (.lst (SqL.of ((Same.trans S29 S30) _ _ lp36)) (.cons (.int _) (.cons (.int _) (.cons (.lst (SqL.of ((Same.trans S28 (Same.trans S29 S30)) _ _ lp35)) (tp35.mono (KT.of (Same.trans S28 (Same.trans S29 S30)))).dp) .nil)))) (.lst (SqL.of lp38) (.cons (.int _) (.cons (.int _) (.cons (.lst (SqL.of (S30 _ _ lp37)) .nil) .nil)))) (by kernel_rfl) ⟨_, rfl, iteF ?_⟩
    refine ⟨_, rfl, rd_waiting (hN26.mono (Same.trans S27 (Same.trans S28 (Same.trans S29 S30)))) (of_decide_eq_true (by kernel_rfl)) fun p39 H31 S31 fp39 lp39 => ?_⟩
    rw [show NetM.keptOf (fM8 x1 x2 x3 x4) "key" = [x4] from by kernel_rfl] at lp39
    refine ⟨_, rfl, by show 1 ≤ sizeLine; decide, fun p40 hp40 => ?_⟩
    have S32 : Same H31 (upd H31 p40 (.lst [.int x4])) := Same.upd hp40
    have lp40 : upd H31 p40 (HO.lst [.int x4]) p40 = some (.lst [.int x4]) := upd_same
    generalize upd H31 p40 (HO.lst [.int x4]) = H32 at S32 lp40 ⊢
    refine ne_self (d := .list [.int x4]) (.lst (SqL.of (S32 _ _ lp39)) (.cons (.int _) .nil)) (.lst (SqL.of lp40) (.cons (.int _) .nil)) (by kernel_rfl) ⟨_, rfl, iteF ?_⟩
    refine ⟨_, rfl, rd_age (v := 0) (m := ⟨"up", (some "store"), [("key", some ⟨3, x3, 1, 2, none⟩)], ["low"]⟩) (cm := ⟨3, x3, 1, 2, none⟩) (m0 := ⟨"store", none, [("key", some ⟨3, x3, 0, 3, none⟩)], ["up"]⟩) (c0 := ⟨3, x3, 0, 3, none⟩) (hN26.mono (Same.trans S27 (Same.trans S28 (Same.trans S29 (Same.trans S30 (Same.trans S31 S32)))))) (List.mem_of_getElem? (i := 1) rfl) (of_decide_eq_true (by kernel_rfl)) (by kernel_rfl) rfl (by kernel_rfl) (by kernel_rfl) ?_⟩
    refine ⟨_, rfl, rd_age (v := 3) (m := ⟨"low", (some "up"), [("key", some ⟨0, 0, 3, 0, none⟩)], []⟩) (cm := ⟨0, 0, 3, 0, none⟩) (m0 := ⟨"store", none, [("key", some ⟨3, x3, 0, 3, none⟩)], ["up"]⟩) (c0 := ⟨3, x3, 0, 3, none⟩) (hN26.mono (Same.trans S27 (Same.trans S28 (Same.trans S29 (Same.trans S30 (Same.trans S31 S32)))))) (List.mem_of_getElem? (i := 2) rfl) (of_decide_eq_true (by kernel_rfl)) (by kernel_rfl) rfl (by kernel_rfl) (by kernel_rfl) ?_⟩
    refine ⟨by show 2 ≤ sizeLine; decide, fun p41 hp41 => ?_⟩
    have S33 : Same H32 (upd H32 p41 (.lst [.int 0, .int 3])) := Same.upd hp41
    have lp41 : upd H32 p41 (HO.lst [.int 0, .int 3]) p41 = some (.lst [.int 0, .int 3]) := upd_same
    generalize upd H32 p41 (HO.lst [.int 0, .int 3]) = H33 at S33 lp41 ⊢
    refine ⟨by show 2 ≤ sizeLine; decide, fun p42 hp42 => ?_⟩
    have S34 : Same H33 (upd H33 p42 (.lst [.int 0, .int 3])) := Same.upd hp42
    have lp42 : upd H33 p42 (HO.lst [.int 0, .int 3]) p42 = some (.lst [.int 0, .int 3]) := upd_same
    generalize upd H33 p42 (HO.lst [.int 0, .int 3]) = H34 at S34 lp42 ⊢
    refine ne_self (d := .list [.int 0, .int 3]) (.lst (SqL.of (S34 _ _ lp41)) (.cons (.int _) (.cons (.int _) .nil))) (.lst (SqL.of lp42) (.cons (.int _) (.cons (.int _) .nil))) (by kernel_rfl) ⟨_, rfl, iteF ?_⟩
    refine ⟨_, rfl, by show 4 ≤ sizeLine; decide, fun p43 hp43 => ?_⟩
    have S35 : Same H34 (upd H34 p43 (.tup [.str "update", .str "key", .int 1, .int x1])) := Same.upd hp43
    have lp43 : upd H34 p43 (HO.tup [.str "update", .str "key", .int 1, .int x1]) p43 = some (.tup [.str "update", .str "key", .int 1, .int x1]) := upd_same
    generalize upd H34 p43 (HO.tup [.str "update", .str "key", .int 1, .int x1]) = H35 at S35 lp43 ⊢
    refine ⟨by show 3 ≤ sizeLine; decide, fun p44 hp44 => ?_⟩
    have S36 : Same H35 (upd H35 p44 (.tup [.str "up", .str "low", .ref p43])) := Same.upd hp44
    have lp44 : upd H35 p44 (HO.tup [.str "up", .str "low", .ref p43]) p44 = some (.tup [.str "up", .str "low", .ref p43]) := upd_same
    generalize upd H35 p44 (HO.tup [.str "up", .str "low", .ref p43]) = H36 at S36 lp44 ⊢
    refine ⟨by show 3 ≤ sizeLine; decide, fun p45 hp45 => ?_⟩
    have S37 : Same H36 (upd H36 p45 (.tup [.str "confirm", .str "key", .int 1])) := Same.upd hp45
    have lp45 : upd H36 p45 (HO.tup [.str "confirm", .str "key", .int 1]) p45 = some (.tup [.str "confirm", .str "key", .int 1]) := upd_same
    generalize upd H36 p45 (HO.tup [.str "confirm", .str "key", .int 1]) = H37 at S37 lp45 ⊢
    refine ⟨by show 3 ≤ sizeLine; decide, fun p46 hp46 => ?_⟩
    have S38 : Same H37 (upd H37 p46 (.tup [.str "low", .str "up", .ref p45])) := Same.upd hp46
    have lp46 : upd H37 p46 (HO.tup [.str "low", .str "up", .ref p45]) p46 = some (.tup [.str "low", .str "up", .ref p45]) := upd_same
    generalize upd H37 p46 (HO.tup [.str "low", .str "up", .ref p45]) = H38 at S38 lp46 ⊢
    refine ⟨by show 2 ≤ sizeLine; decide, fun p47 hp47 => ?_⟩
    have S39 : Same H38 (upd H38 p47 (.lst [.ref p44, .ref p46])) := Same.upd hp47
    have lp47 : upd H38 p47 (HO.lst [.ref p44, .ref p46]) p47 = some (.lst [.ref p44, .ref p46]) := upd_same
    generalize upd H38 p47 (HO.lst [.ref p44, .ref p46]) = H39 at S39 lp47 ⊢
    refine ⟨_, rfl, _, rfl, ?_⟩
    refine ⟨by show 3 ≤ sizeLine; decide, fun p48 hp48 => ?_⟩
    have S40 : Same H39 (upd H39 p48 (.tup [.str "confirm", .str "key", .int 3])) := Same.upd hp48
    have lp48 : upd H39 p48 (HO.tup [.str "confirm", .str "key", .int 3]) p48 = some (.tup [.str "confirm", .str "key", .int 3]) := upd_same
    generalize upd H39 p48 (HO.tup [.str "confirm", .str "key", .int 3]) = H40 at S40 lp48 ⊢
    refine ⟨by show 3 ≤ sizeLine; decide, fun p49 hp49 => ?_⟩
    have S41 : Same H40 (upd H40 p49 (.tup [.str "up", .str "store", .ref p48])) := Same.upd hp49
    have lp49 : upd H40 p49 (HO.tup [.str "up", .str "store", .ref p48]) p49 = some (.tup [.str "up", .str "store", .ref p48]) := upd_same
    generalize upd H40 p49 (HO.tup [.str "up", .str "store", .ref p48]) = H41 at S41 lp49 ⊢
    refine ⟨by show 1 ≤ sizeLine; decide, fun p50 hp50 => ?_⟩
    have S42 : Same H41 (upd H41 p50 (.lst [.ref p49])) := Same.upd hp50
    have lp50 : upd H41 p50 (HO.lst [.ref p49]) p50 = some (.lst [.ref p49]) := upd_same
    generalize upd H41 p50 (HO.lst [.ref p49]) = H42 at S42 lp50 ⊢
    refine ⟨p47, p50, _, _, rfl, rfl, ((Same.trans S40 (Same.trans S41 S42)) _ _ lp47), lp50, by show 3 ≤ sizeLine; decide, fun p51 hp51 => ?_⟩
    have S43 : Same H42 (upd H42 p51 (.lst ([.ref p44, .ref p46] ++ [.ref p49]))) := Same.upd hp51
    have lp51 : upd H42 p51 (HO.lst ([.ref p44, .ref p46] ++ [.ref p49])) p51 = some (.lst ([.ref p44, .ref p46] ++ [.ref p49])) := upd_same
    generalize upd H42 p51 (HO.lst ([.ref p44, .ref p46] ++ [.ref p49])) = H43 at S43 lp51 ⊢
    have nf_p51 : p51 ∉ g.S := nfree (hN26.mono (Same.trans S27 (Same.trans S28 (Same.trans S29 (Same.trans S30 (Same.trans S31 (Same.trans S32 (Same.trans S33 (Same.trans S34 (Same.trans S35 (Same.trans S36 (Same.trans S37 (Same.trans S38 (Same.trans S39 (Same.trans S40 (Same.trans S41 S42)))))))))))))))) hp51
    have hN1052 := (hN26.mono (Same.trans S27 (Same.trans S28 (Same.trans S29 (Same.trans S30 (Same.trans S31 (Same.trans S32 (Same.trans S33 (Same.trans S34 (Same.trans S35 (Same.trans S36 (Same.trans S37 (Same.trans S38 (Same.trans S39 (Same.trans S40 (Same.trans S41 (Same.trans S42 S43)))))))))))))))))
    have kk1052 := kk26.then (Same.trans S27 (Same.trans S28 (Same.trans S29 (Same.trans S30 (Same.trans S31 (Same.trans S32 (Same.trans S33 (Same.trans S34 (Same.trans S35 (Same.trans S36 (Same.trans S37 (Same.trans S38 (Same.trans S39 (Same.trans S40 (Same.trans S41 (Same.trans S42 S43))))))))))))))))
    refine ⟨n, p51, g, _, (fM11 x1 x2 x3 x4), [("up", "low", .update "key" 1 x1), ("low", "up", .confirm "key" 1), ("up", "store", .confirm "key" 3)], [.ref p44, .ref p46, .ref p49], rfl, hN1052, (.cons (fD9 x1 x2 x3 x4) (fE9 x1 x2 x3 x4) (fF9 x1 x2 x3 x4) (.cons (fD10 x1 x2 x3 x4) (fE10 x1 x2 x3 x4) (fF10 x1 x2 x3 x4) (.cons (fD11 x1 x2 x3 x4) (fE11 x1 x2 x3 x4) (fF11 x1 x2 x3 x4) .nil))), lp51, nf_p51, (.cons (.tup ((Same.trans S37 (Same.trans S38 (Same.trans S39 (Same.trans S40 (Same.trans S41 (Same.trans S42 S43)))))) _ _ lp44) (.cons (.str _) (.cons (.str _) (.cons (.tup ((Same.trans S36 (Same.trans S37 (Same.trans S38 (Same.trans S39 (Same.trans S40 (Same.trans S41 (Same.trans S42 S43))))))) _ _ lp43) (.cons (.str _) (.cons (.str _) (.cons (.int _) (.cons (.int _) .nil))))) .nil)))) (.cons (.tup ((Same.trans S39 (Same.trans S40 (Same.trans S41 (Same.trans S42 S43)))) _ _ lp46) (.cons (.str _) (.cons (.str _) (.cons (.tup ((Same.trans S38 (Same.trans S39 (Same.trans S40 (Same.trans S41 (Same.trans S42 S43))))) _ _ lp45) (.cons (.str _) (.cons (.str _) (.cons (.int _) .nil)))) .nil)))) (.cons (.tup ((Same.trans S42 S43) _ _ lp49) (.cons (.str _) (.cons (.str _) (.cons (.tup ((Same.trans S41 (Same.trans S42 S43)) _ _ lp48) (.cons (.str _) (.cons (.str _) (.cons (.int _) .nil)))) .nil)))) .nil))), of_decide_eq_true (by kernel_rfl), fun H44 k44 hN44 => ?_⟩
    have kk44 := kk1052.trans k44
    refine ⟨_, rfl, iteF ?_⟩
    refine ⟨_, rfl, rd_waiting hN44 (of_decide_eq_true (by kernel_rfl)) fun p54 H45 S45 fp54 lp54 => ?_⟩
    rw [show NetM.keptOf (fM11 x1 x2 x3 x4) "key" = [] from by kernel_rfl] at lp54
    refine ⟨by show 0 ≤ sizeLine; decide, fun p55 hp55 => ?_⟩
    have S46 : Same H45 (upd H45 p55 (.lst [])) := Same.upd hp55
    have lp55 : upd H45 p55 (HO.lst []) p55 = some (.lst []) := upd_same
    generalize upd H45 p55 (HO.lst []) = H46 at S46 lp55 ⊢
    refine eq_self (d := .list []) (.lst (SqL.of (S46 _ _ lp54)) .nil) (.lst (SqL.of lp55) .nil) (by kernel_rfl) ⟨_, rfl, iteT ?_⟩
    refine ⟨_, rfl, rd_number (v := 4) (m0 := ⟨"store", none, [("key", some ⟨4, x4, 0, 4, none⟩)], ["up"]⟩) (c0 := ⟨4, x4, 0, 4, none⟩) (hN44.mono (Same.trans S45 S46)) (of_decide_eq_true (by kernel_rfl)) rfl (by kernel_rfl) (by kernel_rfl) ?_⟩
    refine ⟨rfl, _, rfl, ifT (by kernel_rfl) ?_⟩
    refine ⟨_, rfl, rd_age (v := 3) (m := ⟨"low", (some "up"), [("key", some ⟨1, x1, 3, 1, none⟩)], []⟩) (cm := ⟨1, x1, 3, 1, none⟩) (m0 := ⟨"store", none, [("key", some ⟨4, x4, 0, 4, none⟩)], ["up"]⟩) (c0 := ⟨4, x4, 0, 4, none⟩) (hN44.mono (Same.trans S45 S46)) (List.mem_of_getElem? (i := 2) rfl) (of_decide_eq_true (by kernel_rfl)) (by kernel_rfl) rfl (by kernel_rfl) (by kernel_rfl) ?_⟩
    refine ⟨rfl, ?_⟩
    have hN1056 := (hN44.mono (Same.trans S45 S46))
    have kk1056 := kk44.then (Same.trans S45 S46)
    exact k _ (kk1056.same fg)
end
end K03
set_option Elab.async false
set_option linter.all false
set_option maxRecDepth 100000
set_option maxHeartbeats 4000000
namespace K03
open PySem L2 EX PyProof.Rows LamX
open NZ
section
variable {K : PySem.W.Frag} {c : Cs} {H : Hp} {n : Addr} {g : Sg} {M M2 : NetM} {m m0 : NodeM} {c0 : CellM} {Q : VK} {key : Str}
theorem rd_read {need : Int} {ds : List PyData} {v : Int} {s : Str} (hN : NetA c H n g M) (es : m.label = s) (hmem : m ∈ M.nodes) (hk : key ∈ M.words) (hm : M.nodes[0]? = some m0) (hc : m0.cell key = some c0) (h0 : 0 ≤ need) (h9 : need ≤ 999) (hf : 0 ≤ c0.told) (hp : qpreE (NetM.note M (rDeed s key need 0)) m key need 0 = some ds) (hro : qroomB M = true) (hdl : M.done.length < 1000)
    (e2 : (NetM.note M (rDeed s key need 0)).askM m key need 0 ds = M2) (ev : M.qs + 1 = v) (k : ∀ H', Keeps g.S H H' → NetA c H' n g M2 → Q (.int v) H') : tMeth c.N "read" (spRead c) [.int 0] E0 (fun _ H R => R (.ref n) H) (tCons (tC (.str s)) (tCons (tC (.str key)) (tCons (tC (.int need)) tNil))) [] H Q := by
  obtain ⟨Z, q⟩ := id hN
  subst es
  subst e2
  subst ev
  exact ⟨n, _, _, rfl, q.at_n, rfl, n, key, need, 0, g, M, m, m0, c0, ds, rfl, hN, hmem, hk, hm, hc, h0, h9, by decide, hf, qpre_of hp, qroom_of hro, hdl, k⟩
theorem rd_answer {qn : Int} {a : Option (Int × Int × Str)} (hN : NetA c H n g M) (h1 : 1 ≤ qn) (h2 : qn ≤ M.qs) (ea : getI M.answ qn = a) (k : ∀ v, AnsAt H v a → Q v H) : ∃ b dx fs, (V.ref n : V) = .ref b ∧ H b = some (.ins c.N dx fs) ∧ fs.lookup ("answer" : Str) = none ∧ spAnswer c [.ref b, .int qn] H Q E0 := by
  obtain ⟨Z, q⟩ := id hN
  subst ea
  exact ⟨n, _, _, rfl, q.at_n, rfl, n, qn, g, M, rfl, hN, h1, h2, k⟩
end
abbrev sSe : Stmt := top 70
def sSeN : List Str := ["_law_values", "_law_net", "_law_one", "_law_two", "_law_three", "_law_steps", "_law_question", "_law_value"]
theorem scSe : FnScope ["_law_values", "_law_net", "_law_one", "_law_two", "_law_three", "_law_steps", "_law_question", "_law_value"] ["_law_values"] (defScope sSe) := ⟨rfl, rfl, rfl, by decide +kernel, rfl, by decide +kernel, by decide +kernel⟩
section
variable {P : Program} {w : World} {K : PySem.W.Frag} {mg : Str → Option Value} {base : Heap}
theorem ok_se {c : Cs} {UN f : Addr} {fd : FuncData} (F : Fun K "_law_second_right" "_law_second_right" sSe f fd) (B : Bn mg) (TN : NetC K c.N) (DG : DunX P w K mg base 3 c.N "__getitem__" ["self", "at"] (spNGet K c UN)) (GTo : MtAt P w K mg base CX0 1 c.C "told" ["self", "key"] (spTold c.C)) (GBo : MtAt P w K mg base CX0 1 c.C "bound" ["self", "key"] (spBound c)) (GNu : MtAt P w K mg base CX0 1 c.N "number" ["self", "key"] (spNumber c)) (GAge : MtAt P w K mg base CX0 2 c.N "age" ["self", "name", "key"] (spAge c)) (GWa : MtAt P w K mg base CX0 1 c.N "waiting" ["self", "key"] (spWaiting c)) (GMs : MtAt P w K mg base CX0 1 c.N "messages" ["self", "sender", "receiver"] (spMsg c)) (GWr : MtAt P w K mg base CX0 3 c.N "write" ["self", "key", "value"] (spWrite c))
    (GCh : DefAt P w K mg base 7 "_law_chain" ["_law_first", "_law_second"] (spChain c)) (GSr : DefAt P w K mg base 7 "_law_steps_right" ["_law_net", "_law_steps"] (spSteps c))
    (GRe : MtDf P w K mg base 4 c.N "read" ["self", "name", "key", "need", "floor"] (spRead c) [.int 0]) (GAn : MtAt P w K mg base CX0 2 c.N "answer" ["self", "question"] (spAnswer c)) : FnOk P w K mg base CX0 8 f fd ["_law_values"] spVals := by
  refine F.ok scSe (fun vs H Q E h => ?_) (fun cdv A outer s H vs Q E hr h => ?_)
  · obtain ⟨l, x1, x2, x3, x4, rfl, _⟩ := h
    rfl
  · obtain ⟨l, x1, x2, x3, x4, rfl, hl, k⟩ := h
    have hu := hu_of hr
    have hu64 : _ + 64 < cLine := hr.units
    refine ⟨_, (pss_cons (ps_set (i := 1) scSe.nd rfl (Or.inr rfl) (pe_callD GCh (hr.mono (by decide)) (pa_cons pe_int (pa_cons pe_int pa_nil))))
        (pss_cons (ps_asg (pe_slice sl_list (pv 0) po_none (po_some pe_int)) (pg_lst rfl (pgs_cons (pg_name (i := 2) scSe.nd rfl (Or.inl rfl)) (pgs_cons (pg_name (i := 3) scSe.nd rfl (Or.inl rfl)) (pgs_cons (pg_name (i := 4) scSe.nd rfl (Or.inl rfl)) pgs_nil)))))
        (pss_cons (ps_if (pt_cmpR (op_neD hu64) (pe_lc (own := [("_law_value", 7)]) (g := (gName 7)) (tt := tYes) (te := (tMeth c.N "write" (spWrite c) [] E0 (tVar 1) (tCons (tC (.str "key")) (tCons (tVar 7) tNil)))) rfl scSe.nd (pi_list (pe_slice sl_list (pv 0) po_none (po_some pe_int))) (blkOk_by (N := sSeN) (sc := defScope sSe) (by decide +kernel)) (fun _ _ _ _ _ => (pg_name (i := 7) scSe.nd rfl (Or.inl rfl))) (fun _ _ _ _ _ => pts_nil) (fun _ _ _ _ _ => (pe_mtD GWr (hr.mono (by decide)) (pv 1) (pa_cons pe_str (pa_cons (pv 7) pa_nil))))) (pe_lst (pa_cons pe_int (pa_cons pe_int (pa_cons pe_non pa_nil)))) (nomark _)) (pss_one (ps_ret pe_bl)) pss_nil)
        (pss_cons (ps_if (PW.pt (pw_or (pt_not (pt_val (pe_callD GSr (hr.mono (by decide)) (pa_cons (pv 1) (pa_cons (pe_lst (pa_cons (pe_tup (pa_cons pe_str (pa_cons pe_str (pa_cons (pe_tup (pa_cons pe_str (pa_cons pe_str (pa_cons pe_int (pa_cons (pv 2) pa_nil))))) pa_nil)))) pa_nil)) pa_nil))))) (pw_or1 (pt_cmpR op_ne (pe_mtD GBo (hr.mono (by decide)) (pe_getX DG (hr.mono (by decide)) (pv 1) pe_str) (pa_cons pe_str pa_nil)) pe_int (nomark _))))) (pss_one (ps_ret pe_bl)) pss_nil)
        (pss_cons (ps_if (PW.pt (pw_or (pt_not (pt_val (pe_callD GSr (hr.mono (by decide)) (pa_cons (pv 1) (pa_cons (pe_lst (pa_cons (pe_tup (pa_cons pe_str (pa_cons pe_str (pa_cons (pe_tup (pa_cons pe_str (pa_cons pe_str (pa_cons pe_int (pa_cons (pv 3) pa_nil))))) pa_nil)))) pa_nil)) pa_nil))))) (pw_or1 (pt_cmpR op_ne (pe_mtD GBo (hr.mono (by decide)) (pe_getX DG (hr.mono (by decide)) (pv 1) pe_str) (pa_cons pe_str pa_nil)) pe_int (nomark _))))) (pss_one (ps_ret pe_bl)) pss_nil)
        (pss_cons (ps_if (PW.pt (pw_or (pt_cmpR (op_neD hu64) (pe_mtD GMs (hr.mono (by decide)) (pv 1) (pa_cons pe_str (pa_cons pe_str pa_nil))) (pe_lst pa_nil) (nomark _)) (pw_or1 (pt_cmpR op_ne (pe_mtD GBo (hr.mono (by decide)) (pe_getX DG (hr.mono (by decide)) (pv 1) pe_str) (pa_cons pe_str pa_nil)) pe_int (nomark _))))) (pss_one (ps_ret pe_bl)) pss_nil)
        (pss_cons (ps_set (i := 5) scSe.nd rfl (Or.inl rfl) (pe_lst (pa_cons (pe_tup (pa_cons pe_str (pa_cons pe_str (pa_cons (pe_tup (pa_cons pe_str (pa_cons pe_str (pa_cons pe_int (pa_cons (pv 2) pa_nil))))) pa_nil)))) (pa_cons (pe_tup (pa_cons pe_str (pa_cons pe_str (pa_cons (pe_tup (pa_cons pe_str (pa_cons pe_str (pa_cons pe_int pa_nil)))) pa_nil)))) pa_nil))))
        (pss_cons (ps_if (PW.pt (pw_or (pt_not (pt_val (pe_callD GSr (hr.mono (by decide)) (pa_cons (pv 1) (pa_cons (pe_op op_cat (pv 5) (pe_lst (pa_cons (pe_tup (pa_cons pe_str (pa_cons pe_str (pa_cons (pe_tup (pa_cons pe_str (pa_cons pe_str (pa_cons pe_int pa_nil)))) pa_nil)))) pa_nil))) pa_nil))))) (pw_or1 (pt_cmpR op_ne (pe_mtD GNu (hr.mono (by decide)) (pv 1) (pa_cons pe_str pa_nil)) pe_int (nomark _))))) (pss_one (ps_ret pe_bl)) pss_nil)
        (pss_cons (ps_set (i := 6) scSe.nd rfl (Or.inl rfl) (pe_mtDf GRe (hr.mono (by decide)) (pv 1) (pa_cons pe_str (pa_cons pe_str (pa_cons pe_int pa_nil)))))
        (pss_cons (ps_if (PW.pt (pw_or (pt_cmp (pc_notN (pe_mtD GAn (hr.mono (by decide)) (pv 1) (pa_cons (pv 6) pa_nil)))) (pw_or1 (pt_cmpR (op_neD hu64) (pe_mtD GAn (hr.mono (by decide)) (pv 1) (pa_cons (pe_mtDf GRe (hr.mono (by decide)) (pv 1) (pa_cons pe_str (pa_cons pe_str (pa_cons pe_int pa_nil)))) pa_nil)) (pe_tup (pa_cons pe_int (pa_cons (pv 3) (pa_cons pe_str pa_nil)))) (nomark _))))) (pss_one (ps_ret pe_bl)) pss_nil)
        (pss_cons (ps_set (i := 5) scSe.nd rfl (Or.inl rfl) (pe_lst (pa_cons (pe_tup (pa_cons pe_str (pa_cons pe_str (pa_cons (pe_tup (pa_cons pe_str (pa_cons pe_str (pa_cons pe_int (pa_cons (pv 3) pa_nil))))) pa_nil)))) (pa_cons (pe_tup (pa_cons pe_str (pa_cons pe_str (pa_cons (pe_tup (pa_cons pe_str (pa_cons (pv 6) (pa_cons pe_str (pa_cons pe_int (pa_cons pe_int pa_nil)))))) pa_nil)))) pa_nil))))
        (pss_one (ps_ret (pe_and (pe_cmpR op_eq (pe_callB call_len_seq (by rfl) B.len PySem.boot_len (pa_cons (pe_mtD GMs (hr.mono (by decide)) (pv 1) (pa_cons pe_str (pa_cons pe_str pa_nil))) pa_nil)) pe_int (nomark _)) (pe_one (pe_callD GSr (hr.mono (by decide)) (pa_cons (pv 1) (pa_cons (pe_slice sl_list (pv 5) (po_some pe_int) po_none) pa_nil)))))))))))))))))), ?_⟩
    refine ⟨2, 2, rfl, by decide, by decide, by decide, fun H1 n g S1 hN1 fg => ?_⟩
    have k0 : Keeps g.S H H1 := Keeps.of S1
    have nl : l ∉ g.S := fun z => by
      rw [fg l z] at hl
      cases hl
    have hl1 := S1 _ _ hl
    refine ⟨_, rfl, 3, rfl, l, _, rfl, SqL.of hl1, fun p1 hp1 => ?_⟩
    have S2 : Same H1 (upd H1 p1 (.lst (cutV [.int x1, .int x2, .int x3, .int x4] none (some 3)))) := Same.upd hp1
    have lp1 : upd H1 p1 (HO.lst (cutV [.int x1, .int x2, .int x3, .int x4] none (some 3))) p1 = some (.lst (cutV [.int x1, .int x2, .int x3, .int x4] none (some 3))) := upd_same
    generalize upd H1 p1 (HO.lst (cutV [.int x1, .int x2, .int x3, .int x4] none (some 3))) = H2 at S2 lp1 ⊢
    have la : H2 p1 = some (.lst [.int x1, .int x2, .int x3]) := lp1
    refine ⟨p1, _, rfl, SqL.of la, rfl, _, _, rfl, _, _, rfl, _, _, rfl, rfl, ?_⟩
    have hl2 := S2 _ _ hl1
    refine ⟨_, rfl, 3, rfl, l, _, rfl, SqL.of hl2, fun p2 hp2 => ?_⟩
    have S3 : Same H2 (upd H2 p2 (.lst (cutV [.int x1, .int x2, .int x3, .int x4] none (some 3)))) := Same.upd hp2
    have lp2 : upd H2 p2 (HO.lst (cutV [.int x1, .int x2, .int x3, .int x4] none (some 3))) p2 = some (.lst (cutV [.int x1, .int x2, .int x3, .int x4] none (some 3))) := upd_same
    generalize upd H2 p2 (HO.lst (cutV [.int x1, .int x2, .int x3, .int x4] none (some 3))) = H3 at S3 lp2 ⊢
    have lb : H3 p2 = some (.lst [.int x1, .int x2, .int x3]) := lp2
    have nb : p2 ∉ g.S := nfree (hN1.mono S2) hp2
    refine ⟨p2, rfl, ⟨_, SqL.of lb⟩, fun D hD => ?_⟩
    have hN1003 := (hN1.mono (Same.trans S2 S3))
    have kk1003 := k0.then (Same.trans S2 S3)
    have nD : D ∉ g.S := nfree hN1003 hD
    have nDl : p2 ≠ D := fun z => by
      rw [← z, lb] at hD
      cases hD
    refine lc_list (K := K) (a := p2) (xs := [.int x1, .int x2, .int x3]) (fun i Hh => Keeps (D :: g.S) H3 Hh ∧ NetA c Hh n g (sW x1 x2 x3 x4 i) ∧ Hh D = some (.lst (sR.take i))) ⟨(Keeps.refl _ _).put (.head _), hN1003.mono (Same.upd hD), upd_same⟩ (fun i Hh _ w => SqL.of (w.1 _ _ (fun z => (List.mem_cons.mp z).elim nDl nb) lb)) ?_ ?_
    · rintro i x Hh hx ⟨kk, hNh, hd⟩
      obtain ⟨Zh, qh⟩ := id hNh
      rcases Nat.lt_or_ge 0 i with hi | hi
      rotate_left
      · obtain rfl : i = 0 := by omega
        cases hx
        obtain ⟨r1, r2, r3⟩ := sw0 x1 x2 x3 x4
        refine ⟨rfl, ?_⟩
        refine ⟨_, rfl, n, _, _, rfl, qh.at_n, rfl, _, rfl, ?_⟩
        exact w_one (E := E0) (Pv := fun Hx => Keeps (D :: g.S) H3 Hx ∧ NetA c Hx n g (sW x1 x2 x3 x4 (0 + 1)) ∧ Hx D = some (.lst (sR.take (0 + 1)))) kk hNh hd nD rfl rfl rfl (of_decide_eq_true (by kernel_rfl)) r1 r2 r3 (of_decide_eq_true (by kernel_rfl)) fun H' a b d => ⟨a, b, d⟩
      rcases Nat.lt_or_ge 1 i with hi | hi
      rotate_left
      · obtain rfl : i = 1 := by omega
        cases hx
        obtain ⟨r1, r2, r3⟩ := sw1 x1 x2 x3 x4
        refine ⟨rfl, ?_⟩
        refine ⟨_, rfl, n, _, _, rfl, qh.at_n, rfl, _, rfl, ?_⟩
        exact w_one (E := E0) (Pv := fun Hx => Keeps (D :: g.S) H3 Hx ∧ NetA c Hx n g (sW x1 x2 x3 x4 (1 + 1)) ∧ Hx D = some (.lst (sR.take (1 + 1)))) kk hNh hd nD rfl rfl rfl (of_decide_eq_true (by kernel_rfl)) r1 r2 r3 (of_decide_eq_true (by kernel_rfl)) fun H' a b d => ⟨a, b, d⟩
      have hi : i ≤ 2 := by
        have := (List.getElem?_eq_some_iff.mp hx).1
        have : i < 3 := this
        omega
      · obtain rfl : i = 2 := by omega
        cases hx
        obtain ⟨r1, r2, r3⟩ := sw2 x1 x2 x3 x4
        refine ⟨rfl, ?_⟩
        refine ⟨_, rfl, n, _, _, rfl, qh.at_n, rfl, _, rfl, ?_⟩
        exact w_one (E := E0) (Pv := fun Hx => Keeps (D :: g.S) H3 Hx ∧ NetA c Hx n g (sW x1 x2 x3 x4 (2 + 1)) ∧ Hx D = some (.lst (sR.take (2 + 1)))) kk hNh hd nD rfl rfl rfl (of_decide_eq_true (by kernel_rfl)) r1 r2 r3 (of_decide_eq_true (by kernel_rfl)) fun H' a b d => ⟨a, b, d⟩
    rintro H4 ⟨kk0, hN0, hd0⟩
    have kw4 : Keeps g.S H3 H4 := Keeps.drop kk0 hD
    have kk1004 := kk1003.trans kw4
    have hN1004 : NetA c H4 n g (sM2 x1 x2 x3 x4) := hN0
    have lD : H4 D = some (.lst sR) := hd0
    refine ⟨by show 3 ≤ sizeLine; decide, fun p5 hp5 => ?_⟩
    have S5 : Same H4 (upd H4 p5 (.lst [.int 1, .int 2, .non])) := Same.upd hp5
    have lp5 : upd H4 p5 (HO.lst [.int 1, .int 2, .non]) p5 = some (.lst [.int 1, .int 2, .non]) := upd_same
    generalize upd H4 p5 (HO.lst [.int 1, .int 2, .non]) = H5 at S5 lp5 ⊢
    refine ne_self (d := .list [.int 1, .int 2, .none]) (.lst (SqL.of (S5 _ _ lD)) (.cons (.int _) (.cons (.int _) (.cons .non .nil)))) (.lst (SqL.of lp5) (.cons (.int _) (.cons (.int _) (.cons .non .nil)))) (by kernel_rfl) ⟨_, rfl, iteF ?_⟩
    refine ⟨_, rfl, ?_⟩
    refine ⟨_, rfl, by show 4 ≤ sizeLine; decide, fun p6 hp6 => ?_⟩
    have S6 : Same H5 (upd H5 p6 (.tup [.str "update", .str "key", .int 1, .int x1])) := Same.upd hp6
    have lp6 : upd H5 p6 (HO.tup [.str "update", .str "key", .int 1, .int x1]) p6 = some (.tup [.str "update", .str "key", .int 1, .int x1]) := upd_same
    generalize upd H5 p6 (HO.tup [.str "update", .str "key", .int 1, .int x1]) = H6 at S6 lp6 ⊢
    refine ⟨by show 3 ≤ sizeLine; decide, fun p7 hp7 => ?_⟩
    have S7 : Same H6 (upd H6 p7 (.tup [.str "store", .str "up", .ref p6])) := Same.upd hp7
    have lp7 : upd H6 p7 (HO.tup [.str "store", .str "up", .ref p6]) p7 = some (.tup [.str "store", .str "up", .ref p6]) := upd_same
    generalize upd H6 p7 (HO.tup [.str "store", .str "up", .ref p6]) = H7 at S7 lp7 ⊢
    refine ⟨by show 1 ≤ sizeLine; decide, fun p8 hp8 => ?_⟩
    have S8 : Same H7 (upd H7 p8 (.lst [.ref p7])) := Same.upd hp8
    have lp8 : upd H7 p8 (HO.lst [.ref p7]) p8 = some (.lst [.ref p7]) := upd_same
    generalize upd H7 p8 (HO.lst [.ref p7]) = H8 at S8 lp8 ⊢
    have nf_p8 : p8 ∉ g.S := nfree (hN1004.mono (Same.trans S5 (Same.trans S6 S7))) hp8
    have hN1009 := (hN1004.mono (Same.trans S5 (Same.trans S6 (Same.trans S7 S8))))
    have kk1009 := kk1004.then (Same.trans S5 (Same.trans S6 (Same.trans S7 S8)))
    refine ⟨n, p8, g, _, (sM3 x1 x2 x3 x4), [("store", "up", .update "key" 1 x1)], [.ref p7], rfl, hN1009, (.cons (sD3 x1 x2 x3 x4) (sE3 x1 x2 x3 x4) (sF3 x1 x2 x3 x4) .nil), lp8, nf_p8, (.cons (.tup (S8 _ _ lp7) (.cons (.str _) (.cons (.str _) (.cons (.tup ((Same.trans S7 S8) _ _ lp6) (.cons (.str _) (.cons (.str _) (.cons (.int _) (.cons (.int _) .nil))))) .nil)))) .nil), of_decide_eq_true (by kernel_rfl), fun H9 k9 hN9 => ?_⟩
    have kk9 := kk1009.trans k9
    refine ⟨_, rfl, iteF ?_⟩
    refine ⟨_, rfl, rd_get (m := ⟨"up", (some "store"), [("key", some ⟨1, x1, 2, 0, none⟩)], ["low"]⟩) hN9 (List.mem_of_getElem? (i := 1) rfl) fun na10 hat10 => ?_⟩
    refine rd_bound (v := 1) (cm := ⟨1, x1, 2, 0, none⟩) hat10 (of_decide_eq_true (by kernel_rfl)) (by kernel_rfl) (by kernel_rfl) ?_
    refine ⟨rfl, _, rfl, ifF (by kernel_rfl) ?_⟩
    refine ⟨_, rfl, ?_⟩
    refine ⟨_, rfl, by show 4 ≤ sizeLine; decide, fun p12 hp12 => ?_⟩
    have S10 : Same H9 (upd H9 p12 (.tup [.str "update", .str "key", .int 2, .int x2])) := Same.upd hp12
    have lp12 : upd H9 p12 (HO.tup [.str "update", .str "key", .int 2, .int x2]) p12 = some (.tup [.str "update", .str "key", .int 2, .int x2]) := upd_same
    generalize upd H9 p12 (HO.tup [.str "update", .str "key", .int 2, .int x2]) = H10 at S10 lp12 ⊢
    refine ⟨by show 3 ≤ sizeLine; decide, fun p13 hp13 => ?_⟩
    have S11 : Same H10 (upd H10 p13 (.tup [.str "store", .str "up", .ref p12])) := Same.upd hp13
    have lp13 : upd H10 p13 (HO.tup [.str "store", .str "up", .ref p12]) p13 = some (.tup [.str "store", .str "up", .ref p12]) := upd_same
    generalize upd H10 p13 (HO.tup [.str "store", .str "up", .ref p12]) = H11 at S11 lp13 ⊢
    refine ⟨by show 1 ≤ sizeLine; decide, fun p14 hp14 => ?_⟩
    have S12 : Same H11 (upd H11 p14 (.lst [.ref p13])) := Same.upd hp14
    have lp14 : upd H11 p14 (HO.lst [.ref p13]) p14 = some (.lst [.ref p13]) := upd_same
    generalize upd H11 p14 (HO.lst [.ref p13]) = H12 at S12 lp14 ⊢
    have nf_p14 : p14 ∉ g.S := nfree (hN9.mono (Same.trans S10 S11)) hp14
    have hN1015 := (hN9.mono (Same.trans S10 (Same.trans S11 S12)))
    have kk1015 := kk9.then (Same.trans S10 (Same.trans S11 S12))
    refine ⟨n, p14, g, _, (sM4 x1 x2 x3 x4), [("store", "up", .update "key" 2 x2)], [.ref p13], rfl, hN1015, (.cons (sD4 x1 x2 x3 x4) (sE4 x1 x2 x3 x4) (sF4 x1 x2 x3 x4) .nil), lp14, nf_p14, (.cons (.tup (S12 _ _ lp13) (.cons (.str _) (.cons (.str _) (.cons (.tup ((Same.trans S11 S12) _ _ lp12) (.cons (.str _) (.cons (.str _) (.cons (.int _) (.cons (.int _) .nil))))) .nil)))) .nil), of_decide_eq_true (by kernel_rfl), fun H13 k13 hN13 => ?_⟩
    have kk13 := kk1015.trans k13
    refine ⟨_, rfl, iteF ?_⟩
    refine ⟨_, rfl, rd_get (m := ⟨"up", (some "store"), [("key", some ⟨2, x2, 2, 0, none⟩)], ["low"]⟩) hN13 (List.mem_of_getElem? (i := 1) rfl) fun na16 hat16 => ?_⟩
    refine rd_bound (v := 0) (cm := ⟨2, x2, 2, 0, none⟩) hat16 (of_decide_eq_true (by kernel_rfl)) (by kernel_rfl) (by kernel_rfl) ?_
    refine ⟨rfl, _, rfl, ifF (by kernel_rfl) ?_⟩
    refine ⟨_, rfl, rd_messages hN13 fun p18 vp18 H14 S14 lp18 tp18 => ?_⟩
    rw [show NetM.msgs (sM4 x1 x2 x3 x4) "up" "store" = [] from by kernel_rfl] at tp18
    refine ⟨by show 0 ≤ sizeLine; decide, fun p19 hp19 => ?_⟩
    have S15 : Same H14 (upd H14 p19 (.lst [])) := Same.upd hp19
    have lp19 : upd H14 p19 (HO.lst []) p19 = some (.lst []) := upd_same
    generalize upd H14 p19 (HO.lst []) = H15 at S15 lp19 ⊢
    refine ne_self (d := .list []) (.lst (SqL.of (S15 _ _ lp18)) (tp18.mono (KT.of S15)).dp) (.lst (SqL.of lp19) .nil) (by kernel_rfl) ⟨_, rfl, iteF ?_⟩
    refine ⟨_, rfl, rd_get (m := ⟨"low", (some "up"), [("key", some ⟨0, 0, 2, 0, none⟩)], []⟩) (hN13.mono (Same.trans S14 S15)) (List.mem_of_getElem? (i := 2) rfl) fun na19 hat19 => ?_⟩
    refine rd_bound (v := 2) (cm := ⟨0, 0, 2, 0, none⟩) hat19 (of_decide_eq_true (by kernel_rfl)) (by kernel_rfl) (by kernel_rfl) ?_
    refine ⟨rfl, _, rfl, ifF (by kernel_rfl) ?_⟩
    refine ⟨_, rfl, by show 4 ≤ sizeLine; decide, fun p21 hp21 => ?_⟩
    have S16 : Same H15 (upd H15 p21 (.tup [.str "update", .str "key", .int 1, .int x1])) := Same.upd hp21
    have lp21 : upd H15 p21 (HO.tup [.str "update", .str "key", .int 1, .int x1]) p21 = some (.tup [.str "update", .str "key", .int 1, .int x1]) := upd_same
    generalize upd H15 p21 (HO.tup [.str "update", .str "key", .int 1, .int x1]) = H16 at S16 lp21 ⊢
    refine ⟨by show 3 ≤ sizeLine; decide, fun p22 hp22 => ?_⟩
    have S17 : Same H16 (upd H16 p22 (.tup [.str "up", .str "low", .ref p21])) := Same.upd hp22
    have lp22 : upd H16 p22 (HO.tup [.str "up", .str "low", .ref p21]) p22 = some (.tup [.str "up", .str "low", .ref p21]) := upd_same
    generalize upd H16 p22 (HO.tup [.str "up", .str "low", .ref p21]) = H17 at S17 lp22 ⊢
    refine ⟨by show 3 ≤ sizeLine; decide, fun p23 hp23 => ?_⟩
    have S18 : Same H17 (upd H17 p23 (.tup [.str "confirm", .str "key", .int 1])) := Same.upd hp23
    have lp23 : upd H17 p23 (HO.tup [.str "confirm", .str "key", .int 1]) p23 = some (.tup [.str "confirm", .str "key", .int 1]) := upd_same
    generalize upd H17 p23 (HO.tup [.str "confirm", .str "key", .int 1]) = H18 at S18 lp23 ⊢
    refine ⟨by show 3 ≤ sizeLine; decide, fun p24 hp24 => ?_⟩
    have S19 : Same H18 (upd H18 p24 (.tup [.str "low", .str "up", .ref p23])) := Same.upd hp24
    have lp24 : upd H18 p24 (HO.tup [.str "low", .str "up", .ref p23]) p24 = some (.tup [.str "low", .str "up", .ref p23]) := upd_same
    generalize upd H18 p24 (HO.tup [.str "low", .str "up", .ref p23]) = H19 at S19 lp24 ⊢
    refine ⟨by show 2 ≤ sizeLine; decide, fun p25 hp25 => ?_⟩
    have S20 : Same H19 (upd H19 p25 (.lst [.ref p22, .ref p24])) := Same.upd hp25
    have lp25 : upd H19 p25 (HO.lst [.ref p22, .ref p24]) p25 = some (.lst [.ref p22, .ref p24]) := upd_same
    generalize upd H19 p25 (HO.lst [.ref p22, .ref p24]) = H20 at S20 lp25 ⊢
    refine ⟨_, rfl, _, rfl, ?_⟩
    refine ⟨by show 3 ≤ sizeLine; decide, fun p26 hp26 => ?_⟩
    have S21 : Same H20 (upd H20 p26 (.tup [.str "confirm", .str "key", .int 1])) := Same.upd hp26
    have lp26 : upd H20 p26 (HO.tup [.str "confirm", .str "key", .int 1]) p26 = some (.tup [.str "confirm", .str "key", .int 1]) := upd_same
    generalize upd H20 p26 (HO.tup [.str "confirm", .str "key", .int 1]) = H21 at S21 lp26 ⊢
    refine ⟨by show 3 ≤ sizeLine; decide, fun p27 hp27 => ?_⟩
    have S22 : Same H21 (upd H21 p27 (.tup [.str "up", .str "store", .ref p26])) := Same.upd hp27
    have lp27 : upd H21 p27 (HO.tup [.str "up", .str "store", .ref p26]) p27 = some (.tup [.str "up", .str "store", .ref p26]) := upd_same
    generalize upd H21 p27 (HO.tup [.str "up", .str "store", .ref p26]) = H22 at S22 lp27 ⊢
    refine ⟨by show 1 ≤ sizeLine; decide, fun p28 hp28 => ?_⟩
    have S23 : Same H22 (upd H22 p28 (.lst [.ref p27])) := Same.upd hp28
    have lp28 : upd H22 p28 (HO.lst [.ref p27]) p28 = some (.lst [.ref p27]) := upd_same
    generalize upd H22 p28 (HO.lst [.ref p27]) = H23 at S23 lp28 ⊢
    refine ⟨p25, p28, _, _, rfl, rfl, ((Same.trans S21 (Same.trans S22 S23)) _ _ lp25), lp28, by show 3 ≤ sizeLine; decide, fun p29 hp29 => ?_⟩
    have S24 : Same H23 (upd H23 p29 (.lst ([.ref p22, .ref p24] ++ [.ref p27]))) := Same.upd hp29
    have lp29 : upd H23 p29 (HO.lst ([.ref p22, .ref p24] ++ [.ref p27])) p29 = some (.lst ([.ref p22, .ref p24] ++ [.ref p27])) := upd_same
    generalize upd H23 p29 (HO.lst ([.ref p22, .ref p24] ++ [.ref p27])) = H24 at S24 lp29 ⊢
    have nf_p29 : p29 ∉ g.S := nfree (hN13.mono (Same.trans S14 (Same.trans S15 (Same.trans S16 (Same.trans S17 (Same.trans S18 (Same.trans S19 (Same.trans S20 (Same.trans S21 (Same.trans S22 S23)))))))))) hp29
    have hN1030 := (hN13.mono (Same.trans S14 (Same.trans S15 (Same.trans S16 (Same.trans S17 (Same.trans S18 (Same.trans S19 (Same.trans S20 (Same.trans S21 (Same.trans S22 (Same.trans S23 S24)))))))))))
    have kk1030 := kk13.then (Same.trans S14 (Same.trans S15 (Same.trans S16 (Same.trans S17 (Same.trans S18 (Same.trans S19 (Same.trans S20 (Same.trans S21 (Same.trans S22 (Same.trans S23 S24))))))))))
    refine ⟨n, p29, g, _, (sM7 x1 x2 x3 x4), [("up", "low", .update "key" 1 x1), ("low", "up", .confirm "key" 1), ("up", "store", .confirm "key" 1)], [.ref p22, .ref p24, .ref p27], rfl, hN1030, (.cons (sD5 x1 x2 x3 x4) (sE5 x1 x2 x3 x4) (sF5 x1 x2 x3 x4) (.cons (sD6 x1 x2 x3 x4) (sE6 x1 x2 x3 x4) (sF6 x1 x2 x3 x4) (.cons (sD7 x1 x2 x3 x4) (sE7 x1 x2 x3 x4) (sF7 x1 x2 x3 x4) .nil))), lp29, nf_p29, (.cons (.tup ((Same.trans S18 (Same.trans S19 (Same.trans S20 (Same.trans S21 (Same.trans S22 (Same.trans S23 S24)))))) _ _ lp22) (.cons (.str _) (.cons (.str _) (.cons (.tup ((Same.trans S17 (Same.trans S18 (Same.trans S19 (Same.trans S20 (Same.trans S21 (Same.trans S22 (Same.trans S23 S24))))))) _ _ lp21) (.cons (.str _) (.cons (.str _) (.cons (.int _) (.cons (.int _) .nil))))) .nil)))) (.cons (.tup ((Same.trans S20 (Same.trans S21 (Same.trans S22 (Same.trans S23 S24)))) _ _ lp24) (.cons (.str _) (.cons (.str _) (.cons (.tup ((Same.trans S19 (Same.trans S20 (Same.trans S21 (Same.trans S22 (Same.trans S23 S24))))) _ _ lp23) (.cons (.str _) (.cons (.str _) (.cons (.int _) .nil)))) .nil)))) (.cons (.tup ((Same.trans S23 S24) _ _ lp27) (.cons (.str _) (.cons (.str _) (.cons (.tup ((Same.trans S22 (Same.trans S23 S24)) _ _ lp26) (.cons (.str _) (.cons (.str _) (.cons (.int _) .nil)))) .nil)))) .nil))), of_decide_eq_true (by kernel_rfl), fun H25 k25 hN25 => ?_⟩
    have kk25 := kk1030.trans k25
    refine ⟨_, rfl, iteF ?_⟩
    refine ⟨_, rfl, rd_number (v := 3) (m0 := ⟨"store", none, [("key", some ⟨3, x3, 0, 3, none⟩)], ["up"]⟩) (c0 := ⟨3, x3, 0, 3, none⟩) hN25 (of_decide_eq_true (by kernel_rfl)) rfl (by kernel_rfl) (by kernel_rfl) ?_⟩
    refine ⟨rfl, _, rfl, ifF (by kernel_rfl) ?_⟩
    refine ⟨_, rfl, rd_read (v := 1) (m := ⟨"low", (some "up"), [("key", some ⟨1, x1, 2, 1, none⟩)], []⟩) (m0 := ⟨"store", none, [("key", some ⟨3, x3, 0, 3, none⟩)], ["up"]⟩) (c0 := ⟨3, x3, 0, 3, none⟩) (ds := []) (M2 := (sM8 x1 x2 x3 x4)) hN25 rfl (List.mem_of_getElem? (i := 2) rfl) (of_decide_eq_true (by kernel_rfl)) rfl (by kernel_rfl) (of_decide_eq_true (by kernel_rfl)) (of_decide_eq_true (by kernel_rfl)) (of_decide_eq_true (by kernel_rfl)) (by kernel_rfl) (by kernel_rfl) (of_decide_eq_true (by kernel_rfl)) (by kernel_rfl) (by kernel_rfl) fun H26 k26 hN26 => ?_⟩
    have kk26 := kk25.trans k26
    obtain ⟨Za, qa⟩ := id hN26
    refine ⟨_, rfl, n, _, _, rfl, qa.at_n, rfl, _, rfl, n, 1, g, (sM8 x1 x2 x3 x4), rfl, hN26, by decide, (of_decide_eq_true (by kernel_rfl)), fun v1 hv1 => ?_⟩
    rw [show getI (NetM.answ (sM8 x1 x2 x3 x4)) 1 = none from by kernel_rfl] at hv1
    have hv1 : v1 = .non := hv1
    subst hv1
    refine ⟨_, rfl, ifF (by kernel_rfl) ?_⟩
    obtain ⟨Zb, qb⟩ := id hN26
    refine ⟨_, rfl, n, _, _, rfl, qb.at_n, rfl, _, rfl, rd_read (v := 2) (m := ⟨"up", (some "store"), [("key", some ⟨2, x2, 2, 1, none⟩)], ["low"]⟩) (m0 := ⟨"store", none, [("key", some ⟨3, x3, 0, 3, none⟩)], ["up"]⟩) (c0 := ⟨3, x3, 0, 3, none⟩) (ds := [(.tuple [(.str "up"), (.int 1), (.int 2), (.int 1), (.int 2)]), (.tuple [(.str "store"), (.int 3)])]) (M2 := (sM9 x1 x2 x3 x4)) hN26 rfl (List.mem_of_getElem? (i := 1) rfl) (of_decide_eq_true (by kernel_rfl)) rfl (by kernel_rfl) (of_decide_eq_true (by kernel_rfl)) (of_decide_eq_true (by kernel_rfl)) (of_decide_eq_true (by kernel_rfl)) (by kernel_rfl) (by kernel_rfl) (of_decide_eq_true (by kernel_rfl)) (by kernel_rfl) (by kernel_rfl) fun H27 k27 hN27 => ?_⟩
    have kk27 := kk26.trans k27
    obtain ⟨Zc, qc⟩ := id hN27
    refine ⟨n, 2, g, (sM9 x1 x2 x3 x4), rfl, hN27, by decide, (of_decide_eq_true (by kernel_rfl)), fun v2 hv2 => ?_⟩
    rw [show getI (NetM.answ (sM9 x1 x2 x3 x4)) 2 = some ((2 : Int), x2, ("up" : Str)) from by kernel_rfl] at hv2
    have hv2 : Td H27 v2 (.tuple [.int 2, .int x2, .str "up"]) := hv2
    refine ⟨_, rfl, by show 3 ≤ sizeLine; decide, fun p34 hp34 => ?_⟩
    have S28 : Same H27 (upd H27 p34 (.tup [.int 2, .int x2, .str "up"])) := Same.upd hp34
    have lp34 : upd H27 p34 (HO.tup [.int 2, .int x2, .str "up"]) p34 = some (.tup [.int 2, .int x2, .str "up"]) := upd_same
    generalize upd H27 p34 (HO.tup [.int 2, .int x2, .str "up"]) = H28 at S28 lp34 ⊢
    refine ne_self (hv2.mono (KT.of S28)).dp (.tup (SqT.of lp34) (.cons (.int _) (.cons (.int _) (.cons (.str _) .nil)))) (by kernel_rfl) ⟨_, rfl, iteF ?_⟩
    refine ⟨_, rfl, by show 4 ≤ sizeLine; decide, fun p35 hp35 => ?_⟩
    have S29 : Same H28 (upd H28 p35 (.tup [.str "update", .str "key", .int 2, .int x2])) := Same.upd hp35
    have lp35 : upd H28 p35 (HO.tup [.str "update", .str "key", .int 2, .int x2]) p35 = some (.tup [.str "update", .str "key", .int 2, .int x2]) := upd_same
    generalize upd H28 p35 (HO.tup [.str "update", .str "key", .int 2, .int x2]) = H29 at S29 lp35 ⊢
    refine ⟨by show 3 ≤ sizeLine; decide, fun p36 hp36 => ?_⟩
    have S30 : Same H29 (upd H29 p36 (.tup [.str "up", .str "low", .ref p35])) := Same.upd hp36
    have lp36 : upd H29 p36 (HO.tup [.str "up", .str "low", .ref p35]) p36 = some (.tup [.str "up", .str "low", .ref p35]) := upd_same
    generalize upd H29 p36 (HO.tup [.str "up", .str "low", .ref p35]) = H30 at S30 lp36 ⊢
    refine ⟨_, rfl, by show 5 ≤ sizeLine; decide, fun p37 hp37 => ?_⟩
    have S31 : Same H30 (upd H30 p37 (.tup [.str "question", .int 1, .str "key", .int 1, .int 0])) := Same.upd hp37
    have lp37 : upd H30 p37 (HO.tup [.str "question", .int 1, .str "key", .int 1, .int 0]) p37 = some (.tup [.str "question", .int 1, .str "key", .int 1, .int 0]) := upd_same
    generalize upd H30 p37 (HO.tup [.str "question", .int 1, .str "key", .int 1, .int 0]) = H31 at S31 lp37 ⊢
    refine ⟨by show 3 ≤ sizeLine; decide, fun p38 hp38 => ?_⟩
    have S32 : Same H31 (upd H31 p38 (.tup [.str "low", .str "up", .ref p37])) := Same.upd hp38
    have lp38 : upd H31 p38 (HO.tup [.str "low", .str "up", .ref p37]) p38 = some (.tup [.str "low", .str "up", .ref p37]) := upd_same
    generalize upd H31 p38 (HO.tup [.str "low", .str "up", .ref p37]) = H32 at S32 lp38 ⊢
    refine ⟨by show 2 ≤ sizeLine; decide, fun p39 hp39 => ?_⟩
    have S33 : Same H32 (upd H32 p39 (.lst [.ref p36, .ref p38])) := Same.upd hp39
    have lp39 : upd H32 p39 (HO.lst [.ref p36, .ref p38]) p39 = some (.lst [.ref p36, .ref p38]) := upd_same
    generalize upd H32 p39 (HO.lst [.ref p36, .ref p38]) = H33 at S33 lp39 ⊢
    refine ⟨_, rfl, rd_messages (hN27.mono (Same.trans S28 (Same.trans S29 (Same.trans S30 (Same.trans S31 (Same.trans S32 S33)))))) fun p40 vp40 H34 S34 lp40 tp40 => ?_⟩
    rw [show NetM.msgs (sM9 x1 x2 x3 x4) "low" "up" = [.question 1 "key" 1 0] from by kernel_rfl] at tp40
    have vlp40 : vp40.length = 1 := tp40.length
    refine ⟨p40, _, rfl, .inl (SqL.of lp40), ?_⟩
    rw [vlp40]
    refine ⟨rfl, _, rfl, ifT (by kernel_rfl) ?_⟩
    refine ⟨_, rfl, _, rfl, 1, rfl, p39, _, rfl, SqL.of (S34 _ _ lp39), fun p41 hp41 => ?_⟩
    have S35 : Same H34 (upd H34 p41 (.lst (cutV [.ref p36, .ref p38] (some 1) none))) := Same.upd hp41
    have lp41 : upd H34 p41 (HO.lst (cutV [.ref p36, .ref p38] (some 1) none)) p41 = some (.lst (cutV [.ref p36, .ref p38] (some 1) none)) := upd_same
    generalize upd H34 p41 (HO.lst (cutV [.ref p36, .ref p38] (some 1) none)) = H35 at S35 lp41 ⊢
    have nf_p41 : p41 ∉ g.S := nfree (hN27.mono (Same.trans S28 (Same.trans S29 (Same.trans S30 (Same.trans S31 (Same.trans S32 (Same.trans S33 S34))))))) hp41
    have hN1042 := (hN27.mono (Same.trans S28 (Same.trans S29 (Same.trans S30 (Same.trans S31 (Same.trans S32 (Same.trans S33 (Same.trans S34 S35))))))))
    have kk1042 := kk27.then (Same.trans S28 (Same.trans S29 (Same.trans S30 (Same.trans S31 (Same.trans S32 (Same.trans S33 (Same.trans S34 S35)))))))
    refine ⟨n, p41, g, _, (sM10 x1 x2 x3 x4), [("low", "up", .question 1 "key" 1 0)], [.ref p38], rfl, hN1042, (.cons (sD10 x1 x2 x3 x4) (sE10 x1 x2 x3 x4) (sF10 x1 x2 x3 x4) .nil), lp41, nf_p41, (.cons (.tup ((Same.trans S33 (Same.trans S34 S35)) _ _ lp38) (.cons (.str _) (.cons (.str _) (.cons (.tup ((Same.trans S32 (Same.trans S33 (Same.trans S34 S35))) _ _ lp37) (.cons (.str _) (.cons (.int _) (.cons (.str _) (.cons (.int _) (.cons (.int _) .nil)))))) .nil)))) .nil), of_decide_eq_true (by kernel_rfl), fun H36 k36 hN36 => ?_⟩
    have kk36 := kk1042.trans k36
    exact k _ (kk36.same fg)
end
end K03
set_option Elab.async false
set_option linter.all false
set_option maxRecDepth 100000
set_option maxHeartbeats 4000000
namespace K03
open PySem L2 EX PyProof.Rows LamX
open NZ
abbrev sLaw : Stmt := top 71
def sLawN : List Str := ["_law_script", "_law_turn", "_law_source_here", "_law_values", "_law_attempt"]
theorem scLw : FnScope ["_law_script", "_law_turn", "_law_source_here", "_law_values", "_law_attempt"] ["_law_script"] (defScope sLaw) := ⟨rfl, rfl, rfl, by decide +kernel, rfl, by decide +kernel, by decide +kernel⟩
section
variable {P : Program} {w : World} {K : PySem.W.Frag} {mg : Str → Option Value} {base : Heap}
theorem run_law {c : Cs} {f a : Addr} {fd : FuncData} {s : Shared} {H : Hp} {ns : List Int} (F : Fun K "law" "law" sLaw f fd) (B : Bn mg)
    (GSo : DefAt P w K mg base 1 "_law_source" ["_law_script", "_law_turn"] (spSource K)) (GDr : DefAt P w K mg base 1 "_law_draw" ["_law_source_here", "_law_amount"] spDraw) (GFi : DefAt P w K mg base 8 "_law_first_right" ["_law_values"] spVals) (GSe : DefAt P w K mg base 8 "_law_second_right" ["_law_values"] spVals)
    (hb : ∀ (s : Shared) (u : Value), BindsTo s fd ⟨[u], []⟩ [("_law_script", u)]) (e0 : Env0 P w K mg base callerA [] s H) (hS : SqL K H a (ns.map V.int)) (hns : ns.length ≤ 63) :
    codeAny (model P w) callerA (.call (.ref f) ⟨[.ref a], []⟩) (CR CX0 [] P w H s (fun v _ => v = .bl true) E0) s := by
  have hroom : Room 40 callerA := ⟨rfl, by decide, by decide⟩
  refine fn_at (us := [Value.ref a]) (vs := [V.ref a]) F scLw hroom e0 (hb s (.ref a)) (.cons rfl .nil) rfl fun cdv hr => ?_
  have hu := hu_of hr
  have hu64 : (callerA.deeper (envOfC "law" (defScope sLaw) s.heap.objs.size f cdv)).units + 64 < cLine := hr.units
  refine ⟨_, PSs.nox (pss_cons (ps_for PassesOwn.never rfl (pi_range1 (by rfl) B.range (pa_cons (pe_callB (call_max2 rfl) (by rfl) B.max PyProof.Rows.boot_max (pa_cons pe_int (pa_cons (pe_callB (call_min2 rfl) (by rfl) B.min PyProof.Rows.boot_min (pa_cons (pe_callB call_len_seq (by rfl) B.len PySem.boot_len (pa_cons (pv 0) pa_nil)) (pa_cons pe_int pa_nil))) pa_nil))) pa_nil)) (pg_name (i := 1) scLw.nd rfl (Or.inl rfl)) (pss_cons (ps_set (i := 2) scLw.nd rfl (Or.inr rfl) (pe_callD GSo (hr.mono (by decide)) (pa_cons (pv 0) (pa_cons (pv 1) pa_nil))))
        (pss_cons (ps_setLc (i := 3) (own := [("_law_attempt", 4)]) (g := (gName 4)) (tt := tYes) (te := (tOp (rI0 fun i j => .int (i - j)) (tCall spDraw [] E0 (tCons (tVar 2) (tCons (tOp (rI CPow fun i j => .int (i ^ j.toNat)) (tC (.int 10)) (tC (.int 6))) tNil))) (tC (.int 500)))) rfl scLw.nd rfl rfl (sw_true rfl rfl rfl (by decide +kernel)) (pi_range1 (by rfl) B.range (pa_cons pe_int pa_nil)) (blkOk_by (N := sLawN) (sc := defScope sLaw) (by decide +kernel)) (fun _ _ _ _ _ => (pg_name (i := 4) scLw.nd rfl (Or.inl rfl))) (fun _ _ _ _ _ => pts_nil) (fun _ _ _ _ _ => (pe_op op_sub (pe_callD GDr (hr.mono (by decide)) (pa_cons (pv 2) (pa_cons (pe_op op_pow pe_int pe_int) pa_nil))) pe_int)))
        (pss_one (ps_if (PW.pt (pw_or (pt_not (pt_val (pe_callD GFi (hr.mono (by decide)) (pa_cons (pv 3) pa_nil)))) (pw_or1 (pt_not (pt_val (pe_callD GSe (hr.mono (by decide)) (pa_cons (pv 3) pa_nil))))))) (pss_one (ps_ret pe_bl)) pss_nil)))))
        (pss_one (ps_ret pe_bl))), ?_⟩
  refine ⟨_, rfl, a, _, rfl, .inl hS, _, _, rfl, _, _, rfl, _, rfl, ?_, ?_, ?_⟩
  · rw [List.length_map]; split <;> split <;> omega
  · rw [List.length_map]; split <;> split <;> omega
  refine for_range (fun i σ H' => ∃ v1 v2 v3 v4, σ = [some (V.ref a), v1, v2, v3, v4] ∧ Same H H') ⟨_, _, _, _, rfl, Same.refl H⟩ ?_ ?_
  · rintro i σ Hi hi ⟨v1, v2, v3, v4, rfl, Xi⟩
    have hi63 : i ≤ 1000 := by
      rw [List.length_map] at hi
      split at hi <;> split at hi <;> omega
    refine ⟨_, rfl, _, rfl, a, ns, i, by rw [Int.zero_add]; rfl, Xi.seq hS, hi63, fun so x0 y0 hso hsrc => ?_⟩
    have ls : upd Hi so (HO.lst [.int x0, .int y0]) so = some (.lst [.int x0, .int y0]) := upd_same
    have s1 : Same Hi (upd Hi so (.lst [.int x0, .int y0])) := Same.upd hso
    generalize upd Hi so (HO.lst [.int x0, .int y0]) = H1 at ls s1 ⊢
    refine ⟨4, rfl, by decide, by decide, fun D hD => ?_⟩
    have nDs : D ≠ so := fun z => by
      rw [z, ls] at hD
      cases hD
    refine lc_range (lo := 0) (n := 4) (fun i H3 => ∃ (ws : List Int) (x y : Int), ws.length = i ∧ H3 D = some (.lst (ws.map V.int)) ∧ H3 so = some (.lst [.int x, .int y]) ∧ SrcOk x y ∧ Keeps [so] H1 H3) ⟨[], x0, y0, rfl, upd_same, by rw [upd_ne nDs.symm]; exact ls, hsrc, (Keeps.refl _ _).new hD⟩ ?_ ?_
    · rintro j H3 hj ⟨ws, x, y, hwl, hd3, hs3, hxy, kk⟩
      refine ⟨rfl, ?_⟩
      refine ⟨_, rfl, _, _, rfl, rfl, ⟨by decide, by decide, by decide⟩, so, x, y, _, rfl, hs3, hxy, by decide, by decide, fun x' y' d hxy' h0 hdl => ?_⟩
      refine ⟨_, _, rfl, rfl, ws.map V.int, by rw [upd_ne nDs]; exact hd3, by rw [List.length_map, sizeLine_eq]; omega, ws ++ [d - 500], x', y', by rw [List.length_append]; show ws.length + 1 = _; omega, by rw [upd_same, List.map_append]; rfl, by rw [upd_ne nDs.symm, upd_same], hxy', (kk.put (.head _)).updN hD⟩
    · rintro H3 ⟨ws, x, y, hwl, hd3, hs3, hxy, kk⟩
      have sH3 : Same Hi H3 := fun b o e => kk b o (fun z => by rw [List.mem_singleton.mp z, hso] at e; cases e) (s1 b o e)
      obtain ⟨x1, x2, x3, x4, rfl⟩ : ∃ x1 x2 x3 x4, ws = [x1, x2, x3, x4] := by
        match ws, hwl with
        | [x1, x2, x3, x4], _ => exact ⟨x1, x2, x3, x4, rfl⟩
      refine ⟨_, rfl, D, x1, x2, x3, x4, rfl, hd3, fun H4 S4 => ⟨_, rfl, iteF ?_⟩⟩
      refine ⟨_, rfl, D, x1, x2, x3, x4, rfl, S4 _ _ hd3, fun H5 S5 => ⟨_, rfl, iteF ?_⟩⟩
      exact ⟨_, _, _, _, rfl, Same.trans Xi (Same.trans sH3 (Same.trans S4 S5))⟩
  · rintro σ H' ⟨v1, v2, v3, v4, rfl, X⟩
    rfl
end
end K03
set_option Elab.async false
set_option linter.all false
set_option maxRecDepth 100000
set_option maxHeartbeats 4000000
/-! the law's end with tables of code objects, the law's own call met at callerA -/
namespace EX
open PySem L2 PySem.Spec PyProof.Rows LamX
/-- the tables as they stand at the head: empty, no part of what is written, each with its code object -/
structure TabsAt (K : PySem.W.Frag) (h : Heap) (cs : List (Addr × Addr)) : Prop where
  emp : ∀ p ∈ cs, h.get? p.2 = some { cls := .none, data := .fields #[] }
  out : ∀ p ∈ cs, K.lookup p.2 = none
  cod : ∀ p ∈ cs, PySem.W.CodeHd h p.1 p.2
/-- a table told by its def's name -/
structure TabOf (q : Program) (K : PySem.W.Frag) (x : Str) (c P : Addr) : Prop where
  has : ∃ d, (recsOf q).find? (fun e => e.name == x) = some d
  tab : PySem.W.tabIn K x = some (c, P)
  out : K.lookup P = none
theorem tab_by {K : PySem.W.Frag} {x : Str} {f c P : Addr} {oc oc2 : Value} {od od2 : Option Addr} {fd : FuncData} {vs : Array Value} {os1 os2 : Array (Option Value)} (h1 : PySem.W.nsIn K mainGlobals x = some (some (.ref f))) (h2 : K.lookup f = some ⟨oc, od, .func fd, os1⟩) (h3 : fd.code = .ref c)
    (h4 : K.lookup c = some ⟨oc2, od2, .fields vs, os2⟩) (h5 : (vs[11]? : Option Value) = some (.ref P)) : PySem.W.tabIn K x = some (c, P) := by
  unfold PySem.W.tabIn
  rw [h1]
  show (match K.lookup f with | some ⟨_, _, .func fd, _⟩ => _ | _ => _) = _
  rw [h2]
  show (match fd.code with | .ref c => _ | _ => _) = _
  rw [h3]
  show (match K.lookup c with | some ⟨_, _, .fields vs, _⟩ => _ | _ => _) = _
  rw [h4]
  show (match (vs[11]? : Option Value) with | some (.ref P) => some (c, P) | _ => none) = _
  rw [h5]
theorem walkT {l : PySem.W.OpenLaw} {n : Nat} {q : Program} {loose : List Str} {XP : (Str → Option Value) → Heap → Prop} {YP : World → Heap → Prop} {d : DefRec} {K : Params → PySem.W.Frag}
    (hn : l.most = some n) (hn2 : n ≤ sizeLine) (hdf : d.params.defaults = []) (hY : ∀ (w : World) (h : Heap), YP w h → (K w.params).In h)
    (F : ∀ (w : World) (mg : Str → Option Value) (fa : Addr) (h : Heap), YP w h → (K w.params).In h → h.Ns mainGlobals mg → mg d.name = some (.ref fa) → ∃ cs : List (Addr × Addr), (∀ p ∈ cs, ∃ x, TabOf q (K w.params) x p.1 p.2) ∧
      ∀ base : Heap, (K w.params).In base → base.Ns mainGlobals mg → (∀ p ∈ cs, TabB base mg p.1 p.2) → ∀ (s : Shared) (H : Hp) (a : Addr) (ns : List Int), ns.length ≤ n → (∀ p ∈ cs, H p.2 = some (.tbl #[])) → SqL (K w.params) H a (ns.map V.int) →
        Env0 l.prog w (K w.params) mg base callerA [] s H → codeAny (model l.prog w) callerA (.call (.ref fa) ⟨[.ref a], []⟩) (CR CX0 [] l.prog w H s (fun v _ => v = .bl true) E0) s) :
    PySem.W.WalkO q loose XP YP l.row.toRowW d [] (fun f vs => PySem.call f vs) := by
  refine Att.attach_callB hn hdf ?_
  intro w s₀ s₁ mg mb fa o pm cd doc a vs ns G Y ho hd hcd hmg hobj hints hlen hbits hg
  have kin := hY w _ Y
  obtain ⟨cs, TO, run⟩ := F w mg fa _ Y kin G.T.g hmg
  have TA : TabsAt (K w.params) s₁.heap cs := by
    refine ⟨fun p hp => ?_, fun p hp => ?_, fun p hp => ?_⟩ <;> obtain ⟨x, ⟨d2, hd2⟩, ht, ho2⟩ := TO p hp
    · exact (PySem.W.tab_of G.T kin hd2 ht).2
    · exact ho2
    · exact (PySem.W.tab_of G.T kin hd2 ht).1
  have rv := vals_ints hints
  have lv := hints.length
  have tabOf : ∀ b, b ∈ cs.map (·.2) → ∃ p ∈ cs, p.2 = b := fun b hb => List.mem_map.mp hb
  have emp : ∀ b, b ∈ cs.map (·.2) → s₁.heap.get? b = some { cls := .none, data := .fields #[] } := fun b hb => by
    obtain ⟨p, hp, rfl⟩ := tabOf b hb
    exact TA.emp p hp
  have aOut : a ∉ cs.map (·.2) := fun z => by
    have e := emp a z
    rw [hobj] at e
    have d2 := congrArg Obj.data (Option.some.inj e)
    cases d2
  have key : ∀ H : Hp, (∀ b, b ∈ cs.map (·.2) → H b = some (.tbl #[])) → (∀ b, b ∈ cs.map (·.2) ∨ H b = none ∨ ∃ ob xs, H b = some (.frz ob (.lst xs))) → SqL (K w.params) H a (ns.map V.int) → HOk l.prog w H s₁.heap → (∀ b, H b ≠ none → b = a ∨ b ∈ cs.map (·.2)) → (H a ≠ none → (K w.params).lookup a = none) →
      codeAny (model l.prog w) callerA (.call (.ref fa) ⟨[.ref a], []⟩) (fun r s' => r = .ok (.ret (.bool true)) ∧ OldK s₁.heap s'.heap ∧ s'.os = s₁.os ∧ AllBare s'.gens) s₁ := by
    intro H tab only sq hok who notK
    -- what is no list and no table is not tracked
    have plain : ∀ {b : Addr} {o : Obj}, s₁.heap.get? b = some o → (∀ xs m, o.data ≠ .seq xs m) → o.data ≠ .fields #[] → H b = none := by
      intro b o e1 e2 e3
      cases h : H b with
      | none => rfl
      | some u =>
        rcases who b (by rw [h]; exact fun z => nomatch z) with e4 | e4
        · rw [e4, hobj] at e1
          cases e1
          exact absurd rfl (e2 _ _)
        · rw [emp b e4] at e1
          cases e1
          exact absurd rfl e3
    have dicts : ∀ {b : Addr} {o : Obj} {es : Array DictEntry} {ep : Nat}, s₁.heap.get? b = some o → o.data = .dict es ep → H b = none := by
      intro b o es ep e1 e2
      refine plain e1 (fun xs m z => ?_) fun z => ?_ <;> rw [e2] at z <;> cases z
    have nsB : ∀ {b : Addr} {m : Str → Option Value}, s₁.heap.Ns b m → (hidT s₁.heap H).Ns b m := by
      rintro b m ⟨o, es, ep, e1, e2, r⟩
      exact ⟨o, es, ep, hidT_get e1 (dicts e1 e2), e2, r⟩
    have kinB : (K w.params).In (hidT s₁.heap H) := by
      intro b o e
      refine hidT_get (kin b o e) ?_
      cases h : H b with
      | none => rfl
      | some u =>
        rcases who b (by rw [h]; exact fun z => nomatch z) with e3 | e3
        · rw [e3, notK (by rw [← e3, h]; exact fun z => nomatch z)] at e
          cases e
        · obtain ⟨p, hp, rfl⟩ := tabOf b e3
          rw [TA.out p hp] at e
          cases e
    have TB : ∀ p ∈ cs, TabB (hidT s₁.heap H) mg p.1 p.2 := by
      intro p hp
      have ep := TA.emp p hp
      obtain ⟨o, us, file, tf, flags, tg, inF, text, tt, e1, r1, r2, r3, r4, r5, r6, r7, r8, hne⟩ := TA.cod p hp
      obtain ⟨bm, ob, b1, b2, b3, b4, b5, b6⟩ := G.T.bmain
      have bmG : bm ≠ mainGlobals := by
        intro z
        obtain ⟨o2, es, ep2, e2, hd2, _⟩ := G.T.g
        rw [z, e2] at b3
        cases b3
        rw [hd2] at b6
        cases b6
      have bmP : bm ≠ p.2 := by
        intro z
        rw [z, ep] at b3
        cases b3
        cases b6
      refine ⟨⟨o, us, file, tf, flags, tg, inF, text, tt, hidT_get e1 (plain e1 (fun xs m z => ?_) fun z => ?_), r1, r2, r3, r4, r5, r6, r7, r8, hne⟩, ⟨bm, ob, b1, b2, bmG, bmP, hidT_get b3 (plain b3 (fun xs m z => ?_) fun z => ?_), b4, b5, b6⟩, fun z => ?_⟩
      · rw [r2] at z
        cases z
      · rw [r2] at z
        cases z
        simp at r3
      · rw [b6] at z
        cases z
      · rw [b6] at z
        cases z
      · obtain ⟨o2, es, ep2, e2, hd2, _⟩ := G.T.g
        rw [z, ep] at e2
        cases e2
        cases hd2
    have e0 : Env0 l.prog w (K w.params) mg (hidT s₁.heap H) callerA [] s₁ H := by
      refine ⟨rfl, ⟨kinB, nsB G.T.g, ⟨mb, nsB G.T.b, G.T.builtins⟩, ?_⟩, fun b o e => of_hidT e, Nat.le_of_eq (hidT_size _ _), trivial, (fun b hb => absurd hb (List.not_mem_nil)), hok, .of_eq hg⟩
      obtain ⟨mc, h1, h2⟩ := G.T.nolimit
      exact ⟨mc, nsB h1, h2⟩
    refine codeAny_mono (run _ kinB (nsB G.T.g) TB s₁ H a ns hlen (fun p hp => tab p.2 (List.mem_map.mpr ⟨p, hp, rfl⟩)) sq e0) ?_
    intro r s' z
    cases r with
    | error e => exact z.elim
    | ok fl =>
      cases fl with
      | next => exact z.elim
      | brk => exact z.elim
      | cont => exact z.elim
      | ret u =>
        obtain ⟨v, H', os, bare, un, hok', rr, qq⟩ := z
        subst qq
        obtain rfl : u = Value.bool true := rr
        have kept : ∀ b o, b ∉ cs.map (·.2) → s₁.heap.get? b = some o → s'.heap.get? b = some o := by
          intro b o out e
          rcases only b with h | h | ⟨ob, xs, h⟩
          · exact absurd h out
          · exact un.keep b o e h (fun z => nomatch z) (fun z => nomatch z)
          · have h1 := (hok b _ h).1
            have h2 := (hok' b _ (un.frzs b ob _ h)).1
            rw [e] at h1
            cases h1
            exact h2
        have more : ∀ p ∈ cs, ∃ xs : Array Value, s'.heap.get? p.2 = some { cls := .none, data := .fields xs } := by
          intro p hp
          obtain ⟨xs, z⟩ := un.tbls p.2 #[] (tab p.2 (List.mem_map.mpr ⟨p, hp, rfl⟩))
          exact ⟨_, hok' p.2 _ z⟩
        refine ⟨rfl, ⟨fun b o e => ?_, fun b o e => ?_⟩, os, bare⟩
        · by_cases hb : b ∈ cs.map (·.2)
          · obtain ⟨p, hp, rfl⟩ := tabOf b hb
            obtain ⟨xs, hx⟩ := more p hp
            rw [TA.emp p hp] at e
            cases e
            exact .inr (.inl ⟨((TA.cod p hp).tab (TA.emp p hp)).isCodeTable, rfl, #[], xs, rfl, by rw [Array.empty_append]; exact hx⟩)
          · exact .inl (kept b o hb e)
        · by_cases hb : b ∈ cs.map (·.2)
          · obtain ⟨p, hp, rfl⟩ := tabOf b hb
            obtain ⟨xs, hx⟩ := more p hp
            exact ⟨_, hx⟩
          · exact ⟨o, kept b o hb e⟩
  have hz : ns.length ≤ sizeLine := Nat.le_trans hlen hn2
  -- the heap that tracks the tables, and the script where it is not written
  have start : ∀ (H : Hp) (keepA : Bool), (∀ b, H b = if b ∈ cs.map (·.2) then some (.tbl #[]) else if keepA = true ∧ b = a then some (HO.frz { cls := .type "list", data := .seq vs.toArray } (.lst (ns.map V.int))) else none) →
      (keepA = true → (K w.params).lookup a = none) → SqL (K w.params) H a (ns.map V.int) → codeAny (model l.prog w) callerA (.call (.ref fa) ⟨[.ref a], []⟩) (fun r s' => r = .ok (.ret (.bool true)) ∧ OldK s₁.heap s'.heap ∧ s'.os = s₁.os ∧ AllBare s'.gens) s₁ := by
    intro H keepA eH ok sq
    have inT : ∀ b, b ∈ cs.map (·.2) → H b = some (.tbl #[]) := fun b hb => by rw [eH, if_pos hb]
    have offT : ∀ b, b ∉ cs.map (·.2) → H b = if keepA = true ∧ b = a then some (HO.frz { cls := .type "list", data := .seq vs.toArray } (.lst (ns.map V.int))) else none := fun b hb => by rw [eH, if_neg hb]
    refine key H inT (fun b => ?_) sq (fun b u e => ?_) (fun b e => ?_) fun e => ?_
    · by_cases hb : b ∈ cs.map (·.2)
      · exact .inl hb
      · have q1 := offT b hb
        by_cases h2 : keepA = true ∧ b = a
        · rw [if_pos h2] at q1
          exact .inr (.inr ⟨_, _, q1⟩)
        · rw [if_neg h2] at q1
          exact .inr (.inl q1)
    · by_cases hb : b ∈ cs.map (·.2)
      · rw [inT b hb] at e
        cases e
        exact emp b hb
      · rw [offT b hb] at e
        by_cases h2 : keepA = true ∧ b = a
        · rw [if_pos h2] at e
          obtain ⟨_, rfl⟩ := h2
          cases e
          exact ⟨hobj, by rw [List.length_map]; exact hz, vs, _, rv, hobj⟩
        · rw [if_neg h2] at e
          cases e
    · by_cases hb : b ∈ cs.map (·.2)
      · exact .inr hb
      · rw [offT b hb] at e
        by_cases h2 : keepA = true ∧ b = a
        · exact .inl h2.2
        · exact absurd (if_neg h2) e
    · rw [offT a aOut] at e
      by_cases h2 : keepA = true ∧ a = a
      · exact ok h2.1
      · exact absurd (if_neg h2) e
  cases hk : (K w.params).lookup a with
  | some o =>
    have e := kin a o hk
    rw [hobj] at e
    cases e
    refine start (fun b => if b ∈ cs.map (·.2) then some (.tbl #[]) else none) false (fun b => by simp) (fun z => nomatch z) (.inr ⟨_, vs.toArray, _, hk, rfl, rfl, rfl, ?_, ?_⟩)
    · rw [List.size_toArray, lv]
      exact hz
    · simpa using rv
  | none =>
    refine start (fun b => if b ∈ cs.map (·.2) then some (.tbl #[]) else if b = a then some (.frz { cls := .type "list", data := .seq vs.toArray } (.lst (ns.map V.int))) else none) true (fun b => by simp) (fun _ => hk) (.inl (.inr ⟨{ cls := .type "list", data := .seq vs.toArray }, ?_⟩))
    show (if a ∈ cs.map (·.2) then _ else _) = _
    rw [if_neg aOut, if_pos rfl]
/-- .. where the written part comes out of the walk's own facts (small heads) -/
theorem walkTH {l : PySem.W.OpenLaw} {n : Nat} {q : Program} {loose : List Str} {XP : (Str → Option Value) → Heap → Prop} {YP : World → Heap → Prop} {d : DefRec}
    (hn : l.most = some n) (hn2 : n ≤ sizeLine) (hdf : d.params.defaults = [])
    (F : ∀ (w : World) (mg : Str → Option Value) (fa : Addr) (h : Heap), YP w h → h.Ns mainGlobals mg → mg d.name = some (.ref fa) → ∃ (K : PySem.W.Frag) (cs : List (Addr × Addr)), K.In h ∧ (∀ p ∈ cs, ∃ x, TabOf q K x p.1 p.2) ∧
      ∀ base : Heap, K.In base → base.Ns mainGlobals mg → (∀ p ∈ cs, TabB base mg p.1 p.2) → ∀ (s : Shared) (H : Hp) (a : Addr) (ns : List Int), ns.length ≤ n → (∀ p ∈ cs, H p.2 = some (.tbl #[])) → SqL K H a (ns.map V.int) →
        Env0 l.prog w K mg base callerA [] s H → codeAny (model l.prog w) callerA (.call (.ref fa) ⟨[.ref a], []⟩) (CR CX0 [] l.prog w H s (fun v _ => v = .bl true) E0) s) :
    PySem.W.WalkO q loose XP YP l.row.toRowW d [] (fun f vs => PySem.call f vs) := by
  refine Att.attach_callB hn hdf ?_
  intro w s₀ s₁ mg mb fa o pm cd doc a vs ns G Y ho hd hcd hmg hobj hints hlen hbits hg
  obtain ⟨K, cs, kin, TO, run⟩ := F w mg fa _ Y G.T.g hmg
  have TA : TabsAt K s₁.heap cs := by
    refine ⟨fun p hp => ?_, fun p hp => ?_, fun p hp => ?_⟩ <;> obtain ⟨x, ⟨d2, hd2⟩, ht, ho2⟩ := TO p hp
    · exact (PySem.W.tab_of G.T kin hd2 ht).2
    · exact ho2
    · exact (PySem.W.tab_of G.T kin hd2 ht).1
  have rv := vals_ints hints
  have lv := hints.length
  have tabOf : ∀ b, b ∈ cs.map (·.2) → ∃ p ∈ cs, p.2 = b := fun b hb => List.mem_map.mp hb
  have emp : ∀ b, b ∈ cs.map (·.2) → s₁.heap.get? b = some { cls := .none, data := .fields #[] } := fun b hb => by
    obtain ⟨p, hp, rfl⟩ := tabOf b hb
    exact TA.emp p hp
  have aOut : a ∉ cs.map (·.2) := fun z => by
    have e := emp a z
    rw [hobj] at e
    have d2 := congrArg Obj.data (Option.some.inj e)
    cases d2
  have key : ∀ H : Hp, (∀ b, b ∈ cs.map (·.2) → H b = some (.tbl #[])) → (∀ b, b ∈ cs.map (·.2) ∨ H b = none ∨ ∃ ob xs, H b = some (.frz ob (.lst xs))) → SqL K H a (ns.map V.int) → HOk l.prog w H s₁.heap → (∀ b, H b ≠ none → b = a ∨ b ∈ cs.map (·.2)) → (H a ≠ none → K.lookup a = none) →
      codeAny (model l.prog w) callerA (.call (.ref fa) ⟨[.ref a], []⟩) (fun r s' => r = .ok (.ret (.bool true)) ∧ OldK s₁.heap s'.heap ∧ s'.os = s₁.os ∧ AllBare s'.gens) s₁ := by
    intro H tab only sq hok who notK
    -- what is no list and no table is not tracked
    have plain : ∀ {b : Addr} {o : Obj}, s₁.heap.get? b = some o → (∀ xs m, o.data ≠ .seq xs m) → o.data ≠ .fields #[] → H b = none := by
      intro b o e1 e2 e3
      cases h : H b with
      | none => rfl
      | some u =>
        rcases who b (by rw [h]; exact fun z => nomatch z) with e4 | e4
        · rw [e4, hobj] at e1
          cases e1
          exact absurd rfl (e2 _ _)
        · rw [emp b e4] at e1
          cases e1
          exact absurd rfl e3
    have dicts : ∀ {b : Addr} {o : Obj} {es : Array DictEntry} {ep : Nat}, s₁.heap.get? b = some o → o.data = .dict es ep → H b = none := by
      intro b o es ep e1 e2
      refine plain e1 (fun xs m z => ?_) fun z => ?_ <;> rw [e2] at z <;> cases z
    have nsB : ∀ {b : Addr} {m : Str → Option Value}, s₁.heap.Ns b m → (hidT s₁.heap H).Ns b m := by
      rintro b m ⟨o, es, ep, e1, e2, r⟩
      exact ⟨o, es, ep, hidT_get e1 (dicts e1 e2), e2, r⟩
    have kinB : K.In (hidT s₁.heap H) := by
      intro b o e
      refine hidT_get (kin b o e) ?_
      cases h : H b with
      | none => rfl
      | some u =>
        rcases who b (by rw [h]; exact fun z => nomatch z) with e3 | e3
        · rw [e3, notK (by rw [← e3, h]; exact fun z => nomatch z)] at e
          cases e
        · obtain ⟨p, hp, rfl⟩ := tabOf b e3
          rw [TA.out p hp] at e
          cases e
    have TB : ∀ p ∈ cs, TabB (hidT s₁.heap H) mg p.1 p.2 := by
      intro p hp
      have ep := TA.emp p hp
      obtain ⟨o, us, file, tf, flags, tg, inF, text, tt, e1, r1, r2, r3, r4, r5, r6, r7, r8, hne⟩ := TA.cod p hp
      obtain ⟨bm, ob, b1, b2, b3, b4, b5, b6⟩ := G.T.bmain
      have bmG : bm ≠ mainGlobals := by
        intro z
        obtain ⟨o2, es, ep2, e2, hd2, _⟩ := G.T.g
        rw [z, e2] at b3
        cases b3
        rw [hd2] at b6
        cases b6
      have bmP : bm ≠ p.2 := by
        intro z
        rw [z, ep] at b3
        cases b3
        cases b6
      refine ⟨⟨o, us, file, tf, flags, tg, inF, text, tt, hidT_get e1 (plain e1 (fun xs m z => ?_) fun z => ?_), r1, r2, r3, r4, r5, r6, r7, r8, hne⟩, ⟨bm, ob, b1, b2, bmG, bmP, hidT_get b3 (plain b3 (fun xs m z => ?_) fun z => ?_), b4, b5, b6⟩, fun z => ?_⟩
      · rw [r2] at z
        cases z
      · rw [r2] at z
        cases z
        simp at r3
      · rw [b6] at z
        cases z
      · rw [b6] at z
        cases z
      · obtain ⟨o2, es, ep2, e2, hd2, _⟩ := G.T.g
        rw [z, ep] at e2
        cases e2
        cases hd2
    have e0 : Env0 l.prog w K mg (hidT s₁.heap H) callerA [] s₁ H := by
      refine ⟨rfl, ⟨kinB, nsB G.T.g, ⟨mb, nsB G.T.b, G.T.builtins⟩, ?_⟩, fun b o e => of_hidT e, Nat.le_of_eq (hidT_size _ _), trivial, (fun b hb => absurd hb (List.not_mem_nil)), hok, .of_eq hg⟩
      obtain ⟨mc, h1, h2⟩ := G.T.nolimit
      exact ⟨mc, nsB h1, h2⟩
    refine codeAny_mono (run _ kinB (nsB G.T.g) TB s₁ H a ns hlen (fun p hp => tab p.2 (List.mem_map.mpr ⟨p, hp, rfl⟩)) sq e0) ?_
    intro r s' z
    cases r with
    | error e => exact z.elim
    | ok fl =>
      cases fl with
      | next => exact z.elim
      | brk => exact z.elim
      | cont => exact z.elim
      | ret u =>
        obtain ⟨v, H', os, bare, un, hok', rr, qq⟩ := z
        subst qq
        obtain rfl : u = Value.bool true := rr
        have kept : ∀ b o, b ∉ cs.map (·.2) → s₁.heap.get? b = some o → s'.heap.get? b = some o := by
          intro b o out e
          rcases only b with h | h | ⟨ob, xs, h⟩
          · exact absurd h out
          · exact un.keep b o e h (fun z => nomatch z) (fun z => nomatch z)
          · have h1 := (hok b _ h).1
            have h2 := (hok' b _ (un.frzs b ob _ h)).1
            rw [e] at h1
            cases h1
            exact h2
        have more : ∀ p ∈ cs, ∃ xs : Array Value, s'.heap.get? p.2 = some { cls := .none, data := .fields xs } := by
          intro p hp
          obtain ⟨xs, z⟩ := un.tbls p.2 #[] (tab p.2 (List.mem_map.mpr ⟨p, hp, rfl⟩))
          exact ⟨_, hok' p.2 _ z⟩
        refine ⟨rfl, ⟨fun b o e => ?_, fun b o e => ?_⟩, os, bare⟩
        · by_cases hb : b ∈ cs.map (·.2)
          · obtain ⟨p, hp, rfl⟩ := tabOf b hb
            obtain ⟨xs, hx⟩ := more p hp
            rw [TA.emp p hp] at e
            cases e
            exact .inr (.inl ⟨((TA.cod p hp).tab (TA.emp p hp)).isCodeTable, rfl, #[], xs, rfl, by rw [Array.empty_append]; exact hx⟩)
          · exact .inl (kept b o hb e)
        · by_cases hb : b ∈ cs.map (·.2)
          · obtain ⟨p, hp, rfl⟩ := tabOf b hb
            obtain ⟨xs, hx⟩ := more p hp
            exact ⟨_, hx⟩
          · exact ⟨o, kept b o hb e⟩
  have hz : ns.length ≤ sizeLine := Nat.le_trans hlen hn2
  -- the heap that tracks the tables, and the script where it is not written
  have start : ∀ (H : Hp) (keepA : Bool), (∀ b, H b = if b ∈ cs.map (·.2) then some (.tbl #[]) else if keepA = true ∧ b = a then some (HO.frz { cls := .type "list", data := .seq vs.toArray } (.lst (ns.map V.int))) else none) →
      (keepA = true → K.lookup a = none) → SqL K H a (ns.map V.int) → codeAny (model l.prog w) callerA (.call (.ref fa) ⟨[.ref a], []⟩) (fun r s' => r = .ok (.ret (.bool true)) ∧ OldK s₁.heap s'.heap ∧ s'.os = s₁.os ∧ AllBare s'.gens) s₁ := by
    intro H keepA eH ok sq
    have inT : ∀ b, b ∈ cs.map (·.2) → H b = some (.tbl #[]) := fun b hb => by rw [eH, if_pos hb]
    have offT : ∀ b, b ∉ cs.map (·.2) → H b = if keepA = true ∧ b = a then some (HO.frz { cls := .type "list", data := .seq vs.toArray } (.lst (ns.map V.int))) else none := fun b hb => by rw [eH, if_neg hb]
    refine key H inT (fun b => ?_) sq (fun b u e => ?_) (fun b e => ?_) fun e => ?_
    · by_cases hb : b ∈ cs.map (·.2)
      · exact .inl hb
      · have q1 := offT b hb
        by_cases h2 : keepA = true ∧ b = a
        · rw [if_pos h2] at q1
          exact .inr (.inr ⟨_, _, q1⟩)
        · rw [if_neg h2] at q1
          exact .inr (.inl q1)
    · by_cases hb : b ∈ cs.map (·.2)
      · rw [inT b hb] at e
        cases e
        exact emp b hb
      · rw [offT b hb] at e
        by_cases h2 : keepA = true ∧ b = a
        · rw [if_pos h2] at e
          obtain ⟨_, rfl⟩ := h2
          cases e
          exact ⟨hobj, by rw [List.length_map]; exact hz, vs, _, rv, hobj⟩
        · rw [if_neg h2] at e
          cases e
    · by_cases hb : b ∈ cs.map (·.2)
      · exact .inr hb
      · rw [offT b hb] at e
        by_cases h2 : keepA = true ∧ b = a
        · exact .inl h2.2
        · exact absurd (if_neg h2) e
    · rw [offT a aOut] at e
      by_cases h2 : keepA = true ∧ a = a
      · exact ok h2.1
      · exact absurd (if_neg h2) e
  cases hk : K.lookup a with
  | some o =>
    have e := kin a o hk
    rw [hobj] at e
    cases e
    refine start (fun b => if b ∈ cs.map (·.2) then some (.tbl #[]) else none) false (fun b => by simp) (fun z => nomatch z) (.inr ⟨_, vs.toArray, _, hk, rfl, rfl, rfl, ?_, ?_⟩)
    · rw [List.size_toArray, lv]
      exact hz
    · simpa using rv
  | none =>
    refine start (fun b => if b ∈ cs.map (·.2) then some (.tbl #[]) else if b = a then some (.frz { cls := .type "list", data := .seq vs.toArray } (.lst (ns.map V.int))) else none) true (fun b => by simp) (fun _ => hk) (.inl (.inr ⟨{ cls := .type "list", data := .seq vs.toArray }, ?_⟩))
    show (if a ∈ cs.map (·.2) then _ else _) = _
    rw [if_neg aOut, if_pos rfl]
end EX
set_option Elab.async false
set_option linter.all false
set_option maxRecDepth 100000
set_option maxHeartbeats 0
namespace HX03
open PySem PySem.Spec PyProof.Rows L2 EX HkX K03 NZ
theorem fun_ofD {K : PySem.W.Frag} {x qual : Str} {st : Stmt} {kws : List (Str × V)} {f : Addr} {fd : FuncData} (F : FunD K x qual (defArgs st) (defBody st) (defScope st) [] kws f fd) : Fun K x qual st f fd := by
  obtain ⟨oc, od, dV, kV, doc, pm, an, cdv, ct, osl, rfl, lk, hcd, hD, hK⟩ := F.ex
  rcases hD with ⟨_, rfl⟩ | ⟨e, _⟩
  · exact ⟨⟨oc, od, kV, doc, pm, an, cdv, ct, osl, rfl, lk, hcd⟩, F.kp⟩
  · exact absurd rfl e
theorem all_mk {P : Program} {w : World} {K : PySem.W.Frag} {h : Heap} {mg : Str → Option Value} {fa : Addr} (KX : K.In h) (G : h.Ns mainGlobals mg) (hfa : mg ("law" : Str) = some (.ref fa)) (cy : SaysY fx fn ts w K) :
    ∀ base : Heap, K.In base → base.Ns mainGlobals mg → ∀ (s : Shared) (H : Hp) (a : Addr) (ns : List Int), ns.length ≤ 63 → SqL K H a (ns.map V.int) → Env0 P w K mg base callerA [] s H →
      codeAny (model P w) callerA (.call (.ref fa) ⟨[.ref a], []⟩) (CR CX0 [] P w H s (fun v _ => v = .bl true) E0) s := by
  intro base KB GB s H a ns hns hS e0
  have c := cy.d
  have e := hfa.symm.trans (g_law KX G c)
  cases e
  have B : Bn mg := ⟨z_range KX G c, z_max KX G c, z_min KX G c, z_len KX G c, z_all KX G c, z_isinstance KX G c, z_tuple KX G c, z_list KX G c, z_set KX G c, z_int KX G c, z_bool KX G c, z_str KX G c, z_sorted KX G c, z_repr KX G c, k_LONGEST_WORD KX G c, k_MOST_KEYS KX G c, k_STORE KX G c, k_MOST_WAITING KX G c, z_dict KX G c, z_any KX G c, z_KeyError KX G c, k_GREATEST_ALLOWANCE KX G c⟩
  have TC : CacheC K (He.ga K "Cache") := ⟨c_Cache c, n_Cache_home c, n_Cache_label c, n_Cache_above c, n_Cache_row c, n_Cache_gone c, n_Cache_cells c, n_Cache_entries c, n_Cache_kids c⟩
  have TE : EntryC K (He.ga K "Entry") := ⟨c_Entry c, n_Entry_above c, n_Entry_down_link c, n_Entry_up_link c, n_Entry_cells c, n_Entry_raising c, n_Entry_there c, n_Entry_crashed c, n_Entry_down c, n_Entry_up c⟩
  have TN : NetC K (He.ga K "Net") := ⟨c_Net c, n_Net_words c, n_Net_top c, n_Net_nodes c, n_Net_labels c, n_Net_rows c, n_Net_done c, n_Net_kept c, n_Net_accepted c, n_Net_stamps c, n_Net_questions c, n_Net_trails c, n_Net_answered c, n_Net_receipts c⟩
  obtain ⟨fd_InvalidKeys___init__, F_InvalidKeys___init__⟩ := d_InvalidKeys___init__ c
  have b_InvalidKeys___init__ := F_InvalidKeys___init__.binds (ps := ["self", "given"]) fun _ _ _ _ _ _ us hl => match us, hl with | [_, _], _ => rfl
  obtain ⟨fd_InvalidName___init__, F_InvalidName___init__⟩ := d_InvalidName___init__ c
  have b_InvalidName___init__ := F_InvalidName___init__.binds (ps := ["self", "given"]) fun _ _ _ _ _ _ us hl => match us, hl with | [_, _], _ => rfl
  obtain ⟨fd_InvalidAllowance___init__, F_InvalidAllowance___init__⟩ := d_InvalidAllowance___init__ c
  have b_InvalidAllowance___init__ := F_InvalidAllowance___init__.binds (ps := ["self", "given"]) fun _ _ _ _ _ _ us hl => match us, hl with | [_, _], _ => rfl
  obtain ⟨fd_UnknownNode___init__, F_UnknownNode___init__⟩ := d_UnknownNode___init__ c
  have b_UnknownNode___init__ := F_UnknownNode___init__.binds (ps := ["self", "node"]) fun _ _ _ _ _ _ us hl => match us, hl with | [_, _], _ => rfl
  obtain ⟨fd_NameTaken___init__, F_NameTaken___init__⟩ := d_NameTaken___init__ c
  have b_NameTaken___init__ := F_NameTaken___init__.binds (ps := ["self", "node"]) fun _ _ _ _ _ _ us hl => match us, hl with | [_, _], _ => rfl
  obtain ⟨fd_NotReady___init__, F_NotReady___init__⟩ := d_NotReady___init__ c
  have b_NotReady___init__ := F_NotReady___init__.binds (ps := ["self", "node"]) fun _ _ _ _ _ _ us hl => match us, hl with | [_, _], _ => rfl
  obtain ⟨fd_TooLow___init__, F_TooLow___init__⟩ := d_TooLow___init__ c
  have b_TooLow___init__ := F_TooLow___init__.binds (ps := ["self", "least"]) fun _ _ _ _ _ _ us hl => match us, hl with | [_, _], _ => rfl
  obtain ⟨fd_LimitExceeded___init__, F_LimitExceeded___init__⟩ := d_LimitExceeded___init__ c
  have b_LimitExceeded___init__ := F_LimitExceeded___init__.binds (ps := ["self", "limit"]) fun _ _ _ _ _ _ us hl => match us, hl with | [_, _], _ => rfl
  obtain ⟨fd_Entry___init__, F_Entry___init__⟩ := d_Entry___init__ c
  have b_Entry___init__ := F_Entry___init__.binds (ps := ["self", "down_link", "up_link", "cells"]) fun _ _ _ _ _ _ us hl => match us, hl with | [_, _, _, _], _ => rfl
  obtain ⟨fd_Cache___init__, F_Cache___init__⟩ := d_Cache___init__ c
  have b_Cache___init__ := F_Cache___init__.binds (ps := ["self", "home", "label", "above", "row", "cells"]) fun _ _ _ _ _ _ us hl => match us, hl with | [_, _, _, _, _, _], _ => rfl
  obtain ⟨fd_Cache_told, F_Cache_told⟩ := d_Cache_told c
  have b_Cache_told := F_Cache_told.binds (ps := ["self", "key"]) fun _ _ _ _ _ _ us hl => match us, hl with | [_, _], _ => rfl
  obtain ⟨fd_Cache_bound, F_Cache_bound⟩ := d_Cache_bound c
  have b_Cache_bound := F_Cache_bound.binds (ps := ["self", "key"]) fun _ _ _ _ _ _ us hl => match us, hl with | [_, _], _ => rfl
  obtain ⟨fd_Cache_serves, F_Cache_serves⟩ := d_Cache_serves c
  have b_Cache_serves := F_Cache_serves.binds (ps := ["self", "key", "need", "floor"]) fun _ _ _ _ _ _ us hl => match us, hl with | [_, _, _, _], _ => rfl
  obtain ⟨fd_Cache_agrees, F_Cache_agrees⟩ := d_Cache_agrees c
  have b_Cache_agrees := F_Cache_agrees.binds (ps := ["self", "key", "allowance"]) fun _ _ _ _ _ _ us hl => match us, hl with | [_, _, _], _ => rfl
  obtain ⟨fd_is_word, F_is_word⟩ := d_is_word c
  have b_is_word := F_is_word.binds (ps := ["obj"]) fun _ _ _ _ _ _ us hl => match us, hl with | [_], _ => rfl
  obtain ⟨fd_are_keys, F_are_keys⟩ := d_are_keys c
  have b_are_keys := F_are_keys.binds (ps := ["obj"]) fun _ _ _ _ _ _ us hl => match us, hl with | [_], _ => rfl
  obtain ⟨fd_is_allowance, F_is_allowance⟩ := d_is_allowance c
  have b_is_allowance := F_is_allowance.binds (ps := ["obj"]) fun _ _ _ _ _ _ us hl => match us, hl with | [_], _ => rfl
  obtain ⟨fd_are_allowances, F_are_allowances⟩ := d_are_allowances c
  have b_are_allowances := F_are_allowances.binds (ps := ["obj", "keys"]) fun _ _ _ _ _ _ us hl => match us, hl with | [_, _], _ => rfl
  obtain ⟨fd_is_integer_within, F_is_integer_within⟩ := d_is_integer_within c
  have b_is_integer_within := F_is_integer_within.binds (ps := ["obj", "low", "high"]) fun _ _ _ _ _ _ us hl => match us, hl with | [_, _, _], _ => rfl
  obtain ⟨fd_send_to_children, F_send_to_children⟩ := d_send_to_children c
  have b_send_to_children := F_send_to_children.binds (ps := ["node", "message"]) fun _ _ _ _ _ _ us hl => match us, hl with | [_, _], _ => rfl
  obtain ⟨fd_accept, F_accept⟩ := d_accept c
  have b_accept := F_accept.binds (ps := ["net", "key", "value"]) fun _ _ _ _ _ _ us hl => match us, hl with | [_, _, _], _ => rfl
  obtain ⟨fd_accept_waiting, F_accept_waiting⟩ := d_accept_waiting c
  have b_accept_waiting := F_accept_waiting.binds (ps := ["net", "key"]) fun _ _ _ _ _ _ us hl => match us, hl with | [_, _], _ => rfl
  obtain ⟨fd_renew, F_renew⟩ := d_renew c
  have b_renew := F_renew.binds (ps := ["node", "key", "copy", "allowance", "told", "asked"]) fun _ _ _ _ _ _ us hl => match us, hl with | [_, _, _, _, _, _], _ => rfl
  obtain ⟨fd_settle, F_settle⟩ := d_settle c
  have b_settle := F_settle.binds (ps := ["net", "node", "key"]) fun _ _ _ _ _ _ us hl => match us, hl with | [_, _, _], _ => rfl
  obtain ⟨fd_start_child, F_start_child⟩ := d_start_child c
  have b_start_child := F_start_child.binds (ps := ["net", "node", "child", "row"]) fun _ _ _ _ _ _ us hl => match us, hl with | [_, _, _, _], _ => rfl
  obtain ⟨fd_add_child, F_add_child⟩ := d_add_child c
  have b_add_child := F_add_child.binds (ps := ["net", "node", "child", "pairs"]) fun _ _ _ _ _ _ us hl => match us, hl with | [_, _, _, _], _ => rfl
  obtain ⟨fd_rows_from, F_rows_from⟩ := d_rows_from c
  have b_rows_from := F_rows_from.binds (ps := ["net", "node", "key"]) fun _ _ _ _ _ _ us hl => match us, hl with | [_, _, _], _ => rfl
  obtain ⟨fd_give, F_give⟩ := d_give c
  have b_give := F_give.binds (ps := ["net", "node", "question", "key", "need", "floor"]) fun _ _ _ _ _ _ us hl => match us, hl with | [_, _, _, _, _, _], _ => rfl
  obtain ⟨fd_ask, F_ask⟩ := d_ask c
  have b_ask := F_ask.binds (ps := ["net", "node", "key", "need", "floor"]) fun _ _ _ _ _ _ us hl => match us, hl with | [_, _, _, _, _], _ => rfl
  obtain ⟨fd_hear_question, F_hear_question⟩ := d_hear_question c
  have b_hear_question := F_hear_question.binds (ps := ["net", "node", "sender", "message"]) fun _ _ _ _ _ _ us hl => match us, hl with | [_, _, _, _], _ => rfl
  obtain ⟨fd_hear_copy, F_hear_copy⟩ := d_hear_copy c
  have b_hear_copy := F_hear_copy.binds (ps := ["net", "node", "sender", "message"]) fun _ _ _ _ _ _ us hl => match us, hl with | [_, _, _, _], _ => rfl
  obtain ⟨fd_hear_update, F_hear_update⟩ := d_hear_update c
  have b_hear_update := F_hear_update.binds (ps := ["net", "node", "sender", "message"]) fun _ _ _ _ _ _ us hl => match us, hl with | [_, _, _, _], _ => rfl
  obtain ⟨fd_hear_lower, F_hear_lower⟩ := d_hear_lower c
  have b_hear_lower := F_hear_lower.binds (ps := ["net", "node", "sender", "message"]) fun _ _ _ _ _ _ us hl => match us, hl with | [_, _, _, _], _ => rfl
  obtain ⟨fd_hear_raise, F_hear_raise⟩ := d_hear_raise c
  have b_hear_raise := F_hear_raise.binds (ps := ["net", "node", "sender", "message"]) fun _ _ _ _ _ _ us hl => match us, hl with | [_, _, _, _], _ => rfl
  obtain ⟨fd_hear_confirm, F_hear_confirm⟩ := d_hear_confirm c
  have b_hear_confirm := F_hear_confirm.binds (ps := ["net", "node", "sender", "message"]) fun _ _ _ _ _ _ us hl => match us, hl with | [_, _, _, _], _ => rfl
  obtain ⟨fd_Net___init__, F_Net___init__⟩ := d_Net___init__ c
  have b_Net___init__ := F_Net___init__.binds (ps := ["self", "keys"]) fun _ _ _ _ _ _ us hl => match us, hl with | [_, _], _ => rfl
  obtain ⟨fd_Net___getitem__, F_Net___getitem__⟩ := d_Net___getitem__ c
  have b_Net___getitem__ := F_Net___getitem__.binds (ps := ["self", "at"]) fun _ _ _ _ _ _ us hl => match us, hl with | [_, _], _ => rfl
  obtain ⟨fd_Net_check_key, F_Net_check_key⟩ := d_Net_check_key c
  have b_Net_check_key := F_Net_check_key.binds (ps := ["self", "key"]) fun _ _ _ _ _ _ us hl => match us, hl with | [_, _], _ => rfl
  obtain ⟨fd_Net_check_need, F_Net_check_need⟩ := d_Net_check_need c
  have b_Net_check_need := F_Net_check_need.binds (ps := ["self", "key", "need", "floor"]) fun _ _ _ _ _ _ us hl => match us, hl with | [_, _, _, _], _ => rfl
  obtain ⟨fd_Net_join, F_Net_join⟩ := d_Net_join c
  have b_Net_join := F_Net_join.binds (ps := ["self", "name", "parent", "allowances"]) fun _ _ _ _ _ _ us hl => match us, hl with | [_, _, _, _], _ => rfl
  obtain ⟨fd_Net_write, F_Net_write⟩ := d_Net_write c
  have b_Net_write := F_Net_write.binds (ps := ["self", "key", "value"]) fun _ _ _ _ _ _ us hl => match us, hl with | [_, _, _], _ => rfl
  obtain ⟨fd_Net_read, D_Net_read⟩ := d_Net_read c
  have F_Net_read := fun_ofD D_Net_read
  obtain ⟨ds_Net_read, v_Net_read, b_Net_read⟩ := D_Net_read.binds0 (ps := ["self", "name", "key", "need", "floor"]) 4 (by intro z; cases z) rfl (fun D doc pm an cdv ct us ks hl hk => match us, hl, ks, hk with | [_, _, _, _], _, [_], _ => ⟨_, _, _, _, _, _, rfl, rfl, rfl⟩)
  obtain ⟨fd_Net_deliver, F_Net_deliver⟩ := d_Net_deliver c
  have b_Net_deliver := F_Net_deliver.binds (ps := ["self", "sender", "receiver"]) fun _ _ _ _ _ _ us hl => match us, hl with | [_, _, _], _ => rfl
  obtain ⟨fd_Net_answer, F_Net_answer⟩ := d_Net_answer c
  have b_Net_answer := F_Net_answer.binds (ps := ["self", "question"]) fun _ _ _ _ _ _ us hl => match us, hl with | [_, _], _ => rfl
  obtain ⟨fd_Net_number, F_Net_number⟩ := d_Net_number c
  have b_Net_number := F_Net_number.binds (ps := ["self", "key"]) fun _ _ _ _ _ _ us hl => match us, hl with | [_, _], _ => rfl
  obtain ⟨fd_Net_waiting, F_Net_waiting⟩ := d_Net_waiting c
  have b_Net_waiting := F_Net_waiting.binds (ps := ["self", "key"]) fun _ _ _ _ _ _ us hl => match us, hl with | [_, _], _ => rfl
  obtain ⟨fd_Net_age, F_Net_age⟩ := d_Net_age c
  have b_Net_age := F_Net_age.binds (ps := ["self", "name", "key"]) fun _ _ _ _ _ _ us hl => match us, hl with | [_, _, _], _ => rfl
  obtain ⟨fd_Net_messages, F_Net_messages⟩ := d_Net_messages c
  have b_Net_messages := F_Net_messages.binds (ps := ["self", "sender", "receiver"]) fun _ _ _ _ _ _ us hl => match us, hl with | [_, _, _], _ => rfl
  obtain ⟨fd__law_source, F__law_source⟩ := d__law_source c
  have b__law_source := F__law_source.binds (ps := ["_law_script", "_law_turn"]) fun _ _ _ _ _ _ us hl => match us, hl with | [_, _], _ => rfl
  obtain ⟨fd__law_draw, F__law_draw⟩ := d__law_draw c
  have b__law_draw := F__law_draw.binds (ps := ["_law_source_here", "_law_amount"]) fun _ _ _ _ _ _ us hl => match us, hl with | [_, _], _ => rfl
  obtain ⟨fd__law_chain, F__law_chain⟩ := d__law_chain c
  have b__law_chain := F__law_chain.binds (ps := ["_law_first", "_law_second"]) fun _ _ _ _ _ _ us hl => match us, hl with | [_, _], _ => rfl
  obtain ⟨fd__law_steps_right, F__law_steps_right⟩ := d__law_steps_right c
  have b__law_steps_right := F__law_steps_right.binds (ps := ["_law_net", "_law_steps"]) fun _ _ _ _ _ _ us hl => match us, hl with | [_, _], _ => rfl
  obtain ⟨fd__law_first_right, F__law_first_right⟩ := d__law_first_right c
  have b__law_first_right := F__law_first_right.binds (ps := ["_law_values"]) fun _ _ _ _ _ _ us hl => match us, hl with | [_], _ => rfl
  obtain ⟨fd__law_second_right, F__law_second_right⟩ := d__law_second_right c
  have b__law_second_right := F__law_second_right.binds (ps := ["_law_values"]) fun _ _ _ _ _ _ us hl => match us, hl with | [_], _ => rfl
  obtain ⟨fd_law, F_law⟩ := d_law c
  have rIK := r_InvalidKeys c
  have XIK : XrAt P w K mg base "InvalidKeys" "given" (He.ga K "InvalidKeys") := ⟨e_InvalidKeys c, g_InvalidKeys KX G c, rIK.1, rIK.2.1, _, _, rIK.2.2.1, rIK.2.2.2.1, ok_IK F_InvalidKeys___init__ (e_InvalidKeys c) rIK.2.2.2.2, b_InvalidKeys___init__⟩
  have rIN := r_InvalidName c
  have XIN : XrAt P w K mg base "InvalidName" "given" (He.ga K "InvalidName") := ⟨e_InvalidName c, g_InvalidName KX G c, rIN.1, rIN.2.1, _, _, rIN.2.2.1, rIN.2.2.2.1, ok_IN F_InvalidName___init__ (e_InvalidName c) rIN.2.2.2.2, b_InvalidName___init__⟩
  have rIA := r_InvalidAllowance c
  have XIA : XrAt P w K mg base "InvalidAllowance" "given" (He.ga K "InvalidAllowance") := ⟨e_InvalidAllowance c, g_InvalidAllowance KX G c, rIA.1, rIA.2.1, _, _, rIA.2.2.1, rIA.2.2.2.1, ok_IA F_InvalidAllowance___init__ (e_InvalidAllowance c) rIA.2.2.2.2, b_InvalidAllowance___init__⟩
  have rUN := r_UnknownNode c
  have XUN : XrAt P w K mg base "UnknownNode" "node" (He.ga K "UnknownNode") := ⟨e_UnknownNode c, g_UnknownNode KX G c, rUN.1, rUN.2.1, _, _, rUN.2.2.1, rUN.2.2.2.1, ok_UN F_UnknownNode___init__ (e_UnknownNode c) rUN.2.2.2.2, b_UnknownNode___init__⟩
  have rNT := r_NameTaken c
  have XNT : XrAt P w K mg base "NameTaken" "node" (He.ga K "NameTaken") := ⟨e_NameTaken c, g_NameTaken KX G c, rNT.1, rNT.2.1, _, _, rNT.2.2.1, rNT.2.2.2.1, ok_NT F_NameTaken___init__ (e_NameTaken c) rNT.2.2.2.2, b_NameTaken___init__⟩
  have rNR := r_NotReady c
  have XNR : XrAt P w K mg base "NotReady" "node" (He.ga K "NotReady") := ⟨e_NotReady c, g_NotReady KX G c, rNR.1, rNR.2.1, _, _, rNR.2.2.1, rNR.2.2.2.1, ok_NR F_NotReady___init__ (e_NotReady c) rNR.2.2.2.2, b_NotReady___init__⟩
  have rTL := r_TooLow c
  have XTL : XrAt P w K mg base "TooLow" "least" (He.ga K "TooLow") := ⟨e_TooLow c, g_TooLow KX G c, rTL.1, rTL.2.1, _, _, rTL.2.2.1, rTL.2.2.2.1, ok_TL F_TooLow___init__ (e_TooLow c) rTL.2.2.2.2, b_TooLow___init__⟩
  have rLE := r_LimitExceeded c
  have XLE : XrAt P w K mg base "LimitExceeded" "limit" (He.ga K "LimitExceeded") := ⟨e_LimitExceeded c, g_LimitExceeded KX G c, rLE.1, rLE.2.1, _, _, rLE.2.2.1, rLE.2.2.2.1, ok_LE F_LimitExceeded___init__ (e_LimitExceeded c) rLE.2.2.2.2, b_LimitExceeded___init__⟩
  obtain ⟨cs, ecs⟩ : ∃ cs : Cs, cs = ⟨(He.ga K "Cache"), (He.ga K "Entry"), (He.ga K "Net")⟩ := ⟨_, rfl⟩
  obtain ⟨X, eX⟩ : ∃ X : Xs, X = ⟨He.ga K "InvalidName", He.ga K "NameTaken", He.ga K "UnknownNode", He.ga K "InvalidAllowance", He.ga K "LimitExceeded", He.ga K "NotReady", He.ga K "TooLow"⟩ := ⟨_, rfl⟩
  have eC : cs.C = (He.ga K "Cache") := by rw [ecs]
  have eE : cs.E = (He.ga K "Entry") := by rw [ecs]
  have eN : cs.N = (He.ga K "Net") := by rw [ecs]
  have eIN : X.IN = He.ga K "InvalidName" := by rw [eX]
  have eNT : X.NT = He.ga K "NameTaken" := by rw [eX]
  have eUN : X.UN = He.ga K "UnknownNode" := by rw [eX]
  have eIA : X.IA = He.ga K "InvalidAllowance" := by rw [eX]
  have eLE : X.LE = He.ga K "LimitExceeded" := by rw [eX]
  have eNR : X.NR = He.ga K "NotReady" := by rw [eX]
  have eTL : X.TL = He.ga K "TooLow" := by rw [eX]
  rw [← eC] at TC
  rw [← eE] at TE
  rw [← eN] at TN
  rw [← eIN] at XIN
  rw [← eNT] at XNT
  rw [← eUN] at XUN
  rw [← eIA] at XIA
  rw [← eLE] at XLE
  rw [← eNR] at XNR
  rw [← eTL] at XTL
  have GW : DefAt P w K mg base 1 "is_word" ["obj"] (spWord) := ⟨_, _, ok_word F_is_word B, g_is_word KX G c, F_is_word.kp, b_is_word⟩
  have GWb : DefAt P w K mg base 1 "is_word" ["obj"] (spWordB K) := ⟨_, _, ok_wordB F_is_word B, g_is_word KX G c, F_is_word.kp, b_is_word⟩
  have GK : DefAt P w K mg base 2 "are_keys" ["obj"] (spKeys K) := ⟨_, _, ok_keys F_are_keys B GW, g_are_keys KX G c, F_are_keys.kp, b_are_keys⟩
  have GA : DefAt P w K mg base 1 "is_allowance" ["obj"] (spAlw1) := ⟨_, _, ok_ia F_is_allowance B, g_is_allowance KX G c, F_is_allowance.kp, b_is_allowance⟩
  have GAa : DefAt P w K mg base 2 "are_allowances" ["obj", "keys"] (spAlws K) := ⟨_, _, ok_aa F_are_allowances B GA, g_are_allowances KX G c, F_are_allowances.kp, b_are_allowances⟩
  have MC : MkAt P w K mg base CX0 1 "Cache" ["self", "home", "label", "above", "row", "cells"] cs.C (spCI K cs.C) := ⟨by rw [eC]; exact g_Cache KX G c, _, _, by rw [eC]; exact mk_Cache c, ok_ci F_Cache___init__ TC, b_Cache___init__⟩
  have ME : MkAt P w K mg base CX0 1 "Entry" ["self", "down_link", "up_link", "cells"] cs.E (spEI K cs.E) := ⟨by rw [eE]; exact g_Entry KX G c, _, _, by rw [eE]; exact mk_Entry c, ok_ei F_Entry___init__ TE, b_Entry___init__⟩
  have MN : MkX P w K mg base 3 "Net" ["self", "keys"] cs.N (spNI K cs (He.ga K "InvalidKeys")) := ⟨by rw [eN]; exact g_Net KX G c, _, _, by rw [eN]; exact mk_Net c, ok_ni F_Net___init__ B TN GK MC XIK, b_Net___init__⟩
  have GTo : MtAt P w K mg base CX0 1 cs.C "told" ["self", "key"] (spTold cs.C) := ⟨by rw [eC]; exact c_Cache c, _, _, by rw [eC]; exact m_Cache_told c, ok_to F_Cache_told B TC, b_Cache_told⟩
  have GBo : MtAt P w K mg base CX0 1 cs.C "bound" ["self", "key"] (spBound cs) := ⟨by rw [eC]; exact c_Cache c, _, _, by rw [eC]; exact m_Cache_bound c, ok_bo F_Cache_bound B TC, b_Cache_bound⟩
  have GSv : MtAt P w K mg base CX0 1 cs.C "serves" ["self", "key", "need", "floor"] (spServes cs) := ⟨by rw [eC]; exact c_Cache c, _, _, by rw [eC]; exact m_Cache_serves c, ok_sv F_Cache_serves TC, b_Cache_serves⟩
  have GAg : MtAt P w K mg base CX0 1 cs.C "agrees" ["self", "key", "allowance"] (spAgrees cs) := ⟨by rw [eC]; exact c_Cache c, _, _, by rw [eC]; exact m_Cache_agrees c, ok_ag F_Cache_agrees TC TE, b_Cache_agrees⟩
  have DG : DunX P w K mg base 3 cs.N "__getitem__" ["self", "at"] (spNGet K cs X.UN) := ⟨_, _, by rw [eN]; exact (u_Net___getitem__ c).1, (u_Net___getitem__ c).2.1, (u_Net___getitem__ c).2.2, ok_nget F_Net___getitem__ B TN XUN, b_Net___getitem__⟩
  have GMs : MtAt P w K mg base CX0 1 cs.N "messages" ["self", "sender", "receiver"] (spMsg cs) := ⟨by rw [eN]; exact c_Net c, _, _, by rw [eN]; exact m_Net_messages c, ok_msg (UN := X.UN) F_Net_messages B TN TE, b_Net_messages⟩
  have GSc : DefAt P w K mg base 3 "start_child" ["net", "node", "child", "row"] (spStart cs) := ⟨_, _, ok_sc F_start_child B TN TC TE MC, g_start_child KX G c, F_start_child.kp, b_start_child⟩
  have GAc : DefAt P w K mg base 4 "add_child" ["net", "node", "child", "pairs"] (spAdd cs) := ⟨_, _, ok_ac F_add_child B TN TC TE ME GSc, g_add_child KX G c, F_add_child.kp, b_add_child⟩
  have GJn : MtX P w K mg base 5 cs.N "join" ["self", "name", "parent", "allowances"] (spJoin K cs X) := ⟨by rw [eN]; exact c_Net c, _, _, by rw [eN]; exact m_Net_join c, ok_join F_Net_join B TN TC (g_Net KX G c) (ci_Net_MOST c).1 (ci_Net_MOST c).2 XIN XNT XUN XIA XLE XNR XTL GWb GAa GAc, b_Net_join⟩
  have GSd : DefAt P w K mg base 1 "send_to_children" ["node", "message"] (spSend cs) := ⟨_, _, ok_sd F_send_to_children TC TE, g_send_to_children KX G c, F_send_to_children.kp, b_send_to_children⟩
  have GAp : DefAt P w K mg base 2 "accept" ["net", "key", "value"] (spAcc cs) := ⟨_, _, ok_ap F_accept B TN TC TE GSd, g_accept KX G c, F_accept.kp, b_accept⟩
  have GWr : MtAt P w K mg base CX0 3 cs.N "write" ["self", "key", "value"] (spWrite cs) := ⟨by rw [eN]; exact c_Net c, _, _, by rw [eN]; exact m_Net_write c, ok_write F_Net_write B TN GAp, b_Net_write⟩
  have GRn : DefAt P w K mg base 2 "renew" ["node", "key", "copy", "allowance", "told", "asked"] (spRenew cs) := ⟨_, _, ok_rn F_renew TC TE GAg, g_renew KX G c, F_renew.kp, b_renew⟩
  have GAw : DefAt P w K mg base 3 "accept_waiting" ["net", "key"] (spAw cs) := ⟨_, _, ok_aw F_accept_waiting TN GAp, g_accept_waiting KX G c, F_accept_waiting.kp, b_accept_waiting⟩
  have GSt : DefAt P w K mg base 4 "settle" ["net", "node", "key"] (spSettle cs) := ⟨_, _, ok_st F_settle TN TC GAw GRn, g_settle KX G c, F_settle.kp, b_settle⟩
  have GRf : DefAt P w K mg base 1 "rows_from" ["net", "node", "key"] (spRows cs) := ⟨_, _, ok_rf F_rows_from B TN TC TE, g_rows_from KX G c, F_rows_from.kp, b_rows_from⟩
  have GGi : DefAt P w K mg base 2 "give" ["net", "node", "question", "key", "need", "floor"] (spGive cs) := ⟨_, _, ok_gi F_give TN TC GRf, g_give KX G c, F_give.kp, b_give⟩
  have GAs : DefAt P w K mg base 3 "ask" ["net", "node", "key", "need", "floor"] (spAsk cs) := ⟨_, _, ok_as F_ask TN TC TE GSv GGi, g_ask KX G c, F_ask.kp, b_ask⟩
  obtain ⟨es, en, KD⟩ := cy.tab 0
  have hh_copy : Held P w K mg base 5 (He.ga K "hear_copy") (spArr cs "copy") := ⟨_, _, arr_copy (ok_hc F_hear_copy GRn) (by decide), F_hear_copy.kp, b_hear_copy⟩
  have hh_update : Held P w K mg base 5 (He.ga K "hear_update") (spArr cs "update") := ⟨_, _, arr_update (ok_hup F_hear_update TC GRn GSd) (by decide), F_hear_update.kp, b_hear_update⟩
  have hh_lower : Held P w K mg base 5 (He.ga K "hear_lower") (spArr cs "lower") := ⟨_, _, arr_lower (ok_hl F_hear_lower TC GRn) (by decide), F_hear_lower.kp, b_hear_lower⟩
  have hh_raise : Held P w K mg base 5 (He.ga K "hear_raise") (spArr cs "raise") := ⟨_, _, arr_raise (ok_hra F_hear_raise TC GRn) (by decide), F_hear_raise.kp, b_hear_raise⟩
  have hh_confirm : Held P w K mg base 5 (He.ga K "hear_confirm") (spArr cs "confirm") := ⟨_, _, arr_confirm (ok_hf F_hear_confirm TC TE GSt) (by decide), F_hear_confirm.kp, b_hear_confirm⟩
  have hh_question : Held P w K mg base 5 (He.ga K "hear_question") (spArr cs "question") := ⟨_, _, arr_question (ok_hq F_hear_question TN TC TE GSv GGi) (by decide), F_hear_question.kp, b_hear_question⟩
  have HA : ArrOk P w K mg base cs (He.ga K "ARRIVALS") := fun tag ht => by
    rcases List.mem_cons.mp ht with rfl | ht
    · exact ⟨_, v_ARRIVALS_copy c, hh_copy⟩
    rcases List.mem_cons.mp ht with rfl | ht
    · exact ⟨_, v_ARRIVALS_update c, hh_update⟩
    rcases List.mem_cons.mp ht with rfl | ht
    · exact ⟨_, v_ARRIVALS_lower c, hh_lower⟩
    rcases List.mem_cons.mp ht with rfl | ht
    · exact ⟨_, v_ARRIVALS_raise c, hh_raise⟩
    rcases List.mem_cons.mp ht with rfl | ht
    · exact ⟨_, v_ARRIVALS_confirm c, hh_confirm⟩
    rcases List.mem_cons.mp ht with rfl | ht
    · exact ⟨_, v_ARRIVALS_question c, hh_question⟩
    cases ht
  have GDv : MtAt P w K mg base CX0 6 cs.N "deliver" ["self", "sender", "receiver"] (spDel cs) := ⟨by rw [eN]; exact c_Net c, _, _, by rw [eN]; exact m_Net_deliver c, ok_dv F_Net_deliver B TN TE (g_ARRIVALS KX G c) KD HA, b_Net_deliver⟩
  have GCk : MtAt P w K mg base CX0 1 cs.N "check_key" ["self", "key"] (spCheckKey cs) := ⟨by rw [eN]; exact c_Net c, _, _, by rw [eN]; exact m_Net_check_key c, ok_ck2 F_Net_check_key B TN, b_Net_check_key⟩
  have GCn : MtAt P w K mg base CX0 1 cs.N "check_need" ["self", "key", "need", "floor"] (spCheckNeed cs) := ⟨by rw [eN]; exact c_Net c, _, _, by rw [eN]; exact m_Net_check_need c, ok_cn F_Net_check_need B TN TC (k_GREATEST_NEED KX G c), b_Net_check_need⟩
  have GNu : MtAt P w K mg base CX0 1 cs.N "number" ["self", "key"] (spNumber cs) := ⟨by rw [eN]; exact c_Net c, _, _, by rw [eN]; exact m_Net_number c, ok_nu F_Net_number B TN TC, b_Net_number⟩
  have GWa : MtAt P w K mg base CX0 1 cs.N "waiting" ["self", "key"] (spWaiting cs) := ⟨by rw [eN]; exact c_Net c, _, _, by rw [eN]; exact m_Net_waiting c, ok_wa F_Net_waiting B TN, b_Net_waiting⟩
  have GAge : MtAt P w K mg base CX0 2 cs.N "age" ["self", "name", "key"] (spAge cs) := ⟨by rw [eN]; exact c_Net c, _, _, by rw [eN]; exact m_Net_age c, ok_age F_Net_age B TN TC GCk, b_Net_age⟩
  have GIw : DefAt P w K mg base 1 "is_integer_within" ["obj", "low", "high"] (spIw) := ⟨_, _, ok_iw (c := cs) F_is_integer_within B, g_is_integer_within KX G c, F_is_integer_within.kp, b_is_integer_within⟩
  have GAn : MtAt P w K mg base CX0 2 cs.N "answer" ["self", "question"] (spAnswer cs) := ⟨by rw [eN]; exact c_Net c, _, _, by rw [eN]; exact m_Net_answer c, ok_an F_Net_answer B TN GIw, b_Net_answer⟩
  have GRe : MtDf P w K mg base 4 cs.N "read" ["self", "name", "key", "need", "floor"] (spRead cs) [.int 0] := ⟨by rw [eN]; exact c_Net c, _, _, _, by rw [eN]; exact m_Net_read c, ok_re F_Net_read B TN TC GCn GAs, b_Net_read, v_Net_read⟩
  have GSo : DefAt P w K mg base 1 "_law_source" ["_law_script", "_law_turn"] (spSource K) := ⟨_, _, ok_source F__law_source ⟨B.len, B.max⟩, g__law_source KX G c, F__law_source.kp, b__law_source⟩
  have GDr : DefAt P w K mg base 1 "_law_draw" ["_law_source_here", "_law_amount"] (spDraw) := ⟨_, _, ok_draw F__law_draw, g__law_draw KX G c, F__law_draw.kp, b__law_draw⟩
  have GCh : DefAt P w K mg base 7 "_law_chain" ["_law_first", "_law_second"] (spChain cs) := ⟨_, _, ok_ch F__law_chain B TN MN GJn GDv, g__law_chain KX G c, F__law_chain.kp, b__law_chain⟩
  have GSr : DefAt P w K mg base 7 "_law_steps_right" ["_law_net", "_law_steps"] (spSteps cs) := ⟨_, _, ok_sr F__law_steps_right B GMs GDv, g__law_steps_right KX G c, F__law_steps_right.kp, b__law_steps_right⟩
  have GFi : DefAt P w K mg base 8 "_law_first_right" ["_law_values"] (spVals) := ⟨_, _, ok_fi F__law_first_right B TN DG GTo GBo GNu GAge GWa GMs GWr GCh GSr, g__law_first_right KX G c, F__law_first_right.kp, b__law_first_right⟩
  have GSe : DefAt P w K mg base 8 "_law_second_right" ["_law_values"] (spVals) := ⟨_, _, ok_se F__law_second_right B TN DG GTo GBo GNu GAge GWa GMs GWr GCh GSr GRe GAn, g__law_second_right KX G c, F__law_second_right.kp, b__law_second_right⟩
  have bL : ∀ (s : Shared) (u : Value), BindsTo s fd_law ⟨[u], []⟩ [("_law_script", u)] := by
    obtain ⟨oc, od, kV, doc, pm, an, cdv, ct, osl, rfl, _⟩ := F_law.ex
    exact fun s u => .of_eq rfl
  exact run_law (c := cs) F_law B GSo GDr GFi GSe bL e0 hS hns
end HX03
set_option Elab.async false
set_option linter.all false
set_option maxRecDepth 100000
set_option maxHeartbeats 0
open PySem PySem.W PySem.Calls PyProof.Rows in
theorem PySem.Challenge.cw_slackcache_k03_known_chains_holds : PySem.Challenge.rw_slackcache_k03_known_chains.Holds := by
  w_on; o_law
  refine HandSHeadRun.head_any (r := OpenLaw.row PySem.Challenge.rw_slackcache_k03_known_chains) (q := view (OpenLaw.row PySem.Challenge.rw_slackcache_k03_known_chains).prog [71]) (H := HX03.hk) (ob := HX03.ob) (M := 60000) (loose := HX03.names) (d := HandSHeadRun.topDef (OpenLaw.row PySem.Challenge.rw_slackcache_k03_known_chains).prog 71) (kwd := []) HX03.ob_eq
    (by kernel_rfl) (fun s => by kernel_rfl) HX03.run (by kernel_rfl) (by kernel_rfl) (by kernel_rfl) (by rfl) (by first | assumption | decide +kernel) (by decide +kernel) ⟨rfl, rfl, rfl, rfl, rfl, by decide +kernel⟩ ?hw ?hc
  case hw => w_witness2
  case hc =>
    refine EX.walkTH (l := PySem.Challenge.rw_slackcache_k03_known_chains) (n := 63) rfl (by decide) (by kernel_rfl) ?F
    intro w mg fa h Y G hmg0
    obtain ⟨K, KX, c⟩ := Y
    have hmg : mg ("law" : PySem.Str) = some (.ref fa) := by
      have e : (HandSHeadRun.topDef (OpenLaw.row PySem.Challenge.rw_slackcache_k03_known_chains).prog 71).name = ("law" : PySem.Str) := by kernel_rfl
      rw [← e]
      exact hmg0
    exact ⟨K, [], KX, fun p hp => (nomatch hp), fun base KB GB _ s H a ns hl _ hS e0 => HX03.all_mk (P := (PySem.Challenge.rw_slackcache_k03_known_chains).prog) KX G hmg c base KB GB s H a ns hl hS e0⟩
