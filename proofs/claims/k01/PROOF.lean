import PyProof.Rows.All
import Wide.All
import OpenK.AllK
import Wide.FinOn
import HandS.ForMost
import HandS.Wide
import HandS.Exc
import HandS.ExcInit
import HandS.IsInst
import KE.KExcInit
import KE.KExcIs
import KE.KIsAll
import PyProof.ReprRoads
import HandS.ExcField
import HandS.ExcIs
import HandS.TryMany
import HandS.ExcOwn
import PyProof.InstNe
import HandS.Flow
import HandS.SlotsOwn
import OpenK.KMeth
import HandS.Property
import HandS.HeadHook1
import HandS.HeadHook2
import HandS.HeadNt
import HandS.ClsMeth
import KE.KStateDown
import Lean
import HandS.Base
import HandS.Call
import HandS.Ends
import HandS.More
import HandS.Words
import HandS.WordsExc
import HandS.Defaults
import HandS.Head0
import HandS.Head1
import HandS.Head2
import HandS.HeadEnd
import HandS.Strs
import HandS.SetFor
import HandS.SortInts
import HandS.Walk
import HandS.WordsDict
import HandS.DictComp
import KE.KDictList
import PyProof.Rows.CountFlat
import HandS.Text
import PyProof.Rows.StrMeet
import HandS.Lambda
import HandS.EndTab
import HandS.Conv
import HandS.GenYield
import HandS.GenCall
import HandS.GenList
import HandS.Style
import HandS.StrMore
import HandS.TupAny
import HandS.ExcBuiltin
import HandS.TryOnly
import PyProof.ListStr
import PyProof.StrOps2
import HandS.HeadWalk
import PySem.Challenge.RW_slackcache_k01_nets_and_keys
set_option Elab.async false
set_option linter.all false
set_option maxRecDepth 100000
set_option maxHeartbeats 4000000
namespace EX
open PySem L2 PySem.Spec PyProof.Rows
abbrev exT : List Value := [.type "Exception", .type "BaseException", .type "object"]
/-- what the written part says of an own exception class below Exception -/
structure EcC (K : PySem.W.Frag) (C : Addr) : Prop where
  ini : PySem.W.excInitIn K C exT "Exception.__new__" = true
  ovr : PySem.W.excOver K C exT = true
  sa : PySem.W.findIn K (.ref C) "__setattr__" = some (some (.builtin "object.__setattr__"))
  ga : PySem.W.findIn K (.ref C) "__getattribute__" = some (some (.builtin "BaseException.__getattribute__"))
  gg : PySem.W.findIn K (.ref C) "__getattr__" = some none
  exC : PySem.W.subIn K (.ref C) (.type "BaseException") = some true
  hdC : PySem.W.hasDictIn K C = true
  kC : PySem.W.keepIn K (.ref C) = true
  cl : (PySem.W.clsIn K C).isSome = true
  cA : PySem.W.findIn K (.ref C) "__class__" = some (some (.builtin "object.__class__"))
  mo : PySem.W.mroIn K C (.type "object") = some true
  sp : PySem.W.specialIn K (.builtin "object.__class__") "__get__" = some (some (.builtin "getset_descriptor.__get__"))
  tk : PySem.W.takesIn K (.builtin "object.__class__") = some true
theorem upd_comm {H : Hp} {a b : Addr} {o u : HO} (h : a ≠ b) : upd (upd H a o) b u = upd (upd H b u) a o := by
  funext c
  by_cases hb : c = b
  · subst hb
    rw [upd_same, upd_ne (Ne.symm h), upd_same]
  · rw [upd_ne hb]
    by_cases ha : c = a
    · subst ha
      rw [upd_same, upd_same]
    · rw [upd_ne ha, upd_ne ha, upd_ne hb]
theorem upd_upd {H : Hp} {a : Addr} {o u : HO} : upd (upd H a o) a u = upd H a u := by
  funext c
  by_cases ha : c = a
  · subst ha
    rw [upd_same, upd_same]
  · rw [upd_ne ha, upd_ne ha, upd_ne ha]
section
variable {X : Cx} {pins : List (Addr × Obj)} {σ : L2.St} {H : Hp} {s : Shared} {a C dx : Addr} {f : Str} {y : V} {u : Value} {fs : List (Str × V)} {Q : Unit → Shared → Prop} {E : Value → Shared → Prop} {A : Around}
/-- the first field of a new exception -/
theorem est_new (T : EcC X.K C) (I : Inv X pins σ H s) (e : H a = some (exo a C none)) (htk : PySem.W.takerIn X.K C f = some none) (ry : RelV y u)
    (h : ∀ dx s', H dx = none → dx ≠ a → Inv X pins σ (upd (upd H dx (exd dx [(f, y)])) a (exo a C (some dx))) s' → Q () s') :
    wpAny (model X.prog X.w) A (setAttr (.ref a) f u) Q E s := by
  obtain ⟨t1, ho⟩ := exo_at I.hok e
  obtain ⟨cd, hc, hd'⟩ := PySem.W.any_some T.hdC
  obtain ⟨hp, g, d, t, os⟩ := s
  have hlt : a < hp.objs.size := Heap.lt_size ho
  refine PySem.W.set_plain I.kIn (od := none) ⟨ho, rfl, rfl, trivial⟩ T.sa ?_
  refine PySem.W.osa_openX (od := none) PySem.F.store_Exception I.kIn ⟨ho, rfl, rfl, trivial⟩ T.ovr htk fun b => ?_
  refine wpAny_bind (wpAny_pure (wpAny_bind (PySem.W.instanceDict_exc ho (PySem.W.looks_clsIn I.kIn hc) hd' ?_)))
  show wpAny _ _ (Builtin.ObjectAttr.storeInDict hp.objs.size (.str f _) f u) _ _ _
  have hn0 : H hp.objs.size = none := I.hok.fresh (Nat.le_refl _)
  have hne : hp.objs.size ≠ a := Nat.ne_of_gt hlt
  -- the new dict is laid
  have J1 := I.laid (t' := t) (a := hp.objs.size) (o := exd hp.objs.size []) (h' := hp.push (PySem.W.dictOf [] 0)) (fun b o q => Heap.get?_push_of_some _ q) (Nat.le_refl _)
    (exd_ok (mA := fun _ => none) (Heap.Ns1.of_empty ⟨_, #[], _, Heap.get?_push_at rfl rfl, rfl, fun x hx => absurd hx (by simp), fun _ => rfl⟩) fun _ => True.intro)
  have e1 : upd H hp.objs.size (exd hp.objs.size []) a = some (exo a C none) := by rw [upd_ne (Ne.symm hne)]; exact e
  have ho1 : (hp.push (PySem.W.dictOf [] 0)).get? a = some { cls := .ref C, dict := none, data := .fields #[.ref t1, .none, .none, .none, .bool false, .none] } := Heap.get?_push_of_some _ ho
  -- the object gets it
  have ho2 : ((hp.push (PySem.W.dictOf [] 0)).update a fun o => { o with dict := some hp.objs.size }).get? a = some { cls := .ref C, dict := some hp.objs.size, data := .fields #[.ref t1, .none, .none, .none, .bool false, .none] } :=
    Heap.get?_update_self _ ho1 rfl
  have J2 := J1.write (t' := t) (x := a) (e := a) (o := exo a C (some hp.objs.size)) (h' := (hp.push (PySem.W.dictOf [] 0)).update a fun o => { o with dict := some hp.objs.size })
    (by rw [e1]; exact True.intro) (.inl rfl) (fun b o hb q => (Heap.get?_update_ne _ _ _ _ hb).trans q) ⟨_, ho2⟩ (exo_ok ho2)
  have hD : ((hp.push (PySem.W.dictOf [] 0)).update a fun o => { o with dict := some hp.objs.size }).get? hp.objs.size = some (PySem.W.dictOf [] 0) :=
    (Heap.get?_update_ne _ _ _ _ hne).trans (Heap.get?_push_at rfl rfl)
  refine PySem.HandSPX.store_in_new ⟨_, #[], _, hD, rfl, fun x hx => absurd hx (by simp), fun _ => rfl⟩ fun h' tk' hn' hs => ?_
  have hd2 : ∃ o, h'.get? hp.objs.size = some o := by
    obtain ⟨o, _, _, q, _⟩ := hn'
    exact ⟨o, q⟩
  have e2 : upd (upd H hp.objs.size (exd hp.objs.size [])) a (exo a C (some hp.objs.size)) hp.objs.size = some (exd hp.objs.size []) := by rw [upd_ne hne, upd_same]
  have J3 := J2.write (t' := tk') (x := hp.objs.size) (e := hp.objs.size) (o := exd hp.objs.size [(f, y)]) (h' := h') (by rw [e2]; exact True.intro) (.inl rfl)
    (fun b o hb q => (hs.2 b hb).trans q) hd2 (exd_ok hn' (relO_put (fs := []) ry fun _ => True.intro))
  have eH : upd (upd (upd H hp.objs.size (exd hp.objs.size [])) a (exo a C (some hp.objs.size))) hp.objs.size (exd hp.objs.size [(f, y)]) =
      upd (upd H hp.objs.size (exd hp.objs.size [(f, y)])) a (exo a C (some hp.objs.size)) := by
    rw [upd_comm (Ne.symm hne), upd_upd]
  rw [eH] at J3
  exact h _ _ hn0 hne J3
/-- a further field of an exception -/
theorem est_old (T : EcC X.K C) (I : Inv X pins σ H s) (e : H a = some (exo a C (some dx))) (ed : H dx = some (exd dx fs)) (hl : fs.length ≤ 900) (htk : PySem.W.takerIn X.K C f = some none) (ry : RelV y u)
    (h : ∀ s', Inv X pins σ (upd H dx (exd dx ((f, y) :: fs))) s' → Q () s') : wpAny (model X.prog X.w) A (setAttr (.ref a) f u) Q E s := by
  obtain ⟨t1, ho⟩ := exo_at I.hok e
  obtain ⟨mA, hns, rel⟩ := exd_at I.hok ed
  have hw := within_of rel
  obtain ⟨cd, hc, hd'⟩ := PySem.W.any_some T.hdC
  obtain ⟨hp, g, d, t, os⟩ := s
  obtain ⟨oD, es, ep, hoD, hdD, hcD⟩ := hns.count hw
  refine PySem.W.set_plain I.kIn (od := some oD) ⟨ho, rfl, rfl, hoD⟩ T.sa ?_
  refine PySem.W.osa_openX (od := some oD) PySem.F.store_Exception I.kIn ⟨ho, rfl, rfl, hoD⟩ T.ovr htk fun b => ?_
  refine wpAny_bind (wpAny_pure (wpAny_bind (wpAny_bind (wpAny_loadPart ho (wpAny_bind ((PySem.W.looks_clsIn I.kIn hc).at ?_))))))
  rw [hd']
  refine wpAny_pure (a := some dx) ?_
  show wpAny _ _ (Builtin.ObjectAttr.storeInDict dx (.str f _) f u) _ _ _
  refine PySem.OEX.store_in_old hns hw (by rw [List.length_map]; omega) fun h' tk' hn' hs => ?_
  have hd2 : ∃ o, h'.get? dx = some o := by
    obtain ⟨o, _, _, q, _⟩ := hn'
    exact ⟨o, q⟩
  exact h _ (I.write (t' := tk') (x := dx) (e := dx) (o := exd dx ((f, y) :: fs)) (h' := h') (by rw [ed]; exact True.intro) (.inl rfl) (fun b o hb q => (hs.2 b hb).trans q) hd2 (exd_ok hn' (relO_put ry rel)))
end

/-! ### readings and rules -/
/-- self.f = e, self an exception -/
def tEst (K : PySem.W.Frag) (f : Str) (to te : TE) : TS := fun D σ H => te σ H fun y H1 => to σ H1 fun x H2 => ∃ a C : Addr, x = .ref a ∧ EcC K C ∧ PySem.W.takerIn K C f = some none ∧
  ((H2 a = some (exo a C none) ∧ ∀ dx, H2 dx = none → dx ≠ a → D.nx σ (upd (upd H2 dx (exd dx [(f, y)])) a (exo a C (some dx)))) ∨
    ∃ (dx : Addr) (fs : List (Str × V)), H2 a = some (exo a C (some dx)) ∧ H2 dx = some (exd dx fs) ∧ fs.length ≤ 900 ∧ D.nx σ (upd H2 dx (exd dx ((f, y) :: fs))))
/-- C(e, ..), an exception as a value -/
def tMkE (C : Addr) (sp : Sp) (dvs : List V) (ta : TA) : TE := fun σ H Q => ta σ H fun vs H1 => vs.length ≤ 1000 ∧ ∀ a, H1 a = none →
  sp (.ref a :: (vs ++ dvs)) (upd H1 a (exo a C none)) (fun v H2 => v = .non ∧ Q (.ref a) H2) (fun _ _ _ => False)
/-- e.f, e an exception -/
def tEf (K : PySem.W.Frag) (f : Str) (te : TE) : TE := fun σ H Q => te σ H fun x H1 => ∃ (a C dx : Addr) (fs : List (Str × V)) (v : V), x = .ref a ∧ EcC K C ∧ PySem.W.findIn K (.ref C) f = some none ∧
  H1 a = some (exo a C (some dx)) ∧ H1 dx = some (exd dx fs) ∧ fs.lookup f = some v ∧ Q v H1
section
variable {X : Cx} {o e : Expr} {es : List Expr} {to te : TE} {ta : TA} {f : Str} {p p' pos : Pos}
theorem ps_est (ho : PE X o to) (he : PE X e te) (hs : swapsWith e (some (.Attribute o f p')) pos.line X.env = pure false := by rfl) : PS X (.Assign [.Attribute o f p'] e pos) (tEst X.K f to te) := by
  refine ⟨fun pins s σ H D I h => plainObj_wpAny_Assign_Attribute (thn (he.run pins s σ H _ I h) ?_) hs⟩
  intro v s1 ⟨y, H1, I1, r1, q1⟩
  refine thn (ho.run pins s1 σ H1 _ I1 q1) ?_
  intro u s2 ⟨x, H2, I2, r2, a, C, ex, T, hno, q⟩
  subst ex
  obtain rfl : u = Value.ref a := r2
  rcases q with ⟨ea, q⟩ | ⟨dx, fs, ea, ed, hl, q⟩
  · exact est_new T I2 ea hno r1 fun dx s' n ne J => ⟨σ, _, J, q dx n ne⟩
  · exact est_old T I2 ea ed hl hno r1 fun s' J => ⟨σ, _, J, q⟩
theorem pe_ef (he : PE X e te) (hb : attributeBase e f X.env (eval e X.env) = eval e X.env := by rfl) : PE X (.Attribute e f pos) (tEf X.K f te) := by
  refine ⟨fun pins s σ H Q I h => attr_of hb (thn (he.run pins s σ H _ I h) ?_)⟩
  intro u s1 ⟨x, H1, I1, rx, a, C, dx, fs, v, ex, T, hno, ea, ed, l, q⟩
  subst ex
  obtain rfl : u = Value.ref a := rx
  obtain ⟨t1, ho⟩ := exo_at I1.hok ea
  obtain ⟨mA, hns, rel⟩ := exd_at I1.hok ed
  obtain ⟨od, hod, hl⟩ := lookIn_ns hns
  obtain ⟨w0, hu, ru⟩ := RelO.some_of (v := v) (o := mA f) (by rw [← l]; exact rel f)
  have J : PySem.W.InstAt s1.heap a _ C (some od) := ⟨ho, rfl, rfl, hod⟩
  exact HandSPX.exc_get I1.kIn J T.ga T.gg T.exC (PySem.W.findObj_own T.hdC hno rfl (by rw [hl, hu])) (handed_of ru) ⟨v, H1, I1.tok _, ru, q⟩
theorem pe_mkE {CX : CXT} {x : Str} {C fI : Addr} {k : Nat} {fd : FuncData} {ps : List Str} {sp : Sp} {ds : List Value} {dvs : List V} (T : EcC X.K C) (iC : PySem.W.findIn X.K (.ref C) "__init__" = some (some (.ref fI)))
    (tI : PySem.W.typeIn X.K (.ref fI) = some (.type "function")) (F1 : FnOk X.prog X.w X.K X.mg X.base CX k fI fd ps sp) (hr : Room (k + 1) X.A) (hb : Binds X.K fd ps ds) (hd : Vals dvs ds) (hx : Passes CX X (fun _ _ _ => False))
    (hg : Gl X x) (hm : X.mg x = some (.ref C)) (ha : PA X (e :: es) ta)
    (hdb : (x == ("__debug__" : Str)) = false := by decide) (he : starEach (e :: es) X.env = (false, eval e X.env) :: starEach es X.env := by rfl) (hpl : (backTo pos (starEach es X.env)).any (·.1) = false := by rfl) :
    PE X (.Call (.Name x p) (e :: es) [] pos) (tMkE C sp dvs ta) := by
  refine ⟨fun pins s σ H Q I h => wpAny_Call_Name_kw (ld_glob I hg hm ?_ hdb)⟩
  refine PySem.W.callWith_K (h₀ := X.base) I.ok.mod.kin T.kC (thn (ha.run pos pins s σ H _ I h) ?_) he hpl
  intro us s1 ⟨vs, H1, I1, r1, hz, q1⟩
  refine ⟨I1.kIn, ?_⟩
  show wpAny _ _ (call (.ref C) us) _ _ _
  obtain ⟨nm, N', qn, bs, bm, hdct, sn, sub, ab, col, dd, k0, k1, k2, k3, k5, hC, hT⟩ := PySem.W.excInit_of I1.kIn T.ini
  obtain ⟨hp, g, dr, tk, os⟩ := s1
  have hsz : hp.objs.size ≤ hp.objs.size + 1 := Nat.le_succ _
  have hn : H1 (hp.objs.size + 1) = none := I1.hok.fresh hsz
  have hq := q1 _ hn
  have hget : ((hp.push (PySem.W.kdv_tup us)).push (PySem.HandSPX.excO C hp.objs.size)).get? (hp.objs.size + 1) = some (PySem.HandSPX.excO C hp.objs.size) := by heap_get
  have I2 := I1.laid (t' := tk) (a := hp.objs.size + 1) (o := exo (hp.objs.size + 1) C none) (h' := (hp.push (PySem.W.kdv_tup us)).push (PySem.HandSPX.excO C hp.objs.size))
    (fun b o z => Heap.get?_push_of_some _ (Heap.get?_push_of_some _ z)) hsz (exo_ok hget)
  have r2 : Vals (V.ref (hp.objs.size + 1) :: (vs ++ dvs)) (Value.ref (hp.objs.size + 1) :: (us ++ ds)) := .cons rfl (r1.append hd)
  have hl : (Value.ref (hp.objs.size + 1) :: us ++ ds).length = ps.length := r2.length.symm.trans (F1.len _ _ _ _ hq)
  have hus : us.length ≤ sizeLine := by
    have := Paired.length r1
    rw [sizeLine_eq]
    omega
  refine wpAny_call (PySem.HandSPX.call_own PySem.F.excBase_Exception hT hC (PySem.W.looks_findIn I1.kIn iC) (fun self => PySem.W.bind_fn I1.kIn self tI) hus (codeAny_mono
    (F1.run _ X.stack _ _ ⟨Value.ref (hp.objs.size + 1) :: us, []⟩ (Value.ref (hp.objs.size + 1) :: (us ++ ds)) _ _ (fun _ _ _ => False) (hr.make C us []) (I2.env0.make C us []) (hb _ (Value.ref (hp.objs.size + 1) :: us) I2.kIn hl) r2 hq) ?_))
  intro r s' hq'
  cases r with
  | error er => exact hx pins σ _ _ er s' I2 hq'
  | ok fl =>
    cases fl with
    | ret u =>
      obtain ⟨v, H2, os2, bare2, un2, hok2, rv, ev, q2⟩ := hq'
      subst ev
      obtain ⟨h2, g2, d2, t2, os'⟩ := s'
      refine ⟨rv, V.ref (hp.objs.size + 1), H2, I2.call' (ch := []) os2 un2 hok2 bare2 (fun b z => absurd z (by simp)), rfl, q2⟩
    | next => exact False.elim hq'
    | brk => exact False.elim hq'
    | cont => exact False.elim hq'
/-- isinstance(e, c), e an exception, one class -/
def rIsiE (K : PySem.W.Frag) : List V → Hp → VK → Prop := fun xs H Q => ∃ (a C dx : Addr) (fs : List (Str × V)) (c : V) (u : Value) (b : Bool), xs = [.ref a, c] ∧ H a = some (exo a C (some dx)) ∧ H dx = some (exd dx fs) ∧ EcC K C ∧ ClsV c u ∧
  PySem.W.kitOne K (.ref C) u = some b ∧ Q (.bl b) H
/-- isinstance(e, (c1, c2, ..)), the tuple just laid -/
def rIsiET (K : PySem.W.Frag) : List V → Hp → VK → Prop := fun xs H Q => ∃ (a C dx tp : Addr) (fs : List (Str × V)) (cs : List V) (us : List Value) (b : Bool), xs = [.ref a, .ref tp] ∧ H a = some (exo a C (some dx)) ∧ H dx = some (exd dx fs) ∧ EcC K C ∧
  H tp = some (.tup cs) ∧ Paired ClsV cs us ∧ PySem.W.kitAny K (.ref C) us = some b ∧ Q (.bl b) H
theorem kit_exc {K : PySem.W.Frag} {C : Addr} (T : EcC K C) {x : Addr} {ox : Obj} {od : Option Obj} : PySem.W.KitX K (.ref x) (.ref C) (fun h => PySem.W.InstAt h x ox C od) :=
  PySem.W.kitx_exc T.cl T.ga T.gg T.exC T.cA T.sp T.tk T.mo
theorem call_isiE : CallR X (.builtin "isinstance") (rIsiE X.K) := by
  intro pins s σ H xs us Q I r h
  obtain ⟨a, C, dx, fs, c, u, b, rfl, ea, ed, T, k, e, q⟩ := h
  obtain ⟨u1, u2, rfl, r1, r2⟩ := vals2 r
  obtain rfl := k.eq r2
  obtain rfl : u1 = Value.ref a := r1
  obtain ⟨t1, ho⟩ := exo_at I.hok ea
  obtain ⟨mA, hns, rel⟩ := exd_at I.hok ed
  obtain ⟨od, hod, _⟩ := lookIn_ns hns
  exact PySem.W.kia_one (kit_exc T (od := some od)) I.kIn ⟨ho, rfl, rfl, hod⟩ e (fun z => nomatch z) fun tk => ⟨.bl b, H, I.tok tk, rfl, q⟩
theorem call_isiET : CallR X (.builtin "isinstance") (rIsiET X.K) := by
  intro pins s σ H xs us Q I r h
  obtain ⟨a, C, dx, tp, fs, cs, vs, b, rfl, ea, ed, T, et, pr, e, q⟩ := h
  obtain ⟨u1, u2, rfl, r1, r2⟩ := vals2 r
  obtain rfl : u1 = Value.ref a := r1
  obtain rfl : u2 = Value.ref tp := r2
  obtain ⟨t1, ho⟩ := exo_at I.hok ea
  obtain ⟨mA, hns, rel⟩ := exd_at I.hok ed
  obtain ⟨od, hod, _⟩ := lookIn_ns hns
  have z : ObjOk X.prog X.w H s.heap tp (.tup cs) := I.hok tp _ et
  obtain ⟨_, its, rv, o, h1, h2, n, h3⟩ := z
  obtain rfl := ClsV.all pr rv
  obtain ⟨oc, od', dt, sl⟩ := o
  dsimp only at h2 h3
  subst h2 h3
  exact PySem.W.kia_tup (kit_exc T (od := some od)) I.kIn ⟨ho, rfl, rfl, hod⟩ h1 e (fun z => nomatch z) fun tk => ⟨.bl b, H, I.tok tk, rfl, q⟩
end
/-- plain data, or a dict of one int -/
inductive Rp (K : PySem.W.Frag) (H : Hp) : V → PyData → Prop where
  | dp {v : V} {d : PyData} : Dp K H v d → d.hasDict = false → Rp K H v d
  | dic {a : Addr} {k n : Int} : H a = some (.dK [(Sum.inl k, .int n)]) → Rp K H (.ref a) (.dict [(.int k, .int n)])
  | dis {a : Addr} {k : Str} {n : Int} : H a = some (.dK [(Sum.inr k, .int n)]) → Rp K H (.ref a) (.dict [(.str k, .int n)])
def rRepr (K : PySem.W.Frag) : List V → Hp → VK → Prop := fun xs H Q => ∃ (x : V) (d : PyData), xs = [x] ∧ Rp K H x d ∧ d.showable = true ∧ d.depth ≤ 60 ∧ d.shown.length ≤ sizeLine ∧ Q (.str d.shown) H
section
variable {X : Cx} {pins : List (Addr × Obj)} {σ : L2.St} {H : Hp} {s : Shared}
theorem Rp.reads (I : Inv X pins σ H s) {v : V} {d : PyData} {u : Value} (h : Rp X.K H v d) (r : RelV v u) : ∃ as, Reads s.heap u d as ∧ (d.hasDict = true → sysModules ∉ as) := by
  cases h with
  | dp h nd =>
    obtain ⟨as, q⟩ := Dp.reads I d v u h r
    exact ⟨as, q, fun z => by rw [nd] at z; cases z⟩
  | @dic a k n e =>
    obtain rfl : u = Value.ref a := r
    have z : ObjOk X.prog X.w H s.heap a (.dK [(Sum.inl k, .int n)]) := I.hok a _ e
    obtain ⟨_, hsm, vs, kv, o, es, ep, ho, hx, hd, _, hp, _⟩ := z
    cases kv with
    | @cons _ q0 _ qs k1 kr =>
      cases kr
      obtain ⟨ek, rv⟩ := k1
      obtain ⟨kk, vv⟩ := q0
      dsimp only at ek rv
      subst ek
      obtain ⟨t, rfl⟩ : ∃ t, vv = Value.int n t := rv
      generalize el : es.toList = l at hp
      cases hp with
      | @cons e1 kv1 es1 kvs1 p1 p2 p3 =>
        cases p3
        obtain ⟨hsh, key, val⟩ := e1
        dsimp only at p1 p2
        subst p2
        have p1 : Value.isInt k key = true := p1
        obtain ⟨t2, rfl⟩ : ∃ t2, key = Value.int k t2 := by
          cases key <;> simp_all [Value.isInt]
        refine ⟨a :: [] ++ [], Reads.dict ho hx.1 hd (as := []) (bs := []) ?_ ?_, fun _ z => ?_⟩
        · rw [el]
          exact ReadsAll.cons (bs := []) (Reads.int k t2) ReadsAll.nil
        · rw [el]
          exact ReadsAll.cons (bs := []) (Reads.int n t) ReadsAll.nil
        · rw [List.append_nil, List.mem_singleton] at z
          rw [z] at hsm
          simp at hsm
  | @dis a k n e =>
    obtain rfl : u = Value.ref a := r
    have z : ObjOk X.prog X.w H s.heap a (.dK [(Sum.inr k, .int n)]) := I.hok a _ e
    obtain ⟨_, hsm, vs, kv, o, es, ep, ho, hx, hd, _, hp, _⟩ := z
    cases kv with
    | @cons _ q0 _ qs k1 kr =>
      cases kr
      obtain ⟨ek, rv⟩ := k1
      obtain ⟨kk, vv⟩ := q0
      dsimp only at ek rv
      subst ek
      obtain ⟨t, rfl⟩ : ∃ t, vv = Value.int n t := rv
      generalize el : es.toList = l at hp
      cases hp with
      | @cons e1 kv1 es1 kvs1 p1 p2 p3 =>
        cases p3
        obtain ⟨hsh, key, val⟩ := e1
        dsimp only at p1 p2
        subst p2
        have p1 : Value.isStrOf k key = true := p1
        obtain ⟨t2, rfl⟩ := Value.isStrOf_shape p1
        refine ⟨a :: [] ++ [], Reads.dict ho hx.1 hd (as := []) (bs := []) ?_ ?_, fun _ z => ?_⟩
        · rw [el]
          exact ReadsAll.cons (bs := []) (Reads.str k t2) ReadsAll.nil
        · rw [el]
          exact ReadsAll.cons (bs := []) (Reads.int n t) ReadsAll.nil
        · rw [List.append_nil, List.mem_singleton] at z
          rw [z] at hsm
          simp at hsm
theorem call_reprD (hg : X.A.guards = some []) (hu : X.A.units + 70 < cLine) : CallR X (.builtin "repr") (rRepr X.K) := by
  intro pins s σ H xs us Q I r h
  obtain ⟨x, d, rfl, hR, hs, hdp, hz, q⟩ := h
  obtain ⟨u, rfl, ru⟩ := vals1 r
  obtain ⟨as, hr, hsm⟩ := hR.reads I ru
  have sc : ∀ (b : Str), d.shown = b → ∀ tk, EP X pins σ Q (.str b tk) { s with toks := s.toks + 1 } := fun b e tk => ⟨.str b, H, I.tok _, ⟨_, rfl⟩, e ▸ q⟩
  cases hr with
  | none => exact PySem.P.repr_of_none (sc _ rfl _)
  | bool b => exact PySem.P.repr_of_bool (sc _ (by cases b <;> rfl) _)
  | int i t => exact PySem.P.repr_of_int (of_decide_eq_true hs) (sc _ rfl _)
  | str y t => exact PySem.P.repr_of_str (sc _ rfl _) hz
  | list h1 h2 h3 h4 =>
    refine repr_of_reads' (Reads.list h1 h2 h3 h4) hs hsm hg (by omega) (fun _ _ e => e) (fun h' u tk k => ?_) hz
    exact ⟨.str _, H, I.kept k, ⟨_, rfl⟩, q⟩
  | tuple h1 h2 h3 h4 =>
    refine repr_of_reads' (Reads.tuple h1 h2 h3 h4) hs hsm hg (by omega) (fun _ _ e => e) (fun h' u tk k => ?_) hz
    exact ⟨.str _, H, I.kept k, ⟨_, rfl⟩, q⟩
  | dict h1 h2 h3 h4 h5 =>
    refine repr_of_reads' (Reads.dict h1 h2 h3 h4 h5) hs hsm hg (by omega) (fun _ _ e => e) (fun h' u tk k => ?_) hz
    exact ⟨.str _, H, I.kept k, ⟨_, rfl⟩, q⟩
end

/-! ### a def at one call, what runs around it known (so repr of what holds other things may be said) -/
theorem fn_at {P : Program} {w : World} {K : PySem.W.Frag} {mg : Str → Option Value} {base : Heap} {k : Nat} {x qual : Str} {st : Stmt} {f : Addr} {fd : FuncData} {N ps : List Str} (F : Fun K x qual st f fd) (S : FnScope N ps (defScope st))
    {A : Around} {outer : List Env} {s : Shared} {H : Hp} {args : Args} {us : List Value} {vs : List V} {Q : VK} {E : XK} (hr : Room (k + 1) A) (e0 : Env0 P w K mg base A outer s H) (hb : BindsTo s fd args (ps.zip us)) (rv : Vals vs us) (hl : vs.length = ps.length)
    (body : ∀ cdv : Value, Room k (A.deeper (envOfC qual (defScope st) s.heap.objs.size f cdv)) → ∃ t, PSs (cxOf CX0 P w K mg base N qual (defScope st) f cdv A outer s H E) (defBody st) t ∧ t { nx := fun _ H' => Q .non H', rt := Q } (start N vs) H) :
    codeAny (model P w) A (.call (.ref f) args) (CR CX0 outer P w H s Q E) s := by
  obtain ⟨oc, od, kV, doc, pm, an, cdv, ct, osl, rfl, lk, hcd⟩ := F.ex
  have kin : K.In s.heap := e0.mod.kin.keeps fun b o z => (e0.bs b o z).1
  have lim : s.heap.NoLimit := e0.mod.nolimit.keeps fun b o z => (e0.bs b o z).1
  have par : ∀ y ∈ ps.zip us, (defScope st).names.lookup y.1 = some .local ∨ ((defScope st).names.lookup y.1 = some .cell ∧ ((cellsFrom (s.heap.objs.size + 1) (defScope st).names []).lookup y.1).isSome = true) := by
    rintro ⟨n, v⟩ hy
    cases S.par n (List.of_mem_zip hy).1 with
    | inl q => exact .inl q
    | inr q => exact .inr ⟨q, PySem.W.cellsFrom_some _ _ _ (.inl q)⟩
  refine codeAny_call_function hr.depth (kin _ _ lk) rfl S.co S.gen rfl (PySem.W.codeRec_of kin hcd) (hb _ _ _ _ (wpAny_newFunctionEnv_cells S.kind par ?_))
  rintro env he s1 hin
  subst he
  refine ⟨lim.keeps hin.toInCall.keep, codeAny_func ?_⟩
  obtain ⟨t, ht, hq⟩ := body cdv (hr.deeper _)
  refine wpAny_mono (ht.run [] s1 (start N vs) H _ (inv_start S hr.hd e0 hl rv hin) hq) ?_ fun _ _ z => z
  rintro fl s' hs
  cases fl with
  | next =>
    obtain ⟨σ', H', J, q⟩ := hs
    exact ⟨V.non, H', J.os, J.bare, J.base, J.hok, rfl, q⟩
  | ret u =>
    obtain ⟨v, σ', H', J, r, q⟩ := hs
    exact ⟨v, H', J.os, J.bare, J.base, J.hok, r, q⟩
  | brk =>
    obtain ⟨_, _, _, q⟩ := hs
    exact q.elim
  | cont =>
    obtain ⟨_, _, _, q⟩ := hs
    exact q.elim
/-- the law's end, the law's own call met at callerA -/
theorem walkG {l : PySem.W.OpenLaw} {n : Nat} {q : Program} {loose : List Str} {XP : (Str → Option Value) → Heap → Prop} {YP : World → Heap → Prop} {d : DefRec} {K : Params → PySem.W.Frag}
    (hn : l.most = some n) (hn2 : n ≤ sizeLine) (hdf : d.params.defaults = []) (hY : ∀ (w : World) (h : Heap), YP w h → (K w.params).In h)
    (F : ∀ (w : World) (mg : Str → Option Value) (fa : Addr) (h : Heap), (K w.params).In h → h.Ns mainGlobals mg → mg d.name = some (.ref fa) →
      ∀ base : Heap, (K w.params).In base → base.Ns mainGlobals mg → ∀ (s : Shared) (H : Hp) (a : Addr) (ns : List Int), ns.length ≤ n → SqL (K w.params) H a (ns.map V.int) → Env0 l.prog w (K w.params) mg base callerA [] s H →
        codeAny (model l.prog w) callerA (.call (.ref fa) ⟨[.ref a], []⟩) (CR CX0 [] l.prog w H s (fun v _ => v = .bl true) E0) s) :
    PySem.W.WalkO q loose XP YP l.row.toRowW d [] (fun f vs => PySem.call f vs) := by
  refine Att.attach_call hn hdf ?_
  intro w s₀ s₁ mg mb fa o pm cd doc a vs ns G Y ho hd hcd hmg hobj hints hlen hg
  have kin := hY w _ Y
  have rv := vals_ints hints
  have lv := hints.length
  have key : ∀ H : Hp, Only H → SqL (K w.params) H a (ns.map V.int) → HOk l.prog w H s₁.heap → (∀ b, H b ≠ none → b = a) → (H a ≠ none → (K w.params).lookup a = none) →
      codeAny (model l.prog w) callerA (.call (.ref fa) ⟨[.ref a], []⟩) (fun r s' => r = .ok (.ret (.bool true)) ∧ OldK s₁.heap s'.heap ∧ s'.os = s₁.os ∧ AllBare s'.gens) s₁ := by
    intro H only sq hok onlyA notK
    have freeD : ∀ {b : Addr} {o : Obj} {es : Array DictEntry} {ep : Nat}, s₁.heap.get? b = some o → o.data = .dict es ep → H b = none := by
      intro b o es ep e1 e2
      cases h : H b with
      | none => rfl
      | some u =>
        have e3 : b = a := onlyA b (by rw [h]; exact fun z => nomatch z)
        rw [e3, hobj] at e1
        cases e1
        cases e2
    have nsB : ∀ {b : Addr} {m : Str → Option Value}, s₁.heap.Ns b m → (hidT s₁.heap H).Ns b m := by
      rintro b m ⟨o, es, ep, e1, e2, r⟩
      exact ⟨o, es, ep, hidT_get e1 (freeD e1 e2), e2, r⟩
    have kinB : (K w.params).In (hidT s₁.heap H) := by
      intro b o e
      refine hidT_get (kin b o e) ?_
      cases h : H b with
      | none => rfl
      | some u =>
        have e3 : b = a := onlyA b (by rw [h]; exact fun z => nomatch z)
        rw [e3, notK (by rw [← e3, h]; exact fun z => nomatch z)] at e
        cases e
    have e0 : Env0 l.prog w (K w.params) mg (hidT s₁.heap H) callerA [] s₁ H := by
      refine ⟨rfl, ⟨kinB, nsB G.T.g, ⟨mb, nsB G.T.b, G.T.builtins⟩, ?_⟩, fun b o e => of_hidT e, Nat.le_of_eq (hidT_size _ _), trivial, (fun b hb => absurd hb (List.not_mem_nil)), hok, .of_eq hg⟩
      obtain ⟨mc, h1, h2⟩ := G.T.nolimit
      exact ⟨mc, nsB h1, h2⟩
    refine codeAny_mono (F w mg fa _ kin G.T.g hmg _ kinB (nsB G.T.g) s₁ H a ns hlen sq e0) ?_
    intro r s' z
    cases r with
    | error e => exact z.elim
    | ok fl =>
      cases fl with
      | next => exact z.elim
      | brk => exact z.elim
      | cont => exact z.elim
      | ret u =>
        obtain ⟨v, H', os, bare, un, hok', rr, qq⟩ := z
        subst qq
        obtain rfl : u = Value.bool true := rr
        refine ⟨rfl, OldK.of_keep ?_, os, bare⟩
        intro b o e
        rcases only b with h | ⟨ob, xs, h⟩
        · exact un.keep b o e h (fun z => nomatch z) (fun z => nomatch z)
        · have h1 := (hok b _ h).1
          have h2 := (hok' b _ (un.frzs b ob _ h)).1
          rw [e] at h1
          cases h1
          exact h2
  have hz : ns.length ≤ sizeLine := Nat.le_trans hlen hn2
  cases hk : (K w.params).lookup a with
  | some o =>
    have e := kin a o hk
    rw [hobj] at e
    cases e
    refine key (fun _ => none) (fun _ => .inl rfl) (.inr ⟨_, vs.toArray, _, hk, rfl, rfl, rfl, ?_, ?_⟩) (fun _ _ z => nomatch z) (fun _ z => absurd rfl z) fun z => absurd rfl z
    · rw [List.size_toArray, lv]
      exact hz
    · simpa using rv
  | none =>
    have hs : ∀ b u, (if b = a then some (HO.frz { cls := .type "list", data := .seq vs.toArray } (.lst (ns.map V.int))) else none) = some u → b = a ∧ u = HO.frz { cls := .type "list", data := .seq vs.toArray } (.lst (ns.map V.int)) := by
      intro b u z
      by_cases hb : b = a
      · rw [if_pos hb] at z
        exact ⟨hb, (Option.some.inj z).symm⟩
      · rw [if_neg hb] at z
        cases z
    refine key (fun b => if b = a then some (.frz { cls := .type "list", data := .seq vs.toArray } (.lst (ns.map V.int))) else none) ?_ (.inl (.inr ⟨_, if_pos rfl⟩)) ?_ ?_ fun _ => hk
    · intro b
      by_cases hb : b = a
      · exact .inr ⟨_, _, if_pos hb⟩
      · exact .inl (if_neg hb)
    · intro b u z
      obtain ⟨rfl, rfl⟩ := hs b u z
      exact ⟨hobj, by rw [List.length_map]; exact hz, vs, _, rv, hobj⟩
    · intro b z
      cases h : (if b = a then some (HO.frz { cls := .type "list", data := .seq vs.toArray } (.lst (ns.map V.int))) else none) with
      | none => exact absurd h z
      | some u => exact (hs b u h).1

/-! ### defs and exception classes of the text, each as one fact -/
structure DefAt (P : Program) (w : World) (K : PySem.W.Frag) (mg : Str → Option Value) (base : Heap) (k : Nat) (x : Str) (ps : List Str) (sp : Sp) : Prop where
  ex : ∃ (f : Addr) (fd : FuncData), FnOk P w K mg base CX0 k f fd ps sp ∧ mg x = some (.ref f) ∧ PySem.W.keepIn K (.ref f) = true ∧ Binds K fd ps []
structure XcAt (P : Program) (w : World) (K : PySem.W.Frag) (mg : Str → Option Value) (base : Heap) (x : Str) (ps : List Str) (C : Addr) (sp : Sp) : Prop where
  T : EcC K C
  m : mg x = some (.ref C)
  ex : ∃ (fI : Addr) (fd : FuncData), PySem.W.findIn K (.ref C) "__init__" = some (some (.ref fI)) ∧ PySem.W.typeIn K (.ref fI) = some (.type "function") ∧ FnOk P w K mg base CX0 1 fI fd ps sp ∧ Binds K fd ps []
section
variable {X : Cx} {e : Expr} {es : List Expr} {ta : TA} {p pos : Pos} {x : Str} {k : Nat} {ps : List Str} {sp : Sp} {C : Addr}
theorem pe_callD (D : DefAt X.prog X.w X.K X.mg X.base k x ps sp) (hr : Room k X.A) (ha : PA X (e :: es) ta) (hg : Gl X x := by rfl) (hdb : (x == ("__debug__" : Str)) = false := by decide)
    (he : starEach (e :: es) X.env = (false, eval e X.env) :: starEach es X.env := by rfl) (hpl : (backTo pos (starEach es X.env)).any (·.1) = false := by rfl) : PE X (.Call (.Name x p) (e :: es) [] pos) (tCall sp [] E0 ta) := by
  obtain ⟨f, fd, F, m, kp, b⟩ := D.ex
  exact pe_call F hr hg m kp b .nil pass0 ha hdb he hpl
theorem pe_mkD (D : XcAt X.prog X.w X.K X.mg X.base x ps C sp) (hr : Room 2 X.A) (ha : PA X (e :: es) ta) (hg : Gl X x := by rfl) (hdb : (x == ("__debug__" : Str)) = false := by decide)
    (he : starEach (e :: es) X.env = (false, eval e X.env) :: starEach es X.env := by rfl) (hpl : (backTo pos (starEach es X.env)).any (·.1) = false := by rfl) : PE X (.Call (.Name x p) (e :: es) [] pos) (tMkE C sp [] ta) := by
  obtain ⟨fI, fd, iC, tI, F, b⟩ := D.ex
  exact pe_mkE D.T iC tI F hr b .nil (fun _ _ _ _ _ _ _ h => h.elim) hg D.m ha hdb he hpl
theorem pe_cls (D : XcAt X.prog X.w X.K X.mg X.base x ps C sp) (hg : Gl X x := by rfl) (hd : (x == ("__debug__" : Str)) = false := by decide) : PE X (.Name x pos) (tC (.ref C)) := pe_glob hg D.m rfl hd
end
/-- __init__(self, f): self.f = f -/
def spI1 (K : PySem.W.Frag) (C : Addr) (f : Str) : Sp := fun vs H Q _ => ∃ (a : Addr) (v : V), vs = [.ref a, v] ∧ H a = some (exo a C none) ∧ ∀ dx, H dx = none → dx ≠ a → Q .non (upd (upd H dx (exd dx [(f, v)])) a (exo a C (some dx)))
/-- __init__(self, f, g): self.f = f; self.g = g -/
def spI2 (K : PySem.W.Frag) (C : Addr) (f g : Str) : Sp := fun vs H Q _ => ∃ (a : Addr) (v u : V), vs = [.ref a, v, u] ∧ H a = some (exo a C none) ∧
  ∀ dx, H dx = none → dx ≠ a → Q .non (upd (upd (upd H dx (exd dx [(f, v)])) a (exo a C (some dx))) dx (exd dx [(g, u), (f, v)]))
theorem Same.upd {H : Hp} {p : Addr} {o : HO} (h : H p = none) : Same H (L2.upd H p o) := fun b u e => by
  rw [upd_ne (ne_of_none e h)]
  exact e
theorem mk1 {K : PySem.W.Frag} {C : Addr} {f : Str} {v : V} {H : Hp} {Q : V → Hp → Prop} (h : ∀ a d H', Same H H' → H' a = some (exo a C (some d)) → H' d = some (exd d [(f, v)]) → Q (.ref a) H') :
    [v].length ≤ 1000 ∧ ∀ a, H a = none → spI1 K C f (.ref a :: ([v] ++ [])) (upd H a (exo a C none)) (fun x H2 => x = .non ∧ Q (.ref a) H2) (fun _ _ _ => False) := by
  refine ⟨by show 1 ≤ 1000; decide, fun a ha => ⟨a, v, rfl, upd_same, fun d hd hne => ⟨rfl, h a d _ ?_ upd_same ?_⟩⟩⟩
  · have hd0 : H d = none := by rw [upd_ne hne] at hd; exact hd
    intro b o e
    rw [upd_ne (ne_of_none e ha), upd_ne (ne_of_none e hd0), upd_ne (ne_of_none e ha)]
    exact e
  · rw [upd_ne hne, upd_same]
theorem mk2 {K : PySem.W.Frag} {C : Addr} {f g : Str} {v u : V} {H : Hp} {Q : V → Hp → Prop} (h : ∀ a d H', Same H H' → H' a = some (exo a C (some d)) → H' d = some (exd d [(g, u), (f, v)]) → Q (.ref a) H') :
    [v, u].length ≤ 1000 ∧ ∀ a, H a = none → spI2 K C f g (.ref a :: ([v, u] ++ [])) (upd H a (exo a C none)) (fun x H2 => x = .non ∧ Q (.ref a) H2) (fun _ _ _ => False) := by
  refine ⟨by show 2 ≤ 1000; decide, fun a ha => ⟨a, v, u, rfl, upd_same, fun d hd hne => ⟨rfl, h a d _ ?_ ?_ upd_same⟩⟩⟩
  · have hd0 : H d = none := by rw [upd_ne hne] at hd; exact hd
    intro b o e
    rw [upd_ne (ne_of_none e hd0), upd_ne (ne_of_none e ha), upd_ne (ne_of_none e hd0), upd_ne (ne_of_none e ha)]
    exact e
  · rw [upd_ne (Ne.symm hne), upd_same]
/-- a new object, the heap from then on a letter -/
theorem new1 {o : HO} {H : Hp} {Q : V → Hp → Prop} (h : ∀ p H', Same H H' → H' p = some o → Q (.ref p) H') : ∀ p, H p = none → Q (.ref p) (upd H p o) := fun p hp => h p _ (Same.upd hp) upd_same
/-- exceptions that stand: their classes and fields -/
def AllX (H : Hp) (cs : List (Addr × List (Str × V))) (as : List (Addr × Addr)) : Prop := Paired (fun (c : Addr × List (Str × V)) (x : Addr × Addr) => H x.1 = some (exo x.1 c.1 (some x.2)) ∧ H x.2 = some (exd x.2 c.2)) cs as
theorem AllX.mono {H H' : Hp} (s : Same H H') : ∀ {cs : List (Addr × List (Str × V))} {as : List (Addr × Addr)}, AllX H cs as → AllX H' cs as
  | _, _, .nil => .nil
  | _, _, .cons h t => .cons ⟨s _ _ h.1, s _ _ h.2⟩ (AllX.mono s t)
theorem AllX.snoc {H : Hp} {c : Addr × List (Str × V)} {a d : Addr} (h1 : H a = some (exo a c.1 (some d))) (h2 : H d = some (exd d c.2)) : ∀ {cs : List (Addr × List (Str × V))} {as : List (Addr × Addr)}, AllX H cs as → AllX H (cs ++ [c]) (as ++ [(a, d)])
  | _, _, .nil => .cons ⟨h1, h2⟩ .nil
  | _, _, .cons h t => .cons h (AllX.snoc h1 h2 t)
theorem rd_mk1 {K : PySem.W.Frag} {C : Addr} {f : Str} {σ : L2.St} {i : Nat} {v : V} {H : Hp} {Q : V → Hp → Prop} (hv : σ[i]? = some (some v)) (h : ∀ a d H', Same H H' → H' a = some (exo a C (some d)) → H' d = some (exd d [(f, v)]) → Q (.ref a) H') :
    tMkE C (spI1 K C f) [] (tCons (tVar i) tNil) σ H Q := ⟨v, hv, mk1 h⟩
theorem rd_mk2 {K : PySem.W.Frag} {C : Addr} {f g : Str} {σ : L2.St} {i : Nat} {v u : V} {H : Hp} {Q : V → Hp → Prop} (hv : σ[i]? = some (some v)) (h : ∀ a d H', Same H H' → H' a = some (exo a C (some d)) → H' d = some (exd d [(g, u), (f, v)]) → Q (.ref a) H') :
    tMkE C (spI2 K C f g) [] (tCons (tVar i) (tCons (tC u) tNil)) σ H Q := ⟨v, hv, mk2 h⟩
theorem rd_mk2' {K : PySem.W.Frag} {C : Addr} {f g : Str} {σ : L2.St} {i : Nat} {v u : V} {H : Hp} {Q : V → Hp → Prop} (hv : σ[i]? = some (some v)) (h : ∀ a d H', Same H H' → H' a = some (exo a C (some d)) → H' d = some (exd d [(g, v), (f, u)]) → Q (.ref a) H') :
    tMkE C (spI2 K C f g) [] (tCons (tC u) (tCons (tVar i) tNil)) σ H Q := ⟨v, hv, mk2 h⟩
theorem rd_lst {ta : TA} {σ : L2.St} {H : Hp} {Q : V → Hp → Prop} (h : ta σ H fun xs H1 => xs.length ≤ sizeLine ∧ ∀ p H', Same H1 H' → H' p = some (.lst xs) → Q (.ref p) H') (mono : ∀ σ H (R R' : List V → Hp → Prop), (∀ xs H1, R xs H1 → R' xs H1) → ta σ H R → ta σ H R') : tLst ta σ H Q :=
  mono _ _ _ _ (fun xs H1 z => ⟨z.1, new1 z.2⟩) h
/-! ### a reading opened by one combinator -/
section
variable {D : Ends} {σ : L2.St} {H : Hp} {Q : V → Hp → Prop} {QL : List V → Hp → Prop} {t u : TS} {te to' tb : TE} {ta tl : TA} {g : TG} {r : R2}
theorem rd_seq (h : t { D with nx := u D } σ H) : tSeq t u D σ H := h
theorem rd_asg (h : te σ H fun x H1 => g x σ H1 D.nx) : tAsg te g D σ H := h
theorem rd_ret (h : te σ H D.rt) : tRet te D σ H := h
theorem rd_disp (h : ta σ H fun xs H1 => xs.length ≤ sizeLine ∧ ∀ p, H1 p = none → Q (.ref p) (upd H1 p (.lst xs))) : tLst ta σ H Q := h
theorem rd_cons (h : te σ H fun x H1 => tl σ H1 fun xs H2 => QL (x :: xs) H2) : tCons te tl σ H QL := h
theorem rd_nil (h : QL [] H) : tNil σ H QL := h
theorem rd_op (h : te σ H fun x H1 => tb σ H1 fun y H2 => r x y H2 Q) : tOp r te tb σ H Q := h
theorem rd_var {i : Nat} {v : V} (hv : σ[i]? = some (some v)) (h : Q v H) : tVar i σ H Q := ⟨v, hv, h⟩
theorem rd_c {v : V} (h : Q v H) : tC v σ H Q := h
end
section
variable {D : Ends} {σ : L2.St} {H : Hp} {Q : V → Hp → Prop} {QB : Bool → Hp → Prop} {te : TE} {ta : TA} {tc : TT} {t u : TS} {r : List V → Hp → VK → Prop} {K : PySem.W.Frag} {f : Str}
theorem rd_if (h : tc σ H fun b H1 => if b = true then t D σ H1 else u D σ H1) : tIfS tc t u D σ H := h
theorem rd_test (h : te σ H fun x H' => ∃ k, x = .bl k ∧ QB k H') : tTest te σ H QB := h
theorem rd_cb (h : ta σ H fun vs H1 => r vs H1 Q) : tCB r ta σ H Q := h
theorem rd_ef (h : te σ H fun x H1 => ∃ (a C dx : Addr) (fs : List (Str × V)) (v : V), x = .ref a ∧ EcC K C ∧ PySem.W.findIn K (.ref C) f = some none ∧ H1 a = some (exo a C (some dx)) ∧ H1 dx = some (exd dx fs) ∧ fs.lookup f = some v ∧ Q v H1) : tEf K f te σ H Q := h
end
end EX
set_option Elab.async false
set_option linter.all false
set_option maxRecDepth 100000
set_option maxHeartbeats 4000000
namespace EX
open PySem L2 PySem.Spec PyProof.Rows
/-! ### raising an own exception (below Exception) whose __init__ is walked -/
/-- what stands of an own exception class of one field f -/
structure XrAt (P : Program) (w : World) (K : PySem.W.Frag) (mg : Str → Option Value) (base : Heap) (x f : Str) (C : Addr) : Prop where
  T : EcC K C
  m : mg x = some (.ref C)
  tC : PySem.W.typeIn K (.ref C) = some (.type "type")
  no : PySem.W.findIn K (.ref C) f = some none
  ex : ∃ (fI : Addr) (fd : FuncData), PySem.W.findIn K (.ref C) "__init__" = some (some (.ref fI)) ∧ PySem.W.typeIn K (.ref fI) = some (.type "function") ∧ FnOk P w K mg base CX0 1 fI fd [("self" : Str), f] (spI1 K C f) ∧ Binds K fd [("self" : Str), f] []
/-- C(e), to be raised: its dict d is new and holds the field -/
def tMkR (C : Addr) (f : Str) (te : TE) : L2.St → Hp → XK → Prop := fun σ H Q => te σ H fun v H1 => ∀ d H', Same H1 H' → H1 d = none → H' d = some (.xd [(f, v)]) → Q (.ref C) (some d) H'
def one1 (R : V → Hp → Prop) : List V → Hp → Prop := fun vs H => match vs with
  | [v] => R v H
  | _ => False
section
variable {X : Cx} {e : Expr} {te : TE} {p pos kp : Pos} {x f : Str} {C : Addr} {W : WX}
theorem pmk_ec (D : XrAt X.prog X.w X.K X.mg X.base x f C) (hr : Room 2 X.A) (hg : Gl X x) (he : PE X e te)
    (hdb : (x == ("__debug__" : Str)) = false := by decide) (hse : starEach [e] X.env = (false, eval e X.env) :: starEach [] X.env := by rfl) (hpl : (backTo pos (starEach [] X.env)).any (·.1) = false := by rfl) :
    PMk X (.Call (.Name x p) [e] [] pos) (tMkR C f te) := by
  intro pins s σ H Q I h
  obtain ⟨fI, fd, iC, tI, F1, hb⟩ := D.ex
  have ha : PA X [e] (tCons te tNil) := pa_cons he pa_nil hse
  refine wpAny_Call_Name_kw (ld_glob I hg D.m (PySem.W.callWith_K (h₀ := X.base) I.ok.mod.kin D.T.kC (thn (ha.run pos pins s σ H (one1 fun v H1 => ∀ d H', Same H1 H' → H1 d = none → H' d = some (.xd [(f, v)]) → Q (.ref C) (some d) H') I h) ?_) hse hpl) hdb)
  intro us s1 ⟨vs, H1, I1, r1, q1⟩
  refine ⟨I1.kIn, (?_ : wpAny _ _ (call (.ref C) us) _ _ _)⟩
  obtain ⟨v, rfl⟩ : ∃ v, vs = [v] := by
    match vs, q1 with
    | [v], _ => exact ⟨v, rfl⟩
  replace q1 : ∀ d H', Same H1 H' → H1 d = none → H' d = some (.xd [(f, v)]) → Q (.ref C) (some d) H' := q1
  obtain ⟨u, rfl, ru⟩ := vals1 r1
  obtain ⟨nm, N', qn, bs, bm, hdct, sn, sub, ab, col, dd, k0, k1, k2, k3, k5, hC, hT⟩ := PySem.W.excInit_of I1.kIn D.T.ini
  obtain ⟨hp, g, dr, tk, os⟩ := s1
  have le1 : hp.objs.size ≤ hp.objs.size + 1 := Nat.le_succ _
  have new : H1 (hp.objs.size + 1) = none := I1.hok.fresh le1
  have grow : ∀ b o, hp.get? b = some o → ((hp.push (PySem.W.kdv_tup [u])).push (PySem.HandSPX.excO C hp.objs.size)).get? b = some o := fun b o z => Heap.get?_push_of_some _ (Heap.get?_push_of_some _ z)
  have there : ((hp.push (PySem.W.kdv_tup [u])).push (PySem.HandSPX.excO C hp.objs.size)).get? (hp.objs.size + 1) = some (PySem.HandSPX.excO C hp.objs.size) := by heap_get
  have I2 := I1.laid (t' := tk) (a := hp.objs.size + 1) (o := exo (hp.objs.size + 1) C none) (h' := (hp.push (PySem.W.kdv_tup [u])).push (PySem.HandSPX.excO C hp.objs.size)) grow le1 (exo_ok there)
  have r2 : Vals [V.ref (hp.objs.size + 1), v] [Value.ref (hp.objs.size + 1), u] := .cons rfl (.cons ru .nil)
  have hsp : spI1 X.K C f [V.ref (hp.objs.size + 1), v] (upd H1 (hp.objs.size + 1) (exo (hp.objs.size + 1) C none)) (fun w H2 => w = .non ∧ ∃ (d : Addr) (fs : List (Str × V)), H2 (hp.objs.size + 1) = some (exo (hp.objs.size + 1) C (some d)) ∧ H2 d = some (exd d fs) ∧ H1 d = none ∧ Q (.ref C) (some d) (upd (del H2 (hp.objs.size + 1)) d (.xd fs))) (fun _ _ _ => False) := by
    refine ⟨_, v, rfl, upd_same, fun d hd hne => ⟨rfl, d, [(f, v)], upd_same, ?_, ?_, ?_⟩⟩
    · rw [upd_ne hne, upd_same]
    · rw [upd_ne hne] at hd
      exact hd
    · rw [upd_ne hne] at hd
      refine q1 d _ (fun b o z => ?_) hd upd_same
      have nb : b ≠ hp.objs.size + 1 := ne_of_none z new
      rw [upd_ne (ne_of_none z hd), del_ne nb, upd_ne nb, upd_ne (ne_of_none z hd), upd_ne nb]
      exact z
  have hbt : BindsTo _ fd ⟨[Value.ref (hp.objs.size + 1), u], []⟩ ([("self" : Str), f].zip [Value.ref (hp.objs.size + 1), u]) := hb _ [Value.ref (hp.objs.size + 1), u] I2.kIn rfl
  refine wpAny_call (PySem.HandSPX.call_own PySem.F.excBase_Exception hT hC (PySem.W.looks_findIn I1.kIn iC) (fun self => PySem.W.bind_fn I1.kIn self tI) (by rw [sizeLine_eq]; show 1 ≤ _; omega) (codeAny_mono
    (F1.run _ X.stack _ _ ⟨[Value.ref (hp.objs.size + 1), u], []⟩ [Value.ref (hp.objs.size + 1), u] _ _ (fun _ _ _ => False) (hr.make C [u] []) (I2.env0.make C [u] []) hbt r2 hsp) ?_))
  rintro (er | fl) s' hq'
  · exact False.elim hq'
  · cases fl with
    | ret uu =>
      obtain ⟨w, H2, os2, bare2, un2, hok2, rv, ev, d, fs, ea, ed, hd1, q2⟩ := hq'
      subst ev
      obtain ⟨h2, g2, d2, t2, os'⟩ := s'
      exact ⟨rv, mk_end (raises_own D.T.exC D.tC) I1 le1 grow un2 hok2 os2 bare2 ea ed hd1 q2⟩
    | next => exact False.elim hq'
    | brk => exact False.elim hq'
    | cont => exact False.elim hq'
/-- raise C(e) -/
def tRaE (C : Addr) (f : Str) (te : TE) (W : WX) : TS := fun _ σ H => tMkR C f te σ H fun cls d H' => W cls d σ H'
theorem ps_raiseE (D : XrAt X.prog X.w X.K X.mg X.base x f C) (hr : Room 2 X.A) (hc : X.calm = true) (tk : Takes X W) (he : PE X e te) (hg : Gl X x := by rfl) (hdb : (x == ("__debug__" : Str)) = false := by decide)
    (hse : starEach [e] X.env = (false, eval e X.env) :: starEach [] X.env := by rfl) : PS X (.Raise (some (.Call (.Name x p) [e] [] pos)) none kp) (tRaE C f te W) := ps_raise hc tk (pmk_ec D hr hg he hdb hse (by rfl))
end

/-! ### except clauses, with and without names -/
/-- what a clause does: the class, the slot of its name, its suite -/
structure Cls1 where
  c : Value
  i : Option Nat
  ts : Addr → Value → Option Addr → TS
def slotIn (σ : L2.St) (i : Option Nat) (v : Option V) : L2.St := match i with
  | some j => σ.set j v
  | none => σ
def endsOut (D : Ends) (i : Option Nat) : Ends := { nx := fun σ' H' => D.nx (slotIn σ' i none) H', rt := D.rt, bk := fun σ' H' => D.bk (slotIn σ' i none) H', ct := fun σ' H' => D.ct (slotIn σ' i none) H' }
def wCls (K : PySem.W.Frag) (Wout : WX) (D : Ends) : List Cls1 → WX
  | [] => Wout
  | q :: r => fun cls d σ H => ∃ b, PySem.W.exmOne K cls q.c = some b ∧ (b = true → ∀ a, H a = none → q.ts a cls d (endsOut D q.i) (slotIn σ q.i (some (.ref a))) H) ∧ (b = false → wCls K Wout D r cls d σ H)
inductive ClsOk (X : Cx) : List ExceptHandler → List Cls1 → Prop
  | nil : ClsOk X [] []
  | bare {x : Str} {c : Value} {ts : Addr → Value → Option Addr → TS} {b₀ : Stmt} {suite : List Stmt} {np pos' : Pos} {hds : List ExceptHandler} {l : List Cls1} (hc : Names X x c)
      (hsu : ∀ (a : Addr) (oe : Obj) (cls : Value) (d : Option Addr) (pn : List (Addr × Obj)), Zc cls d oe → (∃ vs, oe.data = .fields vs) → PSs (X.suite a ((a, oe) :: pn)) (b₀ :: suite) (ts a cls d)) (r : ClsOk X hds l) :
      ClsOk X (.ExceptHandler (some (.Name x np)) none (b₀ :: suite) pos' :: hds) (⟨c, none, ts⟩ :: l)
  | as {x n : Str} {i : Nat} {c : Value} {ts : Addr → Value → Option Addr → TS} {b₀ : Stmt} {suite : List Stmt} {np pos' : Pos} {hds : List ExceptHandler} {l : List Cls1} (hc : Names X x c) (hi : X.N[i]? = some n) (hln : X.env.kindOf n = some .local)
      (hsu : ∀ (a : Addr) (oe : Obj) (cls : Value) (d : Option Addr) (pn : List (Addr × Obj)), Zc cls d oe → (∃ vs, oe.data = .fields vs) → PSs (X.suite a ((a, oe) :: pn)) (b₀ :: suite) (ts a cls d)) (r : ClsOk X hds l) :
      ClsOk X (.ExceptHandler (some (.Name x np)) (some n) (b₀ :: suite) pos' :: hds) (⟨c, some i, ts⟩ :: l)
section
variable {X : Cx} {body : List Stmt} {h₀ : ExceptHandler} {hds : List ExceptHandler} {l : List Cls1} {pos : Pos} {tb : WX → TS} {Wout : WX}
theorem ps_try_cls (hs : X.stack = X.env :: X.outer) (hf : X.env.frame = some X.env.locals) (hN : X.N.Nodup) (tk : Takes X Wout)
    (hb : ∀ (W : WX) (pn : List (Addr × Obj)) (xe : Value → Shared → Prop), Takes (X.tr pn xe) W → PassesOwn (model X.prog X.w) X.A X.env xe → PSs (X.tr pn xe) body (tb W))
    (hh : ClsOk X (h₀ :: hds) l) : PS X (.Try body (h₀ :: hds) [] [] pos) (fun D σ H => tb (wCls X.K Wout D l) D σ H) := by
  refine ⟨fun pins s σ H D I h => ?_⟩
  have ok := I.ok
  have hfr : X.A.frames = some (X.env :: X.outer) := by rw [ok.frames, hs]
  refine wpAny_Try_except (wpAny_mono ((hb (wCls X.K Wout D l) (X.pn ++ pins) (fun e s₁ => wpAny (model X.prog X.w) X.A (noteFrame e X.env) (fun _ s₂ => wpAny (model X.prog X.w) X.A (setFlight e none) (fun _ s₃ =>
    wpAny (model X.prog X.w) X.A (handleBy e X.env (h₀ :: hds)) (SP X pins D) X.xe s₃) X.xe s₂) X.xe s₁) (fun u s' xx => ?_) PassesOwn.looking).run [] s σ H D (I.toTry _) h) (fun f s1 hsp => ?_) (fun e s1 he => he))
  · -- it is caught here: the frame is noted, then the clauses are tried
    obtain ⟨a, B, sI, pins', σ', H', cls, d, rfl, J', nb, up, sky, na, os, ag, w⟩ := xx
    have J : Inv X pins σ' H' sI := J'.ofTry ok
    rw [show (X.tr (X.pn ++ pins) _).stack = X.env :: X.outer from hs] at sky
    refine Sky.land Zc.steady hfr hf sky fun h3 fl3 up3 => ?_
    have J3 : Inv X pins σ' H' { s' with heap := h3 } := J.landed nb fl3.1 (up.trans up3) os ag
    obtain ⟨oe3, vs3, he3, hz3, hd3⟩ := fl3.there
    have nfr : a ∉ frs (X.env :: X.outer) := fun hm => by
      obtain ⟨_, o', e', hnf⟩ := fl3.2.2.1.mem hm
      rw [he3] at e'
      cases e'
      exact hnf _ hd3
    have nL : a ≠ X.env.locals := fun z => nfr (List.mem_filterMap.mpr ⟨X.env, List.mem_cons_self, by rw [hf, z]⟩)
    have nF : a ∉ X.fs := fun hm => by
      obtain ⟨ev, hev, q⟩ := List.mem_filterMap.mp hm
      exact nfr (List.mem_filterMap.mpr ⟨ev, List.mem_cons_of_mem _ hev, q⟩)
    have S3 := J3.suite he3 hd3 na nL nF
    have LT : PySem.W.Looks (model X.prog X.w) h3 (typeOf (.ref a)) cls := fun A Q E s k q => wpAny_typeOf_ref (k _ _ he3) (by rw [hz3.1]; exact q)
    have test : ∀ {x : Str} {c : Value} {np : Pos} {Q : Value → Shared → Prop} {E : Value → Shared → Prop}, Names X x c → Q c { s' with heap := h3 } → wpAny (model X.prog X.w) (X.A.mark (some (.ref a))) (eval (.Name x np) X.env) Q E { s' with heap := h3 } := by
      intro x c np Q E hc q
      obtain ⟨hg, hdbg, hm | ⟨hm, hv, hnn⟩⟩ := hc
      · exact ld_glob (X := X.suite a ((a, oe3) :: (X.pn ++ pins))) S3 hg hm q hdbg
      · exact ld_blt (X := X.suite a ((a, oe3) :: (X.pn ++ pins))) S3 hg hm hv q hnn hdbg
    -- no clause takes it: it flies on
    have out : Wout cls d σ' H' → wpAny (model X.prog X.w) X.A (handleBy (.ref a) X.env []) (SP X pins D) X.xe { s' with heap := h3 } := by
      intro w
      refine wpAny_handleBy_nil ?_
      obtain ⟨k1, k2, k3, oe, vs, T, oT, ts', he, hz, hd, h1, hr⟩ := id fl3
      unfold PySem.passOn
      refine wpAny_bind (wpAny_field he hd h1 ?_)
      rw [if_neg (show ¬ ((Value.ref T == Value.none) = true) from by simp)]
      have fin : wpAny (model X.prog X.w) X.A (setFlight (.ref a) X.env.frame) (fun _ s4 => wpAny (model X.prog X.w) X.A (throw (.ref a) : Sem Flow) (SP X pins D) X.xe s4) X.xe { s' with heap := h3 } := by
        rw [hf]
        exact HandSPX.setFlight_upZ fl3 fun h4 hh4 up4 => wpAny_throw (tk _ _ ⟨a, B, sI, pins, σ', H', cls, d, rfl, J, nb, (up.trans up3).trans up4, .inr (.inr (by rw [hs]; exact hh4)), na, os, ag, w⟩)
      first
        | exact wpAny_bind (wpAny_pure (wpAny_bind fin))
        | exact wpAny_bind fin
    have go : ∀ {hds' : List ExceptHandler} {l' : List Cls1}, ClsOk X hds' l' → wCls X.K Wout D l' cls d σ' H' → wpAny (model X.prog X.w) X.A (handleBy (.ref a) X.env hds') (SP X pins D) X.xe { s' with heap := h3 } := by
      intro hds' l' hk
      induction hk with
      | nil => exact out
      | @bare x c ts b₀ suite np pos' hds2 l2 hc hsu r ih =>
        intro w
        obtain ⟨b, hb1, hyes, hno⟩ := w
        refine wpAny_handleBy_cons (codeAny_handlers_test (test hc ((PySem.W.exm_one (M := model X.prog X.w) (J3.kIn) LT hb1).here ?_))) (by intro q; cases q)
        cases b with
        | false => exact ih (hno rfl)
        | true =>
          refine codeAny_handlers_suite (HandSPX.lands_againZ fl3 fun h4 fl4 up4 => ?_)
          have J4 : Inv X pins σ' H' { s' with heap := h4 } := J.landed nb fl4.1 ((up.trans up3).trans up4) os ag
          obtain ⟨oe4, vs4, he4, hz4, hd4⟩ := fl4.there
          refine wpAny_mono ((hsu a oe4 cls d (X.pn ++ pins) hz4 ⟨_, hd4⟩).run [] _ _ H' _ (J4.suite he4 hd4 na nL nF) (hyes rfl a na)) (fun f s6 hsp => ?_) (fun _ _ z => False.elim z)
          cases f with
          | ret u =>
            obtain ⟨v6, σ6, H6, S6, r6, q6⟩ := hsp
            exact ⟨_, _, _, S6.unsuite ok, r6, q6⟩
          | next => exact let ⟨σ6, H6, S6, q6⟩ := hsp; ⟨_, _, S6.unsuite ok, q6⟩
          | brk => exact let ⟨σ6, H6, S6, q6⟩ := hsp; ⟨_, _, S6.unsuite ok, q6⟩
          | cont => exact let ⟨σ6, H6, S6, q6⟩ := hsp; ⟨_, _, S6.unsuite ok, q6⟩
      | @as x n i c ts b₀ suite np pos' hds2 l2 hc hi hln hsu r ih =>
        intro w
        obtain ⟨b, hb1, hyes, hno⟩ := w
        refine wpAny_handleBy_cons (codeAny_handlers_test (test hc ((PySem.W.exm_one (M := model X.prog X.w) (J3.kIn) LT hb1).here ?_))) (by intro q; cases q)
        cases b with
        | false => exact ih (hno rfl)
        | true =>
          refine codeAny_handlers_suite_as (HandSPX.lands_againZ fl3 fun h4 fl4 up4 => ?_)
          have J4 : Inv X pins σ' H' { s' with heap := h4 } := J.landed nb fl4.1 ((up.trans up3).trans up4) os ag
          obtain ⟨oe4, vs4, he4, hz4, hd4⟩ := fl4.there
          have S4 := J4.suite he4 hd4 na nL nF
          refine store_ok (X := X.suite a ((a, oe4) :: (X.pn ++ pins))) (v := .ref a) S4 hN hi (.inl hln) rfl (fun s5 S5 => ?_) (.inr hln)
          refine wpAny_mono ((hsu a oe4 cls d (X.pn ++ pins) hz4 ⟨_, hd4⟩).run [] s5 _ H' _ S5 (hyes rfl a na)) (fun f s6 hsp => ?_) (fun _ _ z => False.elim z)
          have last : ∀ {σ6 : L2.St} {H6 : Hp} {Q : Shared → Prop}, Inv (X.suite a ((a, oe4) :: (X.pn ++ pins))) [] σ6 H6 s6 → (∀ s7, Inv X pins (σ6.set i none) H6 s7 → Q s7) →
              wpAny (model X.prog X.w) X.A (do bindName X.env n .none; unbindBehindTheSuite X.env n pos') (fun _ s7 => Q s7) X.xe s6 := fun S6 hq => gone_ok (S6.unsuite ok) hN hi hln hq
          cases f with
          | ret u =>
            obtain ⟨v6, σ6, H6, S6, r6, q6⟩ := hsp
            exact last S6 fun s7 J7 => ⟨_, _, _, J7, r6, q6⟩
          | next => exact let ⟨σ6, H6, S6, q6⟩ := hsp; last S6 fun s7 J7 => ⟨_, _, J7, q6⟩
          | brk => exact let ⟨σ6, H6, S6, q6⟩ := hsp; last S6 fun s7 J7 => ⟨_, _, J7, q6⟩
          | cont => exact let ⟨σ6, H6, S6, q6⟩ := hsp; last S6 fun s7 J7 => ⟨_, _, J7, q6⟩
    exact go hh w
  · cases f with
    | ret u => exact let ⟨v, σ', H', J', r, q⟩ := hsp; ⟨v, σ', H', J'.ofTry ok, r, q⟩
    | next => exact let ⟨σ', H', J', q⟩ := hsp; wpAny_execs_nil ⟨σ', H', J'.ofTry ok, q⟩
    | brk => exact let ⟨σ', H', J', q⟩ := hsp; ⟨σ', H', J'.ofTry ok, q⟩
    | cont => exact let ⟨σ', H', J', q⟩ := hsp; ⟨σ', H', J'.ofTry ok, q⟩
end
/-! ### in a suite: the caught error's field, isinstance of it -/
theorem EcC.xf {K : PySem.W.Frag} {C : Addr} (T : EcC K C) : XfC K C := ⟨T.ga, T.gg, T.exC, T.hdC⟩
/-- isinstance(e, c), e caught -/
def rIsS (K : PySem.W.Frag) (a : Addr) (cls : Value) : List V → Hp → VK → Prop := fun xs H Q => ∃ (C dd : Addr) (fs : List (Str × V)) (c : V) (cv : Value) (b : Bool), xs = [.ref a, c] ∧ cls = .ref C ∧ EcC K C ∧ H dd = some (.xd fs) ∧ ClsV c cv ∧ PySem.W.kitOne K (.ref C) cv = some b ∧ Q (.bl b) H
theorem call_isS {X : Cx} {a dd : Addr} {cls : Value} {oe : Obj} {pn : List (Addr × Obj)} (hz : Zc cls (some dd) oe) (hf : ∃ vs, oe.data = .fields vs) :
    CallR (X.suite a ((a, oe) :: pn)) (.builtin "isinstance") (fun xs H Q => ∃ (C : Addr) (fs : List (Str × V)) (c : V) (cv : Value) (b : Bool), xs = [.ref a, c] ∧ cls = .ref C ∧ EcC X.K C ∧ H dd = some (.xd fs) ∧ ClsV c cv ∧ PySem.W.kitOne X.K (.ref C) cv = some b ∧ Q (.bl b) H) := by
  intro pins s σ H xs us Q I r h
  obtain ⟨C, fs, c, cv, b, rfl, rfl, T, ed, kc, e, q⟩ := h
  obtain ⟨u1, u2, rfl, r1, r2⟩ := vals2 r
  obtain rfl := kc.eq r2
  obtain rfl : u1 = Value.ref a := r1
  obtain ⟨ha, _⟩ := I.pin (a, oe) (List.mem_append_left _ List.mem_cons_self)
  obtain ⟨vs, hd⟩ := hf
  obtain ⟨mA, hns, hr⟩ := (show ObjOk X.prog X.w H s.heap dd (.xd fs) from I.hok dd _ ed)
  obtain ⟨od, ho, hl⟩ := lookIn_ns hns
  have J : PySem.W.InstAt s.heap a oe C (some od) := ⟨ha, hz.1, by unfold PySem.W.notCls; rw [hd] <;> rfl, by rw [hz.2]; exact ho⟩
  exact PySem.W.kia_one (kit_exc T (od := some od)) I.kIn J e (fun z => nomatch z) fun tk => ⟨.bl b, H, I.tok tk, rfl, q⟩
end EX
set_option Elab.async false
set_option linter.all false
set_option maxRecDepth 100000
set_option maxHeartbeats 4000000
namespace EX
open PySem L2 PySem.Spec PyProof.Rows
/-! ### operators of own classes -/
/-- the class at C has the method nm, whose def keeps sp -/
structure Dun (P : Program) (w : World) (K : PySem.W.Frag) (mg : Str → Option Value) (base : Heap) (CX : CXT) (k : Nat) (C : Addr) (nm : Str) (ps : List Str) (sp : Sp) : Prop where
  ex : ∃ (f : Addr) (fd : FuncData), PySem.W.findIn K (.ref C) nm = some (some (.ref f)) ∧ PySem.W.isFn K (.ref f) = true ∧ PySem.W.fnIn K f = true ∧ FnOk P w K mg base CX k f fd ps sp ∧ Binds K fd ps []
section
variable {X : Cx} {CX : CXT} {k : Nat} {C : Addr} {nm : Str} {ps : List Str} {sp : Sp} {E : XK} {pins : List (Addr × Obj)} {σ : L2.St} {H : Hp} {s : Shared}
theorem vref (a : Addr) : RelV (.ref a) (.ref a) := rfl
/-- a def run at A, which stands at the frames of X -/
theorem run_in {A : Around} {f : Addr} {fd : FuncData} {Q : VK} {us : List Value} {vs : List V} (F : FnOk X.prog X.w X.K X.mg X.base CX k f fd ps sp) (hr : Room k A) (e0 : Env0 X.prog X.w X.K X.mg X.base A X.stack s H) (hb : Binds X.K fd ps []) (hx : Passes CX X E)
    (I : Inv X pins σ H s) (r : Vals vs us) (h : sp vs H Q E) : wpAny (model X.prog X.w) A (call (.ref f) us) (EP X pins σ Q) X.xe s := by
  have hl : us.length = ps.length := by rw [← r.length]; exact F.len _ _ _ _ h
  have b : BindsTo s fd ⟨us, []⟩ (ps.zip us) := by
    have := hb s us I.kIn (by rw [List.append_nil]; exact hl)
    rwa [List.append_nil] at this
  refine wpAny_call (codeAny_mono (F.run A X.stack s H ⟨us, []⟩ us vs Q E hr e0 b r h) ?_)
  rintro (e | fl) s' hq
  · exact hx pins σ H s e s' I hq
  · cases fl with
    | ret u => exact I.after hq
    | next => exact False.elim hq
    | brk => exact False.elim hq
    | cont => exact False.elim hq
theorem inst_at {a dx : Addr} {fs : List (Str × V)} (I : Inv X pins σ H s) (e : H a = some (.ins C dx fs)) : ∃ od, PySem.W.InstAt s.heap a (PySem.W.instObj C dx) C (some od) := by
  obtain ⟨mA, O, _⟩ := ins_get I.hok e
  obtain ⟨od, J, _⟩ := O.look
  exact ⟨od, J⟩
/-- o[i] -/
def tGetO (C : Addr) (sp : Sp) (E : XK) (to ti : TE) : TE := fun σ H Q => to σ H fun x H1 => ti σ H1 fun y H2 => ∃ a dx fs, x = .ref a ∧ H2 a = some (.ins C dx fs) ∧ sp [.ref a, y] H2 Q E
theorem pe_getO {o i : Expr} {to ti : TE} {pos : Pos} (D : Dun X.prog X.w X.K X.mg X.base CX k C "__getitem__" ps sp) (hr : Room (k + 1) X.A) (hx : Passes CX X E) (ho : PE X o to) (hi : PE X i ti)
    (hsl : ∀ x y, subscripted i true x y = runValue (.builtin "lifetime.subscript" ⟨[x, y], []⟩) := by intro _ _; with_unfolding_all rfl) : PE X (.Subscript o i pos) (tGetO C sp E to ti) := by
  refine ⟨fun pins s σ H Q I h => Subscript_ (binT ho hi I h ?_)⟩
  intro v u s2 x y H2 I2 rx ry ⟨a, dx, fs, ex, ea, q⟩
  subst ex
  obtain rfl : v = Value.ref a := rx
  obtain ⟨f, fd, at_, hf, hfi, F, hb⟩ := D.ex
  obtain ⟨od, J⟩ := inst_at I2 ea
  obtain ⟨m, hF⟩ := I2.fr
  exact PySem.W.sub_K hF I2.ok.mod.kin J at_ hfi hf (run_in F hr.in1 I2.env0.in1 hb hx I2 (.cons (vref a) (.cons ry .nil)) q) (hsl _ _)
/-- k in o, k not in o; the method hands back a bool -/
def rInO (C : Addr) (sp : Sp) (E : XK) (neg : Bool) : R2 := fun y x H Q => ∃ a dx fs, x = .ref a ∧ H a = some (.ins C dx fs) ∧ sp [.ref a, y] H (fun z H' => ∃ b, z = .bl b ∧ Q (.bl (if neg then !b else b)) H') E
theorem op_inO (D : Dun X.prog X.w X.K X.mg X.base CX k C "__contains__" ps sp) (hr : Room k X.A) (hx : Passes CX X E) : OpR X (compareOp .In) (rInO C sp E false) := by
  intro pins s σ H y x u v Q I ry rx h
  obtain ⟨a, dx, fs, ex, ea, q⟩ := h
  subst ex
  obtain rfl : v = Value.ref a := rx
  obtain ⟨f, fd, at_, hf, hfi, F, hb⟩ := D.ex
  obtain ⟨od, J⟩ := inst_at I ea
  obtain ⟨m, hF⟩ := I.fr
  refine PySem.W.in_K hF I.ok.mod.kin J at_ hf (thn (run_in F hr I.env0 hb hx I (.cons (vref a) (.cons ry .nil)) q) ?_)
  rintro r s1 ⟨z, H1, I1, rz, b, rfl, q1⟩
  obtain rfl : r = Value.bool b := rz
  exact wpAny_truthy_bool ⟨.bl b, H1, I1, rfl, q1⟩
theorem op_notInO (D : Dun X.prog X.w X.K X.mg X.base CX k C "__contains__" ps sp) (hr : Room k X.A) (hx : Passes CX X E) : OpR X (compareOp .NotIn) (rInO C sp E true) := by
  intro pins s σ H y x u v Q I ry rx h
  obtain ⟨a, dx, fs, ex, ea, q⟩ := h
  subst ex
  obtain rfl : v = Value.ref a := rx
  obtain ⟨f, fd, at_, hf, hfi, F, hb⟩ := D.ex
  obtain ⟨od, J⟩ := inst_at I ea
  obtain ⟨m, hF⟩ := I.fr
  refine PySem.W.notIn_K hF I.ok.mod.kin J at_ hf (thn (run_in F hr I.env0 hb hx I (.cons (vref a) (.cons ry .nil)) q) ?_)
  rintro r s1 ⟨z, H1, I1, rz, b, rfl, q1⟩
  obtain rfl : r = Value.bool b := rz
  exact wpAny_truthy_bool ⟨.bl (!b), H1, I1, rfl, q1⟩
/-- the type of any value, as the library looks at it -/
theorem tyx_looks {x : V} {u t : Value} (I : Inv X pins σ H s) (rx : RelV x u) (ty : TyX X.K H x t) : PySem.W.Looks (model X.prog X.w) s.heap (typeOf u) t := by
  obtain ⟨P, Z, p, _⟩ := kit_of I rx ty
  exact Z.ty _ _ I.kIn p
/-- x == y by x's own method; y anything whose type is not below x's class -/
def rEqO (K : PySem.W.Frag) (C : Addr) (sp : Sp) (E : XK) : R2 := fun x y H Q => ∃ a dx fs t, x = .ref a ∧ H a = some (.ins C dx fs) ∧ TyX K H y t ∧ PySem.W.notFirst K C t = true ∧ sp [.ref a, y] H Q E
theorem op_eqO (D : Dun X.prog X.w X.K X.mg X.base CX k C "__eq__" ps sp) (hr : Room k X.A) (hx : Passes CX X E) : OpR X (compareOp .Eq) (rEqO X.K C sp E) := by
  intro pins s σ H x y v u Q I rx ry h
  obtain ⟨a, dx, fs, t, ex, ea, ty, hn, q⟩ := h
  subst ex
  obtain rfl : v = Value.ref a := rx
  obtain ⟨f, fd, at_, hf, hfi, F, hb⟩ := D.ex
  obtain ⟨od, J⟩ := inst_at I ea
  obtain ⟨m, hF⟩ := I.fr
  refine PySem.W.cmp_K (op := .Eq) hr.units0 hF I.ok.mod.kin J (tyx_looks I ry ty) hn at_ hf (wpAny_mono (run_in F hr I.env0 hb hx I (.cons (vref a) (.cons ry .nil)) q) ?_ fun _ _ z => z)
  rintro r s1 ⟨z, H1, I1, rz, q1⟩
  exact SlX.cmpback rz ⟨z, H1, I1, rz, q1⟩
/-- x != y where the class has its own == alone: the other answer -/
def rNeO (K : PySem.W.Frag) (C : Addr) (sp : Sp) (E : XK) : R2 := fun x y H Q => ∃ a dx fs t, x = .ref a ∧ H a = some (.ins C dx fs) ∧ TyX K H y t ∧ PySem.W.notFirst K C t = true ∧ sp [.ref a, y] H (fun z H' => ∃ b, z = .bl b ∧ Q (.bl (!b)) H') E
/-- what != asks of the class -/
structure NeC (K : PySem.W.Frag) (C : Addr) : Prop where
  ne : PySem.W.findIn K (.ref C) "__ne__" = some (some (.builtin "object.__ne__"))
  ob : PySem.W.mroIn K C (.type "object") = some true
theorem op_neO (D : Dun X.prog X.w X.K X.mg X.base CX k C "__eq__" ps sp) (N : NeC X.K C) (hr : Room (k + 1) X.A) (hx : Passes CX X E) : OpR X (compareOp .NotEq) (rNeO X.K C sp E) := by
  intro pins s σ H x y v u Q I rx ry h
  obtain ⟨a, dx, fs, t, ex, ea, ty, hn, q⟩ := h
  subst ex
  obtain rfl : v = Value.ref a := rx
  obtain ⟨f, fd, at_, hf, hfi, Fn, hb⟩ := D.ex
  obtain ⟨od, J⟩ := inst_at I ea
  have KX := I.kIn
  have LTy := tyx_looks I ry ty
  have call1 := run_in Fn hr.in1 I.env0.in1 hb hx I (.cons (vref a) (.cons ry .nil)) q
  have sub : PySem.W.Looks (model X.prog X.w) s.heap (isInstance (.ref a) (.type "object")) true := J.type.andThen (PySem.W.looks_mroIn KX N.ob)
  have entry : wpAny (model X.prog X.w) X.A.in1 (Builtin.«object.__ne__» ⟨[.ref a, u], []⟩) (fun fin s' => ∃ b, fin = .done (.ret (.bool b)) ∧ EP X pins σ Q (.bool b) s') X.xe s := by
    unfold Builtin.«object.__ne__»
    refine wpAny_bind (wpAny_of_eq (a := ((Value.ref a : Value), [u])) (by first | rfl | (simp only [slotArgs]; rfl)) ?_)
    refine wpAny_bind (wpAny_cRoomFor hr.in1.units0 ?_)
    refine wpAny_bind (PySem.W.ifBound_K KX J at_ hf (wpAny_mono call1 ?_ fun _ _ z => z))
    rintro r s1 ⟨z, H1, I1, rz, b, rfl, q1⟩
    obtain rfl : r = Value.bool b := rz
    exact wpAny_bind (wpAny_truthy_bool (wpAny_pure ⟨!b, rfl, .bl (!b), H1, I1, rfl, q1⟩))
  have one : wpAny (model X.prog X.w) X.A (tryCompare (.ref a) "__ne__" u) (fun r s' => ∃ b, r = some (.bool b) ∧ EP X pins σ Q (.bool b) s') X.xe s := by
    unfold tryCompare
    have bnd : wpAny (model X.prog X.w) X.A (call (.builtin "object.__ne__") [.ref a, u]) (fun r s' => ∃ b, r = .bool b ∧ EP X pins σ Q (.bool b) s') X.xe s := by
      refine wpAny_call (codeAny_call_builtin PySem.F.cmp_object.ne.plain PySem.F.cmpEntry_ne (PySem.W.check_slot PySem.F.cmpKind_ne PySem.F.cmpSplit_ne sub (PySem.F.cmpArgs_ne _ _) (wpAny_mono entry ?_ fun _ _ z => z)))
      rintro fin s1 ⟨b, rfl, e⟩
      exact ⟨b, rfl, e⟩
    refine wpAny_bind (m := callSpecialIfBound? (.ref a) "__ne__" [u]) ?_
    simp only [callSpecialIfBound?, bindSpecialIfBound?]
    refine wpAny_holding (wpAny_bind (wpAny_bind (wpAny_bind (J.type.here ((PySem.W.looks_findIn KX N.ne).here ?_)))))
    simp only [PySem.F.cmp_object.ne.bind]
    refine wpAny_bind (wpAny_askSetting (wpAny_ite ?_))
    have fin : wpAny (model X.prog X.w) X.A (call (.builtin "object.__ne__") ([.ref a] ++ [u]) >>= fun v => pure (some v)) (fun r s' => wpAny (model X.prog X.w) X.A (match r with | some .notImplemented | none => pure none | some v => pure (some v)) (fun r s' => ∃ b, r = some (.bool b) ∧ EP X pins σ Q (.bool b) s') X.xe s') X.xe s := by
      refine wpAny_bind (wpAny_mono bnd ?_ fun _ _ z => z)
      rintro r s1 ⟨b, rfl, e⟩
      exact wpAny_pure (wpAny_pure ⟨b, rfl, e⟩)
    split
    · first | exact fin | exact wpAny_pure (by exact fin) | exact wpAny_bind (wpAny_pure (by exact fin))
    · first | exact wpAny_tryCatch fin | exact wpAny_tryCatch (wpAny_pure (by exact fin)) | exact wpAny_tryCatch (wpAny_bind (wpAny_pure (by exact fin)))
  show wpAny _ _ (richCompare .NotEq (.ref a) u) _ _ _
  unfold richCompare
  simp only [oneThing_ref]
  refine wpAny_holding (wpAny_bind (wpAny_cRoomFor hr.units0 ?_))
  refine wpAny_bind (J.type.here (wpAny_bind (LTy.here ?_)))
  have tail : ∀ {R : Value → Shared → Prop}, (∀ b s', EP X pins σ Q (.bool b) s' → R (.bool b) s') → True := fun _ => trivial
  split
  · rename_i hne
    have e : PySem.W.subIn X.K t (.ref C) = some false := by
      rcases Bool.or_eq_true_iff.mp hn with e | e
      · rw [beq_iff_eq.mp e] at hne
        simp at hne
      · exact beq_iff_eq.mp e
    refine wpAny_bind ((PySem.W.looks_subIn KX e).here ?_)
    simp only [Bool.false_eq_true, if_false]
    refine wpAny_bind (wpAny_mono one ?_ fun _ _ z => z)
    rintro r s1 ⟨b, rfl, q1⟩
    exact wpAny_pure q1
  · refine wpAny_bind (wpAny_pure ?_)
    simp only [Bool.false_eq_true, if_false]
    refine wpAny_bind (wpAny_mono one ?_ fun _ _ z => z)
    rintro r s1 ⟨b, rfl, q1⟩
    exact wpAny_pure q1
/-- truth by an own __bool__ -/
theorem tru_own (D : Dun X.prog X.w X.K X.mg X.base CX k C "__bool__" ps sp) (hr : Room k X.A) (hx : Passes CX X E) : TruR X (fun x H Q => ∃ a dx fs, x = .ref a ∧ H a = some (.ins C dx fs) ∧ sp [.ref a] H (fun z H' => ∃ b, z = .bl b ∧ Q b H') E) := by
  intro pins s σ H x v Q I rx h
  obtain ⟨a, dx, fs, ex, ea, q⟩ := h
  subst ex
  obtain rfl : v = Value.ref a := rx
  obtain ⟨f, fd, at_, hf, hfi, F, hb⟩ := D.ex
  obtain ⟨od, J⟩ := inst_at I ea
  obtain ⟨m, hF⟩ := I.fr
  refine PySem.W.truthy_K hF I.ok.mod.kin J at_ hf (wpAny_mono (run_in F hr I.env0 hb hx I (.cons (vref a) .nil) q) ?_ fun _ _ z => z)
  rintro r s1 ⟨z, H1, I1, rz, b, rfl, q1⟩
  obtain rfl : r = Value.bool b := rz
  exact ⟨H1, I1, q1⟩
/-- len(o) -/
def rLenO (C : Addr) (sp : Sp) (E : XK) : List V → Hp → VK → Prop := fun xs H Q => ∃ a dx fs, xs = [.ref a] ∧ H a = some (.ins C dx fs) ∧ sp [.ref a] H (fun z H' => ∃ n : Int, z = .int n ∧ 0 ≤ n ∧ n < 2 ^ 63 ∧ Q (.int n) H') E
theorem call_lenO (D : Dun X.prog X.w X.K X.mg X.base CX k C "__len__" ps sp) (hr : Room (k + 1) X.A) (hx : Passes CX X E) : CallR X (.builtin "len") (rLenO C sp E) := by
  intro pins s σ H xs us Q I r h
  obtain ⟨a, dx, fs, rfl, ea, q⟩ := h
  obtain ⟨u, rfl, ru⟩ := vals1 r
  obtain rfl : u = Value.ref a := ru
  obtain ⟨f, fd, at_, hf, hfi, F, hb⟩ := D.ex
  obtain ⟨od, J⟩ := inst_at I ea
  obtain ⟨m, hF⟩ := I.fr
  refine PySem.W.len_K hF I.ok.mod.kin J at_ hf (wpAny_mono (run_in F hr.in1 I.env0.in1 hb hx I (.cons (vref a) .nil) q) ?_ fun _ _ z => z)
  rintro r s1 ⟨z, H1, I1, rz, n, rfl, h0, h1, q1⟩
  obtain ⟨t, rfl⟩ : ∃ t, r = Value.int n t := rz
  exact ⟨⟨h0, h1⟩, .int n, H1, I1.tok _, ⟨_, rfl⟩, q1⟩
/-- a test by truth, the rule given -/
theorem pt_tru {e : Expr} {te : TE} {r : V → Hp → (Bool → Hp → Prop) → Prop} (hr : TruR X r) (he : PE X e te) (hw : ∀ whole, isTrue e X.env whole = (do let v ← whole; standAt e.pos; holding [v] (truthy v)) := by intro _; rfl) : PT X e (fun σ H Q => te σ H fun x H' => r x H' Q) := by
  refine ⟨fun pins s σ H Q I h => isTrue_plain (thn (he.run pins s σ H _ I h) ?_) (hw _)⟩
  rintro v s1 ⟨x, H1, I1, r1, q1⟩
  exact hr pins s1 σ H1 x v Q I1 r1 q1
end
end EX
set_option Elab.async false
set_option linter.all false
set_option maxRecDepth 100000
set_option maxHeartbeats 4000000
namespace EX
open PySem L2 PySem.Spec PyProof.Rows
/-! ### data of any depth, dicts among them; repr -/
def keyD : Key → PyData
  | .inl i => .int i
  | .inr x => .str x
mutual
/-- the value v is the data d: lists, tuples, dicts (keys ints and texts) of such -/
inductive Dq (K : PySem.W.Frag) (H : Hp) : V → PyData → Prop
  | non : Dq K H .non .none
  | bl (b : Bool) : Dq K H (.bl b) (.bool b)
  | int (i : Int) : Dq K H (.int i) (.int i)
  | str (x : Str) : Dq K H (.str x) (.str x)
  | lst {a : Addr} {xs : List V} {ds : List PyData} : SqL K H a xs → DqAll K H xs ds → Dq K H (.ref a) (.list ds)
  | tup {a : Addr} {xs : List V} {ds : List PyData} : SqT K H a xs → DqAll K H xs ds → Dq K H (.ref a) (.tuple ds)
  | dic {a : Addr} {kvs : List (Key × V)} {ds : List PyData} : H a = some (.dK kvs) → DqAll K H (kvs.map (·.2)) ds → Dq K H (.ref a) (.dict ((kvs.map fun p => keyD p.1).zip ds))
inductive DqAll (K : PySem.W.Frag) (H : Hp) : List V → List PyData → Prop
  | nil : DqAll K H [] []
  | cons {v : V} {vs : List V} {d : PyData} {ds : List PyData} : Dq K H v d → DqAll K H vs ds → DqAll K H (v :: vs) (d :: ds)
end
theorem sqt_same {K : PySem.W.Frag} {H H' : Hp} {a : Addr} {xs : List V} (s : Same H H') (h : SqT K H a xs) : SqT K H' a xs :=
  h.elim (fun z => .inl (z.elim (fun z => .inl (s _ _ z)) fun ⟨o, z⟩ => .inr ⟨o, s _ _ z⟩)) .inr
mutual
theorem Dq.mono {K : PySem.W.Frag} {H H' : Hp} (s : Same H H') : ∀ {v : V} {d : PyData}, Dq K H v d → Dq K H' v d
  | _, _, .non => .non
  | _, _, .bl b => .bl b
  | _, _, .int i => .int i
  | _, _, .str x => .str x
  | _, _, .lst h a => .lst (s.seq h) (DqAll.mono s a)
  | _, _, .tup h a => .tup (sqt_same s h) (DqAll.mono s a)
  | _, _, .dic h a => .dic (s _ _ h) (DqAll.mono s a)
theorem DqAll.mono {K : PySem.W.Frag} {H H' : Hp} (s : Same H H') : ∀ {vs : List V} {ds : List PyData}, DqAll K H vs ds → DqAll K H' vs ds
  | _, _, .nil => .nil
  | _, _, .cons h t => .cons (Dq.mono s h) (DqAll.mono s t)
end
theorem DqAll.length {K : PySem.W.Frag} {H : Hp} : ∀ {vs : List V} {ds : List PyData}, DqAll K H vs ds → vs.length = ds.length
  | _, _, .nil => rfl
  | _, _, .cons _ t => congrArg (· + 1) (DqAll.length t)
section
variable {X : Cx} {pins : List (Addr × Obj)} {σ : L2.St} {H : Hp} {s : Shared}
theorem Dq.key {u : Value} {k : Key} (h : (mixKind X.prog X.w).is k u = true) : Reads s.heap u (keyD k) [] := by
  rcases keyIs_shape (show keyIs k u = true from h) with ⟨i, t, rfl, rfl⟩ | ⟨x, t, rfl, rfl⟩
  · exact Reads.int i t
  · exact Reads.str x t
theorem keys_read : ∀ {kvs : List (Key × V)} {vs : List (Key × Value)} {es : List DictEntry}, KV kvs vs → Pairs (mixKind X.prog X.w) es vs →
    ReadsAll s.heap (es.map (·.key)) (kvs.map fun p => keyD p.1) [] ∧ Vals (kvs.map (·.2)) (es.map (·.val))
  | _, _, _, .nil, .nil => ⟨ReadsAll.nil, .nil⟩
  | _, _, _, .cons hk t, .cons h1 h2 te => by
    obtain ⟨r1, r2⟩ := keys_read t te
    refine ⟨ReadsAll.cons (as := []) (Dq.key (by rw [hk.1]; exact h1)) r1, .cons ?_ r2⟩
    show L2.RelV _ (DictEntry.val _)
    rw [h2]
    exact hk.2
/-- the addresses that are read: none of them the table of modules -/
def AsOk (as : List Addr) : Prop := sysModules ∉ as
mutual
/-- where every list (not tuple) that stands in the data is known not to be the table of modules -/
inductive DqS (K : PySem.W.Frag) (H : Hp) : V → PyData → Prop
  | non : DqS K H .non .none
  | bl (b : Bool) : DqS K H (.bl b) (.bool b)
  | int (i : Int) : DqS K H (.int i) (.int i)
  | str (x : Str) : DqS K H (.str x) (.str x)
  | lst {a : Addr} {xs : List V} {ds : List PyData} : a ≠ sysModules → SqL K H a xs → DqSAll K H xs ds → DqS K H (.ref a) (.list ds)
  | tup {a : Addr} {xs : List V} {ds : List PyData} : SqT K H a xs → DqSAll K H xs ds → DqS K H (.ref a) (.tuple ds)
  | dic {a : Addr} {kvs : List (Key × V)} {ds : List PyData} : H a = some (.dK kvs) → DqSAll K H (kvs.map (·.2)) ds → DqS K H (.ref a) (.dict ((kvs.map fun p => keyD p.1).zip ds))
inductive DqSAll (K : PySem.W.Frag) (H : Hp) : List V → List PyData → Prop
  | nil : DqSAll K H [] []
  | cons {v : V} {vs : List V} {d : PyData} {ds : List PyData} : DqS K H v d → DqSAll K H vs ds → DqSAll K H (v :: vs) (d :: ds)
end
theorem DqSAll.length {K : PySem.W.Frag} {H : Hp} : ∀ {vs : List V} {ds : List PyData}, DqSAll K H vs ds → vs.length = ds.length
  | _, _, .nil => rfl
  | _, _, .cons _ t => congrArg (· + 1) (DqSAll.length t)
mutual
theorem DqS.reads (I : Inv X pins σ H s) : ∀ {v : V} {d : PyData} {u : Value}, DqS X.K H v d → RelV v u → ∃ as, Reads s.heap u d as ∧ sysModules ∉ as
  | _, _, _, .non, r => by
    cases r
    exact ⟨_, Reads.none, by simp⟩
  | _, _, _, .bl b, r => by
    cases r
    exact ⟨_, Reads.bool b, by simp⟩
  | _, _, _, .int i, r => by
    obtain ⟨t, rfl⟩ := r
    exact ⟨_, Reads.int i t, by simp⟩
  | _, _, _, .str x, r => by
    obtain ⟨t, rfl⟩ := r
    exact ⟨_, Reads.str x t, by simp⟩
  | _, _, _, .lst na hs ha, r => by
    cases r
    obtain ⟨its, rv, ⟨o, n, ho, hc, _, hd⟩, _⟩ := I.list hs
    obtain ⟨as, hr, hn⟩ := DqSAll.reads I ha rv
    exact ⟨_, Reads.list ho hc hd hr, by simp only [List.mem_cons, not_or]; exact ⟨fun z => na z.symm, hn⟩⟩
  | _, _, _, .tup hs ha, r => by
    cases r
    obtain ⟨its, rv, ⟨o, ho, hc, n, hd⟩, _⟩ := I.tuple hs
    obtain ⟨as, hr, hn⟩ := DqSAll.reads I ha rv
    exact ⟨_, Reads.tuple ho hc hd hr, hn⟩
  | _, _, _, .dic (a := a) (kvs := kvs) (ds := ds) e ha, r => by
    cases r
    obtain ⟨_, hsm, vs, kv, o, es, ep, ho, hx, hd, _, hp, _⟩ := (show ObjOk X.prog X.w H s.heap a (.dK kvs) from I.hok a _ e)
    obtain ⟨rk, rv⟩ := keys_read (s := s) kv hp
    obtain ⟨bs, hr, hn⟩ := DqSAll.reads I ha rv
    have hl : (kvs.map fun p => keyD p.1).length = ds.length := by
      have := ha.length
      simpa using this
    have z1 : ((kvs.map fun p => keyD p.1).zip ds).map (·.1) = kvs.map fun p => keyD p.1 := List.map_fst_zip (by omega)
    have z2 : ((kvs.map fun p => keyD p.1).zip ds).map (·.2) = ds := List.map_snd_zip (by omega)
    refine ⟨a :: [] ++ bs, Reads.dict ho hx.1 hd (by rw [z1]; exact rk) (by rw [z2]; exact hr), ?_⟩
    simp only [List.cons_append, List.nil_append, List.mem_cons, not_or]
    exact ⟨fun z => by rw [← z] at hsm; simp at hsm, hn⟩
theorem DqSAll.reads (I : Inv X pins σ H s) : ∀ {vs : List V} {ds : List PyData} {us : List Value}, DqSAll X.K H vs ds → Vals vs us → ∃ as, ReadsAll s.heap us ds as ∧ sysModules ∉ as
  | _, _, _, .nil, r => by
    cases r
    exact ⟨_, ReadsAll.nil, by simp⟩
  | _, _, _, .cons h1 h2, r => by
    cases r with
    | cons r1 r2 =>
      obtain ⟨as, q1, n1⟩ := DqS.reads I h1 r1
      obtain ⟨bs, q2, n2⟩ := DqSAll.reads I h2 r2
      exact ⟨_, ReadsAll.cons q1 q2, by simp only [List.mem_append, not_or]; exact ⟨n1, n2⟩⟩
end
/-- repr(x) -/
def rRepq (K : PySem.W.Frag) : List V → Hp → VK → Prop := fun xs H Q => ∃ (x : V) (d : PyData), xs = [x] ∧ DqS K H x d ∧ d.showable = true ∧ d.depth ≤ 60 ∧ d.shown.length ≤ sizeLine ∧ Q (.str d.shown) H
theorem call_reprq (hg : X.A.guards = some []) (hu : X.A.units + 70 < cLine) : CallR X (.builtin "repr") (rRepq X.K) := by
  intro pins s σ H xs us Q I r h
  obtain ⟨x, d, rfl, hR, hs, hdp, hz, q⟩ := h
  obtain ⟨u, rfl, ru⟩ := vals1 r
  obtain ⟨as, hr, hsm⟩ := hR.reads I ru
  have sc : ∀ (b : Str), d.shown = b → ∀ tk, EP X pins σ Q (.str b tk) { s with toks := s.toks + 1 } := fun b e tk => ⟨.str b, H, I.tok _, ⟨_, rfl⟩, e ▸ q⟩
  have big : ∀ {a : Addr}, Reads s.heap (.ref a) d as → wpAny (model X.prog X.w) X.A (call (.builtin "repr") [.ref a]) (EP X pins σ Q) X.xe s := fun {a} hr =>
    repr_of_reads' hr hs (fun _ => hsm) hg (by omega) (fun _ _ e => e) (fun h' u tk k => ⟨.str _, H, I.kept k, ⟨_, rfl⟩, q⟩) hz
  cases hr with
  | none => exact PySem.P.repr_of_none (sc _ rfl _)
  | bool b => exact PySem.P.repr_of_bool (sc _ (by cases b <;> rfl) _)
  | int i t => exact PySem.P.repr_of_int (of_decide_eq_true hs) (sc _ rfl _)
  | str y t => exact PySem.P.repr_of_str (sc _ rfl _) hz
  | list h1 h2 h3 h4 => exact big (Reads.list h1 h2 h3 h4)
  | tuple h1 h2 h3 h4 => exact big (Reads.tuple h1 h2 h3 h4)
  | dict h1 h2 h3 h4 h5 => exact big (Reads.dict h1 h2 h3 h4 h5)
/-- a list display, its place not the table of modules -/
def tLstN (t : TA) : TE := fun σ H Q => t σ H fun xs H1 => xs.length ≤ sizeLine ∧ ∀ p, H1 p = none → p ≠ sysModules → Q (.ref p) (upd H1 p (.lst xs))
theorem pe_lstN {es : List Expr} {t : TA} {pos : Pos} (h : PA X es t) : PE X (.List es pos) (tLstN t) := by
  refine ⟨fun pins s σ H Q I hq => wpAny_List_spliced (thn (h.run pos pins s σ H _ I hq) ?_)⟩
  rintro us s1 ⟨xs, H1, I1, r, z, q⟩
  have hf : H1 s1.heap.objs.size = none := I1.hok.fresh (Nat.le_refl _)
  have J := I1.laid (t' := s1.toks) (a := s1.heap.objs.size) (o := .lst xs) (h' := s1.heap.push { cls := .type "list", data := .seq us.toArray 0 }) (fun b u e => Heap.get?_push_of_some _ e) (Nat.le_refl _) ⟨z, us, 0, r, Heap.get?_push_size _ rfl⟩
  exact ⟨by rw [← r.length]; exact z, .ref s1.heap.objs.size, _, J, rfl, q _ hf (fun e => by have := I1.big; rw [e] at this; exact Nat.lt_irrefl _ this)⟩
end
/-! ### defs that want to know that nothing is being shown (for repr) -/
structure FnG (P : Program) (w : World) (K : PySem.W.Frag) (mg : Str → Option Value) (base : Heap) (CX : CXT) (k : Nat) (f : Addr) (fd : FuncData) (ps : List Str) (sp : Sp) : Prop where
  run : ∀ (A : Around) (outer : List Env) (s : Shared) (H : Hp) (args : Args) (us : List Value) (vs : List V) (Q : VK) (E : XK), Room k A → A.guards = some [] → Env0 P w K mg base A outer s H → BindsTo s fd args (ps.zip us) → Vals vs us → sp vs H Q E →
    codeAny (model P w) A (.call (.ref f) args) (CR CX outer P w H s Q E) s
  len : ∀ (vs : List V) (H : Hp) (Q : VK) (E : XK), sp vs H Q E → vs.length = ps.length
theorem FnG.of {P : Program} {w : World} {K : PySem.W.Frag} {mg : Str → Option Value} {base : Heap} {CX : CXT} {k : Nat} {f : Addr} {fd : FuncData} {ps : List Str} {sp : Sp} (F : FnOk P w K mg base CX k f fd ps sp) : FnG P w K mg base CX k f fd ps sp :=
  ⟨fun A outer s H args us vs Q E hr _ e0 hb rv h => F.run A outer s H args us vs Q E hr e0 hb rv h, fun vs H Q E h => F.len vs H Q E h⟩
theorem guards_deeper {A : Around} {env : Env} (h : A.guards = some []) : (A.deeper env).guards = some [] := by
  first | exact h | simpa [Around.deeper] using h
theorem okG {P : Program} {w : World} {K : PySem.W.Frag} {mg : Str → Option Value} {base : Heap} {x qual : Str} {st : Stmt} {f : Addr} {fd : FuncData} {N ps : List Str} {k : Nat} {sp : Sp} (F : Fun K x qual st f fd) (S : FnScope N ps (defScope st))
    (len : ∀ vs H Q E, sp vs H Q E → vs.length = ps.length)
    (body : ∀ (cdv : Value) (A : Around) (outer : List Env) (s : Shared) (H : Hp) (vs : List V) (Q : VK) (E : XK), (A.deeper (envOfC qual (defScope st) s.heap.objs.size f cdv)).guards = some [] → Room k (A.deeper (envOfC qual (defScope st) s.heap.objs.size f cdv)) → sp vs H Q E →
      ∃ t, PSs (cxOf CX0 P w K mg base N qual (defScope st) f cdv A outer s H E) (defBody st) t ∧ t { nx := fun _ H' => Q .non H', rt := Q } (start N vs) H) : FnG P w K mg base CX0 (k + 1) f fd ps sp :=
  ⟨fun A outer s H args us vs Q E hr hg e0 hb rv h => fn_at F S hr e0 hb rv (len _ _ _ _ h) fun cdv hr' => body cdv A outer s H vs Q E (guards_deeper hg) hr' h, len⟩
structure DefG (P : Program) (w : World) (K : PySem.W.Frag) (mg : Str → Option Value) (base : Heap) (k : Nat) (x : Str) (ps : List Str) (sp : Sp) : Prop where
  ex : ∃ (f : Addr) (fd : FuncData), FnG P w K mg base CX0 k f fd ps sp ∧ mg x = some (.ref f) ∧ PySem.W.keepIn K (.ref f) = true ∧ Binds K fd ps []
section
variable {X : Cx} {e : Expr} {es : List Expr} {ta : TA} {p pos : Pos} {x : Str} {k : Nat} {ps : List Str} {sp : Sp}
theorem pe_callG (D : DefG X.prog X.w X.K X.mg X.base k x ps sp) (hr : Room k X.A) (hgu : X.A.guards = some []) (ha : PA X (e :: es) ta) (hg : Gl X x := by rfl) (hdb : (x == ("__debug__" : Str)) = false := by decide)
    (he : starEach (e :: es) X.env = (false, eval e X.env) :: starEach es X.env := by rfl) (hpl : (backTo pos (starEach es X.env)).any (·.1) = false := by rfl) : PE X (.Call (.Name x p) (e :: es) [] pos) (tCall sp [] E0 ta) := by
  obtain ⟨f, fd, F, m, kp, hb⟩ := D.ex
  refine ⟨fun pins s σ H Q I h => wpAny_Call_Name_kw (ld_glob I hg m (PySem.W.callWith_K (h₀ := X.base) I.ok.mod.kin kp (thn (ha.run pos pins s σ H _ I h) ?_) he hpl) hdb)⟩
  rintro us s1 ⟨vs, H1, I1, r, q⟩
  refine ⟨I1.kIn, ?_⟩
  have q' : sp vs H1 Q E0 := by
    have := q
    rwa [List.append_nil] at this
  have hl : us.length = ps.length := by rw [← r.length]; exact F.len _ _ _ _ q'
  have bt : BindsTo s1 fd ⟨us, []⟩ (ps.zip us) := by
    have := hb s1 us I1.kIn (by rw [List.append_nil]; exact hl)
    rwa [List.append_nil] at this
  refine wpAny_call (codeAny_mono (F.run X.A X.stack s1 H1 ⟨us, []⟩ us vs Q E0 hr hgu I1.env0 bt r q') ?_)
  rintro (er | fl) s' hq
  · exact False.elim hq
  · cases fl with
    | ret u => exact I1.after hq
    | next => exact False.elim hq
    | brk => exact False.elim hq
    | cont => exact False.elim hq
end
end EX
set_option Elab.async false
set_option linter.all false
set_option maxRecDepth 100000
set_option maxHeartbeats 4000000
/-! what stands in the heap but for some places -/
namespace EX
open PySem L2 PyProof.Rows
/-- all that stood stands, but at the places S -/
def Keeps (S : List Addr) (H H' : Hp) : Prop := ∀ b o, b ∉ S → H b = some o → H' b = some o
variable {S T : List Addr} {H H1 H2 : Hp}
theorem Keeps.refl (S : List Addr) (H : Hp) : Keeps S H H := fun _ _ _ e => e
theorem Keeps.of (s : Same H H1) : Keeps S H H1 := fun b o _ e => s b o e
theorem Keeps.trans (a : Keeps S H H1) (b : Keeps S H1 H2) : Keeps S H H2 := fun c o n e => b c o n (a c o n e)
theorem Keeps.more (a : Keeps S H H1) (h : ∀ p ∈ S, p ∈ T) : Keeps T H H1 := fun c o n e => a c o (fun z => n (h c z)) e
theorem Keeps.then (a : Keeps S H H1) (s : Same H1 H2) : Keeps S H H2 := a.trans (.of s)
theorem Keeps.put {p : Addr} {o : HO} (a : Keeps S H H1) (hp : p ∈ S) : Keeps S H (upd H1 p o) := fun c u n e => by
  have ne : c ≠ p := fun z => n (by rw [z]; exact hp)
  rw [upd_ne ne]
  exact a c u n e
theorem Keeps.new {p : Addr} {o : HO} (a : Keeps S H H1) (hp : H1 p = none) : Keeps S H (upd H1 p o) := fun c u n e => by
  have := a c u n e
  have ne : c ≠ p := fun z => by
    rw [z, hp] at this
    cases this
  rw [upd_ne ne]
  exact this
theorem Keeps.free {p : Addr} (a : Keeps S H H1) (hS : p ∉ S) (hp : H1 p = none) : H p = none := by
  cases e : H p with
  | none => rfl
  | some o =>
    have := a p o hS e
    rw [hp] at this
    cases this
/-- what is changed was not there -/
theorem Keeps.same (a : Keeps S H H1) (h : ∀ p ∈ S, H p = none) : Same H H1 := fun b o e => a b o (fun z => by rw [h b z] at e; cases e) e
theorem Keeps.seq {K : PySem.W.Frag} {a : Addr} {xs : List V} (k : Keeps S H H1) (n : ∀ o, H a = some o → a ∉ S) (h : SqL K H a xs) : SqL K H1 a xs := by
  rcases h with (h | ⟨o, h⟩) | h
  · exact .inl (.inl (k _ _ (n _ h) h))
  · exact .inl (.inr ⟨o, k _ _ (n _ h) h⟩)
  · exact .inr h
theorem Keeps.sqt {K : PySem.W.Frag} {a : Addr} {xs : List V} (k : Keeps S H H1) (n : ∀ o, H a = some o → a ∉ S) (h : SqT K H a xs) : SqT K H1 a xs := by
  rcases h with (h | ⟨o, h⟩) | h
  · exact .inl (.inl (k _ _ (n _ h) h))
  · exact .inl (.inr ⟨o, k _ _ (n _ h) h⟩)
  · exact .inr h
theorem Keeps.lock {d : Addr} {u : HO} {od : Obj} (hd : H d = some u) (a : Keeps S (upd H d (.frz od u)) H1) : Keeps S H (upd H1 d u) := fun b o n e => by
  by_cases hb : b = d
  · subst hb
    rw [upd_same, ← hd, e]
  · rw [upd_ne hb]
    refine a b o n ?_
    rw [upd_ne hb]
    exact e
theorem ne_by {a b : Addr} {o : HO} (h : H a = some o) (hb : H b = none) : a ≠ b := fun z => by
  rw [z, hb] at h
  cases h
theorem ixI {n j : Nat} (hj : j < n) : ixN n (j : Int) = some j := by
  unfold ixN
  rw [if_pos (by omega), if_pos (by omega)]
  rfl
/-- no tuple stands there -/
def NoTup (H : Hp) (p : Addr) : Prop := (∀ xs, H p ≠ some (.tup xs)) ∧ ∀ q xs, H p ≠ some (.frz q (.tup xs))
theorem NoTup.ins {p C dx : Addr} {fs : List (Str × V)} (h : H p = some (.ins C dx fs)) : NoTup H p := ⟨fun xs z => (by rw [h] at z; cases z), fun q xs z => (by rw [h] at z; cases z)⟩
theorem NoTup.lst {p : Addr} {ys : List V} (h : H p = some (.lst ys)) : NoTup H p := ⟨fun xs z => (by rw [h] at z; cases z), fun q xs z => (by rw [h] at z; cases z)⟩
theorem NoTup.dK {p : Addr} {ys : List (Key × V)} (h : H p = some (.dK ys)) : NoTup H p := ⟨fun xs z => (by rw [h] at z; cases z), fun q xs z => (by rw [h] at z; cases z)⟩
theorem NoTup.no {p : Addr} (h : H p = Option.none) : NoTup H p := ⟨fun xs z => (by rw [h] at z; cases z), fun q xs z => (by rw [h] at z; cases z)⟩
theorem Keeps.sqt' {K : PySem.W.Frag} {a : Addr} {xs : List V} (k : Keeps S H H1) (n : ∀ p ∈ S, NoTup H p) (h : SqT K H a xs) : SqT K H1 a xs := by
  rcases h with (h | ⟨o, h⟩) | h
  · exact .inl (.inl (k _ _ (fun z => (n _ z).1 xs h) h))
  · exact .inl (.inr ⟨o, k _ _ (fun z => (n _ z).2 o xs h) h⟩)
  · exact .inr h
theorem Keeps.one {p : Addr} {o : HO} (H : Hp) : Keeps [p] H (upd H p o) := (Keeps.refl _ _).put (List.mem_singleton.mpr rfl)
theorem ifF {b : Bool} {A B : Prop} (e : b = false) (h : B) : if b = true then A else B := by
  rw [e]
  exact iteF h
theorem ifT {b : Bool} {A B : Prop} (e : b = true) (h : A) : if b = true then A else B := by
  rw [e]
  exact iteT h
theorem rd_lock {g d : Addr} {k u : List (Key × V)} {od : Obj} (h : Rd H g (.dK k)) (hd : H d = some (.dK u)) : Rd (upd H d (.frz od (.dK u))) g (.dK k) := by
  by_cases e : g = d
  · subst e
    rcases h with h | ⟨o, h⟩
    · rw [hd] at h
      cases h
      exact .inr ⟨od, upd_same⟩
    · rw [hd] at h
      cases h
  · rcases h with h | ⟨o, h⟩
    · exact .inl (by rw [upd_ne e]; exact h)
    · exact .inr ⟨o, by rw [upd_ne e]; exact h⟩
theorem rd_same {g : Addr} {k : List (Key × V)} (s : Same H H1) (h : Rd H g (.dK k)) : Rd H1 g (.dK k) := by
  rcases h with h | ⟨o, h⟩
  · exact .inl (s _ _ h)
  · exact .inr ⟨o, s _ _ h⟩
theorem sql_lock {K : PySem.W.Frag} {a d : Addr} {xs : List V} {u : List (Key × V)} {od : Obj} (h : SqL K H a xs) (hd : H d = some (.dK u)) : SqL K (upd H d (.frz od (.dK u))) a xs := by
  rcases h with (h | ⟨o, h⟩) | h
  · exact .inl (.inl (by rw [upd_ne fun z => by rw [z, hd] at h; cases h]; exact h))
  · exact .inl (.inr ⟨o, by rw [upd_ne fun z => by rw [z, hd] at h; cases h]; exact h⟩)
  · exact .inr h
theorem sqt_lock {K : PySem.W.Frag} {a d : Addr} {xs : List V} {u : List (Key × V)} {od : Obj} (h : SqT K H a xs) (hd : H d = some (.dK u)) : SqT K (upd H d (.frz od (.dK u))) a xs := by
  rcases h with (h | ⟨o, h⟩) | h
  · exact .inl (.inl (by rw [upd_ne fun z => by rw [z, hd] at h; cases h]; exact h))
  · exact .inl (.inr ⟨o, by rw [upd_ne fun z => by rw [z, hd] at h; cases h]; exact h⟩)
  · exact .inr h
theorem merge_app : ∀ (more kvs : List (Key × V)), ((kvs ++ more).map (·.1)).Nodup → mergeK kvs more = kvs ++ more
  | [], kvs, _ => by simp [mergeK]
  | e :: more, kvs, h => by
    have hno : e.1 ∉ kvs.map (·.1) := fun z => by
      rw [List.map_append, List.nodup_append] at h
      exact h.2.2 _ z _ (List.mem_map.mpr ⟨e, .head _, rfl⟩) rfl
    have hp : putK kvs e.1 e.2 = kvs ++ [e] := putK_new _ (by
      unfold valV
      have : kvs.find? (fun kv => decide (kv.1 = e.1)) = none := by
        rw [List.find?_eq_none]
        intro kv hkv
        rw [decide_eq_true_eq]
        exact fun z => hno (z ▸ List.mem_map.mpr ⟨kv, hkv, rfl⟩)
      rw [this]
      rfl)
    show mergeK (putK kvs e.1 e.2) more = _
    rw [hp, merge_app more (kvs ++ [e]) (by rw [List.append_assoc]; exact h), List.append_assoc]
    rfl
theorem merge_nd {more : List (Key × V)} (h : (more.map (·.1)).Nodup) : mergeK [] more = more := merge_app more [] h
theorem nd_inr {β : Type} {l : List (Str × β)} (h : (l.map (·.1)).Nodup) : (l.map fun p => (Sum.inr p.1 : Key)).Nodup := by
  rw [show (l.map fun p => (Sum.inr p.1 : Key)) = (l.map (·.1)).map Sum.inr by rw [List.map_map]; rfl]
  exact List.pairwise_map.mpr (h.imp fun ne e => ne (Sum.inr.inj e))
end EX
set_option Elab.async false
set_option linter.all false
set_option maxRecDepth 100000
set_option maxHeartbeats 4000000
/-! x | y, x & y of one's own class, both of it -/
namespace EX
open PySem L2 PySem.Spec PyProof.Rows
def rBinO (C : Addr) (sp : Sp) (E : XK) : R2 := fun x y H Q => ∃ a b dx dy fs gs, x = .ref a ∧ y = .ref b ∧ H a = some (.ins C dx fs) ∧ H b = some (.ins C dy gs) ∧ sp [.ref a, .ref b] H Q E
theorem op_binO {X : Cx} {CX : CXT} {k : Nat} {C : Addr} {op : Operator} {nm : Str} {ps : List Str} {sp : Sp} {E : XK} (D : Dun X.prog X.w X.K X.mg X.base CX k C nm ps sp) (hn : PySem.dunder op.info.2 = nm) (sf : PySem.W.selfFirst X.K C = true) (hr : Room k X.A) (hx : Passes CX X E) :
    OpR X (binaryOp op) (rBinO C sp E) := by
  intro pins s σ H x y v u Q I rx ry h
  obtain ⟨a, b, dx, dy, fs, gs, ex, ey, ea, eb, q⟩ := h
  subst ex
  subst ey
  obtain rfl : v = Value.ref a := rx
  obtain rfl : u = Value.ref b := ry
  obtain ⟨f, fd, at_, hf, hfi, F, hb⟩ := D.ex
  obtain ⟨od, J⟩ := inst_at I ea
  obtain ⟨od2, J2⟩ := inst_at I eb
  obtain ⟨m, hF⟩ := I.fr
  refine PySem.W.binop_K hF I.ok.mod.kin J J2.type sf (by rw [hn]; exact at_) hf (wpAny_mono (run_in F hr I.env0 hb hx I (.cons (vref a) (.cons (vref b) .nil)) q) ?_ fun _ _ z => z)
  rintro r s1 ⟨z, H1, I1, rz, q1⟩
  exact SlX.cmpback rz ⟨z, H1, I1, rz, q1⟩
end EX
set_option Elab.async false
set_option linter.all false
set_option maxRecDepth 100000
set_option maxHeartbeats 4000000
/-! methods, properties, instances of one's own classes, each as one fact -/
namespace EX
open PySem L2 PyProof.Rows
structure MtAt (P : Program) (w : World) (K : PySem.W.Frag) (mg : Str → Option Value) (base : Heap) (CX : CXT) (k : Nat) (C : Addr) (m : Str) (ps : List Str) (sp : Sp) : Prop where
  c : Cls K C
  ex : ∃ (f : Addr) (fd : FuncData), Meth K C m f ∧ FnOk P w K mg base CX k f fd ps sp ∧ Binds K fd ps []
structure PrAt (P : Program) (w : World) (K : PySem.W.Frag) (mg : Str → Option Value) (base : Heap) (k : Nat) (C : Addr) (m : Str) (ps : List Str) (sp : Sp) : Prop where
  c : Cls K C
  ex : ∃ (p f : Addr) (fd : FuncData), PropOf K C m p f ∧ FnOk P w K mg base CX0 k f fd ps sp ∧ Binds K fd ps []
structure MkAt (P : Program) (w : World) (K : PySem.W.Frag) (mg : Str → Option Value) (base : Heap) (CX : CXT) (k : Nat) (x : Str) (ps : List Str) (C : Addr) (sp : Sp) : Prop where
  m : mg x = some (.ref C)
  ex : ∃ (f : Addr) (fd : FuncData), Mk K C f ∧ FnOk P w K mg base CX k f fd ps sp ∧ Binds K fd ps []
section
variable {X : Cx} {e o : Expr} {es : List Expr} {t : TA} {ta : TE} {p pos apos : Pos} {x m : Str} {k : Nat} {ps : List Str} {sp : Sp} {C : Addr}
theorem pe_mtD {pl : Sem Bool} (D : MtAt X.prog X.w X.K X.mg X.base CX0 k C m ps sp) (hr : Room k X.A) (he : PE X o ta) (ha : PA X (e :: es) t)
    (hst : starEach (e :: es) X.env = (false, eval e X.env) :: starEach es X.env := by rfl) (hpl : (backTo pos (starEach es X.env)).any (·.1) = false := by rfl)
    (ht : eval (.Call (.Attribute o m apos) (e :: es) [] pos) X.env = (do
      let ov ← eval o X.env
      standAt apos.atName
      let (f, first) ← holding [ov] (getMethod ov m pl)
      callWith pos f first (backTo pos (starEach (e :: es) X.env)) (backToKw pos (keywordEach [] X.env))) := by rfl) : PE X (.Call (.Attribute o m apos) (e :: es) [] pos) (tMeth C m sp [] E0 ta t) := by
  obtain ⟨f, fd, hm, F, b⟩ := D.ex
  exact pe_meth (pl := pl) he D.c hm F hr b .nil pass0 ha hst hpl ht
theorem pe_mtD0 {pl : Sem Bool} (D : MtAt X.prog X.w X.K X.mg X.base CX0 k C m ps sp) (hr : Room k X.A) (he : PE X o ta)
    (ht : eval (.Call (.Attribute o m apos) [] [] pos) X.env = (do
      let ov ← eval o X.env
      standAt apos.atName
      let (f, first) ← holding [ov] (getMethod ov m pl)
      callWith pos f first (backTo pos (starEach [] X.env)) (backToKw pos (keywordEach [] X.env))) := by rfl) : PE X (.Call (.Attribute o m apos) [] [] pos) (tMeth C m sp [] E0 ta tNil) := by
  obtain ⟨f, fd, hm, F, b⟩ := D.ex
  exact pe_meth0 (pl := pl) he D.c hm F hr b .nil pass0 ht
theorem pe_prD (D : PrAt X.prog X.w X.K X.mg X.base k C m ps sp) (hr : Room (k + 1) X.A) (he : PE X e ta) (hab : attributeBase e m X.env (eval e X.env) = eval e X.env := by rfl) : PE X (.Attribute e m pos) (tProp C sp [] E0 ta) := by
  obtain ⟨q, f, fd, hp, F, b⟩ := D.ex
  exact pe_prop he D.c hp F hr b .nil pass0 hab
theorem pe_mkC (D : MkAt X.prog X.w X.K X.mg X.base CX0 k x ps C sp) (hr : Room (k + 1) X.A) (ha : PA X (e :: es) t) (hg : Gl X x := by rfl) (hdb : (x == ("__debug__" : Str)) = false := by decide)
    (he : starEach (e :: es) X.env = (false, eval e X.env) :: starEach es X.env := by rfl) (hpl : (backTo pos (starEach es X.env)).any (·.1) = false := by rfl) : PE X (.Call (.Name x p) (e :: es) [] pos) (tMake C sp [] E0 t) := by
  obtain ⟨f, fd, M, F, b⟩ := D.ex
  exact pe_make M F hr hg D.m b .nil pass0 ha hdb he hpl
end
def rMax2 : List V → Hp → VK → Prop := fun xs H Q => ∃ i j, xs = [.int i, .int j] ∧ Q (.int (if j > i then j else i)) H
def rMin2 : List V → Hp → VK → Prop := fun xs H Q => ∃ i j, xs = [.int i, .int j] ∧ Q (.int (if j < i then j else i)) H
def rLenSq (K : PySem.W.Frag) : List V → Hp → VK → Prop := fun xs H Q => ∃ p ys, xs = [.ref p] ∧ (SqL K H p ys ∨ SqT K H p ys) ∧ Q (.int ys.length) H
def rAbs : List V → Hp → VK → Prop := fun xs H Q => ∃ i, xs = [.int i] ∧ Q (.int (if i < 0 then -i else i)) H
end EX
set_option Elab.async false
set_option linter.all false
set_option maxRecDepth 100000
set_option maxHeartbeats 2000000
/-! the head's facts as Bools over what is written: own exceptions, properties, own specials -/
namespace HkX
open PySem PySem.W PySem.Calls PyProof.Rows He L2 EX
abbrev Fx : Type := Frag → Bool
/-- He's facts -/
def xF (f : He.Fa) : Fx := fun K => f.ok K
/-- an own exception class below Exception -/
def xEcc (x : PySem.Str) : Fx := fun K => excInitIn K (ga K x) exT "Exception.__new__" && (excOver K (ga K x) exT && (eqO (findIn K (.ref (ga K x)) "__setattr__") (some (some (.builtin "object.__setattr__"))) && (eqO (findIn K (.ref (ga K x)) "__getattribute__") (some (some (.builtin "BaseException.__getattribute__"))) &&
  (eqO (findIn K (.ref (ga K x)) "__getattr__") (some none) && (decide (subIn K (.ref (ga K x)) (.type "BaseException") = some true) && (hasDictIn K (ga K x) && (keepIn K (.ref (ga K x)) && ((clsIn K (ga K x)).isSome && (eqO (findIn K (.ref (ga K x)) "__class__") (some (some (.builtin "object.__class__"))) &&
  (decide (mroIn K (ga K x) (.type "object") = some true) && (eqO (specialIn K (.builtin "object.__class__") "__get__") (some (some (.builtin "getset_descriptor.__get__"))) && decide (takesIn K (.builtin "object.__class__") = some true))))))))))))
theorem ecc_ok {K : Frag} {x : PySem.Str} (h : xEcc x K = true) : EcC K (ga K x) := by
  obtain ⟨h1, h⟩ := ba h
  obtain ⟨h2, h⟩ := ba h
  obtain ⟨h3, h⟩ := ba h
  obtain ⟨h4, h⟩ := ba h
  obtain ⟨h5, h⟩ := ba h
  obtain ⟨h6, h⟩ := ba h
  obtain ⟨h7, h⟩ := ba h
  obtain ⟨h8, h⟩ := ba h
  obtain ⟨h9, h⟩ := ba h
  obtain ⟨h10, h⟩ := ba h
  obtain ⟨h11, h⟩ := ba h
  obtain ⟨h12, h13⟩ := ba h
  exact ⟨h1, h2, eqO_ok h3, eqO_ok h4, eqO_ok h5, of_decide_eq_true h6, h7, h8, h9, eqO_ok h10, of_decide_eq_true h11, eqO_ok h12, of_decide_eq_true h13⟩
/-- such a class with the one field f -/
def xXr (x f : PySem.Str) : Fx := fun K => decide (typeIn K (.ref (ga K x)) = some (.type "type")) && (eqO (findIn K (.ref (ga K x)) f) (some none) && (eqO (findIn K (.ref (ga K x)) "__init__") (some (some (.ref (ma K (ga K x) "__init__")))) && (decide (typeIn K (.ref (ma K (ga K x) "__init__")) = some (.type "function")) &&
  decide (takerIn K (ga K x) f = some none))))
theorem xr_ok {K : Frag} {x f : PySem.Str} (h : xXr x f K = true) : typeIn K (.ref (ga K x)) = some (.type "type") ∧ findIn K (.ref (ga K x)) f = some none ∧ findIn K (.ref (ga K x)) "__init__" = some (some (.ref (ma K (ga K x) "__init__"))) ∧ typeIn K (.ref (ma K (ga K x) "__init__")) = some (.type "function") ∧ takerIn K (ga K x) f = some none := by
  obtain ⟨h1, h⟩ := ba h
  obtain ⟨h2, h⟩ := ba h
  obtain ⟨h3, h⟩ := ba h
  obtain ⟨h4, h5⟩ := ba h
  exact ⟨of_decide_eq_true h1, eqO_ok h2, eqO_ok h3, of_decide_eq_true h4, of_decide_eq_true h5⟩
/-- caught as -/
def xExm (x y : PySem.Str) (b : Bool) : Fx := fun K => decide (exmOne K (.ref (ga K x)) (.ref (ga K y)) = some b)
/-- a property -/
def pg (x m : PySem.Str) (K : Frag) : Addr := He5.wf K (ga K x) "property" m
def xProp (x m : PySem.Str) : Fx := fun K => eqO (findIn K (.ref (ga K x)) m) (some (some (.ref (ma K (ga K x) m)))) && (eqO (specialIn K (.ref (ma K (ga K x) m)) "__get__") (some (some (.builtin "property.__get__"))) && (decide (takesIn K (.ref (ma K (ga K x) m)) = some true) && (match recIn K (ma K (ga K x) m) "property" with
  | some (.ref _ :: _) => true
  | _ => false)))
theorem prop_ok {K : Frag} {x m : PySem.Str} (h : xProp x m K = true) : PropOf K (ga K x) m (ma K (ga K x) m) (pg x m K) := by
  obtain ⟨h1, h⟩ := ba h
  obtain ⟨h2, h⟩ := ba h
  obtain ⟨h3, h4⟩ := ba h
  refine ⟨eqO_ok h1, eqO_ok h2, of_decide_eq_true h3, ?_⟩
  unfold pg He5.wf
  split at h4
  · rename_i f r e
    exact ⟨r, by rw [e]⟩
  · cases h4
/-- an own special -/
def xDun (x m : PySem.Str) : Fx := fun K => eqO (findIn K (.ref (ga K x)) m) (some (some (.ref (ma K (ga K x) m)))) && (isFn K (.ref (ma K (ga K x) m)) && fnIn K (ma K (ga K x) m))
theorem dun_ok {K : Frag} {x m : PySem.Str} (h : xDun x m K = true) : findIn K (.ref (ga K x)) m = some (some (.ref (ma K (ga K x) m))) ∧ isFn K (.ref (ma K (ga K x) m)) = true ∧ fnIn K (ma K (ga K x) m) = true := by
  obtain ⟨h1, h⟩ := ba h
  obtain ⟨h2, h3⟩ := ba h
  exact ⟨eqO_ok h1, h2, h3⟩
/-- isinstance of an own instance, of its own class -/
def xIsi (x : PySem.Str) : Fx := fun K => eqO (findIn K (.ref (ga K x)) "__class__") (some (some (.builtin "object.__class__"))) && (eqO (specialIn K (.builtin "object.__class__") "__get__") (some (some (.builtin "getset_descriptor.__get__"))) && (decide (takesIn K (.builtin "object.__class__") = some true) && (decide (mroIn K (ga K x) (.type "object") = some true) && decide (kitOne K (.ref (ga K x)) (.ref (ga K x)) = some true))))
theorem isi_ok {K : Frag} {x : PySem.Str} (h : xIsi x K = true) : findIn K (.ref (ga K x)) "__class__" = some (some (.builtin "object.__class__")) ∧ specialIn K (.builtin "object.__class__") "__get__" = some (some (.builtin "getset_descriptor.__get__")) ∧ takesIn K (.builtin "object.__class__") = some true ∧ mroIn K (ga K x) (.type "object") = some true ∧ kitOne K (.ref (ga K x)) (.ref (ga K x)) = some true := by
  obtain ⟨h1, h⟩ := ba h
  obtain ⟨h2, h⟩ := ba h
  obtain ⟨h3, h⟩ := ba h
  obtain ⟨h4, h5⟩ := ba h
  exact ⟨eqO_ok h1, eqO_ok h2, of_decide_eq_true h3, of_decide_eq_true h4, of_decide_eq_true h5⟩
def xSelf (x : PySem.Str) : Fx := fun K => selfFirst K (ga K x)
/-- a class's constant, an int -/
def xCInt (x f : PySem.Str) (i : Int) : Fx := fun K => readsIn K (ga K x) (.type "type") && (match findCls K (.ref (ga K x)) (.type "type") f with
  | some (.val (.int j _)) => decide (j = i)
  | _ => false)
theorem cread_of {K : Frag} {C : Addr} (h : readsIn K C (.type "type") = true) : ClX.CRead K C (.type "type") := by
  refine ⟨h, ?_⟩
  unfold readsIn at h
  obtain ⟨h, _⟩ := ba h
  obtain ⟨h, _⟩ := ba h
  obtain ⟨h, h3⟩ := ba h
  obtain ⟨_, h2⟩ := ba h
  unfold specialIn
  rw [beq_iff_eq.mp h2, Option.bind_some]
  exact beq_iff_eq.mp h3
theorem cint_ok {K : Frag} {x f : PySem.Str} {i : Int} (h : xCInt x f i K = true) : ClX.CRead K (ga K x) (.type "type") ∧ ∃ t, ClX.CVal K (ga K x) (.type "type") f (.int i) (.int i t) := by
  obtain ⟨h1, h2⟩ := ba h
  refine ⟨cread_of h1, ?_⟩
  split at h2
  · rename_i j t e
    have ej : j = i := of_decide_eq_true h2
    rw [ej] at e
    exact ⟨t, e, ⟨t, rfl⟩⟩
  · cases h2
/-! ### the Hook -/
def obsX (fx : List Fx) (fn : List He5.DefA) (K : Frag) : He.AlD := ((fx.all fun f => f K) && fn.all fun d => d.ok K, fn.map fun d => He5.fnA K (d.at_ K))
def valX (fn : List He5.DefA) : He.AlD := (true, fn.map He5.DefA.val)
def SaysX (fx : List Fx) (fn : List He5.DefA) (K : Frag) : Prop := obsX fx fn K = valX fn
def obsXG (n : Nat) (fx : List Fx) (fn : List He5.DefA) (g : Addr → Option Obj) : He.AlD := obsX fx fn (frG g (He5.asA g n))
def hookX (n : Nat) (fx : List Fx) (fn : List He5.DefA) : PySem.W.Hook where
  α := He.AlD
  obs := fun s => obsXG n fx fn s.heap.get?
  val := fun _ => valX fn
  says := fun _ h => ∃ K : Frag, K.In h ∧ SaysX fx fn K
  of := fun _ _ e => ⟨_, frG_in, e⟩
  keeps := fun _ _ _ ⟨K, hK, c⟩ k => ⟨K, Frag.In.keeps hK k, c⟩
theorem obsXG_eq {n : Nat} {fx : List Fx} {fn : List He5.DefA} {g : Addr → Option Obj} {s : Shared} (h : ∀ a, g a = s.heap.get? a) : obsXG n fx fn g = (hookX n fx fn).obs s := by
  have e : g = s.heap.get? := funext h
  rw [e] <;> rfl
section
variable {fx : List Fx} {fn : List He5.DefA} {K : Frag}
theorem SaysX.fact (c : SaysX fx fn K) (i : Nat) {f : Fx} (h : fx[i]? = some f := by rfl) : f K = true := by
  have c1 := (ba (show ((fx.all fun f => f K) && fn.all fun d => d.ok K) = true from congrArg (fun z : He.AlD => z.1) c)).1
  exact List.all_eq_true.mp c1 f (List.mem_of_getElem? h)
theorem SaysX.def_ (c : SaysX fx fn K) (i : Nat) {d : He5.DefA} (h : fn[i]? = some d := by rfl) : ∃ fd, L2.FunD K d.name d.qual d.params d.body d.scope (d.dvs K) (d.kws K) (d.at_ K) fd := by
  have c2 := (ba (show ((fx.all fun f => f K) && fn.all fun d => d.ok K) = true from congrArg (fun z : He.AlD => z.1) c)).2
  have e : fn.map (fun d => He5.fnA K (d.at_ K)) = fn.map He5.DefA.val := congrArg (fun z : He.AlD => z.2) c
  have e2 : (fn.map fun d => He5.fnA K (d.at_ K))[i]? = (fn.map He5.DefA.val)[i]? := by rw [e]
  rw [List.getElem?_map, List.getElem?_map, h] at e2
  exact He5.DefA.funD (Option.some.inj e2) (List.all_eq_true.mp c2 d (List.mem_of_getElem? h))
end
end HkX
set_option Elab.async false
set_option linter.all false
set_option maxRecDepth 100000
set_option maxHeartbeats 0
namespace HX01
open PySem PySem.Spec PyProof.Rows L2 EX HkX
def top (i : Nat) : Stmt := PySem.Challenge.pw_slackcache_k01_nets_and_keys.main.body.getD i (.Pass ⟨0, 0, 0, 0⟩)
def fn0 : List He5.DefA := [⟨(fun K => He.ma K (He.ga K "InvalidKeys") "__init__"), "__init__", "InvalidKeys.__init__", defArgs (inClass (top 3) 0), defBody (inClass (top 3) 0), defScope (inClass (top 3) 0), [], []⟩,
  ⟨(fun K => He.ma K (He.ga K "InvalidValue") "__init__"), "__init__", "InvalidValue.__init__", defArgs (inClass (top 4) 0), defBody (inClass (top 4) 0), defScope (inClass (top 4) 0), [], []⟩,
  ⟨(fun K => He.ma K (He.ga K "UnknownNode") "__init__"), "__init__", "UnknownNode.__init__", defArgs (inClass (top 6) 0), defBody (inClass (top 6) 0), defScope (inClass (top 6) 0), [], []⟩,
  ⟨(fun K => He.ma K (He.ga K "UnknownKey") "__init__"), "__init__", "UnknownKey.__init__", defArgs (inClass (top 7) 0), defBody (inClass (top 7) 0), defScope (inClass (top 7) 0), [], []⟩,
  ⟨(fun K => He.ma K (He.ga K "Cache") "__init__"), "__init__", "Cache.__init__", defArgs (inClass (top 15) 0), defBody (inClass (top 15) 0), defScope (inClass (top 15) 0), [], []⟩,
  ⟨(fun K => He.ma K (He.ga K "Cache") "seek"), "seek", "Cache.seek", defArgs (inClass (top 15) 2), defBody (inClass (top 15) 2), defScope (inClass (top 15) 2), [], []⟩,
  ⟨(fun K => He.ma K (He.ga K "Cache") "copied_keys"), "copied_keys", "Cache.copied_keys", defArgs (inClass (top 15) 4), defBody (inClass (top 15) 4), defScope (inClass (top 15) 4), [], []⟩,
  ⟨(fun K => HkX.pg "Cache" "name" K), "name", "Cache.name", defArgs (inClass (top 15) 5), defBody (inClass (top 15) 5), defScope (inClass (top 15) 5), [], []⟩,
  ⟨(fun K => HkX.pg "Cache" "parent" K), "parent", "Cache.parent", defArgs (inClass (top 15) 6), defBody (inClass (top 15) 6), defScope (inClass (top 15) 6), [], []⟩,
  ⟨(fun K => HkX.pg "Cache" "children" K), "children", "Cache.children", defArgs (inClass (top 15) 7), defBody (inClass (top 15) 7), defScope (inClass (top 15) 7), [], []⟩,
  ⟨(fun K => He.ma K (He.ga K "Cache") "__contains__"), "__contains__", "Cache.__contains__", defArgs (inClass (top 15) 8), defBody (inClass (top 15) 8), defScope (inClass (top 15) 8), [], []⟩,
  ⟨(fun K => He.ma K (He.ga K "Cache") "__getitem__"), "__getitem__", "Cache.__getitem__", defArgs (inClass (top 15) 9), defBody (inClass (top 15) 9), defScope (inClass (top 15) 9), [], []⟩,
  ⟨(fun K => He.ma K (He.ga K "Cache") "__len__"), "__len__", "Cache.__len__", defArgs (inClass (top 15) 11), defBody (inClass (top 15) 11), defScope (inClass (top 15) 11), [], []⟩,
  ⟨(fun K => He.ma K (He.ga K "Cache") "allowance"), "allowance", "Cache.allowance", defArgs (inClass (top 15) 14), defBody (inClass (top 15) 14), defScope (inClass (top 15) 14), [], []⟩,
  ⟨(fun K => He.ma K (He.ga K "Cache") "told"), "told", "Cache.told", defArgs (inClass (top 15) 15), defBody (inClass (top 15) 15), defScope (inClass (top 15) 15), [], []⟩,
  ⟨(fun K => He.ma K (He.ga K "Cache") "bound"), "bound", "Cache.bound", defArgs (inClass (top 15) 16), defBody (inClass (top 15) 16), defScope (inClass (top 15) 16), [], []⟩,
  ⟨(fun K => He.ga K "is_word"), "is_word", "is_word", defArgs (top 21), defBody (top 21), defScope (top 21), [], []⟩,
  ⟨(fun K => He.ga K "are_keys"), "are_keys", "are_keys", defArgs (top 22), defBody (top 22), defScope (top 22), [], []⟩,
  ⟨(fun K => He.ma K (He.ga K "Net") "__init__"), "__init__", "Net.__init__", defArgs (inClass (top 35) 1), defBody (inClass (top 35) 1), defScope (inClass (top 35) 1), [], []⟩,
  ⟨(fun K => HkX.pg "Net" "key_names" K), "key_names", "Net.key_names", defArgs (inClass (top 35) 2), defBody (inClass (top 35) 2), defScope (inClass (top 35) 2), [], []⟩,
  ⟨(fun K => HkX.pg "Net" "names" K), "names", "Net.names", defArgs (inClass (top 35) 3), defBody (inClass (top 35) 3), defScope (inClass (top 35) 3), [], []⟩,
  ⟨(fun K => HkX.pg "Net" "history" K), "history", "Net.history", defArgs (inClass (top 35) 4), defBody (inClass (top 35) 4), defScope (inClass (top 35) 4), [], []⟩,
  ⟨(fun K => HkX.pg "Net" "order" K), "order", "Net.order", defArgs (inClass (top 35) 5), defBody (inClass (top 35) 5), defScope (inClass (top 35) 5), [], []⟩,
  ⟨(fun K => He.ma K (He.ga K "Net") "__len__"), "__len__", "Net.__len__", defArgs (inClass (top 35) 6), defBody (inClass (top 35) 6), defScope (inClass (top 35) 6), [], []⟩,
  ⟨(fun K => He.ma K (He.ga K "Net") "__contains__"), "__contains__", "Net.__contains__", defArgs (inClass (top 35) 7), defBody (inClass (top 35) 7), defScope (inClass (top 35) 7), [], []⟩]
def fn1 : List He5.DefA := [⟨(fun K => He.ma K (He.ga K "Net") "__getitem__"), "__getitem__", "Net.__getitem__", defArgs (inClass (top 35) 8), defBody (inClass (top 35) 8), defScope (inClass (top 35) 8), [], []⟩,
  ⟨(fun K => He.ma K (He.ga K "Net") "__eq__"), "__eq__", "Net.__eq__", defArgs (inClass (top 35) 10), defBody (inClass (top 35) 10), defScope (inClass (top 35) 10), [], []⟩,
  ⟨(fun K => He.ma K (He.ga K "Net") "check_key"), "check_key", "Net.check_key", defArgs (inClass (top 35) 12), defBody (inClass (top 35) 12), defScope (inClass (top 35) 12), [], []⟩,
  ⟨(fun K => He.ma K (He.ga K "Net") "write"), "write", "Net.write", defArgs (inClass (top 35) 15), defBody (inClass (top 35) 15), defScope (inClass (top 35) 15), [], []⟩,
  ⟨(fun K => He.ma K (He.ga K "Net") "number"), "number", "Net.number", defArgs (inClass (top 35) 26), defBody (inClass (top 35) 26), defScope (inClass (top 35) 26), [], []⟩,
  ⟨(fun K => He.ma K (He.ga K "Net") "waiting"), "waiting", "Net.waiting", defArgs (inClass (top 35) 27), defBody (inClass (top 35) 27), defScope (inClass (top 35) 27), [], []⟩,
  ⟨(fun K => He.ma K (He.ga K "Net") "age"), "age", "Net.age", defArgs (inClass (top 35) 28), defBody (inClass (top 35) 28), defScope (inClass (top 35) 28), [], []⟩,
  ⟨(fun K => He.ma K (He.ga K "Net") "messages"), "messages", "Net.messages", defArgs (inClass (top 35) 29), defBody (inClass (top 35) 29), defScope (inClass (top 35) 29), [], []⟩,
  ⟨(fun K => He.ma K (He.ga K "Net") "links"), "links", "Net.links", defArgs (inClass (top 35) 30), defBody (inClass (top 35) 30), defScope (inClass (top 35) 30), [], []⟩,
  ⟨(fun K => He.ga K "_law_source"), "_law_source", "_law_source", defArgs (top 37), defBody (top 37), defScope (top 37), [], []⟩,
  ⟨(fun K => He.ga K "_law_draw"), "_law_draw", "_law_draw", defArgs (top 38), defBody (top 38), defScope (top 38), [], []⟩,
  ⟨(fun K => He.ga K "_law_refused"), "_law_refused", "_law_refused", defArgs (top 39), defBody (top 39), defScope (top 39), [], []⟩,
  ⟨(fun K => He.ga K "_law_unknown"), "_law_unknown", "_law_unknown", defArgs (top 40), defBody (top 40), defScope (top 40), [], []⟩,
  ⟨(fun K => He.ga K "_law_values_refused"), "_law_values_refused", "_law_values_refused", defArgs (top 41), defBody (top 41), defScope (top 41), [], []⟩,
  ⟨(fun K => He.ga K "_law_words"), "_law_words", "_law_words", defArgs (top 42), defBody (top 42), defScope (top 42), [], []⟩,
  ⟨(fun K => He.ga K "_law_right"), "_law_right", "_law_right", defArgs (top 43), defBody (top 43), defScope (top 43), [], []⟩,
  ⟨(fun K => He.ga K "law"), "law", "law", defArgs (top 44), defBody (top 44), defScope (top 44), [], []⟩]
def fn : List He5.DefA := fn0 ++ fn1
def fx0 : List Fx := [xF (.glo "InvalidKeys"), xF (.glo "InvalidValue"), xF (.glo "UnknownNode"), xF (.glo "UnknownKey"), xF (.glo "Cache"), xF (.meth "Cache" "seek"), xF (.meth "Cache" "copied_keys"), xF (.meth "Cache" "allowance"), xF (.meth "Cache" "told"), xF (.meth "Cache" "bound"), xF (.glo "is_word"), xF (.glo "are_keys"), xF (.glo "Net"), xF (.meth "Net" "check_key"), xF (.meth "Net" "write"), xF (.meth "Net" "number"), xF (.meth "Net" "waiting"), xF (.meth "Net" "age"), xF (.meth "Net" "messages"), xF (.meth "Net" "links"), xF (.glo "_law_source"), xF (.glo "_law_draw"), xF (.glo "_law_refused"), xF (.glo "_law_unknown"), xF (.glo "_law_values_refused")]
def fx1 : List Fx := [xF (.glo "_law_words"), xF (.glo "_law_right"), xF (.glo "law"), xF (.cls "Cache"), xF (.mkr "Cache"), xF (.noat "Cache" "home"), xF (.noat "Cache" "label"), xF (.noat "Cache" "above"), xF (.noat "Cache" "row"), xF (.noat "Cache" "gone"), xF (.noat "Cache" "cells"), xF (.noat "Cache" "entries"), xF (.noat "Cache" "kids"), xF (.cls "Net"), xF (.mkr "Net"), xF (.noat "Net" "words"), xF (.noat "Net" "top"), xF (.noat "Net" "nodes"), xF (.noat "Net" "labels"), xF (.noat "Net" "rows"), xF (.noat "Net" "done"), xF (.noat "Net" "kept"), xF (.noat "Net" "accepted"), xF (.noat "Net" "stamps"), xF (.noat "Net" "questions")]
def fx2 : List Fx := [xF (.noat "Net" "trails"), xF (.noat "Net" "answered"), xF (.noat "Net" "receipts"), xEcc "InvalidKeys", xXr "InvalidKeys" "given", xEcc "InvalidValue", xXr "InvalidValue" "given", xEcc "UnknownNode", xXr "UnknownNode" "node", xEcc "UnknownKey", xXr "UnknownKey" "word", xExm "InvalidKeys" "InvalidKeys" true, xExm "InvalidValue" "InvalidValue" true, xExm "UnknownNode" "UnknownNode" true, xExm "UnknownKey" "UnknownKey" true, xProp "Cache" "name", xProp "Cache" "parent", xProp "Cache" "children", xProp "Net" "key_names", xProp "Net" "names", xProp "Net" "history", xProp "Net" "order", xDun "Cache" "__contains__", xDun "Cache" "__getitem__", xDun "Cache" "__len__"]
def fx3 : List Fx := [xDun "Net" "__len__", xDun "Net" "__contains__", xDun "Net" "__getitem__", xDun "Net" "__eq__", xIsi "Net", xSelf "Net", xCInt "Net" "MOST" 12, xF (.int "LONGEST_WORD" 8), xF (.int "MOST_KEYS" 4), xF (.str "STORE" "store"), xF (.int "MOST_WAITING" 20), xF (.free "KeyError"), xF (.free "range"), xF (.free "max"), xF (.free "min"), xF (.free "len"), xF (.free "all"), xF (.free "isinstance"), xF (.free "tuple"), xF (.free "list"), xF (.free "set"), xF (.free "int"), xF (.free "bool"), xF (.free "str"), xF (.free "sorted")]
def fx4 : List Fx := [xF (.free "repr")]
def fx : List Fx := fx0 ++ fx1 ++ fx2 ++ fx3 ++ fx4
def names0 : List PySem.Str := ["_wall", "CacheError", "InvalidKeys", "InvalidValue", "InvalidNeed", "UnknownNode", "UnknownKey", "UnknownQuestion", "NoCopy", "HasChildren", "LimitExceeded", "Entry", "copied_entry", "Cache", "copied_node", "LONGEST_WORD", "MOST_KEYS", "is_integer_within", "is_word", "are_keys", "STORE", "send_to_children", "accept", "remove_nodes", "take_leave"]
def names1 : List PySem.Str := ["rows_from", "give", "ask", "MOST_WAITING", "GREATEST_NEED", "Net", "_law_source", "_law_draw", "_law_refused", "_law_unknown", "_law_values_refused", "_law_words", "_law_right"]
def names : List PySem.Str := names0 ++ names1
abbrev R : PySem.W.OpenRow := PySem.W.OpenLaw.row PySem.Challenge.rw_slackcache_k01_nets_and_keys
abbrev hk : PySem.W.Hook := hookX 5 fx fn
def ob (s : PySem.W.SharedT) : He.AlD := obsXG 5 fx fn (HandSHeadRun.getT s)
theorem ob_eq (s : PySem.W.SharedT) : ob s = hk.obs s.abs := obsXG_eq (HandSHeadRun.getT_eq s)
theorem run (w : World) : HandSHeadRun.RunEq R (PySem.W.view R.prog [44]) hk ob 15000 names w := by
  intro os
  kernel_rfl
section
variable {K : PySem.W.Frag} {h : Heap} {mg : Str → Option Value}
theorem g_InvalidKeys (X : K.In h) (G : h.Ns mainGlobals mg) (c : SaysX fx fn K) : mg "InvalidKeys" = some (.ref (He.ga K "InvalidKeys")) := He.glo_ok X G (c.fact 0)
theorem g_InvalidValue (X : K.In h) (G : h.Ns mainGlobals mg) (c : SaysX fx fn K) : mg "InvalidValue" = some (.ref (He.ga K "InvalidValue")) := He.glo_ok X G (c.fact 1)
theorem g_UnknownNode (X : K.In h) (G : h.Ns mainGlobals mg) (c : SaysX fx fn K) : mg "UnknownNode" = some (.ref (He.ga K "UnknownNode")) := He.glo_ok X G (c.fact 2)
theorem g_UnknownKey (X : K.In h) (G : h.Ns mainGlobals mg) (c : SaysX fx fn K) : mg "UnknownKey" = some (.ref (He.ga K "UnknownKey")) := He.glo_ok X G (c.fact 3)
theorem g_Cache (X : K.In h) (G : h.Ns mainGlobals mg) (c : SaysX fx fn K) : mg "Cache" = some (.ref (He.ga K "Cache")) := He.glo_ok X G (c.fact 4)
theorem m_Cache_seek (c : SaysX fx fn K) : Meth K (He.ga K "Cache") "seek" (He.ma K (He.ga K "Cache") "seek") := He.meth_ok (c.fact 5)
theorem m_Cache_copied_keys (c : SaysX fx fn K) : Meth K (He.ga K "Cache") "copied_keys" (He.ma K (He.ga K "Cache") "copied_keys") := He.meth_ok (c.fact 6)
theorem m_Cache_allowance (c : SaysX fx fn K) : Meth K (He.ga K "Cache") "allowance" (He.ma K (He.ga K "Cache") "allowance") := He.meth_ok (c.fact 7)
theorem m_Cache_told (c : SaysX fx fn K) : Meth K (He.ga K "Cache") "told" (He.ma K (He.ga K "Cache") "told") := He.meth_ok (c.fact 8)
theorem m_Cache_bound (c : SaysX fx fn K) : Meth K (He.ga K "Cache") "bound" (He.ma K (He.ga K "Cache") "bound") := He.meth_ok (c.fact 9)
theorem g_is_word (X : K.In h) (G : h.Ns mainGlobals mg) (c : SaysX fx fn K) : mg "is_word" = some (.ref (He.ga K "is_word")) := He.glo_ok X G (c.fact 10)
theorem g_are_keys (X : K.In h) (G : h.Ns mainGlobals mg) (c : SaysX fx fn K) : mg "are_keys" = some (.ref (He.ga K "are_keys")) := He.glo_ok X G (c.fact 11)
theorem g_Net (X : K.In h) (G : h.Ns mainGlobals mg) (c : SaysX fx fn K) : mg "Net" = some (.ref (He.ga K "Net")) := He.glo_ok X G (c.fact 12)
theorem m_Net_check_key (c : SaysX fx fn K) : Meth K (He.ga K "Net") "check_key" (He.ma K (He.ga K "Net") "check_key") := He.meth_ok (c.fact 13)
theorem m_Net_write (c : SaysX fx fn K) : Meth K (He.ga K "Net") "write" (He.ma K (He.ga K "Net") "write") := He.meth_ok (c.fact 14)
theorem m_Net_number (c : SaysX fx fn K) : Meth K (He.ga K "Net") "number" (He.ma K (He.ga K "Net") "number") := He.meth_ok (c.fact 15)
theorem m_Net_waiting (c : SaysX fx fn K) : Meth K (He.ga K "Net") "waiting" (He.ma K (He.ga K "Net") "waiting") := He.meth_ok (c.fact 16)
theorem m_Net_age (c : SaysX fx fn K) : Meth K (He.ga K "Net") "age" (He.ma K (He.ga K "Net") "age") := He.meth_ok (c.fact 17)
theorem m_Net_messages (c : SaysX fx fn K) : Meth K (He.ga K "Net") "messages" (He.ma K (He.ga K "Net") "messages") := He.meth_ok (c.fact 18)
theorem m_Net_links (c : SaysX fx fn K) : Meth K (He.ga K "Net") "links" (He.ma K (He.ga K "Net") "links") := He.meth_ok (c.fact 19)
theorem g__law_source (X : K.In h) (G : h.Ns mainGlobals mg) (c : SaysX fx fn K) : mg "_law_source" = some (.ref (He.ga K "_law_source")) := He.glo_ok X G (c.fact 20)
theorem g__law_draw (X : K.In h) (G : h.Ns mainGlobals mg) (c : SaysX fx fn K) : mg "_law_draw" = some (.ref (He.ga K "_law_draw")) := He.glo_ok X G (c.fact 21)
theorem g__law_refused (X : K.In h) (G : h.Ns mainGlobals mg) (c : SaysX fx fn K) : mg "_law_refused" = some (.ref (He.ga K "_law_refused")) := He.glo_ok X G (c.fact 22)
theorem g__law_unknown (X : K.In h) (G : h.Ns mainGlobals mg) (c : SaysX fx fn K) : mg "_law_unknown" = some (.ref (He.ga K "_law_unknown")) := He.glo_ok X G (c.fact 23)
theorem g__law_values_refused (X : K.In h) (G : h.Ns mainGlobals mg) (c : SaysX fx fn K) : mg "_law_values_refused" = some (.ref (He.ga K "_law_values_refused")) := He.glo_ok X G (c.fact 24)
theorem g__law_words (X : K.In h) (G : h.Ns mainGlobals mg) (c : SaysX fx fn K) : mg "_law_words" = some (.ref (He.ga K "_law_words")) := He.glo_ok X G (c.fact 25)
theorem g__law_right (X : K.In h) (G : h.Ns mainGlobals mg) (c : SaysX fx fn K) : mg "_law_right" = some (.ref (He.ga K "_law_right")) := He.glo_ok X G (c.fact 26)
theorem g_law (X : K.In h) (G : h.Ns mainGlobals mg) (c : SaysX fx fn K) : mg "law" = some (.ref (He.ga K "law")) := He.glo_ok X G (c.fact 27)
theorem c_Cache (c : SaysX fx fn K) : Cls K (He.ga K "Cache") := He.cls_ok (c.fact 28)
theorem mk_Cache (c : SaysX fx fn K) : Mk K (He.ga K "Cache") (He.ma K (He.ga K "Cache") "__init__") := He.mkr_ok (c.fact 29)
theorem n_Cache_home (c : SaysX fx fn K) : NoAttr K (He.ga K "Cache") "home" := He.noat_ok (c.fact 30)
theorem n_Cache_label (c : SaysX fx fn K) : NoAttr K (He.ga K "Cache") "label" := He.noat_ok (c.fact 31)
theorem n_Cache_above (c : SaysX fx fn K) : NoAttr K (He.ga K "Cache") "above" := He.noat_ok (c.fact 32)
theorem n_Cache_row (c : SaysX fx fn K) : NoAttr K (He.ga K "Cache") "row" := He.noat_ok (c.fact 33)
theorem n_Cache_gone (c : SaysX fx fn K) : NoAttr K (He.ga K "Cache") "gone" := He.noat_ok (c.fact 34)
theorem n_Cache_cells (c : SaysX fx fn K) : NoAttr K (He.ga K "Cache") "cells" := He.noat_ok (c.fact 35)
theorem n_Cache_entries (c : SaysX fx fn K) : NoAttr K (He.ga K "Cache") "entries" := He.noat_ok (c.fact 36)
theorem n_Cache_kids (c : SaysX fx fn K) : NoAttr K (He.ga K "Cache") "kids" := He.noat_ok (c.fact 37)
theorem c_Net (c : SaysX fx fn K) : Cls K (He.ga K "Net") := He.cls_ok (c.fact 38)
theorem mk_Net (c : SaysX fx fn K) : Mk K (He.ga K "Net") (He.ma K (He.ga K "Net") "__init__") := He.mkr_ok (c.fact 39)
theorem n_Net_words (c : SaysX fx fn K) : NoAttr K (He.ga K "Net") "words" := He.noat_ok (c.fact 40)
theorem n_Net_top (c : SaysX fx fn K) : NoAttr K (He.ga K "Net") "top" := He.noat_ok (c.fact 41)
theorem n_Net_nodes (c : SaysX fx fn K) : NoAttr K (He.ga K "Net") "nodes" := He.noat_ok (c.fact 42)
theorem n_Net_labels (c : SaysX fx fn K) : NoAttr K (He.ga K "Net") "labels" := He.noat_ok (c.fact 43)
theorem n_Net_rows (c : SaysX fx fn K) : NoAttr K (He.ga K "Net") "rows" := He.noat_ok (c.fact 44)
theorem n_Net_done (c : SaysX fx fn K) : NoAttr K (He.ga K "Net") "done" := He.noat_ok (c.fact 45)
theorem n_Net_kept (c : SaysX fx fn K) : NoAttr K (He.ga K "Net") "kept" := He.noat_ok (c.fact 46)
theorem n_Net_accepted (c : SaysX fx fn K) : NoAttr K (He.ga K "Net") "accepted" := He.noat_ok (c.fact 47)
theorem n_Net_stamps (c : SaysX fx fn K) : NoAttr K (He.ga K "Net") "stamps" := He.noat_ok (c.fact 48)
theorem n_Net_questions (c : SaysX fx fn K) : NoAttr K (He.ga K "Net") "questions" := He.noat_ok (c.fact 49)
theorem n_Net_trails (c : SaysX fx fn K) : NoAttr K (He.ga K "Net") "trails" := He.noat_ok (c.fact 50)
theorem n_Net_answered (c : SaysX fx fn K) : NoAttr K (He.ga K "Net") "answered" := He.noat_ok (c.fact 51)
theorem n_Net_receipts (c : SaysX fx fn K) : NoAttr K (He.ga K "Net") "receipts" := He.noat_ok (c.fact 52)
theorem e_InvalidKeys (c : SaysX fx fn K) : EcC K (He.ga K "InvalidKeys") := ecc_ok (c.fact 53)
theorem r_InvalidKeys (c : SaysX fx fn K) : PySem.W.typeIn K (.ref (He.ga K "InvalidKeys")) = some (.type "type") ∧ PySem.W.findIn K (.ref (He.ga K "InvalidKeys")) "given" = some none ∧ PySem.W.findIn K (.ref (He.ga K "InvalidKeys")) "__init__" = some (some (.ref (He.ma K (He.ga K "InvalidKeys") "__init__"))) ∧ PySem.W.typeIn K (.ref (He.ma K (He.ga K "InvalidKeys") "__init__")) = some (.type "function") ∧ PySem.W.takerIn K (He.ga K "InvalidKeys") "given" = some none := xr_ok (c.fact 54)
theorem e_InvalidValue (c : SaysX fx fn K) : EcC K (He.ga K "InvalidValue") := ecc_ok (c.fact 55)
theorem r_InvalidValue (c : SaysX fx fn K) : PySem.W.typeIn K (.ref (He.ga K "InvalidValue")) = some (.type "type") ∧ PySem.W.findIn K (.ref (He.ga K "InvalidValue")) "given" = some none ∧ PySem.W.findIn K (.ref (He.ga K "InvalidValue")) "__init__" = some (some (.ref (He.ma K (He.ga K "InvalidValue") "__init__"))) ∧ PySem.W.typeIn K (.ref (He.ma K (He.ga K "InvalidValue") "__init__")) = some (.type "function") ∧ PySem.W.takerIn K (He.ga K "InvalidValue") "given" = some none := xr_ok (c.fact 56)
theorem e_UnknownNode (c : SaysX fx fn K) : EcC K (He.ga K "UnknownNode") := ecc_ok (c.fact 57)
theorem r_UnknownNode (c : SaysX fx fn K) : PySem.W.typeIn K (.ref (He.ga K "UnknownNode")) = some (.type "type") ∧ PySem.W.findIn K (.ref (He.ga K "UnknownNode")) "node" = some none ∧ PySem.W.findIn K (.ref (He.ga K "UnknownNode")) "__init__" = some (some (.ref (He.ma K (He.ga K "UnknownNode") "__init__"))) ∧ PySem.W.typeIn K (.ref (He.ma K (He.ga K "UnknownNode") "__init__")) = some (.type "function") ∧ PySem.W.takerIn K (He.ga K "UnknownNode") "node" = some none := xr_ok (c.fact 58)
theorem e_UnknownKey (c : SaysX fx fn K) : EcC K (He.ga K "UnknownKey") := ecc_ok (c.fact 59)
theorem r_UnknownKey (c : SaysX fx fn K) : PySem.W.typeIn K (.ref (He.ga K "UnknownKey")) = some (.type "type") ∧ PySem.W.findIn K (.ref (He.ga K "UnknownKey")) "word" = some none ∧ PySem.W.findIn K (.ref (He.ga K "UnknownKey")) "__init__" = some (some (.ref (He.ma K (He.ga K "UnknownKey") "__init__"))) ∧ PySem.W.typeIn K (.ref (He.ma K (He.ga K "UnknownKey") "__init__")) = some (.type "function") ∧ PySem.W.takerIn K (He.ga K "UnknownKey") "word" = some none := xr_ok (c.fact 60)
theorem ex_InvalidKeys_InvalidKeys (c : SaysX fx fn K) : PySem.W.exmOne K (.ref (He.ga K "InvalidKeys")) (.ref (He.ga K "InvalidKeys")) = some true := of_decide_eq_true (c.fact 61)
theorem ex_InvalidValue_InvalidValue (c : SaysX fx fn K) : PySem.W.exmOne K (.ref (He.ga K "InvalidValue")) (.ref (He.ga K "InvalidValue")) = some true := of_decide_eq_true (c.fact 62)
theorem ex_UnknownNode_UnknownNode (c : SaysX fx fn K) : PySem.W.exmOne K (.ref (He.ga K "UnknownNode")) (.ref (He.ga K "UnknownNode")) = some true := of_decide_eq_true (c.fact 63)
theorem ex_UnknownKey_UnknownKey (c : SaysX fx fn K) : PySem.W.exmOne K (.ref (He.ga K "UnknownKey")) (.ref (He.ga K "UnknownKey")) = some true := of_decide_eq_true (c.fact 64)
theorem p_Cache_name (c : SaysX fx fn K) : PropOf K (He.ga K "Cache") "name" (He.ma K (He.ga K "Cache") "name") (pg "Cache" "name" K) := prop_ok (c.fact 65)
theorem p_Cache_parent (c : SaysX fx fn K) : PropOf K (He.ga K "Cache") "parent" (He.ma K (He.ga K "Cache") "parent") (pg "Cache" "parent" K) := prop_ok (c.fact 66)
theorem p_Cache_children (c : SaysX fx fn K) : PropOf K (He.ga K "Cache") "children" (He.ma K (He.ga K "Cache") "children") (pg "Cache" "children" K) := prop_ok (c.fact 67)
theorem p_Net_key_names (c : SaysX fx fn K) : PropOf K (He.ga K "Net") "key_names" (He.ma K (He.ga K "Net") "key_names") (pg "Net" "key_names" K) := prop_ok (c.fact 68)
theorem p_Net_names (c : SaysX fx fn K) : PropOf K (He.ga K "Net") "names" (He.ma K (He.ga K "Net") "names") (pg "Net" "names" K) := prop_ok (c.fact 69)
theorem p_Net_history (c : SaysX fx fn K) : PropOf K (He.ga K "Net") "history" (He.ma K (He.ga K "Net") "history") (pg "Net" "history" K) := prop_ok (c.fact 70)
theorem p_Net_order (c : SaysX fx fn K) : PropOf K (He.ga K "Net") "order" (He.ma K (He.ga K "Net") "order") (pg "Net" "order" K) := prop_ok (c.fact 71)
theorem u_Cache___contains__ (c : SaysX fx fn K) : PySem.W.findIn K (.ref (He.ga K "Cache")) "__contains__" = some (some (.ref (He.ma K (He.ga K "Cache") "__contains__"))) ∧ PySem.W.isFn K (.ref (He.ma K (He.ga K "Cache") "__contains__")) = true ∧ PySem.W.fnIn K (He.ma K (He.ga K "Cache") "__contains__") = true := dun_ok (c.fact 72)
theorem u_Cache___getitem__ (c : SaysX fx fn K) : PySem.W.findIn K (.ref (He.ga K "Cache")) "__getitem__" = some (some (.ref (He.ma K (He.ga K "Cache") "__getitem__"))) ∧ PySem.W.isFn K (.ref (He.ma K (He.ga K "Cache") "__getitem__")) = true ∧ PySem.W.fnIn K (He.ma K (He.ga K "Cache") "__getitem__") = true := dun_ok (c.fact 73)
theorem u_Cache___len__ (c : SaysX fx fn K) : PySem.W.findIn K (.ref (He.ga K "Cache")) "__len__" = some (some (.ref (He.ma K (He.ga K "Cache") "__len__"))) ∧ PySem.W.isFn K (.ref (He.ma K (He.ga K "Cache") "__len__")) = true ∧ PySem.W.fnIn K (He.ma K (He.ga K "Cache") "__len__") = true := dun_ok (c.fact 74)
theorem u_Net___len__ (c : SaysX fx fn K) : PySem.W.findIn K (.ref (He.ga K "Net")) "__len__" = some (some (.ref (He.ma K (He.ga K "Net") "__len__"))) ∧ PySem.W.isFn K (.ref (He.ma K (He.ga K "Net") "__len__")) = true ∧ PySem.W.fnIn K (He.ma K (He.ga K "Net") "__len__") = true := dun_ok (c.fact 75)
theorem u_Net___contains__ (c : SaysX fx fn K) : PySem.W.findIn K (.ref (He.ga K "Net")) "__contains__" = some (some (.ref (He.ma K (He.ga K "Net") "__contains__"))) ∧ PySem.W.isFn K (.ref (He.ma K (He.ga K "Net") "__contains__")) = true ∧ PySem.W.fnIn K (He.ma K (He.ga K "Net") "__contains__") = true := dun_ok (c.fact 76)
theorem u_Net___getitem__ (c : SaysX fx fn K) : PySem.W.findIn K (.ref (He.ga K "Net")) "__getitem__" = some (some (.ref (He.ma K (He.ga K "Net") "__getitem__"))) ∧ PySem.W.isFn K (.ref (He.ma K (He.ga K "Net") "__getitem__")) = true ∧ PySem.W.fnIn K (He.ma K (He.ga K "Net") "__getitem__") = true := dun_ok (c.fact 77)
theorem u_Net___eq__ (c : SaysX fx fn K) : PySem.W.findIn K (.ref (He.ga K "Net")) "__eq__" = some (some (.ref (He.ma K (He.ga K "Net") "__eq__"))) ∧ PySem.W.isFn K (.ref (He.ma K (He.ga K "Net") "__eq__")) = true ∧ PySem.W.fnIn K (He.ma K (He.ga K "Net") "__eq__") = true := dun_ok (c.fact 78)
theorem i_Net (c : SaysX fx fn K) : PySem.W.findIn K (.ref (He.ga K "Net")) "__class__" = some (some (.builtin "object.__class__")) ∧ PySem.W.specialIn K (.builtin "object.__class__") "__get__" = some (some (.builtin "getset_descriptor.__get__")) ∧ PySem.W.takesIn K (.builtin "object.__class__") = some true ∧ PySem.W.mroIn K (He.ga K "Net") (.type "object") = some true ∧ PySem.W.kitOne K (.ref (He.ga K "Net")) (.ref (He.ga K "Net")) = some true := isi_ok (c.fact 79)
theorem sf_Net (c : SaysX fx fn K) : PySem.W.selfFirst K (He.ga K "Net") = true := c.fact 80
theorem ci_Net_MOST (c : SaysX fx fn K) : ClX.CRead K (He.ga K "Net") (.type "type") ∧ ∃ t, ClX.CVal K (He.ga K "Net") (.type "type") "MOST" (.int 12) (.int 12 t) := cint_ok (c.fact 81)
theorem k_LONGEST_WORD (X : K.In h) (G : h.Ns mainGlobals mg) (c : SaysX fx fn K) : ∃ t, mg "LONGEST_WORD" = some (.int 8 t) := He.int_ok X G (c.fact 82)
theorem k_MOST_KEYS (X : K.In h) (G : h.Ns mainGlobals mg) (c : SaysX fx fn K) : ∃ t, mg "MOST_KEYS" = some (.int 4 t) := He.int_ok X G (c.fact 83)
theorem k_STORE (X : K.In h) (G : h.Ns mainGlobals mg) (c : SaysX fx fn K) : ∃ t, mg "STORE" = some (.str "store" t) := He.str_ok X G (c.fact 84)
theorem k_MOST_WAITING (X : K.In h) (G : h.Ns mainGlobals mg) (c : SaysX fx fn K) : ∃ t, mg "MOST_WAITING" = some (.int 20 t) := He.int_ok X G (c.fact 85)
theorem z_KeyError (X : K.In h) (G : h.Ns mainGlobals mg) (c : SaysX fx fn K) : mg "KeyError" = none := He.free_ok X G (c.fact 86)
theorem z_range (X : K.In h) (G : h.Ns mainGlobals mg) (c : SaysX fx fn K) : mg "range" = none := He.free_ok X G (c.fact 87)
theorem z_max (X : K.In h) (G : h.Ns mainGlobals mg) (c : SaysX fx fn K) : mg "max" = none := He.free_ok X G (c.fact 88)
theorem z_min (X : K.In h) (G : h.Ns mainGlobals mg) (c : SaysX fx fn K) : mg "min" = none := He.free_ok X G (c.fact 89)
theorem z_len (X : K.In h) (G : h.Ns mainGlobals mg) (c : SaysX fx fn K) : mg "len" = none := He.free_ok X G (c.fact 90)
theorem z_all (X : K.In h) (G : h.Ns mainGlobals mg) (c : SaysX fx fn K) : mg "all" = none := He.free_ok X G (c.fact 91)
theorem z_isinstance (X : K.In h) (G : h.Ns mainGlobals mg) (c : SaysX fx fn K) : mg "isinstance" = none := He.free_ok X G (c.fact 92)
theorem z_tuple (X : K.In h) (G : h.Ns mainGlobals mg) (c : SaysX fx fn K) : mg "tuple" = none := He.free_ok X G (c.fact 93)
theorem z_list (X : K.In h) (G : h.Ns mainGlobals mg) (c : SaysX fx fn K) : mg "list" = none := He.free_ok X G (c.fact 94)
theorem z_set (X : K.In h) (G : h.Ns mainGlobals mg) (c : SaysX fx fn K) : mg "set" = none := He.free_ok X G (c.fact 95)
theorem z_int (X : K.In h) (G : h.Ns mainGlobals mg) (c : SaysX fx fn K) : mg "int" = none := He.free_ok X G (c.fact 96)
theorem z_bool (X : K.In h) (G : h.Ns mainGlobals mg) (c : SaysX fx fn K) : mg "bool" = none := He.free_ok X G (c.fact 97)
theorem z_str (X : K.In h) (G : h.Ns mainGlobals mg) (c : SaysX fx fn K) : mg "str" = none := He.free_ok X G (c.fact 98)
theorem z_sorted (X : K.In h) (G : h.Ns mainGlobals mg) (c : SaysX fx fn K) : mg "sorted" = none := He.free_ok X G (c.fact 99)
theorem z_repr (X : K.In h) (G : h.Ns mainGlobals mg) (c : SaysX fx fn K) : mg "repr" = none := He.free_ok X G (c.fact 100)
theorem d_InvalidKeys___init__ (c : SaysX fx fn K) : ∃ fd, Fun K "__init__" "InvalidKeys.__init__" (inClass (top 3) 0) (He.ma K (He.ga K "InvalidKeys") "__init__") fd := by
  obtain ⟨fd, F⟩ := c.def_ 0
  exact ⟨fd, He5.fun_of (st := inClass (top 3) 0) F⟩
theorem d_InvalidValue___init__ (c : SaysX fx fn K) : ∃ fd, Fun K "__init__" "InvalidValue.__init__" (inClass (top 4) 0) (He.ma K (He.ga K "InvalidValue") "__init__") fd := by
  obtain ⟨fd, F⟩ := c.def_ 1
  exact ⟨fd, He5.fun_of (st := inClass (top 4) 0) F⟩
theorem d_UnknownNode___init__ (c : SaysX fx fn K) : ∃ fd, Fun K "__init__" "UnknownNode.__init__" (inClass (top 6) 0) (He.ma K (He.ga K "UnknownNode") "__init__") fd := by
  obtain ⟨fd, F⟩ := c.def_ 2
  exact ⟨fd, He5.fun_of (st := inClass (top 6) 0) F⟩
theorem d_UnknownKey___init__ (c : SaysX fx fn K) : ∃ fd, Fun K "__init__" "UnknownKey.__init__" (inClass (top 7) 0) (He.ma K (He.ga K "UnknownKey") "__init__") fd := by
  obtain ⟨fd, F⟩ := c.def_ 3
  exact ⟨fd, He5.fun_of (st := inClass (top 7) 0) F⟩
theorem d_Cache___init__ (c : SaysX fx fn K) : ∃ fd, Fun K "__init__" "Cache.__init__" (inClass (top 15) 0) (He.ma K (He.ga K "Cache") "__init__") fd := by
  obtain ⟨fd, F⟩ := c.def_ 4
  exact ⟨fd, He5.fun_of (st := inClass (top 15) 0) F⟩
theorem d_Cache_seek (c : SaysX fx fn K) : ∃ fd, Fun K "seek" "Cache.seek" (inClass (top 15) 2) (He.ma K (He.ga K "Cache") "seek") fd := by
  obtain ⟨fd, F⟩ := c.def_ 5
  exact ⟨fd, He5.fun_of (st := inClass (top 15) 2) F⟩
theorem d_Cache_copied_keys (c : SaysX fx fn K) : ∃ fd, Fun K "copied_keys" "Cache.copied_keys" (inClass (top 15) 4) (He.ma K (He.ga K "Cache") "copied_keys") fd := by
  obtain ⟨fd, F⟩ := c.def_ 6
  exact ⟨fd, He5.fun_of (st := inClass (top 15) 4) F⟩
theorem d_Cache_name (c : SaysX fx fn K) : ∃ fd, Fun K "name" "Cache.name" (inClass (top 15) 5) (HkX.pg "Cache" "name" K) fd := by
  obtain ⟨fd, F⟩ := c.def_ 7
  exact ⟨fd, He5.fun_of (st := inClass (top 15) 5) F⟩
theorem d_Cache_parent (c : SaysX fx fn K) : ∃ fd, Fun K "parent" "Cache.parent" (inClass (top 15) 6) (HkX.pg "Cache" "parent" K) fd := by
  obtain ⟨fd, F⟩ := c.def_ 8
  exact ⟨fd, He5.fun_of (st := inClass (top 15) 6) F⟩
theorem d_Cache_children (c : SaysX fx fn K) : ∃ fd, Fun K "children" "Cache.children" (inClass (top 15) 7) (HkX.pg "Cache" "children" K) fd := by
  obtain ⟨fd, F⟩ := c.def_ 9
  exact ⟨fd, He5.fun_of (st := inClass (top 15) 7) F⟩
theorem d_Cache___contains__ (c : SaysX fx fn K) : ∃ fd, Fun K "__contains__" "Cache.__contains__" (inClass (top 15) 8) (He.ma K (He.ga K "Cache") "__contains__") fd := by
  obtain ⟨fd, F⟩ := c.def_ 10
  exact ⟨fd, He5.fun_of (st := inClass (top 15) 8) F⟩
theorem d_Cache___getitem__ (c : SaysX fx fn K) : ∃ fd, Fun K "__getitem__" "Cache.__getitem__" (inClass (top 15) 9) (He.ma K (He.ga K "Cache") "__getitem__") fd := by
  obtain ⟨fd, F⟩ := c.def_ 11
  exact ⟨fd, He5.fun_of (st := inClass (top 15) 9) F⟩
theorem d_Cache___len__ (c : SaysX fx fn K) : ∃ fd, Fun K "__len__" "Cache.__len__" (inClass (top 15) 11) (He.ma K (He.ga K "Cache") "__len__") fd := by
  obtain ⟨fd, F⟩ := c.def_ 12
  exact ⟨fd, He5.fun_of (st := inClass (top 15) 11) F⟩
theorem d_Cache_allowance (c : SaysX fx fn K) : ∃ fd, Fun K "allowance" "Cache.allowance" (inClass (top 15) 14) (He.ma K (He.ga K "Cache") "allowance") fd := by
  obtain ⟨fd, F⟩ := c.def_ 13
  exact ⟨fd, He5.fun_of (st := inClass (top 15) 14) F⟩
theorem d_Cache_told (c : SaysX fx fn K) : ∃ fd, Fun K "told" "Cache.told" (inClass (top 15) 15) (He.ma K (He.ga K "Cache") "told") fd := by
  obtain ⟨fd, F⟩ := c.def_ 14
  exact ⟨fd, He5.fun_of (st := inClass (top 15) 15) F⟩
theorem d_Cache_bound (c : SaysX fx fn K) : ∃ fd, Fun K "bound" "Cache.bound" (inClass (top 15) 16) (He.ma K (He.ga K "Cache") "bound") fd := by
  obtain ⟨fd, F⟩ := c.def_ 15
  exact ⟨fd, He5.fun_of (st := inClass (top 15) 16) F⟩
theorem d_is_word (c : SaysX fx fn K) : ∃ fd, Fun K "is_word" "is_word" (top 21) (He.ga K "is_word") fd := by
  obtain ⟨fd, F⟩ := c.def_ 16
  exact ⟨fd, He5.fun_of (st := top 21) F⟩
theorem d_are_keys (c : SaysX fx fn K) : ∃ fd, Fun K "are_keys" "are_keys" (top 22) (He.ga K "are_keys") fd := by
  obtain ⟨fd, F⟩ := c.def_ 17
  exact ⟨fd, He5.fun_of (st := top 22) F⟩
theorem d_Net___init__ (c : SaysX fx fn K) : ∃ fd, Fun K "__init__" "Net.__init__" (inClass (top 35) 1) (He.ma K (He.ga K "Net") "__init__") fd := by
  obtain ⟨fd, F⟩ := c.def_ 18
  exact ⟨fd, He5.fun_of (st := inClass (top 35) 1) F⟩
theorem d_Net_key_names (c : SaysX fx fn K) : ∃ fd, Fun K "key_names" "Net.key_names" (inClass (top 35) 2) (HkX.pg "Net" "key_names" K) fd := by
  obtain ⟨fd, F⟩ := c.def_ 19
  exact ⟨fd, He5.fun_of (st := inClass (top 35) 2) F⟩
theorem d_Net_names (c : SaysX fx fn K) : ∃ fd, Fun K "names" "Net.names" (inClass (top 35) 3) (HkX.pg "Net" "names" K) fd := by
  obtain ⟨fd, F⟩ := c.def_ 20
  exact ⟨fd, He5.fun_of (st := inClass (top 35) 3) F⟩
theorem d_Net_history (c : SaysX fx fn K) : ∃ fd, Fun K "history" "Net.history" (inClass (top 35) 4) (HkX.pg "Net" "history" K) fd := by
  obtain ⟨fd, F⟩ := c.def_ 21
  exact ⟨fd, He5.fun_of (st := inClass (top 35) 4) F⟩
theorem d_Net_order (c : SaysX fx fn K) : ∃ fd, Fun K "order" "Net.order" (inClass (top 35) 5) (HkX.pg "Net" "order" K) fd := by
  obtain ⟨fd, F⟩ := c.def_ 22
  exact ⟨fd, He5.fun_of (st := inClass (top 35) 5) F⟩
theorem d_Net___len__ (c : SaysX fx fn K) : ∃ fd, Fun K "__len__" "Net.__len__" (inClass (top 35) 6) (He.ma K (He.ga K "Net") "__len__") fd := by
  obtain ⟨fd, F⟩ := c.def_ 23
  exact ⟨fd, He5.fun_of (st := inClass (top 35) 6) F⟩
theorem d_Net___contains__ (c : SaysX fx fn K) : ∃ fd, Fun K "__contains__" "Net.__contains__" (inClass (top 35) 7) (He.ma K (He.ga K "Net") "__contains__") fd := by
  obtain ⟨fd, F⟩ := c.def_ 24
  exact ⟨fd, He5.fun_of (st := inClass (top 35) 7) F⟩
theorem d_Net___getitem__ (c : SaysX fx fn K) : ∃ fd, Fun K "__getitem__" "Net.__getitem__" (inClass (top 35) 8) (He.ma K (He.ga K "Net") "__getitem__") fd := by
  obtain ⟨fd, F⟩ := c.def_ 25
  exact ⟨fd, He5.fun_of (st := inClass (top 35) 8) F⟩
theorem d_Net___eq__ (c : SaysX fx fn K) : ∃ fd, Fun K "__eq__" "Net.__eq__" (inClass (top 35) 10) (He.ma K (He.ga K "Net") "__eq__") fd := by
  obtain ⟨fd, F⟩ := c.def_ 26
  exact ⟨fd, He5.fun_of (st := inClass (top 35) 10) F⟩
theorem d_Net_check_key (c : SaysX fx fn K) : ∃ fd, Fun K "check_key" "Net.check_key" (inClass (top 35) 12) (He.ma K (He.ga K "Net") "check_key") fd := by
  obtain ⟨fd, F⟩ := c.def_ 27
  exact ⟨fd, He5.fun_of (st := inClass (top 35) 12) F⟩
theorem d_Net_write (c : SaysX fx fn K) : ∃ fd, Fun K "write" "Net.write" (inClass (top 35) 15) (He.ma K (He.ga K "Net") "write") fd := by
  obtain ⟨fd, F⟩ := c.def_ 28
  exact ⟨fd, He5.fun_of (st := inClass (top 35) 15) F⟩
theorem d_Net_number (c : SaysX fx fn K) : ∃ fd, Fun K "number" "Net.number" (inClass (top 35) 26) (He.ma K (He.ga K "Net") "number") fd := by
  obtain ⟨fd, F⟩ := c.def_ 29
  exact ⟨fd, He5.fun_of (st := inClass (top 35) 26) F⟩
theorem d_Net_waiting (c : SaysX fx fn K) : ∃ fd, Fun K "waiting" "Net.waiting" (inClass (top 35) 27) (He.ma K (He.ga K "Net") "waiting") fd := by
  obtain ⟨fd, F⟩ := c.def_ 30
  exact ⟨fd, He5.fun_of (st := inClass (top 35) 27) F⟩
theorem d_Net_age (c : SaysX fx fn K) : ∃ fd, Fun K "age" "Net.age" (inClass (top 35) 28) (He.ma K (He.ga K "Net") "age") fd := by
  obtain ⟨fd, F⟩ := c.def_ 31
  exact ⟨fd, He5.fun_of (st := inClass (top 35) 28) F⟩
theorem d_Net_messages (c : SaysX fx fn K) : ∃ fd, Fun K "messages" "Net.messages" (inClass (top 35) 29) (He.ma K (He.ga K "Net") "messages") fd := by
  obtain ⟨fd, F⟩ := c.def_ 32
  exact ⟨fd, He5.fun_of (st := inClass (top 35) 29) F⟩
theorem d_Net_links (c : SaysX fx fn K) : ∃ fd, Fun K "links" "Net.links" (inClass (top 35) 30) (He.ma K (He.ga K "Net") "links") fd := by
  obtain ⟨fd, F⟩ := c.def_ 33
  exact ⟨fd, He5.fun_of (st := inClass (top 35) 30) F⟩
theorem d__law_source (c : SaysX fx fn K) : ∃ fd, Fun K "_law_source" "_law_source" (top 37) (He.ga K "_law_source") fd := by
  obtain ⟨fd, F⟩ := c.def_ 34
  exact ⟨fd, He5.fun_of (st := top 37) F⟩
theorem d__law_draw (c : SaysX fx fn K) : ∃ fd, Fun K "_law_draw" "_law_draw" (top 38) (He.ga K "_law_draw") fd := by
  obtain ⟨fd, F⟩ := c.def_ 35
  exact ⟨fd, He5.fun_of (st := top 38) F⟩
theorem d__law_refused (c : SaysX fx fn K) : ∃ fd, Fun K "_law_refused" "_law_refused" (top 39) (He.ga K "_law_refused") fd := by
  obtain ⟨fd, F⟩ := c.def_ 36
  exact ⟨fd, He5.fun_of (st := top 39) F⟩
theorem d__law_unknown (c : SaysX fx fn K) : ∃ fd, Fun K "_law_unknown" "_law_unknown" (top 40) (He.ga K "_law_unknown") fd := by
  obtain ⟨fd, F⟩ := c.def_ 37
  exact ⟨fd, He5.fun_of (st := top 40) F⟩
theorem d__law_values_refused (c : SaysX fx fn K) : ∃ fd, Fun K "_law_values_refused" "_law_values_refused" (top 41) (He.ga K "_law_values_refused") fd := by
  obtain ⟨fd, F⟩ := c.def_ 38
  exact ⟨fd, He5.fun_of (st := top 41) F⟩
theorem d__law_words (c : SaysX fx fn K) : ∃ fd, Fun K "_law_words" "_law_words" (top 42) (He.ga K "_law_words") fd := by
  obtain ⟨fd, F⟩ := c.def_ 39
  exact ⟨fd, He5.fun_of (st := top 42) F⟩
theorem d__law_right (c : SaysX fx fn K) : ∃ fd, Fun K "_law_right" "_law_right" (top 43) (He.ga K "_law_right") fd := by
  obtain ⟨fd, F⟩ := c.def_ 40
  exact ⟨fd, He5.fun_of (st := top 43) F⟩
theorem d_law (c : SaysX fx fn K) : ∃ fd, Fun K "law" "law" (top 44) (He.ga K "law") fd := by
  obtain ⟨fd, F⟩ := c.def_ 41
  exact ⟨fd, He5.fun_of (st := top 44) F⟩
end
end HX01
set_option Elab.async false
set_option linter.all false
set_option maxRecDepth 100000
set_option maxHeartbeats 4000000
namespace EX
open PySem L2 PyProof.Rows
/-- the eight objects, n the drawn number, each with what it is as plain data -/
inductive ItemOk (H : Hp) (n : Int) : V → PyData → Prop where
  | int : ItemOk H n (.int n) (.int n)
  | non : ItemOk H n .non .none
  | bl : ItemOk H n (.bl true) (.bool true)
  | str : ItemOk H n (.str "text") (.str "text")
  | tup {t : Addr} (h : H t = some (.tup [.int 1, .int 2])) : ItemOk H n (.ref t) (.tuple [.int 1, .int 2])
  | lst {t : Addr} (h : H t = some (.lst [.int n])) : ItemOk H n (.ref t) (.list [.int n])
  | dic {t : Addr} (h : H t = some (.dK [(Sum.inl 1, .int n)])) : ItemOk H n (.ref t) (.dict [(.int 1, .int n)])
  | nil {t : Addr} (h : H t = some (.tup [])) : ItemOk H n (.ref t) (.tuple [])
theorem ItemOk.mono {H H' : Hp} {n : Int} {v : V} {d : PyData} (s : Same H H') (h : ItemOk H n v d) : ItemOk H' n v d := by
  cases h with
  | int => exact .int
  | non => exact .non
  | bl => exact .bl
  | str => exact .str
  | tup h => exact .tup (s _ _ h)
  | lst h => exact .lst (s _ _ h)
  | dic h => exact .dic (s _ _ h)
  | nil h => exact .nil (s _ _ h)
theorem ItemOk.rp {K : PySem.W.Frag} {H : Hp} {n : Int} {v : V} {d : PyData} (h : ItemOk H n v d) : Rp K H v d := by
  cases h with
  | int => exact .dp (.int n) rfl
  | non => exact .dp .non rfl
  | bl => exact .dp (.bl true) rfl
  | str => exact .dp (.str _) rfl
  | tup h => exact .dp (.tup (SqT.of h) (.cons (.int 1) (.cons (.int 2) .nil))) (by decide)
  | lst h => exact .dp (.lst (SqL.of h) (.cons (.int n) .nil)) rfl
  | dic h => exact .dic h
  | nil h => exact .dp (.tup (SqT.of h) .nil) rfl
theorem ItemOk.small {H : Hp} {n : Int} {v : V} {d : PyData} (h : ItemOk H n v d) (h0 : -500 ≤ n) (h1 : n < 1000000) : d.showable = true ∧ d.depth ≤ 60 ∧ d.shown.length ≤ sizeLine := by
  have hn : (toString n).length ≤ 8 := int_text_length_le10 (k := 7) (by decide) (by omega)
  have hl : n.natAbs.log2 < 1920 := Nat.lt_of_lt_of_le (PySem.Flt.log2_lt_of (k := 20) (by decide) (by omega)) (by decide)
  have hs : PyData.showable (.int n) = true := by
    show decide (n.natAbs.log2 < 1920) = true
    exact decide_eq_true hl
  have hz : (PyData.shown (.int n)).length ≤ 8 := by
    show (Str.ofString (toString n)).length ≤ 8
    rw [PySem.ofString_length]
    exact hn
  cases h with
  | int => exact ⟨hs, (show 0 ≤ 60 by decide), Nat.le_trans hz (by decide)⟩
  | non => exact ⟨rfl, by decide, by decide +kernel⟩
  | bl => exact ⟨rfl, by decide, by decide +kernel⟩
  | str => exact ⟨rfl, by decide, by decide +kernel⟩
  | tup h => exact ⟨by decide +kernel, by decide, by decide +kernel⟩
  | lst h =>
    refine ⟨by show (PyData.showable (.int n) && true) = true; rw [hs]; rfl, (show 0 + 1 ≤ 60 by decide), ?_⟩
    show (listText [PyData.shown (.int n)]).length ≤ sizeLine
    show ((((("[" : Str) ++ ("" : String)) ++ PyData.shown (.int n)) ++ "]" : Str)).length ≤ sizeLine
    rw [strLen_append, strLen_append, strLen_append]
    have e1 : ("[" : Str).length = 1 := rfl
    have e2 : ((("" : String) : Str)).length = 0 := rfl
    have e3 : ((("]" : String) : Str)).length = 1 := rfl
    rw [sizeLine_eq]
    omega
  | dic h =>
    refine ⟨by show (PyData.showable (.int 1) && PyData.showable (.int n) && true) = true; rw [hs]; rfl, (show 0 + 1 ≤ 60 by decide), ?_⟩
    show (dictText [PyData.shown (.int 1) ++ ": " ++ PyData.shown (.int n)]).length ≤ sizeLine
    show (((("{" : Str) ++ (PyData.shown (.int 1) ++ ": " ++ PyData.shown (.int n))) ++ "}" : Str)).length ≤ sizeLine
    rw [strLen_append, strLen_append, strLen_append, strLen_append]
    have e1 : ("{" : Str).length = 1 := rfl
    have e2 : (PyData.shown (.int 1)).length = 1 := by decide +kernel
    have e3 : (((": " : String) : Str)).length = 2 := rfl
    have e4 : ((("}" : String) : Str)).length = 1 := rfl
    rw [sizeLine_eq]
    omega
  | nil h => exact ⟨rfl, by decide, by decide +kernel⟩
/-- lists of bools as data -/
theorem canB : ∀ bs : List Bool, PyData.canLayAll0 (bs.map PyData.bool) = true
  | [] => rfl
  | b :: r => by
    show (PyData.canLay0 (.bool b) && PyData.canLayAll0 (r.map PyData.bool)) = true
    rw [canB r]
    rfl
theorem depB : ∀ bs : List Bool, PyData.depthAll (bs.map PyData.bool) = 0
  | [] => rfl
  | b :: r => by
    show max (PyData.depth (.bool b)) (PyData.depthAll (r.map PyData.bool)) = 0
    rw [depB r]
    rfl
theorem shapedB (bs : List Bool) : SeqAt.shaped (.list (bs.map PyData.bool)) = true := by
  show (PyData.canLayAll0 (bs.map PyData.bool) && decide (PyData.depthAll (bs.map PyData.bool) + 1 ≤ 64)) = true
  rw [canB, depB]
  rfl
theorem eqvB (bs : List Bool) : PyData.eqv (.list (bs.map PyData.bool)) (.list (bs.map PyData.bool)) = true := SeqAt.eqv_refl _ (canB bs)
theorem dpB {K : PySem.W.Frag} {H : Hp} : ∀ bs : List Bool, DpAll K H (bs.map V.bl) (bs.map PyData.bool)
  | [] => .nil
  | b :: r => .cons (.bl b) (dpB r)
theorem Same.updN {H H1 : Hp} {p : Addr} {o : HO} (s : Same H H1) (h : H p = none) : Same H (L2.upd H1 p o) := fun b u e => by
  rw [upd_ne (ne_of_none e h)]
  exact s b u e
theorem AllX.get {H : Hp} : ∀ {cs : List (Addr × List (Str × V))} {as : List (Addr × Addr)} {i : Nat} {a d : Addr}, AllX H cs as → as[i]? = some (a, d) → ∃ C fs, cs[i]? = some (C, fs) ∧ H a = some (exo a C (some d)) ∧ H d = some (exd d fs)
  | _, _, 0, _, _, .cons h _, e => by
    cases e
    exact ⟨_, _, rfl, h.1, h.2⟩
  | _, _, i + 1, _, _, .cons _ t, e => AllX.get (i := i) t e
end EX
set_option Elab.async false
set_option linter.all false
set_option maxRecDepth 100000
set_option maxHeartbeats 4000000
/-! set(tuple of ints) as a value, sorted of a set of ints: up to a thousand of them -/
namespace L2
open PySem PySem.Spec PyProof.Rows Srt
section
variable {P : Program} {w : World} {A : Around} {E : Value → Shared → Prop} {s : Shared} {a : Addr}
theorem sorted_set_many {S : Int → Bool} {n : Nat} {Q : Value → Shared → Prop} (R : SetR w s.heap a S n) (hh : A.handled = none) (h64 : n ≤ 1000)
    (hQ : ∀ s' p (out : Array Value) (c : Nat) (ns : List Int), (∀ b o, s.heap.get? b = some o → s'.heap.get? b = some o) → s'.gens = s.gens → s'.os = s.os → s.heap.objs.size ≤ p →
      s'.heap.get? p = some (seqObj "list" out c) → IntsAre out.toList ns → ns.Pairwise (· < ·) → (∀ k, k ∈ ns ↔ S k = true) → ns.length = n → Q (.ref p) s') :
    wpAny (model P w) A (call (.builtin "sorted") [.ref a]) Q E s := by
  obtain ⟨o, es, ep, t, ho, hex, hd, g, nd, hm, hb, hf, hn, hr, hl⟩ := R
  refine Calls.call_function_entry kind_sorted plain_sorted entry_sorted (args_sorted1 _) ?_
  unfold Builtin.«sorted»
  refine wpAny_bind (m := checkCount "sorted" 1 1 _) (wpAny_pure ?_)
  refine wpAny_bind (collect_set (A := A.in1) hh ⟨o, ho, hex.1, hd⟩ hf hb hr hl fun s1 vs k1 hz g1 o1 pm => ?_)
  have hvl : vs.length = n := by rw [pm.length_eq, List.length_map, Array.length_toList]; exact hn
  have hI : IntsAre vs (vs.map Builtin.Re.reRawOf) := ints_of vs fun v hv => by
    obtain ⟨e, he, q⟩ := List.mem_map.mp (pm.mem_iff.mp hv)
    obtain ⟨k, tk, h1, _⟩ := g e he
    exact ⟨k, tk, by rw [← q]; exact h1⟩
  have pk : (vs.map Builtin.Re.reRawOf).Perm (es.toList.map keyOf) := by
    have q := pm.map Builtin.Re.reRawOf
    rw [List.map_map] at q
    exact q
  have hzl : vs.length ≤ sizeLine := by rw [hvl, sizeLine_eq]; omega
  refine wpAny_bind (wpAny_newList ?_ hzl)
  have hoL : (s1.heap.push (seqObj "list" vs.toArray 0)).get? s1.heap.objs.size = some (seqObj "list" vs.toArray 0) := Heap.get?_push_size _ rfl
  refine wpAny_bind (wpAny_holding (wpAny_call_entry slot_list_sort ⟨_, hoL, rfl⟩ entry_list_sort (SrtO.list_sort_ord SrtO.swo_int hoL hzl (fun h2 => SrtO.ints_sortable hI h2) fun out b1 b2 => ⟨_, rfl, ?_⟩) (args_list_sort _)))
  obtain ⟨a1, a2, a3⟩ := SrtO.ints_out hI b1 b2
  generalize hns : out.map SrtO.iv = ns' at a1 a2 a3
  obtain ⟨c, hc⟩ := sortedHeap_at (vs := vs) (out := out.toArray) hoL
  have pn : ns'.Perm (es.toList.map keyOf) := a2.trans pk
  refine wpAny_pure ⟨_, rfl, hQ _ s1.heap.objs.size out.toArray c ns' (fun b u e => ?_) g1 o1 hz hc a1 (lt_of_le_nodup ns' a3 (pn.nodup_iff.mpr nd)) (fun k => by rw [pn.mem_iff, ← hm k]) ?_⟩
  · have q := k1 b u e
    have hlt := Heap.lt_size q
    show (sortedHeap (s1.heap.push (seqObj "list" vs.toArray 0)) s1.heap.objs.size vs out.toArray).get? b = some u
    rw [sortedHeap_old (Nat.ne_of_lt hlt) (by rw [size_push']; exact Nat.lt_succ_of_lt hlt)]
    exact Heap.get?_push_of_some _ q
  · rw [pn.length_eq, List.length_map, Array.length_toList]; exact hn
end
section
variable {X : Cx}
/-- set(t), a tuple of ints -/
def rSetTup (K : PySem.W.Frag) (w : World) : List V → Hp → VK → Prop := fun xs H Q => ∃ (p : Addr) (ns : List Int), xs = [.ref p] ∧ SqT K H p (ns.map V.int) ∧ ns.length ≤ 1000 ∧
  ∀ (a : Addr) (c : Nat) (H' : Hp), Same H H' → H' a = some (SetO w a (fun j => decide (j ∈ ns)) c) → c ≤ ns.length → Q (.ref a) H'
theorem cr_setTup (hc : X.calm = true) : CallR X (.type "set") (rSetTup X.K X.w) := by
  intro pins s σ H xs us Q I r h
  obtain ⟨p0, ns, rfl, hq, hl, q⟩ := h
  rw [Vals.ref1 r]
  obtain ⟨its, rv, pt, hz⟩ := I.tuple hq
  have hi : IntsAre its.toArray.toList ns := ints_of_vals rv
  refine call_set_tupI ns (I.ok.hd hc) (show s.heap.IsTuple p0 its.toArray from pt) hi (by unfold scanBound; omega) fun h' tk c R1 hcn k => ?_
  exact ⟨.ref _, upd H s.heap.objs.size (SetO X.w s.heap.objs.size (fun j => decide (j ∈ ns)) c), I.laid (t' := tk) (fun b u e => k b u e) (Nat.le_refl _) (setO_new R1), rfl, q _ c _ (EX.Same.upd (I.hok.fresh (Nat.le_refl _))) upd_same hcn⟩
/-- sorted(found), up to a thousand members -/
def rSortedMany (w : World) : List V → Hp → VK → Prop := fun vs H Q => ∃ (a : Addr) (S : Int → Bool) (n : Nat), vs = [V.ref a] ∧ H a = some (SetO w a S n) ∧ n ≤ 1000 ∧
  ∀ (ns : List Int) (p : Addr) (H' : Hp), Same H H' → H' p = some (.lst (ns.map V.int)) → ns.Pairwise (· < ·) → (∀ k : Int, k ∈ ns ↔ S k = true) → ns.length = n → Q (.ref p) H'
theorem cr_sortedMany (hc : X.calm = true) : CallR X (.builtin "sorted") (rSortedMany X.w) := by
  intro pins s σ H vs us Q I r h
  obtain ⟨a, S, n, rfl, ha, h64, q⟩ := h
  have R := setO_get I ha
  rw [Vals.ref1 r]
  refine sorted_set_many R (I.ok.hd hc) h64 fun s' p out c ns k g o hp hg hi hs hm hl => ?_
  have hlen : (ns.map V.int).length ≤ sizeLine := by rw [List.length_map, hl, sizeLine_eq]; omega
  have hn : H p = none := I.hok.fresh hp
  have J : Inv X pins σ (upd H p (.lst (ns.map V.int))) { s with heap := s'.heap, gens := s'.gens, drawn := s'.drawn, toks := s'.toks } :=
    I.call (ch := []) (Un.laid k hp hn) (I.hok.laid k hp ⟨hlen, out.toList, c, vals_of_ints hi, hg⟩) (by rw [g]; exact I.bare) (fun _ z => nomatch z)
  have e : s' = { s with heap := s'.heap, gens := s'.gens, drawn := s'.drawn, toks := s'.toks } := by
    cases s'
    cases s
    cases o
    rfl
  rw [e]
  exact ⟨.ref p, _, J, rfl, q ns p _ (EX.Same.upd hn) upd_same hs hm hl⟩
end
/-- two rising lists with the same members are one -/
theorem rising_eq : ∀ {l m : List Int}, l.Pairwise (· < ·) → m.Pairwise (· < ·) → (∀ k, k ∈ l ↔ k ∈ m) → l = m
  | [], [], _, _, _ => rfl
  | [], y :: m, _, _, h => absurd ((h y).mpr List.mem_cons_self) (by simp)
  | x :: l, [], _, _, h => absurd ((h x).mp List.mem_cons_self) (by simp)
  | x :: l, y :: m, hl, hm, h => by
    have l1 := List.pairwise_cons.mp hl
    have m1 := List.pairwise_cons.mp hm
    have e : x = y := by
      rcases List.mem_cons.mp ((h x).mp List.mem_cons_self) with e | e
      · exact e
      · rcases List.mem_cons.mp ((h y).mpr List.mem_cons_self) with e2 | e2
        · exact e2.symm
        · have a := m1.1 x e
          have b := l1.1 y e2
          omega
    subst e
    have : l = m := rising_eq l1.2 m1.2 fun k => by
      constructor
      · intro hk
        rcases List.mem_cons.mp ((h k).mp (List.mem_cons_of_mem _ hk)) with e | e
        · have := l1.1 k hk
          omega
        · exact e
      · intro hk
        rcases List.mem_cons.mp ((h k).mpr (List.mem_cons_of_mem _ hk)) with e | e
        · have := m1.1 k hk
          omega
        · exact e
    rw [this]
end L2
set_option Elab.async false
set_option linter.all false
set_option maxRecDepth 100000
set_option maxHeartbeats 4000000
namespace EX
open PySem L2 PySem.Spec PyProof.Rows
/-! ### defs that may raise -/
structure DefX (P : Program) (w : World) (K : PySem.W.Frag) (mg : Str → Option Value) (base : Heap) (k : Nat) (x : Str) (ps : List Str) (sp : Sp) : Prop where
  ex : ∃ (f : Addr) (fd : FuncData), FnOk P w K mg base (L2.CX P w) k f fd ps sp ∧ mg x = some (.ref f) ∧ PySem.W.keepIn K (.ref f) = true ∧ Binds K fd ps []
section
variable {X : Cx} {e : Expr} {es : List Expr} {ta : TA} {p pos : Pos} {x : Str} {k : Nat} {ps : List Str} {sp : Sp}
/-- called where it doesn't raise -/
theorem pe_callX (D : DefX X.prog X.w X.K X.mg X.base k x ps sp) (hr : Room k X.A) (ha : PA X (e :: es) ta) (hg : Gl X x := by rfl) (hdb : (x == ("__debug__" : Str)) = false := by decide)
    (he : starEach (e :: es) X.env = (false, eval e X.env) :: starEach es X.env := by rfl) (hpl : (backTo pos (starEach es X.env)).any (·.1) = false := by rfl) : PE X (.Call (.Name x p) (e :: es) [] pos) (tCall sp [] E0 ta) := by
  obtain ⟨f, fd, F, m, kp, b⟩ := D.ex
  exact pe_call F hr hg m kp b .nil passL ha hdb he hpl
/-- called where what it raises goes on -/
theorem pe_callU {W : WX} (D : DefX X.prog X.w X.K X.mg X.base k x ps sp) (hr : Room k X.A) (tk : Takes X W) (ha : PA X (e :: es) ta) (hg : Gl X x := by rfl) (hdb : (x == ("__debug__" : Str)) = false := by decide)
    (he : starEach (e :: es) X.env = (false, eval e X.env) :: starEach es X.env := by rfl) (hpl : (backTo pos (starEach es X.env)).any (·.1) = false := by rfl) : PE X (.Call (.Name x p) (e :: es) [] pos) (tCallS sp (WE W) ta) := by
  obtain ⟨f, fd, F, m, kp, b⟩ := D.ex
  exact pe_callS F hr hg m kp b (fun σ => passAt tk σ) ha hdb he hpl
end
end EX
set_option Elab.async false
set_option linter.all false
set_option maxRecDepth 100000
set_option maxHeartbeats 4000000
namespace EX
open PySem PySem.Spec L2 PyProof.Rows
section
variable {X : Cx}
/-- len of a dict, locked or not -/
theorem call_lenR : CallR X (.builtin "len") (fun us H Q => ∃ d kvs, us = [V.ref d] ∧ Rd H d (.dK kvs) ∧ Q (.int kvs.length) H) := by
  intro pins s σ H us vs Q I r h
  obtain ⟨d, kvs, rfl, hd, q⟩ := h
  obtain ⟨v, rfl, rv⟩ := vals1 r
  cases rv
  exact d_len I hd fun t s' I' => ⟨.int kvs.length, H, I', ⟨t, rfl⟩, q⟩
/-- a statement that is never reached -/
def tDead : TS := fun _ _ _ => False
theorem ps_dead {st : Stmt} : PS X st tDead := ⟨fun _ _ _ _ _ _ h => h.elim⟩
/-- name = {..: .. for ..} -/
theorem ps_setDc {j : Nat} {nm : Str} {pn : Pos} {ke ve tgt src : Expr} {conds : List Expr} {sc : Scope} {own : List (Str × Nat)} {p1 p2 : Pos} {ti : TI} {tg : TG} {tt : TT} {tk tv : TE}
    (calm : X.calm = true) (nd : X.N.Nodup) (at_ : X.N[j]? = some nm) (loc : X.env.scope.names.lookup nm = some .local) (sw : swapsWith (.DictComp ke ve [⟨tgt, src, conds, 0⟩] sc p1) (some (.Name nm pn)) p2.line X.env = pure true)
    (walk : PI X tgt src ti) (ok : BlkOk X.N X.env.scope sc own)
    (ht : ∀ (s : Shared) (H : Hp) (C : Addr) (cl : List (Str × Addr)) (fp : List Addr), PG (X.blk s H sc (compEnvC sc cl C X.env) fp) tgt tg)
    (hc : ∀ (s : Shared) (H : Hp) (C : Addr) (cl : List (Str × Addr)) (fp : List Addr), PTs (X.blk s H sc (compEnvC sc cl C X.env) fp) conds tt)
    (hk : ∀ (s : Shared) (H : Hp) (C : Addr) (cl : List (Str × Addr)) (fp : List Addr), PE (X.blk s H sc (compEnvC sc cl C X.env) fp) ke tk)
    (hv : ∀ (s : Shared) (H : Hp) (C : Addr) (cl : List (Str × Addr)) (fp : List Addr), PE (X.blk s H sc (compEnvC sc cl C X.env) fp) ve tv)
    (fold : ∀ x, foldedSetIterable src X.env x = pure x := by intro _; rfl) :
    PS X (.Assign [.Name nm pn] (.DictComp ke ve [⟨tgt, src, conds, 0⟩] sc p1) p2) (tAsg (tDc ti tg tt tk tv (own.map (·.2))) (gName j)) := by
  refine ⟨fun pins s0 σ0 H0 D0 I0 rd => ?_⟩
  rw [exec_Assign_Name_used _ _ _ _ sw]
  refine wpAny_bind (wpAny_standAt (wpAny_bind ?_))
  show wpAny _ X.A (do let _ ← comprehension (.DictComp ke ve [⟨tgt, src, conds, 0⟩] sc p1) sc X.env (firstIterPos [⟨tgt, src, conds, 0⟩] p1) newDict false (eval src X.env) (some (assign (.Name nm pn) X.env))) _ _ s0
  have rd' : tDc ti tg tt tk tv (own.map (·.2)) σ0 H0 (fun x Hx => gName j x σ0 Hx D0.nx) := rd
  refine wpAny_bind (thn (dc_core (Qf := fun _ se => SP X pins D0 .next se) calm nd I0 walk ok ht hc hk hv fold rd' fun L C se me He Ie q hn f => ?_) fun _ se hq => wpAny_pure (wpAny_pure hq))
  show wpAny _ _ (assign (.Name nm pn) X.env (.ref L)) _ _ _
  refine wpAny_assign_Name (store_ok2 (v := V.ref L) Ie nd at_ (.inl loc) rfl (fun sf If ⟨b, sb, hb⟩ => ?_) (.inr loc))
  obtain ⟨g0, g1, g2, g3, g4, g5⟩ := f
  have cb : C ≠ b := by
    rcases hb with z | z
    · rw [z]
      exact g1
    · exact fun e => g4 nm b z e.symm
  exact ⟨me, hn.sameBut sb cb, fun hl sl => ⟨_, He, If.turned (t' := sf.toks) (fun a o ha e => (sl.2 a ha).trans e) g0 g1 g3 g4 g5, q⟩⟩
theorem sw_dc {ke ve : Expr} {cs : List Comprehension} {sc : Scope} {p1 pn : Pos} {nm : Str} {l : Nat} {env : Env} (kd : env.scope.kind = .function) (loc : env.scope.names.lookup nm = some .local) (line : (pn.line == p1.line) = true)
    (free : (sc.names.any fun (m, k) => m == nm && (k == .local || k == .cell)) = false) : swapsWith (.DictComp ke ve cs sc p1) (some (.Name nm pn)) l env = pure true := by
  have k1 : env.kindOf nm = some .local := loc
  have k2 : env.blockKind = .function := by
    unfold Env.blockKind
    rw [kd]
    rfl
  unfold swapsWith
  simp only [k2, k1, free, Expr.pos, line]
  rfl
end
section
variable {J : It} {n : Nat} {G : Hp → Prop} {Y : Nat → Hp → V → Hp → Prop}
/-- a dict comprehension over a walk -/
theorem dc_it (wk : Walk J n G Y) {tg : TG} {tt : TT} {tk tv : TE} {vs : List Nat} {σ : L2.St} {H1 : Hp} {D : Addr} {Qd : Hp → Prop} (Pv : Nat → Hp → Prop) (h0 : Pv 0 (L2.upd H1 D (.dK []))) (hG : ∀ i H, i ≤ n → Pv i H → G H)
    (turn : ∀ i x H H', i < n → Pv i H → Y i H x H' → tg x (wipe σ vs) H' fun σ2 H2 => wipe σ2 vs = wipe σ vs ∧ tt σ2 H2 fun b H3 =>
      if b = true then tk σ2 H3 fun y H4 => tv σ2 H4 fun z H5 => ∃ kvs k, y = kV k ∧ H5 D = some (.dK kvs) ∧ kvs.length < sizeLine ∧ Pv (i + 1) (L2.upd H5 D (.dK (putK kvs k z))) else Pv (i + 1) H3) (fin : ∀ H, Pv n H → Qd H) :
    ∃ W : Nat → Nat → Hp → Prop, (∃ m, W 0 m (L2.upd H1 D (.dK []))) ∧ ∀ i m H, W i m H →
      (J.stop i H ∧ Qd H) ∨ (J.go i H ∧ ∃ Nx : Hp → Prop, (∀ H', Nx H' → ∃ m', m' < m ∧ W (i + 1) m' H') ∧ ∀ x H', J.yld i H x H' → tg x (wipe σ vs) H' fun σ2 H2 => wipe σ2 vs = wipe σ vs ∧ tt σ2 H2 fun b H3 =>
        if b = true then tk σ2 H3 fun y H4 => tv σ2 H4 fun z H5 => ∃ kvs k, y = kV k ∧ H5 D = some (.dK kvs) ∧ kvs.length < sizeLine ∧ Nx (L2.upd H5 D (.dK (putK kvs k z))) else Nx H3) := by
  refine ⟨fun i m H => (i ≤ n ∧ m = n - i) ∧ Pv i H, ⟨n, ⟨Nat.zero_le _, by simp⟩, h0⟩, fun i m H hw => ?_⟩
  obtain ⟨⟨hi, rfl⟩, p⟩ := hw
  have g := hG i H hi p
  rcases Nat.lt_or_ge i n with lt | ge
  · exact .inr ⟨wk.goes i H lt g, Pv (i + 1), fun H' p' => ⟨n - (i + 1), by omega, ⟨lt, rfl⟩, p'⟩, fun x H' y => turn i x H H' lt p (wk.yields i H x H' lt g y)⟩
  · obtain rfl : i = n := by omega
    exact .inl ⟨wk.stops H g, fin H p⟩
end
end EX
set_option Elab.async false
set_option linter.all false
set_option maxRecDepth 100000
set_option maxHeartbeats 4000000
/-! list(d.values()) -/
namespace EX
open PySem L2 PyProof.Rows
def vtvO (v d : Addr) : HO := .ext fun h => h.get? v = some { cls := .type "dict_values", data := .fields #[.ref d] }
def rValues : V → List V → Hp → VK → Prop := fun x xs H Q => ∃ (d : Addr) (kvs : List (Key × V)), x = .ref d ∧ xs = [] ∧ H d = some (.dK kvs) ∧ ∀ v, H v = none → Q (.ref v) (upd H v (vtvO v d))
theorem mt_values {X : Cx} : MtR X "dict.values" rValues := by
  intro pins s σ H x xs v us Q I rx rv h
  obtain ⟨a, kvs, ex, ev, e, q⟩ := h
  subst ex
  subst ev
  obtain rfl : v = Value.ref a := rx
  have hus := rv.zero
  subst hus
  obtain ⟨z, lo, vs, rk, dd⟩ := (show ObjOk X.prog X.w H s.heap a (.dK kvs) from I.hok a _ e)
  have hT : s.TypeIs (.ref a) "dict" := by
    obtain ⟨ep, hat⟩ := dd.dictAt
    exact hat.dictOf.typeIs
  refine call_meetsIn PySem.F.slot_dict_values hT PySem.F.entry_dict_values (PySem.F.args_dict_values_1 _) (meets_dict_values (mixKind X.prog X.w) a lo) ⟨⟨vs, dd⟩, ?_⟩
  have J := I.laid (t' := s.toks) (a := s.heap.objs.size) (o := vtvO s.heap.objs.size a) (h' := s.heap.push { cls := .type "dict_values", data := .fields #[.ref a] }) (fun b u e => Heap.get?_push_of_some _ e) (Nat.le_refl _)
    ⟨Heap.get?_push_size _ rfl, ⟨_, Heap.get?_push_size _ rfl⟩, fun h1 h2 q k => k _ q⟩
  exact ⟨.ref s.heap.objs.size, _, J, rfl, q _ (I.hok.fresh (Nat.le_refl _))⟩
def rListV : List V → Hp → VK → Prop := fun xs H Q => ∃ (v d : Addr) (kvs : List (Key × V)), xs = [.ref v] ∧ H v = some (vtvO v d) ∧ H d = some (.dK kvs) ∧
  ∀ l, H l = none → Q (.ref l) (upd H l (.lst (kvs.map (·.2))))
theorem vals_of {kvs : List (Key × V)} {vs : List (Key × Value)} (kv : KV kvs vs) : ∀ {us : List Value}, us = vs.map (·.2) → Vals (kvs.map (·.2)) us := by
  induction kv with
  | nil => intro us e; subst e; exact .nil
  | cons h t ih => intro us e; subst e; exact .cons h.2 (ih rfl)
theorem cr_listV {X : Cx} (hc : X.calm = true) : CallR X (.type "list") rListV := by
  intro pins s σ H xs us Q I r h
  obtain ⟨v, d, kvs, rfl, ev, ed, q⟩ := h
  obtain ⟨u, rfl, ru⟩ := vals1 r
  obtain rfl : u = Value.ref v := ru
  obtain ⟨hv, _, _⟩ := I.hok v _ ev
  have hv : s.heap.get? v = some { cls := .type "dict_values", data := .fields #[.ref d] } := hv
  obtain ⟨hz, lo, vs, kv, dd⟩ := (show ObjOk X.prog X.w H s.heap d (.dK kvs) from I.hok d _ ed)
  obtain ⟨ep, hat⟩ := dd.dictAt
  have hl1 : kvs.length = vs.length := Paired.length kv
  refine PySem.W.kdl_call (PySem.W.kdl_values (knd := mixKind X.prog X.w) (r := v) (d := d) (kvs := vs) (ep := ep)) (I.ok.hd hc) ⟨⟨_, hv, rfl, rfl⟩, hat⟩ (by rw [← hl1]; exact hz) fun h' tk acc c k hS hacc => ?_
  have he : acc.toList = vs.map (·.2) := PySem.W.kdl_vals_eq acc.toList (by rw [Array.length_toList]; exact hacc.1) fun j v e => hacc.2 j v (by rw [← Array.getElem?_toList]; exact e)
  have J := I.laid (t' := tk) (a := s.heap.objs.size) (o := .lst (kvs.map (·.2))) (h' := h') k (Nat.le_refl _)
    ⟨by rw [List.length_map]; exact hz, acc.toList, c, vals_of kv he, by rw [Array.toArray_toList]; exact hS⟩
  exact ⟨.ref s.heap.objs.size, _, J, rfl, q _ (I.hok.fresh (Nat.le_refl _))⟩
end EX
set_option Elab.async false
set_option linter.all false
set_option maxRecDepth 100000
set_option maxHeartbeats 4000000
namespace EX
open PySem L2 PySem.Spec PyProof.Rows
/-! ### xs.count(y), texts -/
theorem countIn_str (k : Str) : ∀ ys : List Str, countIn (.str k) (ys.map PyData.str) = ((ys.count k : Nat) : Int)
  | [] => rfl
  | y :: ys => by
    rw [List.map_cons, countIn, countIn_str k ys, List.count_cons]
    by_cases h : (y == k) = true
    · have e : same (.str y) (.str k) = true := h
      rw [if_pos e, if_pos h]
      push_cast
      omega
    · have e : ¬ same (.str y) (.str k) = true := h
      rw [if_neg e, if_neg h]
      push_cast
      omega
def rCntS (K : PySem.W.Frag) : V → List V → Hp → VK → Prop := fun x xs H Q => ∃ (p : Addr) (ys : List Str) (k : Str), x = .ref p ∧ xs = [.str k] ∧ SqL K H p (ys.map V.str) ∧ Q (.int (ys.count k : Nat)) H
theorem mt_scount {X : Cx} : MtR X "list.count" (rCntS X.K) := by
  intro pins s σ H x xs v us Q I rx rxs h
  obtain ⟨p, ys, k, rfl, rfl, hs, q⟩ := h
  cases rx
  obtain ⟨u, rfl, ru⟩ := rxs.one
  obtain ⟨t, rfl⟩ := ru
  obtain ⟨its, rv, hl, hlen⟩ := I.list hs
  refine count_list_strs hl.isList rv.strs ?_
  rw [countIn_str]
  exact ⟨.int (ys.count k : Nat), H, I.tok _, ⟨_, rfl⟩, q⟩
end EX
set_option Elab.async false
set_option linter.all false
set_option maxRecDepth 100000
set_option maxHeartbeats 4000000
/-! lists of texts, of numbers compared -/
namespace EX
open PySem L2 PyProof.Rows
theorem dpAll_strs {K : PySem.W.Frag} {H : Hp} : ∀ o : List Str, DpAll K H (o.map V.str) (o.map PyData.str)
  | [] => .nil
  | s :: o => .cons (.str s) (dpAll_strs o)
theorem dpAll_ints {K : PySem.W.Frag} {H : Hp} : ∀ o : List Int, DpAll K H (o.map V.int) (o.map PyData.int)
  | [] => .nil
  | s :: o => .cons (.int s) (dpAll_ints o)
theorem eqv_strs : ∀ a b : List Str, PyData.eqvAll (a.map PyData.str) (b.map PyData.str) = decide (a = b)
  | [], [] => rfl
  | [], y :: b => rfl
  | x :: a, [] => rfl
  | x :: a, y :: b => by
    show ((x == y) && PyData.eqvAll (a.map PyData.str) (b.map PyData.str)) = _
    rw [eqv_strs a b]
    by_cases e : x = y
    · subst e
      by_cases f : a = b
      · subst f
        simp
      · simp [f]
    · simp [e]
theorem eqv_ints : ∀ a b : List Int, PyData.eqvAll (a.map PyData.int) (b.map PyData.int) = decide (a = b)
  | [], [] => rfl
  | [], y :: b => rfl
  | x :: a, [] => rfl
  | x :: a, y :: b => by
    show ((x == y) && PyData.eqvAll (a.map PyData.int) (b.map PyData.int)) = _
    rw [eqv_ints a b]
    by_cases e : x = y
    · subst e
      by_cases f : a = b
      · subst f
        simp
      · simp [f]
    · simp [e]
theorem lay_strs : ∀ a : List Str, (∀ s ∈ a, PyData.strOk s = true) → PyData.canLayAll0 (a.map PyData.str) = true
  | [], _ => rfl
  | x :: a, h => by
    show (PyData.strOk x && PyData.canLayAll0 (a.map PyData.str)) = true
    rw [lay_strs a fun s hs => h s (List.mem_cons_of_mem _ hs), h x (List.mem_cons_self ..)]
    rfl
theorem dep_strs : ∀ a : List Str, PyData.depthAll (a.map PyData.str) = 0
  | [] => rfl
  | x :: a => by
    show max 0 (PyData.depthAll (a.map PyData.str)) = 0
    rw [dep_strs a]
    rfl
theorem shaped_strsT {a : List Str} (h : ∀ s ∈ a, PyData.strOk s = true) : SeqAt.shaped (.tuple (a.map PyData.str)) = true := by
  unfold SeqAt.shaped
  show (PyData.canLayAll0 (a.map PyData.str) && decide (PyData.depthAll (a.map PyData.str) + 1 ≤ 64)) = true
  rw [lay_strs a h, dep_strs]
  rfl
theorem shaped_strsL {a : List Str} (h : ∀ s ∈ a, PyData.strOk s = true) : SeqAt.shaped (.list (a.map PyData.str)) = true := by
  unfold SeqAt.shaped
  show (PyData.canLayAll0 (a.map PyData.str) && decide (PyData.depthAll (a.map PyData.str) + 1 ≤ 64)) = true
  rw [lay_strs a h, dep_strs]
  rfl
end EX
set_option Elab.async false
set_option linter.all false
set_option maxRecDepth 100000
set_option maxHeartbeats 4000000
/-! two sorted arrangements of the same texts are one -/
namespace EX
open PySem L2 PySem.Spec PyProof.Rows
theorem rising_pw : ∀ (l : List Str) (p : Str), risingS p l = true → (p :: l).Pairwise fun a b => a.cps.toList ≤ b.cps.toList
  | [], p, _ => List.pairwise_singleton _ _
  | x :: r, p, h => by
    have h : (!ltCps x.cps.toList p.cps.toList && risingS x r) = true := h
    rw [Bool.and_eq_true, Bool.not_eq_true', ltCps_eq, decide_eq_false_iff_not] at h
    have h1 : p.cps.toList ≤ x.cps.toList := List.not_lt.mp h.1
    have ih := rising_pw r x h.2
    refine List.pairwise_cons.mpr ⟨fun y hy => ?_, ih⟩
    rcases List.mem_cons.mp hy with rfl | hy
    · exact h1
    · exact List.le_trans h1 ((List.pairwise_cons.mp ih).1 y hy)
theorem sortedS_same {a b : List Str} (hp : a.Perm b) (ha : sortedS a = true) (hb : sortedS b = true) : a = b := by
  have pw : ∀ l : List Str, sortedS l = true → l.Pairwise fun a b => a.cps.toList ≤ b.cps.toList := fun l h => by
    cases l with
    | nil => exact .nil
    | cons x r => exact rising_pw r x h
  refine hp.eq_of_pairwise (fun x y _ _ h1 h2 => ?_) (pw a ha) (pw b hb)
  have e : x.cps.toList = y.cps.toList := List.le_antisymm h1 h2
  cases x
  cases y
  congr 1
  exact Array.toList_inj.mp e
end EX
set_option Elab.async false
set_option linter.all false
set_option maxRecDepth 100000
set_option maxHeartbeats 4000000
namespace EX
open PySem L2 PySem.Spec PyProof.Rows LamX
/-! ### a lambda handed to a def that tells what it raised -/
/-- a wish need hold only for as many slots as there are -/
theorem takes_len {X : Cx} {W : WX} (t : Takes X W) : Takes X (fun cls d σ H => σ.length = X.N.length → W cls d σ H) := fun u s' ⟨a, B, sI, pins, σ, H, cls, d, e, I, nb, up, sky, na, os, ag, w⟩ =>
  t u s' ⟨a, B, sI, pins, σ, H, cls, d, e, I, nb, up, sky, na, os, ag, w I.len⟩
/-- isinstance(e, c) in a suite -/
def rIsD (K : PySem.W.Frag) (a : Addr) (cls : Value) (d : Option Addr) : List V → Hp → VK → Prop := fun xs H Q => ∃ dd, d = some dd ∧ ∃ (C : Addr) (fs : List (Str × V)) (c : V) (cv : Value) (b : Bool), xs = [.ref a, c] ∧ cls = .ref C ∧ EcC K C ∧ H dd = some (.xd fs) ∧ ClsV c cv ∧ PySem.W.kitOne K (.ref C) cv = some b ∧ Q (.bl b) H
theorem call_isD {X : Cx} {a : Addr} {cls : Value} {d : Option Addr} {oe : Obj} {pn : List (Addr × Obj)} (hz : Zc cls d oe) (hf : ∃ vs, oe.data = .fields vs) : CallR (X.suite a ((a, oe) :: pn)) (.builtin "isinstance") (rIsD X.K a cls d) := by
  intro pins s σ H xs us Q I r h
  obtain ⟨dd, rfl, h⟩ := h
  exact call_isS hz hf pins s σ H xs us Q I r h
/-- e.f in a suite, for the classes of which f is a field -/
def tXfs (Cs : List Addr) (a : Addr) (cls : Value) (d : Option Addr) (f : Str) (te : TE) : TE := fun σ H Q => ∃ C ∈ Cs, tXf a cls d C f te σ H Q
theorem pe_xfs {X : Cx} {a : Addr} {Cs : List Addr} {oe : Obj} {cls : Value} {d : Option Addr} {pn : List (Addr × Obj)} {e : Expr} {te : TE} {pos : Pos} {n : Str} (T : ∀ C ∈ Cs, EcC X.K C ∧ PySem.W.findIn X.K (.ref C) n = some none)
    (hz : Zc cls d oe) (hf : ∃ vs, oe.data = .fields vs) (he : PE (X.suite a ((a, oe) :: pn)) e te) (hb : attributeBase e n X.env (eval e X.env) = eval e X.env := by rfl) :
    PE (X.suite a ((a, oe) :: pn)) (.Attribute e n pos) (tXfs Cs a cls d n te) := by
  refine ⟨fun pins s σ H Q I h => ?_⟩
  obtain ⟨C, hC, h⟩ := h
  exact (pe_xf (T C hC).1.xf (T C hC).2 hz hf he hb).run pins s σ H Q I h
/-- what such a def makes of it: cs the classes caught with their words -/
def TSaid (K : PySem.W.Frag) (cs : List (Addr × Str)) (made : Str) : (XK → Hp → VK → Prop) → Hp → VK → Prop := fun tl H Q =>
  tl (fun cls d H' => ∃ (i : Nat) (C : Addr) (lbl : Str) (dd : Addr) (v : V) (dv : PyData), cs[i]? = some (C, lbl) ∧ cls = .ref C ∧ d = some dd ∧ H' dd = some (.xd [("given", v)]) ∧ DqS K H' v dv ∧ dv.showable = true ∧ dv.depth ≤ 60 ∧ dv.shown.length ≤ sizeLine ∧
    ∀ p, H' p = none → Q (.ref p) (upd H' p (.lst [.str lbl, .str dv.shown, .bl true]))) H (fun _ H' => 1 ≤ sizeLine ∧ ∀ p, H' p = none → Q (.ref p) (upd H' p (.lst [.str made])))
/-- the reading of one clause -/
def tSaid1 (K : PySem.W.Frag) (Cs : List Addr) (cb : Addr) (lbl : Str) (i : Nat) (a : Addr) (cls : Value) (d : Option Addr) : TS :=
  tRet (tLst (tCons (tC (.str lbl)) (tCons (tCB (rRepq K) (tCons (tXfs Cs a cls d "given" (tVar i)) tNil)) (tCons (tCB (rIsD K a cls d) (tCons (tVar i) (tCons (tC (.ref cb)) tNil))) tNil))))
/-- what stands of the classes -/
structure SaidC (K : PySem.W.Frag) (cb : Addr) (cs : List (Addr × Str)) : Prop where
  ec : ∀ p ∈ cs, EcC K p.1 ∧ PySem.W.findIn K (.ref p.1) "given" = some none
  cbk : ∀ p ∈ cs, PySem.W.kitOne K (.ref p.1) (.ref cb) = some true
  ex : ∀ (i j : Nat) (p q : Addr × Str), cs[i]? = some p → cs[j]? = some q → PySem.W.exmOne K (.ref p.1) (.ref q.1) = some (decide (i = j))
/-- the wish of the clauses from the k-th on, for an exception of the i-th class -/
theorem said_wish {K : PySem.W.Frag} {cb : Addr} {cs : List (Addr × Str)} (S : SaidC K cb cs) {Wout : WX} {D : Ends} {σ : L2.St} {H : Hp} {sl i : Nat} {C dd : Addr} {lbl : Str} {v : V} {dv : PyData} (hσ : sl < σ.length)
    (hi : cs[i]? = some (C, lbl)) (hx : H dd = some (.xd [("given", v)])) (hd : DqS K H v dv) (h1 : dv.showable = true) (h2 : dv.depth ≤ 60) (h3 : dv.shown.length ≤ sizeLine) (hq : ∀ p, H p = none → D.rt (.ref p) (upd H p (.lst [.str lbl, .str dv.shown, .bl true]))) :
    ∀ (l : List (Addr × Str)) (k : Nat), cs.drop k = l → k ≤ i → wCls K Wout D (l.map fun p => ⟨.ref p.1, some sl, tSaid1 K (cs.map (·.1)) cb p.2 sl⟩) (.ref C) (some dd) σ H
  | [], k, hl, hk => by
    have := congrArg List.length hl
    rw [List.length_drop] at this
    have := (List.getElem?_eq_some_iff.mp hi).1
    simp at *
    omega
  | p :: l, k, hl, hk => by
    have hp : cs[k]? = some p := by
      have : (cs.drop k)[0]? = some p := by rw [hl]; rfl
      rw [List.getElem?_drop] at this
      simpa using this
    have hl' : cs.drop (k + 1) = l := by
      rw [← List.drop_drop, hl]
      rfl
    refine ⟨decide (i = k), S.ex i k (C, lbl) p hi hp, fun e => ?_, fun e => ?_⟩
    · have e : i = k := of_decide_eq_true e
      subst e
      rw [hi] at hp
      cases hp
      intro a ha
      have hm : (C, lbl) ∈ cs := List.mem_of_getElem? hi
      have hs : (slotIn σ (some sl) (some (.ref a)))[sl]? = some (some (.ref a)) := by
        show (σ.set sl (some (.ref a)))[sl]? = _
        rw [List.getElem?_set_self hσ]
      refine ⟨C, List.mem_map.mpr ⟨_, hm, rfl⟩, _, hs, rfl, rfl, dd, _, v, rfl, hx, rfl, v, dv, rfl, hd, h1, h2, h3, ?_⟩
      exact ⟨_, hs, dd, rfl, C, _, _, .ref cb, true, rfl, rfl, (S.ec _ hm).1, hx, .own cb, S.cbk _ hm, by show 3 ≤ sizeLine; decide, hq⟩
    · have e : ¬ i = k := of_decide_eq_false e
      exact said_wish S hσ hi hx hd h1 h2 h3 hq l (k + 1) hl' (by omega)
end EX
set_option Elab.async false
set_option linter.all false
set_option maxRecDepth 100000
set_option maxHeartbeats 4000000
namespace EX
open PySem L2 PySem.Spec PyProof.Rows LamX
/-! ### what is kept where tables of code objects grow -/
theorem ExtN.of_same {H H' : Hp} (s : Same H H') : ExtN H H' := ExtN.of s
theorem ExtN.seq {K : PySem.W.Frag} {H H' : Hp} {a : Addr} {xs : List V} (s : ExtN H H') (h : SqL K H a xs) : SqL K H' a xs :=
  h.elim (fun z => .inl (z.elim (fun z => .inl (s _ _ z (fun _ e => nomatch e))) fun ⟨o, z⟩ => .inr ⟨o, s _ _ z (fun _ e => nomatch e)⟩)) .inr
theorem ExtN.sqt {K : PySem.W.Frag} {H H' : Hp} {a : Addr} {xs : List V} (s : ExtN H H') (h : SqT K H a xs) : SqT K H' a xs :=
  h.elim (fun z => .inl (z.elim (fun z => .inl (s _ _ z (fun _ e => nomatch e))) fun ⟨o, z⟩ => .inr ⟨o, s _ _ z (fun _ e => nomatch e)⟩)) .inr
theorem ExtN.dK {H H' : Hp} {a : Addr} {kvs : List (Key × V)} (s : ExtN H H') (h : H a = some (.dK kvs)) : H' a = some (.dK kvs) := s _ _ h (fun _ e => nomatch e)
theorem ExtN.lst {H H' : Hp} {a : Addr} {xs : List V} (s : ExtN H H') (h : H a = some (.lst xs)) : H' a = some (.lst xs) := s _ _ h (fun _ e => nomatch e)
mutual
theorem DqS.ext {K : PySem.W.Frag} {H H' : Hp} (s : ExtN H H') : ∀ {v : V} {d : PyData}, DqS K H v d → DqS K H' v d
  | _, _, .non => .non
  | _, _, .bl b => .bl b
  | _, _, .int i => .int i
  | _, _, .str x => .str x
  | _, _, .lst n h a => .lst n (ExtN.seq s h) (DqSAll.ext s a)
  | _, _, .tup h a => .tup (ExtN.sqt s h) (DqSAll.ext s a)
  | _, _, .dic h a => .dic (ExtN.dK s h) (DqSAll.ext s a)
theorem DqSAll.ext {K : PySem.W.Frag} {H H' : Hp} (s : ExtN H H') : ∀ {vs : List V} {ds : List PyData}, DqSAll K H vs ds → DqSAll K H' vs ds
  | _, _, .nil => .nil
  | _, _, .cons h t => .cons (DqS.ext s h) (DqSAll.ext s t)
end
/-- one object but tables changed -/
theorem Tabs.but {T : List (Addr × Str)} {H H' : Hp} {p : Addr} {o : HO} (t : Tabs T H) (b : ∀ a u, a ≠ p → H a = some u → H' a = some u) (hp : H p = some o) (n1 : ∀ ps, o ≠ .tbl ps) (n2 : ∀ c q, o ≠ CodeO c q) : Tabs T H' := fun z hz => by
  obtain ⟨ps, h1, h2, h3⟩ := t z hz
  refine ⟨ps, b _ _ (fun e => ?_) h1, h2, fun pos cv hc => ?_⟩
  · rw [e, hp] at h1
    exact n1 _ (Option.some.inj h1)
  · obtain ⟨c, e, hco⟩ := h3 pos cv hc
    refine ⟨c, e, b _ _ (fun e2 => ?_) hco⟩
    rw [e2, hp] at hco
    exact n2 _ _ (Option.some.inj hco)
theorem codeO_lst {c : Addr} {q : Str} (xs : List V) : HO.lst xs ≠ CodeO c q := fun z => by
  unfold CodeO at z
  cases z
/-- what a def tells that catches the i-th class -/
theorem lam_said {K : PySem.W.Frag} {T : List (Addr × Str)} {cs : List (Addr × Str)} {made lbl : Str} {i : Nat} {C : Addr} {v : V} {dv : PyData} {t : XK → TE} {σ : L2.St} {H : Hp} {Q : VK} (hT : Tabs T H) (hD : DqS K H v dv) (h1 : dv.showable = true) (h2 : dv.depth ≤ 60) (h3 : dv.shown.length ≤ sizeLine) (hi : cs[i]? = some (C, lbl))
    (ht : ∀ (E : XK) (H1 : Hp) (Q : VK), ExtN H H1 → (∀ d' H', Same H1 H' → H' d' = some (.xd [(("given" : Str), v)]) → E (.ref C) (some d') H') → t E σ H1 Q)
    (k : ∀ p H', ExtN H H' → Tabs T H' → H' p = some (.lst [.str lbl, .str dv.shown, .bl true]) → Q (.ref p) H') : tLam T (TSaid K cs made) t σ H Q := by
  refine ⟨hT, fun H1 e1 T1 => ht _ H1 _ e1 fun d' H' s hx => ?_⟩
  have e2 : ExtN H H' := ExtN.trans e1 (ExtN.of s)
  refine ⟨i, C, lbl, d', v, dv, hi, rfl, rfl, hx, DqS.ext e2 hD, h1, h2, h3, fun p hp => ?_⟩
  have s2 : ∀ b o, H' b = some o → upd H' p (.lst [.str lbl, .str dv.shown, .bl true]) b = some o := Same.upd hp
  exact k p _ (ExtN.trans e2 (ExtN.of s2)) ((T1.ext s).ext s2) upd_same
/-- the same compared with what is asked -/
theorem if_said {K : PySem.W.Frag} {T : List (Addr × Str)} {cs : List (Addr × Str)} {made lbl : Str} {i j : Nat} {C : Addr} {v : V} {dv : PyData} {t : XK → TE} {A : TS} {σ : L2.St} {H : Hp} {D : Ends} (hj : σ[j]? = some (some v)) (hT : Tabs T H) (hD : DqS K H v dv) (h1 : dv.showable = true) (h2 : dv.depth ≤ 60) (h3 : dv.shown.length ≤ sizeLine) (hi : cs[i]? = some (C, lbl))
    (sh : SeqAt.shaped (.list [.str lbl, .str dv.shown, .bool true]) = true) (eq : PyData.eqv (.list [.str lbl, .str dv.shown, .bool true]) (.list [.str lbl, .str dv.shown, .bool true]) = true)
    (ht : ∀ (E : XK) (H1 : Hp) (Q : VK), ExtN H H1 → (∀ d' H', Same H1 H' → H' d' = some (.xd [(("given" : Str), v)]) → E (.ref C) (some d') H') → t E σ H1 Q)
    (k : ∀ H', ExtN H H' → Tabs T H' → D.nx σ H') : tIfS (tTest (tOp (rNeD K) (tLam T (TSaid K cs made) t) (tLst (tCons (tC (.str lbl)) (tCons (tCB (rRepq K) (tCons (tVar j) tNil)) (tCons (tC (.bl true)) tNil)))))) A tNext D σ H := by
  refine lam_said hT hD h1 h2 h3 hi ht fun p H' e T' hp => ?_
  refine ⟨v, hj, v, dv, rfl, DqS.ext e hD, h1, h2, h3, by show 3 ≤ sizeLine; decide, fun q hq => ?_⟩
  have s2 : ∀ b o, H' b = some o → upd H' q (.lst [.str lbl, .str dv.shown, .bl true]) b = some o := Same.upd hq
  refine ⟨_, _, .lst (.inl (.inl (s2 _ _ hp))) (.cons (.str _) (.cons (.str _) (.cons (.bl _) .nil))), .lst (.inl (.inl upd_same)) (.cons (.str _) (.cons (.str _) (.cons (.bl _) .nil))), sh, sh, ?_⟩
  rw [eq]
  exact ⟨false, rfl, (iteF (k _ (ExtN.trans e (ExtN.of s2)) (T'.ext s2)) : if false = true then _ else _)⟩
/-- a def whose code object is known -/
theorem fn_atC {P : Program} {w : World} {K : PySem.W.Frag} {mg : Str → Option Value} {base : Heap} {k : Nat} {x qual : Str} {st : Stmt} {f c : Addr} {fd : FuncData} {N ps : List Str} {sp : Sp} (F : Fun K x qual st f fd) (hc : fd.code = .ref c) (S : FnScope N ps (defScope st)) (len : ∀ vs H Q E, sp vs H Q E → vs.length = ps.length)
    (body : ∀ (A : Around) (outer : List Env) (s : Shared) (H : Hp) (vs : List V) (Q : VK) (E : XK), (A.deeper (envOfC qual (defScope st) s.heap.objs.size f (.ref c))).guards = some [] → Room k (A.deeper (envOfC qual (defScope st) s.heap.objs.size f (.ref c))) → sp vs H Q E →
      ∃ t, PSs (cxOf CX0 P w K mg base N qual (defScope st) f (.ref c) A outer s H E) (defBody st) t ∧ t { nx := fun _ H' => Q .non H', rt := Q } (start N vs) H) : FnG P w K mg base CX0 (k + 1) f fd ps sp := by
  obtain ⟨oc, od, kV, doc, pm, an, cdv, ct, osl, rfl, lk, hcd⟩ := F.ex
  obtain rfl : cdv = .ref c := hc
  refine ⟨fun A outer s H args us vs Q E hr hg e0 hb rv h => ?_, len⟩
  have hl := len _ _ _ _ h
  have kin : K.In s.heap := e0.mod.kin.keeps fun b o z => (e0.bs b o z).1
  have lim : s.heap.NoLimit := e0.mod.nolimit.keeps fun b o z => (e0.bs b o z).1
  have par : ∀ y ∈ ps.zip us, (defScope st).names.lookup y.1 = some .local ∨ ((defScope st).names.lookup y.1 = some .cell ∧ ((cellsFrom (s.heap.objs.size + 1) (defScope st).names []).lookup y.1).isSome = true) := by
    rintro ⟨n, v⟩ hy
    cases S.par n (List.of_mem_zip hy).1 with
    | inl q => exact .inl q
    | inr q => exact .inr ⟨q, PySem.W.cellsFrom_some _ _ _ (.inl q)⟩
  refine codeAny_call_function hr.depth (kin _ _ lk) rfl S.co S.gen rfl (PySem.W.codeRec_of kin hcd) (hb _ _ _ _ (wpAny_newFunctionEnv_cells S.kind par ?_))
  rintro env he s1 hin
  subst he
  refine ⟨lim.keeps hin.toInCall.keep, codeAny_func ?_⟩
  obtain ⟨t, ht, hq⟩ := body A outer s H vs Q E (guards_deeper hg) (hr.deeper _) h
  refine wpAny_mono (ht.run [] s1 (start N vs) H _ (inv_start S hr.hd e0 hl rv hin) hq) ?_ fun _ _ z => z
  rintro fl s' hs
  cases fl with
  | next =>
    obtain ⟨σ', H', J, q⟩ := hs
    exact ⟨V.non, H', J.os, J.bare, J.base, J.hok, rfl, q⟩
  | ret u =>
    obtain ⟨v, σ', H', J, r, q⟩ := hs
    exact ⟨v, H', J.os, J.bare, J.base, J.hok, r, q⟩
  | brk =>
    obtain ⟨_, _, _, q⟩ := hs
    exact q.elim
  | cont =>
    obtain ⟨_, _, _, q⟩ := hs
    exact q.elim
/-- a display of keys and constants -/
theorem disp_c {cs : List (Key × V)} {σ : L2.St} {H : Hp} {Q : VK} (h15 : cs.length ≤ 15) (k : ∀ p H', Same H H' → H p = none → H' p = some (.dK (mergeK [] cs)) → Q (.ref p) H') : tDisp (cs.map fun c => (tC (kV c.1), tC c.2)) σ H Q := fun p hp => by
  have aux : ∀ (l : List (Key × V)) (H1 : Hp) (R : List (V × V) → Hp → Prop), R (l.map fun kv => (kV kv.1, kv.2)) H1 → tPairs (l.map fun c => (tC (kV c.1), tC c.2)) σ H1 R := by
    intro l
    induction l with
    | nil => intro H1 R h; exact h
    | cons x t ih => intro H1 R h; exact ih H1 _ h
  refine aux cs _ _ ⟨upd_same, cs, rfl, h15, k p _ (fun b o e => ?_) hp upd_same⟩
  rw [upd_ne (ne_of_none e hp), upd_ne (ne_of_none e hp)]
  exact e
/-- a display of one entry -/
theorem disp_1 {tk tv : TE} {key : Key} {v : V} {σ : L2.St} {H : Hp} {Q : VK} (hk : ∀ (H : Hp) (Q : VK), Q (kV key) H → tk σ H Q) (hv : ∀ (H : Hp) (Q : VK), Q v H → tv σ H Q) (k : ∀ p H', Same H H' → H p = none → H' p = some (.dK [(key, v)]) → Q (.ref p) H') : tDisp [(tk, tv)] σ H Q := fun p hp => by
  refine hk _ _ (hv _ _ ⟨upd_same, [(key, v)], rfl, by show 1 ≤ 15; decide, k p _ (fun b o e => ?_) hp upd_same⟩)
  rw [upd_ne (ne_of_none e hp), upd_ne (ne_of_none e hp)]
  exact e
end EX
set_option Elab.async false
set_option linter.all false
set_option maxRecDepth 100000
set_option maxHeartbeats 4000000
/-! methods, makings, own subscripts that may raise: met where they don't, met where what they raise goes on -/
namespace EX
open PySem L2 PySem.Spec PyProof.Rows
structure MtX (P : Program) (w : World) (K : PySem.W.Frag) (mg : Str → Option Value) (base : Heap) (k : Nat) (C : Addr) (m : Str) (ps : List Str) (sp : Sp) : Prop where
  c : Cls K C
  ex : ∃ (f : Addr) (fd : FuncData), Meth K C m f ∧ FnOk P w K mg base (L2.CX P w) k f fd ps sp ∧ Binds K fd ps []
structure MkX (P : Program) (w : World) (K : PySem.W.Frag) (mg : Str → Option Value) (base : Heap) (k : Nat) (x : Str) (ps : List Str) (C : Addr) (sp : Sp) : Prop where
  m : mg x = some (.ref C)
  ex : ∃ (f : Addr) (fd : FuncData), Mk K C f ∧ FnOk P w K mg base (L2.CX P w) k f fd ps sp ∧ Binds K fd ps []
abbrev DunX (P : Program) (w : World) (K : PySem.W.Frag) (mg : Str → Option Value) (base : Heap) (k : Nat) (C : Addr) (m : Str) (ps : List Str) (sp : Sp) : Prop := Dun P w K mg base (L2.CX P w) k C m ps sp
def tMethU (C : Addr) (m : Str) (sp : Sp) (W : WX) (ta : TE) (t : TA) : TE := fun σ H Q => ta σ H fun x H1 => ∃ a dx fs, x = .ref a ∧ H1 a = some (.ins C dx fs) ∧ fs.lookup m = none ∧ t σ H1 fun vs H2 => sp (x :: vs) H2 Q (WE W σ)
def tMakeU (C : Addr) (sp : Sp) (W : WX) (t : TA) : TE := fun σ H Q => t σ H fun vs H1 => ∀ x dx, H1 x = none → H1 dx = none → dx ≠ x → sp (.ref x :: vs) (upd (upd H1 dx (.own x)) x (.ins C dx [])) (fun v H2 => v = .non ∧ Q (.ref x) H2) (WE W σ)
def tGetU (C : Addr) (sp : Sp) (W : WX) (to ti : TE) : TE := fun σ H Q => to σ H fun x H1 => ti σ H1 fun y H2 => ∃ a dx fs, x = .ref a ∧ H2 a = some (.ins C dx fs) ∧ sp [.ref a, y] H2 Q (WE W σ)
section
variable {X : Cx} {W : WX} {e o i : Expr} {es : List Expr} {t : TA} {ta to ti : TE} {p pos apos : Pos} {x m : Str} {k : Nat} {ps : List Str} {sp : Sp} {C : Addr} {pins : List (Addr × Obj)} {σ : L2.St} {H : Hp} {s : Shared}
theorem pe_mtX {pl : Sem Bool} (D : MtX X.prog X.w X.K X.mg X.base k C m ps sp) (hr : Room k X.A) (he : PE X o ta) (ha : PA X (e :: es) t)
    (hst : starEach (e :: es) X.env = (false, eval e X.env) :: starEach es X.env := by rfl) (hpl : (backTo pos (starEach es X.env)).any (·.1) = false := by rfl)
    (ht : eval (.Call (.Attribute o m apos) (e :: es) [] pos) X.env = (do
      let ov ← eval o X.env
      standAt apos.atName
      let (f, first) ← holding [ov] (getMethod ov m pl)
      callWith pos f first (backTo pos (starEach (e :: es) X.env)) (backToKw pos (keywordEach [] X.env))) := by rfl) : PE X (.Call (.Attribute o m apos) (e :: es) [] pos) (tMeth C m sp [] E0 ta t) := by
  obtain ⟨f, fd, hm, F, b⟩ := D.ex
  exact pe_meth (pl := pl) he D.c hm F hr b .nil passL ha hst hpl ht
theorem pe_mtU {pl : Sem Bool} (D : MtX X.prog X.w X.K X.mg X.base k C m ps sp) (hr : Room k X.A) (tk : Takes X W) (he : PE X o ta) (ha : PA X (e :: es) t)
    (hst : starEach (e :: es) X.env = (false, eval e X.env) :: starEach es X.env := by rfl) (hpl : (backTo pos (starEach es X.env)).any (·.1) = false := by rfl)
    (ht : eval (.Call (.Attribute o m apos) (e :: es) [] pos) X.env = (do
      let ov ← eval o X.env
      standAt apos.atName
      let (f, first) ← holding [ov] (getMethod ov m pl)
      callWith pos f first (backTo pos (starEach (e :: es) X.env)) (backToKw pos (keywordEach [] X.env))) := by rfl) : PE X (.Call (.Attribute o m apos) (e :: es) [] pos) (tMethU C m sp W ta t) := by
  obtain ⟨f, fd, hm, F, hb⟩ := D.ex
  refine ⟨fun pins s σ H Q I h => ?_⟩
  refine PySem.W.methodCall_KW (pl := pl) (thn (he.run pins s σ H _ I h) fun u s1 ⟨x, H1, I1, rx, a, dx, fs, ex, ea, l, q⟩ => ?_) ht
  subst ex
  obtain rfl : u = Value.ref a := rx
  refine getmeth_ok I1 ea D.c hm l ?_
  refine PySem.W.callWith_K (first := [.ref a]) (h₀ := X.base) I.ok.mod.kin hm.kp (thn (ha.run pos pins s1 σ H1 _ I1 q) fun us s2 ⟨vs, H2, I2, r, q2⟩ => ⟨I2.kIn, ?_⟩) hst hpl
  exact run_fnS (E := WE W) (us := .ref a :: us) (vs := .ref a :: vs) F hr hb (passAt tk σ) I2 (.cons rfl r) q2
theorem pe_mkX (D : MkX X.prog X.w X.K X.mg X.base k x ps C sp) (hr : Room (k + 1) X.A) (ha : PA X (e :: es) t) (hg : Gl X x := by rfl) (hdb : (x == ("__debug__" : Str)) = false := by decide)
    (he : starEach (e :: es) X.env = (false, eval e X.env) :: starEach es X.env := by rfl) (hpl : (backTo pos (starEach es X.env)).any (·.1) = false := by rfl) : PE X (.Call (.Name x p) (e :: es) [] pos) (tMake C sp [] E0 t) := by
  obtain ⟨f, fd, M, F, b⟩ := D.ex
  exact pe_make M F hr hg D.m b .nil passL ha hdb he hpl
theorem pe_mkU (D : MkX X.prog X.w X.K X.mg X.base k x ps C sp) (hr : Room (k + 1) X.A) (tk : Takes X W) (ha : PA X (e :: es) t) (hg : Gl X x := by rfl) (hdb : (x == ("__debug__" : Str)) = false := by decide)
    (he : starEach (e :: es) X.env = (false, eval e X.env) :: starEach es X.env := by rfl) (hpl : (backTo pos (starEach es X.env)).any (·.1) = false := by rfl) : PE X (.Call (.Name x p) (e :: es) [] pos) (tMakeU C sp W t) := by
  obtain ⟨f, fd, M, F, hb⟩ := D.ex
  refine ⟨fun pins s σ H Q I h => ?_⟩
  refine wpAny_Call_Name_kw (ld_glob I hg D.m ?_ hdb)
  refine PySem.W.callWith_K (h₀ := X.base) I.ok.mod.kin M.kp (thn (ha.run pos pins s σ H _ I h) fun us s1 ⟨vs, H1, I1, r, q⟩ => ⟨I1.kIn, ?_⟩) he hpl
  have hq := q (s1.heap.objs.size + 1) s1.heap.objs.size (I1.hok.fresh (Nat.le_succ _)) (I1.hok.fresh (Nat.le_refl _)) (Nat.ne_of_lt (Nat.lt_succ_self _))
  have I2 := Inv.made (C := C) I1
  have r2 : Vals (V.ref (s1.heap.objs.size + 1) :: vs) (Value.ref (s1.heap.objs.size + 1) :: us) := .cons rfl r
  have hl : (Value.ref (s1.heap.objs.size + 1) :: us).length = ps.length := by
    have e := r2.length
    rw [F.len _ _ _ _ hq] at e
    exact e.symm
  have b := hb _ (Value.ref (s1.heap.objs.size + 1) :: us) I2.kIn (by rw [List.append_nil]; exact hl)
  rw [List.append_nil] at b
  refine wpAny_call (make_map (f := f) I1.kIn M.makes M.init (beq_iff_eq.mp M.fn) (codeAny_mono (F.run _ X.stack _ _ ⟨Value.ref (s1.heap.objs.size + 1) :: us, []⟩ (Value.ref (s1.heap.objs.size + 1) :: us) _ _ (WE W σ) (hr.make C us [])
    (I2.env0.make C us []) b r2 hq) fun r s' hq' => ?_))
  cases r with
  | error e => exact passAt tk σ pins _ _ e s' I2 hq'
  | ok fl =>
    cases fl with
    | ret u =>
      obtain ⟨v, H', I3, rv, ev, q3⟩ := I2.after hq'
      subst ev
      exact ⟨rv, ⟨V.ref (s1.heap.objs.size + 1), H', I3, rfl, q3⟩⟩
    | next => exact False.elim hq'
    | brk => exact False.elim hq'
    | cont => exact False.elim hq'
theorem run_inS {A : Around} {f : Addr} {fd : FuncData} {Q : VK} {E : XK} {us : List Value} {vs : List V} (F : FnOk X.prog X.w X.K X.mg X.base (L2.CX X.prog X.w) k f fd ps sp) (hr : Room k A) (e0 : Env0 X.prog X.w X.K X.mg X.base A X.stack s H) (hb : Binds X.K fd ps []) (hx : PassesAt (L2.CX X.prog X.w) X σ E)
    (I : Inv X pins σ H s) (r : Vals vs us) (h : sp vs H Q E) : wpAny (model X.prog X.w) A (call (.ref f) us) (EP X pins σ Q) X.xe s := by
  have hl : us.length = ps.length := by rw [← r.length]; exact F.len _ _ _ _ h
  have b : BindsTo s fd ⟨us, []⟩ (ps.zip us) := by
    have := hb s us I.kIn (by rw [List.append_nil]; exact hl)
    rwa [List.append_nil] at this
  refine wpAny_call (codeAny_mono (F.run A X.stack s H ⟨us, []⟩ us vs Q E hr e0 b r h) ?_)
  rintro (e | fl) s' hq
  · exact hx pins H s e s' I hq
  · cases fl with
    | ret u => exact I.after hq
    | next => exact False.elim hq
    | brk => exact False.elim hq
    | cont => exact False.elim hq
theorem pe_getX (D : DunX X.prog X.w X.K X.mg X.base k C "__getitem__" ps sp) (hr : Room (k + 1) X.A) (ho : PE X o to) (hi : PE X i ti)
    (hsl : ∀ x y, subscripted i true x y = runValue (.builtin "lifetime.subscript" ⟨[x, y], []⟩) := by intro _ _; with_unfolding_all rfl) : PE X (.Subscript o i pos) (tGetO C sp E0 to ti) := pe_getO D hr passL ho hi hsl
theorem pe_getU (D : DunX X.prog X.w X.K X.mg X.base k C "__getitem__" ps sp) (hr : Room (k + 1) X.A) (tk : Takes X W) (ho : PE X o to) (hi : PE X i ti)
    (hsl : ∀ x y, subscripted i true x y = runValue (.builtin "lifetime.subscript" ⟨[x, y], []⟩) := by intro _ _; with_unfolding_all rfl) : PE X (.Subscript o i pos) (tGetU C sp W to ti) := by
  refine ⟨fun pins s σ H Q I h => Subscript_ (binT ho hi I h ?_)⟩
  intro v u s2 x y H2 I2 rx ry ⟨a, dx, fs, ex, ea, q⟩
  subst ex
  obtain rfl : v = Value.ref a := rx
  obtain ⟨f, fd, at_, hf, hfi, F, hb⟩ := D.ex
  obtain ⟨od, J⟩ := inst_at I2 ea
  obtain ⟨m, hF⟩ := I2.fr
  exact PySem.W.sub_K hF I2.ok.mod.kin J at_ hfi hf (run_inS F hr.in1 I2.env0.in1 hb (passAt tk σ) I2 (.cons (vref a) (.cons ry .nil)) q) (hsl _ _)
end
end EX
set_option Elab.async false
set_option linter.all false
set_option maxRecDepth 100000
set_option maxHeartbeats 4000000
/-! len(set(x)): a list or a tuple of texts, some maybe twice -/
namespace EX
open PySem PySem.Spec PyProof.Rows SS L2
/-- how many of r are new, those before being seen -/
def dn : List Str → List Str → Nat
  | _, [] => 0
  | seen, x :: r => (if decide (x ∈ seen) = true then 0 else 1) + dn (seen ++ [x]) r
theorem dn_le : ∀ (r seen : List Str), dn seen r ≤ r.length
  | [], _ => Nat.zero_le _
  | x :: r, seen => by
    have := dn_le r (seen ++ [x])
    unfold dn
    rw [List.length_cons]
    split <;> omega
theorem dn_nodup : ∀ (r seen : List Str), r.Nodup → (∀ x ∈ r, x ∉ seen) → dn seen r = r.length
  | [], _, _, _ => rfl
  | x :: r, seen, nd, h => by
    obtain ⟨h1, h2⟩ := List.nodup_cons.mp nd
    have ih := dn_nodup r (seen ++ [x]) h2 fun y hy hz => by
      rcases List.mem_append.mp hz with z | z
      · exact h y (.tail _ hy) z
      · rw [List.mem_singleton.mp z] at hy
        exact h1 hy
    unfold dn
    rw [if_neg (by simpa using h x (.head _)), ih, List.length_cons]
    omega
theorem dn_eq : ∀ (r seen : List Str), dn seen r = r.length → r.Nodup ∧ ∀ x ∈ r, x ∉ seen
  | [], _, _ => ⟨List.nodup_nil, fun _ h => nomatch h⟩
  | x :: r, seen, h => by
    have hle := dn_le r (seen ++ [x])
    unfold dn at h
    rw [List.length_cons] at h
    by_cases hx : x ∈ seen
    · rw [if_pos (decide_eq_true hx)] at h
      omega
    · rw [if_neg (by simpa using hx)] at h
      obtain ⟨h1, h2⟩ := dn_eq r (seen ++ [x]) (by omega)
      refine ⟨List.nodup_cons.mpr ⟨fun z => h2 x z (by simp), h1⟩, fun y hy => ?_⟩
      rcases List.mem_cons.mp hy with rfl | hy
      · exact hx
      · exact fun z => h2 y hy (List.mem_append_left _ z)
section
variable {P : Program} {w : World} {A : Around} {E : Value → Shared → Prop} {s : Shared}
theorem set_update_strs {I : Addr} {fp wr : List Addr} {G : Array GenState → Array GenState → Prop} {n : Nat} {Pv : Nat → Value → Prop} {St : Nat → Shared → Prop} {R : Result → Shared → Prop}
    (W : WalksS P w A.in1 I fp wr G n Pv St) (S : Addr) (hSf : S ∉ fp) (xs : List Str) (hn : n = xs.length) (hb : n + 1 < scanBound) (hval : ∀ i v, Pv i v → ∃ k t, xs[i]? = some k ∧ v = .str k t) :
    ∀ (k i c : Nat) (s : Shared), n - i = k → i ≤ n → c ≤ i → St i s → s.heap.SetOf (PySem.strKind P w) S (fun j => decide (j ∈ xs.take i)) c →
      (∀ s', Moved (S :: wr) G s s' → s'.heap.SetOf (PySem.strKind P w) S (fun j => decide (j ∈ xs)) (c + dn (xs.take i) (xs.drop i)) → R (.ok (.ret .none)) s') →
      codeAny (model P w) A (.builtin "set.update.loop" ⟨[.ref S, .ref I], []⟩) R s := by
  have hSw : S ∉ wr := fun h => hSf (W.sub _ h)
  have hsub : ∀ b ∈ wr, b ∈ S :: wr := fun b hb => List.mem_cons_of_mem _ hb
  have at_ : ∀ {h h' : Heap} {S' : Str → Bool} {c : Nat}, h.SetOf (PySem.strKind P w) S S' c → (∀ o, h.get? S = some o → h'.get? S = some o) → h'.SetOf (PySem.strKind P w) S S' c := fun hS k => by
    obtain ⟨o, es, ep, t, ho, rest⟩ := hS
    exact ⟨o, es, ep, t, k _ ho, rest⟩
  intro k
  induction k with
  | zero =>
    intro i c s hk' hi hci hst hS hR
    have hin : i = n := by omega
    subst hin
    refine codeAny_builtin F.entry_set_update_loop ?_
    rw [Around.under_plainId F.plain_set_update_loop _]
    show wpAny _ A.in1 (pyNext (.ref I) >>= _) _ _ s
    refine wpAny_bind (W.done s _ _ hst fun s' hm => ?_)
    show wpAny _ A.in1 (ret Value.none) _ _ s'
    have e : xs.take i = xs := List.take_of_length_le (by omega)
    have e2 : xs.drop i = [] := List.drop_of_length_le (by omega)
    rw [e] at hS
    refine wpAny_pure (hR s' (hm.mono hsub) (at_ ?_ fun o e => hm.heap S o hSw e))
    rw [e2]
    exact hS
  | succ k ih =>
    intro i c s hk' hi hci hst hS hR
    have hlt : i < n := by omega
    refine codeAny_builtin F.entry_set_update_loop ?_
    rw [Around.under_plainId F.plain_set_update_loop _]
    show wpAny _ A.in1 (pyNext (.ref I) >>= _) _ _ s
    refine wpAny_bind (W.item i s _ _ hlt hst fun v s' hP hst' hm => ?_)
    obtain ⟨z, t, hz, rfl⟩ := hval i v hP
    have hS' := at_ hS fun o e => hm.heap S o hSw e
    show wpAny _ A.in1 (holding [Value.str z t] (setAdd S (.str z t)) >>= _) _ _ s'
    refine wpAny_bind (wpAny_holding ?_)
    unfold setAdd
    refine wpAny_holding ?_
    refine wpAny_bind ((PySem.strKind P w).pyHash (k := z) (strKind_is _ _ _ _) ?_)
    refine wpAny_setAddHashed_of (knd := PySem.strKind P w) (s := { s' with toks := s'.toks + 1 }) (strKind_is _ _ _ _) rfl hS' (by omega) fun h' hsb hS2 => ?_
    have hd : xs.drop i = z :: xs.drop (i + 1) := by
      obtain ⟨hl, e⟩ := List.getElem?_eq_some_iff.mp hz
      rw [← e]
      exact List.drop_eq_getElem_cons hl
    have ht : xs.take (i + 1) = xs.take i ++ [z] := by
      rw [List.take_add_one, hz]
      rfl
    have hS3 : h'.SetOf (PySem.strKind P w) S (fun j => decide (j ∈ xs.take (i + 1))) (if decide (z ∈ xs.take i) = true then c else c + 1) := SetOf_congr hS2 (fun j => by
      rw [ht]
      simp [List.mem_append]) rfl
    have hfin : (if decide (z ∈ xs.take i) = true then c else c + 1) + dn (xs.take (i + 1)) (xs.drop (i + 1)) = c + dn (xs.take i) (xs.drop i) := by
      rw [hd, ht]
      show _ = c + ((if decide (z ∈ xs.take i) = true then 0 else 1) + dn (xs.take i ++ [z]) (xs.drop (i + 1)))
      split <;> omega
    refine wpAny_pure ⟨plainId_quiet F.plain_set_update_loop _, ih (i + 1) _ _ (by omega) hlt (by split <;> omega) (W.frame _ s' _ _ hst' (Nat.le_succ _) fun b hb o e => ?_) hS3 fun s'' hm'' hS'' => ?_⟩
    · rw [hsb.2 b (fun h : b = S => hSf (by rw [← h]; exact hb))]; exact e
    · rw [hfin] at hS''
      refine hR s'' (Moved.trans W.gtrans ((hm.mono hsub).then_heap (Nat.le_succ _) fun b o hb e => ?_) hm'') hS''
      rw [hsb.2 b (fun h : b = S => hb (by rw [h]; exact List.mem_cons_self))]; exact e
set_option maxHeartbeats 8000000 in
theorem call_set_strL {l : Addr} {items : Array Value} {xs : List Str} {Q : Value → Shared → Prop} (hh : A.handled = none) (hl : s.heap.IsList l items) (hi : StrsAre items.toList xs) (hb : xs.length + 1 < scanBound)
    (h : ∀ (h' : Heap) (tk : Nat), h'.SetOf (PySem.strKind P w) s.heap.objs.size (fun j => decide (j ∈ xs)) (dn [] xs) → (∀ b o, s.heap.get? b = some o → h'.get? b = some o) → Q (.ref s.heap.objs.size) { s with heap := h', toks := tk }) :
    wpAny (model P w) A (call (.type "set") [.ref l]) Q E s := by
  have hsz : items.size = xs.length := by rw [← StrsAre.len_eq hi, Array.length_toList]
  obtain ⟨c, tl, hmro⟩ := F.called_set.mro
  have hmade := F.called_set.made
  have hsub := F.called_set.sub
  refine wpAny_call (codeAny_of_tree ?_)
  show wpAny _ _ (callAny (.type "set") _) _ _ _
  refine wpAny_pure ⟨Code.quiet_builtin _ (by decide +kernel), codeAny_builtin F.entry_type_call ?_⟩
  rw [Around.under_plain (weight_type_call_type "set" [.ref l] []) rfl]
  have h1 := F.called_set.notType
  have h2 := F.called_set.canCreate
  have hct := F.typeCall_set_1 (.ref l)
  repeat (any_goals (first | assumption | wp_step))

  refine codeAny_mono (code_set_new_1 (.ref l) (E := E) (Q₁ := fun obj s₁ => ∃ led : Bool, obj = .ref s.heap.objs.size ∧ s₁ = { s with heap := s.heap.push { cls := .type "set", dict := none, data := .set #[] 0 (.fresh 0 0 led) } }) fun led => ⟨led, rfl, rfl⟩) fun r s₁ hr => ?_
  cases r with
  | error e => exact hr
  | ok fl =>
    cases fl with
    | ret obj =>
      obtain ⟨led, rfl, rfl⟩ := hr
      have hS : (s.heap.push { cls := .type "set", dict := none, data := .set #[] 0 (.fresh 0 0 led) }).get? s.heap.objs.size = some { cls := .type "set", dict := none, data := .set #[] 0 (.fresh 0 0 led) } := Heap.get?_push_size _ rfl
      have hT : Shared.TypeIs { s with heap := s.heap.push { cls := .type "set", dict := none, data := .set #[] 0 (.fresh 0 0 led) } } (.ref s.heap.objs.size) "set" := ⟨_, hS, rfl⟩
      have hli := F.called_set.init.lookup
      have hbi := F.called_set.init.bind (.ref s.heap.objs.size)
      repeat (any_goals (first | assumption | wp_step))

      refine codeAny_mono (codeAny_call_builtin (R := wants (fun r s₂ => r = .none ∧ ∃ h' tk, s₂ = { s with heap := h', toks := tk } ∧
          h'.SetOf (PySem.strKind P w) s.heap.objs.size (fun j => decide (j ∈ xs)) (dn [] xs) ∧ (∀ b o, s.heap.get? b = some o → h'.get? b = some o)) E) F.called_set.init.plain F.entry_set_init (check_set_init_1 hT ?_)) fun r₂ s₂ hr₂ => ?_
      · obtain ⟨ol, hol, hcl, nl, hdl⟩ := hl
        obtain ⟨ocls, odict, odata, oslots⟩ := ol
        simp only at hcl hdl
        subst hcl; subst hdl
        have hol' : (s.heap.push { cls := .type "set", dict := none, data := .set #[] 0 (.fresh 0 0 led) }).get? l = some { cls := .type "list", dict := odict, data := .seq items nl, slots := oslots } := Heap.get?_push_of_some _ hol
        have hsls := F.sub_list_set
        have hslf := F.sub_list_frozenset
        have hne : (Value.type "list" == Value.type "dict") = false := by decide
        have hl1 : (s.heap.push { cls := .type "set", dict := none, data := .set #[] 0 (.fresh 0 0 led) }).IsList l items := ⟨_, hol', rfl, nl, rfl⟩
        unfold Builtin.«set.__init__» noKeywords Builtin.Frozenset.updateFrom
        generalize hPI : pyIter = PI
        wp_walk
        subst hPI
        refine wpAny_pyIter_list hl1 ?_
        refine wpAny_bind (wpAny_runValue ?_)
        have hlS : l < s.heap.objs.size := Heap.lt_size hol
        have hh3 : A.in1.in1.in1.handled = none := by simp [hh]
        have hneI : l ≠ (s.heap.push { cls := .type "set", dict := none, data := .set #[] 0 (.fresh 0 0 led) }).objs.size := by
          rw [Heap.size_push]; exact Nat.ne_of_lt (Nat.lt_succ_of_lt hlS)
        have hSf : s.heap.objs.size ∉ [(s.heap.push { cls := .type "set", dict := none, data := .set #[] 0 (.fresh 0 0 led) }).objs.size, l] := by
          rw [Heap.size_push]; simp only [List.mem_cons, List.mem_singleton, List.not_mem_nil, or_false, not_or]
          exact ⟨Nat.ne_of_lt (Nat.lt_succ_self _), Nat.ne_of_gt hlS⟩
        have hval : ∀ (i : Nat) (v : Value), items[i]? = some v → ∃ k t, xs[i]? = some k ∧ v = .str k t := fun i v hv => by
          have hi2 : i < xs.length := by rw [← hsz]; exact (Array.getElem?_eq_some_iff.mp hv).1
          obtain ⟨t, e⟩ := strs_at hi i v (by rw [Array.getElem?_toList]; exact hv)
          refine ⟨xs[i], t, List.getElem?_eq_getElem hi2, ?_⟩
          rw [e, List.getD_eq_getElem?_getD, List.getElem?_eq_getElem hi2] <;> rfl
        refine set_update_strs ((Walks.list hh3 _ l hneI items).toS) s.heap.objs.size hSf xs hsz (by rw [hsz]; exact hb) hval (items.size - 0) 0 0 _ (by omega) (Nat.zero_le _) (Nat.le_refl _)
          ⟨⟨_, Heap.get?_push_size _ rfl, rfl, rfl⟩, (hl1.push _)⟩ ?hS0 ?hR
        case hS0 =>
          have hget : ((s.heap.push { cls := .type "set", dict := none, data := .set #[] 0 (.fresh 0 0 led) }).push { cls := .type "list_iterator", data := .fields #[.ref l, .int 0 0] }).get? s.heap.objs.size
              = some { cls := .type "set", dict := none, data := .set #[] 0 (.fresh 0 0 led) } := Heap.get?_push_of_some _ hS
          exact SetOf_congr ((setObjOf_fresh (knd := PySem.strKind P w) led).setOf hget (by unfold scanBound; omega)) (fun j => by simp) rfl
        case hR =>
          intro s' hm hS'
          obtain ⟨h', g', d', tk', os'⟩ := s'
          have eg : g' = s.gens := hm.gens
          have ed : d' = s.drawn := hm.drawn
          have eo : os' = s.os := hm.os
          subst eg; subst ed; subst eo
          show wpAny _ _ _ _ _ _
          refine wpAny_pure ?_
          show wpAny _ _ (ret Value.none) _ _ _
          rw [List.take_zero, List.drop_zero, Nat.zero_add] at hS'
          refine wpAny_pure ⟨rfl, h', tk', rfl, hS', fun b o e => ?_⟩
          have hb0 : b < s.heap.objs.size := Heap.lt_size e
          have hb1 : b ≠ s.heap.objs.size := Nat.ne_of_lt hb0
          have hb2 : b ≠ (s.heap.push { cls := .type "set", dict := none, data := .set #[] 0 (.fresh 0 0 led) }).objs.size := by
            rw [Heap.size_push]; exact Nat.ne_of_lt (Nat.lt_succ_of_lt hb0)
          exact hm.heap b o (by simp only [List.mem_cons, List.mem_singleton, List.not_mem_nil, or_false, not_or]; exact ⟨hb1, hb2⟩) (Heap.get?_push_of_some _ (Heap.get?_push_of_some _ e))
      · cases r₂ with
        | error e => exact hr₂
        | ok fl₂ =>
          cases fl₂ with
          | ret r =>
            obtain ⟨rfl, h', tk, rfl, hS', hk'⟩ := hr₂
            repeat (any_goals (first | assumption | wp_step))
            exact h _ _ hS' hk'
          | _ => exact hr₂.elim
    | _ => exact hr.elim
set_option maxHeartbeats 8000000 in
theorem call_set_strT {l : Addr} {items : Array Value} {xs : List Str} {Q : Value → Shared → Prop} (hh : A.handled = none) (hl : s.heap.IsTuple l items) (hi : StrsAre items.toList xs) (hb : xs.length + 1 < scanBound)
    (h : ∀ (h' : Heap) (tk : Nat), h'.SetOf (PySem.strKind P w) s.heap.objs.size (fun j => decide (j ∈ xs)) (dn [] xs) → (∀ b o, s.heap.get? b = some o → h'.get? b = some o) → Q (.ref s.heap.objs.size) { s with heap := h', toks := tk }) :
    wpAny (model P w) A (call (.type "set") [.ref l]) Q E s := by
  have hsz : items.size = xs.length := by rw [← StrsAre.len_eq hi, Array.length_toList]
  obtain ⟨c, tl, hmro⟩ := F.called_set.mro
  have hmade := F.called_set.made
  have hsub := F.called_set.sub
  refine wpAny_call (codeAny_of_tree ?_)
  show wpAny _ _ (callAny (.type "set") _) _ _ _
  refine wpAny_pure ⟨Code.quiet_builtin _ (by decide +kernel), codeAny_builtin F.entry_type_call ?_⟩
  rw [Around.under_plain (weight_type_call_type "set" [.ref l] []) rfl]
  have h1 := F.called_set.notType
  have h2 := F.called_set.canCreate
  have hct := F.typeCall_set_1 (.ref l)
  repeat (any_goals (first | assumption | wp_step))

  refine codeAny_mono (code_set_new_1 (.ref l) (E := E) (Q₁ := fun obj s₁ => ∃ led : Bool, obj = .ref s.heap.objs.size ∧ s₁ = { s with heap := s.heap.push { cls := .type "set", dict := none, data := .set #[] 0 (.fresh 0 0 led) } }) fun led => ⟨led, rfl, rfl⟩) fun r s₁ hr => ?_
  cases r with
  | error e => exact hr
  | ok fl =>
    cases fl with
    | ret obj =>
      obtain ⟨led, rfl, rfl⟩ := hr
      have hS : (s.heap.push { cls := .type "set", dict := none, data := .set #[] 0 (.fresh 0 0 led) }).get? s.heap.objs.size = some { cls := .type "set", dict := none, data := .set #[] 0 (.fresh 0 0 led) } := Heap.get?_push_size _ rfl
      have hT : Shared.TypeIs { s with heap := s.heap.push { cls := .type "set", dict := none, data := .set #[] 0 (.fresh 0 0 led) } } (.ref s.heap.objs.size) "set" := ⟨_, hS, rfl⟩
      have hli := F.called_set.init.lookup
      have hbi := F.called_set.init.bind (.ref s.heap.objs.size)
      repeat (any_goals (first | assumption | wp_step))

      refine codeAny_mono (codeAny_call_builtin (R := wants (fun r s₂ => r = .none ∧ ∃ h' tk, s₂ = { s with heap := h', toks := tk } ∧
          h'.SetOf (PySem.strKind P w) s.heap.objs.size (fun j => decide (j ∈ xs)) (dn [] xs) ∧ (∀ b o, s.heap.get? b = some o → h'.get? b = some o)) E) F.called_set.init.plain F.entry_set_init (check_set_init_1 hT ?_)) fun r₂ s₂ hr₂ => ?_
      · obtain ⟨ol, hol, hcl, nl, hdl⟩ := hl
        obtain ⟨ocls, odict, odata, oslots⟩ := ol
        simp only at hcl hdl
        subst hcl; subst hdl
        have hol' : (s.heap.push { cls := .type "set", dict := none, data := .set #[] 0 (.fresh 0 0 led) }).get? l = some { cls := .type "tuple", dict := odict, data := .seq items nl, slots := oslots } := Heap.get?_push_of_some _ hol
        have hsls := F.sub_tuple_set
        have hslf := F.sub_tuple_frozenset
        have hne : (Value.type "tuple" == Value.type "dict") = false := by decide
        have hl1 : (s.heap.push { cls := .type "set", dict := none, data := .set #[] 0 (.fresh 0 0 led) }).IsTuple l items := ⟨_, hol', rfl, nl, rfl⟩
        unfold Builtin.«set.__init__» noKeywords Builtin.Frozenset.updateFrom
        generalize hPI : pyIter = PI
        wp_walk
        subst hPI
        refine wpAny_pyIter_tuple hl1 ?_
        refine wpAny_bind (wpAny_runValue ?_)
        have hlS : l < s.heap.objs.size := Heap.lt_size hol
        have hh3 : A.in1.in1.in1.handled = none := by simp [hh]
        have hneI : l ≠ (s.heap.push { cls := .type "set", dict := none, data := .set #[] 0 (.fresh 0 0 led) }).objs.size := by
          rw [Heap.size_push]; exact Nat.ne_of_lt (Nat.lt_succ_of_lt hlS)
        have hSf : s.heap.objs.size ∉ [(s.heap.push { cls := .type "set", dict := none, data := .set #[] 0 (.fresh 0 0 led) }).objs.size, l] := by
          rw [Heap.size_push]; simp only [List.mem_cons, List.mem_singleton, List.not_mem_nil, or_false, not_or]
          exact ⟨Nat.ne_of_lt (Nat.lt_succ_self _), Nat.ne_of_gt hlS⟩
        have hval : ∀ (i : Nat) (v : Value), items[i]? = some v → ∃ k t, xs[i]? = some k ∧ v = .str k t := fun i v hv => by
          have hi2 : i < xs.length := by rw [← hsz]; exact (Array.getElem?_eq_some_iff.mp hv).1
          obtain ⟨t, e⟩ := strs_at hi i v (by rw [Array.getElem?_toList]; exact hv)
          refine ⟨xs[i], t, List.getElem?_eq_getElem hi2, ?_⟩
          rw [e, List.getD_eq_getElem?_getD, List.getElem?_eq_getElem hi2] <;> rfl
        refine set_update_strs ((Walks.tuple hh3 _ l hneI items).toS) s.heap.objs.size hSf xs hsz (by rw [hsz]; exact hb) hval (items.size - 0) 0 0 _ (by omega) (Nat.zero_le _) (Nat.le_refl _)
          ⟨⟨_, Heap.get?_push_size _ rfl, rfl, rfl⟩, (hl1.push _)⟩ ?hS0 ?hR
        case hS0 =>
          have hget : ((s.heap.push { cls := .type "set", dict := none, data := .set #[] 0 (.fresh 0 0 led) }).push { cls := .type "tuple_iterator", data := .fields #[.ref l, .int 0 0] }).get? s.heap.objs.size
              = some { cls := .type "set", dict := none, data := .set #[] 0 (.fresh 0 0 led) } := Heap.get?_push_of_some _ hS
          exact SetOf_congr ((setObjOf_fresh (knd := PySem.strKind P w) led).setOf hget (by unfold scanBound; omega)) (fun j => by simp) rfl
        case hR =>
          intro s' hm hS'
          obtain ⟨h', g', d', tk', os'⟩ := s'
          have eg : g' = s.gens := hm.gens
          have ed : d' = s.drawn := hm.drawn
          have eo : os' = s.os := hm.os
          subst eg; subst ed; subst eo
          show wpAny _ _ _ _ _ _
          refine wpAny_pure ?_
          show wpAny _ _ (ret Value.none) _ _ _
          rw [List.take_zero, List.drop_zero, Nat.zero_add] at hS'
          refine wpAny_pure ⟨rfl, h', tk', rfl, hS', fun b o e => ?_⟩
          have hb0 : b < s.heap.objs.size := Heap.lt_size e
          have hb1 : b ≠ s.heap.objs.size := Nat.ne_of_lt hb0
          have hb2 : b ≠ (s.heap.push { cls := .type "set", dict := none, data := .set #[] 0 (.fresh 0 0 led) }).objs.size := by
            rw [Heap.size_push]; exact Nat.ne_of_lt (Nat.lt_succ_of_lt hb0)
          exact hm.heap b o (by simp only [List.mem_cons, List.mem_singleton, List.not_mem_nil, or_false, not_or]; exact ⟨hb1, hb2⟩) (Heap.get?_push_of_some _ (Heap.get?_push_of_some _ e))
      · cases r₂ with
        | error e => exact hr₂
        | ok fl₂ =>
          cases fl₂ with
          | ret r =>
            obtain ⟨rfl, h', tk, rfl, hS', hk'⟩ := hr₂
            repeat (any_goals (first | assumption | wp_step))
            exact h _ _ hS' hk'
          | _ => exact hr₂.elim
    | _ => exact hr.elim
end
section
variable {X : Cx}
def tLenSetS (K : PySem.W.Frag) (ta : TE) : TE := fun σ H Q => ta σ H fun x H1 => ∃ (l : Addr) (xs : List Str), x = .ref l ∧ (SqL K H1 l (xs.map V.str) ∨ SqT K H1 l (xs.map V.str)) ∧ xs.length ≤ 4000 ∧ Q (.int (dn [] xs : Nat)) H1
theorem pe_lenSetS {a : Expr} {ta : TE} {p p2 q pos : Pos} (hc : X.calm = true) (hg : Gl X "len") (hm : X.mg "len" = none) (hg2 : Gl X "set") (hm2 : X.mg "set" = none) (ha : PE X a ta)
    (na : starEach [a] X.env = (false, eval a X.env) :: starEach [] X.env := by rfl) : PE X (.Call (.Name "len" p) [.Call (.Name "set" p2) [a] [] q] [] pos) (tLenSetS X.K ta) := by
  refine ⟨fun pins s σ H Q I h => ?_⟩
  refine Call_ (ld_blt I hg hm boot_len ?_)
  refine PyProof.Rows.callWith_builtin1 (PyProof.Rows.args_cons ?_ rfl) rfl rfl
  refine Call_ (ld_blt I hg2 hm2 PyProof.Rows.boot_set ?_)
  refine PyProof.Rows.callWith_type1 (PyProof.Rows.args_cons (thn (ha.run pins s σ H _ I h) fun v s1 ⟨x, H1, I1, r1, q1⟩ => PyProof.Rows.args_nil ?_) na) na rfl
  obtain ⟨l, xs, rfl, hq, h1, q1⟩ := q1
  cases r1
  have hle := dn_le xs []
  have hb : xs.length + 1 < scanBound := by
    unfold scanBound
    omega
  have fin : ∀ (h' : Heap) (tk : Nat), h'.SetOf (PySem.strKind X.prog X.w) s1.heap.objs.size (fun j => decide (j ∈ xs)) (dn [] xs) → (∀ b o, s1.heap.get? b = some o → h'.get? b = some o) →
      wpAny (model X.prog X.w) X.A (spliced (backTo pos (starEach [] X.env))) (fun vs s₂ => wpAny (model X.prog X.w) X.A (call (.builtin "len") (Value.ref s1.heap.objs.size :: vs)) (EP X pins σ Q) X.xe s₂) X.xe { s1 with heap := h', toks := tk } := fun h' tk hS hk => by
    refine PyProof.Rows.args_nil ?_
    obtain ⟨o, es, ep, t, ho, hex, hd, _, _, _, hf, hn⟩ := hS
    have I2 : Inv X pins σ H1 { s1 with heap := h', toks := tk } := I1.kept fun b o e => hk b o e
    exact call_len_set ho hex hd hf (by rw [hn]; omega) ⟨.int (dn [] xs : Nat), H1, I2.tok _, ⟨_, by rw [hn]⟩, q1⟩
  rcases hq with hq | hq
  · obtain ⟨its, r, pl, hz⟩ := I1.list hq
    exact call_set_strL (I1.ok.hd hc) pl.isList (by simpa using strsAre_of r) hb fin
  · obtain ⟨its, r, pl, hz⟩ := I1.tuple hq
    exact call_set_strT (I1.ok.hd hc) pl (by simpa using strsAre_of r) hb fin
end
end EX
set_option Elab.async false
set_option linter.all false
set_option maxRecDepth 100000
set_option maxHeartbeats 1000000
/-! yield from a list -/
namespace EX
open PySem PySem.Spec PyProof.Rows GenW L2
section
variable {prog : Program} {w : World} {A : Around} {E : Value → Shared → Prop} {s : Shared}
theorem special_lst_item {it t : Addr} {i : Nat} {items : Array Value} {x : Value} {Q : Option Value → Shared → Prop} (hit : s.heap.IsListIter it t i) (ht : s.heap.IsList t items) (hx : items[i]? = some x)
    (hQ : ∀ h', Heap.IsListIter h' it t (i + 1) → Heap.SameBut it s.heap h' → Q (some x) { s with heap := h' }) : wpAny (model prog w) A (callSpecial? (.ref it) "__next__") Q E s := by
  obtain ⟨o, ho, hc, hd⟩ := id hit
  obtain ⟨ol, hol, _, nl, hdl⟩ := ht
  refine wpAny_callSpecial?_slot (name := Str.ofString "__next__") hit.typeIs slot_listiter_next (wpAny_call_entry slot_listiter_next hit.typeIs entry_listiter_next ?_ (args_listiter_next _))
  show wpAny _ _ (field (.ref it) 0 >>= _) _ _ s
  refine wpAny_bind (wpAny_field ho hd (x := .ref t) rfl ?_)
  show wpAny _ _ (if (Value.ref t == Value.none) = true then _ else _) _ _ s
  rw [if_neg (show ¬ ((Value.ref t == Value.none) = true) from Bool.false_ne_true)]
  show wpAny _ _ (field (.ref it) 1 >>= _) _ _ s
  refine wpAny_bind (wpAny_field ho hd (x := .int i 0) rfl ?_)
  show wpAny _ _ (seqItems? (.ref t) >>= _) _ _ s
  refine wpAny_bind (wpAny_seqItems hol hdl ?_)
  simp only [Int.toNat_natCast, hx]
  refine wpAny_bind (wpAny_setField ho hd (by simp) (wpAny_pure ⟨x, rfl, hQ _ ?_ (Heap.SameBut.update ..)⟩))
  exact ⟨_, Heap.get?_update_self _ ho (Obj.isFreed_of_fields (Obj.data_mapFields hd _)), (Obj.cls_mapFields ..).trans hc, by
    rw [Obj.data_mapFields hd]; simp [rawInt]⟩
theorem special_lst_end {it t : Addr} {i : Nat} {items : Array Value} {Q : Option Value → Shared → Prop} (hh : A.handled = none) (hit : s.heap.IsListIter it t i) (ht : s.heap.IsList t items) (hx : items[i]? = none)
    (hE : ∀ e h', StopX e h' → Heap.ExtBut it s.heap h' → E e { s with heap := h' }) : wpAny (model prog w) A (callSpecial? (.ref it) "__next__") Q E s := by
  obtain ⟨o, ho, hc, hd⟩ := id hit
  obtain ⟨ol, hol, _, nl, hdl⟩ := ht
  refine wpAny_callSpecial?_slot (name := Str.ofString "__next__") hit.typeIs slot_listiter_next (wpAny_call_entry slot_listiter_next hit.typeIs entry_listiter_next ?_ (args_listiter_next _))
  show wpAny _ _ (field (.ref it) 0 >>= _) _ _ s
  refine wpAny_bind (wpAny_field ho hd (x := .ref t) rfl ?_)
  show wpAny _ _ (if (Value.ref t == Value.none) = true then _ else _) _ _ s
  rw [if_neg (show ¬ ((Value.ref t == Value.none) = true) from Bool.false_ne_true)]
  show wpAny _ _ (field (.ref it) 1 >>= _) _ _ s
  refine wpAny_bind (wpAny_field ho hd (x := .int i 0) rfl ?_)
  show wpAny _ _ (seqItems? (.ref t) >>= _) _ _ s
  refine wpAny_bind (wpAny_seqItems hol hdl ?_)
  simp only [Int.toNat_natCast, hx]
  refine wpAny_bind (wpAny_rule (wpAny_bind (wpAny_setField ho hd (by simp) ?_)))
  show wpAny _ _ (newExc (.type "StopIteration") [] >>= _) _ _ _
  refine wpAny_bind ?_
  simp only [newExc, newTuple]
  refine wpAny_bind (wpAny_newObj_type ?_ (by size_fits))
  refine wpAny_bind (m := firstArgMember _ _) (wpAny_of_eq (a := Value.none) (by first | rfl | (simp only [firstArgMember]; rfl)) ?_)
  refine wpAny_newObj_type ?_ (by size_fits)
  simp only [raiseNew]
  refine wpAny_bind (wpAny_handled ?_)
  first | rw [show A.in1.handled = none from hh] | rw [hh]
  refine wpAny_bind (wpAny_pure (wpAny_throw ?_))
  refine hE _ _ ⟨_, _, _, rfl, Heap.get?_push_size _ rfl, rfl, rfl, ?_⟩ (((Heap.SameBut.update ..).extBut.push _).push _)
  first
    | rfl
    | (rw [Array.getElem?_append_left (by decide)]; rfl)
    | kernel_rfl
end
section
variable {X : Cx} {e : Expr} {te : TE}
def tYfLst (te : TE) : TYf := fun σ H Q => te σ H fun x H1 => ∃ a xs, x = .ref a ∧ H1 a = some (.lst xs) ∧ Q xs H1
theorem close_lst : typeLookup (.type "list_iterator") "close" = pure none := by rw [typeLookup_type, builtinLookup_eq_fast]; kernel_rfl
theorem yf_lst (he : PE X e te) : YfE X e (tYfLst te) := by
  refine ⟨fun pins s σ H Q I h => ?_⟩
  refine thn (he.run pins s σ H _ I h) fun v s1 ⟨x, H1, I1, r1, a, xs, ex, ha, hq⟩ => ?_
  subst ex
  obtain rfl : v = Value.ref a := r1
  obtain ⟨hlen, its, nn, rits, hta⟩ := I1.hok a _ ha
  have ht : s1.heap.IsList a its.toArray := ⟨_, hta, rfl, _, rfl⟩
  refine ⟨"list", ht.typeIs, by decide, wpAny_pyIter_list ht ?_⟩
  have ksz : ∀ b o, s1.heap.get? b = some o → b ≠ s1.heap.objs.size := fun b o e => Nat.ne_of_lt (Heap.lt_size e)
  have kp : ∀ b o, s1.heap.get? b = some o → (s1.heap.push { cls := .type "list_iterator", data := .fields #[.ref a, .int 0 0] }).get? b = some o := fun b o e => Heap.get?_push_of_some _ e
  refine ⟨s1.heap.objs.size, H1, xs, fun j h => h.IsListIter s1.heap.objs.size a j ∧ h.IsList a its.toArray, rfl, I1.kept (t' := s1.toks) kp, .inr I1.sz, Nat.ne_of_gt I1.lt, fun y c hy => ?_, I1.hok.fresh (Nat.le_refl _), fun p hp => ?_,
    ⟨⟨_, Heap.get?_push_size _ rfl, rfl, rfl⟩, ht.push _⟩, ⟨⟨"list_iterator", fun j h q => ?_, close_lst, by decide⟩, fun j h h' q hk => ?_, fun A' j x s2 Q' E' hA hx q hQ => ?_, fun A' s2 Q' E' hA q hE => ?_⟩, hq⟩
  · obtain ⟨v, o, ho, _⟩ := I1.cell y c hy
    exact ksz c o ho
  · exact ksz p.1 _ (I1.pin p hp).1
  · obtain ⟨⟨o, ho, hc, _⟩, _⟩ := q
    exact ⟨o, ho, hc⟩
  · obtain ⟨⟨o, ho, r⟩, o2, ho2, r2⟩ := q
    exact ⟨⟨o, hk _ o (.inl rfl) ho, r⟩, o2, hk _ o2 (.inr (by rw [ha]; exact fun z => by cases z)) ho2, r2⟩
  · obtain ⟨q1, q2⟩ := q
    obtain ⟨u, hu, ru⟩ := rits.get hx
    have hne : a ≠ s1.heap.objs.size := Nat.ne_of_lt (Heap.lt_size hta)
    exact special_lst_item q1 q2 (x := u) (by simpa using hu) fun h' q1' hs => hQ u h' s2.toks ru ⟨q1', q2.extBut hs.extBut hne⟩ fun b o hb eb => hs.extBut b o hb eb
  · obtain ⟨q1, q2⟩ := q
    have hnone : its.toArray[xs.length]? = none := by
      have e := rits.length
      have e2 : its[xs.length]? = none := List.getElem?_eq_none_iff.mpr (by omega)
      simpa using e2
    exact special_lst_end hA q1 q2 hnone fun e h' hS hk => hE e h' s2.toks hS fun b o hb eb => hk b o hb eb
end
end EX
set_option Elab.async false
set_option maxRecDepth 100000
set_option maxHeartbeats 4000000
namespace K01
open PySem L2
def top (i : Nat) : Stmt := PySem.Challenge.pw_slackcache_k01_nets_and_keys.main.body.getD i (.Pass ⟨0, 0, 0, 0⟩)
abbrev sSource : Stmt := top 37
abbrev sDraw : Stmt := top 38
def M : Int := 2147483647
/-- what a source may hold -/
def SrcOk (x y : Int) : Prop := 0 ≤ x ∧ 0 ≤ y ∧ y < 2147483647
structure TxtC (mg : Str → Option Value) : Prop where
  len : mg "len" = none
  max : mg "max" = none
def spSource (K : PySem.W.Frag) : Sp := fun vs H Q _ => ∃ (a : Addr) (ns : List Int) (j : Nat), vs = [.ref a, .int (j : Int)] ∧ SqL K H a (ns.map V.int) ∧ j ≤ 1000 ∧
  ∀ p x y, H p = none → SrcOk x y → Q (.ref p) (upd H p (.lst [.int x, .int y]))
def spDraw : Sp := fun vs H Q _ => ∃ (p : Addr) (x y n : Int), vs = [.ref p, .int n] ∧ H p = some (.lst [.int x, .int y]) ∧ SrcOk x y ∧ 0 < n ∧ n < 2 ^ 100 ∧
  ∀ x' y' d, SrcOk x' y' → 0 ≤ d → d < n → Q (.int d) (upd H p (.lst [.int x', .int y']))
section
variable {P : Program} {w : World} {K : PySem.W.Frag} {mg : Str → Option Value} {base : Heap}
theorem scS : FnScope ["_law_script", "_law_turn", "_law_cell", "_law_number", "_law_seed"] ["_law_script", "_law_turn"] (defScope sSource) := ⟨rfl, rfl, rfl, by decide +kernel, rfl, by decide +kernel, by decide +kernel⟩
theorem scD : FnScope ["_law_source_here", "_law_amount", "_law_digit"] ["_law_source_here", "_law_amount"] (defScope sDraw) := ⟨rfl, rfl, rfl, by decide +kernel, rfl, by decide +kernel, by decide +kernel⟩
local macro_rules | `(tactic| walk_at "rd") => `(tactic| simp only [tSeq, tAsg, tOp, tC, tVar, tCB, tCons, tNil, tUn, tIfS, tTest, tNext, tRet, tLst, gName, gSub, rI0, rI, rU, L2.start, List.map_cons, List.map_nil, List.length_cons, List.length_nil, Nat.reduceAdd, Nat.reduceSub, List.replicate_succ, List.replicate_zero, List.cons_append, List.nil_append, List.set_cons_zero, List.set_cons_succ, List.getElem?_cons_zero, List.getElem?_cons_succ, Option.some.injEq, exists_eq_left', exists_eq_left, V.int.injEq, V.bl.injEq, V.ref.injEq, List.cons.injEq, and_true, true_and, and_assoc, exists_and_left, exists_eq', exists_const, decide_eq_true_eq, Cx.nox, Cx.wish])
set_option linter.all false
theorem ok_source {f : Addr} {fd : FuncData} (F : Fun K "_law_source" "_law_source" sSource f fd) (T : TxtC mg) : FnOk P w K mg base CX0 1 f fd ["_law_script", "_law_turn"] (spSource K) := by
  refine F.ok scS (fun vs H Q E h => ?_) (fun cdv A outer s H vs Q E hr h => ?_)
  · obtain ⟨a, ns, j, rfl, _⟩ := h
    rfl
  · obtain ⟨a, ns, j, rfl, hS, hj, k⟩ := h
    have hu := hu_of hr
    refine ⟨_, pss_cons (ps_set (i := 2) scS.nd rfl (Or.inl rfl) pe_int)
      (pss_cons (ps_if (pt_cmpR op_lt (pv 1) (pe_callB call_len_seq (by rfl) T.len PySem.boot_len (pa_cons (pv 0) pa_nil)) (nomark _))
         (pss_one (ps_set (i := 2) scS.nd rfl (Or.inl rfl) (pe_ix ix_list (pv 0) (pv 1) (fun _ _ => rfl)))) pss_nil)
      (pss_cons (ps_set (i := 3) scS.nd rfl (Or.inl rfl) (pe_callB (call_max2 rfl) (by rfl) T.max PyProof.Rows.boot_max (pa_cons (pv 2) (pa_cons (pe_op op_sub (pe_un un_neg pe_int) (pv 2)) pa_nil))))
      (pss_cons (ps_set (i := 4) scS.nd rfl (Or.inl rfl) (pe_op op_mod (pe_op op_add (pe_op op_add (pe_op op_mul (pe_op op_mod (pv 3) pe_int) pe_int) (pe_op op_mul pe_int (pv 1))) pe_int) pe_int))
      (pss_cons (ps_if (pt_cmpR op_lt (pv 3) (pe_op op_pow pe_int pe_int) (nomark _)) (pss_one (ps_set (i := 3) scS.nd rfl (Or.inl rfl) pe_int)) pss_nil)
      (pss_one (ps_ret (pe_lst (pa_cons (pv 3) (pa_cons (pv 4) pa_nil))))))))), ?_⟩
    walk_at "rd"
    have fin : ∀ (c : Int) (H1 : Hp), H1 = H →
        0 < (2147483629 : Int) ∧ CMul ((if -1 - c > c then -1 - c else c) % 2147483629) 16807 ∧ CMul 104729 (j : Int) ∧ (0 : Int) < 2147483647 ∧ CPow 10 18 ∧
        if (if -1 - c > c then -1 - c else c) < 10 ^ Int.toNat 18 then
          2 ≤ sizeLine ∧ ∀ p, H1 p = none → Q (V.ref p) (upd H1 p (HO.lst [V.int 0, V.int (((if -1 - c > c then -1 - c else c) % 2147483629 * 16807 + 104729 * (j : Int) + 11) % 2147483647)]))
        else 2 ≤ sizeLine ∧ ∀ p, H1 p = none → Q (V.ref p) (upd H1 p (HO.lst [V.int (if -1 - c > c then -1 - c else c), V.int (((if -1 - c > c then -1 - c else c) % 2147483629 * 16807 + 104729 * (j : Int) + 11) % 2147483647)])) := by
      rintro c H1 rfl
      have hm : 0 ≤ (if -1 - c > c then -1 - c else c) := by split <;> omega
      generalize (if -1 - c > c then -1 - c else c) = m at hm
      refine ⟨by decide, Or.inr ⟨by decide, by decide⟩, Or.inl ⟨by decide, by decide⟩, by decide, ⟨by decide, by decide, by decide⟩, ?_⟩
      have hs0 := Int.emod_nonneg (m % 2147483629 * 16807 + 104729 * (j : Int) + 11) (show (2147483647 : Int) ≠ 0 by decide)
      have hs1 := Int.emod_lt_of_pos (m % 2147483629 * 16807 + 104729 * (j : Int) + 11) (show (0 : Int) < 2147483647 by decide)
      split
      · exact ⟨by decide, fun p hp => k p _ _ hp ⟨by decide, hs0, hs1⟩⟩
      · exact ⟨by decide, fun p hp => k p _ _ hp ⟨hm, hs0, hs1⟩⟩
    refine ⟨_, .inl hS, ?_⟩
    split
    · rename_i hlt
      have hlt' : j < (ns.map V.int).length := by omega
      refine ⟨a, _, _, _, rfl, rfl, hS, atI_nat (List.getElem?_eq_getElem hlt'), ?_⟩
      have e : (ns.map V.int)[j] = V.int (ns[j]'(by simpa using hlt')) := by simp
      rw [e]
      walk_at "rd"
      exact fin _ _ rfl
    · exact fin 0 _ rfl
theorem ok_draw {f : Addr} {fd : FuncData} (F : Fun K "_law_draw" "_law_draw" sDraw f fd) : FnOk P w K mg base CX0 1 f fd ["_law_source_here", "_law_amount"] spDraw := by
  refine F.ok scD (fun vs H Q E h => ?_) (fun cdv A outer s H vs Q E hr h => ?_)
  · obtain ⟨p, x, y, n, rfl, _⟩ := h
    rfl
  · obtain ⟨p, x, y, n, rfl, hL, ⟨hx, hy, hy2⟩, hn, hn2, k⟩ := h
    have hu := hu_of hr
    refine ⟨_, pss_cons (ps_if (pt_cmpR op_gt (pe_ix ix_list (pv 0) pe_int (fun _ _ => rfl)) pe_int (nomark _))
        (pss_cons (ps_set (i := 2) scD.nd rfl (Or.inl rfl) (pe_op op_mod (pe_ix ix_list (pv 0) pe_int (fun _ _ => rfl)) (pv 1)))
        (pss_cons (ps_asg (pe_op op_fdivW (pe_ix ix_list (pv 0) pe_int (fun _ _ => rfl)) (pv 1)) (pg_sub (pv 0) pe_int set_list))
        (pss_one (ps_ret (pv 2))))) pss_nil)
      (pss_cons (ps_asg (pe_op op_mod (pe_op op_add (pe_op op_mul (pe_ix ix_list (pv 0) pe_int (fun _ _ => rfl)) pe_int) pe_int) pe_int) (pg_sub (pv 0) pe_int set_list))
      (pss_one (ps_ret (pe_op op_mod (pe_op op_fdivW (pe_op op_mod (pe_op op_mul (pe_ix ix_list (pv 0) pe_int (fun _ _ => rfl)) (pe_ix ix_list (pv 0) pe_int (fun _ _ => rfl))) pe_int) pe_int) (pv 1))))), ?_⟩
    have hS : SqL K H p [.int x, .int y] := SqL.of hL
    have r0 : ∀ (H' : Hp) (x y : Int) (Q' : V → Hp → Prop), H' p = some (.lst [.int x, .int y]) → Q' (.int x) H' → rIxL K (V.ref p) (V.int 0) H' Q' := fun H' x y Q' h q =>
      ⟨p, _, _, _, rfl, rfl, SqL.of h, atI_nat (j := 0) rfl, q⟩
    have r1 : ∀ (H' : Hp) (x y : Int) (Q' : V → Hp → Prop), H' p = some (.lst [.int x, .int y]) → Q' (.int y) H' → rIxL K (V.ref p) (V.int 1) H' Q' := fun H' x y Q' h q =>
      ⟨p, _, _, _, rfl, rfl, SqL.of h, atI_nat (j := 1) rfl, q⟩
    have w0 : ∀ (H' : Hp) (x y : Int) (v : V) (Q' : Hp → Prop), H' p = some (.lst [.int x, .int y]) → Q' (upd H' p (.lst [v, .int y])) → rSetL (V.ref p) (V.int 0) v H' Q' := fun H' x y v Q' h q =>
      ⟨p, _, _, _, rfl, rfl, h, rfl, q⟩
    have w1 : ∀ (H' : Hp) (x y : Int) (v : V) (Q' : Hp → Prop), H' p = some (.lst [.int x, .int y]) → Q' (upd H' p (.lst [.int x, v])) → rSetL (V.ref p) (V.int 1) v H' Q' := fun H' x y v Q' h q =>
      ⟨p, _, _, _, rfl, rfl, h, rfl, q⟩
    have hb : n.natAbs < 2 ^ 100 := by omega
    walk_at "rd"
    refine r0 _ _ _ _ hL ?_
    walk_at "rd"
    split
    · rename_i hpos
      refine r0 _ _ _ _ hL ?_
      walk_at "rd"
      refine ⟨hn, r0 _ _ _ _ hL ?_⟩
      walk_at "rd"
      refine ⟨wide_div hn hb (by decide) (by decide), w0 _ _ _ _ _ hL ?_⟩
      exact k _ _ _ ⟨Int.ediv_nonneg hx (by omega), hy, hy2⟩ (Int.emod_nonneg _ (by omega)) (Int.emod_lt_of_pos _ hn)
    · refine r1 _ _ _ _ hL ?_
      walk_at "rd"
      refine ⟨Or.inr ⟨by decide, by decide⟩, by decide, w1 _ _ _ _ _ hL ?_⟩
      have hs0 := Int.emod_nonneg (y * 48271 + 11) (show (2147483647 : Int) ≠ 0 by decide)
      have hs1 := Int.emod_lt_of_pos (y * 48271 + 11) (show (0 : Int) < 2147483647 by decide)
      generalize (y * 48271 + 11) % 2147483647 = z at hs0 hs1
      refine r1 _ x z _ upd_same (r1 _ x z _ upd_same ?_)
      walk_at "rd"
      refine ⟨Or.inr ⟨by omega, by omega⟩, by decide, ⟨by decide, by decide⟩, hn, ?_⟩
      exact k _ _ _ ⟨hx, hs0, hs1⟩ (Int.emod_nonneg _ (by omega)) (Int.emod_lt_of_pos _ hn)
end
end K01
set_option Elab.async false
set_option linter.all false
set_option maxRecDepth 100000
set_option maxHeartbeats 4000000
namespace K01
open PySem L2 EX PyProof.Rows LamX
structure Bn (mg : Str → Option Value) : Prop where
  range : mg "range" = none
  max : mg "max" = none
  min : mg "min" = none
  len : mg "len" = none
  all : mg "all" = none
  isi : mg "isinstance" = none
  tuple : mg "tuple" = none
  list : mg "list" = none
  set : mg "set" = none
  int : mg "int" = none
  bool : mg "bool" = none
  str : mg "str" = none
  sorted : mg "sorted" = none
  repr : mg "repr" = none
  lw : ∃ t, mg "LONGEST_WORD" = some (.int 8 t)
  mk4 : ∃ t, mg "MOST_KEYS" = some (.int 4 t)
  st : ∃ t, mg "STORE" = some (.str "store" t)
  mw : ∃ t, mg "MOST_WAITING" = some (.int 20 t)
/-! ### words -/
def isW (s : Str) : Bool := !decide (8 < (s.length : Int)) && (Txt.isascii s && (Txt.isalpha s && Txt.islower s))
def isWv : V → Bool
  | .str s => isW s
  | _ => false
/-- what may lie in a list that is asked about -/
def ItemOk (x : V) : Prop := (∃ s : Str, x = .str s ∧ s.length ≤ sizeLine) ∨ x = .non ∨ ∃ n : Int, x = .int n
def spWord : Sp := fun vs H Q _ => ∃ x : V, vs = [x] ∧ ItemOk x ∧ Q (.bl (isWv x)) H
abbrev sWrd : Stmt := top 21
theorem scWrd : FnScope ["obj"] ["obj"] (defScope sWrd) := ⟨rfl, rfl, rfl, by decide +kernel, rfl, by decide +kernel, by decide +kernel⟩
section
variable {P : Program} {w : World} {K : PySem.W.Frag} {mg : Str → Option Value} {base : Heap}
theorem ok_word {f : Addr} {fd : FuncData} (F : Fun K "is_word" "is_word" sWrd f fd) (B : Bn mg) : FnOk P w K mg base CX0 1 f fd ["obj"] spWord := by
  refine F.ok scWrd (fun vs H Q E h => ?_) (fun cdv A outer s H vs Q E hr h => ?_)
  · obtain ⟨x, rfl, _⟩ := h
    rfl
  · obtain ⟨x, rfl, hx, k⟩ := h
    refine ⟨_, (pss_cons (ps_if (PW.pt (pw_or (pt_not (pt_val (pe_callB call_isi (by rfl) B.isi PyProof.Rows.boot_isinstance (pa_cons (pv 0) (pa_cons (pe_bltn (v := .ty "str") (by rfl) B.str (by decide +kernel) rfl) pa_nil))))) (pw_or1 (pt_cmpR op_gt (pe_callB call_len_str (by rfl) B.len PySem.boot_len (pa_cons (pv 0) pa_nil)) (pe_glob (v := .int _) (by rfl) B.lw.choose_spec ⟨_, rfl⟩) (nomark _))))) (pss_one (ps_ret pe_bl)) pss_nil)
        (pss_one (ps_ret (pe_and (pe_m0 PySem.F.slot_str_isascii PySem.F.type_str_isascii mt_isascii (pv 0)) (pe_and (pe_m0 PySem.F.slot_str_isalpha PySem.F.type_str_isalpha mt_isalpha (pv 0)) (pe_one (pe_m0 PySem.F.slot_str_islower PySem.F.type_str_islower mt_islower (pv 0)))))))), ?_⟩
    rcases hx with ⟨x, rfl, hz⟩ | rfl | ⟨n, rfl⟩
    · refine ⟨_, rfl, _, _, _, _, true, rfl, .ty _, .base (.str _), kit_ty (by decide +kernel), _, rfl, iteF ?_⟩
      refine ⟨_, rfl, x, rfl, hz, _, _, rfl, rfl, _, rfl, ite2 (fun h => ?_) (fun h => ?_)⟩
      · have k : Q (.bl (isW x)) H := k
        unfold isW at k
        rw [h, Bool.not_true, Bool.false_and] at k
        exact k
      · have k : Q (.bl (isW x)) H := k
        unfold isW at k
        rw [show decide (8 < (x.length : Int)) = false by simpa using h, Bool.not_false, Bool.true_and] at k
        refine ⟨_, rfl, ⟨_, rfl⟩, _, rfl, rfl, trivial, _, rfl, ite2 (fun h1 => ?_) (fun h1 => ?_)⟩
        · rw [h1, Bool.true_and] at k
          refine ⟨_, rfl, ⟨_, rfl⟩, _, rfl, rfl, trivial, _, rfl, ite2 (fun h2 => ?_) (fun h2 => ?_)⟩
          · rw [h2, Bool.true_and] at k
            exact ⟨_, rfl, ⟨_, rfl⟩, _, rfl, rfl, trivial, k⟩
          · rw [show Txt.isalpha x = false by simpa using h2, Bool.false_and] at k
            exact k
        · rw [show Txt.isascii x = false by simpa using h1, Bool.false_and] at k
          exact k
    · exact ⟨_, rfl, _, _, _, _, false, rfl, .ty _, .base .non, kit_ty (by decide +kernel), _, rfl, iteT k⟩
    · exact ⟨_, rfl, _, _, _, _, false, rfl, .ty _, .base (.int _), kit_ty (by decide +kernel), _, rfl, iteT k⟩
end
theorem isW_len {x : Str} (h : isW x = true) : x.length ≤ sizeLine := by
  unfold isW at h
  rw [Bool.and_eq_true] at h
  have h1 := h.1
  simp at h1
  rw [sizeLine_eq]
  omega
abbrev strV (o : List Str) : List V := o.map V.str
theorem strV_get {o : List Str} {i : Nat} {x : V} (h : (strV o)[i]? = some x) : ∃ s, x = .str s ∧ o[i]? = some s := by
  rw [List.getElem?_map] at h
  cases e : o[i]? with
  | none => rw [e] at h; cases h
  | some s => rw [e] at h; exact ⟨s, (Option.some.inj h).symm, rfl⟩
theorem tyx_lst {K : PySem.W.Frag} {H : Hp} {a : Addr} {xs : List V} (h : SqL K H a xs) : TyX K H (.ref a) (.type "list") := by
  rcases h with (h | ⟨o, h⟩) | ⟨o, its, n, h1, h2, _⟩
  · exact .base (.lst h)
  · exact .base (.frz h)
  · exact .kList h1 h2
theorem tyx_tup {K : PySem.W.Frag} {H : Hp} {a : Addr} {xs : List V} (h : SqT K H a xs) : TyX K H (.ref a) (.type "tuple") := by
  rcases h with (h | ⟨o, h⟩) | ⟨o, its, n, h1, h2, _⟩
  · exact .base (.tup h)
  · exact .fTuple h
  · exact .kTuple h1 h2
/-- a list or a tuple -/
abbrev SqE (K : PySem.W.Frag) (H : Hp) (a : Addr) (xs : List V) : Prop := SqL K H a xs ∨ SqT K H a xs
theorem SqE.mono {K : PySem.W.Frag} {H H' : Hp} {a : Addr} {xs : List V} (s : Same H H') (h : SqE K H a xs) : SqE K H' a xs := h.elim (fun h => .inl (s.seq h)) fun h => .inr (sqt_same s h)
/-! ### keys -/
/-- the texts of a list of texts -/
def txs : List V → List Str
  | .str s :: r => s :: txs r
  | _ => []
theorem txs_all : ∀ {xs : List V}, (∀ x ∈ xs, isWv x = true) → strV (txs xs) = xs
  | [], _ => rfl
  | .str s :: r, h => by
    show V.str s :: strV (txs r) = _
    rw [txs_all (xs := r) fun x hx => h x (.tail _ hx)]
  | .non :: r, h => by cases h _ (.head _)
  | .bl b :: r, h => by cases h _ (.head _)
  | .int n :: r, h => by cases h _ (.head _)
  | .flt n :: r, h => by cases h _ (.head _)
  | .byt n :: r, h => by cases h _ (.head _)
  | .ty n :: r, h => by cases h _ (.head _)
  | .ref n :: r, h => by cases h _ (.head _)
def goodK (xs : List V) : Bool := (decide ((1 : Int) ≤ (xs.length : Nat)) && decide (((xs.length : Nat) : Int) ≤ 4)) && (xs.all isWv && decide (dn [] (txs xs) = xs.length))
/-- neither a list nor a tuple -/
def NotSeq (H : Hp) (x : V) : Prop := x = .non ∨ (∃ s, x = .str s) ∨ ∃ d kvs, x = .ref d ∧ H d = some (.dK kvs)
theorem NotSeq.mono {H H' : Hp} (s : Same H H') {x : V} (h : NotSeq H x) : NotSeq H' x := h.imp id (Or.imp id fun ⟨d, kvs, e, h⟩ => ⟨d, kvs, e, s _ _ h⟩)
theorem NotSeq.ty {K : PySem.W.Frag} {H : Hp} {x : V} (h : NotSeq H x) : ∃ t : String, TyX K H x (.type t) ∧ PySem.W.kitAny K (.type t) [.type "list", .type "tuple"] = some false := by
  rcases h with rfl | ⟨s, rfl⟩ | ⟨d, kvs, rfl, h⟩
  · exact ⟨_, .base .non, kitAny_cons (b := false) (kit_ty (by decide +kernel)) (fun _ => kitAny_cons (b := false) (kit_ty (by decide +kernel)) (fun _ => rfl) (fun z => absurd z (by decide))) (fun z => absurd z (by decide))⟩
  · exact ⟨_, .base (.str _), kitAny_cons (b := false) (kit_ty (by decide +kernel)) (fun _ => kitAny_cons (b := false) (kit_ty (by decide +kernel)) (fun _ => rfl) (fun z => absurd z (by decide))) (fun z => absurd z (by decide))⟩
  · exact ⟨_, .base (.dK h), kitAny_cons (b := false) (kit_ty (by decide +kernel)) (fun _ => kitAny_cons (b := false) (kit_ty (by decide +kernel)) (fun _ => rfl) (fun z => absurd z (by decide))) (fun z => absurd z (by decide))⟩
theorem seq_ty {K : PySem.W.Frag} {H : Hp} {a : Addr} {xs : List V} (h : SqE K H a xs) : ∃ t : String, TyX K H (.ref a) (.type t) ∧ PySem.W.kitAny K (.type t) [.type "list", .type "tuple"] = some true := by
  rcases h with h | h
  · exact ⟨_, tyx_lst h, kitAny_cons (b := true) (kit_ty (by decide +kernel)) (fun z => absurd z (by decide)) (fun _ => rfl)⟩
  · exact ⟨_, tyx_tup h, kitAny_cons (b := false) (kit_ty (by decide +kernel)) (fun _ => kitAny_cons (b := true) (kit_ty (by decide +kernel)) (fun z => absurd z (by decide)) (fun _ => rfl)) (fun z => absurd z (by decide))⟩
/-- what is asked to be keys: a list or tuple, or none -/
def KeyArg (K : PySem.W.Frag) (H : Hp) (x : V) (b : Bool) : Prop := (∃ a xs, x = .ref a ∧ SqE K H a xs ∧ xs.length ≤ 1000 ∧ (∀ y ∈ xs, ItemOk y) ∧ b = goodK xs) ∨ (NotSeq H x ∧ b = false)
theorem KeyArg.mono {K : PySem.W.Frag} {H H' : Hp} (s : Same H H') {x : V} {b : Bool} (h : KeyArg K H x b) : KeyArg K H' x b := h.imp (fun ⟨a, xs, e, h1, h2⟩ => ⟨a, xs, e, h1.mono s, h2⟩) fun ⟨h1, h2⟩ => ⟨h1.mono s, h2⟩
def spKeys (K : PySem.W.Frag) : Sp := fun vs H Q _ => ∃ (x : V) (b : Bool), vs = [x] ∧ KeyArg K H x b ∧ ∀ H', Same H H' → Q (.bl b) H'
abbrev sKey : Stmt := top 22
def sKeyN : List Str := ["obj", "item"]
theorem scKey : FnScope ["obj", "item"] ["obj"] (defScope sKey) := ⟨rfl, rfl, rfl, by decide +kernel, rfl, by decide +kernel, by decide +kernel⟩
section
variable {P : Program} {w : World} {K : PySem.W.Frag} {mg : Str → Option Value} {base : Heap}
theorem ok_keys {f : Addr} {fd : FuncData} (F : Fun K "are_keys" "are_keys" sKey f fd) (B : Bn mg) (GW : DefAt P w K mg base 1 "is_word" ["obj"] spWord) : FnOk P w K mg base CX0 2 f fd ["obj"] (spKeys K) := by
  refine F.ok scKey (fun vs H Q E h => ?_) (fun cdv A outer s H vs Q E hr h => ?_)
  · obtain ⟨x, b, rfl, _⟩ := h
    rfl
  · obtain ⟨x, b, rfl, hx, k⟩ := h
    have hr1 : Room 1 _ := hr
    rcases hx with ⟨a, xs, rfl, ho, hl, hi, rfl⟩ | ⟨hn, rfl⟩
    · rcases ho with ho | ho
      · refine ⟨_, (pss_cons (ps_if (PW.pt (pw_or (pt_not (pt_val (pe_callB call_isiT (by rfl) B.isi PyProof.Rows.boot_isinstance (pa_cons (pv 0) (pa_cons (pe_tup (pa_cons (pe_bltn (v := .ty "list") (by rfl) B.list (by decide +kernel) rfl) (pa_cons (pe_bltn (v := .ty "tuple") (by rfl) B.tuple (by decide +kernel) rfl) pa_nil))) pa_nil))))) (pw_or1 (pt_not (pt_chain op_le op_le pe_int (pe_callB call_len_seq (by rfl) B.len PySem.boot_len (pa_cons (pv 0) pa_nil)) (pe_glob (v := .int _) (by rfl) B.mk4.choose_spec ⟨_, rfl⟩)))))) (pss_one (ps_ret pe_bl)) pss_nil)
          (pss_cons (ps_if (pt_not (pt_val (pe_callB (cr_all rfl) (by rfl) B.all (by decide +kernel) (pa_cons (pe_lc (own := [("item", 1)]) (g := (gName 1)) (tt := tYes) (te := tCall spWord [] E0 (tCons (tVar 1) tNil)) rfl scKey.nd (pi_list (pv 0)) (blkOk_by (N := sKeyN) (sc := defScope sKey) (by decide +kernel)) (fun _ _ _ _ _ => (pg_name (i := 1) scKey.nd rfl (Or.inl rfl))) (fun _ _ _ _ _ => pts_nil) (fun _ _ _ _ _ => (pe_callD GW hr1 (pa_cons (pv 1) pa_nil)))) pa_nil)))) (pss_one (ps_ret pe_bl)) pss_nil)
          (pss_one (ps_ret (pe_cmpR op_eq (pe_lenSetS rfl (by rfl) B.len (by rfl) B.set (pv 0)) (pe_callB call_len_seq (by rfl) B.len PySem.boot_len (pa_cons (pv 0) pa_nil)) (nomark _)))))), ?_⟩
        refine ⟨_, rfl, by show 2 ≤ sizeLine; decide, fun q hq => ?_⟩
        have s1 : Same H (upd H q (.tup [.ty "list", .ty "tuple"])) := Same.upd hq
        have l1 : upd H q (HO.tup [.ty "list", .ty "tuple"]) q = some (.tup [.ty "list", .ty "tuple"]) := upd_same
        generalize upd H q (HO.tup [.ty "list", .ty "tuple"]) = H1 at s1 l1 ⊢
        have ho1 := s1.seq ho
        obtain ⟨t, hty, hk⟩ := seq_ty (K := K) (H := H1) (a := a) (xs := xs) (.inl ho1)
        refine ⟨_, q, _, _, _, true, rfl, l1, .cons (.ty _) (.cons (.ty _) .nil), hty, hk, _, rfl, iteF ?_⟩
        refine ⟨_, rfl, a, xs, rfl, .inl ho1, _, _, rfl, rfl, ?_⟩
        unfold goodK at k
        refine ⟨_, rfl, ite2 (fun h1 => ?_) (fun h1 => ?_)⟩
        rotate_left
        · rw [show decide ((1 : Int) ≤ (xs.length : Nat)) = false by simpa using h1, Bool.false_and, Bool.false_and] at k
          exact ⟨_, rfl, iteT (k _ s1)⟩
        rw [h1, Bool.true_and] at k
        refine ⟨_, _, rfl, rfl, _, rfl, ite2 (fun h2 => ?_) (fun h2 => ?_)⟩
        · rw [show decide (((xs.length : Nat) : Int) ≤ 4) = false by simpa using h2, Bool.false_and] at k
          exact k _ s1
        rw [show decide (((xs.length : Nat) : Int) ≤ 4) = true by simpa using h2, Bool.true_and] at k
        refine ⟨_, rfl, a, rfl, ⟨_, ho1⟩, fun D hD => ?_⟩
        refine lc_list (K := K) (a := a) (xs := xs) (fun q H4 => Same H1 H4 ∧ H4 D = some (.lst (((xs.take q).map isWv).map V.bl))) ⟨Same.upd hD, upd_same⟩ (fun q H4 _ z => z.1.seq ho1) ?_ ?_
        · rintro i x H4 hx ⟨S4, lD⟩
          refine ⟨rfl, ?_⟩
          refine ⟨_, rfl, x, rfl, hi x (List.mem_of_getElem? hx), ?_⟩
          refine ⟨_, lD, ?_, EX.Same.updN S4 hD, ?_⟩
          · rw [List.length_map, List.length_map, List.length_take, sizeLine_eq]
            omega
          · rw [upd_same, List.take_add_one, hx]
            simp
        rintro H4 ⟨S4, lD⟩
        rw [List.take_length] at lD
        have S := Same.trans s1 S4
        refine ⟨D, _, rfl, SqL.of lD, ?_⟩
        rw [show (xs.map isWv).all id = xs.all isWv by rw [List.all_map]; rfl]
        refine ⟨_, rfl, ite2 (fun h3 => ?_) (fun h3 => ?_)⟩
        · rw [show xs.all isWv = false by simpa using h3, Bool.false_and] at k
          exact k _ S
        have h3 : xs.all isWv = true := by simpa using h3
        rw [h3, Bool.true_and] at k
        have e3 := txs_all (xs := xs) fun x hx => List.all_eq_true.mp h3 x hx
        have ho4 : SqE K H4 a (strV (txs xs)) := by
          rw [e3]
          exact .inl (S4.seq ho1)
        refine ⟨_, rfl, a, txs xs, rfl, ho4, ?_, _, rfl, a, xs, rfl, .inl (S4.seq ho1), ?_⟩
        · have : (strV (txs xs)).length = xs.length := by rw [e3]
          rw [List.length_map] at this
          omega
        refine ⟨rfl, ?_⟩
        have e4 : decide (V.int (dn [] (txs xs) : Nat) = V.int (xs.length : Nat)) = decide (dn [] (txs xs) = xs.length) := by
          refine decide_eq_decide.mpr ⟨fun z => ?_, fun z => by rw [z]⟩
          have := V.int.inj z
          omega
        rw [e4]
        exact k _ S
      · refine ⟨_, (pss_cons (ps_if (PW.pt (pw_or (pt_not (pt_val (pe_callB call_isiT (by rfl) B.isi PyProof.Rows.boot_isinstance (pa_cons (pv 0) (pa_cons (pe_tup (pa_cons (pe_bltn (v := .ty "list") (by rfl) B.list (by decide +kernel) rfl) (pa_cons (pe_bltn (v := .ty "tuple") (by rfl) B.tuple (by decide +kernel) rfl) pa_nil))) pa_nil))))) (pw_or1 (pt_not (pt_chain op_le op_le pe_int (pe_callB call_len_seq (by rfl) B.len PySem.boot_len (pa_cons (pv 0) pa_nil)) (pe_glob (v := .int _) (by rfl) B.mk4.choose_spec ⟨_, rfl⟩)))))) (pss_one (ps_ret pe_bl)) pss_nil)
          (pss_cons (ps_if (pt_not (pt_val (pe_callB (cr_all rfl) (by rfl) B.all (by decide +kernel) (pa_cons (pe_lc (own := [("item", 1)]) (g := (gName 1)) (tt := tYes) (te := tCall spWord [] E0 (tCons (tVar 1) tNil)) rfl scKey.nd (pi_tup (pv 0)) (blkOk_by (N := sKeyN) (sc := defScope sKey) (by decide +kernel)) (fun _ _ _ _ _ => (pg_name (i := 1) scKey.nd rfl (Or.inl rfl))) (fun _ _ _ _ _ => pts_nil) (fun _ _ _ _ _ => (pe_callD GW hr1 (pa_cons (pv 1) pa_nil)))) pa_nil)))) (pss_one (ps_ret pe_bl)) pss_nil)
          (pss_one (ps_ret (pe_cmpR op_eq (pe_lenSetS rfl (by rfl) B.len (by rfl) B.set (pv 0)) (pe_callB call_len_seq (by rfl) B.len PySem.boot_len (pa_cons (pv 0) pa_nil)) (nomark _)))))), ?_⟩
        refine ⟨_, rfl, by show 2 ≤ sizeLine; decide, fun q hq => ?_⟩
        have s1 : Same H (upd H q (.tup [.ty "list", .ty "tuple"])) := Same.upd hq
        have l1 : upd H q (HO.tup [.ty "list", .ty "tuple"]) q = some (.tup [.ty "list", .ty "tuple"]) := upd_same
        generalize upd H q (HO.tup [.ty "list", .ty "tuple"]) = H1 at s1 l1 ⊢
        have ho1 := sqt_same s1 ho
        obtain ⟨t, hty, hk⟩ := seq_ty (K := K) (H := H1) (a := a) (xs := xs) (.inr ho1)
        refine ⟨_, q, _, _, _, true, rfl, l1, .cons (.ty _) (.cons (.ty _) .nil), hty, hk, _, rfl, iteF ?_⟩
        refine ⟨_, rfl, a, xs, rfl, .inr ho1, _, _, rfl, rfl, ?_⟩
        unfold goodK at k
        refine ⟨_, rfl, ite2 (fun h1 => ?_) (fun h1 => ?_)⟩
        rotate_left
        · rw [show decide ((1 : Int) ≤ (xs.length : Nat)) = false by simpa using h1, Bool.false_and, Bool.false_and] at k
          exact ⟨_, rfl, iteT (k _ s1)⟩
        rw [h1, Bool.true_and] at k
        refine ⟨_, _, rfl, rfl, _, rfl, ite2 (fun h2 => ?_) (fun h2 => ?_)⟩
        · rw [show decide (((xs.length : Nat) : Int) ≤ 4) = false by simpa using h2, Bool.false_and] at k
          exact k _ s1
        rw [show decide (((xs.length : Nat) : Int) ≤ 4) = true by simpa using h2, Bool.true_and] at k
        refine ⟨_, rfl, a, rfl, ⟨_, ho1⟩, fun D hD => ?_⟩
        refine lc_tup (K := K) (a := a) (xs := xs) (fun q H4 => Same H1 H4 ∧ H4 D = some (.lst (((xs.take q).map isWv).map V.bl))) ⟨Same.upd hD, upd_same⟩ (fun q H4 _ z => sqt_same z.1 ho1) ?_ ?_
        · rintro i x H4 hx ⟨S4, lD⟩
          refine ⟨rfl, ?_⟩
          refine ⟨_, rfl, x, rfl, hi x (List.mem_of_getElem? hx), ?_⟩
          refine ⟨_, lD, ?_, EX.Same.updN S4 hD, ?_⟩
          · rw [List.length_map, List.length_map, List.length_take, sizeLine_eq]
            omega
          · rw [upd_same, List.take_add_one, hx]
            simp
        rintro H4 ⟨S4, lD⟩
        rw [List.take_length] at lD
        have S := Same.trans s1 S4
        refine ⟨D, _, rfl, SqL.of lD, ?_⟩
        rw [show (xs.map isWv).all id = xs.all isWv by rw [List.all_map]; rfl]
        refine ⟨_, rfl, ite2 (fun h3 => ?_) (fun h3 => ?_)⟩
        · rw [show xs.all isWv = false by simpa using h3, Bool.false_and] at k
          exact k _ S
        have h3 : xs.all isWv = true := by simpa using h3
        rw [h3, Bool.true_and] at k
        have e3 := txs_all (xs := xs) fun x hx => List.all_eq_true.mp h3 x hx
        have ho4 : SqE K H4 a (strV (txs xs)) := by
          rw [e3]
          exact .inr (sqt_same S4 ho1)
        refine ⟨_, rfl, a, txs xs, rfl, ho4, ?_, _, rfl, a, xs, rfl, .inr (sqt_same S4 ho1), ?_⟩
        · have : (strV (txs xs)).length = xs.length := by rw [e3]
          rw [List.length_map] at this
          omega
        refine ⟨rfl, ?_⟩
        have e4 : decide (V.int (dn [] (txs xs) : Nat) = V.int (xs.length : Nat)) = decide (dn [] (txs xs) = xs.length) := by
          refine decide_eq_decide.mpr ⟨fun z => ?_, fun z => by rw [z]⟩
          have := V.int.inj z
          omega
        rw [e4]
        exact k _ S
    · refine ⟨_, (pss_cons (ps_if (PW.pt (pw_or (pt_not (pt_val (pe_callB call_isiT (by rfl) B.isi PyProof.Rows.boot_isinstance (pa_cons (pv 0) (pa_cons (pe_tup (pa_cons (pe_bltn (v := .ty "list") (by rfl) B.list (by decide +kernel) rfl) (pa_cons (pe_bltn (v := .ty "tuple") (by rfl) B.tuple (by decide +kernel) rfl) pa_nil))) pa_nil))))) (pw_or1 (pt_not (pt_chain op_le op_le pe_int (pe_callB call_len_seq (by rfl) B.len PySem.boot_len (pa_cons (pv 0) pa_nil)) (pe_glob (v := .int _) (by rfl) B.mk4.choose_spec ⟨_, rfl⟩)))))) (pss_one (ps_ret pe_bl)) pss_nil)
        (pss_cons (ps_if (pt_not (pt_val (pe_callB (cr_all rfl) (by rfl) B.all (by decide +kernel) (pa_cons (pe_lc (own := [("item", 1)]) (g := (gName 1)) (tt := tYes) (te := tCall spWord [] E0 (tCons (tVar 1) tNil)) rfl scKey.nd (pi_list (pv 0)) (blkOk_by (N := sKeyN) (sc := defScope sKey) (by decide +kernel)) (fun _ _ _ _ _ => (pg_name (i := 1) scKey.nd rfl (Or.inl rfl))) (fun _ _ _ _ _ => pts_nil) (fun _ _ _ _ _ => (pe_callD GW hr1 (pa_cons (pv 1) pa_nil)))) pa_nil)))) (pss_one (ps_ret pe_bl)) pss_nil)
        (pss_one (ps_ret (pe_cmpR op_eq (pe_lenSetS rfl (by rfl) B.len (by rfl) B.set (pv 0)) (pe_callB call_len_seq (by rfl) B.len PySem.boot_len (pa_cons (pv 0) pa_nil)) (nomark _)))))), ?_⟩
      refine ⟨_, rfl, by show 2 ≤ sizeLine; decide, fun q hq => ?_⟩
      have s1 : Same H (upd H q (.tup [.ty "list", .ty "tuple"])) := Same.upd hq
      have l1 : upd H q (HO.tup [.ty "list", .ty "tuple"]) q = some (.tup [.ty "list", .ty "tuple"]) := upd_same
      generalize upd H q (HO.tup [.ty "list", .ty "tuple"]) = H1 at s1 l1 ⊢
      obtain ⟨t, hty, hk⟩ := (hn.mono s1).ty (K := K)
      exact ⟨_, q, _, _, _, false, rfl, l1, .cons (.ty _) (.cons (.ty _) .nil), hty, hk, _, rfl, iteT (k _ s1)⟩
end
end K01
set_option Elab.async false
set_option linter.all false
set_option maxRecDepth 100000
set_option maxHeartbeats 4000000
/-! an own object under construction: it stands at n with its fields so far, the things made for it are kept in a list -/
namespace EX
open PySem L2 PyProof.Rows
structure Bd (N n dx : Addr) (H0 H : Hp) (fs : List (Str × V)) (l : List (Addr × HO)) : Prop where
  at_ : H n = some (.ins N dx fs)
  k : Keeps [n] H0 H
  own : ∀ x ∈ l, x.1 ≠ n ∧ H x.1 = some x.2
section
variable {N n dx : Addr} {H0 H H' : Hp} {fs fs' : List (Str × V)} {l : List (Addr × HO)} {p : Addr} {o : HO}
theorem Bd.start (h : H n = some (.ins N dx fs)) : Bd N n dx H H fs [] := ⟨h, Keeps.refl _ _, fun x hx => nomatch hx⟩
theorem Bd.same (b : Bd N n dx H0 H fs l) (s : Same H H') : Bd N n dx H0 H' fs l := ⟨s _ _ b.at_, b.k.then s, fun x hx => ⟨(b.own x hx).1, s _ _ (b.own x hx).2⟩⟩
theorem Bd.new (b : Bd N n dx H0 H fs l) (hp : H p = none) : Bd N n dx H0 (upd H p o) fs ((p, o) :: l) := by
  have hn : p ≠ n := fun z => by
    rw [z, b.at_] at hp
    cases hp
  have s : Same H (upd H p o) := fun c u e => by
    rw [upd_ne (fun z => by rw [z, hp] at e; cases e)]
    exact e
  have b2 := b.same s
  refine ⟨b2.at_, b2.k, fun x hx => ?_⟩
  rcases List.mem_cons.mp hx with rfl | hx
  · exact ⟨hn, upd_same⟩
  · exact b2.own x hx
theorem Bd.add (b : Bd N n dx H0 H fs l) (hp : H p = some o) (hn : p ≠ n) : Bd N n dx H0 H fs ((p, o) :: l) := ⟨b.at_, b.k, fun x hx => by
  rcases List.mem_cons.mp hx with rfl | hx
  · exact ⟨hn, hp⟩
  · exact b.own x hx⟩
theorem Bd.addAll {m : List (Addr × HO)} (b : Bd N n dx H0 H fs l) (h : ∀ x ∈ m, x.1 ≠ n ∧ H x.1 = some x.2) : Bd N n dx H0 H fs (l ++ m) := ⟨b.at_, b.k, fun x hx => (List.mem_append.mp hx).elim (b.own x) (h x)⟩
theorem Bd.put (b : Bd N n dx H0 H fs l) : Bd N n dx H0 (upd H n (.ins N dx fs')) fs' l := by
  refine ⟨upd_same, b.k.put (by simp), fun x hx => ?_⟩
  obtain ⟨h1, h2⟩ := b.own x hx
  refine ⟨h1, ?_⟩
  rw [upd_ne h1]
  exact h2
theorem Bd.get (b : Bd N n dx H0 H fs l) (i : Nat) {x : Addr × HO} (h : l[i]? = some x := by rfl) : H x.1 = some x.2 := (b.own x (List.mem_of_getElem? h)).2
theorem Bd.ne (b : Bd N n dx H0 H fs l) (hp : H p = none) : p ≠ n := fun z => by
  rw [z, b.at_] at hp
  cases hp
/-- an own object made inside another's making: what was there stays -/
theorem made_same {C q dy : Addr} {H1 : Hp} (hq : H q = none) (hy : H dy = none) (hn : dy ≠ q) (k : Keeps [q] (upd (upd H dy (.own q)) q (.ins C dy [])) H1) : Same H H1 := fun b o e => by
  have n1 : b ≠ q := fun z => by rw [z, hq] at e; cases e
  have n2 : b ≠ dy := fun z => by rw [z, hy] at e; cases e
  refine k b o (by simpa using n1) ?_
  rw [upd_ne n1, upd_ne n2]
  exact e
end
end EX
namespace EX
open PySem L2 PyProof.Rows
theorem unlock {H H1 : Hp} {d : Addr} {u : HO} {od : Obj} (h : H d = some u) (s : Same (upd H d (.frz od u)) H1) : Same H (upd H1 d u) := fun b o e => by
  by_cases hb : b = d
  · subst hb
    rw [upd_same, ← h, e]
  · rw [upd_ne hb]
    refine s b o ?_
    rw [upd_ne hb]
    exact e
theorem notNone {a : Addr} : (!decide (V.ref a = V.non)) = true := by
  rw [decide_eq_false (fun z => nomatch z)]
  rfl
theorem isNone {a : Addr} : decide (V.ref a = V.non) = false := decide_eq_false (fun z => nomatch z)
end EX
namespace EX
open PySem L2 PyProof.Rows
/-- new things, what was there stays -/
structure Ks (H0 H : Hp) (l : List (Addr × HO)) : Prop where
  s : Same H0 H
  own : ∀ x ∈ l, H x.1 = some x.2
section
variable {H0 H H' : Hp} {l : List (Addr × HO)} {p : Addr} {o : HO}
theorem Ks.start (H : Hp) : Ks H H [] := ⟨Same.refl _, fun x hx => nomatch hx⟩
theorem Ks.same (b : Ks H0 H l) (s : Same H H') : Ks H0 H' l := ⟨Same.trans b.s s, fun x hx => s _ _ (b.own x hx)⟩
theorem Ks.add (b : Ks H0 H l) (h : H p = some o) : Ks H0 H ((p, o) :: l) := ⟨b.s, fun x hx => by
  rcases List.mem_cons.mp hx with rfl | hx
  · exact h
  · exact b.own x hx⟩
theorem Ks.new (b : Ks H0 H l) (hp : H p = none) : Ks H0 (upd H p o) ((p, o) :: l) := (b.same (Same.upd hp)).add upd_same
theorem Ks.get (b : Ks H0 H l) (i : Nat) {x : Addr × HO} (h : l[i]? = some x := by rfl) : H x.1 = some x.2 := b.own x (List.mem_of_getElem? h)
end
end EX
set_option Elab.async false
set_option linter.all false
set_option maxRecDepth 100000
set_option maxHeartbeats 4000000
namespace K01
open PySem L2 EX PyProof.Rows LamX
abbrev sIK : Stmt := inClass (top 3) 0
theorem scsIK : FnScope ["self", "given"] ["self", "given"] (defScope sIK) := ⟨rfl, rfl, rfl, by decide +kernel, rfl, by decide +kernel, by decide +kernel⟩
abbrev sIV : Stmt := inClass (top 4) 0
theorem scsIV : FnScope ["self", "given"] ["self", "given"] (defScope sIV) := ⟨rfl, rfl, rfl, by decide +kernel, rfl, by decide +kernel, by decide +kernel⟩
abbrev sUN : Stmt := inClass (top 6) 0
theorem scsUN : FnScope ["self", "node"] ["self", "node"] (defScope sUN) := ⟨rfl, rfl, rfl, by decide +kernel, rfl, by decide +kernel, by decide +kernel⟩
abbrev sUK : Stmt := inClass (top 7) 0
theorem scsUK : FnScope ["self", "word"] ["self", "word"] (defScope sUK) := ⟨rfl, rfl, rfl, by decide +kernel, rfl, by decide +kernel, by decide +kernel⟩
abbrev sCI : Stmt := inClass (top 15) 0
theorem scCI : FnScope ["self", "home", "label", "above", "row", "cells"] ["self", "home", "label", "above", "row", "cells"] (defScope sCI) := ⟨rfl, rfl, rfl, by decide +kernel, rfl, by decide +kernel, by decide +kernel⟩
abbrev sSk : Stmt := inClass (top 15) 2
theorem scSk : FnScope ["self", "nodes"] ["self"] (defScope sSk) := ⟨rfl, rfl, rfl, by decide +kernel, rfl, by decide +kernel, by decide +kernel⟩
section
variable {P : Program} {w : World} {K : PySem.W.Frag} {mg : Str → Option Value} {base : Heap}
theorem ok_IK {C f : Addr} {fd : FuncData} (F : Fun K "__init__" "InvalidKeys.__init__" sIK f fd) (T : EcC K C) (tk : PySem.W.takerIn K C "given" = some none) : FnOk P w K mg base CX0 1 f fd ["self", "given"] (spI1 K C "given") := by
  refine F.ok scsIK (fun vs H Q E h => ?_) (fun cdv A outer s H vs Q E hr h => ?_)
  · obtain ⟨a, v, rfl, _⟩ := h
    rfl
  · obtain ⟨a, v, rfl, e, q⟩ := h
    exact ⟨_, pss_one (ps_est (pv 0) (pv 1)), _, rfl, _, rfl, a, C, rfl, T, tk, .inl ⟨e, q⟩⟩
theorem ok_IV {C f : Addr} {fd : FuncData} (F : Fun K "__init__" "InvalidValue.__init__" sIV f fd) (T : EcC K C) (tk : PySem.W.takerIn K C "given" = some none) : FnOk P w K mg base CX0 1 f fd ["self", "given"] (spI1 K C "given") := by
  refine F.ok scsIV (fun vs H Q E h => ?_) (fun cdv A outer s H vs Q E hr h => ?_)
  · obtain ⟨a, v, rfl, _⟩ := h
    rfl
  · obtain ⟨a, v, rfl, e, q⟩ := h
    exact ⟨_, pss_one (ps_est (pv 0) (pv 1)), _, rfl, _, rfl, a, C, rfl, T, tk, .inl ⟨e, q⟩⟩
theorem ok_UN {C f : Addr} {fd : FuncData} (F : Fun K "__init__" "UnknownNode.__init__" sUN f fd) (T : EcC K C) (tk : PySem.W.takerIn K C "node" = some none) : FnOk P w K mg base CX0 1 f fd ["self", "node"] (spI1 K C "node") := by
  refine F.ok scsUN (fun vs H Q E h => ?_) (fun cdv A outer s H vs Q E hr h => ?_)
  · obtain ⟨a, v, rfl, _⟩ := h
    rfl
  · obtain ⟨a, v, rfl, e, q⟩ := h
    exact ⟨_, pss_one (ps_est (pv 0) (pv 1)), _, rfl, _, rfl, a, C, rfl, T, tk, .inl ⟨e, q⟩⟩
theorem ok_UK {C f : Addr} {fd : FuncData} (F : Fun K "__init__" "UnknownKey.__init__" sUK f fd) (T : EcC K C) (tk : PySem.W.takerIn K C "word" = some none) : FnOk P w K mg base CX0 1 f fd ["self", "word"] (spI1 K C "word") := by
  refine F.ok scsUK (fun vs H Q E h => ?_) (fun cdv A outer s H vs Q E hr h => ?_)
  · obtain ⟨a, v, rfl, _⟩ := h
    rfl
  · obtain ⟨a, v, rfl, e, q⟩ := h
    exact ⟨_, pss_one (ps_est (pv 0) (pv 1)), _, rfl, _, rfl, a, C, rfl, T, tk, .inl ⟨e, q⟩⟩
end
/-! ### caches -/
abbrev cfl (home label above row cells : V) (ce kt : Addr) : List (Str × V) := [("home", home), ("label", label), ("above", above), ("row", row), ("gone", .bl false), ("cells", cells), ("entries", .ref ce), ("kids", .ref kt)]
structure CacheC (K : PySem.W.Frag) (C : Addr) : Prop where
  cl : Cls K C
  home : NoAttr K C "home"
  label : NoAttr K C "label"
  above : NoAttr K C "above"
  row : NoAttr K C "row"
  gone : NoAttr K C "gone"
  cells : NoAttr K C "cells"
  entries : NoAttr K C "entries"
  kids : NoAttr K C "kids"
def spCI (K : PySem.W.Frag) (C : Addr) : Sp := fun vs H Q _ => ∃ (p dx : Addr) (v1 v2 v3 v4 v5 : V), vs = [.ref p, v1, v2, v3, v4, v5] ∧ H p = some (.ins C dx []) ∧
  ∀ H' ce kt, Keeps [p] H H' → H' p = some (.ins C dx (cfl v1 v2 v3 v4 v5 ce kt)) → H' ce = some (.dK []) → H' kt = some (.tup []) → Q .non H'
section
variable {P : Program} {w : World} {K : PySem.W.Frag} {mg : Str → Option Value} {base : Heap}
theorem ok_ci {C f : Addr} {fd : FuncData} (F : Fun K "__init__" "Cache.__init__" sCI f fd) (T : CacheC K C) : FnOk P w K mg base CX0 1 f fd ["self", "home", "label", "above", "row", "cells"] (spCI K C) := by
  refine F.ok scCI (fun vs H Q E h => ?_) (fun cdv A outer s H vs Q E hr h => ?_)
  · obtain ⟨p, dx, v1, v2, v3, v4, v5, rfl, _⟩ := h
    rfl
  · obtain ⟨p, dx, v1, v2, v3, v4, v5, rfl, hp, k⟩ := h
    refine ⟨_, (pss_cons (ps_fld (pv 0) (pv 1) rfl)
        (pss_cons (ps_fld (pv 0) (pv 2) rfl)
        (pss_cons (ps_fld (pv 0) (pv 3) rfl)
        (pss_cons (ps_fld (pv 0) (pv 4) rfl)
        (pss_cons (ps_fld (pv 0) pe_bl rfl)
        (pss_cons (ps_fld (pv 0) (pv 5) rfl)
        (pss_cons (ps_fld (pv 0) pe_dnewK rfl)
        (pss_one (ps_fld (pv 0) (pe_tup pa_nil) rfl))))))))), ?_⟩
    have b0 := Bd.start hp
    refine ⟨_, rfl, _, rfl, p, C, dx, _, rfl, b0.at_, T.cl, T.home, by show 0 < 1000; decide, ?_⟩
    have b1 := b0.put (fs' := ([("home", v1)] : List (Str × V)))
    rw [show putF "home" (v1) ([] : List (Str × V)) = ([("home", v1)] : List (Str × V)) from by rfl]
    generalize upd H p (HO.ins C dx ([("home", v1)] : List (Str × V))) = H1 at b1 ⊢
    refine ⟨_, rfl, _, rfl, p, C, dx, _, rfl, b1.at_, T.cl, T.label, by show 1 < 1000; decide, ?_⟩
    have b2 := b1.put (fs' := ([("home", v1), ("label", v2)] : List (Str × V)))
    rw [show putF "label" (v2) ([("home", v1)] : List (Str × V)) = ([("home", v1), ("label", v2)] : List (Str × V)) from by rfl]
    generalize upd H1 p (HO.ins C dx ([("home", v1), ("label", v2)] : List (Str × V))) = H2 at b2 ⊢
    refine ⟨_, rfl, _, rfl, p, C, dx, _, rfl, b2.at_, T.cl, T.above, by show 2 < 1000; decide, ?_⟩
    have b3 := b2.put (fs' := ([("home", v1), ("label", v2), ("above", v3)] : List (Str × V)))
    rw [show putF "above" (v3) ([("home", v1), ("label", v2)] : List (Str × V)) = ([("home", v1), ("label", v2), ("above", v3)] : List (Str × V)) from by rfl]
    generalize upd H2 p (HO.ins C dx ([("home", v1), ("label", v2), ("above", v3)] : List (Str × V))) = H3 at b3 ⊢
    refine ⟨_, rfl, _, rfl, p, C, dx, _, rfl, b3.at_, T.cl, T.row, by show 3 < 1000; decide, ?_⟩
    have b4 := b3.put (fs' := ([("home", v1), ("label", v2), ("above", v3), ("row", v4)] : List (Str × V)))
    rw [show putF "row" (v4) ([("home", v1), ("label", v2), ("above", v3)] : List (Str × V)) = ([("home", v1), ("label", v2), ("above", v3), ("row", v4)] : List (Str × V)) from by rfl]
    generalize upd H3 p (HO.ins C dx ([("home", v1), ("label", v2), ("above", v3), ("row", v4)] : List (Str × V))) = H4 at b4 ⊢
    refine ⟨_, rfl, p, C, dx, _, rfl, b4.at_, T.cl, T.gone, by show 4 < 1000; decide, ?_⟩
    have b5 := b4.put (fs' := ([("home", v1), ("label", v2), ("above", v3), ("row", v4), ("gone", .bl false)] : List (Str × V)))
    rw [show putF "gone" (.bl false) ([("home", v1), ("label", v2), ("above", v3), ("row", v4)] : List (Str × V)) = ([("home", v1), ("label", v2), ("above", v3), ("row", v4), ("gone", .bl false)] : List (Str × V)) from by rfl]
    generalize upd H4 p (HO.ins C dx ([("home", v1), ("label", v2), ("above", v3), ("row", v4), ("gone", .bl false)] : List (Str × V))) = H5 at b5 ⊢
    refine ⟨_, rfl, _, rfl, p, C, dx, _, rfl, b5.at_, T.cl, T.cells, by show 5 < 1000; decide, ?_⟩
    have b6 := b5.put (fs' := ([("home", v1), ("label", v2), ("above", v3), ("row", v4), ("gone", .bl false), ("cells", v5)] : List (Str × V)))
    rw [show putF "cells" (v5) ([("home", v1), ("label", v2), ("above", v3), ("row", v4), ("gone", .bl false)] : List (Str × V)) = ([("home", v1), ("label", v2), ("above", v3), ("row", v4), ("gone", .bl false), ("cells", v5)] : List (Str × V)) from by rfl]
    generalize upd H5 p (HO.ins C dx ([("home", v1), ("label", v2), ("above", v3), ("row", v4), ("gone", .bl false), ("cells", v5)] : List (Str × V))) = H6 at b6 ⊢
    refine fun ce hce => ?_
    have b6a := b6.new (o := .dK []) hce
    generalize upd H6 ce (HO.dK []) = H6a at b6a ⊢
    refine ⟨_, rfl, p, C, dx, _, rfl, b6a.at_, T.cl, T.entries, by show 6 < 1000; decide, ?_⟩
    have b7 := b6a.put (fs' := ([("home", v1), ("label", v2), ("above", v3), ("row", v4), ("gone", .bl false), ("cells", v5), ("entries", .ref ce)] : List (Str × V)))
    rw [show putF "entries" (.ref ce) ([("home", v1), ("label", v2), ("above", v3), ("row", v4), ("gone", .bl false), ("cells", v5)] : List (Str × V)) = ([("home", v1), ("label", v2), ("above", v3), ("row", v4), ("gone", .bl false), ("cells", v5), ("entries", .ref ce)] : List (Str × V)) from by rfl]
    generalize upd H6a p (HO.ins C dx ([("home", v1), ("label", v2), ("above", v3), ("row", v4), ("gone", .bl false), ("cells", v5), ("entries", .ref ce)] : List (Str × V))) = H7 at b7 ⊢
    refine ⟨by show 0 ≤ sizeLine; decide, fun kt hkt => ?_⟩
    have b7a := b7.new (o := .tup []) hkt
    generalize upd H7 kt (HO.tup []) = H7a at b7a ⊢
    refine ⟨_, rfl, p, C, dx, _, rfl, b7a.at_, T.cl, T.kids, by show 7 < 1000; decide, ?_⟩
    have b8 := b7a.put (fs' := ([("home", v1), ("label", v2), ("above", v3), ("row", v4), ("gone", .bl false), ("cells", v5), ("entries", .ref ce), ("kids", .ref kt)] : List (Str × V)))
    rw [show putF "kids" (.ref kt) ([("home", v1), ("label", v2), ("above", v3), ("row", v4), ("gone", .bl false), ("cells", v5), ("entries", .ref ce)] : List (Str × V)) = ([("home", v1), ("label", v2), ("above", v3), ("row", v4), ("gone", .bl false), ("cells", v5), ("entries", .ref ce), ("kids", .ref kt)] : List (Str × V)) from by rfl]
    generalize upd H7a p (HO.ins C dx ([("home", v1), ("label", v2), ("above", v3), ("row", v4), ("gone", .bl false), ("cells", v5), ("entries", .ref ce), ("kids", .ref kt)] : List (Str × V))) = H8 at b8 ⊢
    exact k _ ce kt b8.k b8.at_ (b8.get 1) (b8.get 0)
end
end K01
set_option Elab.async false
set_option linter.all false
set_option maxRecDepth 100000
set_option maxHeartbeats 4000000
namespace K01
open PySem L2 EX PyProof.Rows LamX
/-! ### the store's cache -/
def refK (cl : List (Str × Addr)) : List (Key × V) := cl.map fun p => (Sum.inr p.1, .ref p.2)
theorem refK_get {cl : List (Str × Addr)} {i : Nat} {k : Key} {v : V} (h : (refK cl)[i]? = some (k, v)) : ∃ s t, k = Sum.inr s ∧ v = .ref t ∧ cl[i]? = some (s, t) := by
  unfold refK at h
  rw [List.getElem?_map] at h
  cases e : cl[i]? with
  | none => rw [e] at h; cases h
  | some p =>
    rw [e] at h
    cases h
    exact ⟨_, _, rfl, rfl, rfl⟩
theorem refK_val {cl : List (Str × Addr)} {s : Str} (h : s ∈ cl.map (·.1)) : ∃ t, valV (refK cl) (Sum.inr s) = some (.ref t) ∧ (s, t) ∈ cl := by
  induction cl with
  | nil => cases h
  | cons q r ih =>
    by_cases e : q.1 = s
    · refine ⟨q.2, ?_, ?_⟩
      · exact valV_pos (congrArg Sum.inr e)
      · rw [← e]
        exact .head _
    · have h2 : s ∈ r.map (·.1) := by
        rcases List.mem_cons.mp h with z | z
        · exact absurd z.symm e
        · exact z
      obtain ⟨t, h3, h4⟩ := ih h2
      exact ⟨t, (valV_neg (fun z => e (Sum.inr.inj z))).trans h3, .tail _ h4⟩
theorem refK_none {cl : List (Str × Addr)} {s : Str} (h : s ∉ cl.map (·.1)) : valV (refK cl) (Sum.inr s) = none := by
  induction cl with
  | nil => rfl
  | cons q r ih =>
    have h1 : ¬ q.1 = s := fun z => h (by rw [List.map_cons, z]; exact .head _)
    exact (valV_neg (fun z => h1 (Sum.inr.inj z))).trans (ih fun z => h (.tail _ z))
theorem refK_put {cl : List (Str × Addr)} {s : Str} {t : Addr} (h : s ∉ cl.map (·.1)) : putK (refK cl) (Sum.inr s) (.ref t) = refK (cl ++ [(s, t)]) := by
  rw [putK_new _ (refK_none h)]
  unfold refK
  rw [List.map_append]
  rfl
/-- a cell of the store: ((0, 0), 0, 0, None) -/
def CellAt (H : Hp) (t : Addr) : Prop := ∃ c, H t = some (.tup [.ref c, .int 0, .int 0, .non]) ∧ H c = some (.tup [.int 0, .int 0])
theorem CellAt.mono {H H' : Hp} {t : Addr} (s : Same H H') (h : CellAt H t) : CellAt H' t := let ⟨c, h1, h2⟩ := h; ⟨c, s _ _ h1, s _ _ h2⟩
structure CacheAt (C : Addr) (H : Hp) (p n : Addr) (ws : List Str) : Prop where
  ex : ∃ (dx cd ce kt : Addr) (cl : List (Str × Addr)), H p = some (.ins C dx (cfl (.ref n) (.str "store") .non .non (.ref cd) ce kt)) ∧ H cd = some (.dK (refK cl)) ∧ cl.map (·.1) = ws ∧ (∀ x ∈ cl, CellAt H x.2) ∧ H kt = some (.tup [])
theorem CacheAt.mono {C : Addr} {H H' : Hp} {p n : Addr} {ws : List Str} (s : Same H H') (h : CacheAt C H p n ws) : CacheAt C H' p n ws := by
  obtain ⟨dx, cd, ce, kt, cl, h1, h2, h3, h4, h5⟩ := h.ex
  exact ⟨dx, cd, ce, kt, cl, s _ _ h1, s _ _ h2, h3, fun x hx => (h4 x hx).mono s, s _ _ h5⟩
theorem len_ws {cl : List (Str × Addr)} {ws : List Str} (h : cl.map (·.1) = ws) : cl.length = ws.length := by rw [← h, List.length_map]
/-- a field of a cache that stands -/
def spFieldC (C : Addr) (val : V → V → V → V → V → Addr → Addr → Addr → V) : Sp := fun vs H Q _ => ∃ (p dx : Addr) (v1 v2 v3 v4 v5 : V) (ce kt : Addr), vs = [.ref p] ∧ H p = some (.ins C dx (cfl v1 v2 v3 v4 v5 ce kt)) ∧ Q (val v1 v2 v3 v4 v5 ce kt p) H
abbrev spSeek (C : Addr) : Sp := spFieldC C fun _ _ _ _ _ _ _ p => .ref p
abbrev spName (C : Addr) : Sp := spFieldC C fun _ v2 _ _ _ _ _ _ => v2
abbrev spParent (C : Addr) : Sp := spFieldC C fun _ _ v3 _ _ _ _ _ => v3
abbrev spKids (C : Addr) : Sp := spFieldC C fun _ _ _ _ _ _ kt _ => .ref kt
def spCk (C : Addr) : Sp := fun vs H Q _ => ∃ (p n : Addr) (ws : List Str), vs = [.ref p] ∧ CacheAt C H p n ws ∧ ws.length ≤ 1000 ∧ ∀ H' l, Same H H' → H' l = some (.lst (strV ws)) → Q (.ref l) H'
def spCLen (C : Addr) : Sp := fun vs H Q _ => ∃ (p n : Addr) (ws : List Str), vs = [.ref p] ∧ CacheAt C H p n ws ∧ ws.length ≤ 1000 ∧ ∀ H', Same H H' → Q (.int (ws.length : Nat)) H'
/-- a look at a cell, at a key that is there -/
def spLook (C : Addr) (R : Hp → V → Prop) : Sp := fun vs H Q _ => ∃ (p n : Addr) (ws : List Str) (s : Str), vs = [.ref p, .str s] ∧ CacheAt C H p n ws ∧ s ∈ ws ∧ ∀ v, R H v → Q v H
abbrev spCIn (C : Addr) : Sp := spLook C fun _ v => v = .bl true
abbrev spCGet (C : Addr) : Sp := spLook C fun H v => ∃ c, v = .ref c ∧ H c = some (.tup [.int 0, .int 0])
abbrev spC0 (C : Addr) : Sp := spLook C fun _ v => v = .int 0
abbrev sNa : Stmt := inClass (top 15) 5
theorem scNa : FnScope ["self"] ["self"] (defScope sNa) := ⟨rfl, rfl, rfl, by decide +kernel, rfl, by decide +kernel, by decide +kernel⟩
abbrev sPa : Stmt := inClass (top 15) 6
theorem scPa : FnScope ["self"] ["self"] (defScope sPa) := ⟨rfl, rfl, rfl, by decide +kernel, rfl, by decide +kernel, by decide +kernel⟩
abbrev sCh : Stmt := inClass (top 15) 7
theorem scCh : FnScope ["self"] ["self"] (defScope sCh) := ⟨rfl, rfl, rfl, by decide +kernel, rfl, by decide +kernel, by decide +kernel⟩
abbrev sCn : Stmt := inClass (top 15) 8
theorem scCn : FnScope ["self", "x", "cells"] ["self", "x"] (defScope sCn) := ⟨rfl, rfl, rfl, by decide +kernel, rfl, by decide +kernel, by decide +kernel⟩
abbrev sCg : Stmt := inClass (top 15) 9
theorem scCg : FnScope ["self", "at", "cell"] ["self", "at"] (defScope sCg) := ⟨rfl, rfl, rfl, by decide +kernel, rfl, by decide +kernel, by decide +kernel⟩
abbrev sCl : Stmt := inClass (top 15) 11
theorem scCl : FnScope ["self"] ["self"] (defScope sCl) := ⟨rfl, rfl, rfl, by decide +kernel, rfl, by decide +kernel, by decide +kernel⟩
abbrev sAl : Stmt := inClass (top 15) 14
theorem scAl : FnScope ["self", "key", "cell"] ["self", "key"] (defScope sAl) := ⟨rfl, rfl, rfl, by decide +kernel, rfl, by decide +kernel, by decide +kernel⟩
abbrev sTo : Stmt := inClass (top 15) 15
theorem scTo : FnScope ["self", "key", "cell"] ["self", "key"] (defScope sTo) := ⟨rfl, rfl, rfl, by decide +kernel, rfl, by decide +kernel, by decide +kernel⟩
abbrev sBo : Stmt := inClass (top 15) 16
theorem scBo : FnScope ["self", "key", "cell"] ["self", "key"] (defScope sBo) := ⟨rfl, rfl, rfl, by decide +kernel, rfl, by decide +kernel, by decide +kernel⟩
abbrev sCk : Stmt := inClass (top 15) 4
def sCkN : List Str := ["self", "cells", "key"]
theorem scCk : FnScope ["self", "cells", "key"] ["self"] (defScope sCk) := ⟨rfl, rfl, rfl, by decide +kernel, rfl, by decide +kernel, by decide +kernel⟩
section
variable {P : Program} {w : World} {K : PySem.W.Frag} {mg : Str → Option Value} {base : Heap}
theorem ok_seek {C f : Addr} {fd : FuncData} (F : Fun K "seek" "Cache.seek" sSk f fd) (T : CacheC K C) : FnOk P w K mg base CX0 1 f fd ["self"] (spSeek C) := by
  refine F.ok scSk (fun vs H Q E h => ?_) (fun cdv A outer s H vs Q E hr h => ?_)
  · obtain ⟨p, dx, v1, v2, v3, v4, v5, ce, kt, rfl, _⟩ := h
    rfl
  · obtain ⟨p, dx, v1, v2, v3, v4, v5, ce, kt, rfl, hp, k⟩ := h
    exact ⟨_, (pss_cons (ps_if (pt_not (pt_val (pe_fld (pv 0) rfl))) (pss_one (ps_ret (pv 0))) pss_nil)
        pss_never), _, rfl, p, C, dx, _, _, rfl, hp, T.cl, T.gone, rfl, _, rfl, iteT ⟨_, rfl, k⟩⟩
theorem ok_name {C f : Addr} {fd : FuncData} (F : Fun K "name" "Cache.name" sNa f fd) (T : CacheC K C) (GSk : MtAt P w K mg base CX0 1 C "seek" ["self"] (spSeek C)) : FnOk P w K mg base CX0 2 f fd ["self"] (spName C) := by
  refine F.ok scNa (fun vs H Q E h => ?_) (fun cdv A outer s H vs Q E hr h => ?_)
  · obtain ⟨p, dx, v1, v2, v3, v4, v5, ce, kt, rfl, _⟩ := h
    rfl
  · obtain ⟨p, dx, v1, v2, v3, v4, v5, ce, kt, rfl, hp, k⟩ := h
    exact ⟨_, (pss_one (ps_ret (pe_fld (pe_mtD0 GSk (hr.mono (by decide)) (pv 0)) rfl))), _, rfl, p, dx, _, rfl, hp, rfl, p, dx, v1, v2, v3, v4, v5, ce, kt, rfl, hp, p, C, dx, _, _, rfl, hp, T.cl, T.label, rfl, k⟩
theorem ok_parent {C f : Addr} {fd : FuncData} (F : Fun K "parent" "Cache.parent" sPa f fd) (T : CacheC K C) (GSk : MtAt P w K mg base CX0 1 C "seek" ["self"] (spSeek C)) : FnOk P w K mg base CX0 2 f fd ["self"] (spParent C) := by
  refine F.ok scPa (fun vs H Q E h => ?_) (fun cdv A outer s H vs Q E hr h => ?_)
  · obtain ⟨p, dx, v1, v2, v3, v4, v5, ce, kt, rfl, _⟩ := h
    rfl
  · obtain ⟨p, dx, v1, v2, v3, v4, v5, ce, kt, rfl, hp, k⟩ := h
    exact ⟨_, (pss_one (ps_ret (pe_fld (pe_mtD0 GSk (hr.mono (by decide)) (pv 0)) rfl))), _, rfl, p, dx, _, rfl, hp, rfl, p, dx, v1, v2, v3, v4, v5, ce, kt, rfl, hp, p, C, dx, _, _, rfl, hp, T.cl, T.above, rfl, k⟩
theorem ok_children {C f : Addr} {fd : FuncData} (F : Fun K "children" "Cache.children" sCh f fd) (T : CacheC K C) (GSk : MtAt P w K mg base CX0 1 C "seek" ["self"] (spSeek C)) : FnOk P w K mg base CX0 2 f fd ["self"] (spKids C) := by
  refine F.ok scCh (fun vs H Q E h => ?_) (fun cdv A outer s H vs Q E hr h => ?_)
  · obtain ⟨p, dx, v1, v2, v3, v4, v5, ce, kt, rfl, _⟩ := h
    rfl
  · obtain ⟨p, dx, v1, v2, v3, v4, v5, ce, kt, rfl, hp, k⟩ := h
    exact ⟨_, (pss_one (ps_ret (pe_ifExp (pt_val (pe_fld (pv 0) rfl)) (pe_fld (pe_mtD0 GSk (hr.mono (by decide)) (pv 0)) rfl) (pe_fld (pv 0) rfl)))), _, rfl, p, C, dx, _, _, rfl, hp, T.cl, T.gone, rfl, _, rfl, iteF ⟨_, rfl, p, C, dx, _, _, rfl, hp, T.cl, T.kids, rfl, k⟩⟩
theorem ok_ck {C f : Addr} {fd : FuncData} (F : Fun K "copied_keys" "Cache.copied_keys" sCk f fd) (T : CacheC K C) (GSk : MtAt P w K mg base CX0 1 C "seek" ["self"] (spSeek C)) : FnOk P w K mg base CX0 2 f fd ["self"] (spCk C) := by
  refine F.ok scCk (fun vs H Q E h => ?_) (fun cdv A outer s H vs Q E hr h => ?_)
  · obtain ⟨p, n, ws, rfl, _⟩ := h
    rfl
  · obtain ⟨p, n, ws, rfl, hc, hl, k⟩ := h
    have hu := hu_of hr
    obtain ⟨dx, cd, ce, kt, cl, hp, hcd, hcl, hcs, hkt⟩ := hc.ex
    have hlc := len_ws hcl
    refine ⟨_, (pss_cons (ps_set (i := 1) scCk.nd rfl (Or.inr rfl) (pe_fld (pe_mtD0 GSk (hr.mono (by decide)) (pv 0)) rfl))
        (pss_one (ps_ret (pe_lock (pe_lc (own := [("key", 2)]) (g := (gName 2)) (te := (tVar 2)) rfl scCk.nd (pi_keys (pv 1)) (blkOk_by (N := sCkN) (sc := defScope sCk) (by decide +kernel)) (fun _ _ _ _ _ => (pg_name (i := 2) scCk.nd rfl (Or.inl rfl))) (fun _ _ _ _ _ => (pts_one (pt_cmp (pc_notN (pe_dget hu (pv 1) (pv 2) (fun _ _ => rfl)))))) (fun _ _ _ _ _ => (pv 2))))))), ?_⟩
    refine ⟨_, rfl, p, dx, _, rfl, hp, rfl, p, dx, _, _, _, _, _, ce, kt, rfl, hp, p, C, dx, _, _, rfl, hp, T.cl, T.cells, rfl, ?_⟩
    refine ⟨cd, .dK (refK cl), hcd, trivial, fun od => ?_⟩
    have l3 : upd H cd (.frz od (.dK (refK cl))) cd = some (.frz od (.dK (refK cl))) := upd_same
    have l3' : Rd (upd H cd (.frz od (.dK (refK cl)))) cd (.dK (refK cl)) := rd_lock (.inl hcd) hcd
    have bk : ∀ H2, Same (upd H cd (.frz od (.dK (refK cl)))) H2 → Same H (upd H2 cd (.dK (refK cl))) := fun H2 z => unlock hcd z
    generalize upd H cd (.frz od (.dK (refK cl))) = L at l3 l3' bk ⊢
    refine ⟨_, rfl, cd, od, rfl, .inl ⟨_, l3, fun D hD => ?_⟩⟩
    refine lc_it (walk_keys (d := cd) (o := od) (kvs := refK cl)) (fun i H2 => Same L H2 ∧ H2 D = some (.lst (strV ((cl.take i).map (·.1))))) ⟨Same.upd hD, upd_same⟩ (fun i H2 _ z => z.1 _ _ l3) ?_ ?_
    · rintro i x H0 H2 hi ⟨S, lD⟩ ⟨rfl, kk, vv, hg, rfl⟩
      obtain ⟨s', t, rfl, rfl, hn⟩ := refK_get hg
      have hmem := List.mem_of_getElem? hn
      refine ⟨rfl, ?_⟩
      obtain ⟨t2, hv, _⟩ := refK_val (cl := cl) (s := s') (List.mem_map.mpr ⟨_, hmem, rfl⟩)
      refine ⟨_, rfl, _, rfl, cd, _, rfl, .inl ⟨refK cl, Sum.inr s', rd_same S l3', rfl, hv.symm⟩, _, rfl, ifT notNone ?_⟩
      refine ⟨_, rfl, _, lD, by rw [List.length_map, List.length_map, List.length_take, sizeLine_eq]; omega, EX.Same.updN S hD, ?_⟩
      rw [upd_same, List.take_add_one, hn, List.map_append]
      show some (HO.lst (strV _ ++ [V.str s'])) = some (HO.lst (List.map V.str (_ ++ [s'])))
      rw [List.map_append]
      rfl
    · rintro H2 ⟨S, lD⟩
      have e : cl.take (refK cl).length = cl := List.take_of_length_le (by unfold refK; rw [List.length_map]; exact Nat.le_refl _)
      rw [e, hcl] at lD
      refine ⟨S _ _ l3, ?_⟩
      have nD : D ≠ cd := fun z => by rw [z, l3] at hD; cases hD
      exact k _ D (bk _ S) (by rw [upd_ne nD]; exact lD)
theorem ok_clen {C f : Addr} {fd : FuncData} (F : Fun K "__len__" "Cache.__len__" sCl f fd) (B : Bn mg) (GCk : MtAt P w K mg base CX0 2 C "copied_keys" ["self"] (spCk C)) : FnOk P w K mg base CX0 3 f fd ["self"] (spCLen C) := by
  refine F.ok scCl (fun vs H Q E h => ?_) (fun cdv A outer s H vs Q E hr h => ?_)
  · obtain ⟨p, n, ws, rfl, _⟩ := h
    rfl
  · obtain ⟨p, n, ws, rfl, hc, hl, k⟩ := h
    obtain ⟨dx, cd, ce, kt, cl, hp, _⟩ := hc.ex
    refine ⟨_, (pss_one (ps_ret (pe_callB call_len_seq (by rfl) B.len PySem.boot_len (pa_cons (pe_mtD0 GCk (hr.mono (by decide)) (pv 0)) pa_nil)))), ?_⟩
    refine ⟨_, rfl, p, dx, _, rfl, hp, rfl, p, n, ws, rfl, hc, hl, fun H' l S hl' => ⟨l, _, rfl, .inl (SqL.of hl'), ?_⟩⟩
    rw [List.length_map]
    exact k _ S
theorem ok_cn {C f : Addr} {fd : FuncData} (F : Fun K "__contains__" "Cache.__contains__" sCn f fd) (B : Bn mg) (T : CacheC K C) : FnOk P w K mg base CX0 1 f fd ["self", "x"] (spCIn C) := by
  refine F.ok scCn (fun vs H Q E h => ?_) (fun cdv A outer s H vs Q E hr h => ?_)
  · obtain ⟨p, n, ws, s, rfl, _⟩ := h
    rfl
  · obtain ⟨p, n, ws, s, rfl, hc, hs, k⟩ := h
    have hu := hu_of hr
    obtain ⟨dx, cd, ce, kt, cl, hp, hcd, hcl, hcs, hkt⟩ := hc.ex
    obtain ⟨t, hv, hm⟩ := refK_val (cl := cl) (s := s) (by rw [hcl]; exact hs)
    obtain ⟨c, ht, hc0⟩ := hcs _ hm
    have hg : DGet H cd (.str s) (some (.ref t)) := .inl ⟨refK cl, Sum.inr s, .inl hcd, rfl, hv.symm⟩
    refine ⟨_, (pss_cons (ps_if (pt_val (pe_callB call_isi (by rfl) B.isi PyProof.Rows.boot_isinstance (pa_cons (pv 1) (pa_cons (pe_bltn (v := .ty "str") (by rfl) B.str (by decide +kernel) rfl) pa_nil)))) (pss_one (ps_try_thru0 (pss_one (ps_ret (pe_cmp (pc_notN (pe_dget hu (pe_fld (pv 0) rfl) (pv 1) (fun _ _ => rfl)))))))) pss_nil)
        pss_never), ?_⟩
    refine ⟨_, rfl, _, _, _, _, true, rfl, .ty _, .base (.str _), kit_ty (by decide +kernel), _, rfl, iteT ?_⟩
    exact ⟨_, rfl, p, C, dx, _, _, rfl, hp, T.cl, T.cells, rfl, _, rfl, cd, _, rfl, hg, k _ (congrArg V.bl notNone)⟩
theorem ok_cg {C f : Addr} {fd : FuncData} (F : Fun K "__getitem__" "Cache.__getitem__" sCg f fd) (B : Bn mg) (T : CacheC K C) : FnOk P w K mg base CX0 1 f fd ["self", "at"] (spCGet C) := by
  refine F.ok scCg (fun vs H Q E h => ?_) (fun cdv A outer s H vs Q E hr h => ?_)
  · obtain ⟨p, n, ws, s, rfl, _⟩ := h
    rfl
  · obtain ⟨p, n, ws, s, rfl, hc, hs, k⟩ := h
    have hu := hu_of hr
    obtain ⟨dx, cd, ce, kt, cl, hp, hcd, hcl, hcs, hkt⟩ := hc.ex
    obtain ⟨t, hv, hm⟩ := refK_val (cl := cl) (s := s) (by rw [hcl]; exact hs)
    obtain ⟨c, ht, hc0⟩ := hcs _ hm
    have hg : DGet H cd (.str s) (some (.ref t)) := .inl ⟨refK cl, Sum.inr s, .inl hcd, rfl, hv.symm⟩
    refine ⟨_, (pss_cons (ps_if (pt_val (pe_callB call_isi (by rfl) B.isi PyProof.Rows.boot_isinstance (pa_cons (pv 1) (pa_cons (pe_bltn (v := .ty "str") (by rfl) B.str (by decide +kernel) rfl) pa_nil)))) (pss_one (ps_try_thru0 (pss_cons (ps_set (i := 2) scCg.nd rfl (Or.inl rfl) (pe_dget hu (pe_fld (pv 0) rfl) (pv 1) (fun _ _ => rfl)))
        (pss_one (ps_if (pt_cmp (pc_notN (pv 2))) (pss_one (ps_ret (pe_ix ix_tup (pv 2) pe_int (fun _ _ => rfl)))) pss_nil))))) pss_nil)
        pss_never), ?_⟩
    refine ⟨_, rfl, _, _, _, _, true, rfl, .ty _, .base (.str _), kit_ty (by decide +kernel), _, rfl, iteT ?_⟩
    refine ⟨_, rfl, p, C, dx, _, _, rfl, hp, T.cl, T.cells, rfl, _, rfl, cd, _, rfl, hg, ?_⟩
    exact ⟨_, rfl, _, rfl, ifT notNone ⟨_, rfl, t, _, _, _, rfl, rfl, SqT.of ht, atI_nat (j := 0) rfl, k _ ⟨c, rfl, hc0⟩⟩⟩
theorem ok_al {C f : Addr} {fd : FuncData} (F : Fun K "allowance" "Cache.allowance" sAl f fd) (B : Bn mg) (T : CacheC K C) : FnOk P w K mg base CX0 1 f fd ["self", "key"] (spC0 C) := by
  refine F.ok scAl (fun vs H Q E h => ?_) (fun cdv A outer s H vs Q E hr h => ?_)
  · obtain ⟨p, n, ws, s, rfl, _⟩ := h
    rfl
  · obtain ⟨p, n, ws, s, rfl, hc, hs, k⟩ := h
    have hu := hu_of hr
    obtain ⟨dx, cd, ce, kt, cl, hp, hcd, hcl, hcs, hkt⟩ := hc.ex
    obtain ⟨t, hv, hm⟩ := refK_val (cl := cl) (s := s) (by rw [hcl]; exact hs)
    obtain ⟨c, ht, hc0⟩ := hcs _ hm
    have hg : DGet H cd (.str s) (some (.ref t)) := .inl ⟨refK cl, Sum.inr s, .inl hcd, rfl, hv.symm⟩
    refine ⟨_, (pss_cons (ps_if (pt_val (pe_callB call_isi (by rfl) B.isi PyProof.Rows.boot_isinstance (pa_cons (pv 1) (pa_cons (pe_bltn (v := .ty "str") (by rfl) B.str (by decide +kernel) rfl) pa_nil)))) (pss_one (ps_try_thru0 (pss_cons (ps_set (i := 2) scAl.nd rfl (Or.inl rfl) (pe_dget hu (pe_fld (pv 0) rfl) (pv 1) (fun _ _ => rfl)))
        (pss_one (ps_if (pt_cmp (pc_notN (pv 2))) (pss_one (ps_ret (pe_ix ix_tup (pv 2) pe_int (fun _ _ => rfl)))) pss_nil))))) pss_nil)
        pss_never), ?_⟩
    refine ⟨_, rfl, _, _, _, _, true, rfl, .ty _, .base (.str _), kit_ty (by decide +kernel), _, rfl, iteT ?_⟩
    refine ⟨_, rfl, p, C, dx, _, _, rfl, hp, T.cl, T.cells, rfl, _, rfl, cd, _, rfl, hg, ?_⟩
    exact ⟨_, rfl, _, rfl, ifT notNone ⟨_, rfl, t, _, _, _, rfl, rfl, SqT.of ht, atI_nat (j := 1) rfl, k _ rfl⟩⟩
theorem ok_to {C f : Addr} {fd : FuncData} (F : Fun K "told" "Cache.told" sTo f fd) (B : Bn mg) (T : CacheC K C) : FnOk P w K mg base CX0 1 f fd ["self", "key"] (spC0 C) := by
  refine F.ok scTo (fun vs H Q E h => ?_) (fun cdv A outer s H vs Q E hr h => ?_)
  · obtain ⟨p, n, ws, s, rfl, _⟩ := h
    rfl
  · obtain ⟨p, n, ws, s, rfl, hc, hs, k⟩ := h
    have hu := hu_of hr
    obtain ⟨dx, cd, ce, kt, cl, hp, hcd, hcl, hcs, hkt⟩ := hc.ex
    obtain ⟨t, hv, hm⟩ := refK_val (cl := cl) (s := s) (by rw [hcl]; exact hs)
    obtain ⟨c, ht, hc0⟩ := hcs _ hm
    have hg : DGet H cd (.str s) (some (.ref t)) := .inl ⟨refK cl, Sum.inr s, .inl hcd, rfl, hv.symm⟩
    refine ⟨_, (pss_cons (ps_if (pt_val (pe_callB call_isi (by rfl) B.isi PyProof.Rows.boot_isinstance (pa_cons (pv 1) (pa_cons (pe_bltn (v := .ty "str") (by rfl) B.str (by decide +kernel) rfl) pa_nil)))) (pss_one (ps_try_thru0 (pss_cons (ps_set (i := 2) scTo.nd rfl (Or.inl rfl) (pe_dget hu (pe_fld (pv 0) rfl) (pv 1) (fun _ _ => rfl)))
        (pss_one (ps_if (pt_cmp (pc_notN (pv 2))) (pss_one (ps_ret (pe_ix ix_tup (pv 2) pe_int (fun _ _ => rfl)))) pss_nil))))) pss_nil)
        pss_never), ?_⟩
    refine ⟨_, rfl, _, _, _, _, true, rfl, .ty _, .base (.str _), kit_ty (by decide +kernel), _, rfl, iteT ?_⟩
    refine ⟨_, rfl, p, C, dx, _, _, rfl, hp, T.cl, T.cells, rfl, _, rfl, cd, _, rfl, hg, ?_⟩
    exact ⟨_, rfl, _, rfl, ifT notNone ⟨_, rfl, t, _, _, _, rfl, rfl, SqT.of ht, atI_nat (j := 2) rfl, k _ rfl⟩⟩
theorem ok_bo {C f : Addr} {fd : FuncData} (F : Fun K "bound" "Cache.bound" sBo f fd) (B : Bn mg) (T : CacheC K C) : FnOk P w K mg base CX0 1 f fd ["self", "key"] (spC0 C) := by
  refine F.ok scBo (fun vs H Q E h => ?_) (fun cdv A outer s H vs Q E hr h => ?_)
  · obtain ⟨p, n, ws, s, rfl, _⟩ := h
    rfl
  · obtain ⟨p, n, ws, s, rfl, hc, hs, k⟩ := h
    have hu := hu_of hr
    obtain ⟨dx, cd, ce, kt, cl, hp, hcd, hcl, hcs, hkt⟩ := hc.ex
    obtain ⟨t, hv, hm⟩ := refK_val (cl := cl) (s := s) (by rw [hcl]; exact hs)
    obtain ⟨c, ht, hc0⟩ := hcs _ hm
    have hg : DGet H cd (.str s) (some (.ref t)) := .inl ⟨refK cl, Sum.inr s, .inl hcd, rfl, hv.symm⟩
    refine ⟨_, (pss_cons (ps_set (i := 2) scBo.nd rfl (Or.inl rfl) pe_non)
        (pss_cons (ps_if (pt_val (pe_callB call_isi (by rfl) B.isi PyProof.Rows.boot_isinstance (pa_cons (pv 1) (pa_cons (pe_bltn (v := .ty "str") (by rfl) B.str (by decide +kernel) rfl) pa_nil)))) (pss_one (ps_try_thru0 (pss_one (ps_set (i := 2) scBo.nd rfl (Or.inl rfl) (pe_dget hu (pe_fld (pv 0) rfl) (pv 1) (fun _ _ => rfl)))))) pss_nil)
        (pss_cons (ps_if (pt_cmp (pc_isN (pv 2))) (pss_one ps_never) pss_nil)
        (pss_one (ps_ret (pe_op op_sub (pe_op op_add (pe_ix ix_tup (pv 2) pe_int (fun _ _ => rfl)) (pe_ix ix_tup (pv 2) pe_int (fun _ _ => rfl))) (pe_ix ix_tup (pe_ix ix_tup (pv 2) pe_int (fun _ _ => rfl)) pe_int (fun _ _ => rfl)))))))), ?_⟩
    refine ⟨_, rfl, _, _, _, _, true, rfl, .ty _, .base (.str _), kit_ty (by decide +kernel), _, rfl, iteT ?_⟩
    refine ⟨_, rfl, p, C, dx, _, _, rfl, hp, T.cl, T.cells, rfl, _, rfl, cd, _, rfl, hg, ?_⟩
    refine ⟨_, rfl, _, rfl, ifF isNone ?_⟩
    exact ⟨_, rfl, t, _, _, _, rfl, rfl, SqT.of ht, atI_nat (j := 2) rfl, _, rfl, t, _, _, _, rfl, rfl, SqT.of ht, atI_nat (j := 1) rfl, _, _, rfl, rfl, _, rfl, t, _, _, _, rfl, rfl, SqT.of ht, atI_nat (j := 0) rfl, c, _, _, _, rfl, rfl, SqT.of hc0, atI_nat (j := 0) rfl, _, _, rfl, rfl, k _ rfl⟩
end
end K01
set_option Elab.async false
set_option linter.all false
set_option maxRecDepth 100000
set_option maxHeartbeats 4000000
namespace K01
open PySem L2 EX PyProof.Rows LamX
/-! ### nets -/
abbrev nfl (tw cp nd la rw dn kp ac sm tr an rc : Addr) : List (Str × V) := [("words", .ref tw), ("top", .ref cp), ("nodes", .ref nd), ("labels", .ref la), ("rows", .ref rw), ("done", .ref dn), ("kept", .ref kp), ("accepted", .ref ac), ("stamps", .ref sm), ("questions", .int 0), ("trails", .ref tr), ("answered", .ref an), ("receipts", .ref rc)]
structure NetC (K : PySem.W.Frag) (N : Addr) : Prop where
  cl : Cls K N
  f_words : NoAttr K N "words"
  f_top : NoAttr K N "top"
  f_nodes : NoAttr K N "nodes"
  f_labels : NoAttr K N "labels"
  f_rows : NoAttr K N "rows"
  f_done : NoAttr K N "done"
  f_kept : NoAttr K N "kept"
  f_accepted : NoAttr K N "accepted"
  f_stamps : NoAttr K N "stamps"
  f_questions : NoAttr K N "questions"
  f_trails : NoAttr K N "trails"
  f_answered : NoAttr K N "answered"
  f_receipts : NoAttr K N "receipts"
theorem refK_mem {cl : List (Str × Addr)} {n : Nat} : (refK (cl.take n)).length ≤ n := by
  unfold refK
  rw [List.length_map, List.length_take]
  exact Nat.min_le_left _ _
/-- a net in which nothing was done yet -/
structure NetAt (K : PySem.W.Frag) (C N : Addr) (H : Hp) (n : Addr) (ws : List Str) : Prop where
  ex : ∃ (dx tw cp nd la rw dn kp ac sm tr an rc : Addr) (kl : List (Str × Addr)), H n = some (.ins N dx (nfl tw cp nd la rw dn kp ac sm tr an rc)) ∧ SqT K H tw (strV ws) ∧ CacheAt C H cp n ws ∧ H nd = some (.dK [(Sum.inr "store", .ref cp)]) ∧ H la = some (.tup [.str "store"]) ∧
    H rw = some (.dK []) ∧ H dn = some (.lst []) ∧ H kp = some (.dK (refK kl)) ∧ kl.map (·.1) = ws ∧ (∀ x ∈ kl, H x.2 = some (.tup [])) ∧ H ac = some (.lst [])
theorem NetAt.mono {K : PySem.W.Frag} {C N : Addr} {H H' : Hp} {n : Addr} {ws : List Str} (s : Same H H') (h : NetAt K C N H n ws) : NetAt K C N H' n ws := by
  obtain ⟨dx, tw, cp, nd, la, rw, dn, kp, ac, sm, tr, an, rc, kl, h1, h2, h3, h4, h5, h6, h7, h8, h9, h10, h11⟩ := h.ex
  exact ⟨dx, tw, cp, nd, la, rw, dn, kp, ac, sm, tr, an, rc, kl, s _ _ h1, sqt_same s h2, h3.mono s, s _ _ h4, s _ _ h5, s _ _ h6, s _ _ h7, s _ _ h8, h9, fun x hx => s _ _ (h10 x hx), s _ _ h11⟩
/-- what good keys are -/
structure KeysOk (ws : List Str) : Prop where
  nd : ws.Nodup
  wd : ∀ s ∈ ws, isW s = true
  n1 : 1 ≤ ws.length
  n4 : ws.length ≤ 4
theorem KeysOk.of {xs : List V} (h : goodK xs = true) : ∃ ws, xs = strV ws ∧ KeysOk ws := by
  unfold goodK at h
  simp only [Bool.and_eq_true, decide_eq_true_eq] at h
  obtain ⟨⟨h1, h2⟩, h3, h4⟩ := h
  have e := txs_all (xs := xs) fun x hx => List.all_eq_true.mp h3 x hx
  have el : (txs xs).length = xs.length := by
    have := congrArg List.length e
    rw [List.length_map] at this
    exact this
  obtain ⟨nd, _⟩ := dn_eq (txs xs) [] (by rw [h4, el])
  refine ⟨txs xs, e.symm, nd, fun s hs => ?_, by omega, by omega⟩
  have : V.str s ∈ xs := by
    rw [← e]
    exact List.mem_map.mpr ⟨s, hs, rfl⟩
  exact List.all_eq_true.mp h3 _ this
theorem KeysOk.good {ws : List Str} (h : KeysOk ws) : goodK (strV ws) = true := by
  have e : ∀ l : List Str, txs (strV l) = l := fun l => by
    induction l with
    | nil => rfl
    | cons s r ih => exact congrArg (s :: ·) ih
  unfold goodK
  simp only [Bool.and_eq_true, decide_eq_true_eq]
  have h1 := h.n1
  have h4 := h.n4
  refine ⟨⟨by rw [List.length_map]; omega, by rw [List.length_map]; omega⟩, ?_, ?_⟩
  · rw [List.all_eq_true]
    intro x hx
    obtain ⟨s, hs, rfl⟩ := List.mem_map.mp hx
    exact h.wd s hs
  · rw [e, dn_nodup ws [] h.nd (fun _ _ z => nomatch z), List.length_map]
theorem k_tup {K : PySem.W.Frag} {H : Hp} {a : Addr} {xs : List V} {Q : VK} (h : SqE K H a xs) (k : ∀ q H', Same H H' → SqT K H' q xs → Q (.ref q) H') : kTup K (.ref a) H Q := by
  rcases h with h | h
  · exact .inl ⟨a, xs, rfl, h, fun q hq => k q _ (Same.upd hq) (.inl (.inl upd_same))⟩
  · exact .inr ⟨a, xs, rfl, h, k a _ (Same.refl _) h⟩
theorem nd_at {ws : List Str} {i : Nat} {s : Str} (nd : ws.Nodup) (h : ws[i]? = some s) : s ∉ ws.take i := fun z => by
  obtain ⟨hl, e⟩ := List.getElem?_eq_some_iff.mp h
  obtain ⟨j, hj, ej⟩ := List.getElem_of_mem z
  rw [List.length_take] at hj
  rw [List.getElem_take] at ej
  have := (List.getElem_inj nd).mp (ej.trans e.symm)
  omega
theorem CellAt.but {H : Hp} {t D : Addr} {o : HO} {kvs : List (Key × V)} (hD : H D = some (.dK kvs)) (h : CellAt H t) : CellAt (upd H D o) t := by
  obtain ⟨c, h1, h2⟩ := h
  refine ⟨c, ?_, ?_⟩
  · rw [upd_ne (fun z => by rw [z, hD] at h1; cases h1)]
    exact h1
  · rw [upd_ne (fun z => by rw [z, hD] at h2; cases h2)]
    exact h2
theorem CellAt.keeps {H H' : Hp} {t m N dx : Addr} {fs : List (Str × V)} (k : Keeps [m] H H') (hm : H m = some (.ins N dx fs)) (h : CellAt H t) : CellAt H' t := by
  obtain ⟨c, h1, h2⟩ := h
  exact ⟨c, k _ _ (by simpa using fun z : t = m => by rw [z, hm] at h1; cases h1) h1, k _ _ (by simpa using fun z : c = m => by rw [z, hm] at h2; cases h2) h2⟩
theorem CacheAt.keeps {C m N dx : Addr} {fs : List (Str × V)} {H H' : Hp} {p n : Addr} {ws : List Str} (k : Keeps [m] H H') (hm : H m = some (.ins N dx fs)) (hp : p ≠ m) (h : CacheAt C H p n ws) : CacheAt C H' p n ws := by
  obtain ⟨dx, cd, ce, kt, cl, h1, h2, h3, h4, h5⟩ := h.ex
  exact ⟨dx, cd, ce, kt, cl, k _ _ (by simpa using hp) h1, k _ _ (by simpa using fun z : cd = m => by rw [z, hm] at h2; cases h2) h2, h3, fun x hx => (h4 x hx).keeps k hm, k _ _ (by simpa using fun z : kt = m => by rw [z, hm] at h5; cases h5) h5⟩
/-- Net.__init__ -/
def spNI (K : PySem.W.Frag) (C N IK : Addr) : Sp := fun vs H Q E => ∃ (n dx : Addr) (x : V), vs = [.ref n, x] ∧ H n = some (.ins N dx []) ∧
  ((∃ a ws, x = .ref a ∧ SqE K H a (strV ws) ∧ KeysOk ws ∧ ∀ H', Keeps [n] H H' → NetAt K C N H' n ws → Q .non H') ∨ (KeyArg K H x false ∧ ∀ d H', Same H H' → H d = none → H' d = some (.xd [(("given" : Str), x)]) → E (.ref IK) (some d) H'))
theorem KeysOk.arg {K : PySem.W.Frag} {H : Hp} {a : Addr} {ws : List Str} (h : KeysOk ws) (ho : SqE K H a (strV ws)) : KeyArg K H (.ref a) true := by
  have h4 := h.n4
  refine .inl ⟨a, strV ws, rfl, ho, by rw [List.length_map]; omega, fun y hy => ?_, h.good.symm⟩
  obtain ⟨s, hs, rfl⟩ := List.mem_map.mp hy
  exact .inl ⟨s, rfl, isW_len (h.wd s hs)⟩
abbrev sNI : Stmt := inClass (top 35) 1
def sNIN : List Str := ["self", "keys", "key"]
theorem scNI : FnScope ["self", "keys", "key"] ["self", "keys"] (defScope sNI) := ⟨rfl, rfl, rfl, by decide +kernel, rfl, by decide +kernel, by decide +kernel⟩
section
variable {P : Program} {w : World} {K : PySem.W.Frag} {mg : Str → Option Value} {base : Heap}
theorem ok_ni {C N IK f : Addr} {fd : FuncData} (F : Fun K "__init__" "Net.__init__" sNI f fd) (B : Bn mg) (T : NetC K N) (GK : DefAt P w K mg base 2 "are_keys" ["obj"] (spKeys K)) (MC : MkAt P w K mg base CX0 1 "Cache" ["self", "home", "label", "above", "row", "cells"] C (spCI K C)) (XI : XrAt P w K mg base "InvalidKeys" "given" IK) :
    FnOk P w K mg base (L2.CX P w) 3 f fd ["self", "keys"] (spNI K C N IK) := by
  refine F.okX scNI (fun vs H Q E h => ?_) (fun cdv A outer s H vs Q E hr h => ?_)
  · obtain ⟨n, dx, x, rfl, _⟩ := h
    rfl
  · obtain ⟨n, dx, x, rfl, hn, k⟩ := h
    have hu := hu_of hr
    refine ⟨_, (pss_cons (ps_if (pt_not (pt_val (pe_callD GK (hr.mono (by decide)) (pa_cons (pv 1) pa_nil)))) (pss_one (ps_raiseE XI (hr.mono (by decide)) rfl (takes_of rfl rfl rfl rfl) (pv 1))) pss_nil)
        (pss_cons (ps_fld (pv 0) (pe_tupleOf (by rfl) B.tuple (pv 1)) rfl)
        (pss_cons (ps_fld (pv 0) (pe_mkC MC (hr.mono (by decide)) (pa_cons (pv 0) (pa_cons (pe_glob (v := .str _) (by rfl) B.st.choose_spec ⟨_, rfl⟩) (pa_cons pe_non (pa_cons pe_non (pa_cons (pe_dc (own := [("key", 2)]) (g := (gName 2)) (tt := tYes) (tk := (tVar 2)) (tv := (tTup (tCons (tTup (tCons (tC (.int 0)) (tCons (tC (.int 0)) tNil))) (tCons (tC (.int 0)) (tCons (tC (.int 0)) (tCons (tC .non) tNil)))))) rfl scNI.nd (pi_tup (pe_fld (pv 0) rfl)) (blkOk_by (N := sNIN) (sc := defScope sNI) (by decide +kernel)) (fun _ _ _ _ _ => (pg_name (i := 2) scNI.nd rfl (Or.inl rfl))) (fun _ _ _ _ _ => pts_nil) (fun _ _ _ _ _ => (pv 2)) (fun _ _ _ _ _ => (pe_tup (pa_cons (pe_tup (pa_cons pe_int (pa_cons pe_int pa_nil))) (pa_cons pe_int (pa_cons pe_int (pa_cons pe_non pa_nil))))))) pa_nil)))))) rfl)
        (pss_cons (ps_fld (pv 0) (pe_disp (pps_cons (pe_glob (v := .str _) (by rfl) B.st.choose_spec ⟨_, rfl⟩) (pe_fld (pv 0) rfl) pps_nil) rfl rfl (by simp) (by decide)) rfl)
        (pss_cons (ps_fld (pv 0) (pe_tup (pa_cons (pe_glob (v := .str _) (by rfl) B.st.choose_spec ⟨_, rfl⟩) pa_nil)) rfl)
        (pss_cons (ps_fld (pv 0) pe_dnewK rfl)
        (pss_cons (ps_fld (pv 0) (pe_lst pa_nil) rfl)
        (pss_cons (ps_fld (pv 0) (pe_dc (own := [("key", 2)]) (g := (gName 2)) (tt := tYes) (tk := (tVar 2)) (tv := (tTup tNil)) rfl scNI.nd (pi_tup (pe_fld (pv 0) rfl)) (blkOk_by (N := sNIN) (sc := defScope sNI) (by decide +kernel)) (fun _ _ _ _ _ => (pg_name (i := 2) scNI.nd rfl (Or.inl rfl))) (fun _ _ _ _ _ => pts_nil) (fun _ _ _ _ _ => (pv 2)) (fun _ _ _ _ _ => (pe_tup pa_nil))) rfl)
        (pss_cons (ps_fld (pv 0) (pe_lst pa_nil) rfl)
        (pss_cons (ps_fld (pv 0) (pe_lst pa_nil) rfl)
        (pss_cons (ps_fld (pv 0) pe_int rfl)
        (pss_cons (ps_fld (pv 0) pe_dnewK rfl)
        (pss_cons (ps_fld (pv 0) pe_dnewK rfl)
        (pss_one (ps_fld (pv 0) pe_dnewK rfl))))))))))))))), ?_⟩
    rcases k with ⟨a, ws, rfl, ho, KO, k⟩ | ⟨hx, kE⟩
    rotate_left
    · refine ⟨_, rfl, x, false, rfl, hx, fun H1 S1 => ⟨_, rfl, iteT ?_⟩⟩
      exact ⟨_, rfl, fun d H' s hd e => kE d H' (Same.trans S1 s) (S1.free hd) e⟩
    · refine ⟨_, rfl, .ref a, true, rfl, KO.arg ho, fun H1 S1 => ⟨_, rfl, iteF ?_⟩⟩
      have h4 := KO.n4
      have hlw : (strV ws).length = ws.length := List.length_map _
      refine ⟨_, rfl, k_tup (ho.mono S1) fun tw H2 S2 ht2 => ?_⟩
      have S02 := Same.trans S1 S2
      have hn2 := S02 _ _ hn
      refine ⟨_, rfl, n, N, dx, [], rfl, hn2, T.cl, T.f_words, by show 0 < 1000; decide, ?_⟩
      rw [show putF "words" (.ref tw) ([] : List (Str × V)) = ([("words", .ref tw)] : List (Str × V)) from by rfl]
      have k3 : Keeps [n] H2 (upd H2 n (HO.ins N dx ([("words", .ref tw)] : List (Str × V)))) := Keeps.one _
      have hn3 : upd H2 n (HO.ins N dx ([("words", .ref tw)] : List (Str × V))) n = some (.ins N dx ([("words", .ref tw)] : List (Str × V))) := upd_same
      generalize upd H2 n (HO.ins N dx ([("words", .ref tw)] : List (Str × V))) = H3 at k3 hn3 ⊢
      have ht3 := k3.sqt' (fun q hq => by rw [List.mem_singleton.mp hq]; exact .ins hn2) ht2
      -- top
      refine ⟨_, rfl, _, rfl, n, N, dx, _, _, rfl, hn3, T.cl, T.f_words, rfl, tw, rfl, ⟨_, ht3⟩, fun D hD => ?_⟩
      refine dc_it (walk_tup (K := K) (a := tw) (xs := strV ws)) (fun i Hh => Same H3 Hh ∧ ∃ cl, Hh D = some (.dK (refK cl)) ∧ cl.map (·.1) = ws.take i ∧ ∀ x ∈ cl, CellAt Hh x.2) ⟨Same.upd hD, [], upd_same, rfl, fun x hx => nomatch hx⟩ (fun i Hh _ z => sqt_same z.1 ht3) ?_ ?_
      · rintro i x H0 H4 hi ⟨S, cl, lD, hcl, hcs⟩ ⟨rfl, hx⟩
        obtain ⟨s', rfl, hs⟩ := strV_get hx
        refine ⟨rfl, _, rfl, by show 2 ≤ sizeLine; decide, fun c hc => ⟨by show 4 ≤ sizeLine; decide, fun t ht => ?_⟩⟩
        have nct : c ≠ t := fun z => by rw [← z, upd_same] at ht; cases ht
        have S6 : Same H4 (upd (upd H4 c (.tup [.int 0, .int 0])) t (.tup [.ref c, .int 0, .int 0, .non])) := Same.trans (Same.upd hc) (Same.upd ht)
        have lt : upd (upd H4 c (HO.tup [.int 0, .int 0])) t (HO.tup [.ref c, .int 0, .int 0, .non]) t = some (.tup [.ref c, .int 0, .int 0, .non]) := upd_same
        have lc : upd (upd H4 c (HO.tup [.int 0, .int 0])) t (HO.tup [.ref c, .int 0, .int 0, .non]) c = some (.tup [.int 0, .int 0]) := by rw [upd_ne nct, upd_same]
        generalize upd (upd H4 c (HO.tup [.int 0, .int 0])) t (HO.tup [.ref c, .int 0, .int 0, .non]) = H6 at S6 lt lc ⊢
        have hns : s' ∉ cl.map (·.1) := by
          rw [hcl]
          exact nd_at KO.nd hs
        have hll : cl.length ≤ 4 := by
          have e := congrArg List.length hcl
          rw [List.length_map, List.length_take] at e
          omega
        refine ⟨_, Sum.inr s', rfl, S6 _ _ lD, by unfold refK; rw [List.length_map, sizeLine_eq]; omega, EX.Same.updN (Same.trans S S6) hD, cl ++ [(s', t)], ?_, ?_, fun x hx => ?_⟩
        · rw [upd_same, refK_put hns]
        · rw [List.map_append, hcl, List.take_add_one, hs]
          rfl
        · refine CellAt.but (S6 _ _ lD) ?_
          rcases List.mem_append.mp hx with hx | hx
          · exact (hcs x hx).mono S6
          · rw [List.mem_singleton.mp hx]
            exact ⟨c, lt, lc⟩
      rintro H4 ⟨S4, cl, lD, hcl, hcs⟩
      rw [hlw, List.take_length] at hcl
      refine fun cp dy hcp hdy hne => ?_
      refine ⟨cp, dy, .ref n, .str "store", .non, .non, .ref D, rfl, upd_same, fun H5 ce kt k5 hp5 hce hkt => ⟨rfl, ?_⟩⟩
      have S45 := made_same hcp hdy hne k5
      have S35 := Same.trans S4 S45
      have hn5 := S35 _ _ hn3
      have ncp : cp ≠ n := (ne_by (S4 _ _ hn3) hcp).symm
      have ht5 := sqt_same S35 ht3
      have CA5 : CacheAt C H5 cp n ws := ⟨dy, D, ce, kt, cl, hp5, S45 _ _ lD, hcl, fun x hx => (hcs x hx).mono S45, hkt⟩
      have k05 : Keeps [n] H H5 := ((Keeps.of S02).trans k3).then S35
      clear hp5 hce hkt k5 hcp hdy hne S45 S35 lD hcs S4 ht3 k3 ht2
      have b0 : Bd N n dx H5 H5 ([("words", .ref tw)] : List (Str × V)) [] := Bd.start hn5
      refine ⟨_, rfl, n, N, dx, _, rfl, hn5, T.cl, T.f_top, by show 1 < 1000; decide, ?_⟩
      rw [show putF "top" (.ref cp) ([("words", .ref tw)] : List (Str × V)) = ([("words", .ref tw), ("top", .ref cp)] : List (Str × V)) from by rfl]
      have b2 := b0.put (fs' := ([("words", .ref tw), ("top", .ref cp)] : List (Str × V)))
      generalize upd H5 n (HO.ins N dx ([("words", .ref tw), ("top", .ref cp)] : List (Str × V))) = E2 at b2 ⊢
      -- nodes
      refine fun nd hnd => ?_
      refine ⟨_, rfl, n, N, dx, _, _, rfl, (b2.new (o := .dK []) hnd).at_, T.cl, T.f_top, rfl, upd_same, [(Sum.inr "store", .ref cp)], rfl, by show 1 ≤ 15; decide, ?_⟩
      rw [EX.upd_upd, show mergeK [] ([(Sum.inr "store", .ref cp)] : List (Key × V)) = ([(Sum.inr "store", .ref cp)] : List (Key × V)) from by rfl]
      have b2a := b2.new (o := .dK [(Sum.inr "store", .ref cp)]) hnd
      generalize upd E2 nd (HO.dK ([(Sum.inr "store", .ref cp)] : List (Key × V))) = E2a at b2a ⊢
      refine ⟨_, rfl, n, N, dx, _, rfl, b2a.at_, T.cl, T.f_nodes, by show 2 < 1000; decide, ?_⟩
      rw [show putF "nodes" (.ref nd) ([("words", .ref tw), ("top", .ref cp)] : List (Str × V)) = ([("words", .ref tw), ("top", .ref cp), ("nodes", .ref nd)] : List (Str × V)) from by rfl]
      have b3 := b2a.put (fs' := ([("words", .ref tw), ("top", .ref cp), ("nodes", .ref nd)] : List (Str × V)))
      generalize upd E2a n (HO.ins N dx ([("words", .ref tw), ("top", .ref cp), ("nodes", .ref nd)] : List (Str × V))) = E3 at b3 ⊢
      -- labels ..
      refine ⟨by show 1 ≤ sizeLine; decide, fun la hla => ?_⟩
      have b3a := b3.new (o := .tup [.str "store"]) hla
      generalize upd E3 la (HO.tup [.str "store"]) = E3a at b3a ⊢
      refine ⟨_, rfl, n, N, dx, _, rfl, b3a.at_, T.cl, T.f_labels, by show 3 < 1000; decide, ?_⟩
      rw [show putF "labels" (.ref la) ([("words", .ref tw), ("top", .ref cp), ("nodes", .ref nd)] : List (Str × V)) = ([("words", .ref tw), ("top", .ref cp), ("nodes", .ref nd), ("labels", .ref la)] : List (Str × V)) from by rfl]
      have b4 := b3a.put (fs' := ([("words", .ref tw), ("top", .ref cp), ("nodes", .ref nd), ("labels", .ref la)] : List (Str × V)))
      generalize upd E3a n (HO.ins N dx ([("words", .ref tw), ("top", .ref cp), ("nodes", .ref nd), ("labels", .ref la)] : List (Str × V))) = E4 at b4 ⊢
      refine fun rw hrw => ?_
      have b4a := b4.new (o := .dK []) hrw
      generalize upd E4 rw (HO.dK []) = E4a at b4a ⊢
      refine ⟨_, rfl, n, N, dx, _, rfl, b4a.at_, T.cl, T.f_rows, by show 4 < 1000; decide, ?_⟩
      rw [show putF "rows" (.ref rw) ([("words", .ref tw), ("top", .ref cp), ("nodes", .ref nd), ("labels", .ref la)] : List (Str × V)) = ([("words", .ref tw), ("top", .ref cp), ("nodes", .ref nd), ("labels", .ref la), ("rows", .ref rw)] : List (Str × V)) from by rfl]
      have b5 := b4a.put (fs' := ([("words", .ref tw), ("top", .ref cp), ("nodes", .ref nd), ("labels", .ref la), ("rows", .ref rw)] : List (Str × V)))
      generalize upd E4a n (HO.ins N dx ([("words", .ref tw), ("top", .ref cp), ("nodes", .ref nd), ("labels", .ref la), ("rows", .ref rw)] : List (Str × V))) = E5 at b5 ⊢
      refine ⟨by show 0 ≤ sizeLine; decide, fun dn hdn => ?_⟩
      have b5a := b5.new (o := .lst []) hdn
      generalize upd E5 dn (HO.lst []) = E5a at b5a ⊢
      refine ⟨_, rfl, n, N, dx, _, rfl, b5a.at_, T.cl, T.f_done, by show 5 < 1000; decide, ?_⟩
      rw [show putF "done" (.ref dn) ([("words", .ref tw), ("top", .ref cp), ("nodes", .ref nd), ("labels", .ref la), ("rows", .ref rw)] : List (Str × V)) = ([("words", .ref tw), ("top", .ref cp), ("nodes", .ref nd), ("labels", .ref la), ("rows", .ref rw), ("done", .ref dn)] : List (Str × V)) from by rfl]
      have b6 := b5a.put (fs' := ([("words", .ref tw), ("top", .ref cp), ("nodes", .ref nd), ("labels", .ref la), ("rows", .ref rw), ("done", .ref dn)] : List (Str × V)))
      generalize upd E5a n (HO.ins N dx ([("words", .ref tw), ("top", .ref cp), ("nodes", .ref nd), ("labels", .ref la), ("rows", .ref rw), ("done", .ref dn)] : List (Str × V))) = E6 at b6 ⊢
      -- kept
      have ht6 := b6.k.sqt' (fun q hq => by rw [List.mem_singleton.mp hq]; exact .ins hn5) ht5
      refine ⟨_, rfl, n, N, dx, _, _, rfl, b6.at_, T.cl, T.f_words, rfl, tw, rfl, ⟨_, ht6⟩, fun kp hkp => ?_⟩
      refine dc_it (walk_tup (K := K) (a := tw) (xs := strV ws)) (fun i Hh => Same E6 Hh ∧ ∃ kl, Hh kp = some (.dK (refK kl)) ∧ kl.map (·.1) = ws.take i ∧ ∀ x ∈ kl, Hh x.2 = some (.tup [])) ⟨Same.upd hkp, [], upd_same, rfl, fun x hx => nomatch hx⟩ (fun i Hh _ z => sqt_same z.1 ht6) ?_ ?_
      · rintro i x H0 H4 hi ⟨S, kl, lD, hcl, hcs⟩ ⟨rfl, hx⟩
        obtain ⟨s', rfl, hs⟩ := strV_get hx
        refine ⟨rfl, _, rfl, by show 0 ≤ sizeLine; decide, fun t ht => ?_⟩
        have S6 : Same H4 (upd H4 t (.tup [])) := Same.upd ht
        have lt : upd H4 t (HO.tup []) t = some (.tup []) := upd_same
        generalize upd H4 t (HO.tup []) = H6 at S6 lt ⊢
        have hns : s' ∉ kl.map (·.1) := by
          rw [hcl]
          exact nd_at KO.nd hs
        have hll : kl.length ≤ 4 := by
          have e := congrArg List.length hcl
          rw [List.length_map, List.length_take] at e
          omega
        refine ⟨_, Sum.inr s', rfl, S6 _ _ lD, by unfold refK; rw [List.length_map, sizeLine_eq]; omega, EX.Same.updN (Same.trans S S6) hkp, kl ++ [(s', t)], ?_, ?_, fun x hx => ?_⟩
        · rw [upd_same, refK_put hns]
        · rw [List.map_append, hcl, List.take_add_one, hs]
          rfl
        · have ne : ∀ {z : Addr}, H6 z = some (.tup []) → upd H6 kp (HO.dK (putK (refK kl) (Sum.inr s') (.ref t))) z = some (.tup []) := fun {z} e => by
            rw [upd_ne (fun q => by rw [q, S6 _ _ lD] at e; cases e)]
            exact e
          rcases List.mem_append.mp hx with hx | hx
          · exact ne (S6 _ _ (hcs x hx))
          · rw [List.mem_singleton.mp hx]
            exact ne lt
      rintro E6a ⟨S6, kl, lD, hkl, hks⟩
      rw [hlw, List.take_length] at hkl
      have b6a := (b6.same S6).addAll (m := (kp, .dK (refK kl)) :: kl.map fun x => (x.2, HO.tup [])) fun x hx => by
        rcases List.mem_cons.mp hx with rfl | hx
        · exact ⟨b6.ne hkp, lD⟩
        · obtain ⟨y, hy, rfl⟩ := List.mem_map.mp hx
          have e := hks y hy
          exact ⟨fun z => (by rw [show y.2 = n from z, S6 _ _ b6.at_] at e; cases e), e⟩
      refine ⟨_, rfl, n, N, dx, _, rfl, b6a.at_, T.cl, T.f_kept, by show 6 < 1000; decide, ?_⟩
      rw [show putF "kept" (.ref kp) ([("words", .ref tw), ("top", .ref cp), ("nodes", .ref nd), ("labels", .ref la), ("rows", .ref rw), ("done", .ref dn)] : List (Str × V)) = ([("words", .ref tw), ("top", .ref cp), ("nodes", .ref nd), ("labels", .ref la), ("rows", .ref rw), ("done", .ref dn), ("kept", .ref kp)] : List (Str × V)) from by rfl]
      have b7 := b6a.put (fs' := ([("words", .ref tw), ("top", .ref cp), ("nodes", .ref nd), ("labels", .ref la), ("rows", .ref rw), ("done", .ref dn), ("kept", .ref kp)] : List (Str × V)))
      generalize upd E6a n (HO.ins N dx ([("words", .ref tw), ("top", .ref cp), ("nodes", .ref nd), ("labels", .ref la), ("rows", .ref rw), ("done", .ref dn), ("kept", .ref kp)] : List (Str × V))) = E7 at b7 ⊢
      refine ⟨by show 0 ≤ sizeLine; decide, fun ac hac => ?_⟩
      have b7a := b7.new (o := .lst []) hac
      generalize upd E7 ac (HO.lst []) = E7a at b7a ⊢
      refine ⟨_, rfl, n, N, dx, _, rfl, b7a.at_, T.cl, T.f_accepted, by show 7 < 1000; decide, ?_⟩
      rw [show putF "accepted" (.ref ac) ([("words", .ref tw), ("top", .ref cp), ("nodes", .ref nd), ("labels", .ref la), ("rows", .ref rw), ("done", .ref dn), ("kept", .ref kp)] : List (Str × V)) = ([("words", .ref tw), ("top", .ref cp), ("nodes", .ref nd), ("labels", .ref la), ("rows", .ref rw), ("done", .ref dn), ("kept", .ref kp), ("accepted", .ref ac)] : List (Str × V)) from by rfl]
      have b8 := b7a.put (fs' := ([("words", .ref tw), ("top", .ref cp), ("nodes", .ref nd), ("labels", .ref la), ("rows", .ref rw), ("done", .ref dn), ("kept", .ref kp), ("accepted", .ref ac)] : List (Str × V)))
      generalize upd E7a n (HO.ins N dx ([("words", .ref tw), ("top", .ref cp), ("nodes", .ref nd), ("labels", .ref la), ("rows", .ref rw), ("done", .ref dn), ("kept", .ref kp), ("accepted", .ref ac)] : List (Str × V))) = E8 at b8 ⊢
      refine ⟨by show 0 ≤ sizeLine; decide, fun sm hsm => ?_⟩
      have b8a := b8.new (o := .lst []) hsm
      generalize upd E8 sm (HO.lst []) = E8a at b8a ⊢
      refine ⟨_, rfl, n, N, dx, _, rfl, b8a.at_, T.cl, T.f_stamps, by show 8 < 1000; decide, ?_⟩
      rw [show putF "stamps" (.ref sm) ([("words", .ref tw), ("top", .ref cp), ("nodes", .ref nd), ("labels", .ref la), ("rows", .ref rw), ("done", .ref dn), ("kept", .ref kp), ("accepted", .ref ac)] : List (Str × V)) = ([("words", .ref tw), ("top", .ref cp), ("nodes", .ref nd), ("labels", .ref la), ("rows", .ref rw), ("done", .ref dn), ("kept", .ref kp), ("accepted", .ref ac), ("stamps", .ref sm)] : List (Str × V)) from by rfl]
      have b9 := b8a.put (fs' := ([("words", .ref tw), ("top", .ref cp), ("nodes", .ref nd), ("labels", .ref la), ("rows", .ref rw), ("done", .ref dn), ("kept", .ref kp), ("accepted", .ref ac), ("stamps", .ref sm)] : List (Str × V)))
      generalize upd E8a n (HO.ins N dx ([("words", .ref tw), ("top", .ref cp), ("nodes", .ref nd), ("labels", .ref la), ("rows", .ref rw), ("done", .ref dn), ("kept", .ref kp), ("accepted", .ref ac), ("stamps", .ref sm)] : List (Str × V))) = E9 at b9 ⊢
      refine ⟨_, rfl, n, N, dx, _, rfl, b9.at_, T.cl, T.f_questions, by show 9 < 1000; decide, ?_⟩
      rw [show putF "questions" (.int 0) ([("words", .ref tw), ("top", .ref cp), ("nodes", .ref nd), ("labels", .ref la), ("rows", .ref rw), ("done", .ref dn), ("kept", .ref kp), ("accepted", .ref ac), ("stamps", .ref sm)] : List (Str × V)) = ([("words", .ref tw), ("top", .ref cp), ("nodes", .ref nd), ("labels", .ref la), ("rows", .ref rw), ("done", .ref dn), ("kept", .ref kp), ("accepted", .ref ac), ("stamps", .ref sm), ("questions", .int 0)] : List (Str × V)) from by rfl]
      have b10 := b9.put (fs' := ([("words", .ref tw), ("top", .ref cp), ("nodes", .ref nd), ("labels", .ref la), ("rows", .ref rw), ("done", .ref dn), ("kept", .ref kp), ("accepted", .ref ac), ("stamps", .ref sm), ("questions", .int 0)] : List (Str × V)))
      generalize upd E9 n (HO.ins N dx ([("words", .ref tw), ("top", .ref cp), ("nodes", .ref nd), ("labels", .ref la), ("rows", .ref rw), ("done", .ref dn), ("kept", .ref kp), ("accepted", .ref ac), ("stamps", .ref sm), ("questions", .int 0)] : List (Str × V))) = E10 at b10 ⊢
      refine fun tr htr => ?_
      have b10a := b10.new (o := .dK []) htr
      generalize upd E10 tr (HO.dK []) = E10a at b10a ⊢
      refine ⟨_, rfl, n, N, dx, _, rfl, b10a.at_, T.cl, T.f_trails, by show 10 < 1000; decide, ?_⟩
      rw [show putF "trails" (.ref tr) ([("words", .ref tw), ("top", .ref cp), ("nodes", .ref nd), ("labels", .ref la), ("rows", .ref rw), ("done", .ref dn), ("kept", .ref kp), ("accepted", .ref ac), ("stamps", .ref sm), ("questions", .int 0)] : List (Str × V)) = ([("words", .ref tw), ("top", .ref cp), ("nodes", .ref nd), ("labels", .ref la), ("rows", .ref rw), ("done", .ref dn), ("kept", .ref kp), ("accepted", .ref ac), ("stamps", .ref sm), ("questions", .int 0), ("trails", .ref tr)] : List (Str × V)) from by rfl]
      have b11 := b10a.put (fs' := ([("words", .ref tw), ("top", .ref cp), ("nodes", .ref nd), ("labels", .ref la), ("rows", .ref rw), ("done", .ref dn), ("kept", .ref kp), ("accepted", .ref ac), ("stamps", .ref sm), ("questions", .int 0), ("trails", .ref tr)] : List (Str × V)))
      generalize upd E10a n (HO.ins N dx ([("words", .ref tw), ("top", .ref cp), ("nodes", .ref nd), ("labels", .ref la), ("rows", .ref rw), ("done", .ref dn), ("kept", .ref kp), ("accepted", .ref ac), ("stamps", .ref sm), ("questions", .int 0), ("trails", .ref tr)] : List (Str × V))) = E11 at b11 ⊢
      refine fun an han => ?_
      have b11a := b11.new (o := .dK []) han
      generalize upd E11 an (HO.dK []) = E11a at b11a ⊢
      refine ⟨_, rfl, n, N, dx, _, rfl, b11a.at_, T.cl, T.f_answered, by show 11 < 1000; decide, ?_⟩
      rw [show putF "answered" (.ref an) ([("words", .ref tw), ("top", .ref cp), ("nodes", .ref nd), ("labels", .ref la), ("rows", .ref rw), ("done", .ref dn), ("kept", .ref kp), ("accepted", .ref ac), ("stamps", .ref sm), ("questions", .int 0), ("trails", .ref tr)] : List (Str × V)) = ([("words", .ref tw), ("top", .ref cp), ("nodes", .ref nd), ("labels", .ref la), ("rows", .ref rw), ("done", .ref dn), ("kept", .ref kp), ("accepted", .ref ac), ("stamps", .ref sm), ("questions", .int 0), ("trails", .ref tr), ("answered", .ref an)] : List (Str × V)) from by rfl]
      have b12 := b11a.put (fs' := ([("words", .ref tw), ("top", .ref cp), ("nodes", .ref nd), ("labels", .ref la), ("rows", .ref rw), ("done", .ref dn), ("kept", .ref kp), ("accepted", .ref ac), ("stamps", .ref sm), ("questions", .int 0), ("trails", .ref tr), ("answered", .ref an)] : List (Str × V)))
      generalize upd E11a n (HO.ins N dx ([("words", .ref tw), ("top", .ref cp), ("nodes", .ref nd), ("labels", .ref la), ("rows", .ref rw), ("done", .ref dn), ("kept", .ref kp), ("accepted", .ref ac), ("stamps", .ref sm), ("questions", .int 0), ("trails", .ref tr), ("answered", .ref an)] : List (Str × V))) = E12 at b12 ⊢
      refine fun rc hrc => ?_
      have b12a := b12.new (o := .dK []) hrc
      generalize upd E12 rc (HO.dK []) = E12a at b12a ⊢
      refine ⟨_, rfl, n, N, dx, _, rfl, b12a.at_, T.cl, T.f_receipts, by show 12 < 1000; decide, ?_⟩
      rw [show putF "receipts" (.ref rc) ([("words", .ref tw), ("top", .ref cp), ("nodes", .ref nd), ("labels", .ref la), ("rows", .ref rw), ("done", .ref dn), ("kept", .ref kp), ("accepted", .ref ac), ("stamps", .ref sm), ("questions", .int 0), ("trails", .ref tr), ("answered", .ref an)] : List (Str × V)) = ([("words", .ref tw), ("top", .ref cp), ("nodes", .ref nd), ("labels", .ref la), ("rows", .ref rw), ("done", .ref dn), ("kept", .ref kp), ("accepted", .ref ac), ("stamps", .ref sm), ("questions", .int 0), ("trails", .ref tr), ("answered", .ref an), ("receipts", .ref rc)] : List (Str × V)) from by rfl]
      have b13 := b12a.put (fs' := ([("words", .ref tw), ("top", .ref cp), ("nodes", .ref nd), ("labels", .ref la), ("rows", .ref rw), ("done", .ref dn), ("kept", .ref kp), ("accepted", .ref ac), ("stamps", .ref sm), ("questions", .int 0), ("trails", .ref tr), ("answered", .ref an), ("receipts", .ref rc)] : List (Str × V)))
      generalize upd E12a n (HO.ins N dx ([("words", .ref tw), ("top", .ref cp), ("nodes", .ref nd), ("labels", .ref la), ("rows", .ref rw), ("done", .ref dn), ("kept", .ref kp), ("accepted", .ref ac), ("stamps", .ref sm), ("questions", .int 0), ("trails", .ref tr), ("answered", .ref an), ("receipts", .ref rc)] : List (Str × V))) = E13 at b13 ⊢
      have ht13 := b13.k.sqt' (fun q hq => by rw [List.mem_singleton.mp hq]; exact .ins hn5) ht5
      have CA13 := CA5.keeps b13.k hn5 ncp
      refine k _ (k05.trans b13.k) ⟨dx, tw, cp, nd, la, rw, dn, kp, ac, sm, tr, an, rc, kl, b13.at_, ht13, CA13, b13.get 8, b13.get 7, b13.get 6, b13.get 5, b13.get 9, hkl, fun x hx => ?_, b13.get 4⟩
      exact (b13.own (x.2, .tup []) (.tail _ (.tail _ (.tail _ (.tail _ (.tail _ (List.mem_append_right _ (.tail _ (List.mem_map.mpr ⟨x, hx, rfl⟩))))))))).2
end
end K01
set_option Elab.async false
set_option linter.all false
set_option maxRecDepth 100000
set_option maxHeartbeats 4000000
namespace K01
open PySem L2 EX PyProof.Rows LamX
/-! ### looks at a net -/
theorem isW_ok {s : Str} (h : isW s = true) : PyData.strOk s = true := by
  unfold isW at h
  simp only [Bool.and_eq_true] at h
  have h2 := h.2.1
  unfold Txt.isascii at h2
  unfold PyData.strOk
  rw [Array.all_eq_true'] at h2 ⊢
  intro x hx
  have := h2 x hx
  simp only [decide_eq_true_eq] at this ⊢
  omega
/-- whether it is a text -/
def StrB (K : PySem.W.Frag) (H : Hp) (x : V) (b : Bool) : Prop := ∃ t : String, TyX K H x (.type t) ∧ PySem.W.kitOne K (.type t) (.type "str") = some b
theorem StrB.str {K : PySem.W.Frag} {H : Hp} (s : Str) : StrB K H (.str s) true := ⟨_, .base (.str _), kit_ty (by decide +kernel)⟩
theorem StrB.non {K : PySem.W.Frag} {H : Hp} : StrB K H .non false := ⟨_, .base .non, kit_ty (by decide +kernel)⟩
theorem StrB.int {K : PySem.W.Frag} {H : Hp} (n : Int) : StrB K H (.int n) false := ⟨_, .base (.int _), kit_ty (by decide +kernel)⟩
theorem StrB.bl {K : PySem.W.Frag} {H : Hp} (n : Bool) : StrB K H (.bl n) false := ⟨_, .base (.bl _), kit_ty (by decide +kernel)⟩
theorem StrB.seq {K : PySem.W.Frag} {H : Hp} {a : Addr} {xs : List V} (h : SqE K H a xs) : StrB K H (.ref a) false := by
  rcases h with h | h
  · exact ⟨_, tyx_lst h, kit_ty (by decide +kernel)⟩
  · exact ⟨_, tyx_tup h, kit_ty (by decide +kernel)⟩
theorem inStr (s : Str) (ws : List Str) : inV (.str s) (strV ws) = decide (s ∈ ws) := by
  induction ws with
  | nil => rfl
  | cons m t ih =>
    have e : inV (.str s) (strV (m :: t)) = ((m == s) || inV (.str s) (strV t)) := rfl
    rw [e, ih]
    by_cases h : m = s
    · rw [h]
      simp
    · have h2 : ¬ s = m := fun z => h z.symm
      simp [h, h2]
theorem flat_strV (ws : List Str) : (strV ws).all flatV = true := by
  rw [List.all_eq_true]
  intro x hx
  obtain ⟨s, _, rfl⟩ := List.mem_map.mp hx
  rfl
theorem nodes_val (s : Str) (cp : Addr) : valV [((Sum.inr "store" : Key), V.ref cp)] (Sum.inr s) = if s = "store" then some (.ref cp) else none := by
  by_cases h : s = "store"
  · rw [if_pos h, h]
    exact valV_pos rfl
  · rw [if_neg h]
    exact (valV_neg (fun z => h (Sum.inr.inj z).symm)).trans rfl
/-- isinstance of the net -/
structure IsiC (K : PySem.W.Frag) (N : Addr) : Prop where
  ha : PySem.W.findIn K (.ref N) "__class__" = some (some (.builtin "object.__class__"))
  hn : PySem.W.specialIn K (.builtin "object.__class__") "__get__" = some (some (.builtin "getset_descriptor.__get__"))
  hk : PySem.W.takesIn K (.builtin "object.__class__") = some true
  hm : PySem.W.mroIn K N (.type "object") = some true
  me : PySem.W.kitOne K (.ref N) (.ref N) = some true
def spKeyNames (K : PySem.W.Frag) (C N : Addr) : Sp := fun vs H Q _ => ∃ n ws, vs = [.ref n] ∧ NetAt K C N H n ws ∧ ∀ tw, SqT K H tw (strV ws) → Q (.ref tw) H
def spNames (K : PySem.W.Frag) (C N : Addr) : Sp := fun vs H Q _ => ∃ n ws, vs = [.ref n] ∧ NetAt K C N H n ws ∧ ∀ tw, H tw = some (.tup [.str "store"]) → Q (.ref tw) H
def spEmptyT (K : PySem.W.Frag) (C N : Addr) : Sp := fun vs H Q _ => ∃ n ws, vs = [.ref n] ∧ NetAt K C N H n ws ∧ ∀ tw H', Same H H' → SqT K H' tw [] → Q (.ref tw) H'
def spNLen (K : PySem.W.Frag) (C N : Addr) : Sp := fun vs H Q _ => ∃ n ws, vs = [.ref n] ∧ NetAt K C N H n ws ∧ Q (.int 1) H
def spNIn (K : PySem.W.Frag) (C N : Addr) : Sp := fun vs H Q _ => ∃ n ws x, vs = [.ref n, x] ∧ NetAt K C N H n ws ∧ ((∃ s, x = .str s ∧ Q (.bl (decide (s = "store"))) H) ∨ (StrB K H x false ∧ Q (.bl false) H))
def spNEq (K : PySem.W.Frag) (C N : Addr) : Sp := fun vs H Q _ => ∃ n m ws wt, vs = [.ref n, .ref m] ∧ NetAt K C N H n ws ∧ NetAt K C N H m wt ∧ KeysOk ws ∧ KeysOk wt ∧ Q (.bl (decide (ws = wt))) H
def spCkKey (K : PySem.W.Frag) (C N : Addr) : Sp := fun vs H Q _ => ∃ n ws s, vs = [.ref n, .str s] ∧ NetAt K C N H n ws ∧ s ∈ ws ∧ Q .non H
def spMsg (K : PySem.W.Frag) (C N : Addr) : Sp := fun vs H Q _ => ∃ n ws x y, vs = [.ref n, x, y] ∧ NetAt K C N H n ws ∧ (StrB K H x false ∨ ∃ s t, x = .str s ∧ y = .str t) ∧ ∀ l H', Same H H' → H' l = some (.lst []) → Q (.ref l) H'
def spAge (K : PySem.W.Frag) (C N : Addr) : Sp := fun vs H Q _ => ∃ n ws s, vs = [.ref n, .str "store", .str s] ∧ NetAt K C N H n ws ∧ s ∈ ws ∧ Q (.int 0) H
abbrev sKn : Stmt := inClass (top 35) 2
theorem scKn : FnScope ["self"] ["self"] (defScope sKn) := ⟨rfl, rfl, rfl, by decide +kernel, rfl, by decide +kernel, by decide +kernel⟩
abbrev sNm : Stmt := inClass (top 35) 3
theorem scNm : FnScope ["self"] ["self"] (defScope sNm) := ⟨rfl, rfl, rfl, by decide +kernel, rfl, by decide +kernel, by decide +kernel⟩
abbrev sHi : Stmt := inClass (top 35) 4
theorem scHi : FnScope ["self"] ["self"] (defScope sHi) := ⟨rfl, rfl, rfl, by decide +kernel, rfl, by decide +kernel, by decide +kernel⟩
abbrev sOd : Stmt := inClass (top 35) 5
theorem scOd : FnScope ["self"] ["self"] (defScope sOd) := ⟨rfl, rfl, rfl, by decide +kernel, rfl, by decide +kernel, by decide +kernel⟩
abbrev sNl : Stmt := inClass (top 35) 6
theorem scNl : FnScope ["self"] ["self"] (defScope sNl) := ⟨rfl, rfl, rfl, by decide +kernel, rfl, by decide +kernel, by decide +kernel⟩
abbrev sNc : Stmt := inClass (top 35) 7
theorem scNc : FnScope ["self", "x"] ["self", "x"] (defScope sNc) := ⟨rfl, rfl, rfl, by decide +kernel, rfl, by decide +kernel, by decide +kernel⟩
abbrev sNe : Stmt := inClass (top 35) 10
theorem scNe : FnScope ["self", "other"] ["self", "other"] (defScope sNe) := ⟨rfl, rfl, rfl, by decide +kernel, rfl, by decide +kernel, by decide +kernel⟩
abbrev sKc : Stmt := inClass (top 35) 12
theorem scKc : FnScope ["self", "key"] ["self", "key"] (defScope sKc) := ⟨rfl, rfl, rfl, by decide +kernel, rfl, by decide +kernel, by decide +kernel⟩
abbrev sMs : Stmt := inClass (top 35) 29
theorem scMs : FnScope ["self", "sender", "receiver", "rows"] ["self", "sender", "receiver"] (defScope sMs) := ⟨rfl, rfl, rfl, by decide +kernel, rfl, by decide +kernel, by decide +kernel⟩
abbrev sAg : Stmt := inClass (top 35) 28
theorem scAg : FnScope ["self", "name", "key", "cell"] ["self", "name", "key"] (defScope sAg) := ⟨rfl, rfl, rfl, by decide +kernel, rfl, by decide +kernel, by decide +kernel⟩
section
variable {P : Program} {w : World} {K : PySem.W.Frag} {mg : Str → Option Value} {base : Heap}
theorem ok_key_names {C N f : Addr} {fd : FuncData} (F : Fun K "key_names" "Net.key_names" sKn f fd) (B : Bn mg) (T : NetC K N) : FnOk P w K mg base CX0 1 f fd ["self"] (spKeyNames K C N) := by
  refine F.ok scKn (fun vs H Q E h => ?_) (fun cdv A outer s H vs Q E hr h => ?_)
  · obtain ⟨n, ws, rfl, _⟩ := h
    rfl
  · obtain ⟨n, ws, rfl, hN, k⟩ := h
    have hu := hu_of hr
    have hu64 : _ + 64 < cLine := hr.units
    obtain ⟨dx, tw, cp, nd, la, rw, dn, kp, ac, sm, tr, an, rc, kl, hn, htw, hcp, hnd, hla, hrw, hdn, hkp, hkl, hks, hac⟩ := hN.ex
    refine ⟨_, (pss_one (ps_ret (pe_fld (pv 0) rfl))), ?_⟩
    exact ⟨_, rfl, n, N, dx, _, _, rfl, hn, T.cl, T.f_words, rfl, k _ htw⟩
theorem ok_names {C N f : Addr} {fd : FuncData} (F : Fun K "names" "Net.names" sNm f fd) (B : Bn mg) (T : NetC K N) : FnOk P w K mg base CX0 1 f fd ["self"] (spNames K C N) := by
  refine F.ok scNm (fun vs H Q E h => ?_) (fun cdv A outer s H vs Q E hr h => ?_)
  · obtain ⟨n, ws, rfl, _⟩ := h
    rfl
  · obtain ⟨n, ws, rfl, hN, k⟩ := h
    have hu := hu_of hr
    have hu64 : _ + 64 < cLine := hr.units
    obtain ⟨dx, tw, cp, nd, la, rw, dn, kp, ac, sm, tr, an, rc, kl, hn, htw, hcp, hnd, hla, hrw, hdn, hkp, hkl, hks, hac⟩ := hN.ex
    refine ⟨_, (pss_one (ps_ret (pe_fld (pv 0) rfl))), ?_⟩
    exact ⟨_, rfl, n, N, dx, _, _, rfl, hn, T.cl, T.f_labels, rfl, k _ hla⟩
theorem ok_history {C N f : Addr} {fd : FuncData} (F : Fun K "history" "Net.history" sHi f fd) (B : Bn mg) (T : NetC K N) : FnOk P w K mg base CX0 1 f fd ["self"] (spEmptyT K C N) := by
  refine F.ok scHi (fun vs H Q E h => ?_) (fun cdv A outer s H vs Q E hr h => ?_)
  · obtain ⟨n, ws, rfl, _⟩ := h
    rfl
  · obtain ⟨n, ws, rfl, hN, k⟩ := h
    have hu := hu_of hr
    have hu64 : _ + 64 < cLine := hr.units
    obtain ⟨dx, tw, cp, nd, la, rw, dn, kp, ac, sm, tr, an, rc, kl, hn, htw, hcp, hnd, hla, hrw, hdn, hkp, hkl, hks, hac⟩ := hN.ex
    refine ⟨_, (pss_one (ps_ret (pe_tupleOf (by rfl) B.tuple (pe_fld (pv 0) rfl)))), ?_⟩
    exact ⟨_, rfl, n, N, dx, _, _, rfl, hn, T.cl, T.f_done, rfl, k_tup (.inl (SqL.of hdn)) fun q H' S h => k q H' S h⟩
theorem ok_order {C N f : Addr} {fd : FuncData} (F : Fun K "order" "Net.order" sOd f fd) (B : Bn mg) (T : NetC K N) : FnOk P w K mg base CX0 1 f fd ["self"] (spEmptyT K C N) := by
  refine F.ok scOd (fun vs H Q E h => ?_) (fun cdv A outer s H vs Q E hr h => ?_)
  · obtain ⟨n, ws, rfl, _⟩ := h
    rfl
  · obtain ⟨n, ws, rfl, hN, k⟩ := h
    have hu := hu_of hr
    have hu64 : _ + 64 < cLine := hr.units
    obtain ⟨dx, tw, cp, nd, la, rw, dn, kp, ac, sm, tr, an, rc, kl, hn, htw, hcp, hnd, hla, hrw, hdn, hkp, hkl, hks, hac⟩ := hN.ex
    refine ⟨_, (pss_one (ps_ret (pe_tupleOf (by rfl) B.tuple (pe_fld (pv 0) rfl)))), ?_⟩
    exact ⟨_, rfl, n, N, dx, _, _, rfl, hn, T.cl, T.f_accepted, rfl, k_tup (.inl (SqL.of hac)) fun q H' S h => k q H' S h⟩
theorem ok_nlen {C N f : Addr} {fd : FuncData} (F : Fun K "__len__" "Net.__len__" sNl f fd) (B : Bn mg) (T : NetC K N) : FnOk P w K mg base CX0 1 f fd ["self"] (spNLen K C N) := by
  refine F.ok scNl (fun vs H Q E h => ?_) (fun cdv A outer s H vs Q E hr h => ?_)
  · obtain ⟨n, ws, rfl, _⟩ := h
    rfl
  · obtain ⟨n, ws, rfl, hN, k⟩ := h
    have hu := hu_of hr
    have hu64 : _ + 64 < cLine := hr.units
    obtain ⟨dx, tw, cp, nd, la, rw, dn, kp, ac, sm, tr, an, rc, kl, hn, htw, hcp, hnd, hla, hrw, hdn, hkp, hkl, hks, hac⟩ := hN.ex
    refine ⟨_, (pss_one (ps_ret (pe_callB call_lenD (by rfl) B.len PySem.boot_len (pa_cons (pe_fld (pv 0) rfl) pa_nil)))), ?_⟩
    exact ⟨_, rfl, n, N, dx, _, _, rfl, hn, T.cl, T.f_nodes, rfl, nd, _, rfl, hnd, k⟩
theorem ok_nin {C N f : Addr} {fd : FuncData} (F : Fun K "__contains__" "Net.__contains__" sNc f fd) (B : Bn mg) (T : NetC K N) : FnOk P w K mg base CX0 1 f fd ["self", "x"] (spNIn K C N) := by
  refine F.ok scNc (fun vs H Q E h => ?_) (fun cdv A outer s H vs Q E hr h => ?_)
  · obtain ⟨n, ws, x, rfl, _⟩ := h
    rfl
  · obtain ⟨n, ws, x, rfl, hN, k⟩ := h
    have hu := hu_of hr
    have hu64 : _ + 64 < cLine := hr.units
    obtain ⟨dx, tw, cp, nd, la, rw, dn, kp, ac, sm, tr, an, rc, kl, hn, htw, hcp, hnd, hla, hrw, hdn, hkp, hkl, hks, hac⟩ := hN.ex
    refine ⟨_, (pss_one (ps_ret (pe_and (pe_callB call_isi (by rfl) B.isi PyProof.Rows.boot_isinstance (pa_cons (pv 1) (pa_cons (pe_bltn (v := .ty "str") (by rfl) B.str (by decide +kernel) rfl) pa_nil))) (pe_one (pe_cmp (pc_din hu (pv 1) (pe_fld (pv 0) rfl))))))), ?_⟩
    rcases k with ⟨s, rfl, k⟩ | ⟨⟨t, ty, hk⟩, k⟩
    · refine ⟨_, rfl, _, _, _, _, true, rfl, .ty _, .base (.str _), kit_ty (by decide +kernel), _, rfl, iteT ?_⟩
      refine ⟨_, rfl, _, rfl, n, N, dx, _, _, rfl, hn, T.cl, T.f_nodes, rfl, nd, _, rfl, .inl ⟨_, Sum.inr s, .inl hnd, rfl, rfl⟩, ?_⟩
      rw [nodes_val]
      by_cases hs : s = "store"
      · rw [if_pos hs]
        rw [decide_eq_true hs] at k
        exact k
      · rw [if_neg hs]
        rw [decide_eq_false hs] at k
        exact k
    · exact ⟨_, rfl, _, _, _, _, false, rfl, .ty _, ty, hk, _, rfl, iteF k⟩
theorem ok_neq {C N f : Addr} {fd : FuncData} (F : Fun K "__eq__" "Net.__eq__" sNe f fd) (B : Bn mg) (T : NetC K N) (I : IsiC K N) (mN : mg "Net" = some (.ref N)) : FnOk P w K mg base CX0 1 f fd ["self", "other"] (spNEq K C N) := by
  refine F.ok scNe (fun vs H Q E h => ?_) (fun cdv A outer s H vs Q E hr h => ?_)
  · obtain ⟨n, m, ws, wt, rfl, _⟩ := h
    rfl
  · obtain ⟨n, m, ws, wt, rfl, hN, hM, KO, KP, k⟩ := h
    have hu := hu_of hr
    have hu64 : _ + 64 < cLine := hr.units
    obtain ⟨dx, tw, cp, nd, la, rw, dn, kp, ac, sm, tr, an, rc, kl, hn, htw, hcp, hnd, hla, hrw, hdn, hkp, hkl, hks, hac⟩ := hN.ex
    refine ⟨_, (pss_one (ps_ret (pe_and (pe_callB call_isi (by rfl) B.isi PyProof.Rows.boot_isinstance (pa_cons (pv 1) (pa_cons (pe_glob (v := .ref N) (by rfl) mN rfl) pa_nil))) (pe_and (pe_cmpR (op_eqD hu64) (pe_fld (pv 0) rfl) (pe_fld (pv 1) rfl) (nomark _)) (pe_one (pe_cmpR (op_eqD hu64) (pe_fld (pv 0) rfl) (pe_fld (pv 1) rfl) (nomark _))))))), ?_⟩
    obtain ⟨dx', tw', cp', nd', la', rw', dn', kp', ac', sm', tr', an', rc', kl', hn', htw', hcp', hnd', hla', hrw', hdn', hkp', hkl', hks', hac'⟩ := hM.ex
    have ok1 : ∀ s ∈ ws, PyData.strOk s = true := fun s hs => isW_ok (KO.wd s hs)
    have ok2 : ∀ s ∈ wt, PyData.strOk s = true := fun s hs => isW_ok (KP.wd s hs)
    refine ⟨_, rfl, _, _, _, _, true, rfl, .own N, .base (.ins hn' T.cl I.ha I.hn I.hk I.hm), I.me, _, rfl, iteT ?_⟩
    refine ⟨_, rfl, n, N, dx, _, _, rfl, hn, T.cl, T.f_words, rfl, _, rfl, m, N, dx', _, _, rfl, hn', T.cl, T.f_words, rfl, _, _, .tup htw (dpAll_strs _), .tup htw' (dpAll_strs _), shaped_strsT ok1, shaped_strsT ok2, ?_⟩
    rw [show PyData.eqv (.tuple (ws.map PyData.str)) (.tuple (wt.map PyData.str)) = decide (ws = wt) from eqv_strs ws wt]
    by_cases h : ws = wt
    · rw [decide_eq_true h] at k ⊢
      refine ⟨_, rfl, iteT ?_⟩
      exact ⟨_, rfl, n, N, dx, _, _, rfl, hn, T.cl, T.f_done, rfl, _, rfl, m, N, dx', _, _, rfl, hn', T.cl, T.f_done, rfl, _, _, .lst (SqL.of hdn) .nil, .lst (SqL.of hdn') .nil, rfl, rfl, k⟩
    · rw [decide_eq_false h] at k ⊢
      exact ⟨_, rfl, iteF k⟩
theorem ok_ckey {C N f : Addr} {fd : FuncData} (F : Fun K "check_key" "Net.check_key" sKc f fd) (B : Bn mg) (T : NetC K N) : FnOk P w K mg base CX0 1 f fd ["self", "key"] (spCkKey K C N) := by
  refine F.ok scKc (fun vs H Q E h => ?_) (fun cdv A outer s H vs Q E hr h => ?_)
  · obtain ⟨n, ws, s, rfl, _⟩ := h
    rfl
  · obtain ⟨n, ws, s, rfl, hN, hs, k⟩ := h
    have hu := hu_of hr
    have hu64 : _ + 64 < cLine := hr.units
    obtain ⟨dx, tw, cp, nd, la, rw, dn, kp, ac, sm, tr, an, rc, kl, hn, htw, hcp, hnd, hla, hrw, hdn, hkp, hkl, hks, hac⟩ := hN.ex
    refine ⟨_, (pss_one (ps_if (PW.pt (pw_or (pt_not (pt_val (pe_callB call_isi (by rfl) B.isi PyProof.Rows.boot_isinstance (pa_cons (pv 1) (pa_cons (pe_bltn (v := .ty "str") (by rfl) B.str (by decide +kernel) rfl) pa_nil))))) (pw_or1 (pt_cmpR op_notIn_seq (pv 1) (pe_fld (pv 0) rfl) (by rfl))))) (pss_one ps_never) pss_nil)), ?_⟩
    refine ⟨_, rfl, _, _, _, _, true, rfl, .ty _, .base (.str _), kit_ty (by decide +kernel), _, rfl, iteF ?_⟩
    refine ⟨_, rfl, _, rfl, n, N, dx, _, _, rfl, hn, T.cl, T.f_words, rfl, tw, _, rfl, .inr htw, rfl, flat_strV _, ?_⟩
    rw [inStr, decide_eq_true hs]
    exact ⟨_, rfl, iteF k⟩
theorem ok_msg {C N f : Addr} {fd : FuncData} (F : Fun K "messages" "Net.messages" sMs f fd) (B : Bn mg) (T : NetC K N) : FnOk P w K mg base CX0 1 f fd ["self", "sender", "receiver"] (spMsg K C N) := by
  refine F.ok scMs (fun vs H Q E h => ?_) (fun cdv A outer s H vs Q E hr h => ?_)
  · obtain ⟨n, ws, x, y, rfl, _⟩ := h
    rfl
  · obtain ⟨n, ws, x, y, rfl, hN, hx, k⟩ := h
    have hu := hu_of hr
    have hu64 : _ + 64 < cLine := hr.units
    obtain ⟨dx, tw, cp, nd, la, rw, dn, kp, ac, sm, tr, an, rc, kl, hn, htw, hcp, hnd, hla, hrw, hdn, hkp, hkl, hks, hac⟩ := hN.ex
    refine ⟨_, (pss_cons (ps_set (i := 3) scMs.nd rfl (Or.inl rfl) (pe_fld (pv 0) rfl))
        (pss_cons (ps_if (PW.pt (pw_and (pt_val (pe_callB call_isi (by rfl) B.isi PyProof.Rows.boot_isinstance (pa_cons (pv 1) (pa_cons (pe_bltn (v := .ty "str") (by rfl) B.str (by decide +kernel) rfl) pa_nil)))) (pw_and1 (pt_val (pe_callB call_isi (by rfl) B.isi PyProof.Rows.boot_isinstance (pa_cons (pv 2) (pa_cons (pe_bltn (v := .ty "str") (by rfl) B.str (by decide +kernel) rfl) pa_nil))))))) (pss_cons (ps_if (PW.pt (pw_and (pt_cmp (pc_din hu (pv 2) (pv 3))) (pw_and1 (pt_cmpR op_eq (pe_fld (pe_dget hu (pv 3) (pv 2) (fun _ _ => rfl)) rfl) (pv 1) (nomark _))))) (pss_one ps_never) pss_nil)
        (pss_one (ps_if (PW.pt (pw_and (pt_cmp (pc_din hu (pv 1) (pv 3))) (pw_and1 (pt_cmpR op_eq (pe_fld (pe_dget hu (pv 3) (pv 1) (fun _ _ => rfl)) rfl) (pv 2) (nomark _))))) (pss_one ps_never) pss_nil))) pss_nil)
        (pss_one (ps_ret (pe_lst pa_nil))))), ?_⟩
    refine ⟨_, rfl, n, N, dx, _, _, rfl, hn, T.cl, T.f_rows, rfl, ?_⟩
    have fin : ∀ p, H p = none → Q (.ref p) (upd H p (.lst [])) := fun p hp => k p _ (Same.upd hp) upd_same
    rcases hx with ⟨t, ty, hk⟩ | ⟨s, t, rfl, rfl⟩
    · refine ⟨_, rfl, _, _, _, _, false, rfl, .ty _, ty, hk, _, rfl, iteF ?_⟩
      exact ⟨by show 0 ≤ sizeLine; decide, fin⟩
    · refine ⟨_, rfl, _, _, _, _, true, rfl, .ty _, .base (.str _), kit_ty (by decide +kernel), _, rfl, iteT ?_⟩
      refine ⟨_, rfl, _, _, _, _, true, rfl, .ty _, .base (.str _), kit_ty (by decide +kernel), _, rfl, iteT ?_⟩
      have g0 : ∀ s : Str, DGet H rw (.str s) none := fun s => .inl ⟨[], Sum.inr s, .inl hrw, rfl, rfl⟩
      refine ⟨_, rfl, _, rfl, rw, _, rfl, g0 t, _, rfl, iteF ?_⟩
      refine ⟨_, rfl, _, rfl, rw, _, rfl, g0 s, _, rfl, iteF ?_⟩
      exact ⟨by show 0 ≤ sizeLine; decide, fin⟩
theorem ok_age {C N f : Addr} {fd : FuncData} (F : Fun K "age" "Net.age" sAg f fd) (B : Bn mg) (T : NetC K N) (TC : CacheC K C) (GCk : MtAt P w K mg base CX0 1 N "check_key" ["self", "key"] (spCkKey K C N)) : FnOk P w K mg base CX0 2 f fd ["self", "name", "key"] (spAge K C N) := by
  refine F.ok scAg (fun vs H Q E h => ?_) (fun cdv A outer s H vs Q E hr h => ?_)
  · obtain ⟨n, ws, s, rfl, _⟩ := h
    rfl
  · obtain ⟨n, ws, s, rfl, hN, hs, k⟩ := h
    have hu := hu_of hr
    have hu64 : _ + 64 < cLine := hr.units
    obtain ⟨dx, tw, cp, nd, la, rw, dn, kp, ac, sm, tr, an, rc, kl, hn, htw, hcp, hnd, hla, hrw, hdn, hkp, hkl, hks, hac⟩ := hN.ex
    refine ⟨_, (pss_cons (ps_if (PW.pt (pw_or (pt_not (pt_val (pe_callB call_isi (by rfl) B.isi PyProof.Rows.boot_isinstance (pa_cons (pv 1) (pa_cons (pe_bltn (v := .ty "str") (by rfl) B.str (by decide +kernel) rfl) pa_nil))))) (pw_or1 (pt_cmp (pc_dnotin hu (pv 1) (pe_fld (pv 0) rfl)))))) (pss_one ps_never) pss_nil)
        (pss_cons (ps_expr (pe_mtD GCk (hr.mono (by decide)) (pv 0) (pa_cons (pv 2) pa_nil)))
        (pss_cons (ps_set (i := 3) scAg.nd rfl (Or.inl rfl) (pe_dget hu (pe_fld (pe_dget hu (pe_fld (pv 0) rfl) (pv 1) (fun _ _ => rfl)) rfl) (pv 2) (fun _ _ => rfl)))
        (pss_cons (ps_if (pt_cmp (pc_isN (pv 3))) (pss_one ps_never) pss_nil)
        (pss_one (ps_ret (pe_op op_sub (pe_ix ix_tup (pe_dget hu (pe_fld (pe_fld (pv 0) rfl) rfl) (pv 2) (fun _ _ => rfl)) pe_int (fun _ _ => rfl)) (pe_ix ix_tup (pe_ix ix_tup (pv 3) pe_int (fun _ _ => rfl)) pe_int (fun _ _ => rfl))))))))), ?_⟩
    obtain ⟨dxc, cd, ce, kt, cl, hp, hcd, hcl, hcs, hkt⟩ := hcp.ex
    obtain ⟨t, hv, hm⟩ := refK_val (cl := cl) (s := s) (by rw [hcl]; exact hs)
    obtain ⟨c, ht, hc0⟩ := hcs _ hm
    have hg : DGet H cd (.str s) (some (.ref t)) := .inl ⟨refK cl, Sum.inr s, .inl hcd, rfl, hv.symm⟩
    have hgn : DGet H nd (.str "store") (some (.ref cp)) := .inl ⟨_, Sum.inr "store", .inl hnd, rfl, by rw [nodes_val]; rfl⟩
    refine ⟨_, rfl, _, _, _, _, true, rfl, .ty _, .base (.str _), kit_ty (by decide +kernel), _, rfl, iteF ?_⟩
    refine ⟨_, rfl, _, rfl, n, N, dx, _, _, rfl, hn, T.cl, T.f_nodes, rfl, nd, _, rfl, hgn, _, rfl, iteF ?_⟩
    refine ⟨_, rfl, n, dx, _, rfl, hn, rfl, _, rfl, n, ws, s, rfl, hN, hs, ?_⟩
    refine ⟨_, rfl, n, N, dx, _, _, rfl, hn, T.cl, T.f_nodes, rfl, _, rfl, nd, _, rfl, hgn, cp, C, dxc, _, _, rfl, hp, TC.cl, TC.cells, rfl, _, rfl, cd, _, rfl, hg, ?_⟩
    refine ⟨_, rfl, _, rfl, ifF isNone ?_⟩
    refine ⟨_, rfl, n, N, dx, _, _, rfl, hn, T.cl, T.f_top, rfl, cp, C, dxc, _, _, rfl, hp, TC.cl, TC.cells, rfl, _, rfl, cd, _, rfl, hg, t, _, _, _, rfl, rfl, SqT.of ht, atI_nat (j := 2) rfl, ?_⟩
    exact ⟨_, rfl, t, _, _, _, rfl, rfl, SqT.of ht, atI_nat (j := 0) rfl, c, _, _, _, rfl, rfl, SqT.of hc0, atI_nat (j := 0) rfl, _, _, rfl, rfl, k⟩
end
end K01
set_option Elab.async false
set_option linter.all false
set_option maxRecDepth 100000
set_option maxHeartbeats 4000000
namespace K01
open PySem L2 EX PyProof.Rows LamX
/-! ### what is refused -/
/-- no text of the list, or no text at all -/
def BadOf (K : PySem.W.Frag) (H : Hp) (ws : List Str) (x : V) : Prop := (∃ s, x = .str s ∧ s ∉ ws) ∨ StrB K H x false
/-- what is raised: an own exception of one field -/
def Rais (E : XK) (H : Hp) (C : Addr) (f : Str) (x : V) : Prop := ∀ d H', Same H H' → H d = none → H' d = some (.xd [(f, x)]) → E (.ref C) (some d) H'
def spNGet (K : PySem.W.Frag) (C N UN : Addr) : Sp := fun vs H Q E => ∃ n ws x, vs = [.ref n, x] ∧ NetAt K C N H n ws ∧ ((x = .str "store" ∧ ∀ cp, CacheAt C H cp n ws → Q (.ref cp) H) ∨ (BadOf K H ["store"] x ∧ Rais E H UN "node" x))
def spNumber (K : PySem.W.Frag) (C N UK : Addr) : Sp := fun vs H Q E => ∃ n ws x, vs = [.ref n, x] ∧ NetAt K C N H n ws ∧ ((∃ s, x = .str s ∧ s ∈ ws ∧ Q (.int 0) H) ∨ (BadOf K H ws x ∧ Rais E H UK "word" x))
def spWaiting (K : PySem.W.Frag) (C N UK : Addr) : Sp := fun vs H Q E => ∃ n ws x, vs = [.ref n, x] ∧ NetAt K C N H n ws ∧ ((∃ s, x = .str s ∧ s ∈ ws ∧ ∀ l H', Same H H' → H' l = some (.lst []) → Q (.ref l) H') ∨ (BadOf K H ws x ∧ Rais E H UK "word" x))
/-- no whole number -/
def NotNum (K : PySem.W.Frag) (H : Hp) (v : V) : Prop := (∃ t : String, TyX K H v (.type t) ∧ PySem.W.kitOne K (.type t) (.type "int") = some false) ∨ ∃ b, v = .bl b
def spWrite (K : PySem.W.Frag) (C N UK IV : Addr) : Sp := fun vs H Q E => ∃ n ws x v, vs = [.ref n, x, v] ∧ NetAt K C N H n ws ∧ ((BadOf K H ws x ∧ Rais E H UK "word" x) ∨ (∃ s, x = .str s ∧ s ∈ ws ∧ NotNum K H v ∧ Rais E H IV "given" v))
def spLinks (K : PySem.W.Frag) (C N : Addr) : SpG := fun vs H Q _ => ∃ n ws, vs = [.ref n] ∧ NetAt K C N H n ws ∧ ∀ H', Same H H' → Q [] H'
abbrev sNg : Stmt := inClass (top 35) 8
theorem scNg : FnScope ["self", "at"] ["self", "at"] (defScope sNg) := ⟨rfl, rfl, rfl, by decide +kernel, rfl, by decide +kernel, by decide +kernel⟩
abbrev sNu : Stmt := inClass (top 35) 26
theorem scNu : FnScope ["self", "key"] ["self", "key"] (defScope sNu) := ⟨rfl, rfl, rfl, by decide +kernel, rfl, by decide +kernel, by decide +kernel⟩
abbrev sWa : Stmt := inClass (top 35) 27
theorem scWa : FnScope ["self", "key"] ["self", "key"] (defScope sWa) := ⟨rfl, rfl, rfl, by decide +kernel, rfl, by decide +kernel, by decide +kernel⟩
abbrev sWr : Stmt := inClass (top 35) 15
theorem scWr : FnScope ["self", "key", "value", "waiting", "number"] ["self", "key", "value"] (defScope sWr) := ⟨rfl, rfl, rfl, by decide +kernel, rfl, by decide +kernel, by decide +kernel⟩
section
variable {P : Program} {w : World} {K : PySem.W.Frag} {mg : Str → Option Value} {base : Heap}
theorem ok_nget {C N UN UK IV f : Addr} {fd : FuncData} (F : Fun K "__getitem__" "Net.__getitem__" sNg f fd) (B : Bn mg) (hKE : mg "KeyError" = none) (T : NetC K N) (XN : XrAt P w K mg base "UnknownNode" "node" UN) : FnOk P w K mg base (L2.CX P w) 3 f fd ["self", "at"] (spNGet K C N UN) := by
  refine F.okX scNg (fun vs H Q E h => ?_) (fun cdv A outer s H vs Q E hr h => ?_)
  · obtain ⟨n, ws, x, rfl, _⟩ := h
    rfl
  · obtain ⟨n, ws, x, rfl, hN, k⟩ := h
    have hu := hu_of hr
    have hu64 : _ + 64 < cLine := hr.units
    obtain ⟨dx, tw, cp, nd, la, rw, dn, kp, ac, sm, tr, an, rc, kl, hn, htw, hcp, hnd, hla, hrw, hdn, hkp, hkl, hks, hac⟩ := hN.ex
    refine ⟨_, (pss_cons (ps_if (pt_val (pe_callB call_isi (by rfl) B.isi PyProof.Rows.boot_isinstance (pa_cons (pv 1) (pa_cons (pe_bltn (v := .ty "str") (by rfl) B.str (by decide +kernel) rfl) pa_nil)))) (pss_one (ps_try_only (x := "KeyError") (c := .type "KeyError") (tb := fun W => tRet (tDGetX W (tFld K (tVar 0) "nodes") (tVar 1))) (ts := fun _ _ _ => tNext) rfl rfl ⟨by rfl, by decide, .inr ⟨hKE, boot_KeyError, by decide⟩⟩ (takes_of rfl rfl rfl rfl) (fun W pn xe tk _ => pss_one (ps_ret (pe_dgetX rfl hu tk (pe_fld (pv 0) rfl) (pv 1) (fun _ _ => rfl)))) (fun a oe cls d pn hz hf => pss_one ps_pass))) pss_nil)
        (pss_one (ps_raiseE XN (hr.mono (by decide)) rfl (takes_of rfl rfl rfl rfl) (pv 1)))), ?_⟩
    rcases k with ⟨rfl, k⟩ | ⟨⟨s, rfl, hs⟩ | ⟨t, ty, hk⟩, kE⟩
    · refine ⟨_, rfl, _, _, _, _, true, rfl, .ty _, .base (.str _), kit_ty (by decide +kernel), _, rfl, iteT ?_⟩
      refine ⟨_, rfl, n, N, dx, _, _, rfl, hn, T.cl, T.f_nodes, rfl, _, rfl, nd, _, rfl, .inl ⟨_, Sum.inr "store", .inl hnd, rfl, rfl⟩, fun v hv => ?_, fun z => ?_⟩
      · rw [nodes_val] at hv
        cases hv
        exact k _ hcp
      · rw [nodes_val] at z
        cases z
    · refine ⟨_, rfl, _, _, _, _, true, rfl, .ty _, .base (.str _), kit_ty (by decide +kernel), _, rfl, iteT ?_⟩
      refine ⟨_, rfl, n, N, dx, _, _, rfl, hn, T.cl, T.f_nodes, rfl, _, rfl, nd, _, rfl, .inl ⟨_, Sum.inr s, .inl hnd, rfl, rfl⟩, fun v hv => ?_, fun z d => ?_⟩
      · rw [nodes_val, if_neg (by simpa using hs)] at hv
        cases hv
      · refine ⟨true, by with_unfolding_all rfl, fun _ a ha => ?_, fun z => nomatch z⟩
        exact ⟨_, rfl, fun d H' s hd e => kE d H' s hd e⟩
    · refine ⟨_, rfl, _, _, _, _, false, rfl, .ty _, ty, hk, _, rfl, iteF ?_⟩
      exact ⟨_, rfl, fun d H' s hd e => kE d H' s hd e⟩
theorem ok_number {C N UN UK IV f : Addr} {fd : FuncData} (F : Fun K "number" "Net.number" sNu f fd) (B : Bn mg) (T : NetC K N) (TC : CacheC K C) (XK : XrAt P w K mg base "UnknownKey" "word" UK) : FnOk P w K mg base (L2.CX P w) 3 f fd ["self", "key"] (spNumber K C N UK) := by
  refine F.okX scNu (fun vs H Q E h => ?_) (fun cdv A outer s H vs Q E hr h => ?_)
  · obtain ⟨n, ws, x, rfl, _⟩ := h
    rfl
  · obtain ⟨n, ws, x, rfl, hN, k⟩ := h
    have hu := hu_of hr
    have hu64 : _ + 64 < cLine := hr.units
    obtain ⟨dx, tw, cp, nd, la, rw, dn, kp, ac, sm, tr, an, rc, kl, hn, htw, hcp, hnd, hla, hrw, hdn, hkp, hkl, hks, hac⟩ := hN.ex
    refine ⟨_, (pss_cons (ps_if (PW.pt (pw_or (pt_not (pt_val (pe_callB call_isi (by rfl) B.isi PyProof.Rows.boot_isinstance (pa_cons (pv 1) (pa_cons (pe_bltn (v := .ty "str") (by rfl) B.str (by decide +kernel) rfl) pa_nil))))) (pw_or1 (pt_cmpR op_notIn_seq (pv 1) (pe_fld (pv 0) rfl) (by rfl))))) (pss_one (ps_raiseE XK (hr.mono (by decide)) rfl (takes_of rfl rfl rfl rfl) (pv 1))) pss_nil)
        (pss_one (ps_ret (pe_ix ix_tup (pe_dget hu (pe_fld (pe_fld (pv 0) rfl) rfl) (pv 1) (fun _ _ => rfl)) pe_int (fun _ _ => rfl))))), ?_⟩
    rcases k with ⟨s, rfl, hs, k⟩ | ⟨⟨s, rfl, hs⟩ | ⟨t, ty, hk⟩, kE⟩
    · refine ⟨_, rfl, _, _, _, _, true, rfl, .ty _, .base (.str _), kit_ty (by decide +kernel), _, rfl, iteF ?_⟩
      refine ⟨_, rfl, _, rfl, n, N, dx, _, _, rfl, hn, T.cl, T.f_words, rfl, tw, _, rfl, .inr htw, rfl, flat_strV _, ?_⟩
      rw [inStr, decide_eq_true hs]
      refine ⟨_, rfl, iteF ?_⟩
      obtain ⟨dxc, cd, ce, kt, cl, hp, hcd, hcl, hcs, hkt⟩ := hcp.ex
      obtain ⟨t, hv, hm⟩ := refK_val (cl := cl) (s := s) (by rw [hcl]; exact hs)
      obtain ⟨c, ht, hc0⟩ := hcs _ hm
      have hg : DGet H cd (.str s) (some (.ref t)) := .inl ⟨refK cl, Sum.inr s, .inl hcd, rfl, hv.symm⟩
      exact ⟨_, rfl, n, N, dx, _, _, rfl, hn, T.cl, T.f_top, rfl, cp, C, dxc, _, _, rfl, hp, TC.cl, TC.cells, rfl, _, rfl, cd, _, rfl, hg, t, _, _, _, rfl, rfl, SqT.of ht, atI_nat (j := 2) rfl, k⟩
    · refine ⟨_, rfl, _, _, _, _, true, rfl, .ty _, .base (.str _), kit_ty (by decide +kernel), _, rfl, iteF ?_⟩
      refine ⟨_, rfl, _, rfl, n, N, dx, _, _, rfl, hn, T.cl, T.f_words, rfl, tw, _, rfl, .inr htw, rfl, flat_strV _, ?_⟩
      rw [inStr, decide_eq_false hs]
      refine ⟨_, rfl, iteT ?_⟩
      exact ⟨_, rfl, fun d H' s hd e => kE d H' s hd e⟩
    · refine ⟨_, rfl, _, _, _, _, false, rfl, .ty _, ty, hk, _, rfl, iteT ?_⟩
      exact ⟨_, rfl, fun d H' s hd e => kE d H' s hd e⟩
theorem ok_waiting {C N UN UK IV f : Addr} {fd : FuncData} (F : Fun K "waiting" "Net.waiting" sWa f fd) (B : Bn mg) (T : NetC K N) (XK : XrAt P w K mg base "UnknownKey" "word" UK) : FnOk P w K mg base (L2.CX P w) 3 f fd ["self", "key"] (spWaiting K C N UK) := by
  refine F.okX scWa (fun vs H Q E h => ?_) (fun cdv A outer s H vs Q E hr h => ?_)
  · obtain ⟨n, ws, x, rfl, _⟩ := h
    rfl
  · obtain ⟨n, ws, x, rfl, hN, k⟩ := h
    have hu := hu_of hr
    have hu64 : _ + 64 < cLine := hr.units
    obtain ⟨dx, tw, cp, nd, la, rw, dn, kp, ac, sm, tr, an, rc, kl, hn, htw, hcp, hnd, hla, hrw, hdn, hkp, hkl, hks, hac⟩ := hN.ex
    refine ⟨_, (pss_cons (ps_if (PW.pt (pw_or (pt_not (pt_val (pe_callB call_isi (by rfl) B.isi PyProof.Rows.boot_isinstance (pa_cons (pv 1) (pa_cons (pe_bltn (v := .ty "str") (by rfl) B.str (by decide +kernel) rfl) pa_nil))))) (pw_or1 (pt_cmpR op_notIn_seq (pv 1) (pe_fld (pv 0) rfl) (by rfl))))) (pss_one (ps_raiseE XK (hr.mono (by decide)) rfl (takes_of rfl rfl rfl rfl) (pv 1))) pss_nil)
        (pss_one (ps_ret (pe_callTy call_list_of (by rfl) B.list (by decide +kernel) (pa_cons (pe_dget hu (pe_fld (pv 0) rfl) (pv 1) (fun _ _ => rfl)) pa_nil))))), ?_⟩
    rcases k with ⟨s, rfl, hs, k⟩ | ⟨⟨s, rfl, hs⟩ | ⟨t, ty, hk⟩, kE⟩
    · refine ⟨_, rfl, _, _, _, _, true, rfl, .ty _, .base (.str _), kit_ty (by decide +kernel), _, rfl, iteF ?_⟩
      refine ⟨_, rfl, _, rfl, n, N, dx, _, _, rfl, hn, T.cl, T.f_words, rfl, tw, _, rfl, .inr htw, rfl, flat_strV _, ?_⟩
      rw [inStr, decide_eq_true hs]
      refine ⟨_, rfl, iteF ?_⟩
      obtain ⟨t, hv, hm⟩ := refK_val (cl := kl) (s := s) (by rw [hkl]; exact hs)
      have hg : DGet H kp (.str s) (some (.ref t)) := .inl ⟨refK kl, Sum.inr s, .inl hkp, rfl, hv.symm⟩
      exact ⟨_, rfl, n, N, dx, _, _, rfl, hn, T.cl, T.f_kept, rfl, _, rfl, kp, _, rfl, hg, t, [], rfl, .inr (SqT.of (hks _ hm)), fun q hq => k q _ (Same.upd hq) upd_same⟩
    · refine ⟨_, rfl, _, _, _, _, true, rfl, .ty _, .base (.str _), kit_ty (by decide +kernel), _, rfl, iteF ?_⟩
      refine ⟨_, rfl, _, rfl, n, N, dx, _, _, rfl, hn, T.cl, T.f_words, rfl, tw, _, rfl, .inr htw, rfl, flat_strV _, ?_⟩
      rw [inStr, decide_eq_false hs]
      refine ⟨_, rfl, iteT ?_⟩
      exact ⟨_, rfl, fun d H' s hd e => kE d H' s hd e⟩
    · refine ⟨_, rfl, _, _, _, _, false, rfl, .ty _, ty, hk, _, rfl, iteT ?_⟩
      exact ⟨_, rfl, fun d H' s hd e => kE d H' s hd e⟩
theorem ok_write {C N UN UK IV f : Addr} {fd : FuncData} (F : Fun K "write" "Net.write" sWr f fd) (B : Bn mg) (T : NetC K N) (XK : XrAt P w K mg base "UnknownKey" "word" UK) (XV : XrAt P w K mg base "InvalidValue" "given" IV) : FnOk P w K mg base (L2.CX P w) 3 f fd ["self", "key", "value"] (spWrite K C N UK IV) := by
  refine F.okX scWr (fun vs H Q E h => ?_) (fun cdv A outer s H vs Q E hr h => ?_)
  · obtain ⟨n, ws, x, v, rfl, _⟩ := h
    rfl
  · obtain ⟨n, ws, x, v, rfl, hN, k⟩ := h
    have hu := hu_of hr
    have hu64 : _ + 64 < cLine := hr.units
    obtain ⟨dx, tw, cp, nd, la, rw, dn, kp, ac, sm, tr, an, rc, kl, hn, htw, hcp, hnd, hla, hrw, hdn, hkp, hkl, hks, hac⟩ := hN.ex
    refine ⟨_, (pss_cons (ps_if (PW.pt (pw_or (pt_not (pt_val (pe_callB call_isi (by rfl) B.isi PyProof.Rows.boot_isinstance (pa_cons (pv 1) (pa_cons (pe_bltn (v := .ty "str") (by rfl) B.str (by decide +kernel) rfl) pa_nil))))) (pw_or1 (pt_cmpR op_notIn_seq (pv 1) (pe_fld (pv 0) rfl) (by rfl))))) (pss_one (ps_raiseE XK (hr.mono (by decide)) rfl (takes_of rfl rfl rfl rfl) (pv 1))) pss_nil)
        (pss_cons (ps_if (PW.pt (pw_or (pt_not (pt_val (pe_callB call_isi (by rfl) B.isi PyProof.Rows.boot_isinstance (pa_cons (pv 2) (pa_cons (pe_bltn (v := .ty "int") (by rfl) B.int (by decide +kernel) rfl) pa_nil))))) (pw_or1 (pt_val (pe_callB call_isi (by rfl) B.isi PyProof.Rows.boot_isinstance (pa_cons (pv 2) (pa_cons (pe_bltn (v := .ty "bool") (by rfl) B.bool (by decide +kernel) rfl) pa_nil))))))) (pss_one (ps_raiseE XV (hr.mono (by decide)) rfl (takes_of rfl rfl rfl rfl) (pv 2))) pss_nil)
        pss_never)), ?_⟩
    rcases k with ⟨⟨s, rfl, hs⟩ | ⟨t, ty, hk⟩, kE⟩ | ⟨s, rfl, hs, hv, kE⟩
    · refine ⟨_, rfl, _, _, _, _, true, rfl, .ty _, .base (.str _), kit_ty (by decide +kernel), _, rfl, iteF ?_⟩
      refine ⟨_, rfl, _, rfl, n, N, dx, _, _, rfl, hn, T.cl, T.f_words, rfl, tw, _, rfl, .inr htw, rfl, flat_strV _, ?_⟩
      rw [inStr, decide_eq_false hs]
      refine ⟨_, rfl, iteT ?_⟩
      exact ⟨_, rfl, fun d H' s hd e => kE d H' s hd e⟩
    · refine ⟨_, rfl, _, _, _, _, false, rfl, .ty _, ty, hk, _, rfl, iteT ?_⟩
      exact ⟨_, rfl, fun d H' s hd e => kE d H' s hd e⟩
    · refine ⟨_, rfl, _, _, _, _, true, rfl, .ty _, .base (.str _), kit_ty (by decide +kernel), _, rfl, iteF ?_⟩
      refine ⟨_, rfl, _, rfl, n, N, dx, _, _, rfl, hn, T.cl, T.f_words, rfl, tw, _, rfl, .inr htw, rfl, flat_strV _, ?_⟩
      rw [inStr, decide_eq_true hs]
      refine ⟨_, rfl, iteF ?_⟩
      rcases hv with ⟨t, ty, hk⟩ | ⟨b, rfl⟩
      · refine ⟨_, rfl, _, _, _, _, false, rfl, .ty _, ty, hk, _, rfl, iteT ?_⟩
        exact ⟨_, rfl, fun d H' s hd e => kE d H' s hd e⟩
      · refine ⟨_, rfl, _, _, _, _, true, rfl, .ty _, .base (.bl _), kit_ty (by decide +kernel), _, rfl, iteF ?_⟩
        refine ⟨_, rfl, _, _, _, _, true, rfl, .ty _, .base (.bl _), kit_ty (by decide +kernel), _, rfl, iteT ?_⟩
        exact ⟨_, rfl, fun d H' s hd e => kE d H' s hd e⟩
end
abbrev sLk : Stmt := inClass (top 35) 30
theorem scLk : GScope ["self", "busy", "row"] ["self"] (defScope sLk) := ⟨rfl, rfl, rfl, by decide +kernel, rfl, by decide +kernel, by decide +kernel⟩
section
variable {P : Program} {w : World} {K : PySem.W.Frag} {mg : Str → Option Value} {base : Heap}
theorem ok_links {C N f : Addr} {fd : FuncData} (F : Fun K "links" "Net.links" sLk f fd) (B : Bn mg) (T : NetC K N) : GFn P w K mg base 2 f fd ["self"] (spLinks K C N) := by
  obtain ⟨oc, od, kV, doc, pm, an, cdv, ct, osl, rfl, lk, cd⟩ := F.ex
  refine gfn_of lk cd scLk (fun vs H Q E h => ?_) (fun A outer s H vs Q E pn hr h => ?_)
  · obtain ⟨n, ws, rfl, _⟩ := h
    rfl
  · obtain ⟨n, ws, rfl, hN, k⟩ := h
    have hu := hu_of hr
    obtain ⟨dx, tw, cp, nd, la, rw, dn, kp, ac, sm, tr, an, rc, kl, hn, htw, hcp, hnd, hla, hrw, hdn, hkp, hkl, hks, hac⟩ := hN.ex
    refine ⟨_, gss_cons (gs_ps (ps_set (i := 1) scLk.nd rfl (Or.inl rfl) (pe_lst pa_nil)))
      (gss_cons (gs_ps (ps_lock (ps_for owns_gcx rfl (pi_values (pe_fld (pv 0) rfl)) (pg_name (i := 2) scLk.nd rfl (Or.inl rfl)) pss_never)))
      (gss_cons (gs_yieldFrom (yf_lst (pe_callB cr_sortedS (by rfl) B.sorted (by decide +kernel) (pa_cons (pv 1) pa_nil))) hr.hd) gss_nil)), ?_⟩
    refine ⟨by show 0 ≤ sizeLine; decide, fun lf hlf => ?_⟩
    have s1 : Same H (upd H lf (.lst [])) := Same.upd hlf
    have l1 : upd H lf (HO.lst []) lf = some (.lst []) := upd_same
    generalize upd H lf (HO.lst []) = H1 at s1 l1 ⊢
    have hrw1 := s1 _ _ hrw
    have nl : lf ≠ rw := fun z => by rw [z, hrw1] at l1; cases l1
    have nn : n ≠ rw := fun z => by rw [z, hrw] at hn; cases hn
    refine ⟨rw, .dK [], hrw1, trivial, fun od => ?_⟩
    have l3 : upd H1 rw (.frz od (.dK [])) rw = some (.frz od (.dK [])) := upd_same
    have ln : upd H1 rw (.frz od (.dK [])) n = some (.ins N dx (nfl tw cp nd la rw dn kp ac sm tr an rc)) := by rw [upd_ne nn]; exact s1 _ _ hn
    have bk : ∀ H2, Same (upd H1 rw (.frz od (.dK []))) H2 → Same H1 (upd H2 rw (.dK [])) := fun H2 z => unlock hrw1 z
    generalize upd H1 rw (.frz od (.dK [])) = L at l3 ln bk ⊢
    refine ⟨_, rfl, n, N, dx, _, _, rfl, ln, T.cl, T.f_rows, rfl, rw, od, [], rfl, l3, ?_⟩
    refine for_it (walk_values (d := rw) (o := od) (kvs := [])) (fun i σ' H' => σ' = [some (.ref n), some (.ref lf), none] ∧ H' = L) ⟨rfl, rfl⟩ (fun i σ' H' _ z => by rw [z.2]; exact l3) (fun i x σ' H' H'' hi => absurd hi (Nat.not_lt_zero _)) ?_
    rintro σ' H' ⟨rfl, rfl⟩
    refine ⟨l3, ?_⟩
    have S3 := Same.trans s1 (bk _ (Same.refl _))
    have l3 := (bk _ (Same.refl _)) _ _ l1
    generalize upd H' rw (HO.dK []) = H3 at S3 l3 ⊢
    refine ⟨_, rfl, lf, [], rfl, SqL.of l3, by decide, fun ys p hp hs hp0 => ?_⟩
    obtain rfl : ys = [] := List.Perm.eq_nil hp
    refine ⟨p, _, rfl, upd_same, by show 0 ≤ sizeLine; decide, ?_⟩
    exact k _ (Same.trans S3 (Same.upd hp0))
end
end K01
set_option Elab.async false
set_option linter.all false
set_option maxRecDepth 100000
set_option maxHeartbeats 4000000
/-! list(text), text * n -/
namespace EX
open PySem L2 PySem.Spec PyProof.Rows
def rRepN : R2 := fun x y H Q => ∃ l k xs, x = .ref l ∧ y = .int k ∧ H l = some (.lst xs) ∧ -(2 ^ 63) ≤ k ∧ k < 2 ^ 63 ∧ xs.length * k.toNat ≤ sizeLine ∧ ∀ p, H p = none → p ≠ sysModules → Q (.ref p) (upd H p (.lst (List.replicate k.toNat xs).flatten))
theorem op_repN {X : Cx} : OpR X (binaryOp .Mult) rRepN := by
  intro pins s σ H x y v u Q I rx ry h
  obtain ⟨l, k, xs, rfl, rfl, hH, h1, h2, hz, q⟩ := h
  obtain rfl : v = Value.ref l := rx
  obtain ⟨t, rfl⟩ := ry
  obtain ⟨z, its, n, r, hl, e⟩ := I.lstM hH
  have hk : its.toArray.size * k.toNat ≤ sizeLine := by
    rw [List.size_toArray, ← hl]
    exact hz
  have hb : sizeLine ≤ (2 ^ 63 - 1) / 8 := by decide
  refine wpAny_binaryOp_repeat_ref (T := "list") (U := "int") (by decide) ⟨_, e, rfl⟩ (fun s2 => typeIs_int s2 k t) noFill_list_mul F.fills_int_mul F.slot_int_rmul repeat_list F.slot_int_index.lookup
    (call_meets F.slot_int_rmul (typeIs_int s k t) F.entry_int_rmul (F.args_int_rmul_2 _ _) (int___rmul___int_list k t l its.toArray n) ⟨e, rfl, ⟨_, e, rfl⟩, call_meets F.slot_list_mul ⟨_, e, rfl⟩ F.entry_list_mul (F.args_list_mul_2 _ _)
      (AutoListH.list___mul___list_int_3 l its.toArray n k t (by rw [fitsIndex_both h1 h2]; exact Bool.false_ne_true) (by omega) (by rw [notLongL hk]; exact Bool.false_ne_true)) ⟨e, ?_⟩⟩)
  have en : List.foldl (fun x1 x2 => x1 ++ x2) #[] (List.replicate (if its.toArray.isEmpty = true then 0 else k.toNat) its.toArray) = (List.replicate k.toNat its).flatten.toArray := by
    rw [PyProof.Rows.listMul_foldl]
    cases its with
    | nil =>
      have : (List.replicate k.toNat ([] : List Value)).flatten = [] := by simp
      rw [this]
      simp
    | cons a r => simp
  rw [en]
  have hf : H s.heap.objs.size = none := I.fresh
  exact ⟨.ref s.heap.objs.size, _, I.lnew (t' := s.toks) (r.rep k.toNat) (by rw [PyProof.Rows.lm_len_rep_flat, Nat.mul_comm]; exact hz), rfl, q _ hf fun z => by
    have := I.big
    rw [z] at this
    exact Nat.lt_irrefl _ this⟩
def signs (x : Str) : List V := x.cps.toList.map fun c => V.str ⟨#[c]⟩
theorem vals_signs : ∀ {cs : List Nat} {us : List Value}, us.length = cs.length → (∀ (j : Nat) (v : Value), us[j]? = some v → ∃ c u, cs[j]? = some c ∧ v = .str ⟨#[c]⟩ u) → Vals (cs.map fun c => V.str ⟨#[c]⟩) us
  | [], [], _, _ => .nil
  | [], _ :: _, h, _ => nomatch h
  | _ :: _, [], h, _ => nomatch h
  | c :: cs, v :: us, h, k => by
    obtain ⟨c', u, e, ev⟩ := k 0 v rfl
    cases e
    exact .cons ⟨u, ev⟩ (vals_signs (Nat.succ.inj h) fun j v hj => k (j + 1) v hj)
section
variable {X : Cx}
def rListStr : List V → Hp → VK → Prop := fun xs H Q => ∃ a : Str, xs = [.str a] ∧ a.length ≤ 1000 ∧ ∀ l H', Same H H' → l ≠ sysModules → H' l = some (.lst (signs a)) → Q (.ref l) H'
theorem cr_listStr (hc : X.calm = true) : CallR X (.type "list") rListStr := by
  intro pins s σ H xs us Q I r h
  obtain ⟨a, rfl, hl, q⟩ := h
  obtain ⟨u, rfl, t, rfl⟩ := vals1 r
  have hsz : a.cps.size ≤ sizeLine := by
    rw [sizeLine_eq]
    have : a.cps.size = a.length := rfl
    omega
  refine call_list_str (I.ok.hd hc) a t (fun h' tk acc' c' k e it => ?_) hsz
  obtain ⟨i1, i2⟩ := it
  have rv : Vals (signs a) acc'.toList := vals_signs (by rw [Array.length_toList, i1, Array.length_toList]) fun j v hj => by
    obtain ⟨c, u, e1, e2⟩ := i2 j v (by simpa using hj)
    exact ⟨c, u, by simpa using e1, e2⟩
  have hz : (signs a).length ≤ sizeLine := by
    unfold signs
    rw [List.length_map, Array.length_toList]
    exact hsz
  exact ⟨.ref s.heap.objs.size, _, I.laid (t' := tk) k (Nat.le_refl _) (show ObjOk X.prog X.w _ h' _ (.lst (signs a)) from ⟨hz, acc'.toList, c', rv, by simpa using e⟩), rfl, q _ _ (EX.Same.upd (I.hok.fresh (Nat.le_refl _))) (fun z => by
    have := I.big
    rw [z] at this
    exact Nat.lt_irrefl _ this) upd_same⟩
def repStr (a : Str) (n : Nat) : Str := ⟨(List.replicate n a.cps).foldl (· ++ ·) #[]⟩
theorem rep_size (a : Array Nat) : ∀ (n : Nat) (acc : Array Nat), ((List.replicate n a).foldl (· ++ ·) acc).size = acc.size + n * a.size
  | 0, acc => by simp
  | n + 1, acc => by
    rw [List.replicate_succ, List.foldl_cons, rep_size a n (acc ++ a), Array.size_append, Nat.succ_mul]
    omega
def rRepStr : R2 := fun x y H Q => ∃ (a : Str) (n : Nat), x = .str a ∧ y = .int (n : Int) ∧ 2 ≤ n ∧ n ≤ 1000 ∧ 1 ≤ a.length ∧ a.length ≤ 1000 ∧ Q (.str (repStr a n)) H
theorem op_repStr : OpR X (binaryOp .Mult) rRepStr := by
  intro pins s σ H x y v u Q I rx ry h
  obtain ⟨a, n, rfl, rfl, h2, hn, ha, ha2, q⟩ := h
  obtain ⟨t, rfl⟩ := rx
  obtain ⟨t', rfl⟩ := ry
  have hb : a.length * n ≤ 1000000 := Nat.le_trans (Nat.mul_le_mul ha2 hn) (by decide)
  have e1 : ((n : Int) == 1 || a.length == 0) = false := by
    rw [Bool.or_eq_false_iff]
    exact ⟨beq_eq_false_iff_ne.mpr (by omega), beq_eq_false_iff_ne.mpr (by omega)⟩
  have hlong : Builtin.Str.tooLong (a.length * n) = false := by
    unfold Builtin.Str.tooLong
    rw [sizeLine_eq]
    exact decide_eq_false (by omega)
  have hbi : (a.length : Int) * (n : Int) ≤ 1000000 := by
    rw [← Int.natCast_mul]
    omega
  refine P.mul_str (by
    rw [decide_eq_false (by omega), decide_eq_false (by omega)]
    rfl) (fun _ _ => ?_) (fun _ _ => by rw [Int.toNat_natCast]; exact hlong) ?_
  · have : (a.length : Int) ≤ (2 ^ 63 - 1) / (n : Int) := Int.le_ediv_of_mul_le (by omega) (by omega)
    omega
  · rw [if_neg (by omega), e1, if_neg (by decide), Int.toNat_natCast]
    have hz : (repStr a n).length ≤ sizeLine := by
      have e : (repStr a n).length = n * a.length := (rep_size a.cps n #[]).trans (Nat.zero_add _)
      rw [e, Nat.mul_comm, sizeLine_eq]
      omega
    exact ⟨hz, .str (repStr a n), H, I.tok _, ⟨_, rfl⟩, q⟩
end
end EX
set_option Elab.async false
set_option linter.all false
set_option maxRecDepth 100000
set_option maxHeartbeats 4000000
namespace K01
open PySem L2 EX PyProof.Rows LamX
/-! ### the law's defs: what is refused -/
structure RefOk (dv : PyData) : Prop where
  sh : dv.showable = true
  dp : dv.depth ≤ 60
  len : dv.shown.length ≤ sizeLine
theorem same_dqs {K : PySem.W.Frag} {H H' : Hp} (s : Same H H') {v : V} {d : PyData} (h : DqS K H v d) : DqS K H' v d := EX.DqS.ext (LamX.ExtN.of s) h
theorem BadOf.mono {K : PySem.W.Frag} {H H' : Hp} {ws : List Str} {x : V} (ex : ∀ {t : String}, TyX K H x (.type t) → TyX K H' x (.type t)) (h : BadOf K H ws x) : BadOf K H' ws x := h.imp id fun ⟨t, ty, k⟩ => ⟨t, ex ty, k⟩
/-- a thing that is asked about: a text, or none, or a whole number, or a list or tuple -/
def Thing (K : PySem.W.Frag) (H : Hp) (x : V) : Prop := (∃ s, x = .str s) ∨ x = .non ∨ (∃ n, x = .int n) ∨ (∃ b, x = .bl b) ∨ ∃ a xs, x = .ref a ∧ SqE K H a xs
theorem Thing.mono {K : PySem.W.Frag} {H H' : Hp} (s : Same H H') {x : V} (h : Thing K H x) : Thing K H' x := h.imp id (Or.imp id (Or.imp id (Or.imp id fun ⟨a, xs, e, h⟩ => ⟨a, xs, e, h.mono s⟩)))
theorem Thing.bad {K : PySem.W.Frag} {H : Hp} {x : V} {ws : List Str} (h : Thing K H x) (hs : ∀ s, x = .str s → s ∉ ws) : BadOf K H ws x := by
  rcases h with ⟨s, rfl⟩ | rfl | ⟨n, rfl⟩ | ⟨b, rfl⟩ | ⟨a, xs, rfl, h⟩
  · exact .inl ⟨s, rfl, hs s rfl⟩
  · exact .inr .non
  · exact .inr (.int n)
  · exact .inr (.bl b)
  · exact .inr (.seq h)
/-- _law_refused(thing) -/
def spRefd (K : PySem.W.Frag) : Sp := fun vs H Q _ => ∃ (v : V) (dv : PyData), vs = [v] ∧ KeyArg K H v false ∧ DqS K H v dv ∧ RefOk dv ∧ ∀ H', Same H H' → Q (.bl true) H'
/-- _law_unknown(net, thing) -/
def spUnk (K : PySem.W.Frag) (C N : Addr) : Sp := fun vs H Q _ => ∃ (n : Addr) (ws : List Str) (v : V) (dv : PyData), vs = [.ref n, v] ∧ NetAt K C N H n ws ∧ Thing K H v ∧ (∀ s, v = .str s → s ∉ ws ∧ s ≠ "store") ∧ DqS K H v dv ∧ RefOk dv ∧ ∀ H', Same H H' → Q (.bl true) H'
/-- _law_values_refused(net, word) -/
def spVal (K : PySem.W.Frag) (C N : Addr) : Sp := fun vs H Q _ => ∃ (n : Addr) (ws : List Str) (s : Str), vs = [.ref n, .str s] ∧ NetAt K C N H n ws ∧ s ∈ ws ∧ ("nokey" : Str) ∉ ws ∧ ∀ H', Same H H' → Q (.bl true) H'
/-- the shown field of what was caught, beside the shown thing -/
abbrev tShow (K : PySem.W.Frag) (f : Str) (i j : Nat) (CS a : Addr) (cls : Value) (d : Option Addr) (r : R2) : TE := tOp r (tCB (rRepq K) (tCons (tXf a cls d CS f (tVar i)) tNil)) (tCB (rRepq K) (tCons (tVar j) tNil))
/-- noted: the field of what was caught and the thing are shown alike -/
abbrev lNote (K : PySem.W.Frag) (f : Str) (CS : Addr) : List Cls1 := [⟨.ref CS, some 3, fun a cls d => tDrop (tBM K "list" rAppend (tVar 2) (tCons (tShow K f 3 1 CS a cls d rEq) tNil))⟩]
abbrev tDoor (K : PySem.W.Frag) (C N UK : Addr) : WX → TS := fun W => tIfS (tTest (tOp rEq (tVar 4) (tC (.int 0)))) (tDrop (tMethU N "number" (spNumber K C N UK) W (tVar 0) (tCons (tVar 1) tNil))) (tDrop (tMethU N "waiting" (spWaiting K C N UK) W (tVar 0) (tCons (tVar 1) tNil)))
abbrev sRf : Stmt := top 39
theorem scRf : FnScope ["_law_thing", "e"] ["_law_thing"] (defScope sRf) := ⟨rfl, rfl, rfl, by decide +kernel, rfl, by decide +kernel, by decide +kernel⟩
abbrev sUk : Stmt := top 40
theorem scUk : FnScope ["_law_net", "_law_thing", "_law_found", "e", "_law_door"] ["_law_net", "_law_thing"] (defScope sUk) := ⟨rfl, rfl, rfl, by decide +kernel, rfl, by decide +kernel, by decide +kernel⟩
abbrev sVr : Stmt := top 41
theorem scVr : FnScope ["_law_net", "_law_word", "_law_odd", "e"] ["_law_net", "_law_word"] (defScope sVr) := ⟨rfl, rfl, rfl, by decide +kernel, rfl, by decide +kernel, by decide +kernel⟩
section
variable {P : Program} {w : World} {K : PySem.W.Frag} {mg : Str → Option Value} {base : Heap}
theorem ok_refused {C N IK f : Addr} {fd : FuncData} (F : Fun K "_law_refused" "_law_refused" sRf f fd) (B : Bn mg) (XI : XrAt P w K mg base "InvalidKeys" "given" IK) (hex : PySem.W.exmOne K (.ref IK) (.ref IK) = some true) (MN : MkX P w K mg base 3 "Net" ["self", "keys"] N (spNI K C N IK)) : FnG P w K mg base CX0 5 f fd ["_law_thing"] (spRefd K) := by
  refine okG F scRf (fun vs H Q E h => ?_) (fun cdv A outer s H vs Q E hgu hr h => ?_)
  · obtain ⟨v, dv, rfl, _⟩ := h
    rfl
  · obtain ⟨v, dv, rfl, hb, hd, hok, k⟩ := h
    have hu64 : _ + 64 < cLine := hr.units
    have hu70 : (A.deeper (envOfC "_law_refused" (defScope sRf) s.heap.objs.size f cdv)).units + 70 < cLine := by
      have := hr.un
      omega
    refine ⟨_, PSs.nox (pss_cons (ps_try_cls (tb := fun W => tDrop (tMakeU N (spNI K C N IK) W (tCons (tVar 0) tNil))) (l := [⟨.ref IK, some 1, fun a cls d => tRet (tShow K "given" 1 0 IK a cls d rEq)⟩]) rfl rfl scRf.nd L2.takes0 (fun W pn xe tk _ => (pss_one (ps_expr (pe_mkU MN (hr.mono (by decide)) tk (pa_cons (pv 0) pa_nil))))) (ClsOk.as ⟨by rfl, by decide, .inl XI.m⟩ rfl rfl (fun a oe cls d pn hz hf => (pss_one (ps_ret (pe_cmpR op_eq (pe_callB (call_reprq hgu hu70) (by rfl) B.repr (by decide +kernel) (pa_cons (pe_xf XI.T.xf XI.no hz hf (pv 1)) pa_nil)) (pe_callB (call_reprq hgu hu70) (by rfl) B.repr (by decide +kernel) (pa_cons (pv 0) pa_nil)) (nomark _))))) .nil))
        (pss_one (ps_ret pe_bl))), ?_⟩
    refine ⟨_, rfl, fun x dx hx hdx hne => ?_⟩
    have S1 : Same H (upd (upd H dx (.own x)) x (.ins N dx [])) := Same.trans (Same.upd hdx) (Same.upd (by rw [upd_ne (Ne.symm hne)]; exact hx))
    refine ⟨x, dx, v, rfl, upd_same, .inr ⟨hb.mono S1, fun d H' S2 hd0 hdd => ⟨true, hex, fun _ a ha => ?_, fun z => nomatch z⟩⟩⟩
    have S := Same.trans S1 S2
    refine ⟨_, rfl, rfl, rfl, d, _, v, rfl, hdd, rfl, v, dv, rfl, same_dqs S hd, hok.sh, hok.dp, hok.len, _, rfl, v, dv, rfl, same_dqs S hd, hok.sh, hok.dp, hok.len, rfl, ?_⟩
    rw [show decide (V.str dv.shown = V.str dv.shown) = true from decide_eq_true rfl]
    exact k _ S
theorem note {CS lf d' : Addr} {f : Str} {v n0 : V} {dv : PyData} {v3 v4 : Option V} {xs : List V} {Wout : WX} {D : Ends} {H2 : Hp} (hex : PySem.W.exmOne K (.ref CS) (.ref CS) = some true) (hdd : H2 d' = some (.xd [(f, v)])) (hd : DqS K H2 v dv) (hok : RefOk dv) (lF : H2 lf = some (.lst xs)) (hl : xs.length < sizeLine)
    (k : D.nx [some n0, some v, some (.ref lf), none, v4] (upd H2 lf (.lst (xs ++ [.bl true])))) : wCls K Wout D (lNote K f CS) (.ref CS) (some d') [some n0, some v, some (.ref lf), v3, v4] H2 := by
  refine ⟨true, hex, fun _ a ha => ?_, (fun z => nomatch z)⟩
  have el : List.lookup f [(f, v)] = some v := by simp
  refine ⟨_, rfl, .inl ⟨rfl, _, SqL.of lF⟩, _, rfl, rfl, rfl, d', _, v, rfl, hdd, el, v, dv, rfl, hd, hok.sh, hok.dp, hok.len, _, rfl, v, dv, rfl, hd, hok.sh, hok.dp, hok.len, rfl, ?_⟩
  rw [show decide (V.str dv.shown = V.str dv.shown) = true from decide_eq_true rfl]
  exact ⟨lf, xs, _, rfl, rfl, lF, hl, k⟩
theorem ok_unknown {C N UN UK f : Addr} {fd : FuncData} (F : Fun K "_law_unknown" "_law_unknown" sUk f fd) (B : Bn mg) (XN : XrAt P w K mg base "UnknownNode" "node" UN) (XK : XrAt P w K mg base "UnknownKey" "word" UK) (hexN : PySem.W.exmOne K (.ref UN) (.ref UN) = some true) (hexK : PySem.W.exmOne K (.ref UK) (.ref UK) = some true)
    (DG : DunX P w K mg base 3 N "__getitem__" ["self", "at"] (spNGet K C N UN)) (DI : Dun P w K mg base CX0 1 N "__contains__" ["self", "x"] (spNIn K C N)) (GNu : MtX P w K mg base 3 N "number" ["self", "key"] (spNumber K C N UK)) (GWa : MtX P w K mg base 3 N "waiting" ["self", "key"] (spWaiting K C N UK)) : FnG P w K mg base CX0 5 f fd ["_law_net", "_law_thing"] (spUnk K C N) := by
  refine okG F scUk (fun vs H Q E h => ?_) (fun cdv A outer s H vs Q E hgu hr h => ?_)
  · obtain ⟨n, ws, v, dv, rfl, _⟩ := h
    rfl
  · obtain ⟨n, ws, v, dv, rfl, hN, hT, hs, hd, hok, k⟩ := h
    have hu64 : _ + 64 < cLine := hr.units
    have hu70 : (A.deeper (envOfC "_law_unknown" (defScope sUk) s.heap.objs.size f cdv)).units + 70 < cLine := by
      have := hr.un
      omega
    refine ⟨_, PSs.nox (pss_cons (ps_set (i := 2) scUk.nd rfl (Or.inl rfl) (pe_lst pa_nil))
        (pss_cons (ps_try_cls (tb := fun W => tDrop (tGetU N (spNGet K C N UN) W (tVar 0) (tVar 1))) (l := lNote K "node" UN) rfl rfl scUk.nd L2.takes0 (fun W pn xe tk _ => (pss_one (ps_expr (pe_getU DG (hr.mono (by decide)) tk (pv 0) (pv 1))))) (ClsOk.as ⟨by rfl, by decide, .inl XN.m⟩ rfl rfl (fun a oe cls d pn hz hf => (pss_one (ps_expr (pe_bm PySem.F.plainAttrs_list PySem.F.slot_list_append PySem.F.type_list_append mt_append (pv 2) (pa_cons (pe_cmpR op_eq (pe_callB (call_reprq hgu hu70) (by rfl) B.repr (by decide +kernel) (pa_cons (pe_xf XN.T.xf XN.no hz hf (pv 3)) pa_nil)) (pe_callB (call_reprq hgu hu70) (by rfl) B.repr (by decide +kernel) (pa_cons (pv 1) pa_nil)) (nomark _)) pa_nil))))) .nil))
        (pss_cons (ps_for PassesOwn.never rfl (pi_range1 (by rfl) B.range (pa_cons pe_int pa_nil)) (pg_name (i := 4) scUk.nd rfl (Or.inl rfl)) (pss_one (ps_try_cls (tb := tDoor K C N UK) (l := lNote K "word" UK) rfl rfl scUk.nd L2.takes0 (fun W pn xe tk _ => (pss_one (ps_if (pt_cmpR op_eq (pv 4) pe_int (nomark _)) (pss_one (ps_expr (pe_mtU GNu (hr.mono (by decide)) tk (pv 0) (pa_cons (pv 1) pa_nil)))) (pss_one (ps_expr (pe_mtU GWa (hr.mono (by decide)) tk (pv 0) (pa_cons (pv 1) pa_nil))))))) (ClsOk.as ⟨by rfl, by decide, .inl XK.m⟩ rfl rfl (fun a oe cls d pn hz hf => (pss_one (ps_expr (pe_bm PySem.F.plainAttrs_list PySem.F.slot_list_append PySem.F.type_list_append mt_append (pv 2) (pa_cons (pe_cmpR op_eq (pe_callB (call_reprq hgu hu70) (by rfl) B.repr (by decide +kernel) (pa_cons (pe_xf XK.T.xf XK.no hz hf (pv 3)) pa_nil)) (pe_callB (call_reprq hgu hu70) (by rfl) B.repr (by decide +kernel) (pa_cons (pv 1) pa_nil)) (nomark _)) pa_nil))))) .nil))))
        (pss_one (ps_ret (pe_and (pe_cmpR (op_eqD hu64) (pv 2) (pe_lst (pa_cons pe_bl (pa_cons pe_bl (pa_cons pe_bl pa_nil)))) (nomark _)) (pe_one (pe_cmpR (op_notInO DI (hr.mono (by decide)) pass0) (pv 1) (pv 0) (by rfl))))))))), ?_⟩
    refine ⟨by show 0 ≤ sizeLine; decide, fun lf hlf => ?_⟩
    have s1 : Same H (upd H lf (.lst [])) := Same.upd hlf
    have l1 : upd H lf (HO.lst []) lf = some (.lst []) := upd_same
    generalize upd H lf (HO.lst []) = H1 at s1 l1 ⊢
    have nk : ∀ {H' : Hp}, Keeps [lf] H H' → Same H H' := fun b => b.same fun p hp => by rw [List.mem_singleton.mp hp]; exact hlf
    obtain ⟨dx, tw, cp, nd, la, rw, dn, kp, ac, sm, tr, an, rc, kl, hn, _⟩ := hN.ex
    have one : ∀ {a b : Hp}, Keeps [lf] a b → ∀ {o}, Keeps [lf] a (upd b lf o) := fun k _ => k.put (by simp)
    -- net[thing]
    refine ⟨_, rfl, _, rfl, n, dx, _, rfl, s1 _ _ hn, n, ws, v, rfl, hN.mono s1, .inr ⟨(hT.mono s1).bad fun s e => by simpa using (hs s e).2, fun d' H2 S2 _ hdd => note hexN hdd (same_dqs (Same.trans s1 S2) hd) hok (S2 _ _ l1) (by show 0 < sizeLine; decide) ?_⟩⟩
    have k2 : Keeps [lf] H (upd H2 lf (HO.lst [.bl true])) := one ((Keeps.of s1).then S2)
    have l2 : upd H2 lf (HO.lst ([] ++ [.bl true])) lf = some (.lst [.bl true]) := upd_same
    show _
    have e0 : (([] : List V) ++ [.bl true]) = [.bl true] := rfl
    rw [e0] at l2 ⊢
    generalize upd H2 lf (HO.lst [.bl true]) = H3 at k2 l2 ⊢
    clear S2 hdd
    refine ⟨2, rfl, by decide, by decide, ?_⟩
    refine for_range (lo := 0) (n := 2) (tb := fun D σ H => tDoor K C N UK (wCls K (fun _ _ _ _ => False) D (lNote K "word" UK)) D σ H) (fun i σ H' => ∃ v3 v4, σ = [some (.ref n), some v, some (.ref lf), v3, v4] ∧ Keeps [lf] H H' ∧ H' lf = some (.lst (List.replicate (i + 1) (.bl true)))) ⟨_, _, rfl, k2, l2⟩ ?_ ?_
    · rintro i σ H' hi ⟨v3, v4, rfl, kk, lF⟩
      have hi : i < 2 := hi
      have S := nk kk
      have hbad : ∀ H2, Same H' H2 → BadOf K H2 ws v := fun H2 S2 => (hT.mono (Same.trans S S2)).bad fun s e => (hs s e).1
      have fin : ∀ d' H2, Same H' H2 → H2 d' = some (.xd [(("word" : Str), v)]) → ∀ (D : Ends) (Wout : WX) v3 v4, (∀ H4, Keeps [lf] H H4 → H4 lf = some (.lst (List.replicate (i + 1 + 1) (.bl true))) → D.nx [some (.ref n), some v, some (.ref lf), none, v4] H4) →
          wCls K Wout D (lNote K "word" UK) (.ref UK) (some d') [some (.ref n), some v, some (.ref lf), v3, v4] H2 := fun d' H2 S2 hdd D Wout v3 v4 kk2 =>
        note hexK hdd (same_dqs (Same.trans S S2) hd) hok (S2 _ _ lF) (by rw [List.length_replicate, sizeLine_eq]; omega) (kk2 _ (one (kk.then S2)) (by rw [upd_same, List.replicate_succ' (n := i + 1)]))
      refine ⟨_, rfl, rfl, _, rfl, ?_⟩
      by_cases h0 : i = 0
      · rw [show decide (V.int (0 + (i : Int)) = V.int 0) = true from decide_eq_true (by rw [h0]; rfl)]
        refine iteT ?_
        exact ⟨_, rfl, n, dx, _, rfl, S _ _ hn, rfl, _, rfl, n, ws, v, rfl, hN.mono S, .inr ⟨hbad _ (Same.refl _), fun d' H2 S2 _ hdd => fin d' H2 S2 hdd _ _ _ _ fun H4 k4 l4 => ⟨_, _, rfl, k4, l4⟩⟩⟩
      · rw [show decide (V.int (0 + (i : Int)) = V.int 0) = false from decide_eq_false (fun z => by have := V.int.inj z; omega)]
        refine iteF ?_
        exact ⟨_, rfl, n, dx, _, rfl, S _ _ hn, rfl, _, rfl, n, ws, v, rfl, hN.mono S, .inr ⟨hbad _ (Same.refl _), fun d' H2 S2 _ hdd => fin d' H2 S2 hdd _ _ _ _ fun H4 k4 l4 => ⟨_, _, rfl, k4, l4⟩⟩⟩
    · rintro σ H' ⟨v3, v4, rfl, kk, lF⟩
      have S := nk kk
      refine ⟨_, rfl, by show 3 ≤ sizeLine; decide, fun e he => ?_⟩
      have s2 : Same H' (upd H' e (.lst [.bl true, .bl true, .bl true])) := Same.upd he
      have le : upd H' e (HO.lst [.bl true, .bl true, .bl true]) e = some (.lst [.bl true, .bl true, .bl true]) := upd_same
      generalize upd H' e (HO.lst [.bl true, .bl true, .bl true]) = H2 at s2 le ⊢
      have S2 := Same.trans S s2
      refine ⟨_, _, .lst (SqL.of (s2 _ _ lF)) (.cons (.bl _) (.cons (.bl _) (.cons (.bl _) .nil))), .lst (SqL.of le) (.cons (.bl _) (.cons (.bl _) (.cons (.bl _) .nil))), rfl, rfl, ?_⟩
      refine ⟨_, rfl, iteT ?_⟩
      refine ⟨_, rfl, _, rfl, n, dx, _, rfl, S2 _ _ hn, n, ws, v, rfl, hN.mono S2, ?_⟩
      rcases (hT.mono S2).bad (ws := ["store"]) fun s e => by simpa using (hs s e).2 with ⟨s, rfl, h⟩ | h
      · refine .inl ⟨s, rfl, _, rfl, ?_⟩
        rw [decide_eq_false (by simpa using h)]
        exact k _ S2
      · exact .inr ⟨h, _, rfl, k _ S2⟩
end
end K01
set_option Elab.async false
set_option linter.all false
set_option maxRecDepth 100000
set_option maxHeartbeats 4000000
namespace K01
open PySem L2 EX PyProof.Rows LamX
def refB (dv : PyData) : Bool := dv.showable && (decide (dv.depth ≤ 60) && decide (dv.shown.length ≤ 1000))
theorem refB_ok {dv : PyData} (h : refB dv = true) : RefOk dv := by
  unfold refB at h
  simp only [Bool.and_eq_true, decide_eq_true_eq] at h
  exact ⟨h.1, h.2.1, Nat.le_trans h.2.2 (by rw [sizeLine_eq]; decide)⟩
abbrev lVal (K : PySem.W.Frag) (IV : Addr) : List Cls1 := [⟨.ref IV, some 3, fun a cls d => tIfS (tTest (tShow K "given" 3 2 IV a cls d rNe)) (tRet (tC (.bl false))) tNext⟩]
abbrev lKey (UK : Addr) : List Cls1 := [⟨.ref UK, some 3, fun a cls d => tIfS (tTest (tOp rNe (tXf a cls d UK "word" (tVar 3)) (tC (.str "nokey")))) (tRet (tC (.bl false))) tNext⟩]
abbrev tVal (K : PySem.W.Frag) (C N UK IV : Addr) (te : TE) : WX → TS := fun W => tSeq (tDrop (tMethU N "write" (spWrite K C N UK IV) W (tVar 0) (tCons te (tCons (tVar 2) tNil)))) (tRet (tC (.bl false)))
theorem neq_self (v : V) : (!decide (v = v)) = false := by
  rw [decide_eq_true rfl]
  rfl
section
variable {P : Program} {w : World} {K : PySem.W.Frag} {mg : Str → Option Value} {base : Heap}
theorem ok_values {C N UK IV f : Addr} {fd : FuncData} (F : Fun K "_law_values_refused" "_law_values_refused" sVr f fd) (B : Bn mg) (XV : XrAt P w K mg base "InvalidValue" "given" IV) (XK : XrAt P w K mg base "UnknownKey" "word" UK) (hexV : PySem.W.exmOne K (.ref IV) (.ref IV) = some true) (hexK : PySem.W.exmOne K (.ref UK) (.ref UK) = some true)
    (PHi : PrAt P w K mg base 1 N "history" ["self"] (spEmptyT K C N)) (GWr : MtX P w K mg base 3 N "write" ["self", "key", "value"] (spWrite K C N UK IV)) (GNu : MtX P w K mg base 3 N "number" ["self", "key"] (spNumber K C N UK)) (GWa : MtX P w K mg base 3 N "waiting" ["self", "key"] (spWaiting K C N UK)) : FnG P w K mg base CX0 5 f fd ["_law_net", "_law_word"] (spVal K C N) := by
  refine okG F scVr (fun vs H Q E h => ?_) (fun cdv A outer s H vs Q E hgu hr h => ?_)
  · obtain ⟨n, ws, s, rfl, _⟩ := h
    rfl
  · obtain ⟨n, ws, wd, rfl, hN, hs, hnk, k⟩ := h
    have hu64 : _ + 64 < cLine := hr.units
    have hu70 : (A.deeper (envOfC "_law_values_refused" (defScope sVr) s.heap.objs.size f cdv)).units + 70 < cLine := by
      have := hr.un
      omega
    refine ⟨_, PSs.nox (pss_cons (ps_for PassesOwn.never rfl (pi_list (pe_lst (pa_cons pe_non (pa_cons pe_bl (pa_cons pe_str (pa_cons (pe_lstN (pa_cons pe_int pa_nil)) (pa_cons (pe_tup (pa_cons pe_int pa_nil)) pa_nil))))))) (pg_name (i := 2) scVr.nd rfl (Or.inl rfl)) (pss_cons (ps_try_cls (tb := tVal K C N UK IV (tVar 1)) (l := lVal K IV) rfl rfl scVr.nd L2.takes0 (fun W pn xe tk _ => (pss_cons (ps_expr (pe_mtU GWr (hr.mono (by decide)) tk (pv 0) (pa_cons (pv 1) (pa_cons (pv 2) pa_nil))))
        (pss_one (ps_ret pe_bl)))) (ClsOk.as ⟨by rfl, by decide, .inl XV.m⟩ rfl rfl (fun a oe cls d pn hz hf => (pss_one (ps_if (pt_cmpR op_ne (pe_callB (call_reprq hgu hu70) (by rfl) B.repr (by decide +kernel) (pa_cons (pe_xf XV.T.xf XV.no hz hf (pv 3)) pa_nil)) (pe_callB (call_reprq hgu hu70) (by rfl) B.repr (by decide +kernel) (pa_cons (pv 2) pa_nil)) (nomark _)) (pss_one (ps_ret pe_bl)) pss_nil))) .nil))
        (pss_one (ps_try_cls (tb := tVal K C N UK IV (tC (.str "nokey"))) (l := lKey UK) rfl rfl scVr.nd L2.takes0 (fun W pn xe tk _ => (pss_cons (ps_expr (pe_mtU GWr (hr.mono (by decide)) tk (pv 0) (pa_cons pe_str (pa_cons (pv 2) pa_nil))))
        (pss_one (ps_ret pe_bl)))) (ClsOk.as ⟨by rfl, by decide, .inl XK.m⟩ rfl rfl (fun a oe cls d pn hz hf => (pss_one (ps_if (pt_cmpR op_ne (pe_xf XK.T.xf XK.no hz hf (pv 3)) pe_str (nomark _)) (pss_one (ps_ret pe_bl)) pss_nil))) .nil)))))
        (pss_one (ps_ret (pe_and (pe_cmpR op_eq (pe_mtX GNu (hr.mono (by decide)) (pv 0) (pa_cons (pv 1) pa_nil)) pe_int (nomark _)) (pe_and (pe_cmpR (op_eqD hu64) (pe_prD PHi (hr.mono (by decide)) (pv 0)) (pe_tup pa_nil) (nomark _)) (pe_one (pe_cmpR (op_eqD hu64) (pe_mtX GWa (hr.mono (by decide)) (pv 0) (pa_cons (pv 1) pa_nil)) (pe_lst pa_nil) (nomark _)))))))), ?_⟩
    obtain ⟨dx, tw, cp, nd, la, rw, dn, kp, ac, sm, tr, an, rc, kl, hn, _⟩ := hN.ex
    refine ⟨by show 1 ≤ sizeLine; decide, fun l1 hl1 ns1 => ⟨by show 1 ≤ sizeLine; decide, fun t1 ht1 => ⟨by show 5 ≤ sizeLine; decide, fun lo hlo => ?_⟩⟩⟩
    have S3 : Same H (upd (upd (upd H l1 (.lst [.int 1])) t1 (.tup [.int 1])) lo (.lst [.non, .bl true, .str "5", .ref l1, .ref t1])) := Same.trans (Same.upd hl1) (Same.trans (Same.upd ht1) (Same.upd hlo))
    have e1 : upd (upd (upd H l1 (HO.lst [.int 1])) t1 (HO.tup [.int 1])) lo (HO.lst [.non, .bl true, .str "5", .ref l1, .ref t1]) l1 = some (.lst [.int 1]) := Same.trans (Same.upd ht1) (Same.upd hlo) _ _ upd_same
    have e2 : upd (upd (upd H l1 (HO.lst [.int 1])) t1 (HO.tup [.int 1])) lo (HO.lst [.non, .bl true, .str "5", .ref l1, .ref t1]) t1 = some (.tup [.int 1]) := Same.upd hlo _ _ upd_same
    have e3 : upd (upd (upd H l1 (HO.lst [.int 1])) t1 (HO.tup [.int 1])) lo (HO.lst [.non, .bl true, .str "5", .ref l1, .ref t1]) lo = some (.lst [.non, .bl true, .str "5", .ref l1, .ref t1]) := upd_same
    generalize upd (upd (upd H l1 (HO.lst [.int 1])) t1 (HO.tup [.int 1])) lo (HO.lst [.non, .bl true, .str "5", .ref l1, .ref t1]) = H3 at S3 e1 e2 e3 ⊢
    refine ⟨lo, rfl, ⟨_, SqL.of e3⟩, ?_⟩
    refine for_list (K := K) (a := lo) (xs := [.non, .bl true, .str "5", .ref l1, .ref t1]) (fun i σ H' => ∃ v2 v3, σ = [some (.ref n), some (.str wd), v2, v3] ∧ Same H3 H') ⟨_, _, rfl, Same.refl _⟩ (fun i σ H' _ ⟨v2, v3, _, S⟩ => S.seq (SqL.of e3)) ?_ ?_
    · rintro i x σ H' hx ⟨v2, v3, rfl, S⟩
      have S0 := Same.trans S3 S
      have hod : ∃ dv, NotNum K H' x ∧ DqS K H' x dv ∧ RefOk dv := by
        match i, hx with
        | 0, h => cases h; exact ⟨_, .inl ⟨_, .base .non, kit_ty (by decide +kernel)⟩, .non, refB_ok (by decide +kernel)⟩
        | 1, h => cases h; exact ⟨_, .inr ⟨_, rfl⟩, .bl _, refB_ok (by decide +kernel)⟩
        | 2, h => cases h; exact ⟨_, .inl ⟨_, .base (.str _), kit_ty (by decide +kernel)⟩, .str _, refB_ok (by decide +kernel)⟩
        | 3, h => cases h; exact ⟨_, .inl ⟨_, tyx_lst (SqL.of (S _ _ e1)), kit_ty (by decide +kernel)⟩, .lst ns1 (SqL.of (S _ _ e1)) (.cons (.int 1) .nil), refB_ok (by decide +kernel)⟩
        | 4, h => cases h; exact ⟨_, .inl ⟨_, tyx_tup (SqT.of (S _ _ e2)), kit_ty (by decide +kernel)⟩, .tup (SqT.of (S _ _ e2)) (.cons (.int 1) .nil), refB_ok (by decide +kernel)⟩
        | n + 5, h => simp at h
      obtain ⟨dv, hnum, hd, hok⟩ := hod
      refine ⟨_, rfl, n, dx, _, rfl, S0 _ _ hn, rfl, _, rfl, _, rfl, n, ws, .str wd, x, rfl, hN.mono S0, .inr ⟨wd, rfl, hs, hnum, fun d' H2 S2 _ hdd => ⟨true, hexV, fun _ a ha => ?_, fun z => nomatch z⟩⟩⟩
      refine ⟨_, rfl, rfl, rfl, d', _, x, rfl, hdd, rfl, x, dv, rfl, same_dqs S2 hd, hok.sh, hok.dp, hok.len, _, rfl, x, dv, rfl, same_dqs S2 hd, hok.sh, hok.dp, hok.len, rfl, _, rfl, ifF (neq_self _) ?_⟩
      have S02 := Same.trans S0 S2
      refine ⟨_, rfl, n, dx, _, rfl, S02 _ _ hn, rfl, _, rfl, n, ws, .str "nokey", x, rfl, hN.mono S02, .inl ⟨.inl ⟨_, rfl, hnk⟩, fun d2 H4 S4 _ hdd2 => ⟨true, hexK, fun _ a ha => ?_, fun z => nomatch z⟩⟩⟩
      exact ⟨_, rfl, rfl, rfl, d2, _, .str "nokey", rfl, hdd2, rfl, rfl, _, rfl, ifF (neq_self _) ⟨_, _, rfl, Same.trans S (Same.trans S2 S4)⟩⟩
    · rintro σ H' ⟨v2, v3, rfl, S⟩
      have S0 := Same.trans S3 S
      refine ⟨_, rfl, n, dx, _, rfl, S0 _ _ hn, rfl, _, rfl, n, ws, .str wd, rfl, hN.mono S0, .inl ⟨wd, rfl, hs, rfl, ?_⟩⟩
      refine ⟨_, rfl, iteT ?_⟩
      refine ⟨_, rfl, n, dx, _, rfl, S0 _ _ hn, n, ws, rfl, hN.mono S0, fun tw H4 S4 htw => ⟨by show 0 ≤ sizeLine; decide, fun q hq => ?_⟩⟩
      have s5 : Same H4 (upd H4 q (.tup [])) := Same.upd hq
      refine ⟨_, _, .tup (sqt_same s5 htw) .nil, .tup (SqT.of upd_same) .nil, rfl, rfl, ?_⟩
      have S5 := Same.trans S0 (Same.trans S4 s5)
      generalize upd H4 q (HO.tup []) = H5 at S5 ⊢
      refine ⟨_, rfl, iteT ?_⟩
      refine ⟨_, rfl, n, dx, _, rfl, S5 _ _ hn, rfl, _, rfl, n, ws, .str wd, rfl, hN.mono S5, .inl ⟨wd, rfl, hs, fun l H6 S6 hl => ⟨by show 0 ≤ sizeLine; decide, fun q hq => ?_⟩⟩⟩
      have s7 : Same H6 (upd H6 q (.lst [])) := Same.upd hq
      exact ⟨_, _, .lst (SqL.of (s7 _ _ hl)) .nil, .lst (SqL.of upd_same) .nil, rfl, rfl, k _ (Same.trans S5 (Same.trans S6 s7))⟩
end
end K01
set_option Elab.async false
set_option linter.all false
set_option maxRecDepth 100000
set_option maxHeartbeats 4000000
namespace K01
open PySem L2 EX PyProof.Rows LamX
/-! ### the law's words -/
theorem perm_eraseIdx {α : Type} : ∀ {l : List α} {d : Nat} {y : α}, l[d]? = some y → (y :: l.eraseIdx d).Perm l
  | [], _, _, h => by simp at h
  | x :: l, 0, y, h => by
    cases h
    exact .refl _
  | x :: l, d + 1, y, h => (List.Perm.swap x y _).trans ((perm_eraseIdx (l := l) h).cons x)
theorem map_eraseIdx {α β : Type} (f : α → β) : ∀ (l : List α) (d : Nat), (l.map f).eraseIdx d = (l.eraseIdx d).map f
  | [], _ => rfl
  | x :: l, 0 => rfl
  | x :: l, d + 1 => congrArg (f x :: ·) (map_eraseIdx f l d)
theorem seqIx {n d : Nat} (h : d < n) : seqIndex? (d : Int) n = some d := by
  unfold seqIndex?
  have e : (if (d : Int) < 0 then (d : Int) + n else d) = (d : Int) := if_neg (by omega)
  simp only [e]
  rw [show (decide (0 ≤ (d : Int)) && decide ((d : Int) < n)) = true by simp [h], if_pos rfl, Int.toNat_natCast]
def six : List Str := ["a", "price", "zzzzzzzz", "store", "key", "bb"]
theorem six_ok : ∀ s ∈ six, isW s = true := by decide +kernel
theorem six_nd : six.Nodup := by decide +kernel
/-- what is drawn: some of the six -/
structure WordsOk (ws : List Str) : Prop where
  nd : ws.Nodup
  mem : ∀ s ∈ ws, s ∈ six
  n1 : 1 ≤ ws.length
  n4 : ws.length ≤ 4
theorem WordsOk.keys {ws : List Str} (h : WordsOk ws) : KeysOk ws := ⟨h.nd, fun s hs => six_ok s (h.mem s hs), h.n1, h.n4⟩
def spWords : Sp := fun vs H Q _ => ∃ (p : Addr) (x y : Int), vs = [.ref p] ∧ H p = some (.lst [.int x, .int y]) ∧ SrcOk x y ∧
  ∀ l ws H', Keeps [p] H H' → H l = none → H' l = some (.lst (strV ws)) → WordsOk ws → Q (.ref l) H'
abbrev sWs : Stmt := top 42
def sWsN : List Str := ["_law_source_here", "_law_some", "_law_attempt"]
theorem scWs : FnScope ["_law_source_here", "_law_some", "_law_attempt"] ["_law_source_here"] (defScope sWs) := ⟨rfl, rfl, rfl, by decide +kernel, rfl, by decide +kernel, by decide +kernel⟩
section
variable {P : Program} {w : World} {K : PySem.W.Frag} {mg : Str → Option Value} {base : Heap}
theorem ok_words {f : Addr} {fd : FuncData} (F : Fun K "_law_words" "_law_words" sWs f fd) (B : Bn mg) (GD : DefAt P w K mg base 1 "_law_draw" ["_law_source_here", "_law_amount"] spDraw) : FnOk P w K mg base CX0 2 f fd ["_law_source_here"] spWords := by
  refine F.ok scWs (fun vs H Q E h => ?_) (fun cdv A outer s H vs Q E hr h => ?_)
  · obtain ⟨p, x, y, rfl, _⟩ := h
    rfl
  · obtain ⟨p, x, y, rfl, hp, hxy, k⟩ := h
    refine ⟨_, (pss_cons (ps_set (i := 1) scWs.nd rfl (Or.inr rfl) (pe_lst (pa_cons pe_str (pa_cons pe_str (pa_cons pe_str (pa_cons pe_str (pa_cons pe_str (pa_cons pe_str pa_nil))))))))
        (pss_one (ps_ret (pe_lc (own := [("_law_attempt", 2)]) (g := (gName 2)) (tt := tYes) (te := (tBM K "list" rPopAt (tVar 1) (tCons (tCall spDraw [] E0 (tCons (tVar 0) (tCons (tCB (rLenSq K) (tCons (tVar 1) tNil)) tNil))) tNil))) rfl scWs.nd (pi_range1 (by rfl) B.range (pa_cons (pe_op op_add pe_int (pe_callD GD (hr.mono (by decide)) (pa_cons (pv 0) (pa_cons pe_int pa_nil)))) pa_nil)) (blkOk_by (N := sWsN) (sc := defScope sWs) (by decide +kernel)) (fun _ _ _ _ _ => (pg_name (i := 2) scWs.nd rfl (Or.inl rfl))) (fun _ _ _ _ _ => pts_nil) (fun _ _ _ _ _ => (pe_bm PySem.F.plainAttrs_list PySem.F.slot_list_pop PySem.F.type_list_pop mt_popAt (pv 1) (pa_cons (pe_callD GD (hr.mono (by decide)) (pa_cons (pv 0) (pa_cons (pe_callB call_len_seq (by rfl) B.len PySem.boot_len (pa_cons (pv 1) pa_nil)) pa_nil))) pa_nil))))))), ?_⟩
    refine ⟨by show 6 ≤ sizeLine; decide, fun sm hsm => ?_⟩
    have s1 : Same H (upd H sm (.lst [.str "a", .str "price", .str "zzzzzzzz", .str "store", .str "key", .str "bb"])) := Same.upd hsm
    have l1 : upd H sm (HO.lst [.str "a", .str "price", .str "zzzzzzzz", .str "store", .str "key", .str "bb"]) sm = some (.lst [.str "a", .str "price", .str "zzzzzzzz", .str "store", .str "key", .str "bb"]) := upd_same
    generalize upd H sm (HO.lst [.str "a", .str "price", .str "zzzzzzzz", .str "store", .str "key", .str "bb"]) = H1 at s1 l1 ⊢
    have nsp : sm ≠ p := fun z => by rw [z, hp] at hsm; cases hsm
    have l1 : H1 sm = some (.lst (strV six)) := l1
    refine ⟨_, rfl, p, x, y, 4, rfl, s1 _ _ hp, hxy, by decide, by decide, fun x' y' d hxy' h0 h4 => ⟨_, _, rfl, rfl, 1 + d, rfl, by omega, by omega, fun D hD => ?_⟩⟩
    have hp2 : upd H1 p (HO.lst [.int x', .int y']) p = some (.lst [.int x', .int y']) := upd_same
    have k2 : Keeps [p] H (upd H1 p (.lst [.int x', .int y'])) := (Keeps.of s1).put (by simp)
    have l2 : upd H1 p (HO.lst [.int x', .int y']) sm = some (.lst (strV six)) := by rw [upd_ne nsp]; exact l1
    generalize upd H1 p (HO.lst [.int x', .int y']) = H2 at hp2 k2 l2 hD ⊢
    have hD0 : H D = none := by
      cases e : H D with
      | none => rfl
      | some o =>
        by_cases z : D = p
        · rw [z, hp2] at hD
          cases hD
        · rw [k2 D o (by simpa using z) e] at hD
          cases hD
    have nDp : D ≠ p := fun z => by rw [z, hp2] at hD; cases hD
    have nDs : D ≠ sm := fun z => by rw [z, l2] at hD; cases hD
    obtain ⟨m, hm⟩ : ∃ m : Nat, 1 + d = ((m : Nat) : Int) := ⟨(1 + d).toNat, by omega⟩
    rw [hm, Int.toNat_natCast]
    have hm1 : 1 ≤ m ∧ m ≤ 4 := by omega
    refine lc_range (lo := 0) (n := m) (fun i H3 => ∃ out rest x y, H3 D = some (.lst (strV out)) ∧ H3 sm = some (.lst (strV rest)) ∧ H3 p = some (.lst [.int x, .int y]) ∧ SrcOk x y ∧ Keeps [p] H H3 ∧ out.length = i ∧ rest.length = 6 - i ∧ (out ++ rest).Perm six)
      ⟨[], six, x', y', upd_same, by rw [upd_ne nDs.symm]; exact l2, by rw [upd_ne nDp.symm]; exact hp2, hxy', k2.new hD, rfl, rfl, .refl _⟩ ?_ ?_
    · rintro i H3 hi ⟨out, rest, x3, y3, hD3, hs3, hp3, hxy3, k3, ho, hre, pm⟩
      have hlr : (strV rest).length = rest.length := List.length_map _
      refine ⟨rfl, ?_⟩
      refine ⟨_, rfl, .inl ⟨rfl, _, SqL.of hs3⟩, _, rfl, _, rfl, sm, _, rfl, .inl (SqL.of hs3), p, x3, y3, _, rfl, hp3, hxy3, by rw [hlr]; omega, by rw [hlr]; omega, fun x4 y4 e hxy4 e0 e1 => ?_⟩
      rw [hlr] at e1
      obtain ⟨e, rfl⟩ := Int.eq_ofNat_of_zero_le e0
      have he : e < rest.length := by omega
      have hy : rest[e]? = some rest[e] := List.getElem?_eq_getElem he
      have pe := perm_eraseIdx hy
      refine ⟨sm, strV rest, _, e, .str rest[e], rfl, rfl, by rw [upd_ne nsp]; exact hs3, by omega, by omega, by rw [hlr]; exact seqIx he, by rw [List.getElem?_map, hy]; rfl, ?_⟩
      refine ⟨strV out, by rw [upd_ne nDs, upd_ne nDp]; exact hD3, by rw [List.length_map, sizeLine_eq]; omega, out ++ [rest[e]], rest.eraseIdx e, x4, y4, ?_, ?_, ?_, hxy4, ?_, by rw [List.length_append, ho]; rfl, ?_, ?_⟩
      · rw [upd_same]
        show some (HO.lst (strV out ++ [V.str rest[e]])) = some (HO.lst (List.map V.str (out ++ [rest[e]])))
        rw [List.map_append]
        rfl
      · rw [upd_ne nDs.symm, upd_same, map_eraseIdx]
      · rw [upd_ne nDp.symm, upd_ne nsp.symm, upd_same]
      · refine fun b o hb e => ?_
        have n1 : b ≠ D := fun z => by rw [z, hD0] at e; cases e
        have n2 : b ≠ sm := fun z => by rw [z, hsm] at e; cases e
        rw [upd_ne n1, upd_ne n2, upd_ne (by simpa using hb)]
        exact k3 b o hb e
      · rw [List.length_eraseIdx, if_pos he, hre]
        omega
      · refine List.Perm.trans ?_ pm
        rw [List.append_assoc]
        exact List.Perm.append_left out pe
    · rintro H3 ⟨out, rest, x3, y3, hD3, hs3, hp3, hxy3, k3, ho, hre, pm⟩
      have nd := pm.nodup_iff.mpr six_nd
      exact k D out H3 k3 hD0 hD3 ⟨(List.nodup_append.mp nd).1, fun s hs => pm.mem_iff.mp (List.mem_append_left _ hs), by omega, by omega⟩
end
end K01
set_option Elab.async false
set_option linter.all false
set_option maxRecDepth 100000
set_option maxHeartbeats 4000000
namespace K01
open PySem L2 EX PyProof.Rows LamX
/-! ### data that is its own equal -/
mutual
theorem eqv_refl : ∀ d : PyData, d.canLay0 = true → PyData.eqv d d = true
  | .none, _ => rfl
  | .bool b, _ => by
    show (b == b) = true
    simp
  | .int i, _ => by
    show (i == i) = true
    simp
  | .str s, _ => by
    show (s == s) = true
    simp
  | .list xs, h => eqvAll_refl xs h
  | .tuple xs, h => eqvAll_refl xs h
  | .dict _, h => by cases h
theorem eqvAll_refl : ∀ ds : List PyData, PyData.canLayAll0 ds = true → PyData.eqvAll ds ds = true
  | [], _ => rfl
  | x :: xs, h => by
    have h : (x.canLay0 && PyData.canLayAll0 xs) = true := h
    obtain ⟨h1, h2⟩ := Bool.and_eq_true_iff.mp h
    show (PyData.eqv x x && PyData.eqvAll xs xs) = true
    rw [eqv_refl x h1, eqvAll_refl xs h2]
    rfl
end
theorem ne_same {K : PySem.W.Frag} {H : Hp} {x y : V} {Q : VK} {d : PyData} (h1 : Dp K H x d) (h2 : Dp K H y d) (hs : SeqAt.shaped d = true) (k : Q (.bl false) H) : rNeD K x y H Q := ⟨d, d, h1, h2, hs, hs, by
  rw [eqv_refl d (SeqAt.canLay_of_shaped hs)]
  exact k⟩
theorem eq_same {K : PySem.W.Frag} {H : Hp} {x y : V} {Q : VK} {d : PyData} (h1 : Dp K H x d) (h2 : Dp K H y d) (hs : SeqAt.shaped d = true) (k : Q (.bl true) H) : rEqD K x y H Q := ⟨d, d, h1, h2, hs, hs, by
  rw [eqv_refl d (SeqAt.canLay_of_shaped hs)]
  exact k⟩
/-- what a net shows of itself -/
def dNet (ws : List Str) : PyData := .list [.tuple (ws.map PyData.str), .tuple [.str "store"], .tuple [], .tuple [], .int 1]
theorem shaped_net {ws : List Str} (h : ∀ s ∈ ws, PyData.strOk s = true) : SeqAt.shaped (dNet ws) = true := by
  unfold SeqAt.shaped dNet
  simp only [PyData.canLay0, PyData.canLayAll0, PyData.depth, PyData.depthAll, lay_strs ws h, dep_strs]
  decide +kernel
/-- a generator method as one fact -/
structure GnAt (P : Program) (w : World) (K : PySem.W.Frag) (mg : Str → Option Value) (base : Heap) (k : Nat) (C : Addr) (m : Str) (ps : List Str) (sp : SpG) : Prop where
  c : Cls K C
  ex : ∃ (f : Addr) (fd : FuncData), Meth K C m f ∧ GFn P w K mg base k f fd ps sp ∧ Binds K fd ps []
theorem pe_listGn {X : Cx} {o : Expr} {ta : TE} {p pos pos2 apos : Pos} {m : Str} {k : Nat} {C : Addr} {ps : List Str} {sp : SpG} {pl : Sem Bool} (D : GnAt X.prog X.w X.K X.mg X.base k C m ps sp) (hr : Room (k + 3) X.A) (hm : X.mg "list" = none) (he : PE X o ta) (hg : Gl X "list" := by rfl)
    (ht : eval (.Call (.Attribute o m apos) [] [] pos) X.env = (do
      let ov ← eval o X.env
      standAt apos.atName
      let (f, first) ← holding [ov] (getMethod ov m pl)
      callWith pos f first (backTo pos (starEach [] X.env)) (backToKw pos (keywordEach [] X.env))) := by rfl) : PE X (.Call (.Name "list" p) [.Call (.Attribute o m apos) [] [] pos] [] pos2) (tListG (tMethG C m sp [] E0 ta tNil)) := by
  obtain ⟨f, fd, hme, F, b⟩ := D.ex
  exact pe_listG (pgen_meth0 (pl := pl) he D.c hme F (hr.mono (by omega)) b .nil ht) passL (fun _ _ _ h => h.elim) hr hg hm (by decide +kernel)
/-- _law_right(net, words) -/
def spRi (K : PySem.W.Frag) (C N : Addr) : Sp := fun vs H Q _ => ∃ (n l : Addr) (ws : List Str), vs = [.ref n, .ref l] ∧ NetAt K C N H n ws ∧ SqL K H l (strV ws) ∧ KeysOk ws ∧ ∀ H', Same H H' → Q (.bl true) H'
abbrev sRi : Stmt := top 43
theorem scRi : FnScope ["_law_net", "_law_words_here", "_law_store", "_law_word"] ["_law_net", "_law_words_here"] (defScope sRi) := ⟨rfl, rfl, rfl, by decide +kernel, rfl, by decide +kernel, by decide +kernel⟩
section
variable {P : Program} {w : World} {K : PySem.W.Frag} {mg : Str → Option Value} {base : Heap}
theorem ok_right {C N UN UK f : Addr} {fd : FuncData} (F : Fun K "_law_right" "_law_right" sRi f fd) (B : Bn mg) (DG : DunX P w K mg base 3 N "__getitem__" ["self", "at"] (spNGet K C N UN)) (PKn : PrAt P w K mg base 1 N "key_names" ["self"] (spKeyNames K C N)) (PNm : PrAt P w K mg base 1 N "names" ["self"] (spNames K C N)) (PHi : PrAt P w K mg base 1 N "history" ["self"] (spEmptyT K C N)) (POd : PrAt P w K mg base 1 N "order" ["self"] (spEmptyT K C N))
    (DNl : Dun P w K mg base CX0 1 N "__len__" ["self"] (spNLen K C N)) (PNa : PrAt P w K mg base 2 C "name" ["self"] (spName C)) (PPa : PrAt P w K mg base 2 C "parent" ["self"] (spParent C)) (PCh : PrAt P w K mg base 2 C "children" ["self"] (spKids C)) (DCl : Dun P w K mg base CX0 3 C "__len__" ["self"] (spCLen C)) (DCg : Dun P w K mg base CX0 1 C "__getitem__" ["self", "at"] (spCGet C)) (DCn : Dun P w K mg base CX0 1 C "__contains__" ["self", "x"] (spCIn C))
    (GTo : MtAt P w K mg base CX0 1 C "told" ["self", "key"] (spC0 C)) (GBo : MtAt P w K mg base CX0 1 C "bound" ["self", "key"] (spC0 C)) (GAl : MtAt P w K mg base CX0 1 C "allowance" ["self", "key"] (spC0 C)) (GNu : MtX P w K mg base 3 N "number" ["self", "key"] (spNumber K C N UK)) (GWa : MtX P w K mg base 3 N "waiting" ["self", "key"] (spWaiting K C N UK)) (GAg : MtAt P w K mg base CX0 2 N "age" ["self", "name", "key"] (spAge K C N))
    (GMs : MtAt P w K mg base CX0 1 N "messages" ["self", "sender", "receiver"] (spMsg K C N)) (GLk : GnAt P w K mg base 2 N "links" ["self"] (spLinks K C N)) : FnOk P w K mg base CX0 6 f fd ["_law_net", "_law_words_here"] (spRi K C N) := by
  refine F.ok scRi (fun vs H Q E h => ?_) (fun cdv A outer s H vs Q E hr h => ?_)
  · obtain ⟨n, l, ws, rfl, _⟩ := h
    rfl
  · obtain ⟨n, l, ws, rfl, hN, hl, KO, k⟩ := h
    have hu64 : _ + 64 < cLine := hr.units
    have h4 := KO.n4
    have hlw : (strV ws).length = ws.length := List.length_map _
    refine ⟨_, (pss_cons (ps_set (i := 2) scRi.nd rfl (Or.inl rfl) (pe_getX DG (hr.mono (by decide)) (pv 0) pe_str))
        (pss_cons (ps_if (pt_cmpR (op_neD hu64) (pe_lst (pa_cons (pe_prD PKn (hr.mono (by decide)) (pv 0)) (pa_cons (pe_prD PNm (hr.mono (by decide)) (pv 0)) (pa_cons (pe_prD PHi (hr.mono (by decide)) (pv 0)) (pa_cons (pe_prD POd (hr.mono (by decide)) (pv 0)) (pa_cons (pe_callB (call_lenO DNl (hr.mono (by decide)) pass0) (by rfl) B.len PySem.boot_len (pa_cons (pv 0) pa_nil)) pa_nil)))))) (pe_lst (pa_cons (pe_tupleOf (by rfl) B.tuple (pv 1)) (pa_cons (pe_tup (pa_cons pe_str pa_nil)) (pa_cons (pe_tup pa_nil) (pa_cons (pe_tup pa_nil) (pa_cons pe_int pa_nil)))))) (nomark _)) (pss_one (ps_ret pe_bl)) pss_nil)
        (pss_cons (ps_if (pt_cmpR (op_neD hu64) (pe_lst (pa_cons (pe_prD PNa (hr.mono (by decide)) (pv 2)) (pa_cons (pe_prD PPa (hr.mono (by decide)) (pv 2)) (pa_cons (pe_prD PCh (hr.mono (by decide)) (pv 2)) (pa_cons (pe_callB (call_lenO DCl (hr.mono (by decide)) pass0) (by rfl) B.len PySem.boot_len (pa_cons (pv 2) pa_nil)) pa_nil))))) (pe_lst (pa_cons pe_str (pa_cons pe_non (pa_cons (pe_tup pa_nil) (pa_cons (pe_callB call_len_seq (by rfl) B.len PySem.boot_len (pa_cons (pv 1) pa_nil)) pa_nil))))) (nomark _)) (pss_one (ps_ret pe_bl)) pss_nil)
        (pss_cons (ps_for PassesOwn.never rfl (pi_list (pv 1)) (pg_name (i := 3) scRi.nd rfl (Or.inl rfl)) (pss_cons (ps_if (pt_cmpR (op_neD hu64) (pe_lst (pa_cons (pe_getO DCg (hr.mono (by decide)) pass0 (pv 2) (pv 3)) (pa_cons (pe_mtD GTo (hr.mono (by decide)) (pv 2) (pa_cons (pv 3) pa_nil)) (pa_cons (pe_mtD GBo (hr.mono (by decide)) (pv 2) (pa_cons (pv 3) pa_nil)) (pa_cons (pe_mtD GAl (hr.mono (by decide)) (pv 2) (pa_cons (pv 3) pa_nil)) pa_nil))))) (pe_lst (pa_cons (pe_tup (pa_cons pe_int (pa_cons pe_int pa_nil))) (pa_cons pe_int (pa_cons pe_int (pa_cons pe_int pa_nil))))) (nomark _)) (pss_one (ps_ret pe_bl)) pss_nil)
        (pss_one (ps_if (PW.pt (pw_or (pt_cmpR op_ne (pe_mtX GNu (hr.mono (by decide)) (pv 0) (pa_cons (pv 3) pa_nil)) pe_int (nomark _)) (pw_or (pt_cmpR (op_neD hu64) (pe_mtX GWa (hr.mono (by decide)) (pv 0) (pa_cons (pv 3) pa_nil)) (pe_lst pa_nil) (nomark _)) (pw_or (pt_cmpR op_ne (pe_mtD GAg (hr.mono (by decide)) (pv 0) (pa_cons pe_str (pa_cons (pv 3) pa_nil))) pe_int (nomark _)) (pw_or1 (pt_cmpR (op_notInO DCn (hr.mono (by decide)) pass0) (pv 3) (pv 2) (by rfl))))))) (pss_one (ps_ret pe_bl)) pss_nil))))
        (pss_one (ps_ret (pe_and (pe_cmpR (op_eqD hu64) (pe_listGn GLk (hr.mono (by decide)) B.list (pv 0)) (pe_lst pa_nil) (nomark _)) (pe_and (pe_cmpR (op_eqD hu64) (pe_mtD GMs (hr.mono (by decide)) (pv 0) (pa_cons pe_str (pa_cons pe_str pa_nil))) (pe_lst pa_nil) (nomark _)) (pe_one (pe_cmpR (op_eqD hu64) (pe_mtD GMs (hr.mono (by decide)) (pv 0) (pa_cons pe_non (pa_cons (pe_lst (pa_cons pe_int pa_nil)) pa_nil))) (pe_lst pa_nil) (nomark _))))))))))), ?_⟩
    obtain ⟨dx, tw, cp0, nd, la, rw, dn, kp, ac, sm, tr, an, rc, kl, hn, _⟩ := hN.ex
    refine ⟨_, rfl, n, dx, _, rfl, hn, n, ws, .str "store", rfl, hN, .inl ⟨rfl, fun cp hC => ?_⟩⟩
    obtain ⟨dxc, cd, ce, kt, cl, hcp, hcd, hcl, hcs, hkt⟩ := hC.ex
    -- what the net shows
    refine ⟨_, rfl, n, dx, _, rfl, hn, n, ws, rfl, hN, fun tw htw => ⟨_, rfl, n, dx, _, rfl, hn, n, ws, rfl, hN, fun la hla => ⟨_, rfl, n, dx, _, rfl, hn, n, ws, rfl, hN, fun t1 H1 S1 ht1 => ⟨_, rfl, n, dx, _, rfl, S1 _ _ hn, n, ws, rfl, hN.mono S1, fun t2 H2 S2 ht2 => ?_⟩⟩⟩⟩
    have S02 := Same.trans S1 S2
    refine ⟨_, rfl, n, dx, _, rfl, S02 _ _ hn, n, ws, rfl, hN.mono S02, 1, rfl, by decide, by decide, by show 5 ≤ sizeLine; decide, fun p5 hp5 => ?_⟩
    have s3 : Same H2 (upd H2 p5 (.lst [.ref tw, .ref la, .ref t1, .ref t2, .int 1])) := Same.upd hp5
    have l3 : upd H2 p5 (HO.lst [.ref tw, .ref la, .ref t1, .ref t2, .int 1]) p5 = some (.lst [.ref tw, .ref la, .ref t1, .ref t2, .int 1]) := upd_same
    generalize upd H2 p5 (HO.lst [.ref tw, .ref la, .ref t1, .ref t2, .int 1]) = H3 at s3 l3 ⊢
    have S03 := Same.trans S02 s3
    refine ⟨_, rfl, k_tup (.inl (S03.seq hl)) fun t3 H4 S4 ht3 => ⟨by show 1 ≤ sizeLine; decide, fun t4 ht4 => ⟨by show 0 ≤ sizeLine; decide, fun t5 ht5 => ⟨by show 0 ≤ sizeLine; decide, fun t6 ht6 => ⟨by show 5 ≤ sizeLine; decide, fun p6 hp6 => ?_⟩⟩⟩⟩⟩
    have S48 : Same H4 (upd (upd (upd (upd H4 t4 (.tup [.str "store"])) t5 (.tup [])) t6 (.tup [])) p6 (.lst [.ref t3, .ref t4, .ref t5, .ref t6, .int 1])) := Same.trans (Same.upd ht4) (Same.trans (Same.upd ht5) (Same.trans (Same.upd ht6) (Same.upd hp6)))
    have e4 : upd (upd (upd (upd H4 t4 (HO.tup [.str "store"])) t5 (HO.tup [])) t6 (HO.tup [])) p6 (HO.lst [.ref t3, .ref t4, .ref t5, .ref t6, .int 1]) t4 = some (.tup [.str "store"]) := Same.trans (Same.upd ht5) (Same.trans (Same.upd ht6) (Same.upd hp6)) _ _ upd_same
    have e5 : upd (upd (upd (upd H4 t4 (HO.tup [.str "store"])) t5 (HO.tup [])) t6 (HO.tup [])) p6 (HO.lst [.ref t3, .ref t4, .ref t5, .ref t6, .int 1]) t5 = some (.tup []) := Same.trans (Same.upd ht6) (Same.upd hp6) _ _ upd_same
    have e6 : upd (upd (upd (upd H4 t4 (HO.tup [.str "store"])) t5 (HO.tup [])) t6 (HO.tup [])) p6 (HO.lst [.ref t3, .ref t4, .ref t5, .ref t6, .int 1]) t6 = some (.tup []) := Same.upd hp6 _ _ upd_same
    have e7 : upd (upd (upd (upd H4 t4 (HO.tup [.str "store"])) t5 (HO.tup [])) t6 (HO.tup [])) p6 (HO.lst [.ref t3, .ref t4, .ref t5, .ref t6, .int 1]) p6 = some (.lst [.ref t3, .ref t4, .ref t5, .ref t6, .int 1]) := upd_same
    generalize upd (upd (upd (upd H4 t4 (HO.tup [.str "store"])) t5 (HO.tup [])) t6 (HO.tup [])) p6 (HO.lst [.ref t3, .ref t4, .ref t5, .ref t6, .int 1]) = H5 at S48 e4 e5 e6 e7 ⊢
    have S35 := Same.trans S4 S48
    have S25 := Same.trans s3 S35
    have S05 := Same.trans S02 S25
    have hws : ∀ s ∈ ws, PyData.strOk s = true := fun s hs => isW_ok (KO.wd s hs)
    refine ne_same (d := dNet ws) (.lst (SqL.of (S35 _ _ l3)) (.cons (.tup (sqt_same S05 htw) (dpAll_strs _)) (.cons (.tup (SqT.of (S05 _ _ hla)) (.cons (.str _) .nil)) (.cons (.tup (sqt_same (Same.trans S2 S25) ht1) .nil) (.cons (.tup (sqt_same S25 ht2) .nil) (.cons (.int 1) .nil))))))
      (.lst (SqL.of e7) (.cons (.tup (sqt_same S48 ht3) (dpAll_strs _)) (.cons (.tup (SqT.of e4) (.cons (.str _) .nil)) (.cons (.tup (SqT.of e5) .nil) (.cons (.tup (SqT.of e6) .nil) (.cons (.int 1) .nil)))))) (shaped_net hws) ?_
    refine ⟨_, rfl, iteF ?_⟩
    clear S48 e4 e5 e6 e7 S35 S25 S4 ht3 hp6 ht4 ht5 ht6 l3 s3 hp5 S1 S2 ht1 ht2 S02 S03
    have hC5 := hC.mono S05
    have hp5' := S05 _ _ hcp
    -- what its store shows
    refine ⟨_, rfl, cp, dxc, _, rfl, hp5', cp, dxc, _, _, _, _, _, ce, kt, rfl, hp5', _, rfl, cp, dxc, _, rfl, hp5', cp, dxc, _, _, _, _, _, ce, kt, rfl, hp5', _, rfl, cp, dxc, _, rfl, hp5', cp, dxc, _, _, _, _, _, ce, kt, rfl, hp5', _, rfl, cp, dxc, _, rfl, hp5', cp, n, ws, rfl, hC5, by omega, fun H6 S6 => ⟨_, rfl, by omega, Int.lt_of_le_of_lt (b := 4) (by omega) (by decide), by show 4 ≤ sizeLine; decide, fun p7 hp7 => ?_⟩⟩
    have s7 : Same H6 (upd H6 p7 (.lst [.str "store", .non, .ref kt, .int (ws.length : Nat)])) := Same.upd hp7
    have l7 : upd H6 p7 (HO.lst [.str "store", .non, .ref kt, .int (ws.length : Nat)]) p7 = some (.lst [.str "store", .non, .ref kt, .int (ws.length : Nat)]) := upd_same
    generalize upd H6 p7 (HO.lst [.str "store", .non, .ref kt, .int (ws.length : Nat)]) = H7 at s7 l7 ⊢
    refine ⟨by show 0 ≤ sizeLine; decide, fun t8 ht8 => ?_⟩
    have s8 : Same H7 (upd H7 t8 (.tup [])) := Same.upd ht8
    have l8 : upd H7 t8 (HO.tup []) t8 = some (.tup []) := upd_same
    generalize upd H7 t8 (HO.tup []) = H8 at s8 l8 ⊢
    have S08 := Same.trans S05 (Same.trans S6 (Same.trans s7 s8))
    refine ⟨_, rfl, l, _, rfl, .inl (S08.seq hl), by show 4 ≤ sizeLine; decide, fun p9 hp9 => ?_⟩
    rw [hlw]
    have s9 : Same H8 (upd H8 p9 (.lst [.str "store", .non, .ref t8, .int (ws.length : Nat)])) := Same.upd hp9
    have l9 : upd H8 p9 (HO.lst [.str "store", .non, .ref t8, .int (ws.length : Nat)]) p9 = some (.lst [.str "store", .non, .ref t8, .int (ws.length : Nat)]) := upd_same
    generalize upd H8 p9 (HO.lst [.str "store", .non, .ref t8, .int (ws.length : Nat)]) = H9 at s9 l9 ⊢
    have S09 := Same.trans S08 s9
    refine ne_same (d := .list [.str "store", .none, .tuple [], .int (ws.length : Nat)]) (.lst (SqL.of (s9 _ _ (s8 _ _ l7))) (.cons (.str _) (.cons .non (.cons (.tup (SqT.of (S09 _ _ hkt)) .nil) (.cons (.int _) .nil))))) (.lst (SqL.of l9) (.cons (.str _) (.cons .non (.cons (.tup (SqT.of (s9 _ _ l8)) .nil) (.cons (.int _) .nil))))) (by with_unfolding_all rfl) ?_
    refine ⟨_, rfl, iteF ?_⟩
    clear s7 l7 s8 l8 l9 s9 S08 S6 hp7 ht8 hp9 hC5 hp5' S05
    -- each word
    refine ⟨_, rfl, l, rfl, ⟨_, S09.seq hl⟩, ?_⟩
    refine for_list (K := K) (a := l) (xs := strV ws) (fun i σ H' => ∃ v3, σ = [some (.ref n), some (.ref l), some (.ref cp), v3] ∧ Same H9 H') ⟨_, rfl, Same.refl _⟩ (fun i σ H' _ ⟨v3, _, S⟩ => S.seq (S09.seq hl)) ?_ ?_
    · rintro i x σ H' hx ⟨v3, rfl, S⟩
      obtain ⟨wd, rfl, hw⟩ := strV_get hx
      have hs := List.mem_of_getElem? hw
      have S0 := Same.trans S09 S
      have hcp0 := S0 _ _ hcp
      have hC0 := hC.mono S0
      refine ⟨_, rfl, _, rfl, cp, dxc, _, rfl, hcp0, cp, n, ws, wd, rfl, hC0, hs, ?_⟩
      rintro v ⟨c, rfl, hc0⟩
      refine ⟨_, rfl, cp, dxc, _, rfl, hcp0, rfl, _, rfl, cp, n, ws, wd, rfl, hC0, hs, ?_⟩
      rintro v rfl
      refine ⟨_, rfl, cp, dxc, _, rfl, hcp0, rfl, _, rfl, cp, n, ws, wd, rfl, hC0, hs, ?_⟩
      rintro v rfl
      refine ⟨_, rfl, cp, dxc, _, rfl, hcp0, rfl, _, rfl, cp, n, ws, wd, rfl, hC0, hs, ?_⟩
      rintro v rfl
      refine ⟨by show 4 ≤ sizeLine; decide, fun pa hpa => ⟨by show 2 ≤ sizeLine; decide, fun tb htb => ⟨by show 4 ≤ sizeLine; decide, fun pb hpb => ?_⟩⟩⟩
      have sa : Same H' (upd (upd (upd H' pa (.lst [.ref c, .int 0, .int 0, .int 0])) tb (.tup [.int 0, .int 0])) pb (.lst [.ref tb, .int 0, .int 0, .int 0])) := Same.trans (Same.upd hpa) (Same.trans (Same.upd htb) (Same.upd hpb))
      have ea : upd (upd (upd H' pa (HO.lst [.ref c, .int 0, .int 0, .int 0])) tb (HO.tup [.int 0, .int 0])) pb (HO.lst [.ref tb, .int 0, .int 0, .int 0]) pa = some (.lst [.ref c, .int 0, .int 0, .int 0]) := Same.trans (Same.upd htb) (Same.upd hpb) _ _ upd_same
      have eb : upd (upd (upd H' pa (HO.lst [.ref c, .int 0, .int 0, .int 0])) tb (HO.tup [.int 0, .int 0])) pb (HO.lst [.ref tb, .int 0, .int 0, .int 0]) tb = some (.tup [.int 0, .int 0]) := Same.upd hpb _ _ upd_same
      have ec : upd (upd (upd H' pa (HO.lst [.ref c, .int 0, .int 0, .int 0])) tb (HO.tup [.int 0, .int 0])) pb (HO.lst [.ref tb, .int 0, .int 0, .int 0]) pb = some (.lst [.ref tb, .int 0, .int 0, .int 0]) := upd_same
      generalize upd (upd (upd H' pa (HO.lst [.ref c, .int 0, .int 0, .int 0])) tb (HO.tup [.int 0, .int 0])) pb (HO.lst [.ref tb, .int 0, .int 0, .int 0]) = Ha at sa ea eb ec ⊢
      refine ne_same (d := .list [.tuple [.int 0, .int 0], .int 0, .int 0, .int 0]) (.lst (SqL.of ea) (.cons (.tup (SqT.of (sa _ _ hc0)) (.cons (.int _) (.cons (.int _) .nil))) (.cons (.int _) (.cons (.int _) (.cons (.int _) .nil))))) (.lst (SqL.of ec) (.cons (.tup (SqT.of eb) (.cons (.int _) (.cons (.int _) .nil))) (.cons (.int _) (.cons (.int _) (.cons (.int _) .nil))))) rfl ?_
      refine ⟨_, rfl, iteF ?_⟩
      have Sa := Same.trans S0 sa
      clear ea eb ec hc0 hpa htb hpb
      refine ⟨_, rfl, n, dx, _, rfl, Sa _ _ hn, rfl, _, rfl, n, ws, .str wd, rfl, hN.mono Sa, .inl ⟨wd, rfl, hs, rfl, _, rfl, ifF (neq_self _) ?_⟩⟩
      refine ⟨_, rfl, n, dx, _, rfl, Sa _ _ hn, rfl, _, rfl, n, ws, .str wd, rfl, hN.mono Sa, .inl ⟨wd, rfl, hs, fun lw Hb Sb hlw => ⟨by show 0 ≤ sizeLine; decide, fun q hq => ?_⟩⟩⟩
      refine ne_same (d := .list []) (.lst (SqL.of (Same.upd hq _ _ hlw)) .nil) (.lst (SqL.of upd_same) .nil) rfl ?_
      have sb := Same.trans sa (Same.trans Sb (Same.upd (o := .lst []) hq))
      generalize upd Hb q (HO.lst []) = Hc at sb ⊢
      have Sc := Same.trans S0 sb
      refine ⟨_, rfl, iteF ?_⟩
      refine ⟨_, rfl, n, dx, _, rfl, Sc _ _ hn, rfl, _, rfl, n, ws, wd, rfl, hN.mono Sc, hs, rfl, _, rfl, ifF (neq_self _) ?_⟩
      refine ⟨_, rfl, _, rfl, cp, dxc, _, rfl, Sc _ _ hcp, cp, n, ws, wd, rfl, hC.mono Sc, hs, ?_⟩
      rintro v rfl
      exact ⟨_, rfl, _, rfl, iteF ⟨_, rfl, Same.trans S sb⟩⟩
    · rintro σ H' ⟨v3, rfl, S⟩
      have S0 := Same.trans S09 S
      refine ⟨_, rfl, n, dx, _, rfl, S0 _ _ hn, rfl, n, ws, rfl, hN.mono S0, fun Ha Sa p hp => ⟨by show 0 ≤ sizeLine; decide, fun q hq => ?_⟩⟩
      refine eq_same (d := .list []) (.lst (SqL.of (Same.upd hq _ _ upd_same)) .nil) (.lst (SqL.of upd_same) .nil) rfl ?_
      have s1 : Same H' (upd (upd Ha p (.lst [])) q (.lst [])) := Same.trans Sa (Same.trans (Same.upd hp) (Same.upd hq))
      generalize upd (upd Ha p (HO.lst [])) q (HO.lst []) = Hb at s1 ⊢
      have S1 := Same.trans S0 s1
      refine ⟨_, rfl, iteT ?_⟩
      refine ⟨_, rfl, n, dx, _, rfl, S1 _ _ hn, rfl, n, ws, _, _, rfl, hN.mono S1, .inr ⟨_, _, rfl, rfl⟩, fun lm Hc Sc hlm => ⟨by show 0 ≤ sizeLine; decide, fun q hq => ?_⟩⟩
      refine eq_same (d := .list []) (.lst (SqL.of (Same.upd hq _ _ hlm)) .nil) (.lst (SqL.of upd_same) .nil) rfl ?_
      have S2 := Same.trans S1 (Same.trans Sc (Same.upd (o := .lst []) hq))
      generalize upd Hc q (HO.lst []) = Hd at S2 ⊢
      refine ⟨_, rfl, iteT ?_⟩
      refine ⟨_, rfl, n, dx, _, rfl, S2 _ _ hn, rfl, by show 1 ≤ sizeLine; decide, fun q1 hq1 => ?_⟩
      have S3 := Same.trans S2 (Same.upd (o := .lst [.int 1]) hq1)
      generalize upd Hd q1 (HO.lst [.int 1]) = He at S3 ⊢
      refine ⟨n, ws, _, _, rfl, hN.mono S3, .inl .non, fun lm Hf Sf hlm => ⟨by show 0 ≤ sizeLine; decide, fun q hq => ?_⟩⟩
      refine eq_same (d := .list []) (.lst (SqL.of (Same.upd hq _ _ hlm)) .nil) (.lst (SqL.of upd_same) .nil) rfl ?_
      exact k _ (Same.trans S3 (Same.trans Sf (Same.upd hq)))
end
end K01
set_option Elab.async false
set_option linter.all false
set_option maxRecDepth 100000
set_option maxHeartbeats 4000000
namespace K01
open PySem L2 EX PyProof.Rows LamX
/-! ### the law -/
theorem NetAt.but {K : PySem.W.Frag} {C N : Addr} {H : Hp} {n l : Addr} {ws : List Str} {x : V} {xs : List V} {o : HO} (hl : H l = some (.lst (x :: xs))) (h : NetAt K C N H n ws) : NetAt K C N (upd H l o) n ws := by
  have k : Keeps [l] H (upd H l o) := Keeps.one _
  have nl : ∀ {a : Addr} {u : HO}, H a = some u → u ≠ .lst (x :: xs) → upd H l o a = some u := fun {a u} e hu => by
    rw [upd_ne (fun z => by rw [z, hl] at e; exact hu (Option.some.inj e).symm)]
    exact e
  obtain ⟨dx, tw, cp, nd, la, rw, dn, kp, ac, sm, tr, an, rc, kl, h1, h2, h3, h4, h5, h6, h7, h8, h9, h10, h11⟩ := h.ex
  obtain ⟨dxc, cd, ce, kt, cl, c1, c2, c3, c4, c5⟩ := h3.ex
  refine ⟨dx, tw, cp, nd, la, rw, dn, kp, ac, sm, tr, an, rc, kl, nl h1 (fun z => nomatch z), k.sqt' (fun q hq => by rw [List.mem_singleton.mp hq]; exact .lst hl) h2, ⟨dxc, cd, ce, kt, cl, nl c1 (fun z => nomatch z), nl c2 (fun z => nomatch z), c3, fun y hy => ?_, nl c5 (fun z => nomatch z)⟩, nl h4 (fun z => nomatch z), nl h5 (fun z => nomatch z), nl h6 (fun z => nomatch z), nl h7 (fun z => nomatch z), nl h8 (fun z => nomatch z), h9, fun y hy => nl (h10 y hy) (fun z => nomatch z), nl h11 (fun z => nomatch z)⟩
  obtain ⟨c, e1, e2⟩ := c4 y hy
  exact ⟨c, nl e1 (fun z => nomatch z), nl e2 (fun z => nomatch z)⟩
theorem mk_net {K : PySem.W.Frag} {C N IK : Addr} {H : Hp} {a : Addr} {ws : List Str} {E : XK} {Q : Addr → Hp → Prop} (ho : SqE K H a (strV ws)) (KO : KeysOk ws) (k : ∀ n dx fs H', H n = none → Same H H' → H' n = some (.ins N dx fs) → NetAt K C N H' n ws → Q n H') : ∀ x dx, H x = none → H dx = none → dx ≠ x → spNI K C N IK (.ref x :: ([.ref a] ++ [])) (upd (upd H dx (.own x)) x (.ins N dx [])) (fun v H2 => v = .non ∧ Q x H2) E := fun x dx hx hdx hne => by
  have S1 : Same H (upd (upd H dx (.own x)) x (.ins N dx [])) := Same.trans (Same.upd hdx) (Same.upd (by rw [upd_ne (Ne.symm hne)]; exact hx))
  refine ⟨x, dx, .ref a, rfl, upd_same, .inl ⟨a, ws, rfl, ho.mono S1, KO, fun H' k2 hN => ⟨rfl, ?_⟩⟩⟩
  obtain ⟨dx', tw, cp, nd, la, rw, dn, kp, ac, sm, tr, an, rc, kl, h1, _⟩ := hN.ex
  exact k x dx' _ H' hx (made_same hx hdx hne k2) h1 hN
theorem KeysOk.one {s : Str} (h : isW s = true) : KeysOk [s] := ⟨by simp, fun t ht => by rw [List.mem_singleton.mp ht]; exact h, Nat.le_refl _, by show 1 ≤ 4; decide⟩
/-- an odd thing, refused as keys, and how it is shown -/
def OddK (K : PySem.W.Frag) (H : Hp) (v : V) : Prop := ∃ dv, KeyArg K H v false ∧ DqS K H v dv ∧ RefOk dv
theorem OddK.mono {K : PySem.W.Frag} {H H' : Hp} (s : Same H H') {v : V} (h : OddK K H v) : OddK K H' v := let ⟨dv, h1, h2, h3⟩ := h; ⟨dv, h1.mono s, same_dqs s h2, h3⟩
theorem odd_lst {K : PySem.W.Frag} {H : Hp} {a : Addr} {xs : List V} {ds : List PyData} (h : H a = some (.lst xs)) (hm : a ≠ sysModules) (hd : DqSAll K H xs ds) (hi : ∀ y ∈ xs, ItemOk y) (hl : xs.length ≤ 1000) (hg : goodK xs = false) (hr : refB (.list ds) = true) : OddK K H (.ref a) :=
  ⟨_, .inl ⟨a, xs, rfl, .inl (SqL.of h), hl, hi, hg.symm⟩, .lst hm (SqL.of h) hd, refB_ok hr⟩
theorem dqs_signs {K : PySem.W.Frag} {H : Hp} (x : Str) : DqSAll K H (EX.signs x) (x.cps.toList.map fun c => PyData.str ⟨#[c]⟩) := by
  unfold EX.signs
  induction x.cps.toList with
  | nil => exact .nil
  | cons c r ih => exact .cons (.str _) ih
theorem itS {s : Str} (h : s.length ≤ 1000) : ItemOk (.str s) := .inl ⟨s, rfl, Nat.le_trans h (by rw [sizeLine_eq]; decide)⟩
abbrev sLaw : Stmt := top 44
def sLawN : List Str := ["_law_script", "_law_turn", "_law_source_here", "_law_words_here", "_law_held", "_law_net", "_law_odds", "_law_odd"]
theorem scLw : FnScope ["_law_script", "_law_turn", "_law_source_here", "_law_words_here", "_law_held", "_law_net", "_law_odds", "_law_odd"] ["_law_script"] (defScope sLaw) := ⟨rfl, rfl, rfl, by decide +kernel, rfl, by decide +kernel, by decide +kernel⟩
section
variable {P : Program} {w : World} {K : PySem.W.Frag} {mg : Str → Option Value} {base : Heap}
theorem run_law {C N UN UK IV IK f a : Addr} {fd : FuncData} {s : Shared} {H : Hp} {ns : List Int} (F : Fun K "law" "law" sLaw f fd) (B : Bn mg) (mN : mg "Net" = some (.ref N)) (I : IsiC K N) (TN : NetC K N) (RC : ClX.CRead K N (.type "type")) (VC : ∃ t, ClX.CVal K N (.type "type") "MOST" (.int 12) (.int 12 t))
    (GSo : DefAt P w K mg base 1 "_law_source" ["_law_script", "_law_turn"] (spSource K)) (GWo : DefAt P w K mg base 2 "_law_words" ["_law_source_here"] spWords) (GVa : DefG P w K mg base 5 "_law_values_refused" ["_law_net", "_law_word"] (spVal K C N)) (GRi : DefAt P w K mg base 6 "_law_right" ["_law_net", "_law_words_here"] (spRi K C N)) (GRe : DefG P w K mg base 5 "_law_refused" ["_law_thing"] (spRefd K)) (GUn : DefG P w K mg base 5 "_law_unknown" ["_law_net", "_law_thing"] (spUnk K C N))
    (MN : MkX P w K mg base 3 "Net" ["self", "keys"] N (spNI K C N IK)) (DEq : Dun P w K mg base CX0 1 N "__eq__" ["self", "other"] (spNEq K C N)) (DNc : Dun P w K mg base CX0 1 N "__contains__" ["self", "x"] (spNIn K C N))
    (hb : ∀ (s : Shared) (u : Value), BindsTo s fd ⟨[u], []⟩ [("_law_script", u)]) (e0 : Env0 P w K mg base callerA [] s H) (hS : SqL K H a (ns.map V.int)) (hns : ns.length ≤ 63) :
    codeAny (model P w) callerA (.call (.ref f) ⟨[.ref a], []⟩) (CR CX0 [] P w H s (fun v _ => v = .bl true) E0) s := by
  have hroom : Room 40 callerA := ⟨rfl, by decide, by decide⟩
  refine fn_at (us := [Value.ref a]) (vs := [V.ref a]) F scLw hroom e0 (hb s (.ref a)) (.cons rfl .nil) rfl fun cdv hr => ?_
  have hgu : (callerA.deeper (envOfC "law" (defScope sLaw) s.heap.objs.size f cdv)).guards = some [] := rfl
  have hu := hu_of hr
  have hu64 : (callerA.deeper (envOfC "law" (defScope sLaw) s.heap.objs.size f cdv)).units + 64 < cLine := hr.units
  have nf : PySem.W.notFirst K N (.ref N) = true := by
    unfold PySem.W.notFirst
    rw [beq_self_eq_true, Bool.true_or]
  refine ⟨_, PSs.nox (pss_cons (ps_for PassesOwn.never rfl (pi_range1 (by rfl) B.range (pa_cons (pe_callB (call_max2 rfl) (by rfl) B.max PyProof.Rows.boot_max (pa_cons pe_int (pa_cons (pe_callB (call_min2 rfl) (by rfl) B.min PyProof.Rows.boot_min (pa_cons (pe_callB call_len_seq (by rfl) B.len PySem.boot_len (pa_cons (pv 0) pa_nil)) (pa_cons pe_int pa_nil))) pa_nil))) pa_nil)) (pg_name (i := 1) scLw.nd rfl (Or.inl rfl)) (pss_cons (ps_set (i := 2) scLw.nd rfl (Or.inl rfl) (pe_callD GSo (hr.mono (by decide)) (pa_cons (pv 0) (pa_cons (pv 1) pa_nil))))
        (pss_cons (ps_set (i := 3) scLw.nd rfl (Or.inl rfl) (pe_callD GWo (hr.mono (by decide)) (pa_cons (pv 2) pa_nil)))
        (pss_cons (ps_set (i := 4) scLw.nd rfl (Or.inl rfl) (pe_callTy call_list_of (by rfl) B.list (by decide +kernel) (pa_cons (pv 3) pa_nil)))
        (pss_cons (ps_set (i := 5) scLw.nd rfl (Or.inl rfl) (pe_mkX MN (hr.mono (by decide)) (pa_cons (pv 3) pa_nil)))
        (pss_cons (ps_expr (pe_bm PySem.F.plainAttrs_list PySem.F.slot_list_append PySem.F.type_list_append mt_append (pv 3) (pa_cons pe_str pa_nil)))
        (pss_cons (ps_if (pt_not (pt_val (pe_callG GVa (hr.mono (by decide)) hgu (pa_cons (pv 5) (pa_cons (pe_ix ix_list (pv 4) pe_int (fun _ _ => rfl)) pa_nil))))) (pss_one (ps_ret pe_bl)) pss_nil)
        (pss_cons (ps_if (PW.pt (pw_or (pt_not (pt_val (pe_callD GRi (hr.mono (by decide)) (pa_cons (pv 5) (pa_cons (pv 4) pa_nil))))) (pw_or (pt_not (pt_cmpR (op_eqO DEq (hr.mono (by decide)) pass0) (pv 5) (pe_mkX MN (hr.mono (by decide)) (pa_cons (pe_tupleOf (by rfl) B.tuple (pv 4)) pa_nil)) (nomark _))) (pw_or1 (pt_cmpR (op_eqO DEq (hr.mono (by decide)) pass0) (pv 5) (pe_mkX MN (hr.mono (by decide)) (pa_cons (pe_lst (pa_cons pe_str pa_nil)) pa_nil)) (nomark _)))))) (pss_one (ps_ret pe_bl)) pss_nil)
        (pss_cons (ps_set (i := 6) scLw.nd rfl (Or.inl rfl) (pe_lst (pa_cons pe_non (pa_cons (pe_lstN pa_nil) (pa_cons (pe_tup pa_nil) (pa_cons pe_str (pa_cons (pe_op op_repN (pe_lstN (pa_cons pe_str pa_nil)) pe_int) (pa_cons (pe_lstN (pa_cons pe_str pa_nil)) (pa_cons (pe_lstN (pa_cons pe_str pa_nil)) (pa_cons (pe_lstN (pa_cons (pe_op op_repStr pe_str pe_int) pa_nil)) (pa_cons (pe_lstN (pa_cons pe_int pa_nil)) (pa_cons (pe_lstN (pa_cons pe_str pa_nil)) (pa_cons (pe_disp (pps_cons pe_str pe_int pps_nil) rfl rfl (by simp) (by decide)) (pa_cons (pe_callTy (cr_listStr rfl) (by rfl) B.list (by decide +kernel) (pa_cons pe_str pa_nil)) (pa_cons (pe_lstN (pa_cons pe_non pa_nil)) pa_nil)))))))))))))))
        (pss_cons (ps_if (pt_cmpR (op_neD hu64) (pe_lc (own := [("_law_odd", 7)]) (g := (gName 7)) (tt := (tNot (tB (tCall (spRefd K) [] E0 (tCons (tVar 7) tNil))))) (te := (tVar 7)) rfl scLw.nd (pi_list (pv 6)) (blkOk_by (N := sLawN) (sc := defScope sLaw) (by decide +kernel)) (fun _ _ _ _ _ => (pg_name (i := 7) scLw.nd rfl (Or.inl rfl))) (fun _ _ _ _ _ => (pts_one (pt_not (pt_val (pe_callG GRe (hr.mono (by decide)) hgu (pa_cons (pv 7) pa_nil)))))) (fun _ _ _ _ _ => (pv 7))) (pe_lstN pa_nil) (nomark _)) (pss_one (ps_ret pe_bl)) pss_nil)
        (pss_one (ps_for PassesOwn.never rfl (pi_list (pe_lst (pa_cons pe_non (pa_cons pe_str (pa_cons pe_int (pa_cons (pe_lstN (pa_cons pe_str pa_nil)) (pa_cons (pe_tup (pa_cons pe_str pa_nil)) pa_nil))))))) (pg_name (i := 7) scLw.nd rfl (Or.inl rfl)) (pss_one (ps_if (pt_not (pt_val (pe_callG GUn (hr.mono (by decide)) hgu (pa_cons (pv 5) (pa_cons (pv 7) pa_nil))))) (pss_one (ps_ret pe_bl)) pss_nil))))))))))))))
        (pss_one (ps_ret (pe_and (pe_cmpR op_eq (ClX.pe_cval (pe_glob (v := .ref N) (by rfl) mN rfl)) pe_int (nomark _)) (pe_and (pe_cmpR (op_inO DNc (hr.mono (by decide)) pass0) pe_str (pe_mkX MN (hr.mono (by decide)) (pa_cons (pe_lstN (pa_cons pe_str pa_nil)) pa_nil)) (by rfl)) (pe_one (pe_cmpR (op_notInO DNc (hr.mono (by decide)) pass0) pe_int (pe_mkX MN (hr.mono (by decide)) (pa_cons (pe_lstN (pa_cons pe_str pa_nil)) pa_nil)) (by rfl)))))))), ?_⟩
  refine ⟨_, rfl, a, _, rfl, .inl hS, _, _, rfl, _, _, rfl, _, rfl, ?_, ?_, ?_⟩
  · rw [List.length_map]; split <;> split <;> omega
  · rw [List.length_map]; split <;> split <;> omega
  refine for_range (fun i σ H' => ∃ v1 v2 v3 v4 v5 v6 v7, σ = [some (V.ref a), v1, v2, v3, v4, v5, v6, v7] ∧ Same H H') ⟨_, _, _, _, _, _, _, rfl, Same.refl H⟩ ?_ ?_
  · rintro i σ Hi hi ⟨v1, v2, v3, v4, v5, v6, v7, rfl, Xi⟩
    have hi63 : i ≤ 1000 := by
      rw [List.length_map] at hi
      split at hi <;> split at hi <;> omega
    refine ⟨_, rfl, _, rfl, a, ns, i, by rw [Int.zero_add]; rfl, Xi.seq hS, hi63, fun p x0 y0 hp hsrc => ?_⟩
    have lp : upd Hi p (HO.lst [.int x0, .int y0]) p = some (.lst [.int x0, .int y0]) := upd_same
    have s1 : Same Hi (upd Hi p (.lst [.int x0, .int y0])) := Same.upd hp
    refine ⟨_, rfl, p, x0, y0, rfl, lp, hsrc, fun l ws H2 k2 hl0 hl WO => ?_⟩
    have KO := WO.keys
    have S2 : Same Hi H2 := fun b o e => k2 b o (by simpa using fun z : b = p => by rw [z, hp] at e; cases e) (s1 b o e)
    have hli : Hi l = none := by
      cases e : Hi l with
      | none => rfl
      | some o => rw [s1 _ _ e] at hl0; cases hl0
    clear k2 hl0 lp s1
    refine ⟨_, rfl, l, strV ws, rfl, .inl (SqL.of hl), fun hd hhd => ?_⟩
    have s3 : Same H2 (upd H2 hd (.lst (strV ws))) := Same.upd hhd
    have l3 : upd H2 hd (HO.lst (strV ws)) hd = some (.lst (strV ws)) := upd_same
    have nhl : hd ≠ l := fun z => by rw [z, hl] at hhd; cases hhd
    generalize upd H2 hd (HO.lst (strV ws)) = H3 at s3 l3 ⊢
    refine ⟨_, rfl, ?_⟩
    refine mk_net (K := K) (C := C) (IK := IK) (.inl (SqL.of (s3 _ _ hl))) KO fun n dx fs H4 hn0 s4 hn hN => ?_
    have hl4 := s4 _ _ (s3 _ _ hl)
    have l4 := s4 _ _ l3
    refine ⟨_, rfl, .inl ⟨rfl, _, SqL.of hl4⟩, l, strV ws, _, rfl, rfl, hl4, by rw [List.length_map, sizeLine_eq]; have := KO.n4; omega, ?_⟩
    obtain ⟨w0, wt, rfl⟩ : ∃ w0 wt, ws = w0 :: wt := by
      cases ws with
      | nil => exact absurd KO.n1 (by decide)
      | cons w0 wt => exact ⟨w0, wt, rfl⟩
    have hN5 : NetAt K C N (upd H4 l (.lst (strV (w0 :: wt) ++ [.str "later"]))) n (w0 :: wt) := hN.but hl4
    have nnl : n ≠ l := fun z => by rw [z, hl4] at hn; cases hn
    have hn5 : upd H4 l (HO.lst (strV (w0 :: wt) ++ [.str "later"])) n = some (.ins N dx fs) := by rw [upd_ne nnl]; exact hn
    have l5 : upd H4 l (HO.lst (strV (w0 :: wt) ++ [.str "later"])) hd = some (.lst (strV (w0 :: wt))) := by rw [upd_ne nhl]; exact l4
    have S5 : Same Hi (upd H4 l (.lst (strV (w0 :: wt) ++ [.str "later"]))) := fun b o e => by
      rw [upd_ne (fun z => by rw [z, hli] at e; cases e)]
      exact s4 _ _ (s3 _ _ (S2 _ _ e))
    generalize upd H4 l (HO.lst (strV (w0 :: wt) ++ [.str "later"])) = H5 at hN5 hn5 l5 S5 ⊢
    clear hN hn l4 hl4 s4 l3 s3 hl S2 hn0
    have nk : ("nokey" : Str) ∉ (w0 :: wt) := fun z => absurd (WO.mem _ z) (by decide +kernel)
    refine ⟨_, rfl, _, rfl, hd, _, _, _, rfl, rfl, SqL.of l5, atI_nat (j := 0) rfl, n, w0 :: wt, w0, rfl, hN5, .head _, nk, fun H6 S6 => ⟨_, rfl, iteF ?_⟩⟩
    have hN6 := hN5.mono S6
    refine ⟨_, rfl, _, rfl, n, hd, w0 :: wt, rfl, hN6, SqL.of (S6 _ _ l5), KO, fun H7 S7 => ⟨_, rfl, iteF ?_⟩⟩
    -- the net and other nets
    have l7 := S7 _ _ (S6 _ _ l5)
    have hN7 := hN6.mono S7
    have hn7 := S7 _ _ (S6 _ _ hn5)
    have S07 := Same.trans S5 (Same.trans S6 S7)
    clear hN6 S6 S7 l5 hn5 hN5 S5 nk hhd
    refine ⟨_, rfl, _, rfl, k_tup (.inl (SqL.of l7)) fun tw Ht St ht => ?_⟩
    refine mk_net (K := K) (C := C) (IK := IK) (.inr ht) KO fun m dm fm Hm hm0 Sm hm hM => ?_
    have Sm := Same.trans St Sm
    refine ⟨n, dx, fs, .ref N, rfl, Sm _ _ hn7, .base (.ins hm TN.cl I.ha I.hn I.hk I.hm), nf, n, m, _, _, rfl, hN7.mono Sm, hM, KO, KO, ?_⟩
    rw [decide_eq_true rfl]
    refine ⟨_, rfl, iteF ?_⟩
    refine ⟨_, rfl, by show 1 ≤ sizeLine; decide, fun lo hlo => ?_⟩
    refine mk_net (K := K) (C := C) (IK := IK) (ws := ["other"]) (.inl (SqL.of upd_same)) (KeysOk.one (by decide +kernel)) fun m2 dm2 fm2 Hm2 hm02 Sm2 hm2 hM2 => ?_
    have hno : w0 :: wt ≠ (["other"] : List Str) := fun z => by
      have := WO.mem "other" (by rw [z]; exact .head _)
      exact absurd this (by decide +kernel)
    have Sm3 := Same.trans Sm (Same.trans (Same.upd hlo) Sm2)
    refine ⟨n, dx, fs, .ref N, rfl, Sm3 _ _ hn7, .base (.ins hm2 TN.cl I.ha I.hn I.hk I.hm), nf, n, m2, _, _, rfl, hN7.mono Sm3, hM2, KO, KeysOk.one (by decide +kernel), ?_⟩
    rw [decide_eq_false hno]
    refine ⟨_, rfl, iteF ?_⟩
    have S08 := Same.trans S07 Sm3
    have hN8 := hN7.mono Sm3
    have hn8 := Sm3 _ _ hn7
    have b0 := Ks.start Hm2
    generalize Hm2 = E0 at b0 S08 hN8 hn8 ⊢
    clear hM hM2 hm hm2 Sm2 Sm3 Sm ht St hm0 hm02 hlo l7 hN7 hn7 S07
    -- the odd things
    refine ⟨by show 0 ≤ sizeLine; decide, fun o1 ho1 m1 => ?_⟩
    have b1 := b0.new (o := .lst []) ho1
    generalize upd E0 o1 (HO.lst []) = E1 at b1 ⊢
    refine ⟨by show 0 ≤ sizeLine; decide, fun o2 ho2 => ?_⟩
    have b2 := b1.new (o := .tup []) ho2
    generalize upd E1 o2 (HO.tup []) = E2 at b2 ⊢
    refine ⟨by show 1 ≤ sizeLine; decide, fun o3 ho3 m3 => ?_⟩
    have b3 := b2.new (o := .lst [.str "a"]) ho3
    generalize upd E2 o3 (HO.lst [.str "a"]) = E3 at b3 ⊢
    refine ⟨o3, 2, _, rfl, rfl, b3.get 0, by decide, by decide, by show 1 * 2 ≤ sizeLine; decide, fun o4 ho4 m4 => ?_⟩
    rw [show (List.replicate (2 : Int).toNat [V.str "a"]).flatten = [V.str "a", V.str "a"] from rfl]
    have b4 := b3.new (o := .lst [.str "a", .str "a"]) ho4
    generalize upd E3 o4 (HO.lst [.str "a", .str "a"]) = E4 at b4 ⊢
    refine ⟨by show 1 ≤ sizeLine; decide, fun o5 ho5 m5 => ?_⟩
    have b5 := b4.new (o := .lst [.str "A"]) ho5
    generalize upd E4 o5 (HO.lst [.str "A"]) = E5 at b5 ⊢
    refine ⟨by show 1 ≤ sizeLine; decide, fun o6 ho6 m6 => ?_⟩
    have b6 := b5.new (o := .lst [.str ""]) ho6
    generalize upd E5 o6 (HO.lst [.str ""]) = E6 at b6 ⊢
    refine ⟨"a", 9, rfl, rfl, by decide, by decide, by decide +kernel, by decide +kernel, by show 1 ≤ sizeLine; decide, fun o7 ho7 m7 => ?_⟩
    have b7 := b6.new (o := .lst [.str (repStr "a" 9)]) ho7
    generalize upd E6 o7 (HO.lst [.str (repStr "a" 9)]) = E7 at b7 ⊢
    refine ⟨by show 1 ≤ sizeLine; decide, fun o8 ho8 m8 => ?_⟩
    have b8 := b7.new (o := .lst [.int 1]) ho8
    generalize upd E7 o8 (HO.lst [.int 1]) = E8 at b8 ⊢
    refine ⟨by show 1 ≤ sizeLine; decide, fun o9 ho9 m9 => ?_⟩
    have b9 := b8.new (o := .lst [.str "a b"]) ho9
    generalize upd E8 o9 (HO.lst [.str "a b"]) = E9 at b9 ⊢
    refine disp_1 (key := Sum.inr "a") (v := .int 1) (fun _ _ h => h) (fun _ _ h => h) fun d E10 S10 hd0 hdd => ?_
    have b10 := (b9.same S10).add hdd
    refine ⟨"abcde", rfl, by decide +kernel, fun o11 E11 S11 m11 ho11 => ?_⟩
    have b11 := (b10.same S11).add ho11
    refine ⟨by show 1 ≤ sizeLine; decide, fun o12 ho12 m12 => ?_⟩
    have b12 := b11.new (o := .lst [.non]) ho12
    generalize upd E11 o12 (HO.lst [.non]) = E12 at b12 ⊢
    refine ⟨by show 13 ≤ sizeLine; decide, fun lq hlq => ?_⟩
    have b13 := b12.new (o := .lst [.non, .ref o1, .ref o2, .str "a", .ref o4, .ref o5, .ref o6, .ref o7, .ref o8, .ref o9, .ref d, .ref o11, .ref o12]) hlq
    generalize upd E12 lq (HO.lst [.non, .ref o1, .ref o2, .str "a", .ref o4, .ref o5, .ref o6, .ref o7, .ref o8, .ref o9, .ref d, .ref o11, .ref o12]) = E13 at b13 ⊢
    have odd : ∀ x ∈ ([.non, .ref o1, .ref o2, .str "a", .ref o4, .ref o5, .ref o6, .ref o7, .ref o8, .ref o9, .ref d, .ref o11, .ref o12] : List V), OddK K E13 x := by
      have dk : ∀ {b : Bool}, b = true → b = true := fun h => h
      intro x hx
      simp only [List.mem_cons, List.not_mem_nil, or_false] at hx
      rcases hx with rfl | rfl | rfl | rfl | rfl | rfl | rfl | rfl | rfl | rfl | rfl | rfl | rfl
      · exact ⟨_, .inr ⟨.inl rfl, rfl⟩, .non, refB_ok (by decide +kernel)⟩
      · exact odd_lst (b13.get 12) m1 .nil (fun _ z => nomatch z) (by decide) (by decide +kernel) (by decide +kernel)
      · exact ⟨_, .inl ⟨o2, [], rfl, .inr (SqT.of (b13.get 11)), by decide, (fun _ z => nomatch z), (by decide +kernel : goodK [] = false).symm⟩, .tup (SqT.of (b13.get 11)) .nil, refB_ok (by decide +kernel)⟩
      · exact ⟨_, .inr ⟨.inr (.inl ⟨_, rfl⟩), rfl⟩, .str _, refB_ok (by decide +kernel)⟩
      · exact odd_lst (b13.get 9) m4 (.cons (.str _) (.cons (.str _) .nil)) (by intro y hy; simp only [List.mem_cons, List.not_mem_nil, or_false, or_self] at hy; rw [hy]; exact itS (by decide +kernel)) (by decide) (by decide +kernel) (by decide +kernel)
      · exact odd_lst (b13.get 8) m5 (.cons (.str _) .nil) (by intro y hy; rw [List.mem_singleton.mp hy]; exact itS (by decide +kernel)) (by decide) (by decide +kernel) (by decide +kernel)
      · exact odd_lst (b13.get 7) m6 (.cons (.str _) .nil) (by intro y hy; rw [List.mem_singleton.mp hy]; exact itS (by decide +kernel)) (by decide) (by decide +kernel) (by decide +kernel)
      · exact odd_lst (b13.get 6) m7 (.cons (.str _) .nil) (by intro y hy; rw [List.mem_singleton.mp hy]; exact itS (by decide +kernel)) (by decide) (by decide +kernel) (by decide +kernel)
      · exact odd_lst (b13.get 5) m8 (.cons (.int _) .nil) (by intro y hy; rw [List.mem_singleton.mp hy]; exact .inr (.inr ⟨_, rfl⟩)) (by decide) (by decide +kernel) (by decide +kernel)
      · exact odd_lst (b13.get 4) m9 (.cons (.str _) .nil) (by intro y hy; rw [List.mem_singleton.mp hy]; exact itS (by decide +kernel)) (by decide) (by decide +kernel) (by decide +kernel)
      · exact ⟨_, .inr ⟨.inr (.inr ⟨d, _, rfl, b13.get 3⟩), rfl⟩, .dic (b13.get 3) (.cons (.int 1) .nil), refB_ok (by decide +kernel)⟩
      · exact odd_lst (b13.get 2) m11 (dqs_signs _) (by intro y hy; unfold EX.signs at hy; obtain ⟨c, _, rfl⟩ := List.mem_map.mp hy; exact itS (by show 1 ≤ 1000; decide)) (by decide +kernel) (by decide +kernel) (by decide +kernel)
      · exact odd_lst (b13.get 1) m12 (.cons .non .nil) (by intro y hy; rw [List.mem_singleton.mp hy]; exact .inr (.inl rfl)) (by decide) (by decide +kernel) (by decide +kernel)
    have hlq13 := b13.get 0
    have S13 := Same.trans S08 b13.s
    have hN13 := hN8.mono b13.s
    have hn13 := b13.s _ _ hn8
    clear b0 b1 b2 b3 b4 b5 b6 b7 b8 b9 b10 b11 b12 b13 S10 S11 hN8 hn8 S08 hdd ho11 hlq
    refine ⟨_, rfl, lq, rfl, ⟨_, SqL.of hlq13⟩, fun D hD => ?_⟩
    refine lc_list (K := K) (a := lq) (xs := [.non, .ref o1, .ref o2, .str "a", .ref o4, .ref o5, .ref o6, .ref o7, .ref o8, .ref o9, .ref d, .ref o11, .ref o12]) (fun i H' => Same E13 H' ∧ H' D = some (.lst [])) ⟨Same.upd hD, upd_same⟩ (fun i H' _ z => z.1.seq (SqL.of hlq13)) ?_ ?_
    · rintro i x H' hx ⟨S, lD⟩
      obtain ⟨dv, h1, h2, h3⟩ := (odd x (List.mem_of_getElem? hx)).mono S
      refine ⟨rfl, ?_⟩
      exact ⟨_, rfl, x, dv, rfl, h1, h2, h3, fun H2 S2 => ⟨_, rfl, iteF ⟨Same.trans S S2, S2 _ _ lD⟩⟩⟩
    rintro E14 ⟨S14, lD⟩
    refine ⟨by show 0 ≤ sizeLine; decide, fun q hq _ => ?_⟩
    refine ne_same (d := .list []) (.lst (SqL.of (Same.upd hq _ _ lD)) .nil) (.lst (SqL.of upd_same) .nil) rfl ?_
    have S15 := Same.trans S14 (Same.upd (o := .lst []) hq)
    generalize upd E14 q (HO.lst []) = E15 at S15 ⊢
    refine ⟨_, rfl, iteF ?_⟩
    have hN15 := hN13.mono S15
    have hn15 := S15 _ _ hn13
    have S015 := Same.trans S13 S15
    clear S14 S15 lD hq hD odd hlq13 hN13 hn13 S13
    -- the unknown things
    refine ⟨by show 1 ≤ sizeLine; decide, fun q1 hq1 mq1 => ⟨by show 1 ≤ sizeLine; decide, fun q2 hq2 => ⟨by show 5 ≤ sizeLine; decide, fun q3 hq3 => ?_⟩⟩⟩
    have c3 := (((Ks.start E15).new (o := .lst [.str "store"]) hq1).new (o := .tup [.str "store"]) hq2).new (o := .lst [.non, .str "other", .int 0, .ref q1, .ref q2]) hq3
    generalize upd (upd (upd E15 q1 (HO.lst [.str "store"])) q2 (HO.tup [.str "store"])) q3 (HO.lst [.non, .str "other", .int 0, .ref q1, .ref q2]) = E16 at c3 ⊢
    have hN16 := hN15.mono c3.s
    have S016 := Same.trans S015 c3.s
    refine ⟨q3, rfl, ⟨_, SqL.of (c3.get 0)⟩, ?_⟩
    refine for_list (K := K) (a := q3) (xs := [.non, .str "other", .int 0, .ref q1, .ref q2]) (fun j σ H' => ∃ v1 v2 v3 v4 v6 v7, σ = [some (V.ref a), v1, v2, v3, v4, some (.ref n), v6, v7] ∧ Same E16 H') ⟨_, _, _, _, _, _, rfl, Same.refl _⟩ (fun j σ H' _ ⟨_, _, _, _, _, _, _, S⟩ => S.seq (SqL.of (c3.get 0))) ?_ ?_
    · rintro j x σ H' hx ⟨u1, u2, u3, u4, u6, u7, rfl, S⟩
      have un : ∃ dv, Thing K H' x ∧ (∀ s, x = .str s → s ∉ w0 :: wt ∧ s ≠ "store") ∧ DqS K H' x dv ∧ RefOk dv := by
        match j, hx with
        | 0, h => cases h; exact ⟨_, .inr (.inl rfl), (fun s z => nomatch z), .non, refB_ok (by decide +kernel)⟩
        | 1, h =>
          cases h
          refine ⟨_, .inl ⟨_, rfl⟩, fun s z => ?_, .str _, refB_ok (by decide +kernel)⟩
          cases z
          exact ⟨fun z => absurd (WO.mem _ z) (by decide +kernel), by decide +kernel⟩
        | 2, h => cases h; exact ⟨_, .inr (.inr (.inl ⟨_, rfl⟩)), (fun s z => nomatch z), .int _, refB_ok (by decide +kernel)⟩
        | 3, h => cases h; exact ⟨_, .inr (.inr (.inr (.inr ⟨_, _, rfl, .inl (SqL.of (S _ _ (c3.get 2)))⟩))), (fun s z => nomatch z), .lst mq1 (SqL.of (S _ _ (c3.get 2))) (.cons (.str _) .nil), refB_ok (by decide +kernel)⟩
        | 4, h => cases h; exact ⟨_, .inr (.inr (.inr (.inr ⟨_, _, rfl, .inr (SqT.of (S _ _ (c3.get 1)))⟩))), (fun s z => nomatch z), .tup (SqT.of (S _ _ (c3.get 1))) (.cons (.str _) .nil), refB_ok (by decide +kernel)⟩
        | k + 5, h => simp at h
      obtain ⟨dv, h1, h2, h3, h4⟩ := un
      refine ⟨_, rfl, _, rfl, n, w0 :: wt, x, dv, rfl, hN16.mono S, h1, h2, h3, h4, fun H2 S2 => ⟨_, rfl, iteF ?_⟩⟩
      exact ⟨_, _, _, _, _, _, rfl, Same.trans S S2⟩
    · rintro σ H' ⟨u1, u2, u3, u4, u6, u7, rfl, S⟩
      exact ⟨_, _, _, _, _, _, _, rfl, Same.trans Xi (Same.trans S016 S)⟩
  · rintro σ H' ⟨v1, v2, v3, v4, v5, v6, v7, rfl, X⟩
    obtain ⟨t12, cv⟩ := VC
    refine ⟨N, _, _, _, rfl, RC, cv, rfl, _, rfl, iteT ?_⟩
    refine ⟨by show 1 ≤ sizeLine; decide, fun l1 hl1 _ => ?_⟩
    refine mk_net (K := K) (C := C) (IK := IK) (ws := ["a"]) (.inl (SqL.of upd_same)) (KeysOk.one (by decide +kernel)) fun m dm fm Hm hm0 Sm hm hM => ?_
    refine ⟨m, dm, fm, rfl, hm, m, _, .str "store", rfl, hM, .inl ⟨_, rfl, _, rfl, ?_⟩⟩
    rw [decide_eq_true rfl]
    refine ⟨_, rfl, iteT ?_⟩
    refine ⟨by show 1 ≤ sizeLine; decide, fun l2 hl2 _ => ?_⟩
    refine mk_net (K := K) (C := C) (IK := IK) (ws := ["a"]) (.inl (SqL.of upd_same)) (KeysOk.one (by decide +kernel)) fun m dm fm Hm hm0 Sm hm hM => ?_
    exact ⟨m, dm, fm, rfl, hm, m, _, .int 5, rfl, hM, .inr ⟨.int 5, _, rfl, rfl⟩⟩
end
end K01
set_option Elab.async false
set_option linter.all false
set_option maxRecDepth 100000
set_option maxHeartbeats 4000000
/-! the law's end with tables of code objects, the law's own call met at callerA -/
namespace EX
open PySem L2 PySem.Spec PyProof.Rows LamX
/-- the tables as they stand at the head: empty, no part of what is written, each with its code object -/
structure TabsAt (K : PySem.W.Frag) (h : Heap) (cs : List (Addr × Addr)) : Prop where
  emp : ∀ p ∈ cs, h.get? p.2 = some { cls := .none, data := .fields #[] }
  out : ∀ p ∈ cs, K.lookup p.2 = none
  cod : ∀ p ∈ cs, PySem.W.CodeHd h p.1 p.2
/-- a table told by its def's name -/
structure TabOf (q : Program) (K : PySem.W.Frag) (x : Str) (c P : Addr) : Prop where
  has : ∃ d, (recsOf q).find? (fun e => e.name == x) = some d
  tab : PySem.W.tabIn K x = some (c, P)
  out : K.lookup P = none
theorem tab_by {K : PySem.W.Frag} {x : Str} {f c P : Addr} {oc oc2 : Value} {od od2 : Option Addr} {fd : FuncData} {vs : Array Value} {os1 os2 : Array (Option Value)} (h1 : PySem.W.nsIn K mainGlobals x = some (some (.ref f))) (h2 : K.lookup f = some ⟨oc, od, .func fd, os1⟩) (h3 : fd.code = .ref c)
    (h4 : K.lookup c = some ⟨oc2, od2, .fields vs, os2⟩) (h5 : (vs[11]? : Option Value) = some (.ref P)) : PySem.W.tabIn K x = some (c, P) := by
  unfold PySem.W.tabIn
  rw [h1]
  show (match K.lookup f with | some ⟨_, _, .func fd, _⟩ => _ | _ => _) = _
  rw [h2]
  show (match fd.code with | .ref c => _ | _ => _) = _
  rw [h3]
  show (match K.lookup c with | some ⟨_, _, .fields vs, _⟩ => _ | _ => _) = _
  rw [h4]
  show (match (vs[11]? : Option Value) with | some (.ref P) => some (c, P) | _ => none) = _
  rw [h5]
theorem walkT {l : PySem.W.OpenLaw} {n : Nat} {q : Program} {loose : List Str} {XP : (Str → Option Value) → Heap → Prop} {YP : World → Heap → Prop} {d : DefRec} {K : Params → PySem.W.Frag}
    (hn : l.most = some n) (hn2 : n ≤ sizeLine) (hdf : d.params.defaults = []) (hY : ∀ (w : World) (h : Heap), YP w h → (K w.params).In h)
    (F : ∀ (w : World) (mg : Str → Option Value) (fa : Addr) (h : Heap), YP w h → (K w.params).In h → h.Ns mainGlobals mg → mg d.name = some (.ref fa) → ∃ cs : List (Addr × Addr), (∀ p ∈ cs, ∃ x, TabOf q (K w.params) x p.1 p.2) ∧
      ∀ base : Heap, (K w.params).In base → base.Ns mainGlobals mg → (∀ p ∈ cs, TabB base mg p.1 p.2) → ∀ (s : Shared) (H : Hp) (a : Addr) (ns : List Int), ns.length ≤ n → (∀ p ∈ cs, H p.2 = some (.tbl #[])) → SqL (K w.params) H a (ns.map V.int) →
        Env0 l.prog w (K w.params) mg base callerA [] s H → codeAny (model l.prog w) callerA (.call (.ref fa) ⟨[.ref a], []⟩) (CR CX0 [] l.prog w H s (fun v _ => v = .bl true) E0) s) :
    PySem.W.WalkO q loose XP YP l.row.toRowW d [] (fun f vs => PySem.call f vs) := by
  refine Att.attach_callB hn hdf ?_
  intro w s₀ s₁ mg mb fa o pm cd doc a vs ns G Y ho hd hcd hmg hobj hints hlen hbits hg
  have kin := hY w _ Y
  obtain ⟨cs, TO, run⟩ := F w mg fa _ Y kin G.T.g hmg
  have TA : TabsAt (K w.params) s₁.heap cs := by
    refine ⟨fun p hp => ?_, fun p hp => ?_, fun p hp => ?_⟩ <;> obtain ⟨x, ⟨d2, hd2⟩, ht, ho2⟩ := TO p hp
    · exact (PySem.W.tab_of G.T kin hd2 ht).2
    · exact ho2
    · exact (PySem.W.tab_of G.T kin hd2 ht).1
  have rv := vals_ints hints
  have lv := hints.length
  have tabOf : ∀ b, b ∈ cs.map (·.2) → ∃ p ∈ cs, p.2 = b := fun b hb => List.mem_map.mp hb
  have emp : ∀ b, b ∈ cs.map (·.2) → s₁.heap.get? b = some { cls := .none, data := .fields #[] } := fun b hb => by
    obtain ⟨p, hp, rfl⟩ := tabOf b hb
    exact TA.emp p hp
  have aOut : a ∉ cs.map (·.2) := fun z => by
    have e := emp a z
    rw [hobj] at e
    have d2 := congrArg Obj.data (Option.some.inj e)
    cases d2
  have key : ∀ H : Hp, (∀ b, b ∈ cs.map (·.2) → H b = some (.tbl #[])) → (∀ b, b ∈ cs.map (·.2) ∨ H b = none ∨ ∃ ob xs, H b = some (.frz ob (.lst xs))) → SqL (K w.params) H a (ns.map V.int) → HOk l.prog w H s₁.heap → (∀ b, H b ≠ none → b = a ∨ b ∈ cs.map (·.2)) → (H a ≠ none → (K w.params).lookup a = none) →
      codeAny (model l.prog w) callerA (.call (.ref fa) ⟨[.ref a], []⟩) (fun r s' => r = .ok (.ret (.bool true)) ∧ OldK s₁.heap s'.heap ∧ s'.os = s₁.os ∧ AllBare s'.gens) s₁ := by
    intro H tab only sq hok who notK
    -- what is no list and no table is not tracked
    have plain : ∀ {b : Addr} {o : Obj}, s₁.heap.get? b = some o → (∀ xs m, o.data ≠ .seq xs m) → o.data ≠ .fields #[] → H b = none := by
      intro b o e1 e2 e3
      cases h : H b with
      | none => rfl
      | some u =>
        rcases who b (by rw [h]; exact fun z => nomatch z) with e4 | e4
        · rw [e4, hobj] at e1
          cases e1
          exact absurd rfl (e2 _ _)
        · rw [emp b e4] at e1
          cases e1
          exact absurd rfl e3
    have dicts : ∀ {b : Addr} {o : Obj} {es : Array DictEntry} {ep : Nat}, s₁.heap.get? b = some o → o.data = .dict es ep → H b = none := by
      intro b o es ep e1 e2
      refine plain e1 (fun xs m z => ?_) fun z => ?_ <;> rw [e2] at z <;> cases z
    have nsB : ∀ {b : Addr} {m : Str → Option Value}, s₁.heap.Ns b m → (hidT s₁.heap H).Ns b m := by
      rintro b m ⟨o, es, ep, e1, e2, r⟩
      exact ⟨o, es, ep, hidT_get e1 (dicts e1 e2), e2, r⟩
    have kinB : (K w.params).In (hidT s₁.heap H) := by
      intro b o e
      refine hidT_get (kin b o e) ?_
      cases h : H b with
      | none => rfl
      | some u =>
        rcases who b (by rw [h]; exact fun z => nomatch z) with e3 | e3
        · rw [e3, notK (by rw [← e3, h]; exact fun z => nomatch z)] at e
          cases e
        · obtain ⟨p, hp, rfl⟩ := tabOf b e3
          rw [TA.out p hp] at e
          cases e
    have TB : ∀ p ∈ cs, TabB (hidT s₁.heap H) mg p.1 p.2 := by
      intro p hp
      have ep := TA.emp p hp
      obtain ⟨o, us, file, tf, flags, tg, inF, text, tt, e1, r1, r2, r3, r4, r5, r6, r7, r8, hne⟩ := TA.cod p hp
      obtain ⟨bm, ob, b1, b2, b3, b4, b5, b6⟩ := G.T.bmain
      have bmG : bm ≠ mainGlobals := by
        intro z
        obtain ⟨o2, es, ep2, e2, hd2, _⟩ := G.T.g
        rw [z, e2] at b3
        cases b3
        rw [hd2] at b6
        cases b6
      have bmP : bm ≠ p.2 := by
        intro z
        rw [z, ep] at b3
        cases b3
        cases b6
      refine ⟨⟨o, us, file, tf, flags, tg, inF, text, tt, hidT_get e1 (plain e1 (fun xs m z => ?_) fun z => ?_), r1, r2, r3, r4, r5, r6, r7, r8, hne⟩, ⟨bm, ob, b1, b2, bmG, bmP, hidT_get b3 (plain b3 (fun xs m z => ?_) fun z => ?_), b4, b5, b6⟩, fun z => ?_⟩
      · rw [r2] at z
        cases z
      · rw [r2] at z
        cases z
        simp at r3
      · rw [b6] at z
        cases z
      · rw [b6] at z
        cases z
      · obtain ⟨o2, es, ep2, e2, hd2, _⟩ := G.T.g
        rw [z, ep] at e2
        cases e2
        cases hd2
    have e0 : Env0 l.prog w (K w.params) mg (hidT s₁.heap H) callerA [] s₁ H := by
      refine ⟨rfl, ⟨kinB, nsB G.T.g, ⟨mb, nsB G.T.b, G.T.builtins⟩, ?_⟩, fun b o e => of_hidT e, Nat.le_of_eq (hidT_size _ _), trivial, (fun b hb => absurd hb (List.not_mem_nil)), hok, .of_eq hg⟩
      obtain ⟨mc, h1, h2⟩ := G.T.nolimit
      exact ⟨mc, nsB h1, h2⟩
    refine codeAny_mono (run _ kinB (nsB G.T.g) TB s₁ H a ns hlen (fun p hp => tab p.2 (List.mem_map.mpr ⟨p, hp, rfl⟩)) sq e0) ?_
    intro r s' z
    cases r with
    | error e => exact z.elim
    | ok fl =>
      cases fl with
      | next => exact z.elim
      | brk => exact z.elim
      | cont => exact z.elim
      | ret u =>
        obtain ⟨v, H', os, bare, un, hok', rr, qq⟩ := z
        subst qq
        obtain rfl : u = Value.bool true := rr
        have kept : ∀ b o, b ∉ cs.map (·.2) → s₁.heap.get? b = some o → s'.heap.get? b = some o := by
          intro b o out e
          rcases only b with h | h | ⟨ob, xs, h⟩
          · exact absurd h out
          · exact un.keep b o e h (fun z => nomatch z) (fun z => nomatch z)
          · have h1 := (hok b _ h).1
            have h2 := (hok' b _ (un.frzs b ob _ h)).1
            rw [e] at h1
            cases h1
            exact h2
        have more : ∀ p ∈ cs, ∃ xs : Array Value, s'.heap.get? p.2 = some { cls := .none, data := .fields xs } := by
          intro p hp
          obtain ⟨xs, z⟩ := un.tbls p.2 #[] (tab p.2 (List.mem_map.mpr ⟨p, hp, rfl⟩))
          exact ⟨_, hok' p.2 _ z⟩
        refine ⟨rfl, ⟨fun b o e => ?_, fun b o e => ?_⟩, os, bare⟩
        · by_cases hb : b ∈ cs.map (·.2)
          · obtain ⟨p, hp, rfl⟩ := tabOf b hb
            obtain ⟨xs, hx⟩ := more p hp
            rw [TA.emp p hp] at e
            cases e
            exact .inr (.inl ⟨((TA.cod p hp).tab (TA.emp p hp)).isCodeTable, rfl, #[], xs, rfl, by rw [Array.empty_append]; exact hx⟩)
          · exact .inl (kept b o hb e)
        · by_cases hb : b ∈ cs.map (·.2)
          · obtain ⟨p, hp, rfl⟩ := tabOf b hb
            obtain ⟨xs, hx⟩ := more p hp
            exact ⟨_, hx⟩
          · exact ⟨o, kept b o hb e⟩
  have hz : ns.length ≤ sizeLine := Nat.le_trans hlen hn2
  -- the heap that tracks the tables, and the script where it is not written
  have start : ∀ (H : Hp) (keepA : Bool), (∀ b, H b = if b ∈ cs.map (·.2) then some (.tbl #[]) else if keepA = true ∧ b = a then some (HO.frz { cls := .type "list", data := .seq vs.toArray } (.lst (ns.map V.int))) else none) →
      (keepA = true → (K w.params).lookup a = none) → SqL (K w.params) H a (ns.map V.int) → codeAny (model l.prog w) callerA (.call (.ref fa) ⟨[.ref a], []⟩) (fun r s' => r = .ok (.ret (.bool true)) ∧ OldK s₁.heap s'.heap ∧ s'.os = s₁.os ∧ AllBare s'.gens) s₁ := by
    intro H keepA eH ok sq
    have inT : ∀ b, b ∈ cs.map (·.2) → H b = some (.tbl #[]) := fun b hb => by rw [eH, if_pos hb]
    have offT : ∀ b, b ∉ cs.map (·.2) → H b = if keepA = true ∧ b = a then some (HO.frz { cls := .type "list", data := .seq vs.toArray } (.lst (ns.map V.int))) else none := fun b hb => by rw [eH, if_neg hb]
    refine key H inT (fun b => ?_) sq (fun b u e => ?_) (fun b e => ?_) fun e => ?_
    · by_cases hb : b ∈ cs.map (·.2)
      · exact .inl hb
      · have q1 := offT b hb
        by_cases h2 : keepA = true ∧ b = a
        · rw [if_pos h2] at q1
          exact .inr (.inr ⟨_, _, q1⟩)
        · rw [if_neg h2] at q1
          exact .inr (.inl q1)
    · by_cases hb : b ∈ cs.map (·.2)
      · rw [inT b hb] at e
        cases e
        exact emp b hb
      · rw [offT b hb] at e
        by_cases h2 : keepA = true ∧ b = a
        · rw [if_pos h2] at e
          obtain ⟨_, rfl⟩ := h2
          cases e
          exact ⟨hobj, by rw [List.length_map]; exact hz, vs, _, rv, hobj⟩
        · rw [if_neg h2] at e
          cases e
    · by_cases hb : b ∈ cs.map (·.2)
      · exact .inr hb
      · rw [offT b hb] at e
        by_cases h2 : keepA = true ∧ b = a
        · exact .inl h2.2
        · exact absurd (if_neg h2) e
    · rw [offT a aOut] at e
      by_cases h2 : keepA = true ∧ a = a
      · exact ok h2.1
      · exact absurd (if_neg h2) e
  cases hk : (K w.params).lookup a with
  | some o =>
    have e := kin a o hk
    rw [hobj] at e
    cases e
    refine start (fun b => if b ∈ cs.map (·.2) then some (.tbl #[]) else none) false (fun b => by simp) (fun z => nomatch z) (.inr ⟨_, vs.toArray, _, hk, rfl, rfl, rfl, ?_, ?_⟩)
    · rw [List.size_toArray, lv]
      exact hz
    · simpa using rv
  | none =>
    refine start (fun b => if b ∈ cs.map (·.2) then some (.tbl #[]) else if b = a then some (.frz { cls := .type "list", data := .seq vs.toArray } (.lst (ns.map V.int))) else none) true (fun b => by simp) (fun _ => hk) (.inl (.inr ⟨{ cls := .type "list", data := .seq vs.toArray }, ?_⟩))
    show (if a ∈ cs.map (·.2) then _ else _) = _
    rw [if_neg aOut, if_pos rfl]
/-- .. where the written part comes out of the walk's own facts (small heads) -/
theorem walkTH {l : PySem.W.OpenLaw} {n : Nat} {q : Program} {loose : List Str} {XP : (Str → Option Value) → Heap → Prop} {YP : World → Heap → Prop} {d : DefRec}
    (hn : l.most = some n) (hn2 : n ≤ sizeLine) (hdf : d.params.defaults = [])
    (F : ∀ (w : World) (mg : Str → Option Value) (fa : Addr) (h : Heap), YP w h → h.Ns mainGlobals mg → mg d.name = some (.ref fa) → ∃ (K : PySem.W.Frag) (cs : List (Addr × Addr)), K.In h ∧ (∀ p ∈ cs, ∃ x, TabOf q K x p.1 p.2) ∧
      ∀ base : Heap, K.In base → base.Ns mainGlobals mg → (∀ p ∈ cs, TabB base mg p.1 p.2) → ∀ (s : Shared) (H : Hp) (a : Addr) (ns : List Int), ns.length ≤ n → (∀ p ∈ cs, H p.2 = some (.tbl #[])) → SqL K H a (ns.map V.int) →
        Env0 l.prog w K mg base callerA [] s H → codeAny (model l.prog w) callerA (.call (.ref fa) ⟨[.ref a], []⟩) (CR CX0 [] l.prog w H s (fun v _ => v = .bl true) E0) s) :
    PySem.W.WalkO q loose XP YP l.row.toRowW d [] (fun f vs => PySem.call f vs) := by
  refine Att.attach_callB hn hdf ?_
  intro w s₀ s₁ mg mb fa o pm cd doc a vs ns G Y ho hd hcd hmg hobj hints hlen hbits hg
  obtain ⟨K, cs, kin, TO, run⟩ := F w mg fa _ Y G.T.g hmg
  have TA : TabsAt K s₁.heap cs := by
    refine ⟨fun p hp => ?_, fun p hp => ?_, fun p hp => ?_⟩ <;> obtain ⟨x, ⟨d2, hd2⟩, ht, ho2⟩ := TO p hp
    · exact (PySem.W.tab_of G.T kin hd2 ht).2
    · exact ho2
    · exact (PySem.W.tab_of G.T kin hd2 ht).1
  have rv := vals_ints hints
  have lv := hints.length
  have tabOf : ∀ b, b ∈ cs.map (·.2) → ∃ p ∈ cs, p.2 = b := fun b hb => List.mem_map.mp hb
  have emp : ∀ b, b ∈ cs.map (·.2) → s₁.heap.get? b = some { cls := .none, data := .fields #[] } := fun b hb => by
    obtain ⟨p, hp, rfl⟩ := tabOf b hb
    exact TA.emp p hp
  have aOut : a ∉ cs.map (·.2) := fun z => by
    have e := emp a z
    rw [hobj] at e
    have d2 := congrArg Obj.data (Option.some.inj e)
    cases d2
  have key : ∀ H : Hp, (∀ b, b ∈ cs.map (·.2) → H b = some (.tbl #[])) → (∀ b, b ∈ cs.map (·.2) ∨ H b = none ∨ ∃ ob xs, H b = some (.frz ob (.lst xs))) → SqL K H a (ns.map V.int) → HOk l.prog w H s₁.heap → (∀ b, H b ≠ none → b = a ∨ b ∈ cs.map (·.2)) → (H a ≠ none → K.lookup a = none) →
      codeAny (model l.prog w) callerA (.call (.ref fa) ⟨[.ref a], []⟩) (fun r s' => r = .ok (.ret (.bool true)) ∧ OldK s₁.heap s'.heap ∧ s'.os = s₁.os ∧ AllBare s'.gens) s₁ := by
    intro H tab only sq hok who notK
    -- what is no list and no table is not tracked
    have plain : ∀ {b : Addr} {o : Obj}, s₁.heap.get? b = some o → (∀ xs m, o.data ≠ .seq xs m) → o.data ≠ .fields #[] → H b = none := by
      intro b o e1 e2 e3
      cases h : H b with
      | none => rfl
      | some u =>
        rcases who b (by rw [h]; exact fun z => nomatch z) with e4 | e4
        · rw [e4, hobj] at e1
          cases e1
          exact absurd rfl (e2 _ _)
        · rw [emp b e4] at e1
          cases e1
          exact absurd rfl e3
    have dicts : ∀ {b : Addr} {o : Obj} {es : Array DictEntry} {ep : Nat}, s₁.heap.get? b = some o → o.data = .dict es ep → H b = none := by
      intro b o es ep e1 e2
      refine plain e1 (fun xs m z => ?_) fun z => ?_ <;> rw [e2] at z <;> cases z
    have nsB : ∀ {b : Addr} {m : Str → Option Value}, s₁.heap.Ns b m → (hidT s₁.heap H).Ns b m := by
      rintro b m ⟨o, es, ep, e1, e2, r⟩
      exact ⟨o, es, ep, hidT_get e1 (dicts e1 e2), e2, r⟩
    have kinB : K.In (hidT s₁.heap H) := by
      intro b o e
      refine hidT_get (kin b o e) ?_
      cases h : H b with
      | none => rfl
      | some u =>
        rcases who b (by rw [h]; exact fun z => nomatch z) with e3 | e3
        · rw [e3, notK (by rw [← e3, h]; exact fun z => nomatch z)] at e
          cases e
        · obtain ⟨p, hp, rfl⟩ := tabOf b e3
          rw [TA.out p hp] at e
          cases e
    have TB : ∀ p ∈ cs, TabB (hidT s₁.heap H) mg p.1 p.2 := by
      intro p hp
      have ep := TA.emp p hp
      obtain ⟨o, us, file, tf, flags, tg, inF, text, tt, e1, r1, r2, r3, r4, r5, r6, r7, r8, hne⟩ := TA.cod p hp
      obtain ⟨bm, ob, b1, b2, b3, b4, b5, b6⟩ := G.T.bmain
      have bmG : bm ≠ mainGlobals := by
        intro z
        obtain ⟨o2, es, ep2, e2, hd2, _⟩ := G.T.g
        rw [z, e2] at b3
        cases b3
        rw [hd2] at b6
        cases b6
      have bmP : bm ≠ p.2 := by
        intro z
        rw [z, ep] at b3
        cases b3
        cases b6
      refine ⟨⟨o, us, file, tf, flags, tg, inF, text, tt, hidT_get e1 (plain e1 (fun xs m z => ?_) fun z => ?_), r1, r2, r3, r4, r5, r6, r7, r8, hne⟩, ⟨bm, ob, b1, b2, bmG, bmP, hidT_get b3 (plain b3 (fun xs m z => ?_) fun z => ?_), b4, b5, b6⟩, fun z => ?_⟩
      · rw [r2] at z
        cases z
      · rw [r2] at z
        cases z
        simp at r3
      · rw [b6] at z
        cases z
      · rw [b6] at z
        cases z
      · obtain ⟨o2, es, ep2, e2, hd2, _⟩ := G.T.g
        rw [z, ep] at e2
        cases e2
        cases hd2
    have e0 : Env0 l.prog w K mg (hidT s₁.heap H) callerA [] s₁ H := by
      refine ⟨rfl, ⟨kinB, nsB G.T.g, ⟨mb, nsB G.T.b, G.T.builtins⟩, ?_⟩, fun b o e => of_hidT e, Nat.le_of_eq (hidT_size _ _), trivial, (fun b hb => absurd hb (List.not_mem_nil)), hok, .of_eq hg⟩
      obtain ⟨mc, h1, h2⟩ := G.T.nolimit
      exact ⟨mc, nsB h1, h2⟩
    refine codeAny_mono (run _ kinB (nsB G.T.g) TB s₁ H a ns hlen (fun p hp => tab p.2 (List.mem_map.mpr ⟨p, hp, rfl⟩)) sq e0) ?_
    intro r s' z
    cases r with
    | error e => exact z.elim
    | ok fl =>
      cases fl with
      | next => exact z.elim
      | brk => exact z.elim
      | cont => exact z.elim
      | ret u =>
        obtain ⟨v, H', os, bare, un, hok', rr, qq⟩ := z
        subst qq
        obtain rfl : u = Value.bool true := rr
        have kept : ∀ b o, b ∉ cs.map (·.2) → s₁.heap.get? b = some o → s'.heap.get? b = some o := by
          intro b o out e
          rcases only b with h | h | ⟨ob, xs, h⟩
          · exact absurd h out
          · exact un.keep b o e h (fun z => nomatch z) (fun z => nomatch z)
          · have h1 := (hok b _ h).1
            have h2 := (hok' b _ (un.frzs b ob _ h)).1
            rw [e] at h1
            cases h1
            exact h2
        have more : ∀ p ∈ cs, ∃ xs : Array Value, s'.heap.get? p.2 = some { cls := .none, data := .fields xs } := by
          intro p hp
          obtain ⟨xs, z⟩ := un.tbls p.2 #[] (tab p.2 (List.mem_map.mpr ⟨p, hp, rfl⟩))
          exact ⟨_, hok' p.2 _ z⟩
        refine ⟨rfl, ⟨fun b o e => ?_, fun b o e => ?_⟩, os, bare⟩
        · by_cases hb : b ∈ cs.map (·.2)
          · obtain ⟨p, hp, rfl⟩ := tabOf b hb
            obtain ⟨xs, hx⟩ := more p hp
            rw [TA.emp p hp] at e
            cases e
            exact .inr (.inl ⟨((TA.cod p hp).tab (TA.emp p hp)).isCodeTable, rfl, #[], xs, rfl, by rw [Array.empty_append]; exact hx⟩)
          · exact .inl (kept b o hb e)
        · by_cases hb : b ∈ cs.map (·.2)
          · obtain ⟨p, hp, rfl⟩ := tabOf b hb
            obtain ⟨xs, hx⟩ := more p hp
            exact ⟨_, hx⟩
          · exact ⟨o, kept b o hb e⟩
  have hz : ns.length ≤ sizeLine := Nat.le_trans hlen hn2
  -- the heap that tracks the tables, and the script where it is not written
  have start : ∀ (H : Hp) (keepA : Bool), (∀ b, H b = if b ∈ cs.map (·.2) then some (.tbl #[]) else if keepA = true ∧ b = a then some (HO.frz { cls := .type "list", data := .seq vs.toArray } (.lst (ns.map V.int))) else none) →
      (keepA = true → K.lookup a = none) → SqL K H a (ns.map V.int) → codeAny (model l.prog w) callerA (.call (.ref fa) ⟨[.ref a], []⟩) (fun r s' => r = .ok (.ret (.bool true)) ∧ OldK s₁.heap s'.heap ∧ s'.os = s₁.os ∧ AllBare s'.gens) s₁ := by
    intro H keepA eH ok sq
    have inT : ∀ b, b ∈ cs.map (·.2) → H b = some (.tbl #[]) := fun b hb => by rw [eH, if_pos hb]
    have offT : ∀ b, b ∉ cs.map (·.2) → H b = if keepA = true ∧ b = a then some (HO.frz { cls := .type "list", data := .seq vs.toArray } (.lst (ns.map V.int))) else none := fun b hb => by rw [eH, if_neg hb]
    refine key H inT (fun b => ?_) sq (fun b u e => ?_) (fun b e => ?_) fun e => ?_
    · by_cases hb : b ∈ cs.map (·.2)
      · exact .inl hb
      · have q1 := offT b hb
        by_cases h2 : keepA = true ∧ b = a
        · rw [if_pos h2] at q1
          exact .inr (.inr ⟨_, _, q1⟩)
        · rw [if_neg h2] at q1
          exact .inr (.inl q1)
    · by_cases hb : b ∈ cs.map (·.2)
      · rw [inT b hb] at e
        cases e
        exact emp b hb
      · rw [offT b hb] at e
        by_cases h2 : keepA = true ∧ b = a
        · rw [if_pos h2] at e
          obtain ⟨_, rfl⟩ := h2
          cases e
          exact ⟨hobj, by rw [List.length_map]; exact hz, vs, _, rv, hobj⟩
        · rw [if_neg h2] at e
          cases e
    · by_cases hb : b ∈ cs.map (·.2)
      · exact .inr hb
      · rw [offT b hb] at e
        by_cases h2 : keepA = true ∧ b = a
        · exact .inl h2.2
        · exact absurd (if_neg h2) e
    · rw [offT a aOut] at e
      by_cases h2 : keepA = true ∧ a = a
      · exact ok h2.1
      · exact absurd (if_neg h2) e
  cases hk : K.lookup a with
  | some o =>
    have e := kin a o hk
    rw [hobj] at e
    cases e
    refine start (fun b => if b ∈ cs.map (·.2) then some (.tbl #[]) else none) false (fun b => by simp) (fun z => nomatch z) (.inr ⟨_, vs.toArray, _, hk, rfl, rfl, rfl, ?_, ?_⟩)
    · rw [List.size_toArray, lv]
      exact hz
    · simpa using rv
  | none =>
    refine start (fun b => if b ∈ cs.map (·.2) then some (.tbl #[]) else if b = a then some (.frz { cls := .type "list", data := .seq vs.toArray } (.lst (ns.map V.int))) else none) true (fun b => by simp) (fun _ => hk) (.inl (.inr ⟨{ cls := .type "list", data := .seq vs.toArray }, ?_⟩))
    show (if a ∈ cs.map (·.2) then _ else _) = _
    rw [if_neg aOut, if_pos rfl]
end EX
set_option Elab.async false
set_option linter.all false
set_option maxRecDepth 100000
set_option maxHeartbeats 0
namespace HX01
open PySem PySem.Spec PyProof.Rows L2 EX HkX K01
theorem all_mk {P : Program} {w : World} {K : PySem.W.Frag} {h : Heap} {mg : Str → Option Value} {fa : Addr} (KX : K.In h) (G : h.Ns mainGlobals mg) (hfa : mg ("law" : Str) = some (.ref fa)) (c : SaysX fx fn K) :
    ∀ base : Heap, K.In base → base.Ns mainGlobals mg → ∀ (s : Shared) (H : Hp) (a : Addr) (ns : List Int), ns.length ≤ 63 → SqL K H a (ns.map V.int) → Env0 P w K mg base callerA [] s H →
      codeAny (model P w) callerA (.call (.ref fa) ⟨[.ref a], []⟩) (CR CX0 [] P w H s (fun v _ => v = .bl true) E0) s := by
  intro base KB GB s H a ns hns hS e0
  have e := hfa.symm.trans (g_law KX G c)
  cases e
  have B : Bn mg := ⟨z_range KX G c, z_max KX G c, z_min KX G c, z_len KX G c, z_all KX G c, z_isinstance KX G c, z_tuple KX G c, z_list KX G c, z_set KX G c, z_int KX G c, z_bool KX G c, z_str KX G c, z_sorted KX G c, z_repr KX G c, k_LONGEST_WORD KX G c, k_MOST_KEYS KX G c, k_STORE KX G c, k_MOST_WAITING KX G c⟩
  have TC : CacheC K (He.ga K "Cache") := ⟨c_Cache c, n_Cache_home c, n_Cache_label c, n_Cache_above c, n_Cache_row c, n_Cache_gone c, n_Cache_cells c, n_Cache_entries c, n_Cache_kids c⟩
  have TN : NetC K (He.ga K "Net") := ⟨c_Net c, n_Net_words c, n_Net_top c, n_Net_nodes c, n_Net_labels c, n_Net_rows c, n_Net_done c, n_Net_kept c, n_Net_accepted c, n_Net_stamps c, n_Net_questions c, n_Net_trails c, n_Net_answered c, n_Net_receipts c⟩
  obtain ⟨fd_InvalidKeys___init__, F_InvalidKeys___init__⟩ := d_InvalidKeys___init__ c
  have b_InvalidKeys___init__ := F_InvalidKeys___init__.binds (ps := ["self", "given"]) fun _ _ _ _ _ _ us hl => match us, hl with | [_, _], _ => rfl
  obtain ⟨fd_InvalidValue___init__, F_InvalidValue___init__⟩ := d_InvalidValue___init__ c
  have b_InvalidValue___init__ := F_InvalidValue___init__.binds (ps := ["self", "given"]) fun _ _ _ _ _ _ us hl => match us, hl with | [_, _], _ => rfl
  obtain ⟨fd_UnknownNode___init__, F_UnknownNode___init__⟩ := d_UnknownNode___init__ c
  have b_UnknownNode___init__ := F_UnknownNode___init__.binds (ps := ["self", "node"]) fun _ _ _ _ _ _ us hl => match us, hl with | [_, _], _ => rfl
  obtain ⟨fd_UnknownKey___init__, F_UnknownKey___init__⟩ := d_UnknownKey___init__ c
  have b_UnknownKey___init__ := F_UnknownKey___init__.binds (ps := ["self", "word"]) fun _ _ _ _ _ _ us hl => match us, hl with | [_, _], _ => rfl
  obtain ⟨fd_Cache___init__, F_Cache___init__⟩ := d_Cache___init__ c
  have b_Cache___init__ := F_Cache___init__.binds (ps := ["self", "home", "label", "above", "row", "cells"]) fun _ _ _ _ _ _ us hl => match us, hl with | [_, _, _, _, _, _], _ => rfl
  obtain ⟨fd_Cache_seek, F_Cache_seek⟩ := d_Cache_seek c
  have b_Cache_seek := F_Cache_seek.binds (ps := ["self"]) fun _ _ _ _ _ _ us hl => match us, hl with | [_], _ => rfl
  obtain ⟨fd_Cache_copied_keys, F_Cache_copied_keys⟩ := d_Cache_copied_keys c
  have b_Cache_copied_keys := F_Cache_copied_keys.binds (ps := ["self"]) fun _ _ _ _ _ _ us hl => match us, hl with | [_], _ => rfl
  obtain ⟨fd_Cache_name, F_Cache_name⟩ := d_Cache_name c
  have b_Cache_name := F_Cache_name.binds (ps := ["self"]) fun _ _ _ _ _ _ us hl => match us, hl with | [_], _ => rfl
  obtain ⟨fd_Cache_parent, F_Cache_parent⟩ := d_Cache_parent c
  have b_Cache_parent := F_Cache_parent.binds (ps := ["self"]) fun _ _ _ _ _ _ us hl => match us, hl with | [_], _ => rfl
  obtain ⟨fd_Cache_children, F_Cache_children⟩ := d_Cache_children c
  have b_Cache_children := F_Cache_children.binds (ps := ["self"]) fun _ _ _ _ _ _ us hl => match us, hl with | [_], _ => rfl
  obtain ⟨fd_Cache___contains__, F_Cache___contains__⟩ := d_Cache___contains__ c
  have b_Cache___contains__ := F_Cache___contains__.binds (ps := ["self", "x"]) fun _ _ _ _ _ _ us hl => match us, hl with | [_, _], _ => rfl
  obtain ⟨fd_Cache___getitem__, F_Cache___getitem__⟩ := d_Cache___getitem__ c
  have b_Cache___getitem__ := F_Cache___getitem__.binds (ps := ["self", "at"]) fun _ _ _ _ _ _ us hl => match us, hl with | [_, _], _ => rfl
  obtain ⟨fd_Cache___len__, F_Cache___len__⟩ := d_Cache___len__ c
  have b_Cache___len__ := F_Cache___len__.binds (ps := ["self"]) fun _ _ _ _ _ _ us hl => match us, hl with | [_], _ => rfl
  obtain ⟨fd_Cache_allowance, F_Cache_allowance⟩ := d_Cache_allowance c
  have b_Cache_allowance := F_Cache_allowance.binds (ps := ["self", "key"]) fun _ _ _ _ _ _ us hl => match us, hl with | [_, _], _ => rfl
  obtain ⟨fd_Cache_told, F_Cache_told⟩ := d_Cache_told c
  have b_Cache_told := F_Cache_told.binds (ps := ["self", "key"]) fun _ _ _ _ _ _ us hl => match us, hl with | [_, _], _ => rfl
  obtain ⟨fd_Cache_bound, F_Cache_bound⟩ := d_Cache_bound c
  have b_Cache_bound := F_Cache_bound.binds (ps := ["self", "key"]) fun _ _ _ _ _ _ us hl => match us, hl with | [_, _], _ => rfl
  obtain ⟨fd_is_word, F_is_word⟩ := d_is_word c
  have b_is_word := F_is_word.binds (ps := ["obj"]) fun _ _ _ _ _ _ us hl => match us, hl with | [_], _ => rfl
  obtain ⟨fd_are_keys, F_are_keys⟩ := d_are_keys c
  have b_are_keys := F_are_keys.binds (ps := ["obj"]) fun _ _ _ _ _ _ us hl => match us, hl with | [_], _ => rfl
  obtain ⟨fd_Net___init__, F_Net___init__⟩ := d_Net___init__ c
  have b_Net___init__ := F_Net___init__.binds (ps := ["self", "keys"]) fun _ _ _ _ _ _ us hl => match us, hl with | [_, _], _ => rfl
  obtain ⟨fd_Net_key_names, F_Net_key_names⟩ := d_Net_key_names c
  have b_Net_key_names := F_Net_key_names.binds (ps := ["self"]) fun _ _ _ _ _ _ us hl => match us, hl with | [_], _ => rfl
  obtain ⟨fd_Net_names, F_Net_names⟩ := d_Net_names c
  have b_Net_names := F_Net_names.binds (ps := ["self"]) fun _ _ _ _ _ _ us hl => match us, hl with | [_], _ => rfl
  obtain ⟨fd_Net_history, F_Net_history⟩ := d_Net_history c
  have b_Net_history := F_Net_history.binds (ps := ["self"]) fun _ _ _ _ _ _ us hl => match us, hl with | [_], _ => rfl
  obtain ⟨fd_Net_order, F_Net_order⟩ := d_Net_order c
  have b_Net_order := F_Net_order.binds (ps := ["self"]) fun _ _ _ _ _ _ us hl => match us, hl with | [_], _ => rfl
  obtain ⟨fd_Net___len__, F_Net___len__⟩ := d_Net___len__ c
  have b_Net___len__ := F_Net___len__.binds (ps := ["self"]) fun _ _ _ _ _ _ us hl => match us, hl with | [_], _ => rfl
  obtain ⟨fd_Net___contains__, F_Net___contains__⟩ := d_Net___contains__ c
  have b_Net___contains__ := F_Net___contains__.binds (ps := ["self", "x"]) fun _ _ _ _ _ _ us hl => match us, hl with | [_, _], _ => rfl
  obtain ⟨fd_Net___getitem__, F_Net___getitem__⟩ := d_Net___getitem__ c
  have b_Net___getitem__ := F_Net___getitem__.binds (ps := ["self", "at"]) fun _ _ _ _ _ _ us hl => match us, hl with | [_, _], _ => rfl
  obtain ⟨fd_Net___eq__, F_Net___eq__⟩ := d_Net___eq__ c
  have b_Net___eq__ := F_Net___eq__.binds (ps := ["self", "other"]) fun _ _ _ _ _ _ us hl => match us, hl with | [_, _], _ => rfl
  obtain ⟨fd_Net_check_key, F_Net_check_key⟩ := d_Net_check_key c
  have b_Net_check_key := F_Net_check_key.binds (ps := ["self", "key"]) fun _ _ _ _ _ _ us hl => match us, hl with | [_, _], _ => rfl
  obtain ⟨fd_Net_write, F_Net_write⟩ := d_Net_write c
  have b_Net_write := F_Net_write.binds (ps := ["self", "key", "value"]) fun _ _ _ _ _ _ us hl => match us, hl with | [_, _, _], _ => rfl
  obtain ⟨fd_Net_number, F_Net_number⟩ := d_Net_number c
  have b_Net_number := F_Net_number.binds (ps := ["self", "key"]) fun _ _ _ _ _ _ us hl => match us, hl with | [_, _], _ => rfl
  obtain ⟨fd_Net_waiting, F_Net_waiting⟩ := d_Net_waiting c
  have b_Net_waiting := F_Net_waiting.binds (ps := ["self", "key"]) fun _ _ _ _ _ _ us hl => match us, hl with | [_, _], _ => rfl
  obtain ⟨fd_Net_age, F_Net_age⟩ := d_Net_age c
  have b_Net_age := F_Net_age.binds (ps := ["self", "name", "key"]) fun _ _ _ _ _ _ us hl => match us, hl with | [_, _, _], _ => rfl
  obtain ⟨fd_Net_messages, F_Net_messages⟩ := d_Net_messages c
  have b_Net_messages := F_Net_messages.binds (ps := ["self", "sender", "receiver"]) fun _ _ _ _ _ _ us hl => match us, hl with | [_, _, _], _ => rfl
  obtain ⟨fd_Net_links, F_Net_links⟩ := d_Net_links c
  have b_Net_links := F_Net_links.binds (ps := ["self"]) fun _ _ _ _ _ _ us hl => match us, hl with | [_], _ => rfl
  obtain ⟨fd__law_source, F__law_source⟩ := d__law_source c
  have b__law_source := F__law_source.binds (ps := ["_law_script", "_law_turn"]) fun _ _ _ _ _ _ us hl => match us, hl with | [_, _], _ => rfl
  obtain ⟨fd__law_draw, F__law_draw⟩ := d__law_draw c
  have b__law_draw := F__law_draw.binds (ps := ["_law_source_here", "_law_amount"]) fun _ _ _ _ _ _ us hl => match us, hl with | [_, _], _ => rfl
  obtain ⟨fd__law_refused, F__law_refused⟩ := d__law_refused c
  have b__law_refused := F__law_refused.binds (ps := ["_law_thing"]) fun _ _ _ _ _ _ us hl => match us, hl with | [_], _ => rfl
  obtain ⟨fd__law_unknown, F__law_unknown⟩ := d__law_unknown c
  have b__law_unknown := F__law_unknown.binds (ps := ["_law_net", "_law_thing"]) fun _ _ _ _ _ _ us hl => match us, hl with | [_, _], _ => rfl
  obtain ⟨fd__law_values_refused, F__law_values_refused⟩ := d__law_values_refused c
  have b__law_values_refused := F__law_values_refused.binds (ps := ["_law_net", "_law_word"]) fun _ _ _ _ _ _ us hl => match us, hl with | [_, _], _ => rfl
  obtain ⟨fd__law_words, F__law_words⟩ := d__law_words c
  have b__law_words := F__law_words.binds (ps := ["_law_source_here"]) fun _ _ _ _ _ _ us hl => match us, hl with | [_], _ => rfl
  obtain ⟨fd__law_right, F__law_right⟩ := d__law_right c
  have b__law_right := F__law_right.binds (ps := ["_law_net", "_law_words_here"]) fun _ _ _ _ _ _ us hl => match us, hl with | [_, _], _ => rfl
  obtain ⟨fd_law, F_law⟩ := d_law c
  have rIK := r_InvalidKeys c
  have XI : XrAt P w K mg base "InvalidKeys" "given" (He.ga K "InvalidKeys") := ⟨e_InvalidKeys c, g_InvalidKeys KX G c, rIK.1, rIK.2.1, _, _, rIK.2.2.1, rIK.2.2.2.1, ok_IK F_InvalidKeys___init__ (e_InvalidKeys c) rIK.2.2.2.2, b_InvalidKeys___init__⟩
  have rIV := r_InvalidValue c
  have XV : XrAt P w K mg base "InvalidValue" "given" (He.ga K "InvalidValue") := ⟨e_InvalidValue c, g_InvalidValue KX G c, rIV.1, rIV.2.1, _, _, rIV.2.2.1, rIV.2.2.2.1, ok_IV F_InvalidValue___init__ (e_InvalidValue c) rIV.2.2.2.2, b_InvalidValue___init__⟩
  have rUN := r_UnknownNode c
  have XN : XrAt P w K mg base "UnknownNode" "node" (He.ga K "UnknownNode") := ⟨e_UnknownNode c, g_UnknownNode KX G c, rUN.1, rUN.2.1, _, _, rUN.2.2.1, rUN.2.2.2.1, ok_UN F_UnknownNode___init__ (e_UnknownNode c) rUN.2.2.2.2, b_UnknownNode___init__⟩
  have rUK := r_UnknownKey c
  have XK : XrAt P w K mg base "UnknownKey" "word" (He.ga K "UnknownKey") := ⟨e_UnknownKey c, g_UnknownKey KX G c, rUK.1, rUK.2.1, _, _, rUK.2.2.1, rUK.2.2.2.1, ok_UK F_UnknownKey___init__ (e_UnknownKey c) rUK.2.2.2.2, b_UnknownKey___init__⟩
  have GW : DefAt P w K mg base 1 "is_word" ["obj"] (spWord) := ⟨_, _, ok_word F_is_word B, g_is_word KX G c, F_is_word.kp, b_is_word⟩
  have GK : DefAt P w K mg base 2 "are_keys" ["obj"] (spKeys K) := ⟨_, _, ok_keys F_are_keys B GW, g_are_keys KX G c, F_are_keys.kp, b_are_keys⟩
  have MC : MkAt P w K mg base CX0 1 "Cache" ["self", "home", "label", "above", "row", "cells"] (He.ga K "Cache") (spCI K (He.ga K "Cache")) := ⟨g_Cache KX G c, _, _, mk_Cache c, ok_ci F_Cache___init__ TC, b_Cache___init__⟩
  have MN : MkX P w K mg base 3 "Net" ["self", "keys"] (He.ga K "Net") (spNI K (He.ga K "Cache") (He.ga K "Net") (He.ga K "InvalidKeys")) := ⟨g_Net KX G c, _, _, mk_Net c, ok_ni F_Net___init__ B TN GK MC XI, b_Net___init__⟩
  have GSk : MtAt P w K mg base CX0 1 (He.ga K "Cache") "seek" ["self"] (spSeek (He.ga K "Cache")) := ⟨c_Cache c, _, _, m_Cache_seek c, ok_seek F_Cache_seek TC, b_Cache_seek⟩
  have GCk : MtAt P w K mg base CX0 2 (He.ga K "Cache") "copied_keys" ["self"] (spCk (He.ga K "Cache")) := ⟨c_Cache c, _, _, m_Cache_copied_keys c, ok_ck F_Cache_copied_keys TC GSk, b_Cache_copied_keys⟩
  have PNa : PrAt P w K mg base 2 (He.ga K "Cache") "name" ["self"] (spName (He.ga K "Cache")) := ⟨c_Cache c, _, _, _, p_Cache_name c, ok_name F_Cache_name TC GSk, b_Cache_name⟩
  have PPa : PrAt P w K mg base 2 (He.ga K "Cache") "parent" ["self"] (spParent (He.ga K "Cache")) := ⟨c_Cache c, _, _, _, p_Cache_parent c, ok_parent F_Cache_parent TC GSk, b_Cache_parent⟩
  have PCh : PrAt P w K mg base 2 (He.ga K "Cache") "children" ["self"] (spKids (He.ga K "Cache")) := ⟨c_Cache c, _, _, _, p_Cache_children c, ok_children F_Cache_children TC GSk, b_Cache_children⟩
  have DCl : Dun P w K mg base CX0 3 (He.ga K "Cache") "__len__" ["self"] (spCLen (He.ga K "Cache")) := ⟨_, _, (u_Cache___len__ c).1, (u_Cache___len__ c).2.1, (u_Cache___len__ c).2.2, ok_clen F_Cache___len__ B GCk, b_Cache___len__⟩
  have DCg : Dun P w K mg base CX0 1 (He.ga K "Cache") "__getitem__" ["self", "at"] (spCGet (He.ga K "Cache")) := ⟨_, _, (u_Cache___getitem__ c).1, (u_Cache___getitem__ c).2.1, (u_Cache___getitem__ c).2.2, ok_cg F_Cache___getitem__ B TC, b_Cache___getitem__⟩
  have DCn : Dun P w K mg base CX0 1 (He.ga K "Cache") "__contains__" ["self", "x"] (spCIn (He.ga K "Cache")) := ⟨_, _, (u_Cache___contains__ c).1, (u_Cache___contains__ c).2.1, (u_Cache___contains__ c).2.2, ok_cn F_Cache___contains__ B TC, b_Cache___contains__⟩
  have GAl : MtAt P w K mg base CX0 1 (He.ga K "Cache") "allowance" ["self", "key"] (spC0 (He.ga K "Cache")) := ⟨c_Cache c, _, _, m_Cache_allowance c, ok_al F_Cache_allowance B TC, b_Cache_allowance⟩
  have GTo : MtAt P w K mg base CX0 1 (He.ga K "Cache") "told" ["self", "key"] (spC0 (He.ga K "Cache")) := ⟨c_Cache c, _, _, m_Cache_told c, ok_to F_Cache_told B TC, b_Cache_told⟩
  have GBo : MtAt P w K mg base CX0 1 (He.ga K "Cache") "bound" ["self", "key"] (spC0 (He.ga K "Cache")) := ⟨c_Cache c, _, _, m_Cache_bound c, ok_bo F_Cache_bound B TC, b_Cache_bound⟩
  have PKn : PrAt P w K mg base 1 (He.ga K "Net") "key_names" ["self"] (spKeyNames K (He.ga K "Cache") (He.ga K "Net")) := ⟨c_Net c, _, _, _, p_Net_key_names c, ok_key_names F_Net_key_names B TN, b_Net_key_names⟩
  have PNm : PrAt P w K mg base 1 (He.ga K "Net") "names" ["self"] (spNames K (He.ga K "Cache") (He.ga K "Net")) := ⟨c_Net c, _, _, _, p_Net_names c, ok_names F_Net_names B TN, b_Net_names⟩
  have PHi : PrAt P w K mg base 1 (He.ga K "Net") "history" ["self"] (spEmptyT K (He.ga K "Cache") (He.ga K "Net")) := ⟨c_Net c, _, _, _, p_Net_history c, ok_history F_Net_history B TN, b_Net_history⟩
  have POd : PrAt P w K mg base 1 (He.ga K "Net") "order" ["self"] (spEmptyT K (He.ga K "Cache") (He.ga K "Net")) := ⟨c_Net c, _, _, _, p_Net_order c, ok_order F_Net_order B TN, b_Net_order⟩
  have DNl : Dun P w K mg base CX0 1 (He.ga K "Net") "__len__" ["self"] (spNLen K (He.ga K "Cache") (He.ga K "Net")) := ⟨_, _, (u_Net___len__ c).1, (u_Net___len__ c).2.1, (u_Net___len__ c).2.2, ok_nlen F_Net___len__ B TN, b_Net___len__⟩
  have DNc : Dun P w K mg base CX0 1 (He.ga K "Net") "__contains__" ["self", "x"] (spNIn K (He.ga K "Cache") (He.ga K "Net")) := ⟨_, _, (u_Net___contains__ c).1, (u_Net___contains__ c).2.1, (u_Net___contains__ c).2.2, ok_nin F_Net___contains__ B TN, b_Net___contains__⟩
  have iN := i_Net c
  have I : IsiC K (He.ga K "Net") := ⟨iN.1, iN.2.1, iN.2.2.1, iN.2.2.2.1, iN.2.2.2.2⟩
  have DEq : Dun P w K mg base CX0 1 (He.ga K "Net") "__eq__" ["self", "other"] (spNEq K (He.ga K "Cache") (He.ga K "Net")) := ⟨_, _, (u_Net___eq__ c).1, (u_Net___eq__ c).2.1, (u_Net___eq__ c).2.2, ok_neq F_Net___eq__ B TN I (g_Net KX G c), b_Net___eq__⟩
  have GCy : MtAt P w K mg base CX0 1 (He.ga K "Net") "check_key" ["self", "key"] (spCkKey K (He.ga K "Cache") (He.ga K "Net")) := ⟨c_Net c, _, _, m_Net_check_key c, ok_ckey F_Net_check_key B TN, b_Net_check_key⟩
  have GMs : MtAt P w K mg base CX0 1 (He.ga K "Net") "messages" ["self", "sender", "receiver"] (spMsg K (He.ga K "Cache") (He.ga K "Net")) := ⟨c_Net c, _, _, m_Net_messages c, ok_msg F_Net_messages B TN, b_Net_messages⟩
  have GAg : MtAt P w K mg base CX0 2 (He.ga K "Net") "age" ["self", "name", "key"] (spAge K (He.ga K "Cache") (He.ga K "Net")) := ⟨c_Net c, _, _, m_Net_age c, ok_age F_Net_age B TN TC GCy, b_Net_age⟩
  have DG : DunX P w K mg base 3 (He.ga K "Net") "__getitem__" ["self", "at"] (spNGet K (He.ga K "Cache") (He.ga K "Net") (He.ga K "UnknownNode")) := ⟨_, _, (u_Net___getitem__ c).1, (u_Net___getitem__ c).2.1, (u_Net___getitem__ c).2.2, ok_nget (UK := (He.ga K "UnknownKey")) (IV := (He.ga K "InvalidValue")) F_Net___getitem__ B (z_KeyError KX G c) TN XN, b_Net___getitem__⟩
  have GNu : MtX P w K mg base 3 (He.ga K "Net") "number" ["self", "key"] (spNumber K (He.ga K "Cache") (He.ga K "Net") (He.ga K "UnknownKey")) := ⟨c_Net c, _, _, m_Net_number c, ok_number (UN := (He.ga K "UnknownNode")) (IV := (He.ga K "InvalidValue")) F_Net_number B TN TC XK, b_Net_number⟩
  have GWa : MtX P w K mg base 3 (He.ga K "Net") "waiting" ["self", "key"] (spWaiting K (He.ga K "Cache") (He.ga K "Net") (He.ga K "UnknownKey")) := ⟨c_Net c, _, _, m_Net_waiting c, ok_waiting (UN := (He.ga K "UnknownNode")) (IV := (He.ga K "InvalidValue")) F_Net_waiting B TN XK, b_Net_waiting⟩
  have GWr : MtX P w K mg base 3 (He.ga K "Net") "write" ["self", "key", "value"] (spWrite K (He.ga K "Cache") (He.ga K "Net") (He.ga K "UnknownKey") (He.ga K "InvalidValue")) := ⟨c_Net c, _, _, m_Net_write c, ok_write (UN := (He.ga K "UnknownNode")) F_Net_write B TN XK XV, b_Net_write⟩
  have GLk : GnAt P w K mg base 2 (He.ga K "Net") "links" ["self"] (spLinks K (He.ga K "Cache") (He.ga K "Net")) := ⟨c_Net c, _, _, m_Net_links c, ok_links F_Net_links B TN, b_Net_links⟩
  have GSo : DefAt P w K mg base 1 "_law_source" ["_law_script", "_law_turn"] (spSource K) := ⟨_, _, ok_source F__law_source ⟨B.len, B.max⟩, g__law_source KX G c, F__law_source.kp, b__law_source⟩
  have GDr : DefAt P w K mg base 1 "_law_draw" ["_law_source_here", "_law_amount"] (spDraw) := ⟨_, _, ok_draw F__law_draw, g__law_draw KX G c, F__law_draw.kp, b__law_draw⟩
  have GRe : DefG P w K mg base 5 "_law_refused" ["_law_thing"] (spRefd K) := ⟨_, _, ok_refused F__law_refused B XI (ex_InvalidKeys_InvalidKeys c) MN, g__law_refused KX G c, F__law_refused.kp, b__law_refused⟩
  have GUn : DefG P w K mg base 5 "_law_unknown" ["_law_net", "_law_thing"] (spUnk K (He.ga K "Cache") (He.ga K "Net")) := ⟨_, _, ok_unknown F__law_unknown B XN XK (ex_UnknownNode_UnknownNode c) (ex_UnknownKey_UnknownKey c) DG DNc GNu GWa, g__law_unknown KX G c, F__law_unknown.kp, b__law_unknown⟩
  have GVa : DefG P w K mg base 5 "_law_values_refused" ["_law_net", "_law_word"] (spVal K (He.ga K "Cache") (He.ga K "Net")) := ⟨_, _, ok_values F__law_values_refused B XV XK (ex_InvalidValue_InvalidValue c) (ex_UnknownKey_UnknownKey c) PHi GWr GNu GWa, g__law_values_refused KX G c, F__law_values_refused.kp, b__law_values_refused⟩
  have GWo : DefAt P w K mg base 2 "_law_words" ["_law_source_here"] (spWords) := ⟨_, _, ok_words F__law_words B GDr, g__law_words KX G c, F__law_words.kp, b__law_words⟩
  have GRi : DefAt P w K mg base 6 "_law_right" ["_law_net", "_law_words_here"] (spRi K (He.ga K "Cache") (He.ga K "Net")) := ⟨_, _, ok_right F__law_right B DG PKn PNm PHi POd DNl PNa PPa PCh DCl DCg DCn GTo GBo GAl GNu GWa GAg GMs GLk, g__law_right KX G c, F__law_right.kp, b__law_right⟩
  have bL : ∀ (s : Shared) (u : Value), BindsTo s fd_law ⟨[u], []⟩ [("_law_script", u)] := by
    obtain ⟨oc, od, kV, doc, pm, an, cdv, ct, osl, rfl, _⟩ := F_law.ex
    exact fun s u => .of_eq rfl
  exact run_law (UN := (He.ga K "UnknownNode")) (UK := (He.ga K "UnknownKey")) (IV := (He.ga K "InvalidValue")) F_law B (g_Net KX G c) I TN (ci_Net_MOST c).1 (ci_Net_MOST c).2 GSo GWo GVa GRi GRe GUn MN DEq DNc bL e0 hS hns
end HX01
set_option Elab.async false
set_option linter.all false
set_option maxRecDepth 100000
set_option maxHeartbeats 0
open PySem PySem.W PySem.Calls PyProof.Rows in
theorem PySem.Challenge.cw_slackcache_k01_nets_and_keys_holds : PySem.Challenge.rw_slackcache_k01_nets_and_keys.Holds := by
  w_on; o_law
  refine HandSHeadRun.head_any (r := OpenLaw.row PySem.Challenge.rw_slackcache_k01_nets_and_keys) (q := view (OpenLaw.row PySem.Challenge.rw_slackcache_k01_nets_and_keys).prog [44]) (H := HX01.hk) (ob := HX01.ob) (M := 15000) (loose := HX01.names) (d := HandSHeadRun.topDef (OpenLaw.row PySem.Challenge.rw_slackcache_k01_nets_and_keys).prog 44) (kwd := []) HX01.ob_eq
    (by kernel_rfl) (fun s => by kernel_rfl) HX01.run (by kernel_rfl) (by kernel_rfl) (by kernel_rfl) (by rfl) (by first | assumption | decide +kernel) (by decide +kernel) ⟨rfl, rfl, rfl, rfl, rfl, by decide +kernel⟩ ?hw ?hc
  case hw => w_witness2
  case hc =>
    refine EX.walkTH (l := PySem.Challenge.rw_slackcache_k01_nets_and_keys) (n := 63) rfl (by decide) (by kernel_rfl) ?F
    intro w mg fa h Y G hmg0
    obtain ⟨K, KX, c⟩ := Y
    have hmg : mg ("law" : PySem.Str) = some (.ref fa) := by
      have e : (HandSHeadRun.topDef (OpenLaw.row PySem.Challenge.rw_slackcache_k01_nets_and_keys).prog 44).name = ("law" : PySem.Str) := by kernel_rfl
      rw [← e]
      exact hmg0
    exact ⟨K, [], KX, fun p hp => (nomatch hp), fun base KB GB _ s H a ns hl _ hS e0 => HX01.all_mk (P := (PySem.Challenge.rw_slackcache_k01_nets_and_keys).prog) KX G hmg c base KB GB s H a ns hl hS e0⟩
