import PyProof.Rows.All
import Wide.All
import OpenK.AllK
import Wide.FinOn
import HandS.ForMost
import HandS.Wide
import HandS.Exc
import HandS.ExcInit
import HandS.IsInst
import KE.KExcInit
import KE.KExcIs
import KE.KIsAll
import PyProof.ReprRoads
import HandS.ExcField
import HandS.ExcIs
import HandS.TryMany
import HandS.ExcOwn
import PyProof.InstNe
import HandS.Flow
import HandS.SlotsOwn
import OpenK.KMeth
import HandS.Property
import HandS.HeadHook1
import HandS.HeadHook2
import HandS.HeadNt
import HandS.ClsMeth
import HandS.HeadHook3
import KE.KStateDown
import Lean
import HandS.Base
import HandS.Call
import HandS.Ends
import HandS.More
import HandS.Words
import HandS.WordsExc
import HandS.Defaults
import HandS.Head0
import HandS.Head1
import HandS.Head2
import HandS.HeadEnd
import HandS.Strs
import HandS.SetFor
import HandS.SortInts
import HandS.Walk
import HandS.WordsDict
import HandS.DictComp
import KE.KDictList
import PyProof.Rows.CountFlat
import HandS.Text
import PyProof.Rows.StrMeet
import HandS.Lambda
import HandS.EndTab
import HandS.Conv
import HandS.GenYield
import HandS.GenCall
import HandS.GenList
import HandS.Style
import HandS.StrMore
import HandS.TupAny
import HandS.ExcBuiltin
import HandS.TryOnly
import HandS.CallLocal
import PyProof.ListStr
import PyProof.StrOps2
import HandS.Finally
import HandS.HeadWalk
import PySem.Challenge.RW_slackcache_k02_joins_and_copies
set_option Elab.async false
set_option linter.all false
set_option maxRecDepth 100000
set_option maxHeartbeats 4000000
namespace EX
open PySem L2 PySem.Spec PyProof.Rows
abbrev exT : List Value := [.type "Exception", .type "BaseException", .type "object"]
/-- what the written part says of an own exception class below Exception -/
structure EcC (K : PySem.W.Frag) (C : Addr) : Prop where
  ini : PySem.W.excInitIn K C exT "Exception.__new__" = true
  ovr : PySem.W.excOver K C exT = true
  sa : PySem.W.findIn K (.ref C) "__setattr__" = some (some (.builtin "object.__setattr__"))
  ga : PySem.W.findIn K (.ref C) "__getattribute__" = some (some (.builtin "BaseException.__getattribute__"))
  gg : PySem.W.findIn K (.ref C) "__getattr__" = some none
  exC : PySem.W.subIn K (.ref C) (.type "BaseException") = some true
  hdC : PySem.W.hasDictIn K C = true
  kC : PySem.W.keepIn K (.ref C) = true
  cl : (PySem.W.clsIn K C).isSome = true
  cA : PySem.W.findIn K (.ref C) "__class__" = some (some (.builtin "object.__class__"))
  mo : PySem.W.mroIn K C (.type "object") = some true
  sp : PySem.W.specialIn K (.builtin "object.__class__") "__get__" = some (some (.builtin "getset_descriptor.__get__"))
  tk : PySem.W.takesIn K (.builtin "object.__class__") = some true
theorem upd_comm {H : Hp} {a b : Addr} {o u : HO} (h : a ≠ b) : upd (upd H a o) b u = upd (upd H b u) a o := by
  funext c
  by_cases hb : c = b
  · subst hb
    rw [upd_same, upd_ne (Ne.symm h), upd_same]
  · rw [upd_ne hb]
    by_cases ha : c = a
    · subst ha
      rw [upd_same, upd_same]
    · rw [upd_ne ha, upd_ne ha, upd_ne hb]
theorem upd_upd {H : Hp} {a : Addr} {o u : HO} : upd (upd H a o) a u = upd H a u := by
  funext c
  by_cases ha : c = a
  · subst ha
    rw [upd_same, upd_same]
  · rw [upd_ne ha, upd_ne ha, upd_ne ha]
section
variable {X : Cx} {pins : List (Addr × Obj)} {σ : L2.St} {H : Hp} {s : Shared} {a C dx : Addr} {f : Str} {y : V} {u : Value} {fs : List (Str × V)} {Q : Unit → Shared → Prop} {E : Value → Shared → Prop} {A : Around}
/-- the first field of a new exception -/
theorem est_new (T : EcC X.K C) (I : Inv X pins σ H s) (e : H a = some (exo a C none)) (htk : PySem.W.takerIn X.K C f = some none) (ry : RelV y u)
    (h : ∀ dx s', H dx = none → dx ≠ a → Inv X pins σ (upd (upd H dx (exd dx [(f, y)])) a (exo a C (some dx))) s' → Q () s') :
    wpAny (model X.prog X.w) A (setAttr (.ref a) f u) Q E s := by
  obtain ⟨t1, ho⟩ := exo_at I.hok e
  obtain ⟨cd, hc, hd'⟩ := PySem.W.any_some T.hdC
  obtain ⟨hp, g, d, t, os⟩ := s
  have hlt : a < hp.objs.size := Heap.lt_size ho
  refine PySem.W.set_plain I.kIn (od := none) ⟨ho, rfl, rfl, trivial⟩ T.sa ?_
  refine PySem.W.osa_openX (od := none) PySem.F.store_Exception I.kIn ⟨ho, rfl, rfl, trivial⟩ T.ovr htk fun b => ?_
  refine wpAny_bind (wpAny_pure (wpAny_bind (PySem.W.instanceDict_exc ho (PySem.W.looks_clsIn I.kIn hc) hd' ?_)))
  show wpAny _ _ (Builtin.ObjectAttr.storeInDict hp.objs.size (.str f _) f u) _ _ _
  have hn0 : H hp.objs.size = none := I.hok.fresh (Nat.le_refl _)
  have hne : hp.objs.size ≠ a := Nat.ne_of_gt hlt
  -- the new dict is laid
  have J1 := I.laid (t' := t) (a := hp.objs.size) (o := exd hp.objs.size []) (h' := hp.push (PySem.W.dictOf [] 0)) (fun b o q => Heap.get?_push_of_some _ q) (Nat.le_refl _)
    (exd_ok (mA := fun _ => none) (Heap.Ns1.of_empty ⟨_, #[], _, Heap.get?_push_at rfl rfl, rfl, fun x hx => absurd hx (by simp), fun _ => rfl⟩) fun _ => True.intro)
  have e1 : upd H hp.objs.size (exd hp.objs.size []) a = some (exo a C none) := by rw [upd_ne (Ne.symm hne)]; exact e
  have ho1 : (hp.push (PySem.W.dictOf [] 0)).get? a = some { cls := .ref C, dict := none, data := .fields #[.ref t1, .none, .none, .none, .bool false, .none] } := Heap.get?_push_of_some _ ho
  -- the object gets it
  have ho2 : ((hp.push (PySem.W.dictOf [] 0)).update a fun o => { o with dict := some hp.objs.size }).get? a = some { cls := .ref C, dict := some hp.objs.size, data := .fields #[.ref t1, .none, .none, .none, .bool false, .none] } :=
    Heap.get?_update_self _ ho1 rfl
  have J2 := J1.write (t' := t) (x := a) (e := a) (o := exo a C (some hp.objs.size)) (h' := (hp.push (PySem.W.dictOf [] 0)).update a fun o => { o with dict := some hp.objs.size })
    (by rw [e1]; exact True.intro) (.inl rfl) (fun b o hb q => (Heap.get?_update_ne _ _ _ _ hb).trans q) ⟨_, ho2⟩ (exo_ok ho2)
  have hD : ((hp.push (PySem.W.dictOf [] 0)).update a fun o => { o with dict := some hp.objs.size }).get? hp.objs.size = some (PySem.W.dictOf [] 0) :=
    (Heap.get?_update_ne _ _ _ _ hne).trans (Heap.get?_push_at rfl rfl)
  refine PySem.HandSPX.store_in_new ⟨_, #[], _, hD, rfl, fun x hx => absurd hx (by simp), fun _ => rfl⟩ fun h' tk' hn' hs => ?_
  have hd2 : ∃ o, h'.get? hp.objs.size = some o := by
    obtain ⟨o, _, _, q, _⟩ := hn'
    exact ⟨o, q⟩
  have e2 : upd (upd H hp.objs.size (exd hp.objs.size [])) a (exo a C (some hp.objs.size)) hp.objs.size = some (exd hp.objs.size []) := by rw [upd_ne hne, upd_same]
  have J3 := J2.write (t' := tk') (x := hp.objs.size) (e := hp.objs.size) (o := exd hp.objs.size [(f, y)]) (h' := h') (by rw [e2]; exact True.intro) (.inl rfl)
    (fun b o hb q => (hs.2 b hb).trans q) hd2 (exd_ok hn' (relO_put (fs := []) ry fun _ => True.intro))
  have eH : upd (upd (upd H hp.objs.size (exd hp.objs.size [])) a (exo a C (some hp.objs.size))) hp.objs.size (exd hp.objs.size [(f, y)]) =
      upd (upd H hp.objs.size (exd hp.objs.size [(f, y)])) a (exo a C (some hp.objs.size)) := by
    rw [upd_comm (Ne.symm hne), upd_upd]
  rw [eH] at J3
  exact h _ _ hn0 hne J3
/-- a further field of an exception -/
theorem est_old (T : EcC X.K C) (I : Inv X pins σ H s) (e : H a = some (exo a C (some dx))) (ed : H dx = some (exd dx fs)) (hl : fs.length ≤ 900) (htk : PySem.W.takerIn X.K C f = some none) (ry : RelV y u)
    (h : ∀ s', Inv X pins σ (upd H dx (exd dx ((f, y) :: fs))) s' → Q () s') : wpAny (model X.prog X.w) A (setAttr (.ref a) f u) Q E s := by
  obtain ⟨t1, ho⟩ := exo_at I.hok e
  obtain ⟨mA, hns, rel⟩ := exd_at I.hok ed
  have hw := within_of rel
  obtain ⟨cd, hc, hd'⟩ := PySem.W.any_some T.hdC
  obtain ⟨hp, g, d, t, os⟩ := s
  obtain ⟨oD, es, ep, hoD, hdD, hcD⟩ := hns.count hw
  refine PySem.W.set_plain I.kIn (od := some oD) ⟨ho, rfl, rfl, hoD⟩ T.sa ?_
  refine PySem.W.osa_openX (od := some oD) PySem.F.store_Exception I.kIn ⟨ho, rfl, rfl, hoD⟩ T.ovr htk fun b => ?_
  refine wpAny_bind (wpAny_pure (wpAny_bind (wpAny_bind (wpAny_loadPart ho (wpAny_bind ((PySem.W.looks_clsIn I.kIn hc).at ?_))))))
  rw [hd']
  refine wpAny_pure (a := some dx) ?_
  show wpAny _ _ (Builtin.ObjectAttr.storeInDict dx (.str f _) f u) _ _ _
  refine PySem.OEX.store_in_old hns hw (by rw [List.length_map]; omega) fun h' tk' hn' hs => ?_
  have hd2 : ∃ o, h'.get? dx = some o := by
    obtain ⟨o, _, _, q, _⟩ := hn'
    exact ⟨o, q⟩
  exact h _ (I.write (t' := tk') (x := dx) (e := dx) (o := exd dx ((f, y) :: fs)) (h' := h') (by rw [ed]; exact True.intro) (.inl rfl) (fun b o hb q => (hs.2 b hb).trans q) hd2 (exd_ok hn' (relO_put ry rel)))
end

/-! ### readings and rules -/
/-- self.f = e, self an exception -/
def tEst (K : PySem.W.Frag) (f : Str) (to te : TE) : TS := fun D σ H => te σ H fun y H1 => to σ H1 fun x H2 => ∃ a C : Addr, x = .ref a ∧ EcC K C ∧ PySem.W.takerIn K C f = some none ∧
  ((H2 a = some (exo a C none) ∧ ∀ dx, H2 dx = none → dx ≠ a → D.nx σ (upd (upd H2 dx (exd dx [(f, y)])) a (exo a C (some dx)))) ∨
    ∃ (dx : Addr) (fs : List (Str × V)), H2 a = some (exo a C (some dx)) ∧ H2 dx = some (exd dx fs) ∧ fs.length ≤ 900 ∧ D.nx σ (upd H2 dx (exd dx ((f, y) :: fs))))
/-- C(e, ..), an exception as a value -/
def tMkE (C : Addr) (sp : Sp) (dvs : List V) (ta : TA) : TE := fun σ H Q => ta σ H fun vs H1 => vs.length ≤ 1000 ∧ ∀ a, H1 a = none →
  sp (.ref a :: (vs ++ dvs)) (upd H1 a (exo a C none)) (fun v H2 => v = .non ∧ Q (.ref a) H2) (fun _ _ _ => False)
/-- e.f, e an exception -/
def tEf (K : PySem.W.Frag) (f : Str) (te : TE) : TE := fun σ H Q => te σ H fun x H1 => ∃ (a C dx : Addr) (fs : List (Str × V)) (v : V), x = .ref a ∧ EcC K C ∧ PySem.W.findIn K (.ref C) f = some none ∧
  H1 a = some (exo a C (some dx)) ∧ H1 dx = some (exd dx fs) ∧ fs.lookup f = some v ∧ Q v H1
section
variable {X : Cx} {o e : Expr} {es : List Expr} {to te : TE} {ta : TA} {f : Str} {p p' pos : Pos}
theorem ps_est (ho : PE X o to) (he : PE X e te) (hs : swapsWith e (some (.Attribute o f p')) pos.line X.env = pure false := by rfl) : PS X (.Assign [.Attribute o f p'] e pos) (tEst X.K f to te) := by
  refine ⟨fun pins s σ H D I h => plainObj_wpAny_Assign_Attribute (thn (he.run pins s σ H _ I h) ?_) hs⟩
  intro v s1 ⟨y, H1, I1, r1, q1⟩
  refine thn (ho.run pins s1 σ H1 _ I1 q1) ?_
  intro u s2 ⟨x, H2, I2, r2, a, C, ex, T, hno, q⟩
  subst ex
  obtain rfl : u = Value.ref a := r2
  rcases q with ⟨ea, q⟩ | ⟨dx, fs, ea, ed, hl, q⟩
  · exact est_new T I2 ea hno r1 fun dx s' n ne J => ⟨σ, _, J, q dx n ne⟩
  · exact est_old T I2 ea ed hl hno r1 fun s' J => ⟨σ, _, J, q⟩
theorem pe_ef (he : PE X e te) (hb : attributeBase e f X.env (eval e X.env) = eval e X.env := by rfl) : PE X (.Attribute e f pos) (tEf X.K f te) := by
  refine ⟨fun pins s σ H Q I h => attr_of hb (thn (he.run pins s σ H _ I h) ?_)⟩
  intro u s1 ⟨x, H1, I1, rx, a, C, dx, fs, v, ex, T, hno, ea, ed, l, q⟩
  subst ex
  obtain rfl : u = Value.ref a := rx
  obtain ⟨t1, ho⟩ := exo_at I1.hok ea
  obtain ⟨mA, hns, rel⟩ := exd_at I1.hok ed
  obtain ⟨od, hod, hl⟩ := lookIn_ns hns
  obtain ⟨w0, hu, ru⟩ := RelO.some_of (v := v) (o := mA f) (by rw [← l]; exact rel f)
  have J : PySem.W.InstAt s1.heap a _ C (some od) := ⟨ho, rfl, rfl, hod⟩
  exact HandSPX.exc_get I1.kIn J T.ga T.gg T.exC (PySem.W.findObj_own T.hdC hno rfl (by rw [hl, hu])) (handed_of ru) ⟨v, H1, I1.tok _, ru, q⟩
theorem pe_mkE {CX : CXT} {x : Str} {C fI : Addr} {k : Nat} {fd : FuncData} {ps : List Str} {sp : Sp} {ds : List Value} {dvs : List V} (T : EcC X.K C) (iC : PySem.W.findIn X.K (.ref C) "__init__" = some (some (.ref fI)))
    (tI : PySem.W.typeIn X.K (.ref fI) = some (.type "function")) (F1 : FnOk X.prog X.w X.K X.mg X.base CX k fI fd ps sp) (hr : Room (k + 1) X.A) (hb : Binds X.K fd ps ds) (hd : Vals dvs ds) (hx : Passes CX X (fun _ _ _ => False))
    (hg : Gl X x) (hm : X.mg x = some (.ref C)) (ha : PA X (e :: es) ta)
    (hdb : (x == ("__debug__" : Str)) = false := by decide) (he : starEach (e :: es) X.env = (false, eval e X.env) :: starEach es X.env := by rfl) (hpl : (backTo pos (starEach es X.env)).any (·.1) = false := by rfl) :
    PE X (.Call (.Name x p) (e :: es) [] pos) (tMkE C sp dvs ta) := by
  refine ⟨fun pins s σ H Q I h => wpAny_Call_Name_kw (ld_glob I hg hm ?_ hdb)⟩
  refine PySem.W.callWith_K (h₀ := X.base) I.ok.mod.kin T.kC (thn (ha.run pos pins s σ H _ I h) ?_) he hpl
  intro us s1 ⟨vs, H1, I1, r1, hz, q1⟩
  refine ⟨I1.kIn, ?_⟩
  show wpAny _ _ (call (.ref C) us) _ _ _
  obtain ⟨nm, N', qn, bs, bm, hdct, sn, sub, ab, col, dd, k0, k1, k2, k3, k5, hC, hT⟩ := PySem.W.excInit_of I1.kIn T.ini
  obtain ⟨hp, g, dr, tk, os⟩ := s1
  have hsz : hp.objs.size ≤ hp.objs.size + 1 := Nat.le_succ _
  have hn : H1 (hp.objs.size + 1) = none := I1.hok.fresh hsz
  have hq := q1 _ hn
  have hget : ((hp.push (PySem.W.kdv_tup us)).push (PySem.HandSPX.excO C hp.objs.size)).get? (hp.objs.size + 1) = some (PySem.HandSPX.excO C hp.objs.size) := by heap_get
  have I2 := I1.laid (t' := tk) (a := hp.objs.size + 1) (o := exo (hp.objs.size + 1) C none) (h' := (hp.push (PySem.W.kdv_tup us)).push (PySem.HandSPX.excO C hp.objs.size))
    (fun b o z => Heap.get?_push_of_some _ (Heap.get?_push_of_some _ z)) hsz (exo_ok hget)
  have r2 : Vals (V.ref (hp.objs.size + 1) :: (vs ++ dvs)) (Value.ref (hp.objs.size + 1) :: (us ++ ds)) := .cons rfl (r1.append hd)
  have hl : (Value.ref (hp.objs.size + 1) :: us ++ ds).length = ps.length := r2.length.symm.trans (F1.len _ _ _ _ hq)
  have hus : us.length ≤ sizeLine := by
    have := Paired.length r1
    rw [sizeLine_eq]
    omega
  refine wpAny_call (PySem.HandSPX.call_own PySem.F.excBase_Exception hT hC (PySem.W.looks_findIn I1.kIn iC) (fun self => PySem.W.bind_fn I1.kIn self tI) hus (codeAny_mono
    (F1.run _ X.stack _ _ ⟨Value.ref (hp.objs.size + 1) :: us, []⟩ (Value.ref (hp.objs.size + 1) :: (us ++ ds)) _ _ (fun _ _ _ => False) (hr.make C us []) (I2.env0.make C us []) (hb _ (Value.ref (hp.objs.size + 1) :: us) I2.kIn hl) r2 hq) ?_))
  intro r s' hq'
  cases r with
  | error er => exact hx pins σ _ _ er s' I2 hq'
  | ok fl =>
    cases fl with
    | ret u =>
      obtain ⟨v, H2, os2, bare2, un2, hok2, rv, ev, q2⟩ := hq'
      subst ev
      obtain ⟨h2, g2, d2, t2, os'⟩ := s'
      refine ⟨rv, V.ref (hp.objs.size + 1), H2, I2.call' (ch := []) os2 un2 hok2 bare2 (fun b z => absurd z (by simp)), rfl, q2⟩
    | next => exact False.elim hq'
    | brk => exact False.elim hq'
    | cont => exact False.elim hq'
/-- isinstance(e, c), e an exception, one class -/
def rIsiE (K : PySem.W.Frag) : List V → Hp → VK → Prop := fun xs H Q => ∃ (a C dx : Addr) (fs : List (Str × V)) (c : V) (u : Value) (b : Bool), xs = [.ref a, c] ∧ H a = some (exo a C (some dx)) ∧ H dx = some (exd dx fs) ∧ EcC K C ∧ ClsV c u ∧
  PySem.W.kitOne K (.ref C) u = some b ∧ Q (.bl b) H
/-- isinstance(e, (c1, c2, ..)), the tuple just laid -/
def rIsiET (K : PySem.W.Frag) : List V → Hp → VK → Prop := fun xs H Q => ∃ (a C dx tp : Addr) (fs : List (Str × V)) (cs : List V) (us : List Value) (b : Bool), xs = [.ref a, .ref tp] ∧ H a = some (exo a C (some dx)) ∧ H dx = some (exd dx fs) ∧ EcC K C ∧
  H tp = some (.tup cs) ∧ Paired ClsV cs us ∧ PySem.W.kitAny K (.ref C) us = some b ∧ Q (.bl b) H
theorem kit_exc {K : PySem.W.Frag} {C : Addr} (T : EcC K C) {x : Addr} {ox : Obj} {od : Option Obj} : PySem.W.KitX K (.ref x) (.ref C) (fun h => PySem.W.InstAt h x ox C od) :=
  PySem.W.kitx_exc T.cl T.ga T.gg T.exC T.cA T.sp T.tk T.mo
theorem call_isiE : CallR X (.builtin "isinstance") (rIsiE X.K) := by
  intro pins s σ H xs us Q I r h
  obtain ⟨a, C, dx, fs, c, u, b, rfl, ea, ed, T, k, e, q⟩ := h
  obtain ⟨u1, u2, rfl, r1, r2⟩ := vals2 r
  obtain rfl := k.eq r2
  obtain rfl : u1 = Value.ref a := r1
  obtain ⟨t1, ho⟩ := exo_at I.hok ea
  obtain ⟨mA, hns, rel⟩ := exd_at I.hok ed
  obtain ⟨od, hod, _⟩ := lookIn_ns hns
  exact PySem.W.kia_one (kit_exc T (od := some od)) I.kIn ⟨ho, rfl, rfl, hod⟩ e (fun z => nomatch z) fun tk => ⟨.bl b, H, I.tok tk, rfl, q⟩
theorem call_isiET : CallR X (.builtin "isinstance") (rIsiET X.K) := by
  intro pins s σ H xs us Q I r h
  obtain ⟨a, C, dx, tp, fs, cs, vs, b, rfl, ea, ed, T, et, pr, e, q⟩ := h
  obtain ⟨u1, u2, rfl, r1, r2⟩ := vals2 r
  obtain rfl : u1 = Value.ref a := r1
  obtain rfl : u2 = Value.ref tp := r2
  obtain ⟨t1, ho⟩ := exo_at I.hok ea
  obtain ⟨mA, hns, rel⟩ := exd_at I.hok ed
  obtain ⟨od, hod, _⟩ := lookIn_ns hns
  have z : ObjOk X.prog X.w H s.heap tp (.tup cs) := I.hok tp _ et
  obtain ⟨_, its, rv, o, h1, h2, n, h3⟩ := z
  obtain rfl := ClsV.all pr rv
  obtain ⟨oc, od', dt, sl⟩ := o
  dsimp only at h2 h3
  subst h2 h3
  exact PySem.W.kia_tup (kit_exc T (od := some od)) I.kIn ⟨ho, rfl, rfl, hod⟩ h1 e (fun z => nomatch z) fun tk => ⟨.bl b, H, I.tok tk, rfl, q⟩
end
/-- plain data, or a dict of one int -/
inductive Rp (K : PySem.W.Frag) (H : Hp) : V → PyData → Prop where
  | dp {v : V} {d : PyData} : Dp K H v d → d.hasDict = false → Rp K H v d
  | dic {a : Addr} {k n : Int} : H a = some (.dK [(Sum.inl k, .int n)]) → Rp K H (.ref a) (.dict [(.int k, .int n)])
  | dis {a : Addr} {k : Str} {n : Int} : H a = some (.dK [(Sum.inr k, .int n)]) → Rp K H (.ref a) (.dict [(.str k, .int n)])
def rRepr (K : PySem.W.Frag) : List V → Hp → VK → Prop := fun xs H Q => ∃ (x : V) (d : PyData), xs = [x] ∧ Rp K H x d ∧ d.showable = true ∧ d.depth ≤ 60 ∧ d.shown.length ≤ sizeLine ∧ Q (.str d.shown) H
section
variable {X : Cx} {pins : List (Addr × Obj)} {σ : L2.St} {H : Hp} {s : Shared}
theorem Rp.reads (I : Inv X pins σ H s) {v : V} {d : PyData} {u : Value} (h : Rp X.K H v d) (r : RelV v u) : ∃ as, Reads s.heap u d as ∧ (d.hasDict = true → sysModules ∉ as) := by
  cases h with
  | dp h nd =>
    obtain ⟨as, q⟩ := Dp.reads I d v u h r
    exact ⟨as, q, fun z => by rw [nd] at z; cases z⟩
  | @dic a k n e =>
    obtain rfl : u = Value.ref a := r
    have z : ObjOk X.prog X.w H s.heap a (.dK [(Sum.inl k, .int n)]) := I.hok a _ e
    obtain ⟨_, hsm, vs, kv, o, es, ep, ho, hx, hd, _, hp, _⟩ := z
    cases kv with
    | @cons _ q0 _ qs k1 kr =>
      cases kr
      obtain ⟨ek, rv⟩ := k1
      obtain ⟨kk, vv⟩ := q0
      dsimp only at ek rv
      subst ek
      obtain ⟨t, rfl⟩ : ∃ t, vv = Value.int n t := rv
      generalize el : es.toList = l at hp
      cases hp with
      | @cons e1 kv1 es1 kvs1 p1 p2 p3 =>
        cases p3
        obtain ⟨hsh, key, val⟩ := e1
        dsimp only at p1 p2
        subst p2
        have p1 : Value.isInt k key = true := p1
        obtain ⟨t2, rfl⟩ : ∃ t2, key = Value.int k t2 := by
          cases key <;> simp_all [Value.isInt]
        refine ⟨a :: [] ++ [], Reads.dict ho hx.1 hd (as := []) (bs := []) ?_ ?_, fun _ z => ?_⟩
        · rw [el]
          exact ReadsAll.cons (bs := []) (Reads.int k t2) ReadsAll.nil
        · rw [el]
          exact ReadsAll.cons (bs := []) (Reads.int n t) ReadsAll.nil
        · rw [List.append_nil, List.mem_singleton] at z
          rw [z] at hsm
          simp at hsm
  | @dis a k n e =>
    obtain rfl : u = Value.ref a := r
    have z : ObjOk X.prog X.w H s.heap a (.dK [(Sum.inr k, .int n)]) := I.hok a _ e
    obtain ⟨_, hsm, vs, kv, o, es, ep, ho, hx, hd, _, hp, _⟩ := z
    cases kv with
    | @cons _ q0 _ qs k1 kr =>
      cases kr
      obtain ⟨ek, rv⟩ := k1
      obtain ⟨kk, vv⟩ := q0
      dsimp only at ek rv
      subst ek
      obtain ⟨t, rfl⟩ : ∃ t, vv = Value.int n t := rv
      generalize el : es.toList = l at hp
      cases hp with
      | @cons e1 kv1 es1 kvs1 p1 p2 p3 =>
        cases p3
        obtain ⟨hsh, key, val⟩ := e1
        dsimp only at p1 p2
        subst p2
        have p1 : Value.isStrOf k key = true := p1
        obtain ⟨t2, rfl⟩ := Value.isStrOf_shape p1
        refine ⟨a :: [] ++ [], Reads.dict ho hx.1 hd (as := []) (bs := []) ?_ ?_, fun _ z => ?_⟩
        · rw [el]
          exact ReadsAll.cons (bs := []) (Reads.str k t2) ReadsAll.nil
        · rw [el]
          exact ReadsAll.cons (bs := []) (Reads.int n t) ReadsAll.nil
        · rw [List.append_nil, List.mem_singleton] at z
          rw [z] at hsm
          simp at hsm
theorem call_reprD (hg : X.A.guards = some []) (hu : X.A.units + 70 < cLine) : CallR X (.builtin "repr") (rRepr X.K) := by
  intro pins s σ H xs us Q I r h
  obtain ⟨x, d, rfl, hR, hs, hdp, hz, q⟩ := h
  obtain ⟨u, rfl, ru⟩ := vals1 r
  obtain ⟨as, hr, hsm⟩ := hR.reads I ru
  have sc : ∀ (b : Str), d.shown = b → ∀ tk, EP X pins σ Q (.str b tk) { s with toks := s.toks + 1 } := fun b e tk => ⟨.str b, H, I.tok _, ⟨_, rfl⟩, e ▸ q⟩
  cases hr with
  | none => exact PySem.P.repr_of_none (sc _ rfl _)
  | bool b => exact PySem.P.repr_of_bool (sc _ (by cases b <;> rfl) _)
  | int i t => exact PySem.P.repr_of_int (of_decide_eq_true hs) (sc _ rfl _)
  | str y t => exact PySem.P.repr_of_str (sc _ rfl _) hz
  | list h1 h2 h3 h4 =>
    refine repr_of_reads' (Reads.list h1 h2 h3 h4) hs hsm hg (by omega) (fun _ _ e => e) (fun h' u tk k => ?_) hz
    exact ⟨.str _, H, I.kept k, ⟨_, rfl⟩, q⟩
  | tuple h1 h2 h3 h4 =>
    refine repr_of_reads' (Reads.tuple h1 h2 h3 h4) hs hsm hg (by omega) (fun _ _ e => e) (fun h' u tk k => ?_) hz
    exact ⟨.str _, H, I.kept k, ⟨_, rfl⟩, q⟩
  | dict h1 h2 h3 h4 h5 =>
    refine repr_of_reads' (Reads.dict h1 h2 h3 h4 h5) hs hsm hg (by omega) (fun _ _ e => e) (fun h' u tk k => ?_) hz
    exact ⟨.str _, H, I.kept k, ⟨_, rfl⟩, q⟩
end

/-! ### a def at one call, what runs around it known (so repr of what holds other things may be said) -/
theorem fn_at {P : Program} {w : World} {K : PySem.W.Frag} {mg : Str → Option Value} {base : Heap} {k : Nat} {x qual : Str} {st : Stmt} {f : Addr} {fd : FuncData} {N ps : List Str} (F : Fun K x qual st f fd) (S : FnScope N ps (defScope st))
    {A : Around} {outer : List Env} {s : Shared} {H : Hp} {args : Args} {us : List Value} {vs : List V} {Q : VK} {E : XK} (hr : Room (k + 1) A) (e0 : Env0 P w K mg base A outer s H) (hb : BindsTo s fd args (ps.zip us)) (rv : Vals vs us) (hl : vs.length = ps.length)
    (body : ∀ cdv : Value, Room k (A.deeper (envOfC qual (defScope st) s.heap.objs.size f cdv)) → ∃ t, PSs (cxOf CX0 P w K mg base N qual (defScope st) f cdv A outer s H E) (defBody st) t ∧ t { nx := fun _ H' => Q .non H', rt := Q } (start N vs) H) :
    codeAny (model P w) A (.call (.ref f) args) (CR CX0 outer P w H s Q E) s := by
  obtain ⟨oc, od, kV, doc, pm, an, cdv, ct, osl, rfl, lk, hcd⟩ := F.ex
  have kin : K.In s.heap := e0.mod.kin.keeps fun b o z => (e0.bs b o z).1
  have lim : s.heap.NoLimit := e0.mod.nolimit.keeps fun b o z => (e0.bs b o z).1
  have par : ∀ y ∈ ps.zip us, (defScope st).names.lookup y.1 = some .local ∨ ((defScope st).names.lookup y.1 = some .cell ∧ ((cellsFrom (s.heap.objs.size + 1) (defScope st).names []).lookup y.1).isSome = true) := by
    rintro ⟨n, v⟩ hy
    cases S.par n (List.of_mem_zip hy).1 with
    | inl q => exact .inl q
    | inr q => exact .inr ⟨q, PySem.W.cellsFrom_some _ _ _ (.inl q)⟩
  refine codeAny_call_function hr.depth (kin _ _ lk) rfl S.co S.gen rfl (PySem.W.codeRec_of kin hcd) (hb _ _ _ _ (wpAny_newFunctionEnv_cells S.kind par ?_))
  rintro env he s1 hin
  subst he
  refine ⟨lim.keeps hin.toInCall.keep, codeAny_func ?_⟩
  obtain ⟨t, ht, hq⟩ := body cdv (hr.deeper _)
  refine wpAny_mono (ht.run [] s1 (start N vs) H _ (inv_start S hr.hd e0 hl rv hin) hq) ?_ fun _ _ z => z
  rintro fl s' hs
  cases fl with
  | next =>
    obtain ⟨σ', H', J, q⟩ := hs
    exact ⟨V.non, H', J.os, J.bare, J.base, J.hok, rfl, q⟩
  | ret u =>
    obtain ⟨v, σ', H', J, r, q⟩ := hs
    exact ⟨v, H', J.os, J.bare, J.base, J.hok, r, q⟩
  | brk =>
    obtain ⟨_, _, _, q⟩ := hs
    exact q.elim
  | cont =>
    obtain ⟨_, _, _, q⟩ := hs
    exact q.elim
/-- the law's end, the law's own call met at callerA -/
theorem walkG {l : PySem.W.OpenLaw} {n : Nat} {q : Program} {loose : List Str} {XP : (Str → Option Value) → Heap → Prop} {YP : World → Heap → Prop} {d : DefRec} {K : Params → PySem.W.Frag}
    (hn : l.most = some n) (hn2 : n ≤ sizeLine) (hdf : d.params.defaults = []) (hY : ∀ (w : World) (h : Heap), YP w h → (K w.params).In h)
    (F : ∀ (w : World) (mg : Str → Option Value) (fa : Addr) (h : Heap), (K w.params).In h → h.Ns mainGlobals mg → mg d.name = some (.ref fa) →
      ∀ base : Heap, (K w.params).In base → base.Ns mainGlobals mg → ∀ (s : Shared) (H : Hp) (a : Addr) (ns : List Int), ns.length ≤ n → SqL (K w.params) H a (ns.map V.int) → Env0 l.prog w (K w.params) mg base callerA [] s H →
        codeAny (model l.prog w) callerA (.call (.ref fa) ⟨[.ref a], []⟩) (CR CX0 [] l.prog w H s (fun v _ => v = .bl true) E0) s) :
    PySem.W.WalkO q loose XP YP l.row.toRowW d [] (fun f vs => PySem.call f vs) := by
  refine Att.attach_call hn hdf ?_
  intro w s₀ s₁ mg mb fa o pm cd doc a vs ns G Y ho hd hcd hmg hobj hints hlen hg
  have kin := hY w _ Y
  have rv := vals_ints hints
  have lv := hints.length
  have key : ∀ H : Hp, Only H → SqL (K w.params) H a (ns.map V.int) → HOk l.prog w H s₁.heap → (∀ b, H b ≠ none → b = a) → (H a ≠ none → (K w.params).lookup a = none) →
      codeAny (model l.prog w) callerA (.call (.ref fa) ⟨[.ref a], []⟩) (fun r s' => r = .ok (.ret (.bool true)) ∧ OldK s₁.heap s'.heap ∧ s'.os = s₁.os ∧ AllBare s'.gens) s₁ := by
    intro H only sq hok onlyA notK
    have freeD : ∀ {b : Addr} {o : Obj} {es : Array DictEntry} {ep : Nat}, s₁.heap.get? b = some o → o.data = .dict es ep → H b = none := by
      intro b o es ep e1 e2
      cases h : H b with
      | none => rfl
      | some u =>
        have e3 : b = a := onlyA b (by rw [h]; exact fun z => nomatch z)
        rw [e3, hobj] at e1
        cases e1
        cases e2
    have nsB : ∀ {b : Addr} {m : Str → Option Value}, s₁.heap.Ns b m → (hidT s₁.heap H).Ns b m := by
      rintro b m ⟨o, es, ep, e1, e2, r⟩
      exact ⟨o, es, ep, hidT_get e1 (freeD e1 e2), e2, r⟩
    have kinB : (K w.params).In (hidT s₁.heap H) := by
      intro b o e
      refine hidT_get (kin b o e) ?_
      cases h : H b with
      | none => rfl
      | some u =>
        have e3 : b = a := onlyA b (by rw [h]; exact fun z => nomatch z)
        rw [e3, notK (by rw [← e3, h]; exact fun z => nomatch z)] at e
        cases e
    have e0 : Env0 l.prog w (K w.params) mg (hidT s₁.heap H) callerA [] s₁ H := by
      refine ⟨rfl, ⟨kinB, nsB G.T.g, ⟨mb, nsB G.T.b, G.T.builtins⟩, ?_⟩, fun b o e => of_hidT e, Nat.le_of_eq (hidT_size _ _), trivial, (fun b hb => absurd hb (List.not_mem_nil)), hok, .of_eq hg⟩
      obtain ⟨mc, h1, h2⟩ := G.T.nolimit
      exact ⟨mc, nsB h1, h2⟩
    refine codeAny_mono (F w mg fa _ kin G.T.g hmg _ kinB (nsB G.T.g) s₁ H a ns hlen sq e0) ?_
    intro r s' z
    cases r with
    | error e => exact z.elim
    | ok fl =>
      cases fl with
      | next => exact z.elim
      | brk => exact z.elim
      | cont => exact z.elim
      | ret u =>
        obtain ⟨v, H', os, bare, un, hok', rr, qq⟩ := z
        subst qq
        obtain rfl : u = Value.bool true := rr
        refine ⟨rfl, OldK.of_keep ?_, os, bare⟩
        intro b o e
        rcases only b with h | ⟨ob, xs, h⟩
        · exact un.keep b o e h (fun z => nomatch z) (fun z => nomatch z)
        · have h1 := (hok b _ h).1
          have h2 := (hok' b _ (un.frzs b ob _ h)).1
          rw [e] at h1
          cases h1
          exact h2
  have hz : ns.length ≤ sizeLine := Nat.le_trans hlen hn2
  cases hk : (K w.params).lookup a with
  | some o =>
    have e := kin a o hk
    rw [hobj] at e
    cases e
    refine key (fun _ => none) (fun _ => .inl rfl) (.inr ⟨_, vs.toArray, _, hk, rfl, rfl, rfl, ?_, ?_⟩) (fun _ _ z => nomatch z) (fun _ z => absurd rfl z) fun z => absurd rfl z
    · rw [List.size_toArray, lv]
      exact hz
    · simpa using rv
  | none =>
    have hs : ∀ b u, (if b = a then some (HO.frz { cls := .type "list", data := .seq vs.toArray } (.lst (ns.map V.int))) else none) = some u → b = a ∧ u = HO.frz { cls := .type "list", data := .seq vs.toArray } (.lst (ns.map V.int)) := by
      intro b u z
      by_cases hb : b = a
      · rw [if_pos hb] at z
        exact ⟨hb, (Option.some.inj z).symm⟩
      · rw [if_neg hb] at z
        cases z
    refine key (fun b => if b = a then some (.frz { cls := .type "list", data := .seq vs.toArray } (.lst (ns.map V.int))) else none) ?_ (.inl (.inr ⟨_, if_pos rfl⟩)) ?_ ?_ fun _ => hk
    · intro b
      by_cases hb : b = a
      · exact .inr ⟨_, _, if_pos hb⟩
      · exact .inl (if_neg hb)
    · intro b u z
      obtain ⟨rfl, rfl⟩ := hs b u z
      exact ⟨hobj, by rw [List.length_map]; exact hz, vs, _, rv, hobj⟩
    · intro b z
      cases h : (if b = a then some (HO.frz { cls := .type "list", data := .seq vs.toArray } (.lst (ns.map V.int))) else none) with
      | none => exact absurd h z
      | some u => exact (hs b u h).1

/-! ### defs and exception classes of the text, each as one fact -/
structure DefAt (P : Program) (w : World) (K : PySem.W.Frag) (mg : Str → Option Value) (base : Heap) (k : Nat) (x : Str) (ps : List Str) (sp : Sp) : Prop where
  ex : ∃ (f : Addr) (fd : FuncData), FnOk P w K mg base CX0 k f fd ps sp ∧ mg x = some (.ref f) ∧ PySem.W.keepIn K (.ref f) = true ∧ Binds K fd ps []
structure XcAt (P : Program) (w : World) (K : PySem.W.Frag) (mg : Str → Option Value) (base : Heap) (x : Str) (ps : List Str) (C : Addr) (sp : Sp) : Prop where
  T : EcC K C
  m : mg x = some (.ref C)
  ex : ∃ (fI : Addr) (fd : FuncData), PySem.W.findIn K (.ref C) "__init__" = some (some (.ref fI)) ∧ PySem.W.typeIn K (.ref fI) = some (.type "function") ∧ FnOk P w K mg base CX0 1 fI fd ps sp ∧ Binds K fd ps []
section
variable {X : Cx} {e : Expr} {es : List Expr} {ta : TA} {p pos : Pos} {x : Str} {k : Nat} {ps : List Str} {sp : Sp} {C : Addr}
theorem pe_callD (D : DefAt X.prog X.w X.K X.mg X.base k x ps sp) (hr : Room k X.A) (ha : PA X (e :: es) ta) (hg : Gl X x := by rfl) (hdb : (x == ("__debug__" : Str)) = false := by decide)
    (he : starEach (e :: es) X.env = (false, eval e X.env) :: starEach es X.env := by rfl) (hpl : (backTo pos (starEach es X.env)).any (·.1) = false := by rfl) : PE X (.Call (.Name x p) (e :: es) [] pos) (tCall sp [] E0 ta) := by
  obtain ⟨f, fd, F, m, kp, b⟩ := D.ex
  exact pe_call F hr hg m kp b .nil pass0 ha hdb he hpl
theorem pe_mkD (D : XcAt X.prog X.w X.K X.mg X.base x ps C sp) (hr : Room 2 X.A) (ha : PA X (e :: es) ta) (hg : Gl X x := by rfl) (hdb : (x == ("__debug__" : Str)) = false := by decide)
    (he : starEach (e :: es) X.env = (false, eval e X.env) :: starEach es X.env := by rfl) (hpl : (backTo pos (starEach es X.env)).any (·.1) = false := by rfl) : PE X (.Call (.Name x p) (e :: es) [] pos) (tMkE C sp [] ta) := by
  obtain ⟨fI, fd, iC, tI, F, b⟩ := D.ex
  exact pe_mkE D.T iC tI F hr b .nil (fun _ _ _ _ _ _ _ h => h.elim) hg D.m ha hdb he hpl
theorem pe_cls (D : XcAt X.prog X.w X.K X.mg X.base x ps C sp) (hg : Gl X x := by rfl) (hd : (x == ("__debug__" : Str)) = false := by decide) : PE X (.Name x pos) (tC (.ref C)) := pe_glob hg D.m rfl hd
end
/-- __init__(self, f): self.f = f -/
def spI1 (K : PySem.W.Frag) (C : Addr) (f : Str) : Sp := fun vs H Q _ => ∃ (a : Addr) (v : V), vs = [.ref a, v] ∧ H a = some (exo a C none) ∧ ∀ dx, H dx = none → dx ≠ a → Q .non (upd (upd H dx (exd dx [(f, v)])) a (exo a C (some dx)))
/-- __init__(self, f, g): self.f = f; self.g = g -/
def spI2 (K : PySem.W.Frag) (C : Addr) (f g : Str) : Sp := fun vs H Q _ => ∃ (a : Addr) (v u : V), vs = [.ref a, v, u] ∧ H a = some (exo a C none) ∧
  ∀ dx, H dx = none → dx ≠ a → Q .non (upd (upd (upd H dx (exd dx [(f, v)])) a (exo a C (some dx))) dx (exd dx [(g, u), (f, v)]))
theorem Same.upd {H : Hp} {p : Addr} {o : HO} (h : H p = none) : Same H (L2.upd H p o) := fun b u e => by
  rw [upd_ne (ne_of_none e h)]
  exact e
theorem mk1 {K : PySem.W.Frag} {C : Addr} {f : Str} {v : V} {H : Hp} {Q : V → Hp → Prop} (h : ∀ a d H', Same H H' → H' a = some (exo a C (some d)) → H' d = some (exd d [(f, v)]) → Q (.ref a) H') :
    [v].length ≤ 1000 ∧ ∀ a, H a = none → spI1 K C f (.ref a :: ([v] ++ [])) (upd H a (exo a C none)) (fun x H2 => x = .non ∧ Q (.ref a) H2) (fun _ _ _ => False) := by
  refine ⟨by show 1 ≤ 1000; decide, fun a ha => ⟨a, v, rfl, upd_same, fun d hd hne => ⟨rfl, h a d _ ?_ upd_same ?_⟩⟩⟩
  · have hd0 : H d = none := by rw [upd_ne hne] at hd; exact hd
    intro b o e
    rw [upd_ne (ne_of_none e ha), upd_ne (ne_of_none e hd0), upd_ne (ne_of_none e ha)]
    exact e
  · rw [upd_ne hne, upd_same]
theorem mk2 {K : PySem.W.Frag} {C : Addr} {f g : Str} {v u : V} {H : Hp} {Q : V → Hp → Prop} (h : ∀ a d H', Same H H' → H' a = some (exo a C (some d)) → H' d = some (exd d [(g, u), (f, v)]) → Q (.ref a) H') :
    [v, u].length ≤ 1000 ∧ ∀ a, H a = none → spI2 K C f g (.ref a :: ([v, u] ++ [])) (upd H a (exo a C none)) (fun x H2 => x = .non ∧ Q (.ref a) H2) (fun _ _ _ => False) := by
  refine ⟨by show 2 ≤ 1000; decide, fun a ha => ⟨a, v, u, rfl, upd_same, fun d hd hne => ⟨rfl, h a d _ ?_ ?_ upd_same⟩⟩⟩
  · have hd0 : H d = none := by rw [upd_ne hne] at hd; exact hd
    intro b o e
    rw [upd_ne (ne_of_none e hd0), upd_ne (ne_of_none e ha), upd_ne (ne_of_none e hd0), upd_ne (ne_of_none e ha)]
    exact e
  · rw [upd_ne (Ne.symm hne), upd_same]
/-- a new object, the heap from then on a letter -/
theorem new1 {o : HO} {H : Hp} {Q : V → Hp → Prop} (h : ∀ p H', Same H H' → H' p = some o → Q (.ref p) H') : ∀ p, H p = none → Q (.ref p) (upd H p o) := fun p hp => h p _ (Same.upd hp) upd_same
/-- exceptions that stand: their classes and fields -/
def AllX (H : Hp) (cs : List (Addr × List (Str × V))) (as : List (Addr × Addr)) : Prop := Paired (fun (c : Addr × List (Str × V)) (x : Addr × Addr) => H x.1 = some (exo x.1 c.1 (some x.2)) ∧ H x.2 = some (exd x.2 c.2)) cs as
theorem AllX.mono {H H' : Hp} (s : Same H H') : ∀ {cs : List (Addr × List (Str × V))} {as : List (Addr × Addr)}, AllX H cs as → AllX H' cs as
  | _, _, .nil => .nil
  | _, _, .cons h t => .cons ⟨s _ _ h.1, s _ _ h.2⟩ (AllX.mono s t)
theorem AllX.snoc {H : Hp} {c : Addr × List (Str × V)} {a d : Addr} (h1 : H a = some (exo a c.1 (some d))) (h2 : H d = some (exd d c.2)) : ∀ {cs : List (Addr × List (Str × V))} {as : List (Addr × Addr)}, AllX H cs as → AllX H (cs ++ [c]) (as ++ [(a, d)])
  | _, _, .nil => .cons ⟨h1, h2⟩ .nil
  | _, _, .cons h t => .cons h (AllX.snoc h1 h2 t)
theorem rd_mk1 {K : PySem.W.Frag} {C : Addr} {f : Str} {σ : L2.St} {i : Nat} {v : V} {H : Hp} {Q : V → Hp → Prop} (hv : σ[i]? = some (some v)) (h : ∀ a d H', Same H H' → H' a = some (exo a C (some d)) → H' d = some (exd d [(f, v)]) → Q (.ref a) H') :
    tMkE C (spI1 K C f) [] (tCons (tVar i) tNil) σ H Q := ⟨v, hv, mk1 h⟩
theorem rd_mk2 {K : PySem.W.Frag} {C : Addr} {f g : Str} {σ : L2.St} {i : Nat} {v u : V} {H : Hp} {Q : V → Hp → Prop} (hv : σ[i]? = some (some v)) (h : ∀ a d H', Same H H' → H' a = some (exo a C (some d)) → H' d = some (exd d [(g, u), (f, v)]) → Q (.ref a) H') :
    tMkE C (spI2 K C f g) [] (tCons (tVar i) (tCons (tC u) tNil)) σ H Q := ⟨v, hv, mk2 h⟩
theorem rd_mk2' {K : PySem.W.Frag} {C : Addr} {f g : Str} {σ : L2.St} {i : Nat} {v u : V} {H : Hp} {Q : V → Hp → Prop} (hv : σ[i]? = some (some v)) (h : ∀ a d H', Same H H' → H' a = some (exo a C (some d)) → H' d = some (exd d [(g, v), (f, u)]) → Q (.ref a) H') :
    tMkE C (spI2 K C f g) [] (tCons (tC u) (tCons (tVar i) tNil)) σ H Q := ⟨v, hv, mk2 h⟩
theorem rd_lst {ta : TA} {σ : L2.St} {H : Hp} {Q : V → Hp → Prop} (h : ta σ H fun xs H1 => xs.length ≤ sizeLine ∧ ∀ p H', Same H1 H' → H' p = some (.lst xs) → Q (.ref p) H') (mono : ∀ σ H (R R' : List V → Hp → Prop), (∀ xs H1, R xs H1 → R' xs H1) → ta σ H R → ta σ H R') : tLst ta σ H Q :=
  mono _ _ _ _ (fun xs H1 z => ⟨z.1, new1 z.2⟩) h
/-! ### a reading opened by one combinator -/
section
variable {D : Ends} {σ : L2.St} {H : Hp} {Q : V → Hp → Prop} {QL : List V → Hp → Prop} {t u : TS} {te to' tb : TE} {ta tl : TA} {g : TG} {r : R2}
theorem rd_seq (h : t { D with nx := u D } σ H) : tSeq t u D σ H := h
theorem rd_asg (h : te σ H fun x H1 => g x σ H1 D.nx) : tAsg te g D σ H := h
theorem rd_ret (h : te σ H D.rt) : tRet te D σ H := h
theorem rd_disp (h : ta σ H fun xs H1 => xs.length ≤ sizeLine ∧ ∀ p, H1 p = none → Q (.ref p) (upd H1 p (.lst xs))) : tLst ta σ H Q := h
theorem rd_cons (h : te σ H fun x H1 => tl σ H1 fun xs H2 => QL (x :: xs) H2) : tCons te tl σ H QL := h
theorem rd_nil (h : QL [] H) : tNil σ H QL := h
theorem rd_op (h : te σ H fun x H1 => tb σ H1 fun y H2 => r x y H2 Q) : tOp r te tb σ H Q := h
theorem rd_var {i : Nat} {v : V} (hv : σ[i]? = some (some v)) (h : Q v H) : tVar i σ H Q := ⟨v, hv, h⟩
theorem rd_c {v : V} (h : Q v H) : tC v σ H Q := h
end
section
variable {D : Ends} {σ : L2.St} {H : Hp} {Q : V → Hp → Prop} {QB : Bool → Hp → Prop} {te : TE} {ta : TA} {tc : TT} {t u : TS} {r : List V → Hp → VK → Prop} {K : PySem.W.Frag} {f : Str}
theorem rd_if (h : tc σ H fun b H1 => if b = true then t D σ H1 else u D σ H1) : tIfS tc t u D σ H := h
theorem rd_test (h : te σ H fun x H' => ∃ k, x = .bl k ∧ QB k H') : tTest te σ H QB := h
theorem rd_cb (h : ta σ H fun vs H1 => r vs H1 Q) : tCB r ta σ H Q := h
theorem rd_ef (h : te σ H fun x H1 => ∃ (a C dx : Addr) (fs : List (Str × V)) (v : V), x = .ref a ∧ EcC K C ∧ PySem.W.findIn K (.ref C) f = some none ∧ H1 a = some (exo a C (some dx)) ∧ H1 dx = some (exd dx fs) ∧ fs.lookup f = some v ∧ Q v H1) : tEf K f te σ H Q := h
end
end EX
set_option Elab.async false
set_option linter.all false
set_option maxRecDepth 100000
set_option maxHeartbeats 4000000
namespace EX
open PySem L2 PySem.Spec PyProof.Rows
/-! ### raising an own exception (below Exception) whose __init__ is walked -/
/-- what stands of an own exception class of one field f -/
structure XrAt (P : Program) (w : World) (K : PySem.W.Frag) (mg : Str → Option Value) (base : Heap) (x f : Str) (C : Addr) : Prop where
  T : EcC K C
  m : mg x = some (.ref C)
  tC : PySem.W.typeIn K (.ref C) = some (.type "type")
  no : PySem.W.findIn K (.ref C) f = some none
  ex : ∃ (fI : Addr) (fd : FuncData), PySem.W.findIn K (.ref C) "__init__" = some (some (.ref fI)) ∧ PySem.W.typeIn K (.ref fI) = some (.type "function") ∧ FnOk P w K mg base CX0 1 fI fd [("self" : Str), f] (spI1 K C f) ∧ Binds K fd [("self" : Str), f] []
/-- C(e), to be raised: its dict d is new and holds the field -/
def tMkR (C : Addr) (f : Str) (te : TE) : L2.St → Hp → XK → Prop := fun σ H Q => te σ H fun v H1 => ∀ d H', Same H1 H' → H1 d = none → H' d = some (.xd [(f, v)]) → Q (.ref C) (some d) H'
def one1 (R : V → Hp → Prop) : List V → Hp → Prop := fun vs H => match vs with
  | [v] => R v H
  | _ => False
section
variable {X : Cx} {e : Expr} {te : TE} {p pos kp : Pos} {x f : Str} {C : Addr} {W : WX}
theorem pmk_ec (D : XrAt X.prog X.w X.K X.mg X.base x f C) (hr : Room 2 X.A) (hg : Gl X x) (he : PE X e te)
    (hdb : (x == ("__debug__" : Str)) = false := by decide) (hse : starEach [e] X.env = (false, eval e X.env) :: starEach [] X.env := by rfl) (hpl : (backTo pos (starEach [] X.env)).any (·.1) = false := by rfl) :
    PMk X (.Call (.Name x p) [e] [] pos) (tMkR C f te) := by
  intro pins s σ H Q I h
  obtain ⟨fI, fd, iC, tI, F1, hb⟩ := D.ex
  have ha : PA X [e] (tCons te tNil) := pa_cons he pa_nil hse
  refine wpAny_Call_Name_kw (ld_glob I hg D.m (PySem.W.callWith_K (h₀ := X.base) I.ok.mod.kin D.T.kC (thn (ha.run pos pins s σ H (one1 fun v H1 => ∀ d H', Same H1 H' → H1 d = none → H' d = some (.xd [(f, v)]) → Q (.ref C) (some d) H') I h) ?_) hse hpl) hdb)
  intro us s1 ⟨vs, H1, I1, r1, q1⟩
  refine ⟨I1.kIn, (?_ : wpAny _ _ (call (.ref C) us) _ _ _)⟩
  obtain ⟨v, rfl⟩ : ∃ v, vs = [v] := by
    match vs, q1 with
    | [v], _ => exact ⟨v, rfl⟩
  replace q1 : ∀ d H', Same H1 H' → H1 d = none → H' d = some (.xd [(f, v)]) → Q (.ref C) (some d) H' := q1
  obtain ⟨u, rfl, ru⟩ := vals1 r1
  obtain ⟨nm, N', qn, bs, bm, hdct, sn, sub, ab, col, dd, k0, k1, k2, k3, k5, hC, hT⟩ := PySem.W.excInit_of I1.kIn D.T.ini
  obtain ⟨hp, g, dr, tk, os⟩ := s1
  have le1 : hp.objs.size ≤ hp.objs.size + 1 := Nat.le_succ _
  have new : H1 (hp.objs.size + 1) = none := I1.hok.fresh le1
  have grow : ∀ b o, hp.get? b = some o → ((hp.push (PySem.W.kdv_tup [u])).push (PySem.HandSPX.excO C hp.objs.size)).get? b = some o := fun b o z => Heap.get?_push_of_some _ (Heap.get?_push_of_some _ z)
  have there : ((hp.push (PySem.W.kdv_tup [u])).push (PySem.HandSPX.excO C hp.objs.size)).get? (hp.objs.size + 1) = some (PySem.HandSPX.excO C hp.objs.size) := by heap_get
  have I2 := I1.laid (t' := tk) (a := hp.objs.size + 1) (o := exo (hp.objs.size + 1) C none) (h' := (hp.push (PySem.W.kdv_tup [u])).push (PySem.HandSPX.excO C hp.objs.size)) grow le1 (exo_ok there)
  have r2 : Vals [V.ref (hp.objs.size + 1), v] [Value.ref (hp.objs.size + 1), u] := .cons rfl (.cons ru .nil)
  have hsp : spI1 X.K C f [V.ref (hp.objs.size + 1), v] (upd H1 (hp.objs.size + 1) (exo (hp.objs.size + 1) C none)) (fun w H2 => w = .non ∧ ∃ (d : Addr) (fs : List (Str × V)), H2 (hp.objs.size + 1) = some (exo (hp.objs.size + 1) C (some d)) ∧ H2 d = some (exd d fs) ∧ H1 d = none ∧ Q (.ref C) (some d) (upd (del H2 (hp.objs.size + 1)) d (.xd fs))) (fun _ _ _ => False) := by
    refine ⟨_, v, rfl, upd_same, fun d hd hne => ⟨rfl, d, [(f, v)], upd_same, ?_, ?_, ?_⟩⟩
    · rw [upd_ne hne, upd_same]
    · rw [upd_ne hne] at hd
      exact hd
    · rw [upd_ne hne] at hd
      refine q1 d _ (fun b o z => ?_) hd upd_same
      have nb : b ≠ hp.objs.size + 1 := ne_of_none z new
      rw [upd_ne (ne_of_none z hd), del_ne nb, upd_ne nb, upd_ne (ne_of_none z hd), upd_ne nb]
      exact z
  have hbt : BindsTo _ fd ⟨[Value.ref (hp.objs.size + 1), u], []⟩ ([("self" : Str), f].zip [Value.ref (hp.objs.size + 1), u]) := hb _ [Value.ref (hp.objs.size + 1), u] I2.kIn rfl
  refine wpAny_call (PySem.HandSPX.call_own PySem.F.excBase_Exception hT hC (PySem.W.looks_findIn I1.kIn iC) (fun self => PySem.W.bind_fn I1.kIn self tI) (by rw [sizeLine_eq]; show 1 ≤ _; omega) (codeAny_mono
    (F1.run _ X.stack _ _ ⟨[Value.ref (hp.objs.size + 1), u], []⟩ [Value.ref (hp.objs.size + 1), u] _ _ (fun _ _ _ => False) (hr.make C [u] []) (I2.env0.make C [u] []) hbt r2 hsp) ?_))
  rintro (er | fl) s' hq'
  · exact False.elim hq'
  · cases fl with
    | ret uu =>
      obtain ⟨w, H2, os2, bare2, un2, hok2, rv, ev, d, fs, ea, ed, hd1, q2⟩ := hq'
      subst ev
      obtain ⟨h2, g2, d2, t2, os'⟩ := s'
      exact ⟨rv, mk_end (raises_own D.T.exC D.tC) I1 le1 grow un2 hok2 os2 bare2 ea ed hd1 q2⟩
    | next => exact False.elim hq'
    | brk => exact False.elim hq'
    | cont => exact False.elim hq'
/-- raise C(e) -/
def tRaE (C : Addr) (f : Str) (te : TE) (W : WX) : TS := fun _ σ H => tMkR C f te σ H fun cls d H' => W cls d σ H'
theorem ps_raiseE (D : XrAt X.prog X.w X.K X.mg X.base x f C) (hr : Room 2 X.A) (hc : X.calm = true) (tk : Takes X W) (he : PE X e te) (hg : Gl X x := by rfl) (hdb : (x == ("__debug__" : Str)) = false := by decide)
    (hse : starEach [e] X.env = (false, eval e X.env) :: starEach [] X.env := by rfl) : PS X (.Raise (some (.Call (.Name x p) [e] [] pos)) none kp) (tRaE C f te W) := ps_raise hc tk (pmk_ec D hr hg he hdb hse (by rfl))
end

/-! ### except clauses, with and without names -/
/-- what a clause does: the class, the slot of its name, its suite -/
structure Cls1 where
  c : Value
  i : Option Nat
  ts : Addr → Value → Option Addr → TS
def slotIn (σ : L2.St) (i : Option Nat) (v : Option V) : L2.St := match i with
  | some j => σ.set j v
  | none => σ
def endsOut (D : Ends) (i : Option Nat) : Ends := { nx := fun σ' H' => D.nx (slotIn σ' i none) H', rt := D.rt, bk := fun σ' H' => D.bk (slotIn σ' i none) H', ct := fun σ' H' => D.ct (slotIn σ' i none) H' }
def wCls (K : PySem.W.Frag) (Wout : WX) (D : Ends) : List Cls1 → WX
  | [] => Wout
  | q :: r => fun cls d σ H => ∃ b, PySem.W.exmOne K cls q.c = some b ∧ (b = true → ∀ a, H a = none → q.ts a cls d (endsOut D q.i) (slotIn σ q.i (some (.ref a))) H) ∧ (b = false → wCls K Wout D r cls d σ H)
inductive ClsOk (X : Cx) : List ExceptHandler → List Cls1 → Prop
  | nil : ClsOk X [] []
  | bare {x : Str} {c : Value} {ts : Addr → Value → Option Addr → TS} {b₀ : Stmt} {suite : List Stmt} {np pos' : Pos} {hds : List ExceptHandler} {l : List Cls1} (hc : Names X x c)
      (hsu : ∀ (a : Addr) (oe : Obj) (cls : Value) (d : Option Addr) (pn : List (Addr × Obj)), Zc cls d oe → (∃ vs, oe.data = .fields vs) → PSs (X.suite a ((a, oe) :: pn)) (b₀ :: suite) (ts a cls d)) (r : ClsOk X hds l) :
      ClsOk X (.ExceptHandler (some (.Name x np)) none (b₀ :: suite) pos' :: hds) (⟨c, none, ts⟩ :: l)
  | as {x n : Str} {i : Nat} {c : Value} {ts : Addr → Value → Option Addr → TS} {b₀ : Stmt} {suite : List Stmt} {np pos' : Pos} {hds : List ExceptHandler} {l : List Cls1} (hc : Names X x c) (hi : X.N[i]? = some n) (hln : X.env.kindOf n = some .local)
      (hsu : ∀ (a : Addr) (oe : Obj) (cls : Value) (d : Option Addr) (pn : List (Addr × Obj)), Zc cls d oe → (∃ vs, oe.data = .fields vs) → PSs (X.suite a ((a, oe) :: pn)) (b₀ :: suite) (ts a cls d)) (r : ClsOk X hds l) :
      ClsOk X (.ExceptHandler (some (.Name x np)) (some n) (b₀ :: suite) pos' :: hds) (⟨c, some i, ts⟩ :: l)
section
variable {X : Cx} {body : List Stmt} {h₀ : ExceptHandler} {hds : List ExceptHandler} {l : List Cls1} {pos : Pos} {tb : WX → TS} {Wout : WX}
theorem ps_try_cls (hs : X.stack = X.env :: X.outer) (hf : X.env.frame = some X.env.locals) (hN : X.N.Nodup) (tk : Takes X Wout)
    (hb : ∀ (W : WX) (pn : List (Addr × Obj)) (xe : Value → Shared → Prop), Takes (X.tr pn xe) W → PassesOwn (model X.prog X.w) X.A X.env xe → PSs (X.tr pn xe) body (tb W))
    (hh : ClsOk X (h₀ :: hds) l) : PS X (.Try body (h₀ :: hds) [] [] pos) (fun D σ H => tb (wCls X.K Wout D l) D σ H) := by
  refine ⟨fun pins s σ H D I h => ?_⟩
  have ok := I.ok
  have hfr : X.A.frames = some (X.env :: X.outer) := by rw [ok.frames, hs]
  refine wpAny_Try_except (wpAny_mono ((hb (wCls X.K Wout D l) (X.pn ++ pins) (fun e s₁ => wpAny (model X.prog X.w) X.A (noteFrame e X.env) (fun _ s₂ => wpAny (model X.prog X.w) X.A (setFlight e none) (fun _ s₃ =>
    wpAny (model X.prog X.w) X.A (handleBy e X.env (h₀ :: hds)) (SP X pins D) X.xe s₃) X.xe s₂) X.xe s₁) (fun u s' xx => ?_) PassesOwn.looking).run [] s σ H D (I.toTry _) h) (fun f s1 hsp => ?_) (fun e s1 he => he))
  · -- it is caught here: the frame is noted, then the clauses are tried
    obtain ⟨a, B, sI, pins', σ', H', cls, d, rfl, J', nb, up, sky, na, os, ag, w⟩ := xx
    have J : Inv X pins σ' H' sI := J'.ofTry ok
    rw [show (X.tr (X.pn ++ pins) _).stack = X.env :: X.outer from hs] at sky
    refine Sky.land Zc.steady hfr hf sky fun h3 fl3 up3 => ?_
    have J3 : Inv X pins σ' H' { s' with heap := h3 } := J.landed nb fl3.1 (up.trans up3) os ag
    obtain ⟨oe3, vs3, he3, hz3, hd3⟩ := fl3.there
    have nfr : a ∉ frs (X.env :: X.outer) := fun hm => by
      obtain ⟨_, o', e', hnf⟩ := fl3.2.2.1.mem hm
      rw [he3] at e'
      cases e'
      exact hnf _ hd3
    have nL : a ≠ X.env.locals := fun z => nfr (List.mem_filterMap.mpr ⟨X.env, List.mem_cons_self, by rw [hf, z]⟩)
    have nF : a ∉ X.fs := fun hm => by
      obtain ⟨ev, hev, q⟩ := List.mem_filterMap.mp hm
      exact nfr (List.mem_filterMap.mpr ⟨ev, List.mem_cons_of_mem _ hev, q⟩)
    have S3 := J3.suite he3 hd3 na nL nF
    have LT : PySem.W.Looks (model X.prog X.w) h3 (typeOf (.ref a)) cls := fun A Q E s k q => wpAny_typeOf_ref (k _ _ he3) (by rw [hz3.1]; exact q)
    have test : ∀ {x : Str} {c : Value} {np : Pos} {Q : Value → Shared → Prop} {E : Value → Shared → Prop}, Names X x c → Q c { s' with heap := h3 } → wpAny (model X.prog X.w) (X.A.mark (some (.ref a))) (eval (.Name x np) X.env) Q E { s' with heap := h3 } := by
      intro x c np Q E hc q
      obtain ⟨hg, hdbg, hm | ⟨hm, hv, hnn⟩⟩ := hc
      · exact ld_glob (X := X.suite a ((a, oe3) :: (X.pn ++ pins))) S3 hg hm q hdbg
      · exact ld_blt (X := X.suite a ((a, oe3) :: (X.pn ++ pins))) S3 hg hm hv q hnn hdbg
    -- no clause takes it: it flies on
    have out : Wout cls d σ' H' → wpAny (model X.prog X.w) X.A (handleBy (.ref a) X.env []) (SP X pins D) X.xe { s' with heap := h3 } := by
      intro w
      refine wpAny_handleBy_nil ?_
      obtain ⟨k1, k2, k3, oe, vs, T, oT, ts', he, hz, hd, h1, hr⟩ := id fl3
      unfold PySem.passOn
      refine wpAny_bind (wpAny_field he hd h1 ?_)
      rw [if_neg (show ¬ ((Value.ref T == Value.none) = true) from by simp)]
      have fin : wpAny (model X.prog X.w) X.A (setFlight (.ref a) X.env.frame) (fun _ s4 => wpAny (model X.prog X.w) X.A (throw (.ref a) : Sem Flow) (SP X pins D) X.xe s4) X.xe { s' with heap := h3 } := by
        rw [hf]
        exact HandSPX.setFlight_upZ fl3 fun h4 hh4 up4 => wpAny_throw (tk _ _ ⟨a, B, sI, pins, σ', H', cls, d, rfl, J, nb, (up.trans up3).trans up4, .inr (.inr (by rw [hs]; exact hh4)), na, os, ag, w⟩)
      first
        | exact wpAny_bind (wpAny_pure (wpAny_bind fin))
        | exact wpAny_bind fin
    have go : ∀ {hds' : List ExceptHandler} {l' : List Cls1}, ClsOk X hds' l' → wCls X.K Wout D l' cls d σ' H' → wpAny (model X.prog X.w) X.A (handleBy (.ref a) X.env hds') (SP X pins D) X.xe { s' with heap := h3 } := by
      intro hds' l' hk
      induction hk with
      | nil => exact out
      | @bare x c ts b₀ suite np pos' hds2 l2 hc hsu r ih =>
        intro w
        obtain ⟨b, hb1, hyes, hno⟩ := w
        refine wpAny_handleBy_cons (codeAny_handlers_test (test hc ((PySem.W.exm_one (M := model X.prog X.w) (J3.kIn) LT hb1).here ?_))) (by intro q; cases q)
        cases b with
        | false => exact ih (hno rfl)
        | true =>
          refine codeAny_handlers_suite (HandSPX.lands_againZ fl3 fun h4 fl4 up4 => ?_)
          have J4 : Inv X pins σ' H' { s' with heap := h4 } := J.landed nb fl4.1 ((up.trans up3).trans up4) os ag
          obtain ⟨oe4, vs4, he4, hz4, hd4⟩ := fl4.there
          refine wpAny_mono ((hsu a oe4 cls d (X.pn ++ pins) hz4 ⟨_, hd4⟩).run [] _ _ H' _ (J4.suite he4 hd4 na nL nF) (hyes rfl a na)) (fun f s6 hsp => ?_) (fun _ _ z => False.elim z)
          cases f with
          | ret u =>
            obtain ⟨v6, σ6, H6, S6, r6, q6⟩ := hsp
            exact ⟨_, _, _, S6.unsuite ok, r6, q6⟩
          | next => exact let ⟨σ6, H6, S6, q6⟩ := hsp; ⟨_, _, S6.unsuite ok, q6⟩
          | brk => exact let ⟨σ6, H6, S6, q6⟩ := hsp; ⟨_, _, S6.unsuite ok, q6⟩
          | cont => exact let ⟨σ6, H6, S6, q6⟩ := hsp; ⟨_, _, S6.unsuite ok, q6⟩
      | @as x n i c ts b₀ suite np pos' hds2 l2 hc hi hln hsu r ih =>
        intro w
        obtain ⟨b, hb1, hyes, hno⟩ := w
        refine wpAny_handleBy_cons (codeAny_handlers_test (test hc ((PySem.W.exm_one (M := model X.prog X.w) (J3.kIn) LT hb1).here ?_))) (by intro q; cases q)
        cases b with
        | false => exact ih (hno rfl)
        | true =>
          refine codeAny_handlers_suite_as (HandSPX.lands_againZ fl3 fun h4 fl4 up4 => ?_)
          have J4 : Inv X pins σ' H' { s' with heap := h4 } := J.landed nb fl4.1 ((up.trans up3).trans up4) os ag
          obtain ⟨oe4, vs4, he4, hz4, hd4⟩ := fl4.there
          have S4 := J4.suite he4 hd4 na nL nF
          refine store_ok (X := X.suite a ((a, oe4) :: (X.pn ++ pins))) (v := .ref a) S4 hN hi (.inl hln) rfl (fun s5 S5 => ?_) (.inr hln)
          refine wpAny_mono ((hsu a oe4 cls d (X.pn ++ pins) hz4 ⟨_, hd4⟩).run [] s5 _ H' _ S5 (hyes rfl a na)) (fun f s6 hsp => ?_) (fun _ _ z => False.elim z)
          have last : ∀ {σ6 : L2.St} {H6 : Hp} {Q : Shared → Prop}, Inv (X.suite a ((a, oe4) :: (X.pn ++ pins))) [] σ6 H6 s6 → (∀ s7, Inv X pins (σ6.set i none) H6 s7 → Q s7) →
              wpAny (model X.prog X.w) X.A (do bindName X.env n .none; unbindBehindTheSuite X.env n pos') (fun _ s7 => Q s7) X.xe s6 := fun S6 hq => gone_ok (S6.unsuite ok) hN hi hln hq
          cases f with
          | ret u =>
            obtain ⟨v6, σ6, H6, S6, r6, q6⟩ := hsp
            exact last S6 fun s7 J7 => ⟨_, _, _, J7, r6, q6⟩
          | next => exact let ⟨σ6, H6, S6, q6⟩ := hsp; last S6 fun s7 J7 => ⟨_, _, J7, q6⟩
          | brk => exact let ⟨σ6, H6, S6, q6⟩ := hsp; last S6 fun s7 J7 => ⟨_, _, J7, q6⟩
          | cont => exact let ⟨σ6, H6, S6, q6⟩ := hsp; last S6 fun s7 J7 => ⟨_, _, J7, q6⟩
    exact go hh w
  · cases f with
    | ret u => exact let ⟨v, σ', H', J', r, q⟩ := hsp; ⟨v, σ', H', J'.ofTry ok, r, q⟩
    | next => exact let ⟨σ', H', J', q⟩ := hsp; wpAny_execs_nil ⟨σ', H', J'.ofTry ok, q⟩
    | brk => exact let ⟨σ', H', J', q⟩ := hsp; ⟨σ', H', J'.ofTry ok, q⟩
    | cont => exact let ⟨σ', H', J', q⟩ := hsp; ⟨σ', H', J'.ofTry ok, q⟩
end
/-! ### in a suite: the caught error's field, isinstance of it -/
theorem EcC.xf {K : PySem.W.Frag} {C : Addr} (T : EcC K C) : XfC K C := ⟨T.ga, T.gg, T.exC, T.hdC⟩
/-- isinstance(e, c), e caught -/
def rIsS (K : PySem.W.Frag) (a : Addr) (cls : Value) : List V → Hp → VK → Prop := fun xs H Q => ∃ (C dd : Addr) (fs : List (Str × V)) (c : V) (cv : Value) (b : Bool), xs = [.ref a, c] ∧ cls = .ref C ∧ EcC K C ∧ H dd = some (.xd fs) ∧ ClsV c cv ∧ PySem.W.kitOne K (.ref C) cv = some b ∧ Q (.bl b) H
theorem call_isS {X : Cx} {a dd : Addr} {cls : Value} {oe : Obj} {pn : List (Addr × Obj)} (hz : Zc cls (some dd) oe) (hf : ∃ vs, oe.data = .fields vs) :
    CallR (X.suite a ((a, oe) :: pn)) (.builtin "isinstance") (fun xs H Q => ∃ (C : Addr) (fs : List (Str × V)) (c : V) (cv : Value) (b : Bool), xs = [.ref a, c] ∧ cls = .ref C ∧ EcC X.K C ∧ H dd = some (.xd fs) ∧ ClsV c cv ∧ PySem.W.kitOne X.K (.ref C) cv = some b ∧ Q (.bl b) H) := by
  intro pins s σ H xs us Q I r h
  obtain ⟨C, fs, c, cv, b, rfl, rfl, T, ed, kc, e, q⟩ := h
  obtain ⟨u1, u2, rfl, r1, r2⟩ := vals2 r
  obtain rfl := kc.eq r2
  obtain rfl : u1 = Value.ref a := r1
  obtain ⟨ha, _⟩ := I.pin (a, oe) (List.mem_append_left _ List.mem_cons_self)
  obtain ⟨vs, hd⟩ := hf
  obtain ⟨mA, hns, hr⟩ := (show ObjOk X.prog X.w H s.heap dd (.xd fs) from I.hok dd _ ed)
  obtain ⟨od, ho, hl⟩ := lookIn_ns hns
  have J : PySem.W.InstAt s.heap a oe C (some od) := ⟨ha, hz.1, by unfold PySem.W.notCls; rw [hd] <;> rfl, by rw [hz.2]; exact ho⟩
  exact PySem.W.kia_one (kit_exc T (od := some od)) I.kIn J e (fun z => nomatch z) fun tk => ⟨.bl b, H, I.tok tk, rfl, q⟩
end EX
set_option Elab.async false
set_option linter.all false
set_option maxRecDepth 100000
set_option maxHeartbeats 4000000
namespace EX
open PySem L2 PySem.Spec PyProof.Rows
/-! ### operators of own classes -/
/-- the class at C has the method nm, whose def keeps sp -/
structure Dun (P : Program) (w : World) (K : PySem.W.Frag) (mg : Str → Option Value) (base : Heap) (CX : CXT) (k : Nat) (C : Addr) (nm : Str) (ps : List Str) (sp : Sp) : Prop where
  ex : ∃ (f : Addr) (fd : FuncData), PySem.W.findIn K (.ref C) nm = some (some (.ref f)) ∧ PySem.W.isFn K (.ref f) = true ∧ PySem.W.fnIn K f = true ∧ FnOk P w K mg base CX k f fd ps sp ∧ Binds K fd ps []
section
variable {X : Cx} {CX : CXT} {k : Nat} {C : Addr} {nm : Str} {ps : List Str} {sp : Sp} {E : XK} {pins : List (Addr × Obj)} {σ : L2.St} {H : Hp} {s : Shared}
theorem vref (a : Addr) : RelV (.ref a) (.ref a) := rfl
/-- a def run at A, which stands at the frames of X -/
theorem run_in {A : Around} {f : Addr} {fd : FuncData} {Q : VK} {us : List Value} {vs : List V} (F : FnOk X.prog X.w X.K X.mg X.base CX k f fd ps sp) (hr : Room k A) (e0 : Env0 X.prog X.w X.K X.mg X.base A X.stack s H) (hb : Binds X.K fd ps []) (hx : Passes CX X E)
    (I : Inv X pins σ H s) (r : Vals vs us) (h : sp vs H Q E) : wpAny (model X.prog X.w) A (call (.ref f) us) (EP X pins σ Q) X.xe s := by
  have hl : us.length = ps.length := by rw [← r.length]; exact F.len _ _ _ _ h
  have b : BindsTo s fd ⟨us, []⟩ (ps.zip us) := by
    have := hb s us I.kIn (by rw [List.append_nil]; exact hl)
    rwa [List.append_nil] at this
  refine wpAny_call (codeAny_mono (F.run A X.stack s H ⟨us, []⟩ us vs Q E hr e0 b r h) ?_)
  rintro (e | fl) s' hq
  · exact hx pins σ H s e s' I hq
  · cases fl with
    | ret u => exact I.after hq
    | next => exact False.elim hq
    | brk => exact False.elim hq
    | cont => exact False.elim hq
theorem inst_at {a dx : Addr} {fs : List (Str × V)} (I : Inv X pins σ H s) (e : H a = some (.ins C dx fs)) : ∃ od, PySem.W.InstAt s.heap a (PySem.W.instObj C dx) C (some od) := by
  obtain ⟨mA, O, _⟩ := ins_get I.hok e
  obtain ⟨od, J, _⟩ := O.look
  exact ⟨od, J⟩
/-- o[i] -/
def tGetO (C : Addr) (sp : Sp) (E : XK) (to ti : TE) : TE := fun σ H Q => to σ H fun x H1 => ti σ H1 fun y H2 => ∃ a dx fs, x = .ref a ∧ H2 a = some (.ins C dx fs) ∧ sp [.ref a, y] H2 Q E
theorem pe_getO {o i : Expr} {to ti : TE} {pos : Pos} (D : Dun X.prog X.w X.K X.mg X.base CX k C "__getitem__" ps sp) (hr : Room (k + 1) X.A) (hx : Passes CX X E) (ho : PE X o to) (hi : PE X i ti)
    (hsl : ∀ x y, subscripted i true x y = runValue (.builtin "lifetime.subscript" ⟨[x, y], []⟩) := by intro _ _; with_unfolding_all rfl) : PE X (.Subscript o i pos) (tGetO C sp E to ti) := by
  refine ⟨fun pins s σ H Q I h => Subscript_ (binT ho hi I h ?_)⟩
  intro v u s2 x y H2 I2 rx ry ⟨a, dx, fs, ex, ea, q⟩
  subst ex
  obtain rfl : v = Value.ref a := rx
  obtain ⟨f, fd, at_, hf, hfi, F, hb⟩ := D.ex
  obtain ⟨od, J⟩ := inst_at I2 ea
  obtain ⟨m, hF⟩ := I2.fr
  exact PySem.W.sub_K hF I2.ok.mod.kin J at_ hfi hf (run_in F hr.in1 I2.env0.in1 hb hx I2 (.cons (vref a) (.cons ry .nil)) q) (hsl _ _)
/-- k in o, k not in o; the method hands back a bool -/
def rInO (C : Addr) (sp : Sp) (E : XK) (neg : Bool) : R2 := fun y x H Q => ∃ a dx fs, x = .ref a ∧ H a = some (.ins C dx fs) ∧ sp [.ref a, y] H (fun z H' => ∃ b, z = .bl b ∧ Q (.bl (if neg then !b else b)) H') E
theorem op_inO (D : Dun X.prog X.w X.K X.mg X.base CX k C "__contains__" ps sp) (hr : Room k X.A) (hx : Passes CX X E) : OpR X (compareOp .In) (rInO C sp E false) := by
  intro pins s σ H y x u v Q I ry rx h
  obtain ⟨a, dx, fs, ex, ea, q⟩ := h
  subst ex
  obtain rfl : v = Value.ref a := rx
  obtain ⟨f, fd, at_, hf, hfi, F, hb⟩ := D.ex
  obtain ⟨od, J⟩ := inst_at I ea
  obtain ⟨m, hF⟩ := I.fr
  refine PySem.W.in_K hF I.ok.mod.kin J at_ hf (thn (run_in F hr I.env0 hb hx I (.cons (vref a) (.cons ry .nil)) q) ?_)
  rintro r s1 ⟨z, H1, I1, rz, b, rfl, q1⟩
  obtain rfl : r = Value.bool b := rz
  exact wpAny_truthy_bool ⟨.bl b, H1, I1, rfl, q1⟩
theorem op_notInO (D : Dun X.prog X.w X.K X.mg X.base CX k C "__contains__" ps sp) (hr : Room k X.A) (hx : Passes CX X E) : OpR X (compareOp .NotIn) (rInO C sp E true) := by
  intro pins s σ H y x u v Q I ry rx h
  obtain ⟨a, dx, fs, ex, ea, q⟩ := h
  subst ex
  obtain rfl : v = Value.ref a := rx
  obtain ⟨f, fd, at_, hf, hfi, F, hb⟩ := D.ex
  obtain ⟨od, J⟩ := inst_at I ea
  obtain ⟨m, hF⟩ := I.fr
  refine PySem.W.notIn_K hF I.ok.mod.kin J at_ hf (thn (run_in F hr I.env0 hb hx I (.cons (vref a) (.cons ry .nil)) q) ?_)
  rintro r s1 ⟨z, H1, I1, rz, b, rfl, q1⟩
  obtain rfl : r = Value.bool b := rz
  exact wpAny_truthy_bool ⟨.bl (!b), H1, I1, rfl, q1⟩
/-- the type of any value, as the library looks at it -/
theorem tyx_looks {x : V} {u t : Value} (I : Inv X pins σ H s) (rx : RelV x u) (ty : TyX X.K H x t) : PySem.W.Looks (model X.prog X.w) s.heap (typeOf u) t := by
  obtain ⟨P, Z, p, _⟩ := kit_of I rx ty
  exact Z.ty _ _ I.kIn p
/-- x == y by x's own method; y anything whose type is not below x's class -/
def rEqO (K : PySem.W.Frag) (C : Addr) (sp : Sp) (E : XK) : R2 := fun x y H Q => ∃ a dx fs t, x = .ref a ∧ H a = some (.ins C dx fs) ∧ TyX K H y t ∧ PySem.W.notFirst K C t = true ∧ sp [.ref a, y] H Q E
theorem op_eqO (D : Dun X.prog X.w X.K X.mg X.base CX k C "__eq__" ps sp) (hr : Room k X.A) (hx : Passes CX X E) : OpR X (compareOp .Eq) (rEqO X.K C sp E) := by
  intro pins s σ H x y v u Q I rx ry h
  obtain ⟨a, dx, fs, t, ex, ea, ty, hn, q⟩ := h
  subst ex
  obtain rfl : v = Value.ref a := rx
  obtain ⟨f, fd, at_, hf, hfi, F, hb⟩ := D.ex
  obtain ⟨od, J⟩ := inst_at I ea
  obtain ⟨m, hF⟩ := I.fr
  refine PySem.W.cmp_K (op := .Eq) hr.units0 hF I.ok.mod.kin J (tyx_looks I ry ty) hn at_ hf (wpAny_mono (run_in F hr I.env0 hb hx I (.cons (vref a) (.cons ry .nil)) q) ?_ fun _ _ z => z)
  rintro r s1 ⟨z, H1, I1, rz, q1⟩
  exact SlX.cmpback rz ⟨z, H1, I1, rz, q1⟩
/-- x != y where the class has its own == alone: the other answer -/
def rNeO (K : PySem.W.Frag) (C : Addr) (sp : Sp) (E : XK) : R2 := fun x y H Q => ∃ a dx fs t, x = .ref a ∧ H a = some (.ins C dx fs) ∧ TyX K H y t ∧ PySem.W.notFirst K C t = true ∧ sp [.ref a, y] H (fun z H' => ∃ b, z = .bl b ∧ Q (.bl (!b)) H') E
/-- what != asks of the class -/
structure NeC (K : PySem.W.Frag) (C : Addr) : Prop where
  ne : PySem.W.findIn K (.ref C) "__ne__" = some (some (.builtin "object.__ne__"))
  ob : PySem.W.mroIn K C (.type "object") = some true
theorem op_neO (D : Dun X.prog X.w X.K X.mg X.base CX k C "__eq__" ps sp) (N : NeC X.K C) (hr : Room (k + 1) X.A) (hx : Passes CX X E) : OpR X (compareOp .NotEq) (rNeO X.K C sp E) := by
  intro pins s σ H x y v u Q I rx ry h
  obtain ⟨a, dx, fs, t, ex, ea, ty, hn, q⟩ := h
  subst ex
  obtain rfl : v = Value.ref a := rx
  obtain ⟨f, fd, at_, hf, hfi, Fn, hb⟩ := D.ex
  obtain ⟨od, J⟩ := inst_at I ea
  have KX := I.kIn
  have LTy := tyx_looks I ry ty
  have call1 := run_in Fn hr.in1 I.env0.in1 hb hx I (.cons (vref a) (.cons ry .nil)) q
  have sub : PySem.W.Looks (model X.prog X.w) s.heap (isInstance (.ref a) (.type "object")) true := J.type.andThen (PySem.W.looks_mroIn KX N.ob)
  have entry : wpAny (model X.prog X.w) X.A.in1 (Builtin.«object.__ne__» ⟨[.ref a, u], []⟩) (fun fin s' => ∃ b, fin = .done (.ret (.bool b)) ∧ EP X pins σ Q (.bool b) s') X.xe s := by
    unfold Builtin.«object.__ne__»
    refine wpAny_bind (wpAny_of_eq (a := ((Value.ref a : Value), [u])) (by first | rfl | (simp only [slotArgs]; rfl)) ?_)
    refine wpAny_bind (wpAny_cRoomFor hr.in1.units0 ?_)
    refine wpAny_bind (PySem.W.ifBound_K KX J at_ hf (wpAny_mono call1 ?_ fun _ _ z => z))
    rintro r s1 ⟨z, H1, I1, rz, b, rfl, q1⟩
    obtain rfl : r = Value.bool b := rz
    exact wpAny_bind (wpAny_truthy_bool (wpAny_pure ⟨!b, rfl, .bl (!b), H1, I1, rfl, q1⟩))
  have one : wpAny (model X.prog X.w) X.A (tryCompare (.ref a) "__ne__" u) (fun r s' => ∃ b, r = some (.bool b) ∧ EP X pins σ Q (.bool b) s') X.xe s := by
    unfold tryCompare
    have bnd : wpAny (model X.prog X.w) X.A (call (.builtin "object.__ne__") [.ref a, u]) (fun r s' => ∃ b, r = .bool b ∧ EP X pins σ Q (.bool b) s') X.xe s := by
      refine wpAny_call (codeAny_call_builtin PySem.F.cmp_object.ne.plain PySem.F.cmpEntry_ne (PySem.W.check_slot PySem.F.cmpKind_ne PySem.F.cmpSplit_ne sub (PySem.F.cmpArgs_ne _ _) (wpAny_mono entry ?_ fun _ _ z => z)))
      rintro fin s1 ⟨b, rfl, e⟩
      exact ⟨b, rfl, e⟩
    refine wpAny_bind (m := callSpecialIfBound? (.ref a) "__ne__" [u]) ?_
    simp only [callSpecialIfBound?, bindSpecialIfBound?]
    refine wpAny_holding (wpAny_bind (wpAny_bind (wpAny_bind (J.type.here ((PySem.W.looks_findIn KX N.ne).here ?_)))))
    simp only [PySem.F.cmp_object.ne.bind]
    refine wpAny_bind (wpAny_askSetting (wpAny_ite ?_))
    have fin : wpAny (model X.prog X.w) X.A (call (.builtin "object.__ne__") ([.ref a] ++ [u]) >>= fun v => pure (some v)) (fun r s' => wpAny (model X.prog X.w) X.A (match r with | some .notImplemented | none => pure none | some v => pure (some v)) (fun r s' => ∃ b, r = some (.bool b) ∧ EP X pins σ Q (.bool b) s') X.xe s') X.xe s := by
      refine wpAny_bind (wpAny_mono bnd ?_ fun _ _ z => z)
      rintro r s1 ⟨b, rfl, e⟩
      exact wpAny_pure (wpAny_pure ⟨b, rfl, e⟩)
    split
    · first | exact fin | exact wpAny_pure (by exact fin) | exact wpAny_bind (wpAny_pure (by exact fin))
    · first | exact wpAny_tryCatch fin | exact wpAny_tryCatch (wpAny_pure (by exact fin)) | exact wpAny_tryCatch (wpAny_bind (wpAny_pure (by exact fin)))
  show wpAny _ _ (richCompare .NotEq (.ref a) u) _ _ _
  unfold richCompare
  simp only [oneThing_ref]
  refine wpAny_holding (wpAny_bind (wpAny_cRoomFor hr.units0 ?_))
  refine wpAny_bind (J.type.here (wpAny_bind (LTy.here ?_)))
  have tail : ∀ {R : Value → Shared → Prop}, (∀ b s', EP X pins σ Q (.bool b) s' → R (.bool b) s') → True := fun _ => trivial
  split
  · rename_i hne
    have e : PySem.W.subIn X.K t (.ref C) = some false := by
      rcases Bool.or_eq_true_iff.mp hn with e | e
      · rw [beq_iff_eq.mp e] at hne
        simp at hne
      · exact beq_iff_eq.mp e
    refine wpAny_bind ((PySem.W.looks_subIn KX e).here ?_)
    simp only [Bool.false_eq_true, if_false]
    refine wpAny_bind (wpAny_mono one ?_ fun _ _ z => z)
    rintro r s1 ⟨b, rfl, q1⟩
    exact wpAny_pure q1
  · refine wpAny_bind (wpAny_pure ?_)
    simp only [Bool.false_eq_true, if_false]
    refine wpAny_bind (wpAny_mono one ?_ fun _ _ z => z)
    rintro r s1 ⟨b, rfl, q1⟩
    exact wpAny_pure q1
/-- truth by an own __bool__ -/
theorem tru_own (D : Dun X.prog X.w X.K X.mg X.base CX k C "__bool__" ps sp) (hr : Room k X.A) (hx : Passes CX X E) : TruR X (fun x H Q => ∃ a dx fs, x = .ref a ∧ H a = some (.ins C dx fs) ∧ sp [.ref a] H (fun z H' => ∃ b, z = .bl b ∧ Q b H') E) := by
  intro pins s σ H x v Q I rx h
  obtain ⟨a, dx, fs, ex, ea, q⟩ := h
  subst ex
  obtain rfl : v = Value.ref a := rx
  obtain ⟨f, fd, at_, hf, hfi, F, hb⟩ := D.ex
  obtain ⟨od, J⟩ := inst_at I ea
  obtain ⟨m, hF⟩ := I.fr
  refine PySem.W.truthy_K hF I.ok.mod.kin J at_ hf (wpAny_mono (run_in F hr I.env0 hb hx I (.cons (vref a) .nil) q) ?_ fun _ _ z => z)
  rintro r s1 ⟨z, H1, I1, rz, b, rfl, q1⟩
  obtain rfl : r = Value.bool b := rz
  exact ⟨H1, I1, q1⟩
/-- len(o) -/
def rLenO (C : Addr) (sp : Sp) (E : XK) : List V → Hp → VK → Prop := fun xs H Q => ∃ a dx fs, xs = [.ref a] ∧ H a = some (.ins C dx fs) ∧ sp [.ref a] H (fun z H' => ∃ n : Int, z = .int n ∧ 0 ≤ n ∧ n < 2 ^ 63 ∧ Q (.int n) H') E
theorem call_lenO (D : Dun X.prog X.w X.K X.mg X.base CX k C "__len__" ps sp) (hr : Room (k + 1) X.A) (hx : Passes CX X E) : CallR X (.builtin "len") (rLenO C sp E) := by
  intro pins s σ H xs us Q I r h
  obtain ⟨a, dx, fs, rfl, ea, q⟩ := h
  obtain ⟨u, rfl, ru⟩ := vals1 r
  obtain rfl : u = Value.ref a := ru
  obtain ⟨f, fd, at_, hf, hfi, F, hb⟩ := D.ex
  obtain ⟨od, J⟩ := inst_at I ea
  obtain ⟨m, hF⟩ := I.fr
  refine PySem.W.len_K hF I.ok.mod.kin J at_ hf (wpAny_mono (run_in F hr.in1 I.env0.in1 hb hx I (.cons (vref a) .nil) q) ?_ fun _ _ z => z)
  rintro r s1 ⟨z, H1, I1, rz, n, rfl, h0, h1, q1⟩
  obtain ⟨t, rfl⟩ : ∃ t, r = Value.int n t := rz
  exact ⟨⟨h0, h1⟩, .int n, H1, I1.tok _, ⟨_, rfl⟩, q1⟩
/-- a test by truth, the rule given -/
theorem pt_tru {e : Expr} {te : TE} {r : V → Hp → (Bool → Hp → Prop) → Prop} (hr : TruR X r) (he : PE X e te) (hw : ∀ whole, isTrue e X.env whole = (do let v ← whole; standAt e.pos; holding [v] (truthy v)) := by intro _; rfl) : PT X e (fun σ H Q => te σ H fun x H' => r x H' Q) := by
  refine ⟨fun pins s σ H Q I h => isTrue_plain (thn (he.run pins s σ H _ I h) ?_) (hw _)⟩
  rintro v s1 ⟨x, H1, I1, r1, q1⟩
  exact hr pins s1 σ H1 x v Q I1 r1 q1
end
end EX
set_option Elab.async false
set_option linter.all false
set_option maxRecDepth 100000
set_option maxHeartbeats 4000000
namespace EX
open PySem L2 PySem.Spec PyProof.Rows
/-! ### data of any depth, dicts among them; repr -/
def keyD : Key → PyData
  | .inl i => .int i
  | .inr x => .str x
mutual
/-- the value v is the data d: lists, tuples, dicts (keys ints and texts) of such -/
inductive Dq (K : PySem.W.Frag) (H : Hp) : V → PyData → Prop
  | non : Dq K H .non .none
  | bl (b : Bool) : Dq K H (.bl b) (.bool b)
  | int (i : Int) : Dq K H (.int i) (.int i)
  | str (x : Str) : Dq K H (.str x) (.str x)
  | lst {a : Addr} {xs : List V} {ds : List PyData} : SqL K H a xs → DqAll K H xs ds → Dq K H (.ref a) (.list ds)
  | tup {a : Addr} {xs : List V} {ds : List PyData} : SqT K H a xs → DqAll K H xs ds → Dq K H (.ref a) (.tuple ds)
  | dic {a : Addr} {kvs : List (Key × V)} {ds : List PyData} : H a = some (.dK kvs) → DqAll K H (kvs.map (·.2)) ds → Dq K H (.ref a) (.dict ((kvs.map fun p => keyD p.1).zip ds))
inductive DqAll (K : PySem.W.Frag) (H : Hp) : List V → List PyData → Prop
  | nil : DqAll K H [] []
  | cons {v : V} {vs : List V} {d : PyData} {ds : List PyData} : Dq K H v d → DqAll K H vs ds → DqAll K H (v :: vs) (d :: ds)
end
theorem sqt_same {K : PySem.W.Frag} {H H' : Hp} {a : Addr} {xs : List V} (s : Same H H') (h : SqT K H a xs) : SqT K H' a xs :=
  h.elim (fun z => .inl (z.elim (fun z => .inl (s _ _ z)) fun ⟨o, z⟩ => .inr ⟨o, s _ _ z⟩)) .inr
mutual
theorem Dq.mono {K : PySem.W.Frag} {H H' : Hp} (s : Same H H') : ∀ {v : V} {d : PyData}, Dq K H v d → Dq K H' v d
  | _, _, .non => .non
  | _, _, .bl b => .bl b
  | _, _, .int i => .int i
  | _, _, .str x => .str x
  | _, _, .lst h a => .lst (s.seq h) (DqAll.mono s a)
  | _, _, .tup h a => .tup (sqt_same s h) (DqAll.mono s a)
  | _, _, .dic h a => .dic (s _ _ h) (DqAll.mono s a)
theorem DqAll.mono {K : PySem.W.Frag} {H H' : Hp} (s : Same H H') : ∀ {vs : List V} {ds : List PyData}, DqAll K H vs ds → DqAll K H' vs ds
  | _, _, .nil => .nil
  | _, _, .cons h t => .cons (Dq.mono s h) (DqAll.mono s t)
end
theorem DqAll.length {K : PySem.W.Frag} {H : Hp} : ∀ {vs : List V} {ds : List PyData}, DqAll K H vs ds → vs.length = ds.length
  | _, _, .nil => rfl
  | _, _, .cons _ t => congrArg (· + 1) (DqAll.length t)
section
variable {X : Cx} {pins : List (Addr × Obj)} {σ : L2.St} {H : Hp} {s : Shared}
theorem Dq.key {u : Value} {k : Key} (h : (mixKind X.prog X.w).is k u = true) : Reads s.heap u (keyD k) [] := by
  rcases keyIs_shape (show keyIs k u = true from h) with ⟨i, t, rfl, rfl⟩ | ⟨x, t, rfl, rfl⟩
  · exact Reads.int i t
  · exact Reads.str x t
theorem keys_read : ∀ {kvs : List (Key × V)} {vs : List (Key × Value)} {es : List DictEntry}, KV kvs vs → Pairs (mixKind X.prog X.w) es vs →
    ReadsAll s.heap (es.map (·.key)) (kvs.map fun p => keyD p.1) [] ∧ Vals (kvs.map (·.2)) (es.map (·.val))
  | _, _, _, .nil, .nil => ⟨ReadsAll.nil, .nil⟩
  | _, _, _, .cons hk t, .cons h1 h2 te => by
    obtain ⟨r1, r2⟩ := keys_read t te
    refine ⟨ReadsAll.cons (as := []) (Dq.key (by rw [hk.1]; exact h1)) r1, .cons ?_ r2⟩
    show L2.RelV _ (DictEntry.val _)
    rw [h2]
    exact hk.2
/-- the addresses that are read: none of them the table of modules -/
def AsOk (as : List Addr) : Prop := sysModules ∉ as
mutual
/-- where every list (not tuple) that stands in the data is known not to be the table of modules -/
inductive DqS (K : PySem.W.Frag) (H : Hp) : V → PyData → Prop
  | non : DqS K H .non .none
  | bl (b : Bool) : DqS K H (.bl b) (.bool b)
  | int (i : Int) : DqS K H (.int i) (.int i)
  | str (x : Str) : DqS K H (.str x) (.str x)
  | lst {a : Addr} {xs : List V} {ds : List PyData} : a ≠ sysModules → SqL K H a xs → DqSAll K H xs ds → DqS K H (.ref a) (.list ds)
  | tup {a : Addr} {xs : List V} {ds : List PyData} : SqT K H a xs → DqSAll K H xs ds → DqS K H (.ref a) (.tuple ds)
  | dic {a : Addr} {kvs : List (Key × V)} {ds : List PyData} : H a = some (.dK kvs) → DqSAll K H (kvs.map (·.2)) ds → DqS K H (.ref a) (.dict ((kvs.map fun p => keyD p.1).zip ds))
inductive DqSAll (K : PySem.W.Frag) (H : Hp) : List V → List PyData → Prop
  | nil : DqSAll K H [] []
  | cons {v : V} {vs : List V} {d : PyData} {ds : List PyData} : DqS K H v d → DqSAll K H vs ds → DqSAll K H (v :: vs) (d :: ds)
end
theorem DqSAll.length {K : PySem.W.Frag} {H : Hp} : ∀ {vs : List V} {ds : List PyData}, DqSAll K H vs ds → vs.length = ds.length
  | _, _, .nil => rfl
  | _, _, .cons _ t => congrArg (· + 1) (DqSAll.length t)
mutual
theorem DqS.reads (I : Inv X pins σ H s) : ∀ {v : V} {d : PyData} {u : Value}, DqS X.K H v d → RelV v u → ∃ as, Reads s.heap u d as ∧ sysModules ∉ as
  | _, _, _, .non, r => by
    cases r
    exact ⟨_, Reads.none, by simp⟩
  | _, _, _, .bl b, r => by
    cases r
    exact ⟨_, Reads.bool b, by simp⟩
  | _, _, _, .int i, r => by
    obtain ⟨t, rfl⟩ := r
    exact ⟨_, Reads.int i t, by simp⟩
  | _, _, _, .str x, r => by
    obtain ⟨t, rfl⟩ := r
    exact ⟨_, Reads.str x t, by simp⟩
  | _, _, _, .lst na hs ha, r => by
    cases r
    obtain ⟨its, rv, ⟨o, n, ho, hc, _, hd⟩, _⟩ := I.list hs
    obtain ⟨as, hr, hn⟩ := DqSAll.reads I ha rv
    exact ⟨_, Reads.list ho hc hd hr, by simp only [List.mem_cons, not_or]; exact ⟨fun z => na z.symm, hn⟩⟩
  | _, _, _, .tup hs ha, r => by
    cases r
    obtain ⟨its, rv, ⟨o, ho, hc, n, hd⟩, _⟩ := I.tuple hs
    obtain ⟨as, hr, hn⟩ := DqSAll.reads I ha rv
    exact ⟨_, Reads.tuple ho hc hd hr, hn⟩
  | _, _, _, .dic (a := a) (kvs := kvs) (ds := ds) e ha, r => by
    cases r
    obtain ⟨_, hsm, vs, kv, o, es, ep, ho, hx, hd, _, hp, _⟩ := (show ObjOk X.prog X.w H s.heap a (.dK kvs) from I.hok a _ e)
    obtain ⟨rk, rv⟩ := keys_read (s := s) kv hp
    obtain ⟨bs, hr, hn⟩ := DqSAll.reads I ha rv
    have hl : (kvs.map fun p => keyD p.1).length = ds.length := by
      have := ha.length
      simpa using this
    have z1 : ((kvs.map fun p => keyD p.1).zip ds).map (·.1) = kvs.map fun p => keyD p.1 := List.map_fst_zip (by omega)
    have z2 : ((kvs.map fun p => keyD p.1).zip ds).map (·.2) = ds := List.map_snd_zip (by omega)
    refine ⟨a :: [] ++ bs, Reads.dict ho hx.1 hd (by rw [z1]; exact rk) (by rw [z2]; exact hr), ?_⟩
    simp only [List.cons_append, List.nil_append, List.mem_cons, not_or]
    exact ⟨fun z => by rw [← z] at hsm; simp at hsm, hn⟩
theorem DqSAll.reads (I : Inv X pins σ H s) : ∀ {vs : List V} {ds : List PyData} {us : List Value}, DqSAll X.K H vs ds → Vals vs us → ∃ as, ReadsAll s.heap us ds as ∧ sysModules ∉ as
  | _, _, _, .nil, r => by
    cases r
    exact ⟨_, ReadsAll.nil, by simp⟩
  | _, _, _, .cons h1 h2, r => by
    cases r with
    | cons r1 r2 =>
      obtain ⟨as, q1, n1⟩ := DqS.reads I h1 r1
      obtain ⟨bs, q2, n2⟩ := DqSAll.reads I h2 r2
      exact ⟨_, ReadsAll.cons q1 q2, by simp only [List.mem_append, not_or]; exact ⟨n1, n2⟩⟩
end
/-- repr(x) -/
def rRepq (K : PySem.W.Frag) : List V → Hp → VK → Prop := fun xs H Q => ∃ (x : V) (d : PyData), xs = [x] ∧ DqS K H x d ∧ d.showable = true ∧ d.depth ≤ 60 ∧ d.shown.length ≤ sizeLine ∧ Q (.str d.shown) H
theorem call_reprq (hg : X.A.guards = some []) (hu : X.A.units + 70 < cLine) : CallR X (.builtin "repr") (rRepq X.K) := by
  intro pins s σ H xs us Q I r h
  obtain ⟨x, d, rfl, hR, hs, hdp, hz, q⟩ := h
  obtain ⟨u, rfl, ru⟩ := vals1 r
  obtain ⟨as, hr, hsm⟩ := hR.reads I ru
  have sc : ∀ (b : Str), d.shown = b → ∀ tk, EP X pins σ Q (.str b tk) { s with toks := s.toks + 1 } := fun b e tk => ⟨.str b, H, I.tok _, ⟨_, rfl⟩, e ▸ q⟩
  have big : ∀ {a : Addr}, Reads s.heap (.ref a) d as → wpAny (model X.prog X.w) X.A (call (.builtin "repr") [.ref a]) (EP X pins σ Q) X.xe s := fun {a} hr =>
    repr_of_reads' hr hs (fun _ => hsm) hg (by omega) (fun _ _ e => e) (fun h' u tk k => ⟨.str _, H, I.kept k, ⟨_, rfl⟩, q⟩) hz
  cases hr with
  | none => exact PySem.P.repr_of_none (sc _ rfl _)
  | bool b => exact PySem.P.repr_of_bool (sc _ (by cases b <;> rfl) _)
  | int i t => exact PySem.P.repr_of_int (of_decide_eq_true hs) (sc _ rfl _)
  | str y t => exact PySem.P.repr_of_str (sc _ rfl _) hz
  | list h1 h2 h3 h4 => exact big (Reads.list h1 h2 h3 h4)
  | tuple h1 h2 h3 h4 => exact big (Reads.tuple h1 h2 h3 h4)
  | dict h1 h2 h3 h4 h5 => exact big (Reads.dict h1 h2 h3 h4 h5)
/-- a list display, its place not the table of modules -/
def tLstN (t : TA) : TE := fun σ H Q => t σ H fun xs H1 => xs.length ≤ sizeLine ∧ ∀ p, H1 p = none → p ≠ sysModules → Q (.ref p) (upd H1 p (.lst xs))
theorem pe_lstN {es : List Expr} {t : TA} {pos : Pos} (h : PA X es t) : PE X (.List es pos) (tLstN t) := by
  refine ⟨fun pins s σ H Q I hq => wpAny_List_spliced (thn (h.run pos pins s σ H _ I hq) ?_)⟩
  rintro us s1 ⟨xs, H1, I1, r, z, q⟩
  have hf : H1 s1.heap.objs.size = none := I1.hok.fresh (Nat.le_refl _)
  have J := I1.laid (t' := s1.toks) (a := s1.heap.objs.size) (o := .lst xs) (h' := s1.heap.push { cls := .type "list", data := .seq us.toArray 0 }) (fun b u e => Heap.get?_push_of_some _ e) (Nat.le_refl _) ⟨z, us, 0, r, Heap.get?_push_size _ rfl⟩
  exact ⟨by rw [← r.length]; exact z, .ref s1.heap.objs.size, _, J, rfl, q _ hf (fun e => by have := I1.big; rw [e] at this; exact Nat.lt_irrefl _ this)⟩
end
/-! ### defs that want to know that nothing is being shown (for repr) -/
structure FnG (P : Program) (w : World) (K : PySem.W.Frag) (mg : Str → Option Value) (base : Heap) (CX : CXT) (k : Nat) (f : Addr) (fd : FuncData) (ps : List Str) (sp : Sp) : Prop where
  run : ∀ (A : Around) (outer : List Env) (s : Shared) (H : Hp) (args : Args) (us : List Value) (vs : List V) (Q : VK) (E : XK), Room k A → A.guards = some [] → Env0 P w K mg base A outer s H → BindsTo s fd args (ps.zip us) → Vals vs us → sp vs H Q E →
    codeAny (model P w) A (.call (.ref f) args) (CR CX outer P w H s Q E) s
  len : ∀ (vs : List V) (H : Hp) (Q : VK) (E : XK), sp vs H Q E → vs.length = ps.length
theorem FnG.of {P : Program} {w : World} {K : PySem.W.Frag} {mg : Str → Option Value} {base : Heap} {CX : CXT} {k : Nat} {f : Addr} {fd : FuncData} {ps : List Str} {sp : Sp} (F : FnOk P w K mg base CX k f fd ps sp) : FnG P w K mg base CX k f fd ps sp :=
  ⟨fun A outer s H args us vs Q E hr _ e0 hb rv h => F.run A outer s H args us vs Q E hr e0 hb rv h, fun vs H Q E h => F.len vs H Q E h⟩
theorem guards_deeper {A : Around} {env : Env} (h : A.guards = some []) : (A.deeper env).guards = some [] := by
  first | exact h | simpa [Around.deeper] using h
theorem okG {P : Program} {w : World} {K : PySem.W.Frag} {mg : Str → Option Value} {base : Heap} {x qual : Str} {st : Stmt} {f : Addr} {fd : FuncData} {N ps : List Str} {k : Nat} {sp : Sp} (F : Fun K x qual st f fd) (S : FnScope N ps (defScope st))
    (len : ∀ vs H Q E, sp vs H Q E → vs.length = ps.length)
    (body : ∀ (cdv : Value) (A : Around) (outer : List Env) (s : Shared) (H : Hp) (vs : List V) (Q : VK) (E : XK), (A.deeper (envOfC qual (defScope st) s.heap.objs.size f cdv)).guards = some [] → Room k (A.deeper (envOfC qual (defScope st) s.heap.objs.size f cdv)) → sp vs H Q E →
      ∃ t, PSs (cxOf CX0 P w K mg base N qual (defScope st) f cdv A outer s H E) (defBody st) t ∧ t { nx := fun _ H' => Q .non H', rt := Q } (start N vs) H) : FnG P w K mg base CX0 (k + 1) f fd ps sp :=
  ⟨fun A outer s H args us vs Q E hr hg e0 hb rv h => fn_at F S hr e0 hb rv (len _ _ _ _ h) fun cdv hr' => body cdv A outer s H vs Q E (guards_deeper hg) hr' h, len⟩
structure DefG (P : Program) (w : World) (K : PySem.W.Frag) (mg : Str → Option Value) (base : Heap) (k : Nat) (x : Str) (ps : List Str) (sp : Sp) : Prop where
  ex : ∃ (f : Addr) (fd : FuncData), FnG P w K mg base CX0 k f fd ps sp ∧ mg x = some (.ref f) ∧ PySem.W.keepIn K (.ref f) = true ∧ Binds K fd ps []
section
variable {X : Cx} {e : Expr} {es : List Expr} {ta : TA} {p pos : Pos} {x : Str} {k : Nat} {ps : List Str} {sp : Sp}
theorem pe_callG (D : DefG X.prog X.w X.K X.mg X.base k x ps sp) (hr : Room k X.A) (hgu : X.A.guards = some []) (ha : PA X (e :: es) ta) (hg : Gl X x := by rfl) (hdb : (x == ("__debug__" : Str)) = false := by decide)
    (he : starEach (e :: es) X.env = (false, eval e X.env) :: starEach es X.env := by rfl) (hpl : (backTo pos (starEach es X.env)).any (·.1) = false := by rfl) : PE X (.Call (.Name x p) (e :: es) [] pos) (tCall sp [] E0 ta) := by
  obtain ⟨f, fd, F, m, kp, hb⟩ := D.ex
  refine ⟨fun pins s σ H Q I h => wpAny_Call_Name_kw (ld_glob I hg m (PySem.W.callWith_K (h₀ := X.base) I.ok.mod.kin kp (thn (ha.run pos pins s σ H _ I h) ?_) he hpl) hdb)⟩
  rintro us s1 ⟨vs, H1, I1, r, q⟩
  refine ⟨I1.kIn, ?_⟩
  have q' : sp vs H1 Q E0 := by
    have := q
    rwa [List.append_nil] at this
  have hl : us.length = ps.length := by rw [← r.length]; exact F.len _ _ _ _ q'
  have bt : BindsTo s1 fd ⟨us, []⟩ (ps.zip us) := by
    have := hb s1 us I1.kIn (by rw [List.append_nil]; exact hl)
    rwa [List.append_nil] at this
  refine wpAny_call (codeAny_mono (F.run X.A X.stack s1 H1 ⟨us, []⟩ us vs Q E0 hr hgu I1.env0 bt r q') ?_)
  rintro (er | fl) s' hq
  · exact False.elim hq
  · cases fl with
    | ret u => exact I1.after hq
    | next => exact False.elim hq
    | brk => exact False.elim hq
    | cont => exact False.elim hq
end
end EX
set_option Elab.async false
set_option linter.all false
set_option maxRecDepth 100000
set_option maxHeartbeats 4000000
/-! what stands in the heap but for some places -/
namespace EX
open PySem L2 PyProof.Rows
/-- all that stood stands, but at the places S -/
def Keeps (S : List Addr) (H H' : Hp) : Prop := ∀ b o, b ∉ S → H b = some o → H' b = some o
variable {S T : List Addr} {H H1 H2 : Hp}
theorem Keeps.refl (S : List Addr) (H : Hp) : Keeps S H H := fun _ _ _ e => e
theorem Keeps.of (s : Same H H1) : Keeps S H H1 := fun b o _ e => s b o e
theorem Keeps.trans (a : Keeps S H H1) (b : Keeps S H1 H2) : Keeps S H H2 := fun c o n e => b c o n (a c o n e)
theorem Keeps.more (a : Keeps S H H1) (h : ∀ p ∈ S, p ∈ T) : Keeps T H H1 := fun c o n e => a c o (fun z => n (h c z)) e
theorem Keeps.then (a : Keeps S H H1) (s : Same H1 H2) : Keeps S H H2 := a.trans (.of s)
theorem Keeps.put {p : Addr} {o : HO} (a : Keeps S H H1) (hp : p ∈ S) : Keeps S H (upd H1 p o) := fun c u n e => by
  have ne : c ≠ p := fun z => n (by rw [z]; exact hp)
  rw [upd_ne ne]
  exact a c u n e
theorem Keeps.new {p : Addr} {o : HO} (a : Keeps S H H1) (hp : H1 p = none) : Keeps S H (upd H1 p o) := fun c u n e => by
  have := a c u n e
  have ne : c ≠ p := fun z => by
    rw [z, hp] at this
    cases this
  rw [upd_ne ne]
  exact this
theorem Keeps.free {p : Addr} (a : Keeps S H H1) (hS : p ∉ S) (hp : H1 p = none) : H p = none := by
  cases e : H p with
  | none => rfl
  | some o =>
    have := a p o hS e
    rw [hp] at this
    cases this
/-- what is changed was not there -/
theorem Keeps.same (a : Keeps S H H1) (h : ∀ p ∈ S, H p = none) : Same H H1 := fun b o e => a b o (fun z => by rw [h b z] at e; cases e) e
theorem Keeps.seq {K : PySem.W.Frag} {a : Addr} {xs : List V} (k : Keeps S H H1) (n : ∀ o, H a = some o → a ∉ S) (h : SqL K H a xs) : SqL K H1 a xs := by
  rcases h with (h | ⟨o, h⟩) | h
  · exact .inl (.inl (k _ _ (n _ h) h))
  · exact .inl (.inr ⟨o, k _ _ (n _ h) h⟩)
  · exact .inr h
theorem Keeps.sqt {K : PySem.W.Frag} {a : Addr} {xs : List V} (k : Keeps S H H1) (n : ∀ o, H a = some o → a ∉ S) (h : SqT K H a xs) : SqT K H1 a xs := by
  rcases h with (h | ⟨o, h⟩) | h
  · exact .inl (.inl (k _ _ (n _ h) h))
  · exact .inl (.inr ⟨o, k _ _ (n _ h) h⟩)
  · exact .inr h
theorem Keeps.lock {d : Addr} {u : HO} {od : Obj} (hd : H d = some u) (a : Keeps S (upd H d (.frz od u)) H1) : Keeps S H (upd H1 d u) := fun b o n e => by
  by_cases hb : b = d
  · subst hb
    rw [upd_same, ← hd, e]
  · rw [upd_ne hb]
    refine a b o n ?_
    rw [upd_ne hb]
    exact e
theorem ne_by {a b : Addr} {o : HO} (h : H a = some o) (hb : H b = none) : a ≠ b := fun z => by
  rw [z, hb] at h
  cases h
theorem ixI {n j : Nat} (hj : j < n) : ixN n (j : Int) = some j := by
  unfold ixN
  rw [if_pos (by omega), if_pos (by omega)]
  rfl
/-- no tuple stands there -/
def NoTup (H : Hp) (p : Addr) : Prop := (∀ xs, H p ≠ some (.tup xs)) ∧ ∀ q xs, H p ≠ some (.frz q (.tup xs))
theorem NoTup.ins {p C dx : Addr} {fs : List (Str × V)} (h : H p = some (.ins C dx fs)) : NoTup H p := ⟨fun xs z => (by rw [h] at z; cases z), fun q xs z => (by rw [h] at z; cases z)⟩
theorem NoTup.lst {p : Addr} {ys : List V} (h : H p = some (.lst ys)) : NoTup H p := ⟨fun xs z => (by rw [h] at z; cases z), fun q xs z => (by rw [h] at z; cases z)⟩
theorem NoTup.dK {p : Addr} {ys : List (Key × V)} (h : H p = some (.dK ys)) : NoTup H p := ⟨fun xs z => (by rw [h] at z; cases z), fun q xs z => (by rw [h] at z; cases z)⟩
theorem NoTup.no {p : Addr} (h : H p = Option.none) : NoTup H p := ⟨fun xs z => (by rw [h] at z; cases z), fun q xs z => (by rw [h] at z; cases z)⟩
theorem Keeps.sqt' {K : PySem.W.Frag} {a : Addr} {xs : List V} (k : Keeps S H H1) (n : ∀ p ∈ S, NoTup H p) (h : SqT K H a xs) : SqT K H1 a xs := by
  rcases h with (h | ⟨o, h⟩) | h
  · exact .inl (.inl (k _ _ (fun z => (n _ z).1 xs h) h))
  · exact .inl (.inr ⟨o, k _ _ (fun z => (n _ z).2 o xs h) h⟩)
  · exact .inr h
theorem Keeps.one {p : Addr} {o : HO} (H : Hp) : Keeps [p] H (upd H p o) := (Keeps.refl _ _).put (List.mem_singleton.mpr rfl)
theorem ifF {b : Bool} {A B : Prop} (e : b = false) (h : B) : if b = true then A else B := by
  rw [e]
  exact iteF h
theorem ifT {b : Bool} {A B : Prop} (e : b = true) (h : A) : if b = true then A else B := by
  rw [e]
  exact iteT h
theorem rd_lock {g d : Addr} {k u : List (Key × V)} {od : Obj} (h : Rd H g (.dK k)) (hd : H d = some (.dK u)) : Rd (upd H d (.frz od (.dK u))) g (.dK k) := by
  by_cases e : g = d
  · subst e
    rcases h with h | ⟨o, h⟩
    · rw [hd] at h
      cases h
      exact .inr ⟨od, upd_same⟩
    · rw [hd] at h
      cases h
  · rcases h with h | ⟨o, h⟩
    · exact .inl (by rw [upd_ne e]; exact h)
    · exact .inr ⟨o, by rw [upd_ne e]; exact h⟩
theorem rd_same {g : Addr} {k : List (Key × V)} (s : Same H H1) (h : Rd H g (.dK k)) : Rd H1 g (.dK k) := by
  rcases h with h | ⟨o, h⟩
  · exact .inl (s _ _ h)
  · exact .inr ⟨o, s _ _ h⟩
theorem sql_lock {K : PySem.W.Frag} {a d : Addr} {xs : List V} {u : List (Key × V)} {od : Obj} (h : SqL K H a xs) (hd : H d = some (.dK u)) : SqL K (upd H d (.frz od (.dK u))) a xs := by
  rcases h with (h | ⟨o, h⟩) | h
  · exact .inl (.inl (by rw [upd_ne fun z => by rw [z, hd] at h; cases h]; exact h))
  · exact .inl (.inr ⟨o, by rw [upd_ne fun z => by rw [z, hd] at h; cases h]; exact h⟩)
  · exact .inr h
theorem sqt_lock {K : PySem.W.Frag} {a d : Addr} {xs : List V} {u : List (Key × V)} {od : Obj} (h : SqT K H a xs) (hd : H d = some (.dK u)) : SqT K (upd H d (.frz od (.dK u))) a xs := by
  rcases h with (h | ⟨o, h⟩) | h
  · exact .inl (.inl (by rw [upd_ne fun z => by rw [z, hd] at h; cases h]; exact h))
  · exact .inl (.inr ⟨o, by rw [upd_ne fun z => by rw [z, hd] at h; cases h]; exact h⟩)
  · exact .inr h
theorem merge_app : ∀ (more kvs : List (Key × V)), ((kvs ++ more).map (·.1)).Nodup → mergeK kvs more = kvs ++ more
  | [], kvs, _ => by simp [mergeK]
  | e :: more, kvs, h => by
    have hno : e.1 ∉ kvs.map (·.1) := fun z => by
      rw [List.map_append, List.nodup_append] at h
      exact h.2.2 _ z _ (List.mem_map.mpr ⟨e, .head _, rfl⟩) rfl
    have hp : putK kvs e.1 e.2 = kvs ++ [e] := putK_new _ (by
      unfold valV
      have : kvs.find? (fun kv => decide (kv.1 = e.1)) = none := by
        rw [List.find?_eq_none]
        intro kv hkv
        rw [decide_eq_true_eq]
        exact fun z => hno (z ▸ List.mem_map.mpr ⟨kv, hkv, rfl⟩)
      rw [this]
      rfl)
    show mergeK (putK kvs e.1 e.2) more = _
    rw [hp, merge_app more (kvs ++ [e]) (by rw [List.append_assoc]; exact h), List.append_assoc]
    rfl
theorem merge_nd {more : List (Key × V)} (h : (more.map (·.1)).Nodup) : mergeK [] more = more := merge_app more [] h
theorem nd_inr {β : Type} {l : List (Str × β)} (h : (l.map (·.1)).Nodup) : (l.map fun p => (Sum.inr p.1 : Key)).Nodup := by
  rw [show (l.map fun p => (Sum.inr p.1 : Key)) = (l.map (·.1)).map Sum.inr by rw [List.map_map]; rfl]
  exact List.pairwise_map.mpr (h.imp fun ne e => ne (Sum.inr.inj e))
end EX
set_option Elab.async false
set_option linter.all false
set_option maxRecDepth 100000
set_option maxHeartbeats 4000000
/-! x | y, x & y of one's own class, both of it -/
namespace EX
open PySem L2 PySem.Spec PyProof.Rows
def rBinO (C : Addr) (sp : Sp) (E : XK) : R2 := fun x y H Q => ∃ a b dx dy fs gs, x = .ref a ∧ y = .ref b ∧ H a = some (.ins C dx fs) ∧ H b = some (.ins C dy gs) ∧ sp [.ref a, .ref b] H Q E
theorem op_binO {X : Cx} {CX : CXT} {k : Nat} {C : Addr} {op : Operator} {nm : Str} {ps : List Str} {sp : Sp} {E : XK} (D : Dun X.prog X.w X.K X.mg X.base CX k C nm ps sp) (hn : PySem.dunder op.info.2 = nm) (sf : PySem.W.selfFirst X.K C = true) (hr : Room k X.A) (hx : Passes CX X E) :
    OpR X (binaryOp op) (rBinO C sp E) := by
  intro pins s σ H x y v u Q I rx ry h
  obtain ⟨a, b, dx, dy, fs, gs, ex, ey, ea, eb, q⟩ := h
  subst ex
  subst ey
  obtain rfl : v = Value.ref a := rx
  obtain rfl : u = Value.ref b := ry
  obtain ⟨f, fd, at_, hf, hfi, F, hb⟩ := D.ex
  obtain ⟨od, J⟩ := inst_at I ea
  obtain ⟨od2, J2⟩ := inst_at I eb
  obtain ⟨m, hF⟩ := I.fr
  refine PySem.W.binop_K hF I.ok.mod.kin J J2.type sf (by rw [hn]; exact at_) hf (wpAny_mono (run_in F hr I.env0 hb hx I (.cons (vref a) (.cons (vref b) .nil)) q) ?_ fun _ _ z => z)
  rintro r s1 ⟨z, H1, I1, rz, q1⟩
  exact SlX.cmpback rz ⟨z, H1, I1, rz, q1⟩
end EX
set_option Elab.async false
set_option linter.all false
set_option maxRecDepth 100000
set_option maxHeartbeats 4000000
/-! methods, properties, instances of one's own classes, each as one fact -/
namespace EX
open PySem L2 PyProof.Rows
structure MtAt (P : Program) (w : World) (K : PySem.W.Frag) (mg : Str → Option Value) (base : Heap) (CX : CXT) (k : Nat) (C : Addr) (m : Str) (ps : List Str) (sp : Sp) : Prop where
  c : Cls K C
  ex : ∃ (f : Addr) (fd : FuncData), Meth K C m f ∧ FnOk P w K mg base CX k f fd ps sp ∧ Binds K fd ps []
structure PrAt (P : Program) (w : World) (K : PySem.W.Frag) (mg : Str → Option Value) (base : Heap) (k : Nat) (C : Addr) (m : Str) (ps : List Str) (sp : Sp) : Prop where
  c : Cls K C
  ex : ∃ (p f : Addr) (fd : FuncData), PropOf K C m p f ∧ FnOk P w K mg base CX0 k f fd ps sp ∧ Binds K fd ps []
structure MkAt (P : Program) (w : World) (K : PySem.W.Frag) (mg : Str → Option Value) (base : Heap) (CX : CXT) (k : Nat) (x : Str) (ps : List Str) (C : Addr) (sp : Sp) : Prop where
  m : mg x = some (.ref C)
  ex : ∃ (f : Addr) (fd : FuncData), Mk K C f ∧ FnOk P w K mg base CX k f fd ps sp ∧ Binds K fd ps []
section
variable {X : Cx} {e o : Expr} {es : List Expr} {t : TA} {ta : TE} {p pos apos : Pos} {x m : Str} {k : Nat} {ps : List Str} {sp : Sp} {C : Addr}
theorem pe_mtD {pl : Sem Bool} (D : MtAt X.prog X.w X.K X.mg X.base CX0 k C m ps sp) (hr : Room k X.A) (he : PE X o ta) (ha : PA X (e :: es) t)
    (hst : starEach (e :: es) X.env = (false, eval e X.env) :: starEach es X.env := by rfl) (hpl : (backTo pos (starEach es X.env)).any (·.1) = false := by rfl)
    (ht : eval (.Call (.Attribute o m apos) (e :: es) [] pos) X.env = (do
      let ov ← eval o X.env
      standAt apos.atName
      let (f, first) ← holding [ov] (getMethod ov m pl)
      callWith pos f first (backTo pos (starEach (e :: es) X.env)) (backToKw pos (keywordEach [] X.env))) := by rfl) : PE X (.Call (.Attribute o m apos) (e :: es) [] pos) (tMeth C m sp [] E0 ta t) := by
  obtain ⟨f, fd, hm, F, b⟩ := D.ex
  exact pe_meth (pl := pl) he D.c hm F hr b .nil pass0 ha hst hpl ht
theorem pe_mtD0 {pl : Sem Bool} (D : MtAt X.prog X.w X.K X.mg X.base CX0 k C m ps sp) (hr : Room k X.A) (he : PE X o ta)
    (ht : eval (.Call (.Attribute o m apos) [] [] pos) X.env = (do
      let ov ← eval o X.env
      standAt apos.atName
      let (f, first) ← holding [ov] (getMethod ov m pl)
      callWith pos f first (backTo pos (starEach [] X.env)) (backToKw pos (keywordEach [] X.env))) := by rfl) : PE X (.Call (.Attribute o m apos) [] [] pos) (tMeth C m sp [] E0 ta tNil) := by
  obtain ⟨f, fd, hm, F, b⟩ := D.ex
  exact pe_meth0 (pl := pl) he D.c hm F hr b .nil pass0 ht
theorem pe_prD (D : PrAt X.prog X.w X.K X.mg X.base k C m ps sp) (hr : Room (k + 1) X.A) (he : PE X e ta) (hab : attributeBase e m X.env (eval e X.env) = eval e X.env := by rfl) : PE X (.Attribute e m pos) (tProp C sp [] E0 ta) := by
  obtain ⟨q, f, fd, hp, F, b⟩ := D.ex
  exact pe_prop he D.c hp F hr b .nil pass0 hab
theorem pe_mkC (D : MkAt X.prog X.w X.K X.mg X.base CX0 k x ps C sp) (hr : Room (k + 1) X.A) (ha : PA X (e :: es) t) (hg : Gl X x := by rfl) (hdb : (x == ("__debug__" : Str)) = false := by decide)
    (he : starEach (e :: es) X.env = (false, eval e X.env) :: starEach es X.env := by rfl) (hpl : (backTo pos (starEach es X.env)).any (·.1) = false := by rfl) : PE X (.Call (.Name x p) (e :: es) [] pos) (tMake C sp [] E0 t) := by
  obtain ⟨f, fd, M, F, b⟩ := D.ex
  exact pe_make M F hr hg D.m b .nil pass0 ha hdb he hpl
end
def rMax2 : List V → Hp → VK → Prop := fun xs H Q => ∃ i j, xs = [.int i, .int j] ∧ Q (.int (if j > i then j else i)) H
def rMin2 : List V → Hp → VK → Prop := fun xs H Q => ∃ i j, xs = [.int i, .int j] ∧ Q (.int (if j < i then j else i)) H
def rLenSq (K : PySem.W.Frag) : List V → Hp → VK → Prop := fun xs H Q => ∃ p ys, xs = [.ref p] ∧ (SqL K H p ys ∨ SqT K H p ys) ∧ Q (.int ys.length) H
def rAbs : List V → Hp → VK → Prop := fun xs H Q => ∃ i, xs = [.int i] ∧ Q (.int (if i < 0 then -i else i)) H
end EX
set_option Elab.async false
set_option linter.all false
set_option maxRecDepth 100000
set_option maxHeartbeats 2000000
/-! the head's facts as Bools over what is written: own exceptions, properties, own specials -/
namespace HkX
open PySem PySem.W PySem.Calls PyProof.Rows He L2 EX
abbrev Fx : Type := Frag → Bool
/-- He's facts -/
def xF (f : He.Fa) : Fx := fun K => f.ok K
/-- an own exception class below Exception -/
def xEcc (x : PySem.Str) : Fx := fun K => excInitIn K (ga K x) exT "Exception.__new__" && (excOver K (ga K x) exT && (eqO (findIn K (.ref (ga K x)) "__setattr__") (some (some (.builtin "object.__setattr__"))) && (eqO (findIn K (.ref (ga K x)) "__getattribute__") (some (some (.builtin "BaseException.__getattribute__"))) &&
  (eqO (findIn K (.ref (ga K x)) "__getattr__") (some none) && (decide (subIn K (.ref (ga K x)) (.type "BaseException") = some true) && (hasDictIn K (ga K x) && (keepIn K (.ref (ga K x)) && ((clsIn K (ga K x)).isSome && (eqO (findIn K (.ref (ga K x)) "__class__") (some (some (.builtin "object.__class__"))) &&
  (decide (mroIn K (ga K x) (.type "object") = some true) && (eqO (specialIn K (.builtin "object.__class__") "__get__") (some (some (.builtin "getset_descriptor.__get__"))) && decide (takesIn K (.builtin "object.__class__") = some true))))))))))))
theorem ecc_ok {K : Frag} {x : PySem.Str} (h : xEcc x K = true) : EcC K (ga K x) := by
  obtain ⟨h1, h⟩ := ba h
  obtain ⟨h2, h⟩ := ba h
  obtain ⟨h3, h⟩ := ba h
  obtain ⟨h4, h⟩ := ba h
  obtain ⟨h5, h⟩ := ba h
  obtain ⟨h6, h⟩ := ba h
  obtain ⟨h7, h⟩ := ba h
  obtain ⟨h8, h⟩ := ba h
  obtain ⟨h9, h⟩ := ba h
  obtain ⟨h10, h⟩ := ba h
  obtain ⟨h11, h⟩ := ba h
  obtain ⟨h12, h13⟩ := ba h
  exact ⟨h1, h2, eqO_ok h3, eqO_ok h4, eqO_ok h5, of_decide_eq_true h6, h7, h8, h9, eqO_ok h10, of_decide_eq_true h11, eqO_ok h12, of_decide_eq_true h13⟩
/-- such a class with the one field f -/
def xXr (x f : PySem.Str) : Fx := fun K => decide (typeIn K (.ref (ga K x)) = some (.type "type")) && (eqO (findIn K (.ref (ga K x)) f) (some none) && (eqO (findIn K (.ref (ga K x)) "__init__") (some (some (.ref (ma K (ga K x) "__init__")))) && (decide (typeIn K (.ref (ma K (ga K x) "__init__")) = some (.type "function")) &&
  decide (takerIn K (ga K x) f = some none))))
theorem xr_ok {K : Frag} {x f : PySem.Str} (h : xXr x f K = true) : typeIn K (.ref (ga K x)) = some (.type "type") ∧ findIn K (.ref (ga K x)) f = some none ∧ findIn K (.ref (ga K x)) "__init__" = some (some (.ref (ma K (ga K x) "__init__"))) ∧ typeIn K (.ref (ma K (ga K x) "__init__")) = some (.type "function") ∧ takerIn K (ga K x) f = some none := by
  obtain ⟨h1, h⟩ := ba h
  obtain ⟨h2, h⟩ := ba h
  obtain ⟨h3, h⟩ := ba h
  obtain ⟨h4, h5⟩ := ba h
  exact ⟨of_decide_eq_true h1, eqO_ok h2, eqO_ok h3, of_decide_eq_true h4, of_decide_eq_true h5⟩
/-- caught as -/
def xExm (x y : PySem.Str) (b : Bool) : Fx := fun K => decide (exmOne K (.ref (ga K x)) (.ref (ga K y)) = some b)
/-- a property -/
def pg (x m : PySem.Str) (K : Frag) : Addr := He5.wf K (ga K x) "property" m
def xProp (x m : PySem.Str) : Fx := fun K => eqO (findIn K (.ref (ga K x)) m) (some (some (.ref (ma K (ga K x) m)))) && (eqO (specialIn K (.ref (ma K (ga K x) m)) "__get__") (some (some (.builtin "property.__get__"))) && (decide (takesIn K (.ref (ma K (ga K x) m)) = some true) && (match recIn K (ma K (ga K x) m) "property" with
  | some (.ref _ :: _) => true
  | _ => false)))
theorem prop_ok {K : Frag} {x m : PySem.Str} (h : xProp x m K = true) : PropOf K (ga K x) m (ma K (ga K x) m) (pg x m K) := by
  obtain ⟨h1, h⟩ := ba h
  obtain ⟨h2, h⟩ := ba h
  obtain ⟨h3, h4⟩ := ba h
  refine ⟨eqO_ok h1, eqO_ok h2, of_decide_eq_true h3, ?_⟩
  unfold pg He5.wf
  split at h4
  · rename_i f r e
    exact ⟨r, by rw [e]⟩
  · cases h4
/-- an own special -/
def xDun (x m : PySem.Str) : Fx := fun K => eqO (findIn K (.ref (ga K x)) m) (some (some (.ref (ma K (ga K x) m)))) && (isFn K (.ref (ma K (ga K x) m)) && fnIn K (ma K (ga K x) m))
theorem dun_ok {K : Frag} {x m : PySem.Str} (h : xDun x m K = true) : findIn K (.ref (ga K x)) m = some (some (.ref (ma K (ga K x) m))) ∧ isFn K (.ref (ma K (ga K x) m)) = true ∧ fnIn K (ma K (ga K x) m) = true := by
  obtain ⟨h1, h⟩ := ba h
  obtain ⟨h2, h3⟩ := ba h
  exact ⟨eqO_ok h1, h2, h3⟩
/-- isinstance of an own instance, of its own class -/
def xIsi (x : PySem.Str) : Fx := fun K => eqO (findIn K (.ref (ga K x)) "__class__") (some (some (.builtin "object.__class__"))) && (eqO (specialIn K (.builtin "object.__class__") "__get__") (some (some (.builtin "getset_descriptor.__get__"))) && (decide (takesIn K (.builtin "object.__class__") = some true) && (decide (mroIn K (ga K x) (.type "object") = some true) && decide (kitOne K (.ref (ga K x)) (.ref (ga K x)) = some true))))
theorem isi_ok {K : Frag} {x : PySem.Str} (h : xIsi x K = true) : findIn K (.ref (ga K x)) "__class__" = some (some (.builtin "object.__class__")) ∧ specialIn K (.builtin "object.__class__") "__get__" = some (some (.builtin "getset_descriptor.__get__")) ∧ takesIn K (.builtin "object.__class__") = some true ∧ mroIn K (ga K x) (.type "object") = some true ∧ kitOne K (.ref (ga K x)) (.ref (ga K x)) = some true := by
  obtain ⟨h1, h⟩ := ba h
  obtain ⟨h2, h⟩ := ba h
  obtain ⟨h3, h⟩ := ba h
  obtain ⟨h4, h5⟩ := ba h
  exact ⟨eqO_ok h1, eqO_ok h2, of_decide_eq_true h3, of_decide_eq_true h4, of_decide_eq_true h5⟩
def xSelf (x : PySem.Str) : Fx := fun K => selfFirst K (ga K x)
/-- a class's constant, an int -/
def xCInt (x f : PySem.Str) (i : Int) : Fx := fun K => readsIn K (ga K x) (.type "type") && (match findCls K (.ref (ga K x)) (.type "type") f with
  | some (.val (.int j _)) => decide (j = i)
  | _ => false)
theorem cread_of {K : Frag} {C : Addr} (h : readsIn K C (.type "type") = true) : ClX.CRead K C (.type "type") := by
  refine ⟨h, ?_⟩
  unfold readsIn at h
  obtain ⟨h, _⟩ := ba h
  obtain ⟨h, _⟩ := ba h
  obtain ⟨h, h3⟩ := ba h
  obtain ⟨_, h2⟩ := ba h
  unfold specialIn
  rw [beq_iff_eq.mp h2, Option.bind_some]
  exact beq_iff_eq.mp h3
theorem cint_ok {K : Frag} {x f : PySem.Str} {i : Int} (h : xCInt x f i K = true) : ClX.CRead K (ga K x) (.type "type") ∧ ∃ t, ClX.CVal K (ga K x) (.type "type") f (.int i) (.int i t) := by
  obtain ⟨h1, h2⟩ := ba h
  refine ⟨cread_of h1, ?_⟩
  split at h2
  · rename_i j t e
    have ej : j = i := of_decide_eq_true h2
    rw [ej] at e
    exact ⟨t, e, ⟨t, rfl⟩⟩
  · cases h2
/-! ### the Hook -/
def obsX (fx : List Fx) (fn : List He5.DefA) (K : Frag) : He.AlD := ((fx.all fun f => f K) && fn.all fun d => d.ok K, fn.map fun d => He5.fnA K (d.at_ K))
def valX (fn : List He5.DefA) : He.AlD := (true, fn.map He5.DefA.val)
def SaysX (fx : List Fx) (fn : List He5.DefA) (K : Frag) : Prop := obsX fx fn K = valX fn
def obsXG (n : Nat) (fx : List Fx) (fn : List He5.DefA) (g : Addr → Option Obj) : He.AlD := obsX fx fn (frG g (He5.asA g n))
def hookX (n : Nat) (fx : List Fx) (fn : List He5.DefA) : PySem.W.Hook where
  α := He.AlD
  obs := fun s => obsXG n fx fn s.heap.get?
  val := fun _ => valX fn
  says := fun _ h => ∃ K : Frag, K.In h ∧ SaysX fx fn K
  of := fun _ _ e => ⟨_, frG_in, e⟩
  keeps := fun _ _ _ ⟨K, hK, c⟩ k => ⟨K, Frag.In.keeps hK k, c⟩
theorem obsXG_eq {n : Nat} {fx : List Fx} {fn : List He5.DefA} {g : Addr → Option Obj} {s : Shared} (h : ∀ a, g a = s.heap.get? a) : obsXG n fx fn g = (hookX n fx fn).obs s := by
  have e : g = s.heap.get? := funext h
  rw [e] <;> rfl
section
variable {fx : List Fx} {fn : List He5.DefA} {K : Frag}
theorem SaysX.fact (c : SaysX fx fn K) (i : Nat) {f : Fx} (h : fx[i]? = some f := by rfl) : f K = true := by
  have c1 := (ba (show ((fx.all fun f => f K) && fn.all fun d => d.ok K) = true from congrArg (fun z : He.AlD => z.1) c)).1
  exact List.all_eq_true.mp c1 f (List.mem_of_getElem? h)
theorem SaysX.def_ (c : SaysX fx fn K) (i : Nat) {d : He5.DefA} (h : fn[i]? = some d := by rfl) : ∃ fd, L2.FunD K d.name d.qual d.params d.body d.scope (d.dvs K) (d.kws K) (d.at_ K) fd := by
  have c2 := (ba (show ((fx.all fun f => f K) && fn.all fun d => d.ok K) = true from congrArg (fun z : He.AlD => z.1) c)).2
  have e : fn.map (fun d => He5.fnA K (d.at_ K)) = fn.map He5.DefA.val := congrArg (fun z : He.AlD => z.2) c
  have e2 : (fn.map fun d => He5.fnA K (d.at_ K))[i]? = (fn.map He5.DefA.val)[i]? := by rw [e]
  rw [List.getElem?_map, List.getElem?_map, h] at e2
  exact He5.DefA.funD (Option.some.inj e2) (List.all_eq_true.mp c2 d (List.mem_of_getElem? h))
end
end HkX
set_option Elab.async false
set_option linter.all false
set_option maxRecDepth 100000
set_option maxHeartbeats 2000000
/-! HkX with tables of text keys -/
namespace HkX
open PySem PySem.W PySem.Calls PyProof.Rows He L2 EX
/-- the values of a table, some of them -/
def xVals (x : PySem.Str) (kvs : List (PySem.Str × He.Dv)) : Fx := fun K => He.valsB K (ga K x) kvs
theorem vals_ref {K : Frag} {x k y : PySem.Str} {kvs : List (PySem.Str × He.Dv)} (h : xVals x kvs K = true) (hq : (k, He.Dv.glo y) ∈ kvs) : nsIn K (ga K x) k = some (some (.ref (ga K y))) := by
  obtain ⟨u, h1, h2⟩ := He.valsB_ok h hq
  have e : u = .ref (ga K y) := h2
  rw [← e]
  exact h1
/-- the objects reached from the module's names in n steps; a mask of bits says which are met already -/
def putB : List Addr → Nat → List Addr → Nat × List Addr
  | [], m, acc => (m, acc)
  | a :: r, m, acc => match Nat.beq (Nat.mod (Nat.shiftRight m a) 2) 1 with
    | true => putB r m acc
    | false => putB r (Nat.lor m (Nat.shiftLeft 1 a)) (a :: acc)
def nextB (g : Addr → Option Obj) (fr : List Addr) : List Addr := fr.flatMap fun a => match g a with
  | some o => He.refsD o
  | none => []
def goB (g : Addr → Option Obj) : Nat → Nat → List Addr → List Addr
  | 0, _, fr => fr
  | n + 1, m, fr => match putB (nextB g fr) m [] with
    | (m2, fr2) => fr ++ goB g n m2 fr2
def asB (g : Addr → Option Obj) (n : Nat) : List Addr := goB g n (Nat.shiftLeft 1 mainGlobals) [mainGlobals] ++ [cStatics]
abbrev AlY : Type := He.AlD × List (Option (List (Option (PySem.Str × Int))))
def obsY (fx : List Fx) (fn : List He5.DefA) (ts : List He.Tab) (K : Frag) : AlY := (obsX fx fn K, ts.map fun t => He.dicW K (t.1 K))
def valY (fn : List He5.DefA) (ts : List He.Tab) (w : World) : AlY := (valX fn, ts.map fun t => some (He.keysIn w.params t.2))
def obsYG (n : Nat) (fx : List Fx) (fn : List He5.DefA) (ts : List He.Tab) (g : Addr → Option Obj) : AlY := obsY fx fn ts (frG g (asB g n))
def SaysY (fx : List Fx) (fn : List He5.DefA) (ts : List He.Tab) (w : World) (K : Frag) : Prop := obsY fx fn ts K = valY fn ts w
def hookY (n : Nat) (fx : List Fx) (fn : List He5.DefA) (ts : List He.Tab) : PySem.W.Hook where
  α := AlY
  obs := fun s => obsYG n fx fn ts s.heap.get?
  val := fun w => valY fn ts w
  says := fun w h => ∃ K : Frag, K.In h ∧ SaysY fx fn ts w K
  of := fun _ _ e => ⟨_, frG_in, e⟩
  keeps := fun _ _ _ ⟨K, hK, c⟩ k => ⟨K, Frag.In.keeps hK k, c⟩
theorem obsYG_eq {n : Nat} {fx : List Fx} {fn : List He5.DefA} {ts : List He.Tab} {g : Addr → Option Obj} {s : Shared} (h : ∀ a, g a = s.heap.get? a) : obsYG n fx fn ts g = (hookY n fx fn ts).obs s := by
  have e : g = s.heap.get? := funext h
  rw [e] <;> rfl
section
variable {fx : List Fx} {fn : List He5.DefA} {ts : List He.Tab} {w : World} {K : Frag}
theorem SaysY.d (c : SaysY fx fn ts w K) : SaysX fx fn K := congrArg (fun z : AlY => z.1) c
theorem SaysY.tab (c : SaysY fx fn ts w K) (i : Nat) {t : He.Tab} (h : ts[i]? = some t := by rfl) : ∃ es n, KDict K w (t.1 K) es n := by
  have e : ts.map (fun t => He.dicW K (t.1 K)) = ts.map fun t => some (He.keysIn w.params t.2) := congrArg (fun z : AlY => z.2) c
  have e2 : (ts.map fun t => He.dicW K (t.1 K))[i]? = (ts.map fun t => some (He.keysIn w.params t.2))[i]? := by rw [e]
  rw [List.getElem?_map, List.getElem?_map, h] at e2
  exact He.dicW_ok (Option.some.inj e2)
end
end HkX
set_option Elab.async false
set_option linter.all false
set_option maxRecDepth 100000
set_option maxHeartbeats 0
namespace HX02
open PySem PySem.Spec PyProof.Rows L2 EX HkX
def top (i : Nat) : Stmt := PySem.Challenge.pw_slackcache_k02_joins_and_copies.main.body.getD i (.Pass ⟨0, 0, 0, 0⟩)
def fn0 : List He5.DefA := [⟨(fun K => He.ma K (He.ga K "InvalidKeys") "__init__"), "__init__", "InvalidKeys.__init__", defArgs (inClass (top 3) 0), defBody (inClass (top 3) 0), defScope (inClass (top 3) 0), [], []⟩,
  ⟨(fun K => He.ma K (He.ga K "InvalidName") "__init__"), "__init__", "InvalidName.__init__", defArgs (inClass (top 4) 0), defBody (inClass (top 4) 0), defScope (inClass (top 4) 0), [], []⟩,
  ⟨(fun K => He.ma K (He.ga K "InvalidAllowance") "__init__"), "__init__", "InvalidAllowance.__init__", defArgs (inClass (top 7) 0), defBody (inClass (top 7) 0), defScope (inClass (top 7) 0), [], []⟩,
  ⟨(fun K => He.ma K (He.ga K "UnknownNode") "__init__"), "__init__", "UnknownNode.__init__", defArgs (inClass (top 8) 0), defBody (inClass (top 8) 0), defScope (inClass (top 8) 0), [], []⟩,
  ⟨(fun K => He.ma K (He.ga K "NameTaken") "__init__"), "__init__", "NameTaken.__init__", defArgs (inClass (top 13) 0), defBody (inClass (top 13) 0), defScope (inClass (top 13) 0), [], []⟩,
  ⟨(fun K => He.ma K (He.ga K "NotReady") "__init__"), "__init__", "NotReady.__init__", defArgs (inClass (top 14) 0), defBody (inClass (top 14) 0), defScope (inClass (top 14) 0), [], []⟩,
  ⟨(fun K => He.ma K (He.ga K "TooLow") "__init__"), "__init__", "TooLow.__init__", defArgs (inClass (top 17) 0), defBody (inClass (top 17) 0), defScope (inClass (top 17) 0), [], []⟩,
  ⟨(fun K => He.ma K (He.ga K "LimitExceeded") "__init__"), "__init__", "LimitExceeded.__init__", defArgs (inClass (top 18) 0), defBody (inClass (top 18) 0), defScope (inClass (top 18) 0), [], []⟩,
  ⟨(fun K => He.ma K (He.ga K "Entry") "__init__"), "__init__", "Entry.__init__", defArgs (inClass (top 20) 0), defBody (inClass (top 20) 0), defScope (inClass (top 20) 0), [], []⟩,
  ⟨(fun K => He.ma K (He.ga K "Cache") "__init__"), "__init__", "Cache.__init__", defArgs (inClass (top 22) 0), defBody (inClass (top 22) 0), defScope (inClass (top 22) 0), [], []⟩,
  ⟨(fun K => He.ma K (He.ga K "Cache") "seek"), "seek", "Cache.seek", defArgs (inClass (top 22) 2), defBody (inClass (top 22) 2), defScope (inClass (top 22) 2), [], []⟩,
  ⟨(fun K => He.ma K (He.ga K "Cache") "copied_keys"), "copied_keys", "Cache.copied_keys", defArgs (inClass (top 22) 4), defBody (inClass (top 22) 4), defScope (inClass (top 22) 4), [], []⟩,
  ⟨(fun K => He.ma K (He.ga K "Cache") "__getitem__"), "__getitem__", "Cache.__getitem__", defArgs (inClass (top 22) 9), defBody (inClass (top 22) 9), defScope (inClass (top 22) 9), [], []⟩,
  ⟨(fun K => He.ma K (He.ga K "Cache") "__len__"), "__len__", "Cache.__len__", defArgs (inClass (top 22) 11), defBody (inClass (top 22) 11), defScope (inClass (top 22) 11), [], []⟩,
  ⟨(fun K => He.ma K (He.ga K "Cache") "allowance"), "allowance", "Cache.allowance", defArgs (inClass (top 22) 14), defBody (inClass (top 22) 14), defScope (inClass (top 22) 14), [], []⟩,
  ⟨(fun K => He.ma K (He.ga K "Cache") "told"), "told", "Cache.told", defArgs (inClass (top 22) 15), defBody (inClass (top 22) 15), defScope (inClass (top 22) 15), [], []⟩,
  ⟨(fun K => He.ma K (He.ga K "Cache") "entry"), "entry", "Cache.entry", defArgs (inClass (top 22) 18), defBody (inClass (top 22) 18), defScope (inClass (top 22) 18), [], []⟩,
  ⟨(fun K => He.ga K "is_word"), "is_word", "is_word", defArgs (top 29), defBody (top 29), defScope (top 29), [], []⟩,
  ⟨(fun K => He.ga K "are_keys"), "are_keys", "are_keys", defArgs (top 30), defBody (top 30), defScope (top 30), [], []⟩,
  ⟨(fun K => He.ga K "is_allowance"), "is_allowance", "is_allowance", defArgs (top 31), defBody (top 31), defScope (top 31), [], []⟩,
  ⟨(fun K => He.ga K "are_allowances"), "are_allowances", "are_allowances", defArgs (top 32), defBody (top 32), defScope (top 32), [], []⟩,
  ⟨(fun K => He.ga K "send_to_children"), "send_to_children", "send_to_children", defArgs (top 35), defBody (top 35), defScope (top 35), [], []⟩,
  ⟨(fun K => He.ga K "accept"), "accept", "accept", defArgs (top 36), defBody (top 36), defScope (top 36), [], []⟩,
  ⟨(fun K => He.ga K "renew"), "renew", "renew", defArgs (top 38), defBody (top 38), defScope (top 38), [], []⟩,
  ⟨(fun K => He.ga K "start_child"), "start_child", "start_child", defArgs (top 41), defBody (top 41), defScope (top 41), [], []⟩]
def fn1 : List He5.DefA := [⟨(fun K => He.ga K "add_child"), "add_child", "add_child", defArgs (top 42), defBody (top 42), defScope (top 42), [], []⟩,
  ⟨(fun K => He.ga K "hear_copy"), "hear_copy", "hear_copy", defArgs (top 52), defBody (top 52), defScope (top 52), [], []⟩,
  ⟨(fun K => He.ma K (He.ga K "Net") "__init__"), "__init__", "Net.__init__", defArgs (inClass (top 63) 1), defBody (inClass (top 63) 1), defScope (inClass (top 63) 1), [], []⟩,
  ⟨(fun K => HkX.pg "Net" "key_names" K), "key_names", "Net.key_names", defArgs (inClass (top 63) 2), defBody (inClass (top 63) 2), defScope (inClass (top 63) 2), [], []⟩,
  ⟨(fun K => HkX.pg "Net" "history" K), "history", "Net.history", defArgs (inClass (top 63) 4), defBody (inClass (top 63) 4), defScope (inClass (top 63) 4), [], []⟩,
  ⟨(fun K => He.ma K (He.ga K "Net") "__len__"), "__len__", "Net.__len__", defArgs (inClass (top 63) 6), defBody (inClass (top 63) 6), defScope (inClass (top 63) 6), [], []⟩,
  ⟨(fun K => He.ma K (He.ga K "Net") "__getitem__"), "__getitem__", "Net.__getitem__", defArgs (inClass (top 63) 8), defBody (inClass (top 63) 8), defScope (inClass (top 63) 8), [], []⟩,
  ⟨(fun K => He.ma K (He.ga K "Net") "join"), "join", "Net.join", defArgs (inClass (top 63) 14), defBody (inClass (top 63) 14), defScope (inClass (top 63) 14), [], []⟩,
  ⟨(fun K => He.ma K (He.ga K "Net") "write"), "write", "Net.write", defArgs (inClass (top 63) 15), defBody (inClass (top 63) 15), defScope (inClass (top 63) 15), [], []⟩,
  ⟨(fun K => He.ma K (He.ga K "Net") "deliver"), "deliver", "Net.deliver", defArgs (inClass (top 63) 18), defBody (inClass (top 63) 18), defScope (inClass (top 63) 18), [], []⟩,
  ⟨(fun K => He.ma K (He.ga K "Net") "messages"), "messages", "Net.messages", defArgs (inClass (top 63) 29), defBody (inClass (top 63) 29), defScope (inClass (top 63) 29), [], []⟩,
  ⟨(fun K => He.ga K "_law_source"), "_law_source", "_law_source", defArgs (top 65), defBody (top 65), defScope (top 65), [], []⟩,
  ⟨(fun K => He.ga K "_law_draw"), "_law_draw", "_law_draw", defArgs (top 66), defBody (top 66), defScope (top 66), [], []⟩,
  ⟨(fun K => He.ga K "_law_said"), "_law_said", "_law_said", defArgs (top 67), defBody (top 67), defScope (top 67), [], []⟩,
  ⟨(fun K => He.ga K "_law_refused_right"), "_law_refused_right", "_law_refused_right", defArgs (top 68), defBody (top 68), defScope (top 68), [], []⟩,
  ⟨(fun K => He.ga K "_law_joined_right"), "_law_joined_right", "_law_joined_right", defArgs (top 69), defBody (top 69), defScope (top 69), [], []⟩,
  ⟨(fun K => He.ga K "law"), "law", "law", defArgs (top 70), defBody (top 70), defScope (top 70), [], []⟩]
def fn : List He5.DefA := fn0 ++ fn1
def fx0 : List Fx := [xF (.glo "InvalidKeys"), xF (.glo "InvalidName"), xF (.glo "InvalidAllowance"), xF (.glo "UnknownNode"), xF (.glo "NameTaken"), xF (.glo "NotReady"), xF (.glo "TooLow"), xF (.glo "LimitExceeded"), xF (.glo "Entry"), xF (.glo "Cache"), xF (.meth "Cache" "seek"), xF (.meth "Cache" "copied_keys"), xF (.meth "Cache" "allowance"), xF (.meth "Cache" "told"), xF (.meth "Cache" "entry"), xF (.glo "is_word"), xF (.glo "are_keys"), xF (.glo "is_allowance"), xF (.glo "are_allowances"), xF (.glo "send_to_children"), xF (.glo "accept"), xF (.glo "renew"), xF (.glo "start_child"), xF (.glo "add_child"), xF (.glo "hear_copy")]
def fx1 : List Fx := [xF (.glo "Net"), xF (.meth "Net" "join"), xF (.meth "Net" "write"), xF (.meth "Net" "deliver"), xF (.meth "Net" "messages"), xF (.glo "_law_source"), xF (.glo "_law_draw"), xF (.glo "_law_said"), xF (.glo "_law_refused_right"), xF (.glo "_law_joined_right"), xF (.glo "law"), xF (.cls "Cache"), xF (.mkr "Cache"), xF (.noat "Cache" "home"), xF (.noat "Cache" "label"), xF (.noat "Cache" "above"), xF (.noat "Cache" "row"), xF (.noat "Cache" "gone"), xF (.noat "Cache" "cells"), xF (.noat "Cache" "entries"), xF (.noat "Cache" "kids"), xF (.cls "Entry"), xF (.mkr "Entry"), xF (.noat "Entry" "above"), xF (.noat "Entry" "down_link")]
def fx2 : List Fx := [xF (.noat "Entry" "up_link"), xF (.noat "Entry" "cells"), xF (.noat "Entry" "raising"), xF (.noat "Entry" "there"), xF (.noat "Entry" "crashed"), xF (.noat "Entry" "down"), xF (.noat "Entry" "up"), xF (.cls "Net"), xF (.mkr "Net"), xF (.noat "Net" "words"), xF (.noat "Net" "top"), xF (.noat "Net" "nodes"), xF (.noat "Net" "labels"), xF (.noat "Net" "rows"), xF (.noat "Net" "done"), xF (.noat "Net" "kept"), xF (.noat "Net" "accepted"), xF (.noat "Net" "stamps"), xF (.noat "Net" "questions"), xF (.noat "Net" "trails"), xF (.noat "Net" "answered"), xF (.noat "Net" "receipts"), xEcc "InvalidKeys", xXr "InvalidKeys" "given", xEcc "InvalidName"]
def fx3 : List Fx := [xXr "InvalidName" "given", xEcc "InvalidAllowance", xXr "InvalidAllowance" "given", xEcc "UnknownNode", xXr "UnknownNode" "node", xEcc "NameTaken", xXr "NameTaken" "node", xEcc "NotReady", xXr "NotReady" "node", xEcc "TooLow", xXr "TooLow" "least", xEcc "LimitExceeded", xXr "LimitExceeded" "limit", xExm "InvalidName" "InvalidName" true, xExm "NameTaken" "InvalidName" false, xExm "NameTaken" "NameTaken" true, xExm "UnknownNode" "InvalidName" false, xExm "UnknownNode" "NameTaken" false, xExm "UnknownNode" "UnknownNode" true, xExm "InvalidAllowance" "InvalidName" false, xExm "InvalidAllowance" "NameTaken" false, xExm "InvalidAllowance" "UnknownNode" false, xExm "InvalidAllowance" "InvalidAllowance" true, xExm "LimitExceeded" "InvalidName" false, xExm "LimitExceeded" "NameTaken" false]
def fx4 : List Fx := [xExm "LimitExceeded" "UnknownNode" false, xExm "LimitExceeded" "InvalidAllowance" false, xExm "LimitExceeded" "LimitExceeded" true, xExm "NotReady" "InvalidName" false, xExm "NotReady" "NameTaken" false, xExm "NotReady" "UnknownNode" false, xExm "NotReady" "InvalidAllowance" false, xExm "NotReady" "LimitExceeded" false, xExm "NotReady" "NotReady" true, xExm "TooLow" "InvalidName" false, xExm "TooLow" "NameTaken" false, xExm "TooLow" "UnknownNode" false, xExm "TooLow" "InvalidAllowance" false, xExm "TooLow" "LimitExceeded" false, xExm "TooLow" "NotReady" false, xExm "TooLow" "TooLow" true, xProp "Net" "key_names", xProp "Net" "history", xDun "Cache" "__getitem__", xDun "Cache" "__len__", xDun "Net" "__len__", xDun "Net" "__getitem__", xCInt "Net" "MOST" 12, xF (.glo "ARRIVALS"), xVals "ARRIVALS" [("copy", .glo "hear_copy")]]
def fx5 : List Fx := [xF (.int "LONGEST_WORD" 8), xF (.int "MOST_KEYS" 4), xF (.str "STORE" "store"), xF (.int "MOST_WAITING" 20), xF (.int "GREATEST_ALLOWANCE" 99), xF (.free "KeyError"), xF (.free "range"), xF (.free "max"), xF (.free "min"), xF (.free "len"), xF (.free "all"), xF (.free "isinstance"), xF (.free "tuple"), xF (.free "list"), xF (.free "set"), xF (.free "int"), xF (.free "bool"), xF (.free "str"), xF (.free "sorted"), xF (.free "repr"), xF (.free "dict"), xF (.free "any")]
def fx : List Fx := fx0 ++ fx1 ++ fx2 ++ fx3 ++ fx4 ++ fx5
def names0 : List PySem.Str := ["_wall", "CacheError", "InvalidKeys", "InvalidName", "InvalidValue", "InvalidNeed", "InvalidAllowance", "UnknownNode", "UnknownKey", "UnknownQuestion", "NoCopy", "NoMessage", "NameTaken", "NotReady", "HasChildren", "Busy", "TooLow", "LimitExceeded", "Entry", "copied_entry", "Cache", "copied_node", "LONGEST_WORD", "MOST_KEYS", "GREATEST_ALLOWANCE"]
def names1 : List PySem.Str := ["is_integer_within", "is_word", "are_keys", "is_allowance", "are_allowances", "STORE", "send_to_children", "accept", "accept_waiting", "renew", "settle", "settle_all", "start_child", "add_child", "remove_entries", "remove_nodes", "take_leave", "set_allowance", "rows_from", "give", "ask", "hear_question", "hear_answer", "hear_copy", "hear_update"]
def names2 : List PySem.Str := ["hear_lower", "hear_raise", "hear_confirm", "hear_agree", "hear_gone", "ARRIVALS", "MOST_WAITING", "GREATEST_NEED", "Net", "_law_source", "_law_draw", "_law_said", "_law_refused_right", "_law_joined_right"]
def names : List PySem.Str := names0 ++ names1 ++ names2
abbrev R : PySem.W.OpenRow := PySem.W.OpenLaw.row PySem.Challenge.rw_slackcache_k02_joins_and_copies
def ts : List He.Tab := [(fun K => He.ga K "ARRIVALS", ["copy", "update", "lower", "raise", "answer", "confirm", "agree", "question", "gone"])]
abbrev hk : PySem.W.Hook := hookY 5 fx fn ts
def ob (s : PySem.W.SharedT) : AlY := obsYG 5 fx fn ts (HandSHeadRun.getT s)
theorem ob_eq (s : PySem.W.SharedT) : ob s = hk.obs s.abs := obsYG_eq (HandSHeadRun.getT_eq s)
theorem run_f (w : World) : HandSHeadRun.RunEq R (PySem.W.view R.prog [70]) hk ob 60000 names (w.withFollow "special-get-raises" false) := by
  intro os
  kernel_rfl
theorem run_t (w : World) : HandSHeadRun.RunEq R (PySem.W.view R.prog [70]) hk ob 60000 names (w.withFollow "special-get-raises" true) := by
  intro os
  kernel_rfl
theorem run (w : World) : HandSHeadRun.RunEq R (PySem.W.view R.prog [70]) hk ob 60000 names w := PySem.W.byRow2 "special-get-raises" (P := fun w => HandSHeadRun.RunEq R (PySem.W.view R.prog [70]) hk ob 60000 names w) run_f run_t w
section
variable {K : PySem.W.Frag} {h : Heap} {mg : Str → Option Value}
theorem g_InvalidKeys (X : K.In h) (G : h.Ns mainGlobals mg) (c : SaysX fx fn K) : mg "InvalidKeys" = some (.ref (He.ga K "InvalidKeys")) := He.glo_ok X G (c.fact 0)
theorem g_InvalidName (X : K.In h) (G : h.Ns mainGlobals mg) (c : SaysX fx fn K) : mg "InvalidName" = some (.ref (He.ga K "InvalidName")) := He.glo_ok X G (c.fact 1)
theorem g_InvalidAllowance (X : K.In h) (G : h.Ns mainGlobals mg) (c : SaysX fx fn K) : mg "InvalidAllowance" = some (.ref (He.ga K "InvalidAllowance")) := He.glo_ok X G (c.fact 2)
theorem g_UnknownNode (X : K.In h) (G : h.Ns mainGlobals mg) (c : SaysX fx fn K) : mg "UnknownNode" = some (.ref (He.ga K "UnknownNode")) := He.glo_ok X G (c.fact 3)
theorem g_NameTaken (X : K.In h) (G : h.Ns mainGlobals mg) (c : SaysX fx fn K) : mg "NameTaken" = some (.ref (He.ga K "NameTaken")) := He.glo_ok X G (c.fact 4)
theorem g_NotReady (X : K.In h) (G : h.Ns mainGlobals mg) (c : SaysX fx fn K) : mg "NotReady" = some (.ref (He.ga K "NotReady")) := He.glo_ok X G (c.fact 5)
theorem g_TooLow (X : K.In h) (G : h.Ns mainGlobals mg) (c : SaysX fx fn K) : mg "TooLow" = some (.ref (He.ga K "TooLow")) := He.glo_ok X G (c.fact 6)
theorem g_LimitExceeded (X : K.In h) (G : h.Ns mainGlobals mg) (c : SaysX fx fn K) : mg "LimitExceeded" = some (.ref (He.ga K "LimitExceeded")) := He.glo_ok X G (c.fact 7)
theorem g_Entry (X : K.In h) (G : h.Ns mainGlobals mg) (c : SaysX fx fn K) : mg "Entry" = some (.ref (He.ga K "Entry")) := He.glo_ok X G (c.fact 8)
theorem g_Cache (X : K.In h) (G : h.Ns mainGlobals mg) (c : SaysX fx fn K) : mg "Cache" = some (.ref (He.ga K "Cache")) := He.glo_ok X G (c.fact 9)
theorem m_Cache_seek (c : SaysX fx fn K) : Meth K (He.ga K "Cache") "seek" (He.ma K (He.ga K "Cache") "seek") := He.meth_ok (c.fact 10)
theorem m_Cache_copied_keys (c : SaysX fx fn K) : Meth K (He.ga K "Cache") "copied_keys" (He.ma K (He.ga K "Cache") "copied_keys") := He.meth_ok (c.fact 11)
theorem m_Cache_allowance (c : SaysX fx fn K) : Meth K (He.ga K "Cache") "allowance" (He.ma K (He.ga K "Cache") "allowance") := He.meth_ok (c.fact 12)
theorem m_Cache_told (c : SaysX fx fn K) : Meth K (He.ga K "Cache") "told" (He.ma K (He.ga K "Cache") "told") := He.meth_ok (c.fact 13)
theorem m_Cache_entry (c : SaysX fx fn K) : Meth K (He.ga K "Cache") "entry" (He.ma K (He.ga K "Cache") "entry") := He.meth_ok (c.fact 14)
theorem g_is_word (X : K.In h) (G : h.Ns mainGlobals mg) (c : SaysX fx fn K) : mg "is_word" = some (.ref (He.ga K "is_word")) := He.glo_ok X G (c.fact 15)
theorem g_are_keys (X : K.In h) (G : h.Ns mainGlobals mg) (c : SaysX fx fn K) : mg "are_keys" = some (.ref (He.ga K "are_keys")) := He.glo_ok X G (c.fact 16)
theorem g_is_allowance (X : K.In h) (G : h.Ns mainGlobals mg) (c : SaysX fx fn K) : mg "is_allowance" = some (.ref (He.ga K "is_allowance")) := He.glo_ok X G (c.fact 17)
theorem g_are_allowances (X : K.In h) (G : h.Ns mainGlobals mg) (c : SaysX fx fn K) : mg "are_allowances" = some (.ref (He.ga K "are_allowances")) := He.glo_ok X G (c.fact 18)
theorem g_send_to_children (X : K.In h) (G : h.Ns mainGlobals mg) (c : SaysX fx fn K) : mg "send_to_children" = some (.ref (He.ga K "send_to_children")) := He.glo_ok X G (c.fact 19)
theorem g_accept (X : K.In h) (G : h.Ns mainGlobals mg) (c : SaysX fx fn K) : mg "accept" = some (.ref (He.ga K "accept")) := He.glo_ok X G (c.fact 20)
theorem g_renew (X : K.In h) (G : h.Ns mainGlobals mg) (c : SaysX fx fn K) : mg "renew" = some (.ref (He.ga K "renew")) := He.glo_ok X G (c.fact 21)
theorem g_start_child (X : K.In h) (G : h.Ns mainGlobals mg) (c : SaysX fx fn K) : mg "start_child" = some (.ref (He.ga K "start_child")) := He.glo_ok X G (c.fact 22)
theorem g_add_child (X : K.In h) (G : h.Ns mainGlobals mg) (c : SaysX fx fn K) : mg "add_child" = some (.ref (He.ga K "add_child")) := He.glo_ok X G (c.fact 23)
theorem g_hear_copy (X : K.In h) (G : h.Ns mainGlobals mg) (c : SaysX fx fn K) : mg "hear_copy" = some (.ref (He.ga K "hear_copy")) := He.glo_ok X G (c.fact 24)
theorem g_Net (X : K.In h) (G : h.Ns mainGlobals mg) (c : SaysX fx fn K) : mg "Net" = some (.ref (He.ga K "Net")) := He.glo_ok X G (c.fact 25)
theorem m_Net_join (c : SaysX fx fn K) : Meth K (He.ga K "Net") "join" (He.ma K (He.ga K "Net") "join") := He.meth_ok (c.fact 26)
theorem m_Net_write (c : SaysX fx fn K) : Meth K (He.ga K "Net") "write" (He.ma K (He.ga K "Net") "write") := He.meth_ok (c.fact 27)
theorem m_Net_deliver (c : SaysX fx fn K) : Meth K (He.ga K "Net") "deliver" (He.ma K (He.ga K "Net") "deliver") := He.meth_ok (c.fact 28)
theorem m_Net_messages (c : SaysX fx fn K) : Meth K (He.ga K "Net") "messages" (He.ma K (He.ga K "Net") "messages") := He.meth_ok (c.fact 29)
theorem g__law_source (X : K.In h) (G : h.Ns mainGlobals mg) (c : SaysX fx fn K) : mg "_law_source" = some (.ref (He.ga K "_law_source")) := He.glo_ok X G (c.fact 30)
theorem g__law_draw (X : K.In h) (G : h.Ns mainGlobals mg) (c : SaysX fx fn K) : mg "_law_draw" = some (.ref (He.ga K "_law_draw")) := He.glo_ok X G (c.fact 31)
theorem g__law_said (X : K.In h) (G : h.Ns mainGlobals mg) (c : SaysX fx fn K) : mg "_law_said" = some (.ref (He.ga K "_law_said")) := He.glo_ok X G (c.fact 32)
theorem g__law_refused_right (X : K.In h) (G : h.Ns mainGlobals mg) (c : SaysX fx fn K) : mg "_law_refused_right" = some (.ref (He.ga K "_law_refused_right")) := He.glo_ok X G (c.fact 33)
theorem g__law_joined_right (X : K.In h) (G : h.Ns mainGlobals mg) (c : SaysX fx fn K) : mg "_law_joined_right" = some (.ref (He.ga K "_law_joined_right")) := He.glo_ok X G (c.fact 34)
theorem g_law (X : K.In h) (G : h.Ns mainGlobals mg) (c : SaysX fx fn K) : mg "law" = some (.ref (He.ga K "law")) := He.glo_ok X G (c.fact 35)
theorem c_Cache (c : SaysX fx fn K) : Cls K (He.ga K "Cache") := He.cls_ok (c.fact 36)
theorem mk_Cache (c : SaysX fx fn K) : Mk K (He.ga K "Cache") (He.ma K (He.ga K "Cache") "__init__") := He.mkr_ok (c.fact 37)
theorem n_Cache_home (c : SaysX fx fn K) : NoAttr K (He.ga K "Cache") "home" := He.noat_ok (c.fact 38)
theorem n_Cache_label (c : SaysX fx fn K) : NoAttr K (He.ga K "Cache") "label" := He.noat_ok (c.fact 39)
theorem n_Cache_above (c : SaysX fx fn K) : NoAttr K (He.ga K "Cache") "above" := He.noat_ok (c.fact 40)
theorem n_Cache_row (c : SaysX fx fn K) : NoAttr K (He.ga K "Cache") "row" := He.noat_ok (c.fact 41)
theorem n_Cache_gone (c : SaysX fx fn K) : NoAttr K (He.ga K "Cache") "gone" := He.noat_ok (c.fact 42)
theorem n_Cache_cells (c : SaysX fx fn K) : NoAttr K (He.ga K "Cache") "cells" := He.noat_ok (c.fact 43)
theorem n_Cache_entries (c : SaysX fx fn K) : NoAttr K (He.ga K "Cache") "entries" := He.noat_ok (c.fact 44)
theorem n_Cache_kids (c : SaysX fx fn K) : NoAttr K (He.ga K "Cache") "kids" := He.noat_ok (c.fact 45)
theorem c_Entry (c : SaysX fx fn K) : Cls K (He.ga K "Entry") := He.cls_ok (c.fact 46)
theorem mk_Entry (c : SaysX fx fn K) : Mk K (He.ga K "Entry") (He.ma K (He.ga K "Entry") "__init__") := He.mkr_ok (c.fact 47)
theorem n_Entry_above (c : SaysX fx fn K) : NoAttr K (He.ga K "Entry") "above" := He.noat_ok (c.fact 48)
theorem n_Entry_down_link (c : SaysX fx fn K) : NoAttr K (He.ga K "Entry") "down_link" := He.noat_ok (c.fact 49)
theorem n_Entry_up_link (c : SaysX fx fn K) : NoAttr K (He.ga K "Entry") "up_link" := He.noat_ok (c.fact 50)
theorem n_Entry_cells (c : SaysX fx fn K) : NoAttr K (He.ga K "Entry") "cells" := He.noat_ok (c.fact 51)
theorem n_Entry_raising (c : SaysX fx fn K) : NoAttr K (He.ga K "Entry") "raising" := He.noat_ok (c.fact 52)
theorem n_Entry_there (c : SaysX fx fn K) : NoAttr K (He.ga K "Entry") "there" := He.noat_ok (c.fact 53)
theorem n_Entry_crashed (c : SaysX fx fn K) : NoAttr K (He.ga K "Entry") "crashed" := He.noat_ok (c.fact 54)
theorem n_Entry_down (c : SaysX fx fn K) : NoAttr K (He.ga K "Entry") "down" := He.noat_ok (c.fact 55)
theorem n_Entry_up (c : SaysX fx fn K) : NoAttr K (He.ga K "Entry") "up" := He.noat_ok (c.fact 56)
theorem c_Net (c : SaysX fx fn K) : Cls K (He.ga K "Net") := He.cls_ok (c.fact 57)
theorem mk_Net (c : SaysX fx fn K) : Mk K (He.ga K "Net") (He.ma K (He.ga K "Net") "__init__") := He.mkr_ok (c.fact 58)
theorem n_Net_words (c : SaysX fx fn K) : NoAttr K (He.ga K "Net") "words" := He.noat_ok (c.fact 59)
theorem n_Net_top (c : SaysX fx fn K) : NoAttr K (He.ga K "Net") "top" := He.noat_ok (c.fact 60)
theorem n_Net_nodes (c : SaysX fx fn K) : NoAttr K (He.ga K "Net") "nodes" := He.noat_ok (c.fact 61)
theorem n_Net_labels (c : SaysX fx fn K) : NoAttr K (He.ga K "Net") "labels" := He.noat_ok (c.fact 62)
theorem n_Net_rows (c : SaysX fx fn K) : NoAttr K (He.ga K "Net") "rows" := He.noat_ok (c.fact 63)
theorem n_Net_done (c : SaysX fx fn K) : NoAttr K (He.ga K "Net") "done" := He.noat_ok (c.fact 64)
theorem n_Net_kept (c : SaysX fx fn K) : NoAttr K (He.ga K "Net") "kept" := He.noat_ok (c.fact 65)
theorem n_Net_accepted (c : SaysX fx fn K) : NoAttr K (He.ga K "Net") "accepted" := He.noat_ok (c.fact 66)
theorem n_Net_stamps (c : SaysX fx fn K) : NoAttr K (He.ga K "Net") "stamps" := He.noat_ok (c.fact 67)
theorem n_Net_questions (c : SaysX fx fn K) : NoAttr K (He.ga K "Net") "questions" := He.noat_ok (c.fact 68)
theorem n_Net_trails (c : SaysX fx fn K) : NoAttr K (He.ga K "Net") "trails" := He.noat_ok (c.fact 69)
theorem n_Net_answered (c : SaysX fx fn K) : NoAttr K (He.ga K "Net") "answered" := He.noat_ok (c.fact 70)
theorem n_Net_receipts (c : SaysX fx fn K) : NoAttr K (He.ga K "Net") "receipts" := He.noat_ok (c.fact 71)
theorem e_InvalidKeys (c : SaysX fx fn K) : EcC K (He.ga K "InvalidKeys") := ecc_ok (c.fact 72)
theorem r_InvalidKeys (c : SaysX fx fn K) : PySem.W.typeIn K (.ref (He.ga K "InvalidKeys")) = some (.type "type") ∧ PySem.W.findIn K (.ref (He.ga K "InvalidKeys")) "given" = some none ∧ PySem.W.findIn K (.ref (He.ga K "InvalidKeys")) "__init__" = some (some (.ref (He.ma K (He.ga K "InvalidKeys") "__init__"))) ∧ PySem.W.typeIn K (.ref (He.ma K (He.ga K "InvalidKeys") "__init__")) = some (.type "function") ∧ PySem.W.takerIn K (He.ga K "InvalidKeys") "given" = some none := xr_ok (c.fact 73)
theorem e_InvalidName (c : SaysX fx fn K) : EcC K (He.ga K "InvalidName") := ecc_ok (c.fact 74)
theorem r_InvalidName (c : SaysX fx fn K) : PySem.W.typeIn K (.ref (He.ga K "InvalidName")) = some (.type "type") ∧ PySem.W.findIn K (.ref (He.ga K "InvalidName")) "given" = some none ∧ PySem.W.findIn K (.ref (He.ga K "InvalidName")) "__init__" = some (some (.ref (He.ma K (He.ga K "InvalidName") "__init__"))) ∧ PySem.W.typeIn K (.ref (He.ma K (He.ga K "InvalidName") "__init__")) = some (.type "function") ∧ PySem.W.takerIn K (He.ga K "InvalidName") "given" = some none := xr_ok (c.fact 75)
theorem e_InvalidAllowance (c : SaysX fx fn K) : EcC K (He.ga K "InvalidAllowance") := ecc_ok (c.fact 76)
theorem r_InvalidAllowance (c : SaysX fx fn K) : PySem.W.typeIn K (.ref (He.ga K "InvalidAllowance")) = some (.type "type") ∧ PySem.W.findIn K (.ref (He.ga K "InvalidAllowance")) "given" = some none ∧ PySem.W.findIn K (.ref (He.ga K "InvalidAllowance")) "__init__" = some (some (.ref (He.ma K (He.ga K "InvalidAllowance") "__init__"))) ∧ PySem.W.typeIn K (.ref (He.ma K (He.ga K "InvalidAllowance") "__init__")) = some (.type "function") ∧ PySem.W.takerIn K (He.ga K "InvalidAllowance") "given" = some none := xr_ok (c.fact 77)
theorem e_UnknownNode (c : SaysX fx fn K) : EcC K (He.ga K "UnknownNode") := ecc_ok (c.fact 78)
theorem r_UnknownNode (c : SaysX fx fn K) : PySem.W.typeIn K (.ref (He.ga K "UnknownNode")) = some (.type "type") ∧ PySem.W.findIn K (.ref (He.ga K "UnknownNode")) "node" = some none ∧ PySem.W.findIn K (.ref (He.ga K "UnknownNode")) "__init__" = some (some (.ref (He.ma K (He.ga K "UnknownNode") "__init__"))) ∧ PySem.W.typeIn K (.ref (He.ma K (He.ga K "UnknownNode") "__init__")) = some (.type "function") ∧ PySem.W.takerIn K (He.ga K "UnknownNode") "node" = some none := xr_ok (c.fact 79)
theorem e_NameTaken (c : SaysX fx fn K) : EcC K (He.ga K "NameTaken") := ecc_ok (c.fact 80)
theorem r_NameTaken (c : SaysX fx fn K) : PySem.W.typeIn K (.ref (He.ga K "NameTaken")) = some (.type "type") ∧ PySem.W.findIn K (.ref (He.ga K "NameTaken")) "node" = some none ∧ PySem.W.findIn K (.ref (He.ga K "NameTaken")) "__init__" = some (some (.ref (He.ma K (He.ga K "NameTaken") "__init__"))) ∧ PySem.W.typeIn K (.ref (He.ma K (He.ga K "NameTaken") "__init__")) = some (.type "function") ∧ PySem.W.takerIn K (He.ga K "NameTaken") "node" = some none := xr_ok (c.fact 81)
theorem e_NotReady (c : SaysX fx fn K) : EcC K (He.ga K "NotReady") := ecc_ok (c.fact 82)
theorem r_NotReady (c : SaysX fx fn K) : PySem.W.typeIn K (.ref (He.ga K "NotReady")) = some (.type "type") ∧ PySem.W.findIn K (.ref (He.ga K "NotReady")) "node" = some none ∧ PySem.W.findIn K (.ref (He.ga K "NotReady")) "__init__" = some (some (.ref (He.ma K (He.ga K "NotReady") "__init__"))) ∧ PySem.W.typeIn K (.ref (He.ma K (He.ga K "NotReady") "__init__")) = some (.type "function") ∧ PySem.W.takerIn K (He.ga K "NotReady") "node" = some none := xr_ok (c.fact 83)
theorem e_TooLow (c : SaysX fx fn K) : EcC K (He.ga K "TooLow") := ecc_ok (c.fact 84)
theorem r_TooLow (c : SaysX fx fn K) : PySem.W.typeIn K (.ref (He.ga K "TooLow")) = some (.type "type") ∧ PySem.W.findIn K (.ref (He.ga K "TooLow")) "least" = some none ∧ PySem.W.findIn K (.ref (He.ga K "TooLow")) "__init__" = some (some (.ref (He.ma K (He.ga K "TooLow") "__init__"))) ∧ PySem.W.typeIn K (.ref (He.ma K (He.ga K "TooLow") "__init__")) = some (.type "function") ∧ PySem.W.takerIn K (He.ga K "TooLow") "least" = some none := xr_ok (c.fact 85)
theorem e_LimitExceeded (c : SaysX fx fn K) : EcC K (He.ga K "LimitExceeded") := ecc_ok (c.fact 86)
theorem r_LimitExceeded (c : SaysX fx fn K) : PySem.W.typeIn K (.ref (He.ga K "LimitExceeded")) = some (.type "type") ∧ PySem.W.findIn K (.ref (He.ga K "LimitExceeded")) "limit" = some none ∧ PySem.W.findIn K (.ref (He.ga K "LimitExceeded")) "__init__" = some (some (.ref (He.ma K (He.ga K "LimitExceeded") "__init__"))) ∧ PySem.W.typeIn K (.ref (He.ma K (He.ga K "LimitExceeded") "__init__")) = some (.type "function") ∧ PySem.W.takerIn K (He.ga K "LimitExceeded") "limit" = some none := xr_ok (c.fact 87)
theorem ex_InvalidName_InvalidName (c : SaysX fx fn K) : PySem.W.exmOne K (.ref (He.ga K "InvalidName")) (.ref (He.ga K "InvalidName")) = some true := of_decide_eq_true (c.fact 88)
theorem ex_NameTaken_InvalidName (c : SaysX fx fn K) : PySem.W.exmOne K (.ref (He.ga K "NameTaken")) (.ref (He.ga K "InvalidName")) = some false := of_decide_eq_true (c.fact 89)
theorem ex_NameTaken_NameTaken (c : SaysX fx fn K) : PySem.W.exmOne K (.ref (He.ga K "NameTaken")) (.ref (He.ga K "NameTaken")) = some true := of_decide_eq_true (c.fact 90)
theorem ex_UnknownNode_InvalidName (c : SaysX fx fn K) : PySem.W.exmOne K (.ref (He.ga K "UnknownNode")) (.ref (He.ga K "InvalidName")) = some false := of_decide_eq_true (c.fact 91)
theorem ex_UnknownNode_NameTaken (c : SaysX fx fn K) : PySem.W.exmOne K (.ref (He.ga K "UnknownNode")) (.ref (He.ga K "NameTaken")) = some false := of_decide_eq_true (c.fact 92)
theorem ex_UnknownNode_UnknownNode (c : SaysX fx fn K) : PySem.W.exmOne K (.ref (He.ga K "UnknownNode")) (.ref (He.ga K "UnknownNode")) = some true := of_decide_eq_true (c.fact 93)
theorem ex_InvalidAllowance_InvalidName (c : SaysX fx fn K) : PySem.W.exmOne K (.ref (He.ga K "InvalidAllowance")) (.ref (He.ga K "InvalidName")) = some false := of_decide_eq_true (c.fact 94)
theorem ex_InvalidAllowance_NameTaken (c : SaysX fx fn K) : PySem.W.exmOne K (.ref (He.ga K "InvalidAllowance")) (.ref (He.ga K "NameTaken")) = some false := of_decide_eq_true (c.fact 95)
theorem ex_InvalidAllowance_UnknownNode (c : SaysX fx fn K) : PySem.W.exmOne K (.ref (He.ga K "InvalidAllowance")) (.ref (He.ga K "UnknownNode")) = some false := of_decide_eq_true (c.fact 96)
theorem ex_InvalidAllowance_InvalidAllowance (c : SaysX fx fn K) : PySem.W.exmOne K (.ref (He.ga K "InvalidAllowance")) (.ref (He.ga K "InvalidAllowance")) = some true := of_decide_eq_true (c.fact 97)
theorem ex_LimitExceeded_InvalidName (c : SaysX fx fn K) : PySem.W.exmOne K (.ref (He.ga K "LimitExceeded")) (.ref (He.ga K "InvalidName")) = some false := of_decide_eq_true (c.fact 98)
theorem ex_LimitExceeded_NameTaken (c : SaysX fx fn K) : PySem.W.exmOne K (.ref (He.ga K "LimitExceeded")) (.ref (He.ga K "NameTaken")) = some false := of_decide_eq_true (c.fact 99)
theorem ex_LimitExceeded_UnknownNode (c : SaysX fx fn K) : PySem.W.exmOne K (.ref (He.ga K "LimitExceeded")) (.ref (He.ga K "UnknownNode")) = some false := of_decide_eq_true (c.fact 100)
theorem ex_LimitExceeded_InvalidAllowance (c : SaysX fx fn K) : PySem.W.exmOne K (.ref (He.ga K "LimitExceeded")) (.ref (He.ga K "InvalidAllowance")) = some false := of_decide_eq_true (c.fact 101)
theorem ex_LimitExceeded_LimitExceeded (c : SaysX fx fn K) : PySem.W.exmOne K (.ref (He.ga K "LimitExceeded")) (.ref (He.ga K "LimitExceeded")) = some true := of_decide_eq_true (c.fact 102)
theorem ex_NotReady_InvalidName (c : SaysX fx fn K) : PySem.W.exmOne K (.ref (He.ga K "NotReady")) (.ref (He.ga K "InvalidName")) = some false := of_decide_eq_true (c.fact 103)
theorem ex_NotReady_NameTaken (c : SaysX fx fn K) : PySem.W.exmOne K (.ref (He.ga K "NotReady")) (.ref (He.ga K "NameTaken")) = some false := of_decide_eq_true (c.fact 104)
theorem ex_NotReady_UnknownNode (c : SaysX fx fn K) : PySem.W.exmOne K (.ref (He.ga K "NotReady")) (.ref (He.ga K "UnknownNode")) = some false := of_decide_eq_true (c.fact 105)
theorem ex_NotReady_InvalidAllowance (c : SaysX fx fn K) : PySem.W.exmOne K (.ref (He.ga K "NotReady")) (.ref (He.ga K "InvalidAllowance")) = some false := of_decide_eq_true (c.fact 106)
theorem ex_NotReady_LimitExceeded (c : SaysX fx fn K) : PySem.W.exmOne K (.ref (He.ga K "NotReady")) (.ref (He.ga K "LimitExceeded")) = some false := of_decide_eq_true (c.fact 107)
theorem ex_NotReady_NotReady (c : SaysX fx fn K) : PySem.W.exmOne K (.ref (He.ga K "NotReady")) (.ref (He.ga K "NotReady")) = some true := of_decide_eq_true (c.fact 108)
theorem ex_TooLow_InvalidName (c : SaysX fx fn K) : PySem.W.exmOne K (.ref (He.ga K "TooLow")) (.ref (He.ga K "InvalidName")) = some false := of_decide_eq_true (c.fact 109)
theorem ex_TooLow_NameTaken (c : SaysX fx fn K) : PySem.W.exmOne K (.ref (He.ga K "TooLow")) (.ref (He.ga K "NameTaken")) = some false := of_decide_eq_true (c.fact 110)
theorem ex_TooLow_UnknownNode (c : SaysX fx fn K) : PySem.W.exmOne K (.ref (He.ga K "TooLow")) (.ref (He.ga K "UnknownNode")) = some false := of_decide_eq_true (c.fact 111)
theorem ex_TooLow_InvalidAllowance (c : SaysX fx fn K) : PySem.W.exmOne K (.ref (He.ga K "TooLow")) (.ref (He.ga K "InvalidAllowance")) = some false := of_decide_eq_true (c.fact 112)
theorem ex_TooLow_LimitExceeded (c : SaysX fx fn K) : PySem.W.exmOne K (.ref (He.ga K "TooLow")) (.ref (He.ga K "LimitExceeded")) = some false := of_decide_eq_true (c.fact 113)
theorem ex_TooLow_NotReady (c : SaysX fx fn K) : PySem.W.exmOne K (.ref (He.ga K "TooLow")) (.ref (He.ga K "NotReady")) = some false := of_decide_eq_true (c.fact 114)
theorem ex_TooLow_TooLow (c : SaysX fx fn K) : PySem.W.exmOne K (.ref (He.ga K "TooLow")) (.ref (He.ga K "TooLow")) = some true := of_decide_eq_true (c.fact 115)
theorem p_Net_key_names (c : SaysX fx fn K) : PropOf K (He.ga K "Net") "key_names" (He.ma K (He.ga K "Net") "key_names") (pg "Net" "key_names" K) := prop_ok (c.fact 116)
theorem p_Net_history (c : SaysX fx fn K) : PropOf K (He.ga K "Net") "history" (He.ma K (He.ga K "Net") "history") (pg "Net" "history" K) := prop_ok (c.fact 117)
theorem u_Cache___getitem__ (c : SaysX fx fn K) : PySem.W.findIn K (.ref (He.ga K "Cache")) "__getitem__" = some (some (.ref (He.ma K (He.ga K "Cache") "__getitem__"))) ∧ PySem.W.isFn K (.ref (He.ma K (He.ga K "Cache") "__getitem__")) = true ∧ PySem.W.fnIn K (He.ma K (He.ga K "Cache") "__getitem__") = true := dun_ok (c.fact 118)
theorem u_Cache___len__ (c : SaysX fx fn K) : PySem.W.findIn K (.ref (He.ga K "Cache")) "__len__" = some (some (.ref (He.ma K (He.ga K "Cache") "__len__"))) ∧ PySem.W.isFn K (.ref (He.ma K (He.ga K "Cache") "__len__")) = true ∧ PySem.W.fnIn K (He.ma K (He.ga K "Cache") "__len__") = true := dun_ok (c.fact 119)
theorem u_Net___len__ (c : SaysX fx fn K) : PySem.W.findIn K (.ref (He.ga K "Net")) "__len__" = some (some (.ref (He.ma K (He.ga K "Net") "__len__"))) ∧ PySem.W.isFn K (.ref (He.ma K (He.ga K "Net") "__len__")) = true ∧ PySem.W.fnIn K (He.ma K (He.ga K "Net") "__len__") = true := dun_ok (c.fact 120)
theorem u_Net___getitem__ (c : SaysX fx fn K) : PySem.W.findIn K (.ref (He.ga K "Net")) "__getitem__" = some (some (.ref (He.ma K (He.ga K "Net") "__getitem__"))) ∧ PySem.W.isFn K (.ref (He.ma K (He.ga K "Net") "__getitem__")) = true ∧ PySem.W.fnIn K (He.ma K (He.ga K "Net") "__getitem__") = true := dun_ok (c.fact 121)
theorem ci_Net_MOST (c : SaysX fx fn K) : ClX.CRead K (He.ga K "Net") (.type "type") ∧ ∃ t, ClX.CVal K (He.ga K "Net") (.type "type") "MOST" (.int 12) (.int 12 t) := cint_ok (c.fact 122)
theorem g_ARRIVALS (X : K.In h) (G : h.Ns mainGlobals mg) (c : SaysX fx fn K) : mg "ARRIVALS" = some (.ref (He.ga K "ARRIVALS")) := He.glo_ok X G (c.fact 123)
theorem v_ARRIVALS_copy (c : SaysX fx fn K) : PySem.W.nsIn K (He.ga K "ARRIVALS") "copy" = some (some (.ref (He.ga K "hear_copy"))) := vals_ref (c.fact 124) (.head _)
theorem k_LONGEST_WORD (X : K.In h) (G : h.Ns mainGlobals mg) (c : SaysX fx fn K) : ∃ t, mg "LONGEST_WORD" = some (.int 8 t) := He.int_ok X G (c.fact 125)
theorem k_MOST_KEYS (X : K.In h) (G : h.Ns mainGlobals mg) (c : SaysX fx fn K) : ∃ t, mg "MOST_KEYS" = some (.int 4 t) := He.int_ok X G (c.fact 126)
theorem k_STORE (X : K.In h) (G : h.Ns mainGlobals mg) (c : SaysX fx fn K) : ∃ t, mg "STORE" = some (.str "store" t) := He.str_ok X G (c.fact 127)
theorem k_MOST_WAITING (X : K.In h) (G : h.Ns mainGlobals mg) (c : SaysX fx fn K) : ∃ t, mg "MOST_WAITING" = some (.int 20 t) := He.int_ok X G (c.fact 128)
theorem k_GREATEST_ALLOWANCE (X : K.In h) (G : h.Ns mainGlobals mg) (c : SaysX fx fn K) : ∃ t, mg "GREATEST_ALLOWANCE" = some (.int 99 t) := He.int_ok X G (c.fact 129)
theorem z_KeyError (X : K.In h) (G : h.Ns mainGlobals mg) (c : SaysX fx fn K) : mg "KeyError" = none := He.free_ok X G (c.fact 130)
theorem z_range (X : K.In h) (G : h.Ns mainGlobals mg) (c : SaysX fx fn K) : mg "range" = none := He.free_ok X G (c.fact 131)
theorem z_max (X : K.In h) (G : h.Ns mainGlobals mg) (c : SaysX fx fn K) : mg "max" = none := He.free_ok X G (c.fact 132)
theorem z_min (X : K.In h) (G : h.Ns mainGlobals mg) (c : SaysX fx fn K) : mg "min" = none := He.free_ok X G (c.fact 133)
theorem z_len (X : K.In h) (G : h.Ns mainGlobals mg) (c : SaysX fx fn K) : mg "len" = none := He.free_ok X G (c.fact 134)
theorem z_all (X : K.In h) (G : h.Ns mainGlobals mg) (c : SaysX fx fn K) : mg "all" = none := He.free_ok X G (c.fact 135)
theorem z_isinstance (X : K.In h) (G : h.Ns mainGlobals mg) (c : SaysX fx fn K) : mg "isinstance" = none := He.free_ok X G (c.fact 136)
theorem z_tuple (X : K.In h) (G : h.Ns mainGlobals mg) (c : SaysX fx fn K) : mg "tuple" = none := He.free_ok X G (c.fact 137)
theorem z_list (X : K.In h) (G : h.Ns mainGlobals mg) (c : SaysX fx fn K) : mg "list" = none := He.free_ok X G (c.fact 138)
theorem z_set (X : K.In h) (G : h.Ns mainGlobals mg) (c : SaysX fx fn K) : mg "set" = none := He.free_ok X G (c.fact 139)
theorem z_int (X : K.In h) (G : h.Ns mainGlobals mg) (c : SaysX fx fn K) : mg "int" = none := He.free_ok X G (c.fact 140)
theorem z_bool (X : K.In h) (G : h.Ns mainGlobals mg) (c : SaysX fx fn K) : mg "bool" = none := He.free_ok X G (c.fact 141)
theorem z_str (X : K.In h) (G : h.Ns mainGlobals mg) (c : SaysX fx fn K) : mg "str" = none := He.free_ok X G (c.fact 142)
theorem z_sorted (X : K.In h) (G : h.Ns mainGlobals mg) (c : SaysX fx fn K) : mg "sorted" = none := He.free_ok X G (c.fact 143)
theorem z_repr (X : K.In h) (G : h.Ns mainGlobals mg) (c : SaysX fx fn K) : mg "repr" = none := He.free_ok X G (c.fact 144)
theorem z_dict (X : K.In h) (G : h.Ns mainGlobals mg) (c : SaysX fx fn K) : mg "dict" = none := He.free_ok X G (c.fact 145)
theorem z_any (X : K.In h) (G : h.Ns mainGlobals mg) (c : SaysX fx fn K) : mg "any" = none := He.free_ok X G (c.fact 146)
theorem d_InvalidKeys___init__ (c : SaysX fx fn K) : ∃ fd, Fun K "__init__" "InvalidKeys.__init__" (inClass (top 3) 0) (He.ma K (He.ga K "InvalidKeys") "__init__") fd := by
  obtain ⟨fd, F⟩ := c.def_ 0
  exact ⟨fd, He5.fun_of (st := inClass (top 3) 0) F⟩
theorem d_InvalidName___init__ (c : SaysX fx fn K) : ∃ fd, Fun K "__init__" "InvalidName.__init__" (inClass (top 4) 0) (He.ma K (He.ga K "InvalidName") "__init__") fd := by
  obtain ⟨fd, F⟩ := c.def_ 1
  exact ⟨fd, He5.fun_of (st := inClass (top 4) 0) F⟩
theorem d_InvalidAllowance___init__ (c : SaysX fx fn K) : ∃ fd, Fun K "__init__" "InvalidAllowance.__init__" (inClass (top 7) 0) (He.ma K (He.ga K "InvalidAllowance") "__init__") fd := by
  obtain ⟨fd, F⟩ := c.def_ 2
  exact ⟨fd, He5.fun_of (st := inClass (top 7) 0) F⟩
theorem d_UnknownNode___init__ (c : SaysX fx fn K) : ∃ fd, Fun K "__init__" "UnknownNode.__init__" (inClass (top 8) 0) (He.ma K (He.ga K "UnknownNode") "__init__") fd := by
  obtain ⟨fd, F⟩ := c.def_ 3
  exact ⟨fd, He5.fun_of (st := inClass (top 8) 0) F⟩
theorem d_NameTaken___init__ (c : SaysX fx fn K) : ∃ fd, Fun K "__init__" "NameTaken.__init__" (inClass (top 13) 0) (He.ma K (He.ga K "NameTaken") "__init__") fd := by
  obtain ⟨fd, F⟩ := c.def_ 4
  exact ⟨fd, He5.fun_of (st := inClass (top 13) 0) F⟩
theorem d_NotReady___init__ (c : SaysX fx fn K) : ∃ fd, Fun K "__init__" "NotReady.__init__" (inClass (top 14) 0) (He.ma K (He.ga K "NotReady") "__init__") fd := by
  obtain ⟨fd, F⟩ := c.def_ 5
  exact ⟨fd, He5.fun_of (st := inClass (top 14) 0) F⟩
theorem d_TooLow___init__ (c : SaysX fx fn K) : ∃ fd, Fun K "__init__" "TooLow.__init__" (inClass (top 17) 0) (He.ma K (He.ga K "TooLow") "__init__") fd := by
  obtain ⟨fd, F⟩ := c.def_ 6
  exact ⟨fd, He5.fun_of (st := inClass (top 17) 0) F⟩
theorem d_LimitExceeded___init__ (c : SaysX fx fn K) : ∃ fd, Fun K "__init__" "LimitExceeded.__init__" (inClass (top 18) 0) (He.ma K (He.ga K "LimitExceeded") "__init__") fd := by
  obtain ⟨fd, F⟩ := c.def_ 7
  exact ⟨fd, He5.fun_of (st := inClass (top 18) 0) F⟩
theorem d_Entry___init__ (c : SaysX fx fn K) : ∃ fd, Fun K "__init__" "Entry.__init__" (inClass (top 20) 0) (He.ma K (He.ga K "Entry") "__init__") fd := by
  obtain ⟨fd, F⟩ := c.def_ 8
  exact ⟨fd, He5.fun_of (st := inClass (top 20) 0) F⟩
theorem d_Cache___init__ (c : SaysX fx fn K) : ∃ fd, Fun K "__init__" "Cache.__init__" (inClass (top 22) 0) (He.ma K (He.ga K "Cache") "__init__") fd := by
  obtain ⟨fd, F⟩ := c.def_ 9
  exact ⟨fd, He5.fun_of (st := inClass (top 22) 0) F⟩
theorem d_Cache_seek (c : SaysX fx fn K) : ∃ fd, Fun K "seek" "Cache.seek" (inClass (top 22) 2) (He.ma K (He.ga K "Cache") "seek") fd := by
  obtain ⟨fd, F⟩ := c.def_ 10
  exact ⟨fd, He5.fun_of (st := inClass (top 22) 2) F⟩
theorem d_Cache_copied_keys (c : SaysX fx fn K) : ∃ fd, Fun K "copied_keys" "Cache.copied_keys" (inClass (top 22) 4) (He.ma K (He.ga K "Cache") "copied_keys") fd := by
  obtain ⟨fd, F⟩ := c.def_ 11
  exact ⟨fd, He5.fun_of (st := inClass (top 22) 4) F⟩
theorem d_Cache___getitem__ (c : SaysX fx fn K) : ∃ fd, Fun K "__getitem__" "Cache.__getitem__" (inClass (top 22) 9) (He.ma K (He.ga K "Cache") "__getitem__") fd := by
  obtain ⟨fd, F⟩ := c.def_ 12
  exact ⟨fd, He5.fun_of (st := inClass (top 22) 9) F⟩
theorem d_Cache___len__ (c : SaysX fx fn K) : ∃ fd, Fun K "__len__" "Cache.__len__" (inClass (top 22) 11) (He.ma K (He.ga K "Cache") "__len__") fd := by
  obtain ⟨fd, F⟩ := c.def_ 13
  exact ⟨fd, He5.fun_of (st := inClass (top 22) 11) F⟩
theorem d_Cache_allowance (c : SaysX fx fn K) : ∃ fd, Fun K "allowance" "Cache.allowance" (inClass (top 22) 14) (He.ma K (He.ga K "Cache") "allowance") fd := by
  obtain ⟨fd, F⟩ := c.def_ 14
  exact ⟨fd, He5.fun_of (st := inClass (top 22) 14) F⟩
theorem d_Cache_told (c : SaysX fx fn K) : ∃ fd, Fun K "told" "Cache.told" (inClass (top 22) 15) (He.ma K (He.ga K "Cache") "told") fd := by
  obtain ⟨fd, F⟩ := c.def_ 15
  exact ⟨fd, He5.fun_of (st := inClass (top 22) 15) F⟩
theorem d_Cache_entry (c : SaysX fx fn K) : ∃ fd, Fun K "entry" "Cache.entry" (inClass (top 22) 18) (He.ma K (He.ga K "Cache") "entry") fd := by
  obtain ⟨fd, F⟩ := c.def_ 16
  exact ⟨fd, He5.fun_of (st := inClass (top 22) 18) F⟩
theorem d_is_word (c : SaysX fx fn K) : ∃ fd, Fun K "is_word" "is_word" (top 29) (He.ga K "is_word") fd := by
  obtain ⟨fd, F⟩ := c.def_ 17
  exact ⟨fd, He5.fun_of (st := top 29) F⟩
theorem d_are_keys (c : SaysX fx fn K) : ∃ fd, Fun K "are_keys" "are_keys" (top 30) (He.ga K "are_keys") fd := by
  obtain ⟨fd, F⟩ := c.def_ 18
  exact ⟨fd, He5.fun_of (st := top 30) F⟩
theorem d_is_allowance (c : SaysX fx fn K) : ∃ fd, Fun K "is_allowance" "is_allowance" (top 31) (He.ga K "is_allowance") fd := by
  obtain ⟨fd, F⟩ := c.def_ 19
  exact ⟨fd, He5.fun_of (st := top 31) F⟩
theorem d_are_allowances (c : SaysX fx fn K) : ∃ fd, Fun K "are_allowances" "are_allowances" (top 32) (He.ga K "are_allowances") fd := by
  obtain ⟨fd, F⟩ := c.def_ 20
  exact ⟨fd, He5.fun_of (st := top 32) F⟩
theorem d_send_to_children (c : SaysX fx fn K) : ∃ fd, Fun K "send_to_children" "send_to_children" (top 35) (He.ga K "send_to_children") fd := by
  obtain ⟨fd, F⟩ := c.def_ 21
  exact ⟨fd, He5.fun_of (st := top 35) F⟩
theorem d_accept (c : SaysX fx fn K) : ∃ fd, Fun K "accept" "accept" (top 36) (He.ga K "accept") fd := by
  obtain ⟨fd, F⟩ := c.def_ 22
  exact ⟨fd, He5.fun_of (st := top 36) F⟩
theorem d_renew (c : SaysX fx fn K) : ∃ fd, Fun K "renew" "renew" (top 38) (He.ga K "renew") fd := by
  obtain ⟨fd, F⟩ := c.def_ 23
  exact ⟨fd, He5.fun_of (st := top 38) F⟩
theorem d_start_child (c : SaysX fx fn K) : ∃ fd, Fun K "start_child" "start_child" (top 41) (He.ga K "start_child") fd := by
  obtain ⟨fd, F⟩ := c.def_ 24
  exact ⟨fd, He5.fun_of (st := top 41) F⟩
theorem d_add_child (c : SaysX fx fn K) : ∃ fd, Fun K "add_child" "add_child" (top 42) (He.ga K "add_child") fd := by
  obtain ⟨fd, F⟩ := c.def_ 25
  exact ⟨fd, He5.fun_of (st := top 42) F⟩
theorem d_hear_copy (c : SaysX fx fn K) : ∃ fd, Fun K "hear_copy" "hear_copy" (top 52) (He.ga K "hear_copy") fd := by
  obtain ⟨fd, F⟩ := c.def_ 26
  exact ⟨fd, He5.fun_of (st := top 52) F⟩
theorem d_Net___init__ (c : SaysX fx fn K) : ∃ fd, Fun K "__init__" "Net.__init__" (inClass (top 63) 1) (He.ma K (He.ga K "Net") "__init__") fd := by
  obtain ⟨fd, F⟩ := c.def_ 27
  exact ⟨fd, He5.fun_of (st := inClass (top 63) 1) F⟩
theorem d_Net_key_names (c : SaysX fx fn K) : ∃ fd, Fun K "key_names" "Net.key_names" (inClass (top 63) 2) (HkX.pg "Net" "key_names" K) fd := by
  obtain ⟨fd, F⟩ := c.def_ 28
  exact ⟨fd, He5.fun_of (st := inClass (top 63) 2) F⟩
theorem d_Net_history (c : SaysX fx fn K) : ∃ fd, Fun K "history" "Net.history" (inClass (top 63) 4) (HkX.pg "Net" "history" K) fd := by
  obtain ⟨fd, F⟩ := c.def_ 29
  exact ⟨fd, He5.fun_of (st := inClass (top 63) 4) F⟩
theorem d_Net___len__ (c : SaysX fx fn K) : ∃ fd, Fun K "__len__" "Net.__len__" (inClass (top 63) 6) (He.ma K (He.ga K "Net") "__len__") fd := by
  obtain ⟨fd, F⟩ := c.def_ 30
  exact ⟨fd, He5.fun_of (st := inClass (top 63) 6) F⟩
theorem d_Net___getitem__ (c : SaysX fx fn K) : ∃ fd, Fun K "__getitem__" "Net.__getitem__" (inClass (top 63) 8) (He.ma K (He.ga K "Net") "__getitem__") fd := by
  obtain ⟨fd, F⟩ := c.def_ 31
  exact ⟨fd, He5.fun_of (st := inClass (top 63) 8) F⟩
theorem d_Net_join (c : SaysX fx fn K) : ∃ fd, Fun K "join" "Net.join" (inClass (top 63) 14) (He.ma K (He.ga K "Net") "join") fd := by
  obtain ⟨fd, F⟩ := c.def_ 32
  exact ⟨fd, He5.fun_of (st := inClass (top 63) 14) F⟩
theorem d_Net_write (c : SaysX fx fn K) : ∃ fd, Fun K "write" "Net.write" (inClass (top 63) 15) (He.ma K (He.ga K "Net") "write") fd := by
  obtain ⟨fd, F⟩ := c.def_ 33
  exact ⟨fd, He5.fun_of (st := inClass (top 63) 15) F⟩
theorem d_Net_deliver (c : SaysX fx fn K) : ∃ fd, Fun K "deliver" "Net.deliver" (inClass (top 63) 18) (He.ma K (He.ga K "Net") "deliver") fd := by
  obtain ⟨fd, F⟩ := c.def_ 34
  exact ⟨fd, He5.fun_of (st := inClass (top 63) 18) F⟩
theorem d_Net_messages (c : SaysX fx fn K) : ∃ fd, Fun K "messages" "Net.messages" (inClass (top 63) 29) (He.ma K (He.ga K "Net") "messages") fd := by
  obtain ⟨fd, F⟩ := c.def_ 35
  exact ⟨fd, He5.fun_of (st := inClass (top 63) 29) F⟩
theorem d__law_source (c : SaysX fx fn K) : ∃ fd, Fun K "_law_source" "_law_source" (top 65) (He.ga K "_law_source") fd := by
  obtain ⟨fd, F⟩ := c.def_ 36
  exact ⟨fd, He5.fun_of (st := top 65) F⟩
theorem d__law_draw (c : SaysX fx fn K) : ∃ fd, Fun K "_law_draw" "_law_draw" (top 66) (He.ga K "_law_draw") fd := by
  obtain ⟨fd, F⟩ := c.def_ 37
  exact ⟨fd, He5.fun_of (st := top 66) F⟩
theorem d__law_said (c : SaysX fx fn K) : ∃ fd, Fun K "_law_said" "_law_said" (top 67) (He.ga K "_law_said") fd := by
  obtain ⟨fd, F⟩ := c.def_ 38
  exact ⟨fd, He5.fun_of (st := top 67) F⟩
theorem d__law_refused_right (c : SaysX fx fn K) : ∃ fd, Fun K "_law_refused_right" "_law_refused_right" (top 68) (He.ga K "_law_refused_right") fd := by
  obtain ⟨fd, F⟩ := c.def_ 39
  exact ⟨fd, He5.fun_of (st := top 68) F⟩
theorem d__law_joined_right (c : SaysX fx fn K) : ∃ fd, Fun K "_law_joined_right" "_law_joined_right" (top 69) (He.ga K "_law_joined_right") fd := by
  obtain ⟨fd, F⟩ := c.def_ 40
  exact ⟨fd, He5.fun_of (st := top 69) F⟩
theorem d_law (c : SaysX fx fn K) : ∃ fd, Fun K "law" "law" (top 70) (He.ga K "law") fd := by
  obtain ⟨fd, F⟩ := c.def_ 41
  exact ⟨fd, He5.fun_of (st := top 70) F⟩
end
end HX02
set_option Elab.async false
set_option linter.all false
set_option maxRecDepth 100000
set_option maxHeartbeats 4000000
namespace EX
open PySem L2 PyProof.Rows
/-- the eight objects, n the drawn number, each with what it is as plain data -/
inductive ItemOk (H : Hp) (n : Int) : V → PyData → Prop where
  | int : ItemOk H n (.int n) (.int n)
  | non : ItemOk H n .non .none
  | bl : ItemOk H n (.bl true) (.bool true)
  | str : ItemOk H n (.str "text") (.str "text")
  | tup {t : Addr} (h : H t = some (.tup [.int 1, .int 2])) : ItemOk H n (.ref t) (.tuple [.int 1, .int 2])
  | lst {t : Addr} (h : H t = some (.lst [.int n])) : ItemOk H n (.ref t) (.list [.int n])
  | dic {t : Addr} (h : H t = some (.dK [(Sum.inl 1, .int n)])) : ItemOk H n (.ref t) (.dict [(.int 1, .int n)])
  | nil {t : Addr} (h : H t = some (.tup [])) : ItemOk H n (.ref t) (.tuple [])
theorem ItemOk.mono {H H' : Hp} {n : Int} {v : V} {d : PyData} (s : Same H H') (h : ItemOk H n v d) : ItemOk H' n v d := by
  cases h with
  | int => exact .int
  | non => exact .non
  | bl => exact .bl
  | str => exact .str
  | tup h => exact .tup (s _ _ h)
  | lst h => exact .lst (s _ _ h)
  | dic h => exact .dic (s _ _ h)
  | nil h => exact .nil (s _ _ h)
theorem ItemOk.rp {K : PySem.W.Frag} {H : Hp} {n : Int} {v : V} {d : PyData} (h : ItemOk H n v d) : Rp K H v d := by
  cases h with
  | int => exact .dp (.int n) rfl
  | non => exact .dp .non rfl
  | bl => exact .dp (.bl true) rfl
  | str => exact .dp (.str _) rfl
  | tup h => exact .dp (.tup (SqT.of h) (.cons (.int 1) (.cons (.int 2) .nil))) (by decide)
  | lst h => exact .dp (.lst (SqL.of h) (.cons (.int n) .nil)) rfl
  | dic h => exact .dic h
  | nil h => exact .dp (.tup (SqT.of h) .nil) rfl
theorem ItemOk.small {H : Hp} {n : Int} {v : V} {d : PyData} (h : ItemOk H n v d) (h0 : -500 ≤ n) (h1 : n < 1000000) : d.showable = true ∧ d.depth ≤ 60 ∧ d.shown.length ≤ sizeLine := by
  have hn : (toString n).length ≤ 8 := int_text_length_le10 (k := 7) (by decide) (by omega)
  have hl : n.natAbs.log2 < 1920 := Nat.lt_of_lt_of_le (PySem.Flt.log2_lt_of (k := 20) (by decide) (by omega)) (by decide)
  have hs : PyData.showable (.int n) = true := by
    show decide (n.natAbs.log2 < 1920) = true
    exact decide_eq_true hl
  have hz : (PyData.shown (.int n)).length ≤ 8 := by
    show (Str.ofString (toString n)).length ≤ 8
    rw [PySem.ofString_length]
    exact hn
  cases h with
  | int => exact ⟨hs, (show 0 ≤ 60 by decide), Nat.le_trans hz (by decide)⟩
  | non => exact ⟨rfl, by decide, by decide +kernel⟩
  | bl => exact ⟨rfl, by decide, by decide +kernel⟩
  | str => exact ⟨rfl, by decide, by decide +kernel⟩
  | tup h => exact ⟨by decide +kernel, by decide, by decide +kernel⟩
  | lst h =>
    refine ⟨by show (PyData.showable (.int n) && true) = true; rw [hs]; rfl, (show 0 + 1 ≤ 60 by decide), ?_⟩
    show (listText [PyData.shown (.int n)]).length ≤ sizeLine
    show ((((("[" : Str) ++ ("" : String)) ++ PyData.shown (.int n)) ++ "]" : Str)).length ≤ sizeLine
    rw [strLen_append, strLen_append, strLen_append]
    have e1 : ("[" : Str).length = 1 := rfl
    have e2 : ((("" : String) : Str)).length = 0 := rfl
    have e3 : ((("]" : String) : Str)).length = 1 := rfl
    rw [sizeLine_eq]
    omega
  | dic h =>
    refine ⟨by show (PyData.showable (.int 1) && PyData.showable (.int n) && true) = true; rw [hs]; rfl, (show 0 + 1 ≤ 60 by decide), ?_⟩
    show (dictText [PyData.shown (.int 1) ++ ": " ++ PyData.shown (.int n)]).length ≤ sizeLine
    show (((("{" : Str) ++ (PyData.shown (.int 1) ++ ": " ++ PyData.shown (.int n))) ++ "}" : Str)).length ≤ sizeLine
    rw [strLen_append, strLen_append, strLen_append, strLen_append]
    have e1 : ("{" : Str).length = 1 := rfl
    have e2 : (PyData.shown (.int 1)).length = 1 := by decide +kernel
    have e3 : (((": " : String) : Str)).length = 2 := rfl
    have e4 : ((("}" : String) : Str)).length = 1 := rfl
    rw [sizeLine_eq]
    omega
  | nil h => exact ⟨rfl, by decide, by decide +kernel⟩
/-- lists of bools as data -/
theorem canB : ∀ bs : List Bool, PyData.canLayAll0 (bs.map PyData.bool) = true
  | [] => rfl
  | b :: r => by
    show (PyData.canLay0 (.bool b) && PyData.canLayAll0 (r.map PyData.bool)) = true
    rw [canB r]
    rfl
theorem depB : ∀ bs : List Bool, PyData.depthAll (bs.map PyData.bool) = 0
  | [] => rfl
  | b :: r => by
    show max (PyData.depth (.bool b)) (PyData.depthAll (r.map PyData.bool)) = 0
    rw [depB r]
    rfl
theorem shapedB (bs : List Bool) : SeqAt.shaped (.list (bs.map PyData.bool)) = true := by
  show (PyData.canLayAll0 (bs.map PyData.bool) && decide (PyData.depthAll (bs.map PyData.bool) + 1 ≤ 64)) = true
  rw [canB, depB]
  rfl
theorem eqvB (bs : List Bool) : PyData.eqv (.list (bs.map PyData.bool)) (.list (bs.map PyData.bool)) = true := SeqAt.eqv_refl _ (canB bs)
theorem dpB {K : PySem.W.Frag} {H : Hp} : ∀ bs : List Bool, DpAll K H (bs.map V.bl) (bs.map PyData.bool)
  | [] => .nil
  | b :: r => .cons (.bl b) (dpB r)
theorem Same.updN {H H1 : Hp} {p : Addr} {o : HO} (s : Same H H1) (h : H p = none) : Same H (L2.upd H1 p o) := fun b u e => by
  rw [upd_ne (ne_of_none e h)]
  exact s b u e
theorem AllX.get {H : Hp} : ∀ {cs : List (Addr × List (Str × V))} {as : List (Addr × Addr)} {i : Nat} {a d : Addr}, AllX H cs as → as[i]? = some (a, d) → ∃ C fs, cs[i]? = some (C, fs) ∧ H a = some (exo a C (some d)) ∧ H d = some (exd d fs)
  | _, _, 0, _, _, .cons h _, e => by
    cases e
    exact ⟨_, _, rfl, h.1, h.2⟩
  | _, _, i + 1, _, _, .cons _ t, e => AllX.get (i := i) t e
end EX
set_option Elab.async false
set_option linter.all false
set_option maxRecDepth 100000
set_option maxHeartbeats 4000000
/-! set(tuple of ints) as a value, sorted of a set of ints: up to a thousand of them -/
namespace L2
open PySem PySem.Spec PyProof.Rows Srt
section
variable {P : Program} {w : World} {A : Around} {E : Value → Shared → Prop} {s : Shared} {a : Addr}
theorem sorted_set_many {S : Int → Bool} {n : Nat} {Q : Value → Shared → Prop} (R : SetR w s.heap a S n) (hh : A.handled = none) (h64 : n ≤ 1000)
    (hQ : ∀ s' p (out : Array Value) (c : Nat) (ns : List Int), (∀ b o, s.heap.get? b = some o → s'.heap.get? b = some o) → s'.gens = s.gens → s'.os = s.os → s.heap.objs.size ≤ p →
      s'.heap.get? p = some (seqObj "list" out c) → IntsAre out.toList ns → ns.Pairwise (· < ·) → (∀ k, k ∈ ns ↔ S k = true) → ns.length = n → Q (.ref p) s') :
    wpAny (model P w) A (call (.builtin "sorted") [.ref a]) Q E s := by
  obtain ⟨o, es, ep, t, ho, hex, hd, g, nd, hm, hb, hf, hn, hr, hl⟩ := R
  refine Calls.call_function_entry kind_sorted plain_sorted entry_sorted (args_sorted1 _) ?_
  unfold Builtin.«sorted»
  refine wpAny_bind (m := checkCount "sorted" 1 1 _) (wpAny_pure ?_)
  refine wpAny_bind (collect_set (A := A.in1) hh ⟨o, ho, hex.1, hd⟩ hf hb hr hl fun s1 vs k1 hz g1 o1 pm => ?_)
  have hvl : vs.length = n := by rw [pm.length_eq, List.length_map, Array.length_toList]; exact hn
  have hI : IntsAre vs (vs.map Builtin.Re.reRawOf) := ints_of vs fun v hv => by
    obtain ⟨e, he, q⟩ := List.mem_map.mp (pm.mem_iff.mp hv)
    obtain ⟨k, tk, h1, _⟩ := g e he
    exact ⟨k, tk, by rw [← q]; exact h1⟩
  have pk : (vs.map Builtin.Re.reRawOf).Perm (es.toList.map keyOf) := by
    have q := pm.map Builtin.Re.reRawOf
    rw [List.map_map] at q
    exact q
  have hzl : vs.length ≤ sizeLine := by rw [hvl, sizeLine_eq]; omega
  refine wpAny_bind (wpAny_newList ?_ hzl)
  have hoL : (s1.heap.push (seqObj "list" vs.toArray 0)).get? s1.heap.objs.size = some (seqObj "list" vs.toArray 0) := Heap.get?_push_size _ rfl
  refine wpAny_bind (wpAny_holding (wpAny_call_entry slot_list_sort ⟨_, hoL, rfl⟩ entry_list_sort (SrtO.list_sort_ord SrtO.swo_int hoL hzl (fun h2 => SrtO.ints_sortable hI h2) fun out b1 b2 => ⟨_, rfl, ?_⟩) (args_list_sort _)))
  obtain ⟨a1, a2, a3⟩ := SrtO.ints_out hI b1 b2
  generalize hns : out.map SrtO.iv = ns' at a1 a2 a3
  obtain ⟨c, hc⟩ := sortedHeap_at (vs := vs) (out := out.toArray) hoL
  have pn : ns'.Perm (es.toList.map keyOf) := a2.trans pk
  refine wpAny_pure ⟨_, rfl, hQ _ s1.heap.objs.size out.toArray c ns' (fun b u e => ?_) g1 o1 hz hc a1 (lt_of_le_nodup ns' a3 (pn.nodup_iff.mpr nd)) (fun k => by rw [pn.mem_iff, ← hm k]) ?_⟩
  · have q := k1 b u e
    have hlt := Heap.lt_size q
    show (sortedHeap (s1.heap.push (seqObj "list" vs.toArray 0)) s1.heap.objs.size vs out.toArray).get? b = some u
    rw [sortedHeap_old (Nat.ne_of_lt hlt) (by rw [size_push']; exact Nat.lt_succ_of_lt hlt)]
    exact Heap.get?_push_of_some _ q
  · rw [pn.length_eq, List.length_map, Array.length_toList]; exact hn
end
section
variable {X : Cx}
/-- set(t), a tuple of ints -/
def rSetTup (K : PySem.W.Frag) (w : World) : List V → Hp → VK → Prop := fun xs H Q => ∃ (p : Addr) (ns : List Int), xs = [.ref p] ∧ SqT K H p (ns.map V.int) ∧ ns.length ≤ 1000 ∧
  ∀ (a : Addr) (c : Nat) (H' : Hp), Same H H' → H' a = some (SetO w a (fun j => decide (j ∈ ns)) c) → c ≤ ns.length → Q (.ref a) H'
theorem cr_setTup (hc : X.calm = true) : CallR X (.type "set") (rSetTup X.K X.w) := by
  intro pins s σ H xs us Q I r h
  obtain ⟨p0, ns, rfl, hq, hl, q⟩ := h
  rw [Vals.ref1 r]
  obtain ⟨its, rv, pt, hz⟩ := I.tuple hq
  have hi : IntsAre its.toArray.toList ns := ints_of_vals rv
  refine call_set_tupI ns (I.ok.hd hc) (show s.heap.IsTuple p0 its.toArray from pt) hi (by unfold scanBound; omega) fun h' tk c R1 hcn k => ?_
  exact ⟨.ref _, upd H s.heap.objs.size (SetO X.w s.heap.objs.size (fun j => decide (j ∈ ns)) c), I.laid (t' := tk) (fun b u e => k b u e) (Nat.le_refl _) (setO_new R1), rfl, q _ c _ (EX.Same.upd (I.hok.fresh (Nat.le_refl _))) upd_same hcn⟩
/-- sorted(found), up to a thousand members -/
def rSortedMany (w : World) : List V → Hp → VK → Prop := fun vs H Q => ∃ (a : Addr) (S : Int → Bool) (n : Nat), vs = [V.ref a] ∧ H a = some (SetO w a S n) ∧ n ≤ 1000 ∧
  ∀ (ns : List Int) (p : Addr) (H' : Hp), Same H H' → H' p = some (.lst (ns.map V.int)) → ns.Pairwise (· < ·) → (∀ k : Int, k ∈ ns ↔ S k = true) → ns.length = n → Q (.ref p) H'
theorem cr_sortedMany (hc : X.calm = true) : CallR X (.builtin "sorted") (rSortedMany X.w) := by
  intro pins s σ H vs us Q I r h
  obtain ⟨a, S, n, rfl, ha, h64, q⟩ := h
  have R := setO_get I ha
  rw [Vals.ref1 r]
  refine sorted_set_many R (I.ok.hd hc) h64 fun s' p out c ns k g o hp hg hi hs hm hl => ?_
  have hlen : (ns.map V.int).length ≤ sizeLine := by rw [List.length_map, hl, sizeLine_eq]; omega
  have hn : H p = none := I.hok.fresh hp
  have J : Inv X pins σ (upd H p (.lst (ns.map V.int))) { s with heap := s'.heap, gens := s'.gens, drawn := s'.drawn, toks := s'.toks } :=
    I.call (ch := []) (Un.laid k hp hn) (I.hok.laid k hp ⟨hlen, out.toList, c, vals_of_ints hi, hg⟩) (by rw [g]; exact I.bare) (fun _ z => nomatch z)
  have e : s' = { s with heap := s'.heap, gens := s'.gens, drawn := s'.drawn, toks := s'.toks } := by
    cases s'
    cases s
    cases o
    rfl
  rw [e]
  exact ⟨.ref p, _, J, rfl, q ns p _ (EX.Same.upd hn) upd_same hs hm hl⟩
end
/-- two rising lists with the same members are one -/
theorem rising_eq : ∀ {l m : List Int}, l.Pairwise (· < ·) → m.Pairwise (· < ·) → (∀ k, k ∈ l ↔ k ∈ m) → l = m
  | [], [], _, _, _ => rfl
  | [], y :: m, _, _, h => absurd ((h y).mpr List.mem_cons_self) (by simp)
  | x :: l, [], _, _, h => absurd ((h x).mp List.mem_cons_self) (by simp)
  | x :: l, y :: m, hl, hm, h => by
    have l1 := List.pairwise_cons.mp hl
    have m1 := List.pairwise_cons.mp hm
    have e : x = y := by
      rcases List.mem_cons.mp ((h x).mp List.mem_cons_self) with e | e
      · exact e
      · rcases List.mem_cons.mp ((h y).mpr List.mem_cons_self) with e2 | e2
        · exact e2.symm
        · have a := m1.1 x e
          have b := l1.1 y e2
          omega
    subst e
    have : l = m := rising_eq l1.2 m1.2 fun k => by
      constructor
      · intro hk
        rcases List.mem_cons.mp ((h k).mp (List.mem_cons_of_mem _ hk)) with e | e
        · have := l1.1 k hk
          omega
        · exact e
      · intro hk
        rcases List.mem_cons.mp ((h k).mpr (List.mem_cons_of_mem _ hk)) with e | e
        · have := m1.1 k hk
          omega
        · exact e
    rw [this]
end L2
set_option Elab.async false
set_option linter.all false
set_option maxRecDepth 100000
set_option maxHeartbeats 4000000
namespace EX
open PySem L2 PySem.Spec PyProof.Rows
/-! ### defs that may raise -/
structure DefX (P : Program) (w : World) (K : PySem.W.Frag) (mg : Str → Option Value) (base : Heap) (k : Nat) (x : Str) (ps : List Str) (sp : Sp) : Prop where
  ex : ∃ (f : Addr) (fd : FuncData), FnOk P w K mg base (L2.CX P w) k f fd ps sp ∧ mg x = some (.ref f) ∧ PySem.W.keepIn K (.ref f) = true ∧ Binds K fd ps []
section
variable {X : Cx} {e : Expr} {es : List Expr} {ta : TA} {p pos : Pos} {x : Str} {k : Nat} {ps : List Str} {sp : Sp}
/-- called where it doesn't raise -/
theorem pe_callX (D : DefX X.prog X.w X.K X.mg X.base k x ps sp) (hr : Room k X.A) (ha : PA X (e :: es) ta) (hg : Gl X x := by rfl) (hdb : (x == ("__debug__" : Str)) = false := by decide)
    (he : starEach (e :: es) X.env = (false, eval e X.env) :: starEach es X.env := by rfl) (hpl : (backTo pos (starEach es X.env)).any (·.1) = false := by rfl) : PE X (.Call (.Name x p) (e :: es) [] pos) (tCall sp [] E0 ta) := by
  obtain ⟨f, fd, F, m, kp, b⟩ := D.ex
  exact pe_call F hr hg m kp b .nil passL ha hdb he hpl
/-- called where what it raises goes on -/
theorem pe_callU {W : WX} (D : DefX X.prog X.w X.K X.mg X.base k x ps sp) (hr : Room k X.A) (tk : Takes X W) (ha : PA X (e :: es) ta) (hg : Gl X x := by rfl) (hdb : (x == ("__debug__" : Str)) = false := by decide)
    (he : starEach (e :: es) X.env = (false, eval e X.env) :: starEach es X.env := by rfl) (hpl : (backTo pos (starEach es X.env)).any (·.1) = false := by rfl) : PE X (.Call (.Name x p) (e :: es) [] pos) (tCallS sp (WE W) ta) := by
  obtain ⟨f, fd, F, m, kp, b⟩ := D.ex
  exact pe_callS F hr hg m kp b (fun σ => passAt tk σ) ha hdb he hpl
end
end EX
set_option Elab.async false
set_option linter.all false
set_option maxRecDepth 100000
set_option maxHeartbeats 4000000
namespace EX
open PySem PySem.Spec L2 PyProof.Rows
section
variable {X : Cx}
/-- len of a dict, locked or not -/
theorem call_lenR : CallR X (.builtin "len") (fun us H Q => ∃ d kvs, us = [V.ref d] ∧ Rd H d (.dK kvs) ∧ Q (.int kvs.length) H) := by
  intro pins s σ H us vs Q I r h
  obtain ⟨d, kvs, rfl, hd, q⟩ := h
  obtain ⟨v, rfl, rv⟩ := vals1 r
  cases rv
  exact d_len I hd fun t s' I' => ⟨.int kvs.length, H, I', ⟨t, rfl⟩, q⟩
/-- a statement that is never reached -/
def tDead : TS := fun _ _ _ => False
theorem ps_dead {st : Stmt} : PS X st tDead := ⟨fun _ _ _ _ _ _ h => h.elim⟩
/-- name = {..: .. for ..} -/
theorem ps_setDc {j : Nat} {nm : Str} {pn : Pos} {ke ve tgt src : Expr} {conds : List Expr} {sc : Scope} {own : List (Str × Nat)} {p1 p2 : Pos} {ti : TI} {tg : TG} {tt : TT} {tk tv : TE}
    (calm : X.calm = true) (nd : X.N.Nodup) (at_ : X.N[j]? = some nm) (loc : X.env.scope.names.lookup nm = some .local) (sw : swapsWith (.DictComp ke ve [⟨tgt, src, conds, 0⟩] sc p1) (some (.Name nm pn)) p2.line X.env = pure true)
    (walk : PI X tgt src ti) (ok : BlkOk X.N X.env.scope sc own)
    (ht : ∀ (s : Shared) (H : Hp) (C : Addr) (cl : List (Str × Addr)) (fp : List Addr), PG (X.blk s H sc (compEnvC sc cl C X.env) fp) tgt tg)
    (hc : ∀ (s : Shared) (H : Hp) (C : Addr) (cl : List (Str × Addr)) (fp : List Addr), PTs (X.blk s H sc (compEnvC sc cl C X.env) fp) conds tt)
    (hk : ∀ (s : Shared) (H : Hp) (C : Addr) (cl : List (Str × Addr)) (fp : List Addr), PE (X.blk s H sc (compEnvC sc cl C X.env) fp) ke tk)
    (hv : ∀ (s : Shared) (H : Hp) (C : Addr) (cl : List (Str × Addr)) (fp : List Addr), PE (X.blk s H sc (compEnvC sc cl C X.env) fp) ve tv)
    (fold : ∀ x, foldedSetIterable src X.env x = pure x := by intro _; rfl) :
    PS X (.Assign [.Name nm pn] (.DictComp ke ve [⟨tgt, src, conds, 0⟩] sc p1) p2) (tAsg (tDc ti tg tt tk tv (own.map (·.2))) (gName j)) := by
  refine ⟨fun pins s0 σ0 H0 D0 I0 rd => ?_⟩
  rw [exec_Assign_Name_used _ _ _ _ sw]
  refine wpAny_bind (wpAny_standAt (wpAny_bind ?_))
  show wpAny _ X.A (do let _ ← comprehension (.DictComp ke ve [⟨tgt, src, conds, 0⟩] sc p1) sc X.env (firstIterPos [⟨tgt, src, conds, 0⟩] p1) newDict false (eval src X.env) (some (assign (.Name nm pn) X.env))) _ _ s0
  have rd' : tDc ti tg tt tk tv (own.map (·.2)) σ0 H0 (fun x Hx => gName j x σ0 Hx D0.nx) := rd
  refine wpAny_bind (thn (dc_core (Qf := fun _ se => SP X pins D0 .next se) calm nd I0 walk ok ht hc hk hv fold rd' fun L C se me He Ie q hn f => ?_) fun _ se hq => wpAny_pure (wpAny_pure hq))
  show wpAny _ _ (assign (.Name nm pn) X.env (.ref L)) _ _ _
  refine wpAny_assign_Name (store_ok2 (v := V.ref L) Ie nd at_ (.inl loc) rfl (fun sf If ⟨b, sb, hb⟩ => ?_) (.inr loc))
  obtain ⟨g0, g1, g2, g3, g4, g5⟩ := f
  have cb : C ≠ b := by
    rcases hb with z | z
    · rw [z]
      exact g1
    · exact fun e => g4 nm b z e.symm
  exact ⟨me, hn.sameBut sb cb, fun hl sl => ⟨_, He, If.turned (t' := sf.toks) (fun a o ha e => (sl.2 a ha).trans e) g0 g1 g3 g4 g5, q⟩⟩
theorem sw_dc {ke ve : Expr} {cs : List Comprehension} {sc : Scope} {p1 pn : Pos} {nm : Str} {l : Nat} {env : Env} (kd : env.scope.kind = .function) (loc : env.scope.names.lookup nm = some .local) (line : (pn.line == p1.line) = true)
    (free : (sc.names.any fun (m, k) => m == nm && (k == .local || k == .cell)) = false) : swapsWith (.DictComp ke ve cs sc p1) (some (.Name nm pn)) l env = pure true := by
  have k1 : env.kindOf nm = some .local := loc
  have k2 : env.blockKind = .function := by
    unfold Env.blockKind
    rw [kd]
    rfl
  unfold swapsWith
  simp only [k2, k1, free, Expr.pos, line]
  rfl
end
section
variable {J : It} {n : Nat} {G : Hp → Prop} {Y : Nat → Hp → V → Hp → Prop}
/-- a dict comprehension over a walk -/
theorem dc_it (wk : Walk J n G Y) {tg : TG} {tt : TT} {tk tv : TE} {vs : List Nat} {σ : L2.St} {H1 : Hp} {D : Addr} {Qd : Hp → Prop} (Pv : Nat → Hp → Prop) (h0 : Pv 0 (L2.upd H1 D (.dK []))) (hG : ∀ i H, i ≤ n → Pv i H → G H)
    (turn : ∀ i x H H', i < n → Pv i H → Y i H x H' → tg x (wipe σ vs) H' fun σ2 H2 => wipe σ2 vs = wipe σ vs ∧ tt σ2 H2 fun b H3 =>
      if b = true then tk σ2 H3 fun y H4 => tv σ2 H4 fun z H5 => ∃ kvs k, y = kV k ∧ H5 D = some (.dK kvs) ∧ kvs.length < sizeLine ∧ Pv (i + 1) (L2.upd H5 D (.dK (putK kvs k z))) else Pv (i + 1) H3) (fin : ∀ H, Pv n H → Qd H) :
    ∃ W : Nat → Nat → Hp → Prop, (∃ m, W 0 m (L2.upd H1 D (.dK []))) ∧ ∀ i m H, W i m H →
      (J.stop i H ∧ Qd H) ∨ (J.go i H ∧ ∃ Nx : Hp → Prop, (∀ H', Nx H' → ∃ m', m' < m ∧ W (i + 1) m' H') ∧ ∀ x H', J.yld i H x H' → tg x (wipe σ vs) H' fun σ2 H2 => wipe σ2 vs = wipe σ vs ∧ tt σ2 H2 fun b H3 =>
        if b = true then tk σ2 H3 fun y H4 => tv σ2 H4 fun z H5 => ∃ kvs k, y = kV k ∧ H5 D = some (.dK kvs) ∧ kvs.length < sizeLine ∧ Nx (L2.upd H5 D (.dK (putK kvs k z))) else Nx H3) := by
  refine ⟨fun i m H => (i ≤ n ∧ m = n - i) ∧ Pv i H, ⟨n, ⟨Nat.zero_le _, by simp⟩, h0⟩, fun i m H hw => ?_⟩
  obtain ⟨⟨hi, rfl⟩, p⟩ := hw
  have g := hG i H hi p
  rcases Nat.lt_or_ge i n with lt | ge
  · exact .inr ⟨wk.goes i H lt g, Pv (i + 1), fun H' p' => ⟨n - (i + 1), by omega, ⟨lt, rfl⟩, p'⟩, fun x H' y => turn i x H H' lt p (wk.yields i H x H' lt g y)⟩
  · obtain rfl : i = n := by omega
    exact .inl ⟨wk.stops H g, fin H p⟩
end
end EX
set_option Elab.async false
set_option linter.all false
set_option maxRecDepth 100000
set_option maxHeartbeats 4000000
/-! list(d.values()) -/
namespace EX
open PySem L2 PyProof.Rows
def vtvO (v d : Addr) : HO := .ext fun h => h.get? v = some { cls := .type "dict_values", data := .fields #[.ref d] }
def rValues : V → List V → Hp → VK → Prop := fun x xs H Q => ∃ (d : Addr) (kvs : List (Key × V)), x = .ref d ∧ xs = [] ∧ H d = some (.dK kvs) ∧ ∀ v, H v = none → Q (.ref v) (upd H v (vtvO v d))
theorem mt_values {X : Cx} : MtR X "dict.values" rValues := by
  intro pins s σ H x xs v us Q I rx rv h
  obtain ⟨a, kvs, ex, ev, e, q⟩ := h
  subst ex
  subst ev
  obtain rfl : v = Value.ref a := rx
  have hus := rv.zero
  subst hus
  obtain ⟨z, lo, vs, rk, dd⟩ := (show ObjOk X.prog X.w H s.heap a (.dK kvs) from I.hok a _ e)
  have hT : s.TypeIs (.ref a) "dict" := by
    obtain ⟨ep, hat⟩ := dd.dictAt
    exact hat.dictOf.typeIs
  refine call_meetsIn PySem.F.slot_dict_values hT PySem.F.entry_dict_values (PySem.F.args_dict_values_1 _) (meets_dict_values (mixKind X.prog X.w) a lo) ⟨⟨vs, dd⟩, ?_⟩
  have J := I.laid (t' := s.toks) (a := s.heap.objs.size) (o := vtvO s.heap.objs.size a) (h' := s.heap.push { cls := .type "dict_values", data := .fields #[.ref a] }) (fun b u e => Heap.get?_push_of_some _ e) (Nat.le_refl _)
    ⟨Heap.get?_push_size _ rfl, ⟨_, Heap.get?_push_size _ rfl⟩, fun h1 h2 q k => k _ q⟩
  exact ⟨.ref s.heap.objs.size, _, J, rfl, q _ (I.hok.fresh (Nat.le_refl _))⟩
def rListV : List V → Hp → VK → Prop := fun xs H Q => ∃ (v d : Addr) (kvs : List (Key × V)), xs = [.ref v] ∧ H v = some (vtvO v d) ∧ H d = some (.dK kvs) ∧
  ∀ l, H l = none → Q (.ref l) (upd H l (.lst (kvs.map (·.2))))
theorem vals_of {kvs : List (Key × V)} {vs : List (Key × Value)} (kv : KV kvs vs) : ∀ {us : List Value}, us = vs.map (·.2) → Vals (kvs.map (·.2)) us := by
  induction kv with
  | nil => intro us e; subst e; exact .nil
  | cons h t ih => intro us e; subst e; exact .cons h.2 (ih rfl)
theorem cr_listV {X : Cx} (hc : X.calm = true) : CallR X (.type "list") rListV := by
  intro pins s σ H xs us Q I r h
  obtain ⟨v, d, kvs, rfl, ev, ed, q⟩ := h
  obtain ⟨u, rfl, ru⟩ := vals1 r
  obtain rfl : u = Value.ref v := ru
  obtain ⟨hv, _, _⟩ := I.hok v _ ev
  have hv : s.heap.get? v = some { cls := .type "dict_values", data := .fields #[.ref d] } := hv
  obtain ⟨hz, lo, vs, kv, dd⟩ := (show ObjOk X.prog X.w H s.heap d (.dK kvs) from I.hok d _ ed)
  obtain ⟨ep, hat⟩ := dd.dictAt
  have hl1 : kvs.length = vs.length := Paired.length kv
  refine PySem.W.kdl_call (PySem.W.kdl_values (knd := mixKind X.prog X.w) (r := v) (d := d) (kvs := vs) (ep := ep)) (I.ok.hd hc) ⟨⟨_, hv, rfl, rfl⟩, hat⟩ (by rw [← hl1]; exact hz) fun h' tk acc c k hS hacc => ?_
  have he : acc.toList = vs.map (·.2) := PySem.W.kdl_vals_eq acc.toList (by rw [Array.length_toList]; exact hacc.1) fun j v e => hacc.2 j v (by rw [← Array.getElem?_toList]; exact e)
  have J := I.laid (t' := tk) (a := s.heap.objs.size) (o := .lst (kvs.map (·.2))) (h' := h') k (Nat.le_refl _)
    ⟨by rw [List.length_map]; exact hz, acc.toList, c, vals_of kv he, by rw [Array.toArray_toList]; exact hS⟩
  exact ⟨.ref s.heap.objs.size, _, J, rfl, q _ (I.hok.fresh (Nat.le_refl _))⟩
end EX
set_option Elab.async false
set_option linter.all false
set_option maxRecDepth 100000
set_option maxHeartbeats 4000000
namespace EX
open PySem L2 PySem.Spec PyProof.Rows
/-! ### xs.count(y), texts -/
theorem countIn_str (k : Str) : ∀ ys : List Str, countIn (.str k) (ys.map PyData.str) = ((ys.count k : Nat) : Int)
  | [] => rfl
  | y :: ys => by
    rw [List.map_cons, countIn, countIn_str k ys, List.count_cons]
    by_cases h : (y == k) = true
    · have e : same (.str y) (.str k) = true := h
      rw [if_pos e, if_pos h]
      push_cast
      omega
    · have e : ¬ same (.str y) (.str k) = true := h
      rw [if_neg e, if_neg h]
      push_cast
      omega
def rCntS (K : PySem.W.Frag) : V → List V → Hp → VK → Prop := fun x xs H Q => ∃ (p : Addr) (ys : List Str) (k : Str), x = .ref p ∧ xs = [.str k] ∧ SqL K H p (ys.map V.str) ∧ Q (.int (ys.count k : Nat)) H
theorem mt_scount {X : Cx} : MtR X "list.count" (rCntS X.K) := by
  intro pins s σ H x xs v us Q I rx rxs h
  obtain ⟨p, ys, k, rfl, rfl, hs, q⟩ := h
  cases rx
  obtain ⟨u, rfl, ru⟩ := rxs.one
  obtain ⟨t, rfl⟩ := ru
  obtain ⟨its, rv, hl, hlen⟩ := I.list hs
  refine count_list_strs hl.isList rv.strs ?_
  rw [countIn_str]
  exact ⟨.int (ys.count k : Nat), H, I.tok _, ⟨_, rfl⟩, q⟩
end EX
set_option Elab.async false
set_option linter.all false
set_option maxRecDepth 100000
set_option maxHeartbeats 4000000
/-! lists of texts, of numbers compared -/
namespace EX
open PySem L2 PyProof.Rows
theorem dpAll_strs {K : PySem.W.Frag} {H : Hp} : ∀ o : List Str, DpAll K H (o.map V.str) (o.map PyData.str)
  | [] => .nil
  | s :: o => .cons (.str s) (dpAll_strs o)
theorem dpAll_ints {K : PySem.W.Frag} {H : Hp} : ∀ o : List Int, DpAll K H (o.map V.int) (o.map PyData.int)
  | [] => .nil
  | s :: o => .cons (.int s) (dpAll_ints o)
theorem eqv_strs : ∀ a b : List Str, PyData.eqvAll (a.map PyData.str) (b.map PyData.str) = decide (a = b)
  | [], [] => rfl
  | [], y :: b => rfl
  | x :: a, [] => rfl
  | x :: a, y :: b => by
    show ((x == y) && PyData.eqvAll (a.map PyData.str) (b.map PyData.str)) = _
    rw [eqv_strs a b]
    by_cases e : x = y
    · subst e
      by_cases f : a = b
      · subst f
        simp
      · simp [f]
    · simp [e]
theorem eqv_ints : ∀ a b : List Int, PyData.eqvAll (a.map PyData.int) (b.map PyData.int) = decide (a = b)
  | [], [] => rfl
  | [], y :: b => rfl
  | x :: a, [] => rfl
  | x :: a, y :: b => by
    show ((x == y) && PyData.eqvAll (a.map PyData.int) (b.map PyData.int)) = _
    rw [eqv_ints a b]
    by_cases e : x = y
    · subst e
      by_cases f : a = b
      · subst f
        simp
      · simp [f]
    · simp [e]
theorem lay_strs : ∀ a : List Str, (∀ s ∈ a, PyData.strOk s = true) → PyData.canLayAll0 (a.map PyData.str) = true
  | [], _ => rfl
  | x :: a, h => by
    show (PyData.strOk x && PyData.canLayAll0 (a.map PyData.str)) = true
    rw [lay_strs a fun s hs => h s (List.mem_cons_of_mem _ hs), h x (List.mem_cons_self ..)]
    rfl
theorem dep_strs : ∀ a : List Str, PyData.depthAll (a.map PyData.str) = 0
  | [] => rfl
  | x :: a => by
    show max 0 (PyData.depthAll (a.map PyData.str)) = 0
    rw [dep_strs a]
    rfl
theorem shaped_strsT {a : List Str} (h : ∀ s ∈ a, PyData.strOk s = true) : SeqAt.shaped (.tuple (a.map PyData.str)) = true := by
  unfold SeqAt.shaped
  show (PyData.canLayAll0 (a.map PyData.str) && decide (PyData.depthAll (a.map PyData.str) + 1 ≤ 64)) = true
  rw [lay_strs a h, dep_strs]
  rfl
theorem shaped_strsL {a : List Str} (h : ∀ s ∈ a, PyData.strOk s = true) : SeqAt.shaped (.list (a.map PyData.str)) = true := by
  unfold SeqAt.shaped
  show (PyData.canLayAll0 (a.map PyData.str) && decide (PyData.depthAll (a.map PyData.str) + 1 ≤ 64)) = true
  rw [lay_strs a h, dep_strs]
  rfl
end EX
set_option Elab.async false
set_option linter.all false
set_option maxRecDepth 100000
set_option maxHeartbeats 4000000
/-! two sorted arrangements of the same texts are one -/
namespace EX
open PySem L2 PySem.Spec PyProof.Rows
theorem rising_pw : ∀ (l : List Str) (p : Str), risingS p l = true → (p :: l).Pairwise fun a b => a.cps.toList ≤ b.cps.toList
  | [], p, _ => List.pairwise_singleton _ _
  | x :: r, p, h => by
    have h : (!ltCps x.cps.toList p.cps.toList && risingS x r) = true := h
    rw [Bool.and_eq_true, Bool.not_eq_true', ltCps_eq, decide_eq_false_iff_not] at h
    have h1 : p.cps.toList ≤ x.cps.toList := List.not_lt.mp h.1
    have ih := rising_pw r x h.2
    refine List.pairwise_cons.mpr ⟨fun y hy => ?_, ih⟩
    rcases List.mem_cons.mp hy with rfl | hy
    · exact h1
    · exact List.le_trans h1 ((List.pairwise_cons.mp ih).1 y hy)
theorem sortedS_same {a b : List Str} (hp : a.Perm b) (ha : sortedS a = true) (hb : sortedS b = true) : a = b := by
  have pw : ∀ l : List Str, sortedS l = true → l.Pairwise fun a b => a.cps.toList ≤ b.cps.toList := fun l h => by
    cases l with
    | nil => exact .nil
    | cons x r => exact rising_pw r x h
  refine hp.eq_of_pairwise (fun x y _ _ h1 h2 => ?_) (pw a ha) (pw b hb)
  have e : x.cps.toList = y.cps.toList := List.le_antisymm h1 h2
  cases x
  cases y
  congr 1
  exact Array.toList_inj.mp e
end EX
set_option Elab.async false
set_option linter.all false
set_option maxRecDepth 100000
set_option maxHeartbeats 4000000
namespace EX
open PySem L2 PySem.Spec PyProof.Rows LamX
/-! ### a lambda handed to a def that tells what it raised -/
/-- a wish need hold only for as many slots as there are -/
theorem takes_len {X : Cx} {W : WX} (t : Takes X W) : Takes X (fun cls d σ H => σ.length = X.N.length → W cls d σ H) := fun u s' ⟨a, B, sI, pins, σ, H, cls, d, e, I, nb, up, sky, na, os, ag, w⟩ =>
  t u s' ⟨a, B, sI, pins, σ, H, cls, d, e, I, nb, up, sky, na, os, ag, w I.len⟩
/-- isinstance(e, c) in a suite -/
def rIsD (K : PySem.W.Frag) (a : Addr) (cls : Value) (d : Option Addr) : List V → Hp → VK → Prop := fun xs H Q => ∃ dd, d = some dd ∧ ∃ (C : Addr) (fs : List (Str × V)) (c : V) (cv : Value) (b : Bool), xs = [.ref a, c] ∧ cls = .ref C ∧ EcC K C ∧ H dd = some (.xd fs) ∧ ClsV c cv ∧ PySem.W.kitOne K (.ref C) cv = some b ∧ Q (.bl b) H
theorem call_isD {X : Cx} {a : Addr} {cls : Value} {d : Option Addr} {oe : Obj} {pn : List (Addr × Obj)} (hz : Zc cls d oe) (hf : ∃ vs, oe.data = .fields vs) : CallR (X.suite a ((a, oe) :: pn)) (.builtin "isinstance") (rIsD X.K a cls d) := by
  intro pins s σ H xs us Q I r h
  obtain ⟨dd, rfl, h⟩ := h
  exact call_isS hz hf pins s σ H xs us Q I r h
/-- e.f in a suite, for the classes of which f is a field -/
def tXfs (Cs : List Addr) (a : Addr) (cls : Value) (d : Option Addr) (f : Str) (te : TE) : TE := fun σ H Q => ∃ C ∈ Cs, tXf a cls d C f te σ H Q
theorem pe_xfs {X : Cx} {a : Addr} {Cs : List Addr} {oe : Obj} {cls : Value} {d : Option Addr} {pn : List (Addr × Obj)} {e : Expr} {te : TE} {pos : Pos} {n : Str} (T : ∀ C ∈ Cs, EcC X.K C ∧ PySem.W.findIn X.K (.ref C) n = some none)
    (hz : Zc cls d oe) (hf : ∃ vs, oe.data = .fields vs) (he : PE (X.suite a ((a, oe) :: pn)) e te) (hb : attributeBase e n X.env (eval e X.env) = eval e X.env := by rfl) :
    PE (X.suite a ((a, oe) :: pn)) (.Attribute e n pos) (tXfs Cs a cls d n te) := by
  refine ⟨fun pins s σ H Q I h => ?_⟩
  obtain ⟨C, hC, h⟩ := h
  exact (pe_xf (T C hC).1.xf (T C hC).2 hz hf he hb).run pins s σ H Q I h
/-- what such a def makes of it: cs the classes caught with their words -/
def TSaid (K : PySem.W.Frag) (cs : List (Addr × Str)) (made : Str) : (XK → Hp → VK → Prop) → Hp → VK → Prop := fun tl H Q =>
  tl (fun cls d H' => ∃ (i : Nat) (C : Addr) (lbl : Str) (dd : Addr) (v : V) (dv : PyData), cs[i]? = some (C, lbl) ∧ cls = .ref C ∧ d = some dd ∧ H' dd = some (.xd [("given", v)]) ∧ DqS K H' v dv ∧ dv.showable = true ∧ dv.depth ≤ 60 ∧ dv.shown.length ≤ sizeLine ∧
    ∀ p, H' p = none → Q (.ref p) (upd H' p (.lst [.str lbl, .str dv.shown, .bl true]))) H (fun _ H' => 1 ≤ sizeLine ∧ ∀ p, H' p = none → Q (.ref p) (upd H' p (.lst [.str made])))
/-- the reading of one clause -/
def tSaid1 (K : PySem.W.Frag) (Cs : List Addr) (cb : Addr) (lbl : Str) (i : Nat) (a : Addr) (cls : Value) (d : Option Addr) : TS :=
  tRet (tLst (tCons (tC (.str lbl)) (tCons (tCB (rRepq K) (tCons (tXfs Cs a cls d "given" (tVar i)) tNil)) (tCons (tCB (rIsD K a cls d) (tCons (tVar i) (tCons (tC (.ref cb)) tNil))) tNil))))
/-- what stands of the classes -/
structure SaidC (K : PySem.W.Frag) (cb : Addr) (cs : List (Addr × Str)) : Prop where
  ec : ∀ p ∈ cs, EcC K p.1 ∧ PySem.W.findIn K (.ref p.1) "given" = some none
  cbk : ∀ p ∈ cs, PySem.W.kitOne K (.ref p.1) (.ref cb) = some true
  ex : ∀ (i j : Nat) (p q : Addr × Str), cs[i]? = some p → cs[j]? = some q → PySem.W.exmOne K (.ref p.1) (.ref q.1) = some (decide (i = j))
/-- the wish of the clauses from the k-th on, for an exception of the i-th class -/
theorem said_wish {K : PySem.W.Frag} {cb : Addr} {cs : List (Addr × Str)} (S : SaidC K cb cs) {Wout : WX} {D : Ends} {σ : L2.St} {H : Hp} {sl i : Nat} {C dd : Addr} {lbl : Str} {v : V} {dv : PyData} (hσ : sl < σ.length)
    (hi : cs[i]? = some (C, lbl)) (hx : H dd = some (.xd [("given", v)])) (hd : DqS K H v dv) (h1 : dv.showable = true) (h2 : dv.depth ≤ 60) (h3 : dv.shown.length ≤ sizeLine) (hq : ∀ p, H p = none → D.rt (.ref p) (upd H p (.lst [.str lbl, .str dv.shown, .bl true]))) :
    ∀ (l : List (Addr × Str)) (k : Nat), cs.drop k = l → k ≤ i → wCls K Wout D (l.map fun p => ⟨.ref p.1, some sl, tSaid1 K (cs.map (·.1)) cb p.2 sl⟩) (.ref C) (some dd) σ H
  | [], k, hl, hk => by
    have := congrArg List.length hl
    rw [List.length_drop] at this
    have := (List.getElem?_eq_some_iff.mp hi).1
    simp at *
    omega
  | p :: l, k, hl, hk => by
    have hp : cs[k]? = some p := by
      have : (cs.drop k)[0]? = some p := by rw [hl]; rfl
      rw [List.getElem?_drop] at this
      simpa using this
    have hl' : cs.drop (k + 1) = l := by
      rw [← List.drop_drop, hl]
      rfl
    refine ⟨decide (i = k), S.ex i k (C, lbl) p hi hp, fun e => ?_, fun e => ?_⟩
    · have e : i = k := of_decide_eq_true e
      subst e
      rw [hi] at hp
      cases hp
      intro a ha
      have hm : (C, lbl) ∈ cs := List.mem_of_getElem? hi
      have hs : (slotIn σ (some sl) (some (.ref a)))[sl]? = some (some (.ref a)) := by
        show (σ.set sl (some (.ref a)))[sl]? = _
        rw [List.getElem?_set_self hσ]
      refine ⟨C, List.mem_map.mpr ⟨_, hm, rfl⟩, _, hs, rfl, rfl, dd, _, v, rfl, hx, rfl, v, dv, rfl, hd, h1, h2, h3, ?_⟩
      exact ⟨_, hs, dd, rfl, C, _, _, .ref cb, true, rfl, rfl, (S.ec _ hm).1, hx, .own cb, S.cbk _ hm, by show 3 ≤ sizeLine; decide, hq⟩
    · have e : ¬ i = k := of_decide_eq_false e
      exact said_wish S hσ hi hx hd h1 h2 h3 hq l (k + 1) hl' (by omega)
end EX
set_option Elab.async false
set_option linter.all false
set_option maxRecDepth 100000
set_option maxHeartbeats 4000000
namespace EX
open PySem L2 PySem.Spec PyProof.Rows LamX
/-! ### what is kept where tables of code objects grow -/
theorem ExtN.of_same {H H' : Hp} (s : Same H H') : ExtN H H' := ExtN.of s
theorem ExtN.seq {K : PySem.W.Frag} {H H' : Hp} {a : Addr} {xs : List V} (s : ExtN H H') (h : SqL K H a xs) : SqL K H' a xs :=
  h.elim (fun z => .inl (z.elim (fun z => .inl (s _ _ z (fun _ e => nomatch e))) fun ⟨o, z⟩ => .inr ⟨o, s _ _ z (fun _ e => nomatch e)⟩)) .inr
theorem ExtN.sqt {K : PySem.W.Frag} {H H' : Hp} {a : Addr} {xs : List V} (s : ExtN H H') (h : SqT K H a xs) : SqT K H' a xs :=
  h.elim (fun z => .inl (z.elim (fun z => .inl (s _ _ z (fun _ e => nomatch e))) fun ⟨o, z⟩ => .inr ⟨o, s _ _ z (fun _ e => nomatch e)⟩)) .inr
theorem ExtN.dK {H H' : Hp} {a : Addr} {kvs : List (Key × V)} (s : ExtN H H') (h : H a = some (.dK kvs)) : H' a = some (.dK kvs) := s _ _ h (fun _ e => nomatch e)
theorem ExtN.lst {H H' : Hp} {a : Addr} {xs : List V} (s : ExtN H H') (h : H a = some (.lst xs)) : H' a = some (.lst xs) := s _ _ h (fun _ e => nomatch e)
mutual
theorem DqS.ext {K : PySem.W.Frag} {H H' : Hp} (s : ExtN H H') : ∀ {v : V} {d : PyData}, DqS K H v d → DqS K H' v d
  | _, _, .non => .non
  | _, _, .bl b => .bl b
  | _, _, .int i => .int i
  | _, _, .str x => .str x
  | _, _, .lst n h a => .lst n (ExtN.seq s h) (DqSAll.ext s a)
  | _, _, .tup h a => .tup (ExtN.sqt s h) (DqSAll.ext s a)
  | _, _, .dic h a => .dic (ExtN.dK s h) (DqSAll.ext s a)
theorem DqSAll.ext {K : PySem.W.Frag} {H H' : Hp} (s : ExtN H H') : ∀ {vs : List V} {ds : List PyData}, DqSAll K H vs ds → DqSAll K H' vs ds
  | _, _, .nil => .nil
  | _, _, .cons h t => .cons (DqS.ext s h) (DqSAll.ext s t)
end
/-- one object but tables changed -/
theorem Tabs.but {T : List (Addr × Str)} {H H' : Hp} {p : Addr} {o : HO} (t : Tabs T H) (b : ∀ a u, a ≠ p → H a = some u → H' a = some u) (hp : H p = some o) (n1 : ∀ ps, o ≠ .tbl ps) (n2 : ∀ c q, o ≠ CodeO c q) : Tabs T H' := fun z hz => by
  obtain ⟨ps, h1, h2, h3⟩ := t z hz
  refine ⟨ps, b _ _ (fun e => ?_) h1, h2, fun pos cv hc => ?_⟩
  · rw [e, hp] at h1
    exact n1 _ (Option.some.inj h1)
  · obtain ⟨c, e, hco⟩ := h3 pos cv hc
    refine ⟨c, e, b _ _ (fun e2 => ?_) hco⟩
    rw [e2, hp] at hco
    exact n2 _ _ (Option.some.inj hco)
theorem codeO_lst {c : Addr} {q : Str} (xs : List V) : HO.lst xs ≠ CodeO c q := fun z => by
  unfold CodeO at z
  cases z
/-- what a def tells that catches the i-th class -/
theorem lam_said {K : PySem.W.Frag} {T : List (Addr × Str)} {cs : List (Addr × Str)} {made lbl : Str} {i : Nat} {C : Addr} {v : V} {dv : PyData} {t : XK → TE} {σ : L2.St} {H : Hp} {Q : VK} (hT : Tabs T H) (hD : DqS K H v dv) (h1 : dv.showable = true) (h2 : dv.depth ≤ 60) (h3 : dv.shown.length ≤ sizeLine) (hi : cs[i]? = some (C, lbl))
    (ht : ∀ (E : XK) (H1 : Hp) (Q : VK), ExtN H H1 → (∀ d' H', Same H1 H' → H' d' = some (.xd [(("given" : Str), v)]) → E (.ref C) (some d') H') → t E σ H1 Q)
    (k : ∀ p H', ExtN H H' → Tabs T H' → H' p = some (.lst [.str lbl, .str dv.shown, .bl true]) → Q (.ref p) H') : tLam T (TSaid K cs made) t σ H Q := by
  refine ⟨hT, fun H1 e1 T1 => ht _ H1 _ e1 fun d' H' s hx => ?_⟩
  have e2 : ExtN H H' := ExtN.trans e1 (ExtN.of s)
  refine ⟨i, C, lbl, d', v, dv, hi, rfl, rfl, hx, DqS.ext e2 hD, h1, h2, h3, fun p hp => ?_⟩
  have s2 : ∀ b o, H' b = some o → upd H' p (.lst [.str lbl, .str dv.shown, .bl true]) b = some o := Same.upd hp
  exact k p _ (ExtN.trans e2 (ExtN.of s2)) ((T1.ext s).ext s2) upd_same
/-- the same compared with what is asked -/
theorem if_said {K : PySem.W.Frag} {T : List (Addr × Str)} {cs : List (Addr × Str)} {made lbl : Str} {i j : Nat} {C : Addr} {v : V} {dv : PyData} {t : XK → TE} {A : TS} {σ : L2.St} {H : Hp} {D : Ends} (hj : σ[j]? = some (some v)) (hT : Tabs T H) (hD : DqS K H v dv) (h1 : dv.showable = true) (h2 : dv.depth ≤ 60) (h3 : dv.shown.length ≤ sizeLine) (hi : cs[i]? = some (C, lbl))
    (sh : SeqAt.shaped (.list [.str lbl, .str dv.shown, .bool true]) = true) (eq : PyData.eqv (.list [.str lbl, .str dv.shown, .bool true]) (.list [.str lbl, .str dv.shown, .bool true]) = true)
    (ht : ∀ (E : XK) (H1 : Hp) (Q : VK), ExtN H H1 → (∀ d' H', Same H1 H' → H' d' = some (.xd [(("given" : Str), v)]) → E (.ref C) (some d') H') → t E σ H1 Q)
    (k : ∀ H', ExtN H H' → Tabs T H' → D.nx σ H') : tIfS (tTest (tOp (rNeD K) (tLam T (TSaid K cs made) t) (tLst (tCons (tC (.str lbl)) (tCons (tCB (rRepq K) (tCons (tVar j) tNil)) (tCons (tC (.bl true)) tNil)))))) A tNext D σ H := by
  refine lam_said hT hD h1 h2 h3 hi ht fun p H' e T' hp => ?_
  refine ⟨v, hj, v, dv, rfl, DqS.ext e hD, h1, h2, h3, by show 3 ≤ sizeLine; decide, fun q hq => ?_⟩
  have s2 : ∀ b o, H' b = some o → upd H' q (.lst [.str lbl, .str dv.shown, .bl true]) b = some o := Same.upd hq
  refine ⟨_, _, .lst (.inl (.inl (s2 _ _ hp))) (.cons (.str _) (.cons (.str _) (.cons (.bl _) .nil))), .lst (.inl (.inl upd_same)) (.cons (.str _) (.cons (.str _) (.cons (.bl _) .nil))), sh, sh, ?_⟩
  rw [eq]
  exact ⟨false, rfl, (iteF (k _ (ExtN.trans e (ExtN.of s2)) (T'.ext s2)) : if false = true then _ else _)⟩
/-- a def whose code object is known -/
theorem fn_atC {P : Program} {w : World} {K : PySem.W.Frag} {mg : Str → Option Value} {base : Heap} {k : Nat} {x qual : Str} {st : Stmt} {f c : Addr} {fd : FuncData} {N ps : List Str} {sp : Sp} (F : Fun K x qual st f fd) (hc : fd.code = .ref c) (S : FnScope N ps (defScope st)) (len : ∀ vs H Q E, sp vs H Q E → vs.length = ps.length)
    (body : ∀ (A : Around) (outer : List Env) (s : Shared) (H : Hp) (vs : List V) (Q : VK) (E : XK), (A.deeper (envOfC qual (defScope st) s.heap.objs.size f (.ref c))).guards = some [] → Room k (A.deeper (envOfC qual (defScope st) s.heap.objs.size f (.ref c))) → sp vs H Q E →
      ∃ t, PSs (cxOf CX0 P w K mg base N qual (defScope st) f (.ref c) A outer s H E) (defBody st) t ∧ t { nx := fun _ H' => Q .non H', rt := Q } (start N vs) H) : FnG P w K mg base CX0 (k + 1) f fd ps sp := by
  obtain ⟨oc, od, kV, doc, pm, an, cdv, ct, osl, rfl, lk, hcd⟩ := F.ex
  obtain rfl : cdv = .ref c := hc
  refine ⟨fun A outer s H args us vs Q E hr hg e0 hb rv h => ?_, len⟩
  have hl := len _ _ _ _ h
  have kin : K.In s.heap := e0.mod.kin.keeps fun b o z => (e0.bs b o z).1
  have lim : s.heap.NoLimit := e0.mod.nolimit.keeps fun b o z => (e0.bs b o z).1
  have par : ∀ y ∈ ps.zip us, (defScope st).names.lookup y.1 = some .local ∨ ((defScope st).names.lookup y.1 = some .cell ∧ ((cellsFrom (s.heap.objs.size + 1) (defScope st).names []).lookup y.1).isSome = true) := by
    rintro ⟨n, v⟩ hy
    cases S.par n (List.of_mem_zip hy).1 with
    | inl q => exact .inl q
    | inr q => exact .inr ⟨q, PySem.W.cellsFrom_some _ _ _ (.inl q)⟩
  refine codeAny_call_function hr.depth (kin _ _ lk) rfl S.co S.gen rfl (PySem.W.codeRec_of kin hcd) (hb _ _ _ _ (wpAny_newFunctionEnv_cells S.kind par ?_))
  rintro env he s1 hin
  subst he
  refine ⟨lim.keeps hin.toInCall.keep, codeAny_func ?_⟩
  obtain ⟨t, ht, hq⟩ := body A outer s H vs Q E (guards_deeper hg) (hr.deeper _) h
  refine wpAny_mono (ht.run [] s1 (start N vs) H _ (inv_start S hr.hd e0 hl rv hin) hq) ?_ fun _ _ z => z
  rintro fl s' hs
  cases fl with
  | next =>
    obtain ⟨σ', H', J, q⟩ := hs
    exact ⟨V.non, H', J.os, J.bare, J.base, J.hok, rfl, q⟩
  | ret u =>
    obtain ⟨v, σ', H', J, r, q⟩ := hs
    exact ⟨v, H', J.os, J.bare, J.base, J.hok, r, q⟩
  | brk =>
    obtain ⟨_, _, _, q⟩ := hs
    exact q.elim
  | cont =>
    obtain ⟨_, _, _, q⟩ := hs
    exact q.elim
/-- a display of keys and constants -/
theorem disp_c {cs : List (Key × V)} {σ : L2.St} {H : Hp} {Q : VK} (h15 : cs.length ≤ 15) (k : ∀ p H', Same H H' → H p = none → H' p = some (.dK (mergeK [] cs)) → Q (.ref p) H') : tDisp (cs.map fun c => (tC (kV c.1), tC c.2)) σ H Q := fun p hp => by
  have aux : ∀ (l : List (Key × V)) (H1 : Hp) (R : List (V × V) → Hp → Prop), R (l.map fun kv => (kV kv.1, kv.2)) H1 → tPairs (l.map fun c => (tC (kV c.1), tC c.2)) σ H1 R := by
    intro l
    induction l with
    | nil => intro H1 R h; exact h
    | cons x t ih => intro H1 R h; exact ih H1 _ h
  refine aux cs _ _ ⟨upd_same, cs, rfl, h15, k p _ (fun b o e => ?_) hp upd_same⟩
  rw [upd_ne (ne_of_none e hp), upd_ne (ne_of_none e hp)]
  exact e
/-- a display of one entry -/
theorem disp_1 {tk tv : TE} {key : Key} {v : V} {σ : L2.St} {H : Hp} {Q : VK} (hk : ∀ (H : Hp) (Q : VK), Q (kV key) H → tk σ H Q) (hv : ∀ (H : Hp) (Q : VK), Q v H → tv σ H Q) (k : ∀ p H', Same H H' → H p = none → H' p = some (.dK [(key, v)]) → Q (.ref p) H') : tDisp [(tk, tv)] σ H Q := fun p hp => by
  refine hk _ _ (hv _ _ ⟨upd_same, [(key, v)], rfl, by show 1 ≤ 15; decide, k p _ (fun b o e => ?_) hp upd_same⟩)
  rw [upd_ne (ne_of_none e hp), upd_ne (ne_of_none e hp)]
  exact e
end EX
set_option Elab.async false
set_option linter.all false
set_option maxRecDepth 100000
set_option maxHeartbeats 4000000
/-! methods, makings, own subscripts that may raise: met where they don't, met where what they raise goes on -/
namespace EX
open PySem L2 PySem.Spec PyProof.Rows
structure MtX (P : Program) (w : World) (K : PySem.W.Frag) (mg : Str → Option Value) (base : Heap) (k : Nat) (C : Addr) (m : Str) (ps : List Str) (sp : Sp) : Prop where
  c : Cls K C
  ex : ∃ (f : Addr) (fd : FuncData), Meth K C m f ∧ FnOk P w K mg base (L2.CX P w) k f fd ps sp ∧ Binds K fd ps []
structure MkX (P : Program) (w : World) (K : PySem.W.Frag) (mg : Str → Option Value) (base : Heap) (k : Nat) (x : Str) (ps : List Str) (C : Addr) (sp : Sp) : Prop where
  m : mg x = some (.ref C)
  ex : ∃ (f : Addr) (fd : FuncData), Mk K C f ∧ FnOk P w K mg base (L2.CX P w) k f fd ps sp ∧ Binds K fd ps []
abbrev DunX (P : Program) (w : World) (K : PySem.W.Frag) (mg : Str → Option Value) (base : Heap) (k : Nat) (C : Addr) (m : Str) (ps : List Str) (sp : Sp) : Prop := Dun P w K mg base (L2.CX P w) k C m ps sp
def tMethU (C : Addr) (m : Str) (sp : Sp) (W : WX) (ta : TE) (t : TA) : TE := fun σ H Q => ta σ H fun x H1 => ∃ a dx fs, x = .ref a ∧ H1 a = some (.ins C dx fs) ∧ fs.lookup m = none ∧ t σ H1 fun vs H2 => sp (x :: vs) H2 Q (WE W σ)
def tMakeU (C : Addr) (sp : Sp) (W : WX) (t : TA) : TE := fun σ H Q => t σ H fun vs H1 => ∀ x dx, H1 x = none → H1 dx = none → dx ≠ x → sp (.ref x :: vs) (upd (upd H1 dx (.own x)) x (.ins C dx [])) (fun v H2 => v = .non ∧ Q (.ref x) H2) (WE W σ)
def tGetU (C : Addr) (sp : Sp) (W : WX) (to ti : TE) : TE := fun σ H Q => to σ H fun x H1 => ti σ H1 fun y H2 => ∃ a dx fs, x = .ref a ∧ H2 a = some (.ins C dx fs) ∧ sp [.ref a, y] H2 Q (WE W σ)
section
variable {X : Cx} {W : WX} {e o i : Expr} {es : List Expr} {t : TA} {ta to ti : TE} {p pos apos : Pos} {x m : Str} {k : Nat} {ps : List Str} {sp : Sp} {C : Addr} {pins : List (Addr × Obj)} {σ : L2.St} {H : Hp} {s : Shared}
theorem pe_mtX {pl : Sem Bool} (D : MtX X.prog X.w X.K X.mg X.base k C m ps sp) (hr : Room k X.A) (he : PE X o ta) (ha : PA X (e :: es) t)
    (hst : starEach (e :: es) X.env = (false, eval e X.env) :: starEach es X.env := by rfl) (hpl : (backTo pos (starEach es X.env)).any (·.1) = false := by rfl)
    (ht : eval (.Call (.Attribute o m apos) (e :: es) [] pos) X.env = (do
      let ov ← eval o X.env
      standAt apos.atName
      let (f, first) ← holding [ov] (getMethod ov m pl)
      callWith pos f first (backTo pos (starEach (e :: es) X.env)) (backToKw pos (keywordEach [] X.env))) := by rfl) : PE X (.Call (.Attribute o m apos) (e :: es) [] pos) (tMeth C m sp [] E0 ta t) := by
  obtain ⟨f, fd, hm, F, b⟩ := D.ex
  exact pe_meth (pl := pl) he D.c hm F hr b .nil passL ha hst hpl ht
theorem pe_mtU {pl : Sem Bool} (D : MtX X.prog X.w X.K X.mg X.base k C m ps sp) (hr : Room k X.A) (tk : Takes X W) (he : PE X o ta) (ha : PA X (e :: es) t)
    (hst : starEach (e :: es) X.env = (false, eval e X.env) :: starEach es X.env := by rfl) (hpl : (backTo pos (starEach es X.env)).any (·.1) = false := by rfl)
    (ht : eval (.Call (.Attribute o m apos) (e :: es) [] pos) X.env = (do
      let ov ← eval o X.env
      standAt apos.atName
      let (f, first) ← holding [ov] (getMethod ov m pl)
      callWith pos f first (backTo pos (starEach (e :: es) X.env)) (backToKw pos (keywordEach [] X.env))) := by rfl) : PE X (.Call (.Attribute o m apos) (e :: es) [] pos) (tMethU C m sp W ta t) := by
  obtain ⟨f, fd, hm, F, hb⟩ := D.ex
  refine ⟨fun pins s σ H Q I h => ?_⟩
  refine PySem.W.methodCall_KW (pl := pl) (thn (he.run pins s σ H _ I h) fun u s1 ⟨x, H1, I1, rx, a, dx, fs, ex, ea, l, q⟩ => ?_) ht
  subst ex
  obtain rfl : u = Value.ref a := rx
  refine getmeth_ok I1 ea D.c hm l ?_
  refine PySem.W.callWith_K (first := [.ref a]) (h₀ := X.base) I.ok.mod.kin hm.kp (thn (ha.run pos pins s1 σ H1 _ I1 q) fun us s2 ⟨vs, H2, I2, r, q2⟩ => ⟨I2.kIn, ?_⟩) hst hpl
  exact run_fnS (E := WE W) (us := .ref a :: us) (vs := .ref a :: vs) F hr hb (passAt tk σ) I2 (.cons rfl r) q2
theorem pe_mkX (D : MkX X.prog X.w X.K X.mg X.base k x ps C sp) (hr : Room (k + 1) X.A) (ha : PA X (e :: es) t) (hg : Gl X x := by rfl) (hdb : (x == ("__debug__" : Str)) = false := by decide)
    (he : starEach (e :: es) X.env = (false, eval e X.env) :: starEach es X.env := by rfl) (hpl : (backTo pos (starEach es X.env)).any (·.1) = false := by rfl) : PE X (.Call (.Name x p) (e :: es) [] pos) (tMake C sp [] E0 t) := by
  obtain ⟨f, fd, M, F, b⟩ := D.ex
  exact pe_make M F hr hg D.m b .nil passL ha hdb he hpl
theorem pe_mkU (D : MkX X.prog X.w X.K X.mg X.base k x ps C sp) (hr : Room (k + 1) X.A) (tk : Takes X W) (ha : PA X (e :: es) t) (hg : Gl X x := by rfl) (hdb : (x == ("__debug__" : Str)) = false := by decide)
    (he : starEach (e :: es) X.env = (false, eval e X.env) :: starEach es X.env := by rfl) (hpl : (backTo pos (starEach es X.env)).any (·.1) = false := by rfl) : PE X (.Call (.Name x p) (e :: es) [] pos) (tMakeU C sp W t) := by
  obtain ⟨f, fd, M, F, hb⟩ := D.ex
  refine ⟨fun pins s σ H Q I h => ?_⟩
  refine wpAny_Call_Name_kw (ld_glob I hg D.m ?_ hdb)
  refine PySem.W.callWith_K (h₀ := X.base) I.ok.mod.kin M.kp (thn (ha.run pos pins s σ H _ I h) fun us s1 ⟨vs, H1, I1, r, q⟩ => ⟨I1.kIn, ?_⟩) he hpl
  have hq := q (s1.heap.objs.size + 1) s1.heap.objs.size (I1.hok.fresh (Nat.le_succ _)) (I1.hok.fresh (Nat.le_refl _)) (Nat.ne_of_lt (Nat.lt_succ_self _))
  have I2 := Inv.made (C := C) I1
  have r2 : Vals (V.ref (s1.heap.objs.size + 1) :: vs) (Value.ref (s1.heap.objs.size + 1) :: us) := .cons rfl r
  have hl : (Value.ref (s1.heap.objs.size + 1) :: us).length = ps.length := by
    have e := r2.length
    rw [F.len _ _ _ _ hq] at e
    exact e.symm
  have b := hb _ (Value.ref (s1.heap.objs.size + 1) :: us) I2.kIn (by rw [List.append_nil]; exact hl)
  rw [List.append_nil] at b
  refine wpAny_call (make_map (f := f) I1.kIn M.makes M.init (beq_iff_eq.mp M.fn) (codeAny_mono (F.run _ X.stack _ _ ⟨Value.ref (s1.heap.objs.size + 1) :: us, []⟩ (Value.ref (s1.heap.objs.size + 1) :: us) _ _ (WE W σ) (hr.make C us [])
    (I2.env0.make C us []) b r2 hq) fun r s' hq' => ?_))
  cases r with
  | error e => exact passAt tk σ pins _ _ e s' I2 hq'
  | ok fl =>
    cases fl with
    | ret u =>
      obtain ⟨v, H', I3, rv, ev, q3⟩ := I2.after hq'
      subst ev
      exact ⟨rv, ⟨V.ref (s1.heap.objs.size + 1), H', I3, rfl, q3⟩⟩
    | next => exact False.elim hq'
    | brk => exact False.elim hq'
    | cont => exact False.elim hq'
theorem run_inS {A : Around} {f : Addr} {fd : FuncData} {Q : VK} {E : XK} {us : List Value} {vs : List V} (F : FnOk X.prog X.w X.K X.mg X.base (L2.CX X.prog X.w) k f fd ps sp) (hr : Room k A) (e0 : Env0 X.prog X.w X.K X.mg X.base A X.stack s H) (hb : Binds X.K fd ps []) (hx : PassesAt (L2.CX X.prog X.w) X σ E)
    (I : Inv X pins σ H s) (r : Vals vs us) (h : sp vs H Q E) : wpAny (model X.prog X.w) A (call (.ref f) us) (EP X pins σ Q) X.xe s := by
  have hl : us.length = ps.length := by rw [← r.length]; exact F.len _ _ _ _ h
  have b : BindsTo s fd ⟨us, []⟩ (ps.zip us) := by
    have := hb s us I.kIn (by rw [List.append_nil]; exact hl)
    rwa [List.append_nil] at this
  refine wpAny_call (codeAny_mono (F.run A X.stack s H ⟨us, []⟩ us vs Q E hr e0 b r h) ?_)
  rintro (e | fl) s' hq
  · exact hx pins H s e s' I hq
  · cases fl with
    | ret u => exact I.after hq
    | next => exact False.elim hq
    | brk => exact False.elim hq
    | cont => exact False.elim hq
theorem pe_getX (D : DunX X.prog X.w X.K X.mg X.base k C "__getitem__" ps sp) (hr : Room (k + 1) X.A) (ho : PE X o to) (hi : PE X i ti)
    (hsl : ∀ x y, subscripted i true x y = runValue (.builtin "lifetime.subscript" ⟨[x, y], []⟩) := by intro _ _; with_unfolding_all rfl) : PE X (.Subscript o i pos) (tGetO C sp E0 to ti) := pe_getO D hr passL ho hi hsl
theorem pe_getU (D : DunX X.prog X.w X.K X.mg X.base k C "__getitem__" ps sp) (hr : Room (k + 1) X.A) (tk : Takes X W) (ho : PE X o to) (hi : PE X i ti)
    (hsl : ∀ x y, subscripted i true x y = runValue (.builtin "lifetime.subscript" ⟨[x, y], []⟩) := by intro _ _; with_unfolding_all rfl) : PE X (.Subscript o i pos) (tGetU C sp W to ti) := by
  refine ⟨fun pins s σ H Q I h => Subscript_ (binT ho hi I h ?_)⟩
  intro v u s2 x y H2 I2 rx ry ⟨a, dx, fs, ex, ea, q⟩
  subst ex
  obtain rfl : v = Value.ref a := rx
  obtain ⟨f, fd, at_, hf, hfi, F, hb⟩ := D.ex
  obtain ⟨od, J⟩ := inst_at I2 ea
  obtain ⟨m, hF⟩ := I2.fr
  exact PySem.W.sub_K hF I2.ok.mod.kin J at_ hfi hf (run_inS F hr.in1 I2.env0.in1 hb (passAt tk σ) I2 (.cons (vref a) (.cons ry .nil)) q) (hsl _ _)
end
end EX
set_option Elab.async false
set_option linter.all false
set_option maxRecDepth 100000
set_option maxHeartbeats 4000000
/-! len(set(x)): a list or a tuple of texts, some maybe twice -/
namespace EX
open PySem PySem.Spec PyProof.Rows SS L2
/-- how many of r are new, those before being seen -/
def dn : List Str → List Str → Nat
  | _, [] => 0
  | seen, x :: r => (if decide (x ∈ seen) = true then 0 else 1) + dn (seen ++ [x]) r
theorem dn_le : ∀ (r seen : List Str), dn seen r ≤ r.length
  | [], _ => Nat.zero_le _
  | x :: r, seen => by
    have := dn_le r (seen ++ [x])
    unfold dn
    rw [List.length_cons]
    split <;> omega
theorem dn_nodup : ∀ (r seen : List Str), r.Nodup → (∀ x ∈ r, x ∉ seen) → dn seen r = r.length
  | [], _, _, _ => rfl
  | x :: r, seen, nd, h => by
    obtain ⟨h1, h2⟩ := List.nodup_cons.mp nd
    have ih := dn_nodup r (seen ++ [x]) h2 fun y hy hz => by
      rcases List.mem_append.mp hz with z | z
      · exact h y (.tail _ hy) z
      · rw [List.mem_singleton.mp z] at hy
        exact h1 hy
    unfold dn
    rw [if_neg (by simpa using h x (.head _)), ih, List.length_cons]
    omega
theorem dn_eq : ∀ (r seen : List Str), dn seen r = r.length → r.Nodup ∧ ∀ x ∈ r, x ∉ seen
  | [], _, _ => ⟨List.nodup_nil, fun _ h => nomatch h⟩
  | x :: r, seen, h => by
    have hle := dn_le r (seen ++ [x])
    unfold dn at h
    rw [List.length_cons] at h
    by_cases hx : x ∈ seen
    · rw [if_pos (decide_eq_true hx)] at h
      omega
    · rw [if_neg (by simpa using hx)] at h
      obtain ⟨h1, h2⟩ := dn_eq r (seen ++ [x]) (by omega)
      refine ⟨List.nodup_cons.mpr ⟨fun z => h2 x z (by simp), h1⟩, fun y hy => ?_⟩
      rcases List.mem_cons.mp hy with rfl | hy
      · exact hx
      · exact fun z => h2 y hy (List.mem_append_left _ z)
section
variable {P : Program} {w : World} {A : Around} {E : Value → Shared → Prop} {s : Shared}
theorem set_update_strs {I : Addr} {fp wr : List Addr} {G : Array GenState → Array GenState → Prop} {n : Nat} {Pv : Nat → Value → Prop} {St : Nat → Shared → Prop} {R : Result → Shared → Prop}
    (W : WalksS P w A.in1 I fp wr G n Pv St) (S : Addr) (hSf : S ∉ fp) (xs : List Str) (hn : n = xs.length) (hb : n + 1 < scanBound) (hval : ∀ i v, Pv i v → ∃ k t, xs[i]? = some k ∧ v = .str k t) :
    ∀ (k i c : Nat) (s : Shared), n - i = k → i ≤ n → c ≤ i → St i s → s.heap.SetOf (PySem.strKind P w) S (fun j => decide (j ∈ xs.take i)) c →
      (∀ s', Moved (S :: wr) G s s' → s'.heap.SetOf (PySem.strKind P w) S (fun j => decide (j ∈ xs)) (c + dn (xs.take i) (xs.drop i)) → R (.ok (.ret .none)) s') →
      codeAny (model P w) A (.builtin "set.update.loop" ⟨[.ref S, .ref I], []⟩) R s := by
  have hSw : S ∉ wr := fun h => hSf (W.sub _ h)
  have hsub : ∀ b ∈ wr, b ∈ S :: wr := fun b hb => List.mem_cons_of_mem _ hb
  have at_ : ∀ {h h' : Heap} {S' : Str → Bool} {c : Nat}, h.SetOf (PySem.strKind P w) S S' c → (∀ o, h.get? S = some o → h'.get? S = some o) → h'.SetOf (PySem.strKind P w) S S' c := fun hS k => by
    obtain ⟨o, es, ep, t, ho, rest⟩ := hS
    exact ⟨o, es, ep, t, k _ ho, rest⟩
  intro k
  induction k with
  | zero =>
    intro i c s hk' hi hci hst hS hR
    have hin : i = n := by omega
    subst hin
    refine codeAny_builtin F.entry_set_update_loop ?_
    rw [Around.under_plainId F.plain_set_update_loop _]
    show wpAny _ A.in1 (pyNext (.ref I) >>= _) _ _ s
    refine wpAny_bind (W.done s _ _ hst fun s' hm => ?_)
    show wpAny _ A.in1 (ret Value.none) _ _ s'
    have e : xs.take i = xs := List.take_of_length_le (by omega)
    have e2 : xs.drop i = [] := List.drop_of_length_le (by omega)
    rw [e] at hS
    refine wpAny_pure (hR s' (hm.mono hsub) (at_ ?_ fun o e => hm.heap S o hSw e))
    rw [e2]
    exact hS
  | succ k ih =>
    intro i c s hk' hi hci hst hS hR
    have hlt : i < n := by omega
    refine codeAny_builtin F.entry_set_update_loop ?_
    rw [Around.under_plainId F.plain_set_update_loop _]
    show wpAny _ A.in1 (pyNext (.ref I) >>= _) _ _ s
    refine wpAny_bind (W.item i s _ _ hlt hst fun v s' hP hst' hm => ?_)
    obtain ⟨z, t, hz, rfl⟩ := hval i v hP
    have hS' := at_ hS fun o e => hm.heap S o hSw e
    show wpAny _ A.in1 (holding [Value.str z t] (setAdd S (.str z t)) >>= _) _ _ s'
    refine wpAny_bind (wpAny_holding ?_)
    unfold setAdd
    refine wpAny_holding ?_
    refine wpAny_bind ((PySem.strKind P w).pyHash (k := z) (strKind_is _ _ _ _) ?_)
    refine wpAny_setAddHashed_of (knd := PySem.strKind P w) (s := { s' with toks := s'.toks + 1 }) (strKind_is _ _ _ _) rfl hS' (by omega) fun h' hsb hS2 => ?_
    have hd : xs.drop i = z :: xs.drop (i + 1) := by
      obtain ⟨hl, e⟩ := List.getElem?_eq_some_iff.mp hz
      rw [← e]
      exact List.drop_eq_getElem_cons hl
    have ht : xs.take (i + 1) = xs.take i ++ [z] := by
      rw [List.take_add_one, hz]
      rfl
    have hS3 : h'.SetOf (PySem.strKind P w) S (fun j => decide (j ∈ xs.take (i + 1))) (if decide (z ∈ xs.take i) = true then c else c + 1) := SetOf_congr hS2 (fun j => by
      rw [ht]
      simp [List.mem_append]) rfl
    have hfin : (if decide (z ∈ xs.take i) = true then c else c + 1) + dn (xs.take (i + 1)) (xs.drop (i + 1)) = c + dn (xs.take i) (xs.drop i) := by
      rw [hd, ht]
      show _ = c + ((if decide (z ∈ xs.take i) = true then 0 else 1) + dn (xs.take i ++ [z]) (xs.drop (i + 1)))
      split <;> omega
    refine wpAny_pure ⟨plainId_quiet F.plain_set_update_loop _, ih (i + 1) _ _ (by omega) hlt (by split <;> omega) (W.frame _ s' _ _ hst' (Nat.le_succ _) fun b hb o e => ?_) hS3 fun s'' hm'' hS'' => ?_⟩
    · rw [hsb.2 b (fun h : b = S => hSf (by rw [← h]; exact hb))]; exact e
    · rw [hfin] at hS''
      refine hR s'' (Moved.trans W.gtrans ((hm.mono hsub).then_heap (Nat.le_succ _) fun b o hb e => ?_) hm'') hS''
      rw [hsb.2 b (fun h : b = S => hb (by rw [h]; exact List.mem_cons_self))]; exact e
set_option maxHeartbeats 8000000 in
theorem call_set_strL {l : Addr} {items : Array Value} {xs : List Str} {Q : Value → Shared → Prop} (hh : A.handled = none) (hl : s.heap.IsList l items) (hi : StrsAre items.toList xs) (hb : xs.length + 1 < scanBound)
    (h : ∀ (h' : Heap) (tk : Nat), h'.SetOf (PySem.strKind P w) s.heap.objs.size (fun j => decide (j ∈ xs)) (dn [] xs) → (∀ b o, s.heap.get? b = some o → h'.get? b = some o) → Q (.ref s.heap.objs.size) { s with heap := h', toks := tk }) :
    wpAny (model P w) A (call (.type "set") [.ref l]) Q E s := by
  have hsz : items.size = xs.length := by rw [← StrsAre.len_eq hi, Array.length_toList]
  obtain ⟨c, tl, hmro⟩ := F.called_set.mro
  have hmade := F.called_set.made
  have hsub := F.called_set.sub
  refine wpAny_call (codeAny_of_tree ?_)
  show wpAny _ _ (callAny (.type "set") _) _ _ _
  refine wpAny_pure ⟨Code.quiet_builtin _ (by decide +kernel), codeAny_builtin F.entry_type_call ?_⟩
  rw [Around.under_plain (weight_type_call_type "set" [.ref l] []) rfl]
  have h1 := F.called_set.notType
  have h2 := F.called_set.canCreate
  have hct := F.typeCall_set_1 (.ref l)
  repeat (any_goals (first | assumption | wp_step))

  refine codeAny_mono (code_set_new_1 (.ref l) (E := E) (Q₁ := fun obj s₁ => ∃ led : Bool, obj = .ref s.heap.objs.size ∧ s₁ = { s with heap := s.heap.push { cls := .type "set", dict := none, data := .set #[] 0 (.fresh 0 0 led) } }) fun led => ⟨led, rfl, rfl⟩) fun r s₁ hr => ?_
  cases r with
  | error e => exact hr
  | ok fl =>
    cases fl with
    | ret obj =>
      obtain ⟨led, rfl, rfl⟩ := hr
      have hS : (s.heap.push { cls := .type "set", dict := none, data := .set #[] 0 (.fresh 0 0 led) }).get? s.heap.objs.size = some { cls := .type "set", dict := none, data := .set #[] 0 (.fresh 0 0 led) } := Heap.get?_push_size _ rfl
      have hT : Shared.TypeIs { s with heap := s.heap.push { cls := .type "set", dict := none, data := .set #[] 0 (.fresh 0 0 led) } } (.ref s.heap.objs.size) "set" := ⟨_, hS, rfl⟩
      have hli := F.called_set.init.lookup
      have hbi := F.called_set.init.bind (.ref s.heap.objs.size)
      repeat (any_goals (first | assumption | wp_step))

      refine codeAny_mono (codeAny_call_builtin (R := wants (fun r s₂ => r = .none ∧ ∃ h' tk, s₂ = { s with heap := h', toks := tk } ∧
          h'.SetOf (PySem.strKind P w) s.heap.objs.size (fun j => decide (j ∈ xs)) (dn [] xs) ∧ (∀ b o, s.heap.get? b = some o → h'.get? b = some o)) E) F.called_set.init.plain F.entry_set_init (check_set_init_1 hT ?_)) fun r₂ s₂ hr₂ => ?_
      · obtain ⟨ol, hol, hcl, nl, hdl⟩ := hl
        obtain ⟨ocls, odict, odata, oslots⟩ := ol
        simp only at hcl hdl
        subst hcl; subst hdl
        have hol' : (s.heap.push { cls := .type "set", dict := none, data := .set #[] 0 (.fresh 0 0 led) }).get? l = some { cls := .type "list", dict := odict, data := .seq items nl, slots := oslots } := Heap.get?_push_of_some _ hol
        have hsls := F.sub_list_set
        have hslf := F.sub_list_frozenset
        have hne : (Value.type "list" == Value.type "dict") = false := by decide
        have hl1 : (s.heap.push { cls := .type "set", dict := none, data := .set #[] 0 (.fresh 0 0 led) }).IsList l items := ⟨_, hol', rfl, nl, rfl⟩
        unfold Builtin.«set.__init__» noKeywords Builtin.Frozenset.updateFrom
        generalize hPI : pyIter = PI
        wp_walk
        subst hPI
        refine wpAny_pyIter_list hl1 ?_
        refine wpAny_bind (wpAny_runValue ?_)
        have hlS : l < s.heap.objs.size := Heap.lt_size hol
        have hh3 : A.in1.in1.in1.handled = none := by simp [hh]
        have hneI : l ≠ (s.heap.push { cls := .type "set", dict := none, data := .set #[] 0 (.fresh 0 0 led) }).objs.size := by
          rw [Heap.size_push]; exact Nat.ne_of_lt (Nat.lt_succ_of_lt hlS)
        have hSf : s.heap.objs.size ∉ [(s.heap.push { cls := .type "set", dict := none, data := .set #[] 0 (.fresh 0 0 led) }).objs.size, l] := by
          rw [Heap.size_push]; simp only [List.mem_cons, List.mem_singleton, List.not_mem_nil, or_false, not_or]
          exact ⟨Nat.ne_of_lt (Nat.lt_succ_self _), Nat.ne_of_gt hlS⟩
        have hval : ∀ (i : Nat) (v : Value), items[i]? = some v → ∃ k t, xs[i]? = some k ∧ v = .str k t := fun i v hv => by
          have hi2 : i < xs.length := by rw [← hsz]; exact (Array.getElem?_eq_some_iff.mp hv).1
          obtain ⟨t, e⟩ := strs_at hi i v (by rw [Array.getElem?_toList]; exact hv)
          refine ⟨xs[i], t, List.getElem?_eq_getElem hi2, ?_⟩
          rw [e, List.getD_eq_getElem?_getD, List.getElem?_eq_getElem hi2] <;> rfl
        refine set_update_strs ((Walks.list hh3 _ l hneI items).toS) s.heap.objs.size hSf xs hsz (by rw [hsz]; exact hb) hval (items.size - 0) 0 0 _ (by omega) (Nat.zero_le _) (Nat.le_refl _)
          ⟨⟨_, Heap.get?_push_size _ rfl, rfl, rfl⟩, (hl1.push _)⟩ ?hS0 ?hR
        case hS0 =>
          have hget : ((s.heap.push { cls := .type "set", dict := none, data := .set #[] 0 (.fresh 0 0 led) }).push { cls := .type "list_iterator", data := .fields #[.ref l, .int 0 0] }).get? s.heap.objs.size
              = some { cls := .type "set", dict := none, data := .set #[] 0 (.fresh 0 0 led) } := Heap.get?_push_of_some _ hS
          exact SetOf_congr ((setObjOf_fresh (knd := PySem.strKind P w) led).setOf hget (by unfold scanBound; omega)) (fun j => by simp) rfl
        case hR =>
          intro s' hm hS'
          obtain ⟨h', g', d', tk', os'⟩ := s'
          have eg : g' = s.gens := hm.gens
          have ed : d' = s.drawn := hm.drawn
          have eo : os' = s.os := hm.os
          subst eg; subst ed; subst eo
          show wpAny _ _ _ _ _ _
          refine wpAny_pure ?_
          show wpAny _ _ (ret Value.none) _ _ _
          rw [List.take_zero, List.drop_zero, Nat.zero_add] at hS'
          refine wpAny_pure ⟨rfl, h', tk', rfl, hS', fun b o e => ?_⟩
          have hb0 : b < s.heap.objs.size := Heap.lt_size e
          have hb1 : b ≠ s.heap.objs.size := Nat.ne_of_lt hb0
          have hb2 : b ≠ (s.heap.push { cls := .type "set", dict := none, data := .set #[] 0 (.fresh 0 0 led) }).objs.size := by
            rw [Heap.size_push]; exact Nat.ne_of_lt (Nat.lt_succ_of_lt hb0)
          exact hm.heap b o (by simp only [List.mem_cons, List.mem_singleton, List.not_mem_nil, or_false, not_or]; exact ⟨hb1, hb2⟩) (Heap.get?_push_of_some _ (Heap.get?_push_of_some _ e))
      · cases r₂ with
        | error e => exact hr₂
        | ok fl₂ =>
          cases fl₂ with
          | ret r =>
            obtain ⟨rfl, h', tk, rfl, hS', hk'⟩ := hr₂
            repeat (any_goals (first | assumption | wp_step))
            exact h _ _ hS' hk'
          | _ => exact hr₂.elim
    | _ => exact hr.elim
set_option maxHeartbeats 8000000 in
theorem call_set_strT {l : Addr} {items : Array Value} {xs : List Str} {Q : Value → Shared → Prop} (hh : A.handled = none) (hl : s.heap.IsTuple l items) (hi : StrsAre items.toList xs) (hb : xs.length + 1 < scanBound)
    (h : ∀ (h' : Heap) (tk : Nat), h'.SetOf (PySem.strKind P w) s.heap.objs.size (fun j => decide (j ∈ xs)) (dn [] xs) → (∀ b o, s.heap.get? b = some o → h'.get? b = some o) → Q (.ref s.heap.objs.size) { s with heap := h', toks := tk }) :
    wpAny (model P w) A (call (.type "set") [.ref l]) Q E s := by
  have hsz : items.size = xs.length := by rw [← StrsAre.len_eq hi, Array.length_toList]
  obtain ⟨c, tl, hmro⟩ := F.called_set.mro
  have hmade := F.called_set.made
  have hsub := F.called_set.sub
  refine wpAny_call (codeAny_of_tree ?_)
  show wpAny _ _ (callAny (.type "set") _) _ _ _
  refine wpAny_pure ⟨Code.quiet_builtin _ (by decide +kernel), codeAny_builtin F.entry_type_call ?_⟩
  rw [Around.under_plain (weight_type_call_type "set" [.ref l] []) rfl]
  have h1 := F.called_set.notType
  have h2 := F.called_set.canCreate
  have hct := F.typeCall_set_1 (.ref l)
  repeat (any_goals (first | assumption | wp_step))

  refine codeAny_mono (code_set_new_1 (.ref l) (E := E) (Q₁ := fun obj s₁ => ∃ led : Bool, obj = .ref s.heap.objs.size ∧ s₁ = { s with heap := s.heap.push { cls := .type "set", dict := none, data := .set #[] 0 (.fresh 0 0 led) } }) fun led => ⟨led, rfl, rfl⟩) fun r s₁ hr => ?_
  cases r with
  | error e => exact hr
  | ok fl =>
    cases fl with
    | ret obj =>
      obtain ⟨led, rfl, rfl⟩ := hr
      have hS : (s.heap.push { cls := .type "set", dict := none, data := .set #[] 0 (.fresh 0 0 led) }).get? s.heap.objs.size = some { cls := .type "set", dict := none, data := .set #[] 0 (.fresh 0 0 led) } := Heap.get?_push_size _ rfl
      have hT : Shared.TypeIs { s with heap := s.heap.push { cls := .type "set", dict := none, data := .set #[] 0 (.fresh 0 0 led) } } (.ref s.heap.objs.size) "set" := ⟨_, hS, rfl⟩
      have hli := F.called_set.init.lookup
      have hbi := F.called_set.init.bind (.ref s.heap.objs.size)
      repeat (any_goals (first | assumption | wp_step))

      refine codeAny_mono (codeAny_call_builtin (R := wants (fun r s₂ => r = .none ∧ ∃ h' tk, s₂ = { s with heap := h', toks := tk } ∧
          h'.SetOf (PySem.strKind P w) s.heap.objs.size (fun j => decide (j ∈ xs)) (dn [] xs) ∧ (∀ b o, s.heap.get? b = some o → h'.get? b = some o)) E) F.called_set.init.plain F.entry_set_init (check_set_init_1 hT ?_)) fun r₂ s₂ hr₂ => ?_
      · obtain ⟨ol, hol, hcl, nl, hdl⟩ := hl
        obtain ⟨ocls, odict, odata, oslots⟩ := ol
        simp only at hcl hdl
        subst hcl; subst hdl
        have hol' : (s.heap.push { cls := .type "set", dict := none, data := .set #[] 0 (.fresh 0 0 led) }).get? l = some { cls := .type "tuple", dict := odict, data := .seq items nl, slots := oslots } := Heap.get?_push_of_some _ hol
        have hsls := F.sub_tuple_set
        have hslf := F.sub_tuple_frozenset
        have hne : (Value.type "tuple" == Value.type "dict") = false := by decide
        have hl1 : (s.heap.push { cls := .type "set", dict := none, data := .set #[] 0 (.fresh 0 0 led) }).IsTuple l items := ⟨_, hol', rfl, nl, rfl⟩
        unfold Builtin.«set.__init__» noKeywords Builtin.Frozenset.updateFrom
        generalize hPI : pyIter = PI
        wp_walk
        subst hPI
        refine wpAny_pyIter_tuple hl1 ?_
        refine wpAny_bind (wpAny_runValue ?_)
        have hlS : l < s.heap.objs.size := Heap.lt_size hol
        have hh3 : A.in1.in1.in1.handled = none := by simp [hh]
        have hneI : l ≠ (s.heap.push { cls := .type "set", dict := none, data := .set #[] 0 (.fresh 0 0 led) }).objs.size := by
          rw [Heap.size_push]; exact Nat.ne_of_lt (Nat.lt_succ_of_lt hlS)
        have hSf : s.heap.objs.size ∉ [(s.heap.push { cls := .type "set", dict := none, data := .set #[] 0 (.fresh 0 0 led) }).objs.size, l] := by
          rw [Heap.size_push]; simp only [List.mem_cons, List.mem_singleton, List.not_mem_nil, or_false, not_or]
          exact ⟨Nat.ne_of_lt (Nat.lt_succ_self _), Nat.ne_of_gt hlS⟩
        have hval : ∀ (i : Nat) (v : Value), items[i]? = some v → ∃ k t, xs[i]? = some k ∧ v = .str k t := fun i v hv => by
          have hi2 : i < xs.length := by rw [← hsz]; exact (Array.getElem?_eq_some_iff.mp hv).1
          obtain ⟨t, e⟩ := strs_at hi i v (by rw [Array.getElem?_toList]; exact hv)
          refine ⟨xs[i], t, List.getElem?_eq_getElem hi2, ?_⟩
          rw [e, List.getD_eq_getElem?_getD, List.getElem?_eq_getElem hi2] <;> rfl
        refine set_update_strs ((Walks.tuple hh3 _ l hneI items).toS) s.heap.objs.size hSf xs hsz (by rw [hsz]; exact hb) hval (items.size - 0) 0 0 _ (by omega) (Nat.zero_le _) (Nat.le_refl _)
          ⟨⟨_, Heap.get?_push_size _ rfl, rfl, rfl⟩, (hl1.push _)⟩ ?hS0 ?hR
        case hS0 =>
          have hget : ((s.heap.push { cls := .type "set", dict := none, data := .set #[] 0 (.fresh 0 0 led) }).push { cls := .type "tuple_iterator", data := .fields #[.ref l, .int 0 0] }).get? s.heap.objs.size
              = some { cls := .type "set", dict := none, data := .set #[] 0 (.fresh 0 0 led) } := Heap.get?_push_of_some _ hS
          exact SetOf_congr ((setObjOf_fresh (knd := PySem.strKind P w) led).setOf hget (by unfold scanBound; omega)) (fun j => by simp) rfl
        case hR =>
          intro s' hm hS'
          obtain ⟨h', g', d', tk', os'⟩ := s'
          have eg : g' = s.gens := hm.gens
          have ed : d' = s.drawn := hm.drawn
          have eo : os' = s.os := hm.os
          subst eg; subst ed; subst eo
          show wpAny _ _ _ _ _ _
          refine wpAny_pure ?_
          show wpAny _ _ (ret Value.none) _ _ _
          rw [List.take_zero, List.drop_zero, Nat.zero_add] at hS'
          refine wpAny_pure ⟨rfl, h', tk', rfl, hS', fun b o e => ?_⟩
          have hb0 : b < s.heap.objs.size := Heap.lt_size e
          have hb1 : b ≠ s.heap.objs.size := Nat.ne_of_lt hb0
          have hb2 : b ≠ (s.heap.push { cls := .type "set", dict := none, data := .set #[] 0 (.fresh 0 0 led) }).objs.size := by
            rw [Heap.size_push]; exact Nat.ne_of_lt (Nat.lt_succ_of_lt hb0)
          exact hm.heap b o (by simp only [List.mem_cons, List.mem_singleton, List.not_mem_nil, or_false, not_or]; exact ⟨hb1, hb2⟩) (Heap.get?_push_of_some _ (Heap.get?_push_of_some _ e))
      · cases r₂ with
        | error e => exact hr₂
        | ok fl₂ =>
          cases fl₂ with
          | ret r =>
            obtain ⟨rfl, h', tk, rfl, hS', hk'⟩ := hr₂
            repeat (any_goals (first | assumption | wp_step))
            exact h _ _ hS' hk'
          | _ => exact hr₂.elim
    | _ => exact hr.elim
end
section
variable {X : Cx}
def tLenSetS (K : PySem.W.Frag) (ta : TE) : TE := fun σ H Q => ta σ H fun x H1 => ∃ (l : Addr) (xs : List Str), x = .ref l ∧ (SqL K H1 l (xs.map V.str) ∨ SqT K H1 l (xs.map V.str)) ∧ xs.length ≤ 4000 ∧ Q (.int (dn [] xs : Nat)) H1
theorem pe_lenSetS {a : Expr} {ta : TE} {p p2 q pos : Pos} (hc : X.calm = true) (hg : Gl X "len") (hm : X.mg "len" = none) (hg2 : Gl X "set") (hm2 : X.mg "set" = none) (ha : PE X a ta)
    (na : starEach [a] X.env = (false, eval a X.env) :: starEach [] X.env := by rfl) : PE X (.Call (.Name "len" p) [.Call (.Name "set" p2) [a] [] q] [] pos) (tLenSetS X.K ta) := by
  refine ⟨fun pins s σ H Q I h => ?_⟩
  refine Call_ (ld_blt I hg hm boot_len ?_)
  refine PyProof.Rows.callWith_builtin1 (PyProof.Rows.args_cons ?_ rfl) rfl rfl
  refine Call_ (ld_blt I hg2 hm2 PyProof.Rows.boot_set ?_)
  refine PyProof.Rows.callWith_type1 (PyProof.Rows.args_cons (thn (ha.run pins s σ H _ I h) fun v s1 ⟨x, H1, I1, r1, q1⟩ => PyProof.Rows.args_nil ?_) na) na rfl
  obtain ⟨l, xs, rfl, hq, h1, q1⟩ := q1
  cases r1
  have hle := dn_le xs []
  have hb : xs.length + 1 < scanBound := by
    unfold scanBound
    omega
  have fin : ∀ (h' : Heap) (tk : Nat), h'.SetOf (PySem.strKind X.prog X.w) s1.heap.objs.size (fun j => decide (j ∈ xs)) (dn [] xs) → (∀ b o, s1.heap.get? b = some o → h'.get? b = some o) →
      wpAny (model X.prog X.w) X.A (spliced (backTo pos (starEach [] X.env))) (fun vs s₂ => wpAny (model X.prog X.w) X.A (call (.builtin "len") (Value.ref s1.heap.objs.size :: vs)) (EP X pins σ Q) X.xe s₂) X.xe { s1 with heap := h', toks := tk } := fun h' tk hS hk => by
    refine PyProof.Rows.args_nil ?_
    obtain ⟨o, es, ep, t, ho, hex, hd, _, _, _, hf, hn⟩ := hS
    have I2 : Inv X pins σ H1 { s1 with heap := h', toks := tk } := I1.kept fun b o e => hk b o e
    exact call_len_set ho hex hd hf (by rw [hn]; omega) ⟨.int (dn [] xs : Nat), H1, I2.tok _, ⟨_, by rw [hn]⟩, q1⟩
  rcases hq with hq | hq
  · obtain ⟨its, r, pl, hz⟩ := I1.list hq
    exact call_set_strL (I1.ok.hd hc) pl.isList (by simpa using strsAre_of r) hb fin
  · obtain ⟨its, r, pl, hz⟩ := I1.tuple hq
    exact call_set_strT (I1.ok.hd hc) pl (by simpa using strsAre_of r) hb fin
end
end EX
set_option Elab.async false
set_option linter.all false
set_option maxRecDepth 100000
set_option maxHeartbeats 1000000
/-! yield from a list -/
namespace EX
open PySem PySem.Spec PyProof.Rows GenW L2
section
variable {prog : Program} {w : World} {A : Around} {E : Value → Shared → Prop} {s : Shared}
theorem special_lst_item {it t : Addr} {i : Nat} {items : Array Value} {x : Value} {Q : Option Value → Shared → Prop} (hit : s.heap.IsListIter it t i) (ht : s.heap.IsList t items) (hx : items[i]? = some x)
    (hQ : ∀ h', Heap.IsListIter h' it t (i + 1) → Heap.SameBut it s.heap h' → Q (some x) { s with heap := h' }) : wpAny (model prog w) A (callSpecial? (.ref it) "__next__") Q E s := by
  obtain ⟨o, ho, hc, hd⟩ := id hit
  obtain ⟨ol, hol, _, nl, hdl⟩ := ht
  refine wpAny_callSpecial?_slot (name := Str.ofString "__next__") hit.typeIs slot_listiter_next (wpAny_call_entry slot_listiter_next hit.typeIs entry_listiter_next ?_ (args_listiter_next _))
  show wpAny _ _ (field (.ref it) 0 >>= _) _ _ s
  refine wpAny_bind (wpAny_field ho hd (x := .ref t) rfl ?_)
  show wpAny _ _ (if (Value.ref t == Value.none) = true then _ else _) _ _ s
  rw [if_neg (show ¬ ((Value.ref t == Value.none) = true) from Bool.false_ne_true)]
  show wpAny _ _ (field (.ref it) 1 >>= _) _ _ s
  refine wpAny_bind (wpAny_field ho hd (x := .int i 0) rfl ?_)
  show wpAny _ _ (seqItems? (.ref t) >>= _) _ _ s
  refine wpAny_bind (wpAny_seqItems hol hdl ?_)
  simp only [Int.toNat_natCast, hx]
  refine wpAny_bind (wpAny_setField ho hd (by simp) (wpAny_pure ⟨x, rfl, hQ _ ?_ (Heap.SameBut.update ..)⟩))
  exact ⟨_, Heap.get?_update_self _ ho (Obj.isFreed_of_fields (Obj.data_mapFields hd _)), (Obj.cls_mapFields ..).trans hc, by
    rw [Obj.data_mapFields hd]; simp [rawInt]⟩
theorem special_lst_end {it t : Addr} {i : Nat} {items : Array Value} {Q : Option Value → Shared → Prop} (hh : A.handled = none) (hit : s.heap.IsListIter it t i) (ht : s.heap.IsList t items) (hx : items[i]? = none)
    (hE : ∀ e h', StopX e h' → Heap.ExtBut it s.heap h' → E e { s with heap := h' }) : wpAny (model prog w) A (callSpecial? (.ref it) "__next__") Q E s := by
  obtain ⟨o, ho, hc, hd⟩ := id hit
  obtain ⟨ol, hol, _, nl, hdl⟩ := ht
  refine wpAny_callSpecial?_slot (name := Str.ofString "__next__") hit.typeIs slot_listiter_next (wpAny_call_entry slot_listiter_next hit.typeIs entry_listiter_next ?_ (args_listiter_next _))
  show wpAny _ _ (field (.ref it) 0 >>= _) _ _ s
  refine wpAny_bind (wpAny_field ho hd (x := .ref t) rfl ?_)
  show wpAny _ _ (if (Value.ref t == Value.none) = true then _ else _) _ _ s
  rw [if_neg (show ¬ ((Value.ref t == Value.none) = true) from Bool.false_ne_true)]
  show wpAny _ _ (field (.ref it) 1 >>= _) _ _ s
  refine wpAny_bind (wpAny_field ho hd (x := .int i 0) rfl ?_)
  show wpAny _ _ (seqItems? (.ref t) >>= _) _ _ s
  refine wpAny_bind (wpAny_seqItems hol hdl ?_)
  simp only [Int.toNat_natCast, hx]
  refine wpAny_bind (wpAny_rule (wpAny_bind (wpAny_setField ho hd (by simp) ?_)))
  show wpAny _ _ (newExc (.type "StopIteration") [] >>= _) _ _ _
  refine wpAny_bind ?_
  simp only [newExc, newTuple]
  refine wpAny_bind (wpAny_newObj_type ?_ (by size_fits))
  refine wpAny_bind (m := firstArgMember _ _) (wpAny_of_eq (a := Value.none) (by first | rfl | (simp only [firstArgMember]; rfl)) ?_)
  refine wpAny_newObj_type ?_ (by size_fits)
  simp only [raiseNew]
  refine wpAny_bind (wpAny_handled ?_)
  first | rw [show A.in1.handled = none from hh] | rw [hh]
  refine wpAny_bind (wpAny_pure (wpAny_throw ?_))
  refine hE _ _ ⟨_, _, _, rfl, Heap.get?_push_size _ rfl, rfl, rfl, ?_⟩ (((Heap.SameBut.update ..).extBut.push _).push _)
  first
    | rfl
    | (rw [Array.getElem?_append_left (by decide)]; rfl)
    | kernel_rfl
end
section
variable {X : Cx} {e : Expr} {te : TE}
def tYfLst (te : TE) : TYf := fun σ H Q => te σ H fun x H1 => ∃ a xs, x = .ref a ∧ H1 a = some (.lst xs) ∧ Q xs H1
theorem close_lst : typeLookup (.type "list_iterator") "close" = pure none := by rw [typeLookup_type, builtinLookup_eq_fast]; kernel_rfl
theorem yf_lst (he : PE X e te) : YfE X e (tYfLst te) := by
  refine ⟨fun pins s σ H Q I h => ?_⟩
  refine thn (he.run pins s σ H _ I h) fun v s1 ⟨x, H1, I1, r1, a, xs, ex, ha, hq⟩ => ?_
  subst ex
  obtain rfl : v = Value.ref a := r1
  obtain ⟨hlen, its, nn, rits, hta⟩ := I1.hok a _ ha
  have ht : s1.heap.IsList a its.toArray := ⟨_, hta, rfl, _, rfl⟩
  refine ⟨"list", ht.typeIs, by decide, wpAny_pyIter_list ht ?_⟩
  have ksz : ∀ b o, s1.heap.get? b = some o → b ≠ s1.heap.objs.size := fun b o e => Nat.ne_of_lt (Heap.lt_size e)
  have kp : ∀ b o, s1.heap.get? b = some o → (s1.heap.push { cls := .type "list_iterator", data := .fields #[.ref a, .int 0 0] }).get? b = some o := fun b o e => Heap.get?_push_of_some _ e
  refine ⟨s1.heap.objs.size, H1, xs, fun j h => h.IsListIter s1.heap.objs.size a j ∧ h.IsList a its.toArray, rfl, I1.kept (t' := s1.toks) kp, .inr I1.sz, Nat.ne_of_gt I1.lt, fun y c hy => ?_, I1.hok.fresh (Nat.le_refl _), fun p hp => ?_,
    ⟨⟨_, Heap.get?_push_size _ rfl, rfl, rfl⟩, ht.push _⟩, ⟨⟨"list_iterator", fun j h q => ?_, close_lst, by decide⟩, fun j h h' q hk => ?_, fun A' j x s2 Q' E' hA hx q hQ => ?_, fun A' s2 Q' E' hA q hE => ?_⟩, hq⟩
  · obtain ⟨v, o, ho, _⟩ := I1.cell y c hy
    exact ksz c o ho
  · exact ksz p.1 _ (I1.pin p hp).1
  · obtain ⟨⟨o, ho, hc, _⟩, _⟩ := q
    exact ⟨o, ho, hc⟩
  · obtain ⟨⟨o, ho, r⟩, o2, ho2, r2⟩ := q
    exact ⟨⟨o, hk _ o (.inl rfl) ho, r⟩, o2, hk _ o2 (.inr (by rw [ha]; exact fun z => by cases z)) ho2, r2⟩
  · obtain ⟨q1, q2⟩ := q
    obtain ⟨u, hu, ru⟩ := rits.get hx
    have hne : a ≠ s1.heap.objs.size := Nat.ne_of_lt (Heap.lt_size hta)
    exact special_lst_item q1 q2 (x := u) (by simpa using hu) fun h' q1' hs => hQ u h' s2.toks ru ⟨q1', q2.extBut hs.extBut hne⟩ fun b o hb eb => hs.extBut b o hb eb
  · obtain ⟨q1, q2⟩ := q
    have hnone : its.toArray[xs.length]? = none := by
      have e := rits.length
      have e2 : its[xs.length]? = none := List.getElem?_eq_none_iff.mpr (by omega)
      simpa using e2
    exact special_lst_end hA q1 q2 hnone fun e h' hS hk => hE e h' s2.toks hS fun b o hb eb => hk b o hb eb
end
end EX
set_option Elab.async false
set_option maxRecDepth 100000
set_option maxHeartbeats 4000000
namespace K02
open PySem L2
def top (i : Nat) : Stmt := PySem.Challenge.pw_slackcache_k02_joins_and_copies.main.body.getD i (.Pass ⟨0, 0, 0, 0⟩)
abbrev sSource : Stmt := top 65
abbrev sDraw : Stmt := top 66
def M : Int := 2147483647
/-- what a source may hold -/
def SrcOk (x y : Int) : Prop := 0 ≤ x ∧ 0 ≤ y ∧ y < 2147483647
structure TxtC (mg : Str → Option Value) : Prop where
  len : mg "len" = none
  max : mg "max" = none
def spSource (K : PySem.W.Frag) : Sp := fun vs H Q _ => ∃ (a : Addr) (ns : List Int) (j : Nat), vs = [.ref a, .int (j : Int)] ∧ SqL K H a (ns.map V.int) ∧ j ≤ 1000 ∧
  ∀ p x y, H p = none → SrcOk x y → Q (.ref p) (upd H p (.lst [.int x, .int y]))
def spDraw : Sp := fun vs H Q _ => ∃ (p : Addr) (x y n : Int), vs = [.ref p, .int n] ∧ H p = some (.lst [.int x, .int y]) ∧ SrcOk x y ∧ 0 < n ∧ n < 2 ^ 100 ∧
  ∀ x' y' d, SrcOk x' y' → 0 ≤ d → d < n → Q (.int d) (upd H p (.lst [.int x', .int y']))
section
variable {P : Program} {w : World} {K : PySem.W.Frag} {mg : Str → Option Value} {base : Heap}
theorem scS : FnScope ["_law_script", "_law_turn", "_law_cell", "_law_number", "_law_seed"] ["_law_script", "_law_turn"] (defScope sSource) := ⟨rfl, rfl, rfl, by decide +kernel, rfl, by decide +kernel, by decide +kernel⟩
theorem scD : FnScope ["_law_source_here", "_law_amount", "_law_digit"] ["_law_source_here", "_law_amount"] (defScope sDraw) := ⟨rfl, rfl, rfl, by decide +kernel, rfl, by decide +kernel, by decide +kernel⟩
local macro_rules | `(tactic| walk_at "rd") => `(tactic| simp only [tSeq, tAsg, tOp, tC, tVar, tCB, tCons, tNil, tUn, tIfS, tTest, tNext, tRet, tLst, gName, gSub, rI0, rI, rU, L2.start, List.map_cons, List.map_nil, List.length_cons, List.length_nil, Nat.reduceAdd, Nat.reduceSub, List.replicate_succ, List.replicate_zero, List.cons_append, List.nil_append, List.set_cons_zero, List.set_cons_succ, List.getElem?_cons_zero, List.getElem?_cons_succ, Option.some.injEq, exists_eq_left', exists_eq_left, V.int.injEq, V.bl.injEq, V.ref.injEq, List.cons.injEq, and_true, true_and, and_assoc, exists_and_left, exists_eq', exists_const, decide_eq_true_eq, Cx.nox, Cx.wish])
set_option linter.all false
theorem ok_source {f : Addr} {fd : FuncData} (F : Fun K "_law_source" "_law_source" sSource f fd) (T : TxtC mg) : FnOk P w K mg base CX0 1 f fd ["_law_script", "_law_turn"] (spSource K) := by
  refine F.ok scS (fun vs H Q E h => ?_) (fun cdv A outer s H vs Q E hr h => ?_)
  · obtain ⟨a, ns, j, rfl, _⟩ := h
    rfl
  · obtain ⟨a, ns, j, rfl, hS, hj, k⟩ := h
    have hu := hu_of hr
    refine ⟨_, pss_cons (ps_set (i := 2) scS.nd rfl (Or.inl rfl) pe_int)
      (pss_cons (ps_if (pt_cmpR op_lt (pv 1) (pe_callB call_len_seq (by rfl) T.len PySem.boot_len (pa_cons (pv 0) pa_nil)) (nomark _))
         (pss_one (ps_set (i := 2) scS.nd rfl (Or.inl rfl) (pe_ix ix_list (pv 0) (pv 1) (fun _ _ => rfl)))) pss_nil)
      (pss_cons (ps_set (i := 3) scS.nd rfl (Or.inl rfl) (pe_callB (call_max2 rfl) (by rfl) T.max PyProof.Rows.boot_max (pa_cons (pv 2) (pa_cons (pe_op op_sub (pe_un un_neg pe_int) (pv 2)) pa_nil))))
      (pss_cons (ps_set (i := 4) scS.nd rfl (Or.inl rfl) (pe_op op_mod (pe_op op_add (pe_op op_add (pe_op op_mul (pe_op op_mod (pv 3) pe_int) pe_int) (pe_op op_mul pe_int (pv 1))) pe_int) pe_int))
      (pss_cons (ps_if (pt_cmpR op_lt (pv 3) (pe_op op_pow pe_int pe_int) (nomark _)) (pss_one (ps_set (i := 3) scS.nd rfl (Or.inl rfl) pe_int)) pss_nil)
      (pss_one (ps_ret (pe_lst (pa_cons (pv 3) (pa_cons (pv 4) pa_nil))))))))), ?_⟩
    walk_at "rd"
    have fin : ∀ (c : Int) (H1 : Hp), H1 = H →
        0 < (2147483629 : Int) ∧ CMul ((if -1 - c > c then -1 - c else c) % 2147483629) 16807 ∧ CMul 104729 (j : Int) ∧ (0 : Int) < 2147483647 ∧ CPow 10 18 ∧
        if (if -1 - c > c then -1 - c else c) < 10 ^ Int.toNat 18 then
          2 ≤ sizeLine ∧ ∀ p, H1 p = none → Q (V.ref p) (upd H1 p (HO.lst [V.int 0, V.int (((if -1 - c > c then -1 - c else c) % 2147483629 * 16807 + 104729 * (j : Int) + 11) % 2147483647)]))
        else 2 ≤ sizeLine ∧ ∀ p, H1 p = none → Q (V.ref p) (upd H1 p (HO.lst [V.int (if -1 - c > c then -1 - c else c), V.int (((if -1 - c > c then -1 - c else c) % 2147483629 * 16807 + 104729 * (j : Int) + 11) % 2147483647)])) := by
      rintro c H1 rfl
      have hm : 0 ≤ (if -1 - c > c then -1 - c else c) := by split <;> omega
      generalize (if -1 - c > c then -1 - c else c) = m at hm
      refine ⟨by decide, Or.inr ⟨by decide, by decide⟩, Or.inl ⟨by decide, by decide⟩, by decide, ⟨by decide, by decide, by decide⟩, ?_⟩
      have hs0 := Int.emod_nonneg (m % 2147483629 * 16807 + 104729 * (j : Int) + 11) (show (2147483647 : Int) ≠ 0 by decide)
      have hs1 := Int.emod_lt_of_pos (m % 2147483629 * 16807 + 104729 * (j : Int) + 11) (show (0 : Int) < 2147483647 by decide)
      split
      · exact ⟨by decide, fun p hp => k p _ _ hp ⟨by decide, hs0, hs1⟩⟩
      · exact ⟨by decide, fun p hp => k p _ _ hp ⟨hm, hs0, hs1⟩⟩
    refine ⟨_, .inl hS, ?_⟩
    split
    · rename_i hlt
      have hlt' : j < (ns.map V.int).length := by omega
      refine ⟨a, _, _, _, rfl, rfl, hS, atI_nat (List.getElem?_eq_getElem hlt'), ?_⟩
      have e : (ns.map V.int)[j] = V.int (ns[j]'(by simpa using hlt')) := by simp
      rw [e]
      walk_at "rd"
      exact fin _ _ rfl
    · exact fin 0 _ rfl
theorem ok_draw {f : Addr} {fd : FuncData} (F : Fun K "_law_draw" "_law_draw" sDraw f fd) : FnOk P w K mg base CX0 1 f fd ["_law_source_here", "_law_amount"] spDraw := by
  refine F.ok scD (fun vs H Q E h => ?_) (fun cdv A outer s H vs Q E hr h => ?_)
  · obtain ⟨p, x, y, n, rfl, _⟩ := h
    rfl
  · obtain ⟨p, x, y, n, rfl, hL, ⟨hx, hy, hy2⟩, hn, hn2, k⟩ := h
    have hu := hu_of hr
    refine ⟨_, pss_cons (ps_if (pt_cmpR op_gt (pe_ix ix_list (pv 0) pe_int (fun _ _ => rfl)) pe_int (nomark _))
        (pss_cons (ps_set (i := 2) scD.nd rfl (Or.inl rfl) (pe_op op_mod (pe_ix ix_list (pv 0) pe_int (fun _ _ => rfl)) (pv 1)))
        (pss_cons (ps_asg (pe_op op_fdivW (pe_ix ix_list (pv 0) pe_int (fun _ _ => rfl)) (pv 1)) (pg_sub (pv 0) pe_int set_list))
        (pss_one (ps_ret (pv 2))))) pss_nil)
      (pss_cons (ps_asg (pe_op op_mod (pe_op op_add (pe_op op_mul (pe_ix ix_list (pv 0) pe_int (fun _ _ => rfl)) pe_int) pe_int) pe_int) (pg_sub (pv 0) pe_int set_list))
      (pss_one (ps_ret (pe_op op_mod (pe_op op_fdivW (pe_op op_mod (pe_op op_mul (pe_ix ix_list (pv 0) pe_int (fun _ _ => rfl)) (pe_ix ix_list (pv 0) pe_int (fun _ _ => rfl))) pe_int) pe_int) (pv 1))))), ?_⟩
    have hS : SqL K H p [.int x, .int y] := SqL.of hL
    have r0 : ∀ (H' : Hp) (x y : Int) (Q' : V → Hp → Prop), H' p = some (.lst [.int x, .int y]) → Q' (.int x) H' → rIxL K (V.ref p) (V.int 0) H' Q' := fun H' x y Q' h q =>
      ⟨p, _, _, _, rfl, rfl, SqL.of h, atI_nat (j := 0) rfl, q⟩
    have r1 : ∀ (H' : Hp) (x y : Int) (Q' : V → Hp → Prop), H' p = some (.lst [.int x, .int y]) → Q' (.int y) H' → rIxL K (V.ref p) (V.int 1) H' Q' := fun H' x y Q' h q =>
      ⟨p, _, _, _, rfl, rfl, SqL.of h, atI_nat (j := 1) rfl, q⟩
    have w0 : ∀ (H' : Hp) (x y : Int) (v : V) (Q' : Hp → Prop), H' p = some (.lst [.int x, .int y]) → Q' (upd H' p (.lst [v, .int y])) → rSetL (V.ref p) (V.int 0) v H' Q' := fun H' x y v Q' h q =>
      ⟨p, _, _, _, rfl, rfl, h, rfl, q⟩
    have w1 : ∀ (H' : Hp) (x y : Int) (v : V) (Q' : Hp → Prop), H' p = some (.lst [.int x, .int y]) → Q' (upd H' p (.lst [.int x, v])) → rSetL (V.ref p) (V.int 1) v H' Q' := fun H' x y v Q' h q =>
      ⟨p, _, _, _, rfl, rfl, h, rfl, q⟩
    have hb : n.natAbs < 2 ^ 100 := by omega
    walk_at "rd"
    refine r0 _ _ _ _ hL ?_
    walk_at "rd"
    split
    · rename_i hpos
      refine r0 _ _ _ _ hL ?_
      walk_at "rd"
      refine ⟨hn, r0 _ _ _ _ hL ?_⟩
      walk_at "rd"
      refine ⟨wide_div hn hb (by decide) (by decide), w0 _ _ _ _ _ hL ?_⟩
      exact k _ _ _ ⟨Int.ediv_nonneg hx (by omega), hy, hy2⟩ (Int.emod_nonneg _ (by omega)) (Int.emod_lt_of_pos _ hn)
    · refine r1 _ _ _ _ hL ?_
      walk_at "rd"
      refine ⟨Or.inr ⟨by decide, by decide⟩, by decide, w1 _ _ _ _ _ hL ?_⟩
      have hs0 := Int.emod_nonneg (y * 48271 + 11) (show (2147483647 : Int) ≠ 0 by decide)
      have hs1 := Int.emod_lt_of_pos (y * 48271 + 11) (show (0 : Int) < 2147483647 by decide)
      generalize (y * 48271 + 11) % 2147483647 = z at hs0 hs1
      refine r1 _ x z _ upd_same (r1 _ x z _ upd_same ?_)
      walk_at "rd"
      refine ⟨Or.inr ⟨by omega, by omega⟩, by decide, ⟨by decide, by decide⟩, hn, ?_⟩
      exact k _ _ _ ⟨hx, hs0, hs1⟩ (Int.emod_nonneg _ (by omega)) (Int.emod_lt_of_pos _ hn)
end
end K02
set_option Elab.async false
set_option linter.all false
set_option maxRecDepth 100000
set_option maxHeartbeats 4000000
namespace K02
open PySem L2 EX PyProof.Rows LamX
structure Bn (mg : Str → Option Value) : Prop where
  range : mg "range" = none
  max : mg "max" = none
  min : mg "min" = none
  len : mg "len" = none
  all : mg "all" = none
  isi : mg "isinstance" = none
  tuple : mg "tuple" = none
  list : mg "list" = none
  set : mg "set" = none
  int : mg "int" = none
  bool : mg "bool" = none
  str : mg "str" = none
  sorted : mg "sorted" = none
  repr : mg "repr" = none
  lw : ∃ t, mg "LONGEST_WORD" = some (.int 8 t)
  mk4 : ∃ t, mg "MOST_KEYS" = some (.int 4 t)
  st : ∃ t, mg "STORE" = some (.str "store" t)
  mw : ∃ t, mg "MOST_WAITING" = some (.int 20 t)
  dict : mg "dict" = none
  any : mg "any" = none
  ke : mg "KeyError" = none
  ga : ∃ t, mg "GREATEST_ALLOWANCE" = some (.int 99 t)
/-! ### words -/
def isW (s : Str) : Bool := !decide (8 < (s.length : Int)) && (Txt.isascii s && (Txt.isalpha s && Txt.islower s))
def isWv : V → Bool
  | .str s => isW s
  | _ => false
/-- what may lie in a list that is asked about -/
def ItemOk (x : V) : Prop := (∃ s : Str, x = .str s ∧ s.length ≤ sizeLine) ∨ x = .non ∨ ∃ n : Int, x = .int n
def spWord : Sp := fun vs H Q _ => ∃ x : V, vs = [x] ∧ ItemOk x ∧ Q (.bl (isWv x)) H
abbrev sWrd : Stmt := top 29
theorem scWrd : FnScope ["obj"] ["obj"] (defScope sWrd) := ⟨rfl, rfl, rfl, by decide +kernel, rfl, by decide +kernel, by decide +kernel⟩
section
variable {P : Program} {w : World} {K : PySem.W.Frag} {mg : Str → Option Value} {base : Heap}
theorem ok_word {f : Addr} {fd : FuncData} (F : Fun K "is_word" "is_word" sWrd f fd) (B : Bn mg) : FnOk P w K mg base CX0 1 f fd ["obj"] spWord := by
  refine F.ok scWrd (fun vs H Q E h => ?_) (fun cdv A outer s H vs Q E hr h => ?_)
  · obtain ⟨x, rfl, _⟩ := h
    rfl
  · obtain ⟨x, rfl, hx, k⟩ := h
    refine ⟨_, (pss_cons (ps_if (PW.pt (pw_or (pt_not (pt_val (pe_callB call_isi (by rfl) B.isi PyProof.Rows.boot_isinstance (pa_cons (pv 0) (pa_cons (pe_bltn (v := .ty "str") (by rfl) B.str (by decide +kernel) rfl) pa_nil))))) (pw_or1 (pt_cmpR op_gt (pe_callB call_len_str (by rfl) B.len PySem.boot_len (pa_cons (pv 0) pa_nil)) (pe_glob (v := .int _) (by rfl) B.lw.choose_spec ⟨_, rfl⟩) (nomark _))))) (pss_one (ps_ret pe_bl)) pss_nil)
        (pss_one (ps_ret (pe_and (pe_m0 PySem.F.slot_str_isascii PySem.F.type_str_isascii mt_isascii (pv 0)) (pe_and (pe_m0 PySem.F.slot_str_isalpha PySem.F.type_str_isalpha mt_isalpha (pv 0)) (pe_one (pe_m0 PySem.F.slot_str_islower PySem.F.type_str_islower mt_islower (pv 0)))))))), ?_⟩
    rcases hx with ⟨x, rfl, hz⟩ | rfl | ⟨n, rfl⟩
    · refine ⟨_, rfl, _, _, _, _, true, rfl, .ty _, .base (.str _), kit_ty (by decide +kernel), _, rfl, iteF ?_⟩
      refine ⟨_, rfl, x, rfl, hz, _, _, rfl, rfl, _, rfl, ite2 (fun h => ?_) (fun h => ?_)⟩
      · have k : Q (.bl (isW x)) H := k
        unfold isW at k
        rw [h, Bool.not_true, Bool.false_and] at k
        exact k
      · have k : Q (.bl (isW x)) H := k
        unfold isW at k
        rw [show decide (8 < (x.length : Int)) = false by simpa using h, Bool.not_false, Bool.true_and] at k
        refine ⟨_, rfl, ⟨_, rfl⟩, _, rfl, rfl, trivial, _, rfl, ite2 (fun h1 => ?_) (fun h1 => ?_)⟩
        · rw [h1, Bool.true_and] at k
          refine ⟨_, rfl, ⟨_, rfl⟩, _, rfl, rfl, trivial, _, rfl, ite2 (fun h2 => ?_) (fun h2 => ?_)⟩
          · rw [h2, Bool.true_and] at k
            exact ⟨_, rfl, ⟨_, rfl⟩, _, rfl, rfl, trivial, k⟩
          · rw [show Txt.isalpha x = false by simpa using h2, Bool.false_and] at k
            exact k
        · rw [show Txt.isascii x = false by simpa using h1, Bool.false_and] at k
          exact k
    · exact ⟨_, rfl, _, _, _, _, false, rfl, .ty _, .base .non, kit_ty (by decide +kernel), _, rfl, iteT k⟩
    · exact ⟨_, rfl, _, _, _, _, false, rfl, .ty _, .base (.int _), kit_ty (by decide +kernel), _, rfl, iteT k⟩
end
theorem isW_len {x : Str} (h : isW x = true) : x.length ≤ sizeLine := by
  unfold isW at h
  rw [Bool.and_eq_true] at h
  have h1 := h.1
  simp at h1
  rw [sizeLine_eq]
  omega
abbrev strV (o : List Str) : List V := o.map V.str
theorem strV_get {o : List Str} {i : Nat} {x : V} (h : (strV o)[i]? = some x) : ∃ s, x = .str s ∧ o[i]? = some s := by
  rw [List.getElem?_map] at h
  cases e : o[i]? with
  | none => rw [e] at h; cases h
  | some s => rw [e] at h; exact ⟨s, (Option.some.inj h).symm, rfl⟩
theorem tyx_lst {K : PySem.W.Frag} {H : Hp} {a : Addr} {xs : List V} (h : SqL K H a xs) : TyX K H (.ref a) (.type "list") := by
  rcases h with (h | ⟨o, h⟩) | ⟨o, its, n, h1, h2, _⟩
  · exact .base (.lst h)
  · exact .base (.frz h)
  · exact .kList h1 h2
theorem tyx_tup {K : PySem.W.Frag} {H : Hp} {a : Addr} {xs : List V} (h : SqT K H a xs) : TyX K H (.ref a) (.type "tuple") := by
  rcases h with (h | ⟨o, h⟩) | ⟨o, its, n, h1, h2, _⟩
  · exact .base (.tup h)
  · exact .fTuple h
  · exact .kTuple h1 h2
/-- a list or a tuple -/
abbrev SqE (K : PySem.W.Frag) (H : Hp) (a : Addr) (xs : List V) : Prop := SqL K H a xs ∨ SqT K H a xs
theorem SqE.mono {K : PySem.W.Frag} {H H' : Hp} {a : Addr} {xs : List V} (s : Same H H') (h : SqE K H a xs) : SqE K H' a xs := h.elim (fun h => .inl (s.seq h)) fun h => .inr (sqt_same s h)
/-! ### keys -/
/-- the texts of a list of texts -/
def txs : List V → List Str
  | .str s :: r => s :: txs r
  | _ => []
theorem txs_all : ∀ {xs : List V}, (∀ x ∈ xs, isWv x = true) → strV (txs xs) = xs
  | [], _ => rfl
  | .str s :: r, h => by
    show V.str s :: strV (txs r) = _
    rw [txs_all (xs := r) fun x hx => h x (.tail _ hx)]
  | .non :: r, h => by cases h _ (.head _)
  | .bl b :: r, h => by cases h _ (.head _)
  | .int n :: r, h => by cases h _ (.head _)
  | .flt n :: r, h => by cases h _ (.head _)
  | .byt n :: r, h => by cases h _ (.head _)
  | .ty n :: r, h => by cases h _ (.head _)
  | .ref n :: r, h => by cases h _ (.head _)
def goodK (xs : List V) : Bool := (decide ((1 : Int) ≤ (xs.length : Nat)) && decide (((xs.length : Nat) : Int) ≤ 4)) && (xs.all isWv && decide (dn [] (txs xs) = xs.length))
/-- neither a list nor a tuple -/
def NotSeq (H : Hp) (x : V) : Prop := x = .non ∨ (∃ s, x = .str s) ∨ ∃ d kvs, x = .ref d ∧ H d = some (.dK kvs)
theorem NotSeq.mono {H H' : Hp} (s : Same H H') {x : V} (h : NotSeq H x) : NotSeq H' x := h.imp id (Or.imp id fun ⟨d, kvs, e, h⟩ => ⟨d, kvs, e, s _ _ h⟩)
theorem NotSeq.ty {K : PySem.W.Frag} {H : Hp} {x : V} (h : NotSeq H x) : ∃ t : String, TyX K H x (.type t) ∧ PySem.W.kitAny K (.type t) [.type "list", .type "tuple"] = some false := by
  rcases h with rfl | ⟨s, rfl⟩ | ⟨d, kvs, rfl, h⟩
  · exact ⟨_, .base .non, kitAny_cons (b := false) (kit_ty (by decide +kernel)) (fun _ => kitAny_cons (b := false) (kit_ty (by decide +kernel)) (fun _ => rfl) (fun z => absurd z (by decide))) (fun z => absurd z (by decide))⟩
  · exact ⟨_, .base (.str _), kitAny_cons (b := false) (kit_ty (by decide +kernel)) (fun _ => kitAny_cons (b := false) (kit_ty (by decide +kernel)) (fun _ => rfl) (fun z => absurd z (by decide))) (fun z => absurd z (by decide))⟩
  · exact ⟨_, .base (.dK h), kitAny_cons (b := false) (kit_ty (by decide +kernel)) (fun _ => kitAny_cons (b := false) (kit_ty (by decide +kernel)) (fun _ => rfl) (fun z => absurd z (by decide))) (fun z => absurd z (by decide))⟩
theorem seq_ty {K : PySem.W.Frag} {H : Hp} {a : Addr} {xs : List V} (h : SqE K H a xs) : ∃ t : String, TyX K H (.ref a) (.type t) ∧ PySem.W.kitAny K (.type t) [.type "list", .type "tuple"] = some true := by
  rcases h with h | h
  · exact ⟨_, tyx_lst h, kitAny_cons (b := true) (kit_ty (by decide +kernel)) (fun z => absurd z (by decide)) (fun _ => rfl)⟩
  · exact ⟨_, tyx_tup h, kitAny_cons (b := false) (kit_ty (by decide +kernel)) (fun _ => kitAny_cons (b := true) (kit_ty (by decide +kernel)) (fun z => absurd z (by decide)) (fun _ => rfl)) (fun z => absurd z (by decide))⟩
/-- what is asked to be keys: a list or tuple, or none -/
def KeyArg (K : PySem.W.Frag) (H : Hp) (x : V) (b : Bool) : Prop := (∃ a xs, x = .ref a ∧ SqE K H a xs ∧ xs.length ≤ 1000 ∧ (∀ y ∈ xs, ItemOk y) ∧ b = goodK xs) ∨ (NotSeq H x ∧ b = false)
theorem KeyArg.mono {K : PySem.W.Frag} {H H' : Hp} (s : Same H H') {x : V} {b : Bool} (h : KeyArg K H x b) : KeyArg K H' x b := h.imp (fun ⟨a, xs, e, h1, h2⟩ => ⟨a, xs, e, h1.mono s, h2⟩) fun ⟨h1, h2⟩ => ⟨h1.mono s, h2⟩
def spKeys (K : PySem.W.Frag) : Sp := fun vs H Q _ => ∃ (x : V) (b : Bool), vs = [x] ∧ KeyArg K H x b ∧ ∀ H', Same H H' → Q (.bl b) H'
abbrev sKey : Stmt := top 30
def sKeyN : List Str := ["obj", "item"]
theorem scKey : FnScope ["obj", "item"] ["obj"] (defScope sKey) := ⟨rfl, rfl, rfl, by decide +kernel, rfl, by decide +kernel, by decide +kernel⟩
section
variable {P : Program} {w : World} {K : PySem.W.Frag} {mg : Str → Option Value} {base : Heap}
theorem ok_keys {f : Addr} {fd : FuncData} (F : Fun K "are_keys" "are_keys" sKey f fd) (B : Bn mg) (GW : DefAt P w K mg base 1 "is_word" ["obj"] spWord) : FnOk P w K mg base CX0 2 f fd ["obj"] (spKeys K) := by
  refine F.ok scKey (fun vs H Q E h => ?_) (fun cdv A outer s H vs Q E hr h => ?_)
  · obtain ⟨x, b, rfl, _⟩ := h
    rfl
  · obtain ⟨x, b, rfl, hx, k⟩ := h
    have hr1 : Room 1 _ := hr
    rcases hx with ⟨a, xs, rfl, ho, hl, hi, rfl⟩ | ⟨hn, rfl⟩
    · rcases ho with ho | ho
      · refine ⟨_, (pss_cons (ps_if (PW.pt (pw_or (pt_not (pt_val (pe_callB call_isiT (by rfl) B.isi PyProof.Rows.boot_isinstance (pa_cons (pv 0) (pa_cons (pe_tup (pa_cons (pe_bltn (v := .ty "list") (by rfl) B.list (by decide +kernel) rfl) (pa_cons (pe_bltn (v := .ty "tuple") (by rfl) B.tuple (by decide +kernel) rfl) pa_nil))) pa_nil))))) (pw_or1 (pt_not (pt_chain op_le op_le pe_int (pe_callB call_len_seq (by rfl) B.len PySem.boot_len (pa_cons (pv 0) pa_nil)) (pe_glob (v := .int _) (by rfl) B.mk4.choose_spec ⟨_, rfl⟩)))))) (pss_one (ps_ret pe_bl)) pss_nil)
          (pss_cons (ps_if (pt_not (pt_val (pe_callB (cr_all rfl) (by rfl) B.all (by decide +kernel) (pa_cons (pe_lc (own := [("item", 1)]) (g := (gName 1)) (tt := tYes) (te := tCall spWord [] E0 (tCons (tVar 1) tNil)) rfl scKey.nd (pi_list (pv 0)) (blkOk_by (N := sKeyN) (sc := defScope sKey) (by decide +kernel)) (fun _ _ _ _ _ => (pg_name (i := 1) scKey.nd rfl (Or.inl rfl))) (fun _ _ _ _ _ => pts_nil) (fun _ _ _ _ _ => (pe_callD GW hr1 (pa_cons (pv 1) pa_nil)))) pa_nil)))) (pss_one (ps_ret pe_bl)) pss_nil)
          (pss_one (ps_ret (pe_cmpR op_eq (pe_lenSetS rfl (by rfl) B.len (by rfl) B.set (pv 0)) (pe_callB call_len_seq (by rfl) B.len PySem.boot_len (pa_cons (pv 0) pa_nil)) (nomark _)))))), ?_⟩
        refine ⟨_, rfl, by show 2 ≤ sizeLine; decide, fun q hq => ?_⟩
        have s1 : Same H (upd H q (.tup [.ty "list", .ty "tuple"])) := Same.upd hq
        have l1 : upd H q (HO.tup [.ty "list", .ty "tuple"]) q = some (.tup [.ty "list", .ty "tuple"]) := upd_same
        generalize upd H q (HO.tup [.ty "list", .ty "tuple"]) = H1 at s1 l1 ⊢
        have ho1 := s1.seq ho
        obtain ⟨t, hty, hk⟩ := seq_ty (K := K) (H := H1) (a := a) (xs := xs) (.inl ho1)
        refine ⟨_, q, _, _, _, true, rfl, l1, .cons (.ty _) (.cons (.ty _) .nil), hty, hk, _, rfl, iteF ?_⟩
        refine ⟨_, rfl, a, xs, rfl, .inl ho1, _, _, rfl, rfl, ?_⟩
        unfold goodK at k
        refine ⟨_, rfl, ite2 (fun h1 => ?_) (fun h1 => ?_)⟩
        rotate_left
        · rw [show decide ((1 : Int) ≤ (xs.length : Nat)) = false by simpa using h1, Bool.false_and, Bool.false_and] at k
          exact ⟨_, rfl, iteT (k _ s1)⟩
        rw [h1, Bool.true_and] at k
        refine ⟨_, _, rfl, rfl, _, rfl, ite2 (fun h2 => ?_) (fun h2 => ?_)⟩
        · rw [show decide (((xs.length : Nat) : Int) ≤ 4) = false by simpa using h2, Bool.false_and] at k
          exact k _ s1
        rw [show decide (((xs.length : Nat) : Int) ≤ 4) = true by simpa using h2, Bool.true_and] at k
        refine ⟨_, rfl, a, rfl, ⟨_, ho1⟩, fun D hD => ?_⟩
        refine lc_list (K := K) (a := a) (xs := xs) (fun q H4 => Same H1 H4 ∧ H4 D = some (.lst (((xs.take q).map isWv).map V.bl))) ⟨Same.upd hD, upd_same⟩ (fun q H4 _ z => z.1.seq ho1) ?_ ?_
        · rintro i x H4 hx ⟨S4, lD⟩
          refine ⟨rfl, ?_⟩
          refine ⟨_, rfl, x, rfl, hi x (List.mem_of_getElem? hx), ?_⟩
          refine ⟨_, lD, ?_, EX.Same.updN S4 hD, ?_⟩
          · rw [List.length_map, List.length_map, List.length_take, sizeLine_eq]
            omega
          · rw [upd_same, List.take_add_one, hx]
            simp
        rintro H4 ⟨S4, lD⟩
        rw [List.take_length] at lD
        have S := Same.trans s1 S4
        refine ⟨D, _, rfl, SqL.of lD, ?_⟩
        rw [show (xs.map isWv).all id = xs.all isWv by rw [List.all_map]; rfl]
        refine ⟨_, rfl, ite2 (fun h3 => ?_) (fun h3 => ?_)⟩
        · rw [show xs.all isWv = false by simpa using h3, Bool.false_and] at k
          exact k _ S
        have h3 : xs.all isWv = true := by simpa using h3
        rw [h3, Bool.true_and] at k
        have e3 := txs_all (xs := xs) fun x hx => List.all_eq_true.mp h3 x hx
        have ho4 : SqE K H4 a (strV (txs xs)) := by
          rw [e3]
          exact .inl (S4.seq ho1)
        refine ⟨_, rfl, a, txs xs, rfl, ho4, ?_, _, rfl, a, xs, rfl, .inl (S4.seq ho1), ?_⟩
        · have : (strV (txs xs)).length = xs.length := by rw [e3]
          rw [List.length_map] at this
          omega
        refine ⟨rfl, ?_⟩
        have e4 : decide (V.int (dn [] (txs xs) : Nat) = V.int (xs.length : Nat)) = decide (dn [] (txs xs) = xs.length) := by
          refine decide_eq_decide.mpr ⟨fun z => ?_, fun z => by rw [z]⟩
          have := V.int.inj z
          omega
        rw [e4]
        exact k _ S
      · refine ⟨_, (pss_cons (ps_if (PW.pt (pw_or (pt_not (pt_val (pe_callB call_isiT (by rfl) B.isi PyProof.Rows.boot_isinstance (pa_cons (pv 0) (pa_cons (pe_tup (pa_cons (pe_bltn (v := .ty "list") (by rfl) B.list (by decide +kernel) rfl) (pa_cons (pe_bltn (v := .ty "tuple") (by rfl) B.tuple (by decide +kernel) rfl) pa_nil))) pa_nil))))) (pw_or1 (pt_not (pt_chain op_le op_le pe_int (pe_callB call_len_seq (by rfl) B.len PySem.boot_len (pa_cons (pv 0) pa_nil)) (pe_glob (v := .int _) (by rfl) B.mk4.choose_spec ⟨_, rfl⟩)))))) (pss_one (ps_ret pe_bl)) pss_nil)
          (pss_cons (ps_if (pt_not (pt_val (pe_callB (cr_all rfl) (by rfl) B.all (by decide +kernel) (pa_cons (pe_lc (own := [("item", 1)]) (g := (gName 1)) (tt := tYes) (te := tCall spWord [] E0 (tCons (tVar 1) tNil)) rfl scKey.nd (pi_tup (pv 0)) (blkOk_by (N := sKeyN) (sc := defScope sKey) (by decide +kernel)) (fun _ _ _ _ _ => (pg_name (i := 1) scKey.nd rfl (Or.inl rfl))) (fun _ _ _ _ _ => pts_nil) (fun _ _ _ _ _ => (pe_callD GW hr1 (pa_cons (pv 1) pa_nil)))) pa_nil)))) (pss_one (ps_ret pe_bl)) pss_nil)
          (pss_one (ps_ret (pe_cmpR op_eq (pe_lenSetS rfl (by rfl) B.len (by rfl) B.set (pv 0)) (pe_callB call_len_seq (by rfl) B.len PySem.boot_len (pa_cons (pv 0) pa_nil)) (nomark _)))))), ?_⟩
        refine ⟨_, rfl, by show 2 ≤ sizeLine; decide, fun q hq => ?_⟩
        have s1 : Same H (upd H q (.tup [.ty "list", .ty "tuple"])) := Same.upd hq
        have l1 : upd H q (HO.tup [.ty "list", .ty "tuple"]) q = some (.tup [.ty "list", .ty "tuple"]) := upd_same
        generalize upd H q (HO.tup [.ty "list", .ty "tuple"]) = H1 at s1 l1 ⊢
        have ho1 := sqt_same s1 ho
        obtain ⟨t, hty, hk⟩ := seq_ty (K := K) (H := H1) (a := a) (xs := xs) (.inr ho1)
        refine ⟨_, q, _, _, _, true, rfl, l1, .cons (.ty _) (.cons (.ty _) .nil), hty, hk, _, rfl, iteF ?_⟩
        refine ⟨_, rfl, a, xs, rfl, .inr ho1, _, _, rfl, rfl, ?_⟩
        unfold goodK at k
        refine ⟨_, rfl, ite2 (fun h1 => ?_) (fun h1 => ?_)⟩
        rotate_left
        · rw [show decide ((1 : Int) ≤ (xs.length : Nat)) = false by simpa using h1, Bool.false_and, Bool.false_and] at k
          exact ⟨_, rfl, iteT (k _ s1)⟩
        rw [h1, Bool.true_and] at k
        refine ⟨_, _, rfl, rfl, _, rfl, ite2 (fun h2 => ?_) (fun h2 => ?_)⟩
        · rw [show decide (((xs.length : Nat) : Int) ≤ 4) = false by simpa using h2, Bool.false_and] at k
          exact k _ s1
        rw [show decide (((xs.length : Nat) : Int) ≤ 4) = true by simpa using h2, Bool.true_and] at k
        refine ⟨_, rfl, a, rfl, ⟨_, ho1⟩, fun D hD => ?_⟩
        refine lc_tup (K := K) (a := a) (xs := xs) (fun q H4 => Same H1 H4 ∧ H4 D = some (.lst (((xs.take q).map isWv).map V.bl))) ⟨Same.upd hD, upd_same⟩ (fun q H4 _ z => sqt_same z.1 ho1) ?_ ?_
        · rintro i x H4 hx ⟨S4, lD⟩
          refine ⟨rfl, ?_⟩
          refine ⟨_, rfl, x, rfl, hi x (List.mem_of_getElem? hx), ?_⟩
          refine ⟨_, lD, ?_, EX.Same.updN S4 hD, ?_⟩
          · rw [List.length_map, List.length_map, List.length_take, sizeLine_eq]
            omega
          · rw [upd_same, List.take_add_one, hx]
            simp
        rintro H4 ⟨S4, lD⟩
        rw [List.take_length] at lD
        have S := Same.trans s1 S4
        refine ⟨D, _, rfl, SqL.of lD, ?_⟩
        rw [show (xs.map isWv).all id = xs.all isWv by rw [List.all_map]; rfl]
        refine ⟨_, rfl, ite2 (fun h3 => ?_) (fun h3 => ?_)⟩
        · rw [show xs.all isWv = false by simpa using h3, Bool.false_and] at k
          exact k _ S
        have h3 : xs.all isWv = true := by simpa using h3
        rw [h3, Bool.true_and] at k
        have e3 := txs_all (xs := xs) fun x hx => List.all_eq_true.mp h3 x hx
        have ho4 : SqE K H4 a (strV (txs xs)) := by
          rw [e3]
          exact .inr (sqt_same S4 ho1)
        refine ⟨_, rfl, a, txs xs, rfl, ho4, ?_, _, rfl, a, xs, rfl, .inr (sqt_same S4 ho1), ?_⟩
        · have : (strV (txs xs)).length = xs.length := by rw [e3]
          rw [List.length_map] at this
          omega
        refine ⟨rfl, ?_⟩
        have e4 : decide (V.int (dn [] (txs xs) : Nat) = V.int (xs.length : Nat)) = decide (dn [] (txs xs) = xs.length) := by
          refine decide_eq_decide.mpr ⟨fun z => ?_, fun z => by rw [z]⟩
          have := V.int.inj z
          omega
        rw [e4]
        exact k _ S
    · refine ⟨_, (pss_cons (ps_if (PW.pt (pw_or (pt_not (pt_val (pe_callB call_isiT (by rfl) B.isi PyProof.Rows.boot_isinstance (pa_cons (pv 0) (pa_cons (pe_tup (pa_cons (pe_bltn (v := .ty "list") (by rfl) B.list (by decide +kernel) rfl) (pa_cons (pe_bltn (v := .ty "tuple") (by rfl) B.tuple (by decide +kernel) rfl) pa_nil))) pa_nil))))) (pw_or1 (pt_not (pt_chain op_le op_le pe_int (pe_callB call_len_seq (by rfl) B.len PySem.boot_len (pa_cons (pv 0) pa_nil)) (pe_glob (v := .int _) (by rfl) B.mk4.choose_spec ⟨_, rfl⟩)))))) (pss_one (ps_ret pe_bl)) pss_nil)
        (pss_cons (ps_if (pt_not (pt_val (pe_callB (cr_all rfl) (by rfl) B.all (by decide +kernel) (pa_cons (pe_lc (own := [("item", 1)]) (g := (gName 1)) (tt := tYes) (te := tCall spWord [] E0 (tCons (tVar 1) tNil)) rfl scKey.nd (pi_list (pv 0)) (blkOk_by (N := sKeyN) (sc := defScope sKey) (by decide +kernel)) (fun _ _ _ _ _ => (pg_name (i := 1) scKey.nd rfl (Or.inl rfl))) (fun _ _ _ _ _ => pts_nil) (fun _ _ _ _ _ => (pe_callD GW hr1 (pa_cons (pv 1) pa_nil)))) pa_nil)))) (pss_one (ps_ret pe_bl)) pss_nil)
        (pss_one (ps_ret (pe_cmpR op_eq (pe_lenSetS rfl (by rfl) B.len (by rfl) B.set (pv 0)) (pe_callB call_len_seq (by rfl) B.len PySem.boot_len (pa_cons (pv 0) pa_nil)) (nomark _)))))), ?_⟩
      refine ⟨_, rfl, by show 2 ≤ sizeLine; decide, fun q hq => ?_⟩
      have s1 : Same H (upd H q (.tup [.ty "list", .ty "tuple"])) := Same.upd hq
      have l1 : upd H q (HO.tup [.ty "list", .ty "tuple"]) q = some (.tup [.ty "list", .ty "tuple"]) := upd_same
      generalize upd H q (HO.tup [.ty "list", .ty "tuple"]) = H1 at s1 l1 ⊢
      obtain ⟨t, hty, hk⟩ := (hn.mono s1).ty (K := K)
      exact ⟨_, q, _, _, _, false, rfl, l1, .cons (.ty _) (.cons (.ty _) .nil), hty, hk, _, rfl, iteT (k _ s1)⟩
end
end K02
set_option Elab.async false
set_option linter.all false
set_option maxRecDepth 100000
set_option maxHeartbeats 4000000
/-! an own object under construction: it stands at n with its fields so far, the things made for it are kept in a list -/
namespace EX
open PySem L2 PyProof.Rows
structure Bd (N n dx : Addr) (H0 H : Hp) (fs : List (Str × V)) (l : List (Addr × HO)) : Prop where
  at_ : H n = some (.ins N dx fs)
  k : Keeps [n] H0 H
  own : ∀ x ∈ l, x.1 ≠ n ∧ H x.1 = some x.2
section
variable {N n dx : Addr} {H0 H H' : Hp} {fs fs' : List (Str × V)} {l : List (Addr × HO)} {p : Addr} {o : HO}
theorem Bd.start (h : H n = some (.ins N dx fs)) : Bd N n dx H H fs [] := ⟨h, Keeps.refl _ _, fun x hx => nomatch hx⟩
theorem Bd.same (b : Bd N n dx H0 H fs l) (s : Same H H') : Bd N n dx H0 H' fs l := ⟨s _ _ b.at_, b.k.then s, fun x hx => ⟨(b.own x hx).1, s _ _ (b.own x hx).2⟩⟩
theorem Bd.new (b : Bd N n dx H0 H fs l) (hp : H p = none) : Bd N n dx H0 (upd H p o) fs ((p, o) :: l) := by
  have hn : p ≠ n := fun z => by
    rw [z, b.at_] at hp
    cases hp
  have s : Same H (upd H p o) := fun c u e => by
    rw [upd_ne (fun z => by rw [z, hp] at e; cases e)]
    exact e
  have b2 := b.same s
  refine ⟨b2.at_, b2.k, fun x hx => ?_⟩
  rcases List.mem_cons.mp hx with rfl | hx
  · exact ⟨hn, upd_same⟩
  · exact b2.own x hx
theorem Bd.add (b : Bd N n dx H0 H fs l) (hp : H p = some o) (hn : p ≠ n) : Bd N n dx H0 H fs ((p, o) :: l) := ⟨b.at_, b.k, fun x hx => by
  rcases List.mem_cons.mp hx with rfl | hx
  · exact ⟨hn, hp⟩
  · exact b.own x hx⟩
theorem Bd.addAll {m : List (Addr × HO)} (b : Bd N n dx H0 H fs l) (h : ∀ x ∈ m, x.1 ≠ n ∧ H x.1 = some x.2) : Bd N n dx H0 H fs (l ++ m) := ⟨b.at_, b.k, fun x hx => (List.mem_append.mp hx).elim (b.own x) (h x)⟩
theorem Bd.put (b : Bd N n dx H0 H fs l) : Bd N n dx H0 (upd H n (.ins N dx fs')) fs' l := by
  refine ⟨upd_same, b.k.put (by simp), fun x hx => ?_⟩
  obtain ⟨h1, h2⟩ := b.own x hx
  refine ⟨h1, ?_⟩
  rw [upd_ne h1]
  exact h2
theorem Bd.get (b : Bd N n dx H0 H fs l) (i : Nat) {x : Addr × HO} (h : l[i]? = some x := by rfl) : H x.1 = some x.2 := (b.own x (List.mem_of_getElem? h)).2
theorem Bd.ne (b : Bd N n dx H0 H fs l) (hp : H p = none) : p ≠ n := fun z => by
  rw [z, b.at_] at hp
  cases hp
/-- an own object made inside another's making: what was there stays -/
theorem made_same {C q dy : Addr} {H1 : Hp} (hq : H q = none) (hy : H dy = none) (hn : dy ≠ q) (k : Keeps [q] (upd (upd H dy (.own q)) q (.ins C dy [])) H1) : Same H H1 := fun b o e => by
  have n1 : b ≠ q := fun z => by rw [z, hq] at e; cases e
  have n2 : b ≠ dy := fun z => by rw [z, hy] at e; cases e
  refine k b o (by simpa using n1) ?_
  rw [upd_ne n1, upd_ne n2]
  exact e
end
end EX
namespace EX
open PySem L2 PyProof.Rows
theorem unlock {H H1 : Hp} {d : Addr} {u : HO} {od : Obj} (h : H d = some u) (s : Same (upd H d (.frz od u)) H1) : Same H (upd H1 d u) := fun b o e => by
  by_cases hb : b = d
  · subst hb
    rw [upd_same, ← h, e]
  · rw [upd_ne hb]
    refine s b o ?_
    rw [upd_ne hb]
    exact e
theorem notNone {a : Addr} : (!decide (V.ref a = V.non)) = true := by
  rw [decide_eq_false (fun z => nomatch z)]
  rfl
theorem isNone {a : Addr} : decide (V.ref a = V.non) = false := decide_eq_false (fun z => nomatch z)
end EX
namespace EX
open PySem L2 PyProof.Rows
/-- new things, what was there stays -/
structure Ks (H0 H : Hp) (l : List (Addr × HO)) : Prop where
  s : Same H0 H
  own : ∀ x ∈ l, H x.1 = some x.2
section
variable {H0 H H' : Hp} {l : List (Addr × HO)} {p : Addr} {o : HO}
theorem Ks.start (H : Hp) : Ks H H [] := ⟨Same.refl _, fun x hx => nomatch hx⟩
theorem Ks.same (b : Ks H0 H l) (s : Same H H') : Ks H0 H' l := ⟨Same.trans b.s s, fun x hx => s _ _ (b.own x hx)⟩
theorem Ks.add (b : Ks H0 H l) (h : H p = some o) : Ks H0 H ((p, o) :: l) := ⟨b.s, fun x hx => by
  rcases List.mem_cons.mp hx with rfl | hx
  · exact h
  · exact b.own x hx⟩
theorem Ks.new (b : Ks H0 H l) (hp : H p = none) : Ks H0 (upd H p o) ((p, o) :: l) := (b.same (Same.upd hp)).add upd_same
theorem Ks.get (b : Ks H0 H l) (i : Nat) {x : Addr × HO} (h : l[i]? = some x := by rfl) : H x.1 = some x.2 := b.own x (List.mem_of_getElem? h)
end
end EX
set_option Elab.async false
set_option linter.all false
set_option maxRecDepth 100000
set_option maxHeartbeats 4000000
/-! a net in the heap: its changeable objects as one list of places and contents -/
namespace NZ
open PySem L2 EX PyProof.Rows
/-! ### places and contents -/
structure Holds (H : Hp) (l : List (Addr × HO)) : Prop where
  nd : (l.map (·.1)).Nodup
  at_ : ∀ x ∈ l, H x.1 = some x.2
/-- no tuple among them -/
def NoT (l : List (Addr × HO)) : Prop := ∀ x ∈ l, (∀ xs, x.2 ≠ .tup xs) ∧ ∀ q xs, x.2 ≠ .frz q (.tup xs)
section
variable {H H' : Hp} {l l' m : List (Addr × HO)} {p : Addr} {o o' : HO}
theorem Holds.same (h : Holds H l) (s : Same H H') : Holds H' l := ⟨h.nd, fun x hx => s _ _ (h.at_ x hx)⟩
theorem Holds.sub (h : Holds H l) (nd : (l'.map (·.1)).Nodup) (s : ∀ x ∈ l', x ∈ l) : Holds H l' := ⟨nd, fun x hx => h.at_ x (s x hx)⟩
theorem Holds.perm (h : Holds H l) (p : l'.Perm l) : Holds H l' := ⟨(p.map _).nodup_iff.mpr h.nd, fun x hx => h.at_ x (p.mem_iff.mp hx)⟩
/-- one place takes another content -/
theorem Holds.put (h : Holds H l) (hm : l'.map (·.1) = l.map (·.1)) (hx : ∀ x ∈ l', (x.1 = p ∧ x.2 = o') ∨ (x.1 ≠ p ∧ x ∈ l)) : Holds (upd H p o') l' := by
  refine ⟨by rw [hm]; exact h.nd, fun x hxl => ?_⟩
  rcases hx x hxl with ⟨e1, e2⟩ | ⟨n, hin⟩
  · rw [e1, upd_same, e2]
  · rw [upd_ne n]
    exact h.at_ x hin
theorem Holds.split (h : Holds H (l ++ (p, o) :: m)) : Holds (upd H p o') (l ++ (p, o') :: m) := by
  refine h.put (by simp) fun x hx => ?_
  have nd := h.nd
  rw [List.map_append, List.map_cons, List.nodup_append] at nd
  obtain ⟨_, n2, n3⟩ := nd
  rcases List.mem_append.mp hx with hx | hx
  · exact .inr ⟨fun z => n3 x.1 (List.mem_map.mpr ⟨x, hx, rfl⟩) p (.head _) z, List.mem_append_left _ hx⟩
  · rcases List.mem_cons.mp hx with rfl | hx
    · exact .inl ⟨rfl, rfl⟩
    · exact .inr ⟨fun z => (List.nodup_cons.mp n2).1 (by rw [← z]; exact List.mem_map.mpr ⟨x, hx, rfl⟩), List.mem_append_right _ (.tail _ hx)⟩
theorem Holds.new (h : Holds H l) (hp : H p = none) : Holds (upd H p o) (l ++ [(p, o)]) := by
  have hn : p ∉ l.map (·.1) := fun z => by
    obtain ⟨x, hx, e⟩ := List.mem_map.mp z
    rw [← e, h.at_ x hx] at hp
    cases hp
  refine ⟨?_, fun x hx => ?_⟩
  · rw [List.map_append, List.nodup_append]
    refine ⟨h.nd, by simp, fun a ha b hb e => ?_⟩
    rw [List.map_cons, List.map_nil, List.mem_singleton] at hb
    rw [e, hb] at ha
    exact hn ha
  · rcases List.mem_append.mp hx with hx | hx
    · rw [upd_ne (fun z => hn (by rw [← z]; exact List.mem_map.mpr ⟨x, hx, rfl⟩))]
      exact h.at_ x hx
    · rw [List.mem_singleton.mp hx, upd_same]
theorem Holds.keeps {S : List Addr} (h : Holds H l) (k : Keeps S H H') (hs : ∀ x ∈ l, x.1 ∉ S) : Holds H' l := ⟨h.nd, fun x hx => k _ _ (hs x hx) (h.at_ x hx)⟩
theorem Holds.ne (h : Holds H l) (hp : H p = none) : ∀ x ∈ l, x.1 ≠ p := fun x hx z => by
  rw [← z, h.at_ x hx] at hp
  cases hp
end
/-! ### the parts of a net -/
structure NodeZ where
  na : Addr
  dx : Addr
  cd : Addr
  en : Addr
  label : Str
  above : V
  row : V
  cells : List (Str × V)
  kids : List (Str × Addr)
  kt : V
structure RowZ where
  ra : Addr
  dx : Addr
  cd : Addr
  dq : Addr
  uq : Addr
  child : Str
  above : Str
  dl : V
  ul : V
  cells : List (Str × V)
  rais : V
  there : Bool
  crashed : Bool
  down : List V
  up : List V
structure NetZ where
  n : Addr
  dx : Addr
  nd : Addr
  rd : Addr
  dn : Addr
  kp : Addr
  ac : Addr
  sm : Addr
  tr : Addr
  an : Addr
  rc : Addr
  tw : V
  top : V
  la : V
  qs : Int
  nodes : List NodeZ
  rows : List RowZ
  done : List V
  kept : List (Str × V)
  acc : List V
  stm : List V
  trails : List (Key × V)
  answered : List (Key × V)
  receipts : List (Key × V)
abbrev strK (l : List (Str × V)) : List (Key × V) := l.map fun p => (Sum.inr p.1, p.2)
abbrev refK (l : List (Str × Addr)) : List (Key × V) := l.map fun p => (Sum.inr p.1, .ref p.2)
/-- the classes -/
structure Cs where
  C : Addr
  E : Addr
  N : Addr
abbrev nodeF (n : Addr) (z : NodeZ) : List (Str × V) := [("home", .ref n), ("label", .str z.label), ("above", z.above), ("row", z.row), ("gone", .bl false), ("cells", .ref z.cd), ("entries", .ref z.en), ("kids", z.kt)]
abbrev rowF (r : RowZ) : List (Str × V) := [("above", .str r.above), ("down_link", r.dl), ("up_link", r.ul), ("cells", .ref r.cd), ("raising", r.rais), ("there", .bl r.there), ("crashed", .bl r.crashed), ("down", .ref r.dq), ("up", .ref r.uq)]
abbrev netF (z : NetZ) : List (Str × V) := [("words", z.tw), ("top", z.top), ("nodes", .ref z.nd), ("labels", z.la), ("rows", .ref z.rd), ("done", .ref z.dn), ("kept", .ref z.kp), ("accepted", .ref z.ac), ("stamps", .ref z.sm), ("questions", .int z.qs), ("trails", .ref z.tr), ("answered", .ref z.an), ("receipts", .ref z.rc)]
def nodeO (c : Cs) (n : Addr) (z : NodeZ) : List (Addr × HO) := [(z.na, .ins c.C z.dx (nodeF n z)), (z.cd, .dK (strK z.cells)), (z.en, .dK (refK z.kids))]
def rowO (c : Cs) (r : RowZ) : List (Addr × HO) := [(r.ra, .ins c.E r.dx (rowF r)), (r.cd, .dK (strK r.cells)), (r.dq, .lst r.down), (r.uq, .lst r.up)]
abbrev nodesK (l : List NodeZ) : List (Key × V) := l.map fun z => (Sum.inr z.label, .ref z.na)
abbrev rowsK (l : List RowZ) : List (Key × V) := l.map fun r => (Sum.inr r.child, .ref r.ra)
def netO (c : Cs) (z : NetZ) : List (Addr × HO) := [(z.n, .ins c.N z.dx (netF z)), (z.nd, .dK (nodesK z.nodes)), (z.rd, .dK (rowsK z.rows)), (z.dn, .lst z.done), (z.kp, .dK (strK z.kept)), (z.ac, .lst z.acc), (z.sm, .lst z.stm), (z.tr, .dK z.trails), (z.an, .dK z.answered), (z.rc, .dK z.receipts)]
def objs (c : Cs) (z : NetZ) : List (Addr × HO) := netO c z ++ (z.nodes.flatMap (nodeO c z.n) ++ z.rows.flatMap (rowO c))
/-- the net stands in the heap -/
abbrev NetH (c : Cs) (H : Hp) (z : NetZ) : Prop := Holds H (objs c z)
section
variable {c : Cs} {H H' : Hp} {z : NetZ} {x : Addr × HO}
theorem mem_net (h : x ∈ netO c z) : x ∈ objs c z := List.mem_append_left _ h
theorem mem_node {y : NodeZ} (hy : y ∈ z.nodes) (h : x ∈ nodeO c z.n y) : x ∈ objs c z := List.mem_append_right _ (List.mem_append_left _ (List.mem_flatMap.mpr ⟨y, hy, h⟩))
theorem mem_row {y : RowZ} (hy : y ∈ z.rows) (h : x ∈ rowO c y) : x ∈ objs c z := List.mem_append_right _ (List.mem_append_right _ (List.mem_flatMap.mpr ⟨y, hy, h⟩))
theorem mem_objs (h : x ∈ objs c z) : x ∈ netO c z ∨ (∃ y ∈ z.nodes, x ∈ nodeO c z.n y) ∨ ∃ y ∈ z.rows, x ∈ rowO c y := by
  rcases List.mem_append.mp h with h | h
  · exact .inl h
  · rcases List.mem_append.mp h with h | h
    · exact .inr (.inl (List.mem_flatMap.mp h))
    · exact .inr (.inr (List.mem_flatMap.mp h))
theorem NetH.at_net (h : NetH c H z) (i : Nat) {x : Addr × HO} (e : (netO c z)[i]? = some x := by rfl) : H x.1 = some x.2 := h.at_ x (mem_net (List.mem_of_getElem? e))
theorem NetH.at_node (h : NetH c H z) {y : NodeZ} (hy : y ∈ z.nodes) (i : Nat) {x : Addr × HO} (e : (nodeO c z.n y)[i]? = some x := by rfl) : H x.1 = some x.2 := h.at_ x (mem_node hy (List.mem_of_getElem? e))
theorem NetH.at_row (h : NetH c H z) {y : RowZ} (hy : y ∈ z.rows) (i : Nat) {x : Addr × HO} (e : (rowO c y)[i]? = some x := by rfl) : H x.1 = some x.2 := h.at_ x (mem_row hy (List.mem_of_getElem? e))
/-! ### changes at one place -/
/-- the i-th own object of the net takes another content -/
theorem NetH.put_net {z' : NetZ} {a b : List (Addr × HO)} {p : Addr} {o o' : HO} (h : NetH c H z) (e : netO c z = a ++ (p, o) :: b) (e' : netO c z' = a ++ (p, o') :: b) (h1 : z'.nodes.flatMap (nodeO c z'.n) = z.nodes.flatMap (nodeO c z.n)) (h2 : z'.rows = z.rows) : NetH c (upd H p o') z' := by
  have h0 : Holds H (a ++ (p, o) :: (b ++ (z.nodes.flatMap (nodeO c z.n) ++ z.rows.flatMap (rowO c)))) := by
    have := h
    unfold NetH objs at this
    rw [e] at this
    simpa using this
  have := h0.split (o' := o')
  unfold NetH objs
  rw [e', h1, h2]
  simpa using this
theorem NetH.put_node {z' : NetZ} {xs ys : List NodeZ} {y y' : NodeZ} {a b : List (Addr × HO)} {p : Addr} {o o' : HO} (h : NetH c H z) (hz : z.nodes = xs ++ y :: ys) (hz' : z'.nodes = xs ++ y' :: ys) (e : nodeO c z.n y = a ++ (p, o) :: b) (e' : nodeO c z.n y' = a ++ (p, o') :: b) (h1 : netO c z' = netO c z) (h2 : z'.rows = z.rows) (h3 : z'.n = z.n) : NetH c (upd H p o') z' := by
  have h0 : Holds H ((netO c z ++ (xs.flatMap (nodeO c z.n) ++ a)) ++ (p, o) :: (b ++ (ys.flatMap (nodeO c z.n) ++ z.rows.flatMap (rowO c)))) := by
    have := h
    unfold NetH objs at this
    rw [hz, List.flatMap_append, List.flatMap_cons, e] at this
    simpa using this
  have := h0.split (o' := o')
  unfold NetH objs
  rw [hz', List.flatMap_append, List.flatMap_cons, h3, e', h1, h2]
  simpa using this
theorem NetH.put_row {z' : NetZ} {xs ys : List RowZ} {y y' : RowZ} {a b : List (Addr × HO)} {p : Addr} {o o' : HO} (h : NetH c H z) (hz : z.rows = xs ++ y :: ys) (hz' : z'.rows = xs ++ y' :: ys) (e : rowO c y = a ++ (p, o) :: b) (e' : rowO c y' = a ++ (p, o') :: b) (h1 : netO c z' = netO c z) (h2 : z'.nodes.flatMap (nodeO c z'.n) = z.nodes.flatMap (nodeO c z.n)) : NetH c (upd H p o') z' := by
  have h0 : Holds H ((netO c z ++ (z.nodes.flatMap (nodeO c z.n) ++ (xs.flatMap (rowO c) ++ a))) ++ (p, o) :: (b ++ ys.flatMap (rowO c))) := by
    have := h
    unfold NetH objs at this
    rw [hz, List.flatMap_append, List.flatMap_cons, e] at this
    simpa using this
  have := h0.split (o' := o')
  unfold NetH objs
  rw [hz', List.flatMap_append, List.flatMap_cons, e', h1, h2]
  simpa using this
end
end NZ
/-! ### data in tuples -/
namespace NZ
open PySem L2 EX PyProof.Rows
mutual
inductive Td (H : Hp) : V → PyData → Prop
  | non : Td H .non .none
  | bl (b : Bool) : Td H (.bl b) (.bool b)
  | int (i : Int) : Td H (.int i) (.int i)
  | str (x : Str) : Td H (.str x) (.str x)
  | tup {a : Addr} {xs : List V} {ds : List PyData} : H a = some (.tup xs) → TdAll H xs ds → Td H (.ref a) (.tuple ds)
inductive TdAll (H : Hp) : List V → List PyData → Prop
  | nil : TdAll H [] []
  | cons {v : V} {vs : List V} {d : PyData} {ds : List PyData} : Td H v d → TdAll H vs ds → TdAll H (v :: vs) (d :: ds)
end
/-- the tuples stay -/
def KT (H H' : Hp) : Prop := ∀ a xs, H a = some (.tup xs) → H' a = some (.tup xs)
theorem KT.refl (H : Hp) : KT H H := fun _ _ e => e
theorem KT.trans {H H1 H2 : Hp} (a : KT H H1) (b : KT H1 H2) : KT H H2 := fun p xs e => b p xs (a p xs e)
theorem KT.of {H H' : Hp} (s : Same H H') : KT H H' := fun a xs e => s _ _ e
theorem KT.keeps {S : List Addr} {H H' : Hp} (k : Keeps S H H') (hs : ∀ p ∈ S, ∀ xs, H p ≠ some (.tup xs)) : KT H H' := fun a xs e => k _ _ (fun z => hs a z xs e) e
theorem KT.upd {H : Hp} {p : Addr} {o : HO} (h : ∀ xs, H p ≠ some (.tup xs)) : KT H (upd H p o) := fun a xs e => by
  rw [upd_ne (fun z => h xs (by rw [← z]; exact e))]
  exact e
mutual
theorem Td.mono {H H' : Hp} (k : KT H H') : ∀ {v : V} {d : PyData}, Td H v d → Td H' v d
  | _, _, .non => .non
  | _, _, .bl b => .bl b
  | _, _, .int i => .int i
  | _, _, .str x => .str x
  | _, _, .tup h t => .tup (k _ _ h) (TdAll.mono k t)
theorem TdAll.mono {H H' : Hp} (k : KT H H') : ∀ {vs : List V} {ds : List PyData}, TdAll H vs ds → TdAll H' vs ds
  | _, _, .nil => .nil
  | _, _, .cons h t => .cons (Td.mono k h) (TdAll.mono k t)
end
mutual
theorem Td.dp {K : PySem.W.Frag} {H : Hp} : ∀ {v : V} {d : PyData}, Td H v d → Dp K H v d
  | _, _, .non => .non
  | _, _, .bl b => .bl b
  | _, _, .int i => .int i
  | _, _, .str x => .str x
  | _, _, .tup h t => .tup (SqT.of h) (TdAll.dp t)
theorem TdAll.dp {K : PySem.W.Frag} {H : Hp} : ∀ {vs : List V} {ds : List PyData}, TdAll H vs ds → DpAll K H vs ds
  | _, _, .nil => .nil
  | _, _, .cons h t => .cons (Td.dp h) (TdAll.dp t)
end
theorem TdAll.length {H : Hp} : ∀ {vs : List V} {ds : List PyData}, TdAll H vs ds → vs.length = ds.length
  | _, _, .nil => rfl
  | _, _, .cons _ t => congrArg (· + 1) (TdAll.length t)
theorem TdAll.append {H : Hp} : ∀ {vs us : List V} {ds es : List PyData}, TdAll H vs ds → TdAll H us es → TdAll H (vs ++ us) (ds ++ es)
  | _, _, _, _, .nil, h => h
  | _, _, _, _, .cons a t, h => .cons a (TdAll.append t h)
theorem TdAll.get {H : Hp} : ∀ {vs : List V} {ds : List PyData} {i : Nat} {v : V}, TdAll H vs ds → vs[i]? = some v → ∃ d, ds[i]? = some d ∧ Td H v d
  | _, _, 0, _, .cons a _, h => by
    cases h
    exact ⟨_, rfl, a⟩
  | _, _, i + 1, _, .cons _ t, h => TdAll.get (i := i) t h
theorem td_strs {H : Hp} : ∀ l : List Str, TdAll H (l.map V.str) (l.map PyData.str)
  | [] => .nil
  | s :: l => .cons (.str s) (td_strs l)
theorem td_ints {H : Hp} : ∀ l : List Int, TdAll H (l.map V.int) (l.map PyData.int)
  | [] => .nil
  | s :: l => .cons (.int s) (td_ints l)
/-- what a place of a net holds is no tuple -/
theorem objs_notup {c : Cs} {z : NetZ} : ∀ x ∈ objs c z, ∀ xs, x.2 ≠ .tup xs := by
  intro x hx xs
  rcases mem_objs hx with h | ⟨y, _, h⟩ | ⟨y, _, h⟩
  · unfold netO at h
    simp only [List.mem_cons, List.not_mem_nil, or_false] at h
    rcases h with rfl | rfl | rfl | rfl | rfl | rfl | rfl | rfl | rfl | rfl <;> exact fun z => nomatch z
  · unfold nodeO at h
    simp only [List.mem_cons, List.not_mem_nil, or_false] at h
    rcases h with rfl | rfl | rfl <;> exact fun z => nomatch z
  · unfold rowO at h
    simp only [List.mem_cons, List.not_mem_nil, or_false] at h
    rcases h with rfl | rfl | rfl | rfl <;> exact fun z => nomatch z
end NZ
namespace NZ
open PySem L2 EX PyProof.Rows
theorem Holds.grow {H1 H' : Hp} {l m : List (Addr × HO)} (h : Holds H1 l) (s : Same H1 H') (hm : Holds H' m) (hf : ∀ x ∈ m, H1 x.1 = none) : Holds H' (l ++ m) := by
  refine ⟨?_, fun x hx => (List.mem_append.mp hx).elim (fun hx => s _ _ (h.at_ x hx)) (hm.at_ x)⟩
  rw [List.map_append, List.nodup_append]
  refine ⟨h.nd, hm.nd, fun a ha b hb e => ?_⟩
  obtain ⟨x, hx, rfl⟩ := List.mem_map.mp ha
  obtain ⟨y, hy, rfl⟩ := List.mem_map.mp hb
  have := hf y hy
  rw [← e, h.at_ x hx] at this
  cases this
theorem holds2 {H : Hp} {a b : Addr × HO} (h1 : H a.1 = some a.2) (h2 : H b.1 = some b.2) (n : a.1 ≠ b.1) : Holds H [a, b] := ⟨by simpa using n, fun x hx => by
  simp only [List.mem_cons, List.not_mem_nil, or_false] at hx
  rcases hx with rfl | rfl
  · exact h1
  · exact h2⟩
theorem holds3 {H : Hp} {a b d : Addr × HO} (h1 : H a.1 = some a.2) (h2 : H b.1 = some b.2) (h3 : H d.1 = some d.2) (n1 : a.1 ≠ b.1) (n2 : a.1 ≠ d.1) (n3 : b.1 ≠ d.1) : Holds H [a, b, d] := ⟨by
  simp only [List.map_cons, List.map_nil, List.nodup_cons, List.mem_cons, List.not_mem_nil, or_false, not_or, List.nodup_nil, and_true]
  exact ⟨⟨n1, n2⟩, n3, not_false⟩, fun x hx => by
  simp only [List.mem_cons, List.not_mem_nil, or_false] at hx
  rcases hx with rfl | rfl | rfl
  · exact h1
  · exact h2
  · exact h3⟩
end NZ
set_option Elab.async false
set_option linter.all false
set_option maxRecDepth 100000
set_option maxHeartbeats 4000000
namespace K02
open PySem L2 EX PyProof.Rows LamX
open NZ
abbrev sIK : Stmt := inClass (top 3) 0
theorem scsIK : FnScope ["self", "given"] ["self", "given"] (defScope sIK) := ⟨rfl, rfl, rfl, by decide +kernel, rfl, by decide +kernel, by decide +kernel⟩
abbrev sIN : Stmt := inClass (top 4) 0
theorem scsIN : FnScope ["self", "given"] ["self", "given"] (defScope sIN) := ⟨rfl, rfl, rfl, by decide +kernel, rfl, by decide +kernel, by decide +kernel⟩
abbrev sIV : Stmt := inClass (top 5) 0
theorem scsIV : FnScope ["self", "given"] ["self", "given"] (defScope sIV) := ⟨rfl, rfl, rfl, by decide +kernel, rfl, by decide +kernel, by decide +kernel⟩
abbrev sIA : Stmt := inClass (top 7) 0
theorem scsIA : FnScope ["self", "given"] ["self", "given"] (defScope sIA) := ⟨rfl, rfl, rfl, by decide +kernel, rfl, by decide +kernel, by decide +kernel⟩
abbrev sUN : Stmt := inClass (top 8) 0
theorem scsUN : FnScope ["self", "node"] ["self", "node"] (defScope sUN) := ⟨rfl, rfl, rfl, by decide +kernel, rfl, by decide +kernel, by decide +kernel⟩
abbrev sUK : Stmt := inClass (top 9) 0
theorem scsUK : FnScope ["self", "word"] ["self", "word"] (defScope sUK) := ⟨rfl, rfl, rfl, by decide +kernel, rfl, by decide +kernel, by decide +kernel⟩
abbrev sNT : Stmt := inClass (top 13) 0
theorem scsNT : FnScope ["self", "node"] ["self", "node"] (defScope sNT) := ⟨rfl, rfl, rfl, by decide +kernel, rfl, by decide +kernel, by decide +kernel⟩
abbrev sNR : Stmt := inClass (top 14) 0
theorem scsNR : FnScope ["self", "node"] ["self", "node"] (defScope sNR) := ⟨rfl, rfl, rfl, by decide +kernel, rfl, by decide +kernel, by decide +kernel⟩
abbrev sTL : Stmt := inClass (top 17) 0
theorem scsTL : FnScope ["self", "least"] ["self", "least"] (defScope sTL) := ⟨rfl, rfl, rfl, by decide +kernel, rfl, by decide +kernel, by decide +kernel⟩
abbrev sLE : Stmt := inClass (top 18) 0
theorem scsLE : FnScope ["self", "limit"] ["self", "limit"] (defScope sLE) := ⟨rfl, rfl, rfl, by decide +kernel, rfl, by decide +kernel, by decide +kernel⟩
abbrev sNC : Stmt := inClass (top 11) 0
theorem scsNC : FnScope ["self", "word"] ["self", "word"] (defScope sNC) := ⟨rfl, rfl, rfl, by decide +kernel, rfl, by decide +kernel, by decide +kernel⟩
abbrev sHC : Stmt := inClass (top 15) 0
theorem scsHC : FnScope ["self", "node"] ["self", "node"] (defScope sHC) := ⟨rfl, rfl, rfl, by decide +kernel, rfl, by decide +kernel, by decide +kernel⟩
abbrev sBY : Stmt := inClass (top 16) 0
theorem scsBY : FnScope ["self", "node"] ["self", "node"] (defScope sBY) := ⟨rfl, rfl, rfl, by decide +kernel, rfl, by decide +kernel, by decide +kernel⟩
abbrev sID : Stmt := inClass (top 6) 0
theorem scsID : FnScope ["self", "given"] ["self", "given"] (defScope sID) := ⟨rfl, rfl, rfl, by decide +kernel, rfl, by decide +kernel, by decide +kernel⟩
abbrev sCI : Stmt := inClass (top 22) 0
theorem scCI : FnScope ["self", "home", "label", "above", "row", "cells"] ["self", "home", "label", "above", "row", "cells"] (defScope sCI) := ⟨rfl, rfl, rfl, by decide +kernel, rfl, by decide +kernel, by decide +kernel⟩
abbrev sEI : Stmt := inClass (top 20) 0
theorem scEI : FnScope ["self", "down_link", "up_link", "cells"] ["self", "down_link", "up_link", "cells"] (defScope sEI) := ⟨rfl, rfl, rfl, by decide +kernel, rfl, by decide +kernel, by decide +kernel⟩
section
variable {P : Program} {w : World} {K : PySem.W.Frag} {mg : Str → Option Value} {base : Heap}
theorem ok_IK {C f : Addr} {fd : FuncData} (F : Fun K "__init__" "InvalidKeys.__init__" sIK f fd) (T : EcC K C) (tk : PySem.W.takerIn K C "given" = some none) : FnOk P w K mg base CX0 1 f fd ["self", "given"] (spI1 K C "given") := by
  refine F.ok scsIK (fun vs H Q E h => ?_) (fun cdv A outer s H vs Q E hr h => ?_)
  · obtain ⟨a, v, rfl, _⟩ := h
    rfl
  · obtain ⟨a, v, rfl, e, q⟩ := h
    exact ⟨_, pss_one (ps_est (pv 0) (pv 1)), _, rfl, _, rfl, a, C, rfl, T, tk, .inl ⟨e, q⟩⟩
theorem ok_IN {C f : Addr} {fd : FuncData} (F : Fun K "__init__" "InvalidName.__init__" sIN f fd) (T : EcC K C) (tk : PySem.W.takerIn K C "given" = some none) : FnOk P w K mg base CX0 1 f fd ["self", "given"] (spI1 K C "given") := by
  refine F.ok scsIN (fun vs H Q E h => ?_) (fun cdv A outer s H vs Q E hr h => ?_)
  · obtain ⟨a, v, rfl, _⟩ := h
    rfl
  · obtain ⟨a, v, rfl, e, q⟩ := h
    exact ⟨_, pss_one (ps_est (pv 0) (pv 1)), _, rfl, _, rfl, a, C, rfl, T, tk, .inl ⟨e, q⟩⟩
theorem ok_IV {C f : Addr} {fd : FuncData} (F : Fun K "__init__" "InvalidValue.__init__" sIV f fd) (T : EcC K C) (tk : PySem.W.takerIn K C "given" = some none) : FnOk P w K mg base CX0 1 f fd ["self", "given"] (spI1 K C "given") := by
  refine F.ok scsIV (fun vs H Q E h => ?_) (fun cdv A outer s H vs Q E hr h => ?_)
  · obtain ⟨a, v, rfl, _⟩ := h
    rfl
  · obtain ⟨a, v, rfl, e, q⟩ := h
    exact ⟨_, pss_one (ps_est (pv 0) (pv 1)), _, rfl, _, rfl, a, C, rfl, T, tk, .inl ⟨e, q⟩⟩
theorem ok_IA {C f : Addr} {fd : FuncData} (F : Fun K "__init__" "InvalidAllowance.__init__" sIA f fd) (T : EcC K C) (tk : PySem.W.takerIn K C "given" = some none) : FnOk P w K mg base CX0 1 f fd ["self", "given"] (spI1 K C "given") := by
  refine F.ok scsIA (fun vs H Q E h => ?_) (fun cdv A outer s H vs Q E hr h => ?_)
  · obtain ⟨a, v, rfl, _⟩ := h
    rfl
  · obtain ⟨a, v, rfl, e, q⟩ := h
    exact ⟨_, pss_one (ps_est (pv 0) (pv 1)), _, rfl, _, rfl, a, C, rfl, T, tk, .inl ⟨e, q⟩⟩
theorem ok_UN {C f : Addr} {fd : FuncData} (F : Fun K "__init__" "UnknownNode.__init__" sUN f fd) (T : EcC K C) (tk : PySem.W.takerIn K C "node" = some none) : FnOk P w K mg base CX0 1 f fd ["self", "node"] (spI1 K C "node") := by
  refine F.ok scsUN (fun vs H Q E h => ?_) (fun cdv A outer s H vs Q E hr h => ?_)
  · obtain ⟨a, v, rfl, _⟩ := h
    rfl
  · obtain ⟨a, v, rfl, e, q⟩ := h
    exact ⟨_, pss_one (ps_est (pv 0) (pv 1)), _, rfl, _, rfl, a, C, rfl, T, tk, .inl ⟨e, q⟩⟩
theorem ok_UK {C f : Addr} {fd : FuncData} (F : Fun K "__init__" "UnknownKey.__init__" sUK f fd) (T : EcC K C) (tk : PySem.W.takerIn K C "word" = some none) : FnOk P w K mg base CX0 1 f fd ["self", "word"] (spI1 K C "word") := by
  refine F.ok scsUK (fun vs H Q E h => ?_) (fun cdv A outer s H vs Q E hr h => ?_)
  · obtain ⟨a, v, rfl, _⟩ := h
    rfl
  · obtain ⟨a, v, rfl, e, q⟩ := h
    exact ⟨_, pss_one (ps_est (pv 0) (pv 1)), _, rfl, _, rfl, a, C, rfl, T, tk, .inl ⟨e, q⟩⟩
theorem ok_NT {C f : Addr} {fd : FuncData} (F : Fun K "__init__" "NameTaken.__init__" sNT f fd) (T : EcC K C) (tk : PySem.W.takerIn K C "node" = some none) : FnOk P w K mg base CX0 1 f fd ["self", "node"] (spI1 K C "node") := by
  refine F.ok scsNT (fun vs H Q E h => ?_) (fun cdv A outer s H vs Q E hr h => ?_)
  · obtain ⟨a, v, rfl, _⟩ := h
    rfl
  · obtain ⟨a, v, rfl, e, q⟩ := h
    exact ⟨_, pss_one (ps_est (pv 0) (pv 1)), _, rfl, _, rfl, a, C, rfl, T, tk, .inl ⟨e, q⟩⟩
theorem ok_NR {C f : Addr} {fd : FuncData} (F : Fun K "__init__" "NotReady.__init__" sNR f fd) (T : EcC K C) (tk : PySem.W.takerIn K C "node" = some none) : FnOk P w K mg base CX0 1 f fd ["self", "node"] (spI1 K C "node") := by
  refine F.ok scsNR (fun vs H Q E h => ?_) (fun cdv A outer s H vs Q E hr h => ?_)
  · obtain ⟨a, v, rfl, _⟩ := h
    rfl
  · obtain ⟨a, v, rfl, e, q⟩ := h
    exact ⟨_, pss_one (ps_est (pv 0) (pv 1)), _, rfl, _, rfl, a, C, rfl, T, tk, .inl ⟨e, q⟩⟩
theorem ok_TL {C f : Addr} {fd : FuncData} (F : Fun K "__init__" "TooLow.__init__" sTL f fd) (T : EcC K C) (tk : PySem.W.takerIn K C "least" = some none) : FnOk P w K mg base CX0 1 f fd ["self", "least"] (spI1 K C "least") := by
  refine F.ok scsTL (fun vs H Q E h => ?_) (fun cdv A outer s H vs Q E hr h => ?_)
  · obtain ⟨a, v, rfl, _⟩ := h
    rfl
  · obtain ⟨a, v, rfl, e, q⟩ := h
    exact ⟨_, pss_one (ps_est (pv 0) (pv 1)), _, rfl, _, rfl, a, C, rfl, T, tk, .inl ⟨e, q⟩⟩
theorem ok_LE {C f : Addr} {fd : FuncData} (F : Fun K "__init__" "LimitExceeded.__init__" sLE f fd) (T : EcC K C) (tk : PySem.W.takerIn K C "limit" = some none) : FnOk P w K mg base CX0 1 f fd ["self", "limit"] (spI1 K C "limit") := by
  refine F.ok scsLE (fun vs H Q E h => ?_) (fun cdv A outer s H vs Q E hr h => ?_)
  · obtain ⟨a, v, rfl, _⟩ := h
    rfl
  · obtain ⟨a, v, rfl, e, q⟩ := h
    exact ⟨_, pss_one (ps_est (pv 0) (pv 1)), _, rfl, _, rfl, a, C, rfl, T, tk, .inl ⟨e, q⟩⟩
theorem ok_NC {C f : Addr} {fd : FuncData} (F : Fun K "__init__" "NoCopy.__init__" sNC f fd) (T : EcC K C) (tk : PySem.W.takerIn K C "word" = some none) : FnOk P w K mg base CX0 1 f fd ["self", "word"] (spI1 K C "word") := by
  refine F.ok scsNC (fun vs H Q E h => ?_) (fun cdv A outer s H vs Q E hr h => ?_)
  · obtain ⟨a, v, rfl, _⟩ := h
    rfl
  · obtain ⟨a, v, rfl, e, q⟩ := h
    exact ⟨_, pss_one (ps_est (pv 0) (pv 1)), _, rfl, _, rfl, a, C, rfl, T, tk, .inl ⟨e, q⟩⟩
theorem ok_HC {C f : Addr} {fd : FuncData} (F : Fun K "__init__" "HasChildren.__init__" sHC f fd) (T : EcC K C) (tk : PySem.W.takerIn K C "node" = some none) : FnOk P w K mg base CX0 1 f fd ["self", "node"] (spI1 K C "node") := by
  refine F.ok scsHC (fun vs H Q E h => ?_) (fun cdv A outer s H vs Q E hr h => ?_)
  · obtain ⟨a, v, rfl, _⟩ := h
    rfl
  · obtain ⟨a, v, rfl, e, q⟩ := h
    exact ⟨_, pss_one (ps_est (pv 0) (pv 1)), _, rfl, _, rfl, a, C, rfl, T, tk, .inl ⟨e, q⟩⟩
theorem ok_BY {C f : Addr} {fd : FuncData} (F : Fun K "__init__" "Busy.__init__" sBY f fd) (T : EcC K C) (tk : PySem.W.takerIn K C "node" = some none) : FnOk P w K mg base CX0 1 f fd ["self", "node"] (spI1 K C "node") := by
  refine F.ok scsBY (fun vs H Q E h => ?_) (fun cdv A outer s H vs Q E hr h => ?_)
  · obtain ⟨a, v, rfl, _⟩ := h
    rfl
  · obtain ⟨a, v, rfl, e, q⟩ := h
    exact ⟨_, pss_one (ps_est (pv 0) (pv 1)), _, rfl, _, rfl, a, C, rfl, T, tk, .inl ⟨e, q⟩⟩
theorem ok_ID {C f : Addr} {fd : FuncData} (F : Fun K "__init__" "InvalidNeed.__init__" sID f fd) (T : EcC K C) (tk : PySem.W.takerIn K C "given" = some none) : FnOk P w K mg base CX0 1 f fd ["self", "given"] (spI1 K C "given") := by
  refine F.ok scsID (fun vs H Q E h => ?_) (fun cdv A outer s H vs Q E hr h => ?_)
  · obtain ⟨a, v, rfl, _⟩ := h
    rfl
  · obtain ⟨a, v, rfl, e, q⟩ := h
    exact ⟨_, pss_one (ps_est (pv 0) (pv 1)), _, rfl, _, rfl, a, C, rfl, T, tk, .inl ⟨e, q⟩⟩
end
abbrev cfl (home label above row cells : V) (ce kt : Addr) : List (Str × V) := [("home", home), ("label", label), ("above", above), ("row", row), ("gone", .bl false), ("cells", cells), ("entries", .ref ce), ("kids", .ref kt)]
abbrev efl (above dl ul cells : V) (rt dq uq : Addr) : List (Str × V) := [("above", above), ("down_link", dl), ("up_link", ul), ("cells", cells), ("raising", .ref rt), ("there", .bl true), ("crashed", .bl false), ("down", .ref dq), ("up", .ref uq)]
structure CacheC (K : PySem.W.Frag) (C : Addr) : Prop where
  cl : Cls K C
  home : NoAttr K C "home"
  label : NoAttr K C "label"
  above : NoAttr K C "above"
  row : NoAttr K C "row"
  gone : NoAttr K C "gone"
  cells : NoAttr K C "cells"
  entries : NoAttr K C "entries"
  kids : NoAttr K C "kids"
structure EntryC (K : PySem.W.Frag) (C : Addr) : Prop where
  cl : Cls K C
  above : NoAttr K C "above"
  down_link : NoAttr K C "down_link"
  up_link : NoAttr K C "up_link"
  cells : NoAttr K C "cells"
  raising : NoAttr K C "raising"
  there : NoAttr K C "there"
  crashed : NoAttr K C "crashed"
  down : NoAttr K C "down"
  up : NoAttr K C "up"
def spCI (K : PySem.W.Frag) (C : Addr) : Sp := fun vs H Q _ => ∃ (p dx : Addr) (v1 v2 v3 v4 v5 : V), vs = [.ref p, v1, v2, v3, v4, v5] ∧ H p = some (.ins C dx []) ∧
  ∀ H' ce kt, Keeps [p] H H' → Holds H' [(p, .ins C dx (cfl v1 v2 v3 v4 v5 ce kt)), (ce, .dK [])] → H ce = none → H' kt = some (.tup []) → Q .non H'
def spEI (K : PySem.W.Frag) (C : Addr) : Sp := fun vs H Q _ => ∃ (p dx da : Addr) (x : V) (xs : List V) (ul cd : V), vs = [.ref p, .ref da, ul, cd] ∧ H p = some (.ins C dx []) ∧ H da = some (.tup (x :: xs)) ∧
  ∀ H' rt dq uq, Keeps [p] H H' → Holds H' [(p, .ins C dx (efl x (.ref da) ul cd rt dq uq)), (dq, .lst []), (uq, .lst [])] → H dq = none → H uq = none → H' rt = some (.tup []) → Q .non H'
section
variable {P : Program} {w : World} {K : PySem.W.Frag} {mg : Str → Option Value} {base : Heap}
theorem ok_ci {C f : Addr} {fd : FuncData} (F : Fun K "__init__" "Cache.__init__" sCI f fd) (T : CacheC K C) : FnOk P w K mg base CX0 1 f fd ["self", "home", "label", "above", "row", "cells"] (spCI K C) := by
  refine F.ok scCI (fun vs H Q E h => ?_) (fun cdv A outer s H vs Q E hr h => ?_)
  · obtain ⟨p, dx, v1, v2, v3, v4, v5, rfl, _⟩ := h
    rfl
  · obtain ⟨p, dx, v1, v2, v3, v4, v5, rfl, hp, k⟩ := h
    refine ⟨_, (pss_cons (ps_fld (pv 0) (pv 1) rfl)
        (pss_cons (ps_fld (pv 0) (pv 2) rfl)
        (pss_cons (ps_fld (pv 0) (pv 3) rfl)
        (pss_cons (ps_fld (pv 0) (pv 4) rfl)
        (pss_cons (ps_fld (pv 0) pe_bl rfl)
        (pss_cons (ps_fld (pv 0) (pv 5) rfl)
        (pss_cons (ps_fld (pv 0) pe_dnewK rfl)
        (pss_one (ps_fld (pv 0) (pe_tup pa_nil) rfl))))))))), ?_⟩
    have b0 := Bd.start hp
    refine ⟨_, rfl, _, rfl, p, C, dx, _, rfl, b0.at_, T.cl, T.home, by show 0 < 1000; decide, ?_⟩
    have b1 := b0.put (fs' := ([("home", v1)] : List (Str × V)))
    rw [show putF "home" (v1) ([] : List (Str × V)) = ([("home", v1)] : List (Str × V)) from by rfl]
    generalize upd H p (HO.ins C dx ([("home", v1)] : List (Str × V))) = H1 at b1 ⊢
    refine ⟨_, rfl, _, rfl, p, C, dx, _, rfl, b1.at_, T.cl, T.label, by show 1 < 1000; decide, ?_⟩
    have b2 := b1.put (fs' := ([("home", v1), ("label", v2)] : List (Str × V)))
    rw [show putF "label" (v2) ([("home", v1)] : List (Str × V)) = ([("home", v1), ("label", v2)] : List (Str × V)) from by rfl]
    generalize upd H1 p (HO.ins C dx ([("home", v1), ("label", v2)] : List (Str × V))) = H2 at b2 ⊢
    refine ⟨_, rfl, _, rfl, p, C, dx, _, rfl, b2.at_, T.cl, T.above, by show 2 < 1000; decide, ?_⟩
    have b3 := b2.put (fs' := ([("home", v1), ("label", v2), ("above", v3)] : List (Str × V)))
    rw [show putF "above" (v3) ([("home", v1), ("label", v2)] : List (Str × V)) = ([("home", v1), ("label", v2), ("above", v3)] : List (Str × V)) from by rfl]
    generalize upd H2 p (HO.ins C dx ([("home", v1), ("label", v2), ("above", v3)] : List (Str × V))) = H3 at b3 ⊢
    refine ⟨_, rfl, _, rfl, p, C, dx, _, rfl, b3.at_, T.cl, T.row, by show 3 < 1000; decide, ?_⟩
    have b4 := b3.put (fs' := ([("home", v1), ("label", v2), ("above", v3), ("row", v4)] : List (Str × V)))
    rw [show putF "row" (v4) ([("home", v1), ("label", v2), ("above", v3)] : List (Str × V)) = ([("home", v1), ("label", v2), ("above", v3), ("row", v4)] : List (Str × V)) from by rfl]
    generalize upd H3 p (HO.ins C dx ([("home", v1), ("label", v2), ("above", v3), ("row", v4)] : List (Str × V))) = H4 at b4 ⊢
    refine ⟨_, rfl, p, C, dx, _, rfl, b4.at_, T.cl, T.gone, by show 4 < 1000; decide, ?_⟩
    have b5 := b4.put (fs' := ([("home", v1), ("label", v2), ("above", v3), ("row", v4), ("gone", .bl false)] : List (Str × V)))
    rw [show putF "gone" (.bl false) ([("home", v1), ("label", v2), ("above", v3), ("row", v4)] : List (Str × V)) = ([("home", v1), ("label", v2), ("above", v3), ("row", v4), ("gone", .bl false)] : List (Str × V)) from by rfl]
    generalize upd H4 p (HO.ins C dx ([("home", v1), ("label", v2), ("above", v3), ("row", v4), ("gone", .bl false)] : List (Str × V))) = H5 at b5 ⊢
    refine ⟨_, rfl, _, rfl, p, C, dx, _, rfl, b5.at_, T.cl, T.cells, by show 5 < 1000; decide, ?_⟩
    have b6 := b5.put (fs' := ([("home", v1), ("label", v2), ("above", v3), ("row", v4), ("gone", .bl false), ("cells", v5)] : List (Str × V)))
    rw [show putF "cells" (v5) ([("home", v1), ("label", v2), ("above", v3), ("row", v4), ("gone", .bl false)] : List (Str × V)) = ([("home", v1), ("label", v2), ("above", v3), ("row", v4), ("gone", .bl false), ("cells", v5)] : List (Str × V)) from by rfl]
    generalize upd H5 p (HO.ins C dx ([("home", v1), ("label", v2), ("above", v3), ("row", v4), ("gone", .bl false), ("cells", v5)] : List (Str × V))) = H6 at b6 ⊢
    refine fun ce hce => ?_
    have fce := b6.k.free (by simpa using b6.ne hce) hce
    have b6a := b6.new (o := .dK []) hce
    generalize upd H6 ce (HO.dK []) = H6a at b6a ⊢
    refine ⟨_, rfl, p, C, dx, _, rfl, b6a.at_, T.cl, T.entries, by show 6 < 1000; decide, ?_⟩
    have b7 := b6a.put (fs' := ([("home", v1), ("label", v2), ("above", v3), ("row", v4), ("gone", .bl false), ("cells", v5), ("entries", .ref ce)] : List (Str × V)))
    rw [show putF "entries" (.ref ce) ([("home", v1), ("label", v2), ("above", v3), ("row", v4), ("gone", .bl false), ("cells", v5)] : List (Str × V)) = ([("home", v1), ("label", v2), ("above", v3), ("row", v4), ("gone", .bl false), ("cells", v5), ("entries", .ref ce)] : List (Str × V)) from by rfl]
    generalize upd H6a p (HO.ins C dx ([("home", v1), ("label", v2), ("above", v3), ("row", v4), ("gone", .bl false), ("cells", v5), ("entries", .ref ce)] : List (Str × V))) = H7 at b7 ⊢
    refine ⟨by show 0 ≤ sizeLine; decide, fun kt hkt => ?_⟩
    have fkt := b7.k.free (by simpa using b7.ne hkt) hkt
    have b7a := b7.new (o := .tup []) hkt
    generalize upd H7 kt (HO.tup []) = H7a at b7a ⊢
    refine ⟨_, rfl, p, C, dx, _, rfl, b7a.at_, T.cl, T.kids, by show 7 < 1000; decide, ?_⟩
    have b8 := b7a.put (fs' := ([("home", v1), ("label", v2), ("above", v3), ("row", v4), ("gone", .bl false), ("cells", v5), ("entries", .ref ce), ("kids", .ref kt)] : List (Str × V)))
    rw [show putF "kids" (.ref kt) ([("home", v1), ("label", v2), ("above", v3), ("row", v4), ("gone", .bl false), ("cells", v5), ("entries", .ref ce)] : List (Str × V)) = ([("home", v1), ("label", v2), ("above", v3), ("row", v4), ("gone", .bl false), ("cells", v5), ("entries", .ref ce), ("kids", .ref kt)] : List (Str × V)) from by rfl]
    generalize upd H7a p (HO.ins C dx ([("home", v1), ("label", v2), ("above", v3), ("row", v4), ("gone", .bl false), ("cells", v5), ("entries", .ref ce), ("kids", .ref kt)] : List (Str × V))) = H8 at b8 ⊢
    exact k _ ce kt b8.k (holds2 b8.at_ (b8.get 1) (b6.ne hce).symm) fce (b8.get 0)
theorem ok_ei {C f : Addr} {fd : FuncData} (F : Fun K "__init__" "Entry.__init__" sEI f fd) (T : EntryC K C) : FnOk P w K mg base CX0 1 f fd ["self", "down_link", "up_link", "cells"] (spEI K C) := by
  refine F.ok scEI (fun vs H Q E h => ?_) (fun cdv A outer s H vs Q E hr h => ?_)
  · obtain ⟨p, dx, da, x, xs, ul, cd, rfl, _⟩ := h
    rfl
  · obtain ⟨p, dx, da, x, xs, ul, cd, rfl, hp, hda, k⟩ := h
    refine ⟨_, (pss_cons (ps_fld (pv 0) (pe_ix ix_tup (pv 1) pe_int (fun _ _ => rfl)) rfl)
        (pss_cons (ps_fld (pv 0) (pv 1) rfl)
        (pss_cons (ps_fld (pv 0) (pv 2) rfl)
        (pss_cons (ps_fld (pv 0) (pv 3) rfl)
        (pss_cons (ps_fld (pv 0) (pe_tup pa_nil) rfl)
        (pss_cons (ps_fld (pv 0) pe_bl rfl)
        (pss_cons (ps_fld (pv 0) pe_bl rfl)
        (pss_cons (ps_fld (pv 0) (pe_lst pa_nil) rfl)
        (pss_one (ps_fld (pv 0) (pe_lst pa_nil) rfl)))))))))), ?_⟩
    have b0 := Bd.start hp
    refine ⟨_, rfl, da, _, _, _, rfl, rfl, SqT.of hda, atI_nat (j := 0) rfl, _, rfl, p, C, dx, _, rfl, b0.at_, T.cl, T.above, by show 0 < 1000; decide, ?_⟩
    have b1 := b0.put (fs' := ([("above", x)] : List (Str × V)))
    rw [show putF "above" (x) ([] : List (Str × V)) = ([("above", x)] : List (Str × V)) from by rfl]
    generalize upd H p (HO.ins C dx ([("above", x)] : List (Str × V))) = H1 at b1 ⊢
    refine ⟨_, rfl, _, rfl, p, C, dx, _, rfl, b1.at_, T.cl, T.down_link, by show 1 < 1000; decide, ?_⟩
    have b2 := b1.put (fs' := ([("above", x), ("down_link", .ref da)] : List (Str × V)))
    rw [show putF "down_link" (.ref da) ([("above", x)] : List (Str × V)) = ([("above", x), ("down_link", .ref da)] : List (Str × V)) from by rfl]
    generalize upd H1 p (HO.ins C dx ([("above", x), ("down_link", .ref da)] : List (Str × V))) = H2 at b2 ⊢
    refine ⟨_, rfl, _, rfl, p, C, dx, _, rfl, b2.at_, T.cl, T.up_link, by show 2 < 1000; decide, ?_⟩
    have b3 := b2.put (fs' := ([("above", x), ("down_link", .ref da), ("up_link", ul)] : List (Str × V)))
    rw [show putF "up_link" (ul) ([("above", x), ("down_link", .ref da)] : List (Str × V)) = ([("above", x), ("down_link", .ref da), ("up_link", ul)] : List (Str × V)) from by rfl]
    generalize upd H2 p (HO.ins C dx ([("above", x), ("down_link", .ref da), ("up_link", ul)] : List (Str × V))) = H3 at b3 ⊢
    refine ⟨_, rfl, _, rfl, p, C, dx, _, rfl, b3.at_, T.cl, T.cells, by show 3 < 1000; decide, ?_⟩
    have b4 := b3.put (fs' := ([("above", x), ("down_link", .ref da), ("up_link", ul), ("cells", cd)] : List (Str × V)))
    rw [show putF "cells" (cd) ([("above", x), ("down_link", .ref da), ("up_link", ul)] : List (Str × V)) = ([("above", x), ("down_link", .ref da), ("up_link", ul), ("cells", cd)] : List (Str × V)) from by rfl]
    generalize upd H3 p (HO.ins C dx ([("above", x), ("down_link", .ref da), ("up_link", ul), ("cells", cd)] : List (Str × V))) = H4 at b4 ⊢
    refine ⟨by show 0 ≤ sizeLine; decide, fun rt hrt => ?_⟩
    have frt := b4.k.free (by simpa using b4.ne hrt) hrt
    have b4a := b4.new (o := .tup []) hrt
    generalize upd H4 rt (HO.tup []) = H4a at b4a ⊢
    refine ⟨_, rfl, p, C, dx, _, rfl, b4a.at_, T.cl, T.raising, by show 4 < 1000; decide, ?_⟩
    have b5 := b4a.put (fs' := ([("above", x), ("down_link", .ref da), ("up_link", ul), ("cells", cd), ("raising", .ref rt)] : List (Str × V)))
    rw [show putF "raising" (.ref rt) ([("above", x), ("down_link", .ref da), ("up_link", ul), ("cells", cd)] : List (Str × V)) = ([("above", x), ("down_link", .ref da), ("up_link", ul), ("cells", cd), ("raising", .ref rt)] : List (Str × V)) from by rfl]
    generalize upd H4a p (HO.ins C dx ([("above", x), ("down_link", .ref da), ("up_link", ul), ("cells", cd), ("raising", .ref rt)] : List (Str × V))) = H5 at b5 ⊢
    refine ⟨_, rfl, p, C, dx, _, rfl, b5.at_, T.cl, T.there, by show 5 < 1000; decide, ?_⟩
    have b6 := b5.put (fs' := ([("above", x), ("down_link", .ref da), ("up_link", ul), ("cells", cd), ("raising", .ref rt), ("there", .bl true)] : List (Str × V)))
    rw [show putF "there" (.bl true) ([("above", x), ("down_link", .ref da), ("up_link", ul), ("cells", cd), ("raising", .ref rt)] : List (Str × V)) = ([("above", x), ("down_link", .ref da), ("up_link", ul), ("cells", cd), ("raising", .ref rt), ("there", .bl true)] : List (Str × V)) from by rfl]
    generalize upd H5 p (HO.ins C dx ([("above", x), ("down_link", .ref da), ("up_link", ul), ("cells", cd), ("raising", .ref rt), ("there", .bl true)] : List (Str × V))) = H6 at b6 ⊢
    refine ⟨_, rfl, p, C, dx, _, rfl, b6.at_, T.cl, T.crashed, by show 6 < 1000; decide, ?_⟩
    have b7 := b6.put (fs' := ([("above", x), ("down_link", .ref da), ("up_link", ul), ("cells", cd), ("raising", .ref rt), ("there", .bl true), ("crashed", .bl false)] : List (Str × V)))
    rw [show putF "crashed" (.bl false) ([("above", x), ("down_link", .ref da), ("up_link", ul), ("cells", cd), ("raising", .ref rt), ("there", .bl true)] : List (Str × V)) = ([("above", x), ("down_link", .ref da), ("up_link", ul), ("cells", cd), ("raising", .ref rt), ("there", .bl true), ("crashed", .bl false)] : List (Str × V)) from by rfl]
    generalize upd H6 p (HO.ins C dx ([("above", x), ("down_link", .ref da), ("up_link", ul), ("cells", cd), ("raising", .ref rt), ("there", .bl true), ("crashed", .bl false)] : List (Str × V))) = H7 at b7 ⊢
    refine ⟨by show 0 ≤ sizeLine; decide, fun dq hdq => ?_⟩
    have fdq := b7.k.free (by simpa using b7.ne hdq) hdq
    have b7a := b7.new (o := .lst []) hdq
    generalize upd H7 dq (HO.lst []) = H7a at b7a ⊢
    refine ⟨_, rfl, p, C, dx, _, rfl, b7a.at_, T.cl, T.down, by show 7 < 1000; decide, ?_⟩
    have b8 := b7a.put (fs' := ([("above", x), ("down_link", .ref da), ("up_link", ul), ("cells", cd), ("raising", .ref rt), ("there", .bl true), ("crashed", .bl false), ("down", .ref dq)] : List (Str × V)))
    rw [show putF "down" (.ref dq) ([("above", x), ("down_link", .ref da), ("up_link", ul), ("cells", cd), ("raising", .ref rt), ("there", .bl true), ("crashed", .bl false)] : List (Str × V)) = ([("above", x), ("down_link", .ref da), ("up_link", ul), ("cells", cd), ("raising", .ref rt), ("there", .bl true), ("crashed", .bl false), ("down", .ref dq)] : List (Str × V)) from by rfl]
    generalize upd H7a p (HO.ins C dx ([("above", x), ("down_link", .ref da), ("up_link", ul), ("cells", cd), ("raising", .ref rt), ("there", .bl true), ("crashed", .bl false), ("down", .ref dq)] : List (Str × V))) = H8 at b8 ⊢
    refine ⟨by show 0 ≤ sizeLine; decide, fun uq huq => ?_⟩
    have fuq := b8.k.free (by simpa using b8.ne huq) huq
    have b8a := b8.new (o := .lst []) huq
    generalize upd H8 uq (HO.lst []) = H8a at b8a ⊢
    refine ⟨_, rfl, p, C, dx, _, rfl, b8a.at_, T.cl, T.up, by show 8 < 1000; decide, ?_⟩
    have b9 := b8a.put (fs' := ([("above", x), ("down_link", .ref da), ("up_link", ul), ("cells", cd), ("raising", .ref rt), ("there", .bl true), ("crashed", .bl false), ("down", .ref dq), ("up", .ref uq)] : List (Str × V)))
    rw [show putF "up" (.ref uq) ([("above", x), ("down_link", .ref da), ("up_link", ul), ("cells", cd), ("raising", .ref rt), ("there", .bl true), ("crashed", .bl false), ("down", .ref dq)] : List (Str × V)) = ([("above", x), ("down_link", .ref da), ("up_link", ul), ("cells", cd), ("raising", .ref rt), ("there", .bl true), ("crashed", .bl false), ("down", .ref dq), ("up", .ref uq)] : List (Str × V)) from by rfl]
    generalize upd H8a p (HO.ins C dx ([("above", x), ("down_link", .ref da), ("up_link", ul), ("cells", cd), ("raising", .ref rt), ("there", .bl true), ("crashed", .bl false), ("down", .ref dq), ("up", .ref uq)] : List (Str × V))) = H9 at b9 ⊢
    exact k _ rt dq uq b9.k (holds3 b9.at_ (b9.get 1) (b9.get 0) (b7.ne hdq).symm (b8.ne huq).symm (ne_by (b8.get 0) huq)) fdq fuq (b9.get 2)
end
end K02
set_option Elab.async false
set_option linter.all false
set_option maxRecDepth 100000
set_option maxHeartbeats 4000000
namespace K02
open PySem L2 EX PyProof.Rows LamX
open NZ
/-! ### looks at a node -/
structure NodeH (C : Addr) (H : Hp) (n : Addr) (z : NodeZ) : Prop where
  i : H z.na = some (.ins C z.dx (nodeF n z))
  cd : H z.cd = some (.dK (strK z.cells))
  en : H z.en = some (.dK (NZ.refK z.kids))
structure RowH (E : Addr) (H : Hp) (r : RowZ) : Prop where
  i : H r.ra = some (.ins E r.dx (rowF r))
  cd : H r.cd = some (.dK (strK r.cells))
  dq : H r.dq = some (.lst r.down)
  uq : H r.uq = some (.lst r.up)
theorem NodeH.of {c : Cs} {H : Hp} {Z : NetZ} (h : NetH c H Z) {y : NodeZ} (hy : y ∈ Z.nodes) : NodeH c.C H Z.n y := ⟨h.at_node hy 0, h.at_node hy 1, h.at_node hy 2⟩
theorem RowH.of {c : Cs} {H : Hp} {Z : NetZ} (h : NetH c H Z) {y : RowZ} (hy : y ∈ Z.rows) : RowH c.E H y := ⟨h.at_row hy 0, h.at_row hy 1, h.at_row hy 2, h.at_row hy 3⟩
def spSeek (C : Addr) : Sp := fun vs H Q _ => ∃ n z, vs = [.ref z.na] ∧ NodeH C H n z ∧ Q (.ref z.na) H
/-- a look at a cell that is there -/
def spCell (C : Addr) (val : V → V → V → V → V) : Sp := fun vs H Q _ => ∃ n z k t v1 v2 v3 v4, vs = [.ref z.na, .str k] ∧ NodeH C H n z ∧ valV (strK z.cells) (Sum.inr k) = some (.ref t) ∧ H t = some (.tup [v1, v2, v3, v4]) ∧ Q (val v1 v2 v3 v4) H
abbrev spCGet (C : Addr) : Sp := spCell C fun v1 _ _ _ => v1
abbrev spAlw (C : Addr) : Sp := spCell C fun _ v2 _ _ => v2
abbrev spTold (C : Addr) : Sp := spCell C fun _ _ v3 _ => v3
def isRef : V → Bool
  | .ref _ => true
  | _ => false
/-- the keys that have a copy -/
def copied (z : NodeZ) : List Str := (z.cells.filter fun p => isRef p.2).map (·.1)
def CellsOk (z : NodeZ) : Prop := (z.cells.map (·.1)).Nodup ∧ z.cells.length ≤ 1000 ∧ ∀ p ∈ z.cells, p.2 = .non ∨ ∃ t, p.2 = .ref t
def spCk (C : Addr) : Sp := fun vs H Q _ => ∃ n z, vs = [.ref z.na] ∧ NodeH C H n z ∧ CellsOk z ∧ ∀ H' l, Same H H' → H' l = some (.lst ((copied z).map V.str)) → Q (.ref l) H'
def spCLen (C : Addr) : Sp := fun vs H Q _ => ∃ n z, vs = [.ref z.na] ∧ NodeH C H n z ∧ CellsOk z ∧ ∀ H', Same H H' → Q (.int ((copied z).length : Nat)) H'
def spEntry (C E : Addr) : Sp := fun vs H Q _ => ∃ n z ch k r v, vs = [.ref z.na, .str ch, .str k] ∧ NodeH C H n z ∧ valV (NZ.refK z.kids) (Sum.inr ch) = some (.ref r.ra) ∧ RowH E H r ∧ valV (strK r.cells) (Sum.inr k) = some v ∧ Q v H
theorem strK_get {l : List (Str × V)} {i : Nat} {k : Key} {v : V} (h : (strK l)[i]? = some (k, v)) : ∃ s, k = Sum.inr s ∧ l[i]? = some (s, v) := by
  rw [List.getElem?_map] at h
  cases e : l[i]? with
  | none => rw [e] at h; cases h
  | some p =>
    rw [e] at h
    cases h
    exact ⟨_, rfl, rfl⟩
theorem strK_val {l : List (Str × V)} (nd : (l.map (·.1)).Nodup) {k : Str} {v : V} (h : (k, v) ∈ l) : valV (strK l) (Sum.inr k) = some v := by
  induction l with
  | nil => cases h
  | cons q r ih =>
    obtain ⟨n1, n2⟩ := List.nodup_cons.mp nd
    rcases List.mem_cons.mp h with e | e
    · subst e
      exact valV_pos rfl
    · exact (valV_neg (fun z => n1 (List.mem_map.mpr ⟨_, e, (Sum.inr.inj z).symm⟩))).trans (ih n2 e)
abbrev sSk : Stmt := inClass (top 22) 2
theorem scSk : FnScope ["self", "nodes"] ["self"] (defScope sSk) := ⟨rfl, rfl, rfl, by decide +kernel, rfl, by decide +kernel, by decide +kernel⟩
abbrev sCg : Stmt := inClass (top 22) 9
theorem scCg : FnScope ["self", "at", "cell"] ["self", "at"] (defScope sCg) := ⟨rfl, rfl, rfl, by decide +kernel, rfl, by decide +kernel, by decide +kernel⟩
abbrev sCl : Stmt := inClass (top 22) 11
theorem scCl : FnScope ["self"] ["self"] (defScope sCl) := ⟨rfl, rfl, rfl, by decide +kernel, rfl, by decide +kernel, by decide +kernel⟩
abbrev sAl : Stmt := inClass (top 22) 14
theorem scAl : FnScope ["self", "key", "cell"] ["self", "key"] (defScope sAl) := ⟨rfl, rfl, rfl, by decide +kernel, rfl, by decide +kernel, by decide +kernel⟩
abbrev sTo : Stmt := inClass (top 22) 15
theorem scTo : FnScope ["self", "key", "cell"] ["self", "key"] (defScope sTo) := ⟨rfl, rfl, rfl, by decide +kernel, rfl, by decide +kernel, by decide +kernel⟩
abbrev sEn : Stmt := inClass (top 22) 18
theorem scEn : FnScope ["self", "child", "key", "entries", "cells"] ["self", "child", "key"] (defScope sEn) := ⟨rfl, rfl, rfl, by decide +kernel, rfl, by decide +kernel, by decide +kernel⟩
abbrev sCk : Stmt := inClass (top 22) 4
def sCkN : List Str := ["self", "cells", "key"]
theorem scCk : FnScope ["self", "cells", "key"] ["self"] (defScope sCk) := ⟨rfl, rfl, rfl, by decide +kernel, rfl, by decide +kernel, by decide +kernel⟩
section
variable {P : Program} {w : World} {K : PySem.W.Frag} {mg : Str → Option Value} {base : Heap}
theorem ok_seek {C f : Addr} {fd : FuncData} (F : Fun K "seek" "Cache.seek" sSk f fd) (T : CacheC K C) : FnOk P w K mg base CX0 1 f fd ["self"] (spSeek C) := by
  refine F.ok scSk (fun vs H Q E h => ?_) (fun cdv A outer s H vs Q E hr h => ?_)
  · obtain ⟨n, z, rfl, _⟩ := h
    rfl
  · obtain ⟨n, z, rfl, hz, k⟩ := h
    exact ⟨_, (pss_cons (ps_if (pt_not (pt_val (pe_fld (pv 0) rfl))) (pss_one (ps_ret (pv 0))) pss_nil)
        pss_never), _, rfl, z.na, C, _, _, _, rfl, hz.i, T.cl, T.gone, rfl, _, rfl, iteT ⟨_, rfl, k⟩⟩
theorem ok_ck {C f : Addr} {fd : FuncData} (F : Fun K "copied_keys" "Cache.copied_keys" sCk f fd) (T : CacheC K C) (GSk : MtAt P w K mg base CX0 1 C "seek" ["self"] (spSeek C)) : FnOk P w K mg base CX0 2 f fd ["self"] (spCk C) := by
  refine F.ok scCk (fun vs H Q E h => ?_) (fun cdv A outer s H vs Q E hr h => ?_)
  · obtain ⟨n, z, rfl, _⟩ := h
    rfl
  · obtain ⟨n, z, rfl, hz, ⟨nd, hl, hv⟩, k⟩ := h
    have hu := hu_of hr
    have hcd := hz.cd
    refine ⟨_, (pss_cons (ps_set (i := 1) scCk.nd rfl (Or.inr rfl) (pe_fld (pe_mtD0 GSk (hr.mono (by decide)) (pv 0)) rfl))
        (pss_one (ps_ret (pe_lock (pe_lc (own := [("key", 2)]) (g := (gName 2)) (te := (tVar 2)) rfl scCk.nd (pi_keys (pv 1)) (blkOk_by (N := sCkN) (sc := defScope sCk) (by decide +kernel)) (fun _ _ _ _ _ => (pg_name (i := 2) scCk.nd rfl (Or.inl rfl))) (fun _ _ _ _ _ => (pts_one (pt_cmp (pc_notN (pe_dget hu (pv 1) (pv 2) (fun _ _ => rfl)))))) (fun _ _ _ _ _ => (pv 2))))))), ?_⟩
    refine ⟨_, rfl, z.na, _, _, rfl, hz.i, rfl, n, z, rfl, hz, z.na, C, _, _, _, rfl, hz.i, T.cl, T.cells, rfl, ?_⟩
    refine ⟨z.cd, _, hcd, trivial, fun od => ?_⟩
    have l3 : upd H z.cd (.frz od (.dK (strK z.cells))) z.cd = some (.frz od (.dK (strK z.cells))) := upd_same
    have l3' : Rd (upd H z.cd (.frz od (.dK (strK z.cells)))) z.cd (.dK (strK z.cells)) := rd_lock (.inl hcd) hcd
    have bk : ∀ H2, Same (upd H z.cd (.frz od (.dK (strK z.cells)))) H2 → Same H (upd H2 z.cd (.dK (strK z.cells))) := fun H2 q => unlock hcd q
    generalize upd H z.cd (.frz od (.dK (strK z.cells))) = L at l3 l3' bk ⊢
    refine ⟨_, rfl, z.cd, od, rfl, .inl ⟨_, l3, fun D hD => ?_⟩⟩
    refine lc_it (walk_keys (d := z.cd) (o := od) (kvs := strK z.cells)) (fun i H2 => Same L H2 ∧ H2 D = some (.lst ((((z.cells.take i).filter fun p => isRef p.2).map (·.1)).map V.str))) ⟨Same.upd hD, upd_same⟩ (fun i H2 _ q => q.1 _ _ l3) ?_ ?_
    · rintro i x H0 H2 hi ⟨S, lD⟩ ⟨rfl, kk, vv, hg, rfl⟩
      obtain ⟨s', rfl, hn⟩ := strK_get hg
      have hmem := List.mem_of_getElem? hn
      have hval := strK_val nd hmem
      have htk : z.cells.take (i + 1) = z.cells.take i ++ [(s', vv)] := by
        rw [List.take_add_one, hn]
        rfl
      refine ⟨rfl, ?_⟩
      have len : ((((z.cells.take i).filter fun p => isRef p.2).map (·.1)).map V.str).length < sizeLine := by
        rw [List.length_map, List.length_map, sizeLine_eq]
        have := List.length_filter_le (fun p : Str × V => isRef p.2) (z.cells.take i)
        rw [List.length_take] at this
        omega
      refine ⟨_, rfl, _, rfl, z.cd, _, rfl, .inl ⟨strK z.cells, Sum.inr s', rd_same S l3', rfl, hval.symm⟩, _, rfl, ?_⟩
      rcases hv _ hmem with e | ⟨t, e⟩
      · have e : vv = .non := e
        subst e
        refine iteF ⟨S, ?_⟩
        rw [htk, List.filter_append]
        simpa [isRef] using lD
      · have e : vv = .ref t := e
        subst e
        refine ifT notNone ?_
        refine ⟨_, rfl, _, lD, len, EX.Same.updN S hD, ?_⟩
        rw [upd_same, htk, List.filter_append, List.map_append, List.map_append]
        rfl
    · rintro H2 ⟨S, lD⟩
      have e : z.cells.take (strK z.cells).length = z.cells := List.take_of_length_le (by rw [List.length_map]; exact Nat.le_refl _)
      rw [e] at lD
      refine ⟨S _ _ l3, ?_⟩
      have nD : D ≠ z.cd := fun q => by rw [q, l3] at hD; cases hD
      exact k _ D (bk _ S) (by rw [upd_ne nD]; exact lD)
theorem ok_clen {C f : Addr} {fd : FuncData} (F : Fun K "__len__" "Cache.__len__" sCl f fd) (B : Bn mg) (GCk : MtAt P w K mg base CX0 2 C "copied_keys" ["self"] (spCk C)) : FnOk P w K mg base CX0 3 f fd ["self"] (spCLen C) := by
  refine F.ok scCl (fun vs H Q E h => ?_) (fun cdv A outer s H vs Q E hr h => ?_)
  · obtain ⟨n, z, rfl, _⟩ := h
    rfl
  · obtain ⟨n, z, rfl, hz, hc, k⟩ := h
    refine ⟨_, (pss_one (ps_ret (pe_callB call_len_seq (by rfl) B.len PySem.boot_len (pa_cons (pe_mtD0 GCk (hr.mono (by decide)) (pv 0)) pa_nil)))), ?_⟩
    refine ⟨_, rfl, z.na, _, _, rfl, hz.i, rfl, n, z, rfl, hz, hc, fun H' l S hl' => ⟨l, _, rfl, .inl (SqL.of hl'), ?_⟩⟩
    rw [List.length_map]
    exact k _ S
theorem ok_cg {C f : Addr} {fd : FuncData} (F : Fun K "__getitem__" "Cache.__getitem__" sCg f fd) (B : Bn mg) (T : CacheC K C) : FnOk P w K mg base CX0 1 f fd ["self", "at"] (spCGet C) := by
  refine F.ok scCg (fun vs H Q E h => ?_) (fun cdv A outer s H vs Q E hr h => ?_)
  · obtain ⟨n, z, k, t, v1, v2, v3, v4, rfl, _⟩ := h
    rfl
  · obtain ⟨n, z, s, t, v1, v2, v3, v4, rfl, hz, hv, ht, k⟩ := h
    have hu := hu_of hr
    have hg : DGet H z.cd (.str s) (some (.ref t)) := .inl ⟨strK z.cells, Sum.inr s, .inl hz.cd, rfl, hv.symm⟩
    refine ⟨_, (pss_cons (ps_if (pt_val (pe_callB call_isi (by rfl) B.isi PyProof.Rows.boot_isinstance (pa_cons (pv 1) (pa_cons (pe_bltn (v := .ty "str") (by rfl) B.str (by decide +kernel) rfl) pa_nil)))) (pss_one (ps_try_thru0 (pss_cons (ps_set (i := 2) scCg.nd rfl (Or.inl rfl) (pe_dget hu (pe_fld (pv 0) rfl) (pv 1) (fun _ _ => rfl)))
        (pss_one (ps_if (pt_cmp (pc_notN (pv 2))) (pss_one (ps_ret (pe_ix ix_tup (pv 2) pe_int (fun _ _ => rfl)))) pss_nil))))) pss_nil)
        pss_never), ?_⟩
    refine ⟨_, rfl, _, _, _, _, true, rfl, .ty _, .base (.str _), kit_ty (by decide +kernel), _, rfl, iteT ?_⟩
    refine ⟨_, rfl, z.na, C, _, _, _, rfl, hz.i, T.cl, T.cells, rfl, _, rfl, z.cd, _, rfl, hg, ?_⟩
    exact ⟨_, rfl, _, rfl, ifT notNone ⟨_, rfl, t, _, _, _, rfl, rfl, SqT.of ht, atI_nat (j := 0) rfl, k⟩⟩
theorem ok_al {C f : Addr} {fd : FuncData} (F : Fun K "allowance" "Cache.allowance" sAl f fd) (B : Bn mg) (T : CacheC K C) : FnOk P w K mg base CX0 1 f fd ["self", "key"] (spAlw C) := by
  refine F.ok scAl (fun vs H Q E h => ?_) (fun cdv A outer s H vs Q E hr h => ?_)
  · obtain ⟨n, z, k, t, v1, v2, v3, v4, rfl, _⟩ := h
    rfl
  · obtain ⟨n, z, s, t, v1, v2, v3, v4, rfl, hz, hv, ht, k⟩ := h
    have hu := hu_of hr
    have hg : DGet H z.cd (.str s) (some (.ref t)) := .inl ⟨strK z.cells, Sum.inr s, .inl hz.cd, rfl, hv.symm⟩
    refine ⟨_, (pss_cons (ps_if (pt_val (pe_callB call_isi (by rfl) B.isi PyProof.Rows.boot_isinstance (pa_cons (pv 1) (pa_cons (pe_bltn (v := .ty "str") (by rfl) B.str (by decide +kernel) rfl) pa_nil)))) (pss_one (ps_try_thru0 (pss_cons (ps_set (i := 2) scAl.nd rfl (Or.inl rfl) (pe_dget hu (pe_fld (pv 0) rfl) (pv 1) (fun _ _ => rfl)))
        (pss_one (ps_if (pt_cmp (pc_notN (pv 2))) (pss_one (ps_ret (pe_ix ix_tup (pv 2) pe_int (fun _ _ => rfl)))) pss_nil))))) pss_nil)
        pss_never), ?_⟩
    refine ⟨_, rfl, _, _, _, _, true, rfl, .ty _, .base (.str _), kit_ty (by decide +kernel), _, rfl, iteT ?_⟩
    refine ⟨_, rfl, z.na, C, _, _, _, rfl, hz.i, T.cl, T.cells, rfl, _, rfl, z.cd, _, rfl, hg, ?_⟩
    exact ⟨_, rfl, _, rfl, ifT notNone ⟨_, rfl, t, _, _, _, rfl, rfl, SqT.of ht, atI_nat (j := 1) rfl, k⟩⟩
theorem ok_to {C f : Addr} {fd : FuncData} (F : Fun K "told" "Cache.told" sTo f fd) (B : Bn mg) (T : CacheC K C) : FnOk P w K mg base CX0 1 f fd ["self", "key"] (spTold C) := by
  refine F.ok scTo (fun vs H Q E h => ?_) (fun cdv A outer s H vs Q E hr h => ?_)
  · obtain ⟨n, z, k, t, v1, v2, v3, v4, rfl, _⟩ := h
    rfl
  · obtain ⟨n, z, s, t, v1, v2, v3, v4, rfl, hz, hv, ht, k⟩ := h
    have hu := hu_of hr
    have hg : DGet H z.cd (.str s) (some (.ref t)) := .inl ⟨strK z.cells, Sum.inr s, .inl hz.cd, rfl, hv.symm⟩
    refine ⟨_, (pss_cons (ps_if (pt_val (pe_callB call_isi (by rfl) B.isi PyProof.Rows.boot_isinstance (pa_cons (pv 1) (pa_cons (pe_bltn (v := .ty "str") (by rfl) B.str (by decide +kernel) rfl) pa_nil)))) (pss_one (ps_try_thru0 (pss_cons (ps_set (i := 2) scTo.nd rfl (Or.inl rfl) (pe_dget hu (pe_fld (pv 0) rfl) (pv 1) (fun _ _ => rfl)))
        (pss_one (ps_if (pt_cmp (pc_notN (pv 2))) (pss_one (ps_ret (pe_ix ix_tup (pv 2) pe_int (fun _ _ => rfl)))) pss_nil))))) pss_nil)
        pss_never), ?_⟩
    refine ⟨_, rfl, _, _, _, _, true, rfl, .ty _, .base (.str _), kit_ty (by decide +kernel), _, rfl, iteT ?_⟩
    refine ⟨_, rfl, z.na, C, _, _, _, rfl, hz.i, T.cl, T.cells, rfl, _, rfl, z.cd, _, rfl, hg, ?_⟩
    exact ⟨_, rfl, _, rfl, ifT notNone ⟨_, rfl, t, _, _, _, rfl, rfl, SqT.of ht, atI_nat (j := 2) rfl, k⟩⟩
theorem ok_entry {C E f : Addr} {fd : FuncData} (F : Fun K "entry" "Cache.entry" sEn f fd) (B : Bn mg) (T : CacheC K C) (TE : EntryC K E) : FnOk P w K mg base CX0 1 f fd ["self", "child", "key"] (spEntry C E) := by
  refine F.ok scEn (fun vs H Q E h => ?_) (fun cdv A outer s H vs Q E hr h => ?_)
  · obtain ⟨n, z, ch, k, r, v, rfl, _⟩ := h
    rfl
  · obtain ⟨n, z, ch, s, r, v, rfl, hz, hc, hrw, hv, k⟩ := h
    have hu := hu_of hr
    have hg : DGet H z.en (.str ch) (some (.ref r.ra)) := .inl ⟨NZ.refK z.kids, Sum.inr ch, .inl hz.en, rfl, hc.symm⟩
    have hg2 : DGet H r.cd (.str s) (some v) := .inl ⟨strK r.cells, Sum.inr s, .inl hrw.cd, rfl, hv.symm⟩
    refine ⟨_, (pss_cons (ps_if (PW.pt (pw_and (pt_val (pe_callB call_isi (by rfl) B.isi PyProof.Rows.boot_isinstance (pa_cons (pv 1) (pa_cons (pe_bltn (v := .ty "str") (by rfl) B.str (by decide +kernel) rfl) pa_nil)))) (pw_and1 (pt_val (pe_callB call_isi (by rfl) B.isi PyProof.Rows.boot_isinstance (pa_cons (pv 2) (pa_cons (pe_bltn (v := .ty "str") (by rfl) B.str (by decide +kernel) rfl) pa_nil))))))) (pss_one (ps_try_thru0 (pss_one (ps_ret (pe_dget hu (pe_fld (pe_dget hu (pe_fld (pv 0) rfl) (pv 1) (fun _ _ => rfl)) rfl) (pv 2) (fun _ _ => rfl)))))) pss_nil)
        pss_never), ?_⟩
    refine ⟨_, rfl, _, _, _, _, true, rfl, .ty _, .base (.str _), kit_ty (by decide +kernel), _, rfl, iteT ?_⟩
    refine ⟨_, rfl, _, _, _, _, true, rfl, .ty _, .base (.str _), kit_ty (by decide +kernel), _, rfl, iteT ?_⟩
    exact ⟨_, rfl, z.na, C, _, _, _, rfl, hz.i, T.cl, T.entries, rfl, _, rfl, z.en, _, rfl, hg, r.ra, _, _, _, _, rfl, hrw.i, TE.cl, TE.cells, rfl, _, rfl, r.cd, _, rfl, hg2, k⟩
end
end K02
set_option Elab.async false
set_option linter.all false
set_option maxRecDepth 100000
set_option maxHeartbeats 4000000
/-! a net as plain data, and how the heap holds it -/
namespace NZ
open PySem L2 EX PyProof.Rows
section
variable {α β γ : Type} {F G : α → β → Prop}
theorem pr_imp (w : ∀ a b, F a b → G a b) : ∀ {l : List α} {m : List β}, Paired F l m → Paired G l m
  | _, _, .nil => .nil
  | _, _, .cons h t => .cons (w _ _ h) (pr_imp w t)
theorem pr_len : ∀ {l : List α} {m : List β}, Paired F l m → l.length = m.length
  | _, _, .nil => rfl
  | _, _, .cons _ t => congrArg (· + 1) (pr_len t)
theorem pr_app : ∀ {l l' : List α} {m m' : List β}, Paired F l m → Paired F l' m' → Paired F (l ++ l') (m ++ m')
  | _, _, _, _, .nil, h => h
  | _, _, _, _, .cons h t, h' => .cons h (pr_app t h')
theorem pr_get : ∀ {l : List α} {m : List β} {i : Nat} {a : α}, Paired F l m → l[i]? = some a → ∃ b, m[i]? = some b ∧ F a b
  | _, _, 0, _, .cons h _, e => by
    cases e
    exact ⟨_, rfl, h⟩
  | _, _, i + 1, _, .cons _ t, e => pr_get (i := i) t e
theorem pr_get' : ∀ {l : List α} {m : List β} {i : Nat} {b : β}, Paired F l m → m[i]? = some b → ∃ a, l[i]? = some a ∧ F a b
  | _, _, 0, _, .cons h _, e => by
    cases e
    exact ⟨_, rfl, h⟩
  | _, _, i + 1, _, .cons _ t, e => pr_get' (i := i) t e
theorem pr_mem {l : List α} {m : List β} {a : α} (h : Paired F l m) (ha : a ∈ l) : ∃ b ∈ m, F a b := by
  obtain ⟨i, hi⟩ := List.mem_iff_getElem?.mp ha
  obtain ⟨b, hb, hf⟩ := pr_get h hi
  exact ⟨b, List.mem_of_getElem? hb, hf⟩
theorem pr_mem' {l : List α} {m : List β} {b : β} (h : Paired F l m) (hb : b ∈ m) : ∃ a ∈ l, F a b := by
  obtain ⟨i, hi⟩ := List.mem_iff_getElem?.mp hb
  obtain ⟨a, ha, hf⟩ := pr_get' h hi
  exact ⟨a, List.mem_of_getElem? ha, hf⟩
/-- a pair in the middle -/
theorem pr_mid : ∀ {m : List β} {l : List α} {i : Nat} {b : β}, Paired F l m → m[i]? = some b → ∃ l1 a l2, l = l1 ++ a :: l2 ∧ F a b ∧ Paired F l1 (m.take i) ∧ Paired F l2 (m.drop (i + 1)) ∧ l1.length = i
  | _ :: _, _, 0, _, .cons h t, e => by
    cases e
    exact ⟨[], _, _, rfl, h, .nil, t, rfl⟩
  | _ :: _, _, i + 1, _, .cons h t, e => by
    obtain ⟨l1, a, l2, e1, h1, h2, h3, h4⟩ := pr_mid (i := i) t e
    exact ⟨_ :: l1, a, l2, by rw [e1]; rfl, h1, .cons h h2, h3, congrArg (· + 1) h4⟩
theorem pr_keys {κ α β : Type} {F : κ × α → κ × β → Prop} (w : ∀ a b, F a b → a.1 = b.1) : ∀ {l : List (κ × α)} {m : List (κ × β)}, Paired F l m → l.map (·.1) = m.map (·.1)
  | _, _, .nil => rfl
  | _, _, .cons h t => by
    rw [List.map_cons, List.map_cons, w _ _ h, pr_keys w t]
end
structure CellM where
  num : Int
  val : Int
  alw : Int
  told : Int
  asked : Option Int
def optD : Option Int → PyData
  | none => .none
  | some i => .int i
def copyD (c : CellM) : PyData := .tuple [.int c.num, .int c.val]
def CellM.d (c : CellM) : PyData := .tuple [copyD c, .int c.alw, .int c.told, optD c.asked]
def cellD : Option CellM → PyData
  | none => .none
  | some c => c.d
structure NodeM where
  label : Str
  above : Option Str
  cells : List (Str × Option CellM)
  kids : List Str
structure RowM where
  child : Str
  above : Str
  cells : List (Str × Int × Int)
  rais : List Str
  there : Bool
  crashed : Bool
  down : List PyData
  up : List PyData
structure NetM where
  words : List Str
  nodes : List NodeM
  rows : List RowM
  done : List PyData
  kept : List (Str × List Int)
  acc : List Str
  stm : List Int
  qs : Int
abbrev Ix : Type := List (Str × Addr)
def ixOf (Z : NetZ) : Ix := Z.rows.map fun r => (r.child, r.ra)
structure NodeR (H : Hp) (ix : Ix) (z : NodeZ) (m : NodeM) : Prop where
  label : z.label = m.label
  above : z.above = match m.above with | none => .non | some a => .str a
  row : match m.above with | none => z.row = .non | some _ => ∃ ra, (m.label, ra) ∈ ix ∧ z.row = .ref ra
  cells : Paired (fun (p : Str × V) (q : Str × Option CellM) => p.1 = q.1 ∧ Td H p.2 (cellD q.2)) z.cells m.cells
  kids : z.kids.map (·.1) = m.kids
  kin : ∀ p ∈ z.kids, p ∈ ix
  kt : Td H z.kt (.tuple (m.kids.map PyData.str))
structure RowR (H : Hp) (z : RowZ) (m : RowM) : Prop where
  child : z.child = m.child
  above : z.above = m.above
  dl : Td H z.dl (.tuple [.str m.above, .str m.child])
  ul : Td H z.ul (.tuple [.str m.child, .str m.above])
  cells : Paired (fun (p : Str × V) (q : Str × Int × Int) => p.1 = q.1 ∧ Td H p.2 (.tuple [.int q.2.1, .int q.2.2])) z.cells m.cells
  rais : Td H z.rais (.tuple (m.rais.map PyData.str))
  there : z.there = m.there
  crashed : z.crashed = m.crashed
  down : TdAll H z.down m.down
  up : TdAll H z.up m.up
structure NetR (H : Hp) (Z : NetZ) (M : NetM) : Prop where
  nodes : Paired (NodeR H (ixOf Z)) Z.nodes M.nodes
  rows : Paired (RowR H) Z.rows M.rows
  tw : Td H Z.tw (.tuple (M.words.map PyData.str))
  la : Td H Z.la (.tuple (M.nodes.map fun m => .str m.label))
  top : ∃ z rest, Z.nodes = z :: rest ∧ Z.top = .ref z.na
  done : TdAll H Z.done M.done
  kept : Paired (fun (p : Str × V) (q : Str × List Int) => p.1 = q.1 ∧ Td H p.2 (.tuple (q.2.map PyData.int))) Z.kept M.kept
  acc : Z.acc = M.acc.map V.str
  stm : Z.stm = M.stm.map V.int
  qs : Z.qs = M.qs
/-- what always holds of a net's data -/
structure NetW (M : NetM) : Prop where
  wnd : M.words.Nodup
  w4 : M.words.length ≤ 4
  nnd : (M.nodes.map (·.label)).Nodup
  rnd : (M.rows.map (·.child)).Nodup
  cell : ∀ m ∈ M.nodes, m.cells.map (·.1) = M.words
  rcell : ∀ r ∈ M.rows, r.cells.map (·.1) = M.words
  kept : M.kept.map (·.1) = M.words
  n12 : M.nodes.length ≤ 12
  r12 : M.rows.length ≤ 1000
  kids : ∀ m ∈ M.nodes, m.kids.Nodup ∧ m.kids.length ≤ 1000
section
variable {H H' : Hp} {ix : Ix}
theorem NodeR.mono (k : KT H H') {z : NodeZ} {m : NodeM} (h : NodeR H ix z m) : NodeR H' ix z m := ⟨h.label, h.above, h.row, pr_imp (fun _ _ q => ⟨q.1, q.2.mono k⟩) h.cells, h.kids, h.kin, h.kt.mono k⟩
theorem RowR.mono (k : KT H H') {z : RowZ} {m : RowM} (h : RowR H z m) : RowR H' z m := ⟨h.child, h.above, h.dl.mono k, h.ul.mono k, pr_imp (fun _ _ q => ⟨q.1, q.2.mono k⟩) h.cells, h.rais.mono k, h.there, h.crashed, h.down.mono k, h.up.mono k⟩
theorem NetR.mono (k : KT H H') {Z : NetZ} {M : NetM} (h : NetR H Z M) : NetR H' Z M := ⟨pr_imp (fun _ _ q => q.mono k) h.nodes, pr_imp (fun _ _ q => q.mono k) h.rows, h.tw.mono k, h.la.mono k, h.top, h.done.mono k, pr_imp (fun _ _ q => ⟨q.1, q.2.mono k⟩) h.kept, h.acc, h.stm, h.qs⟩
end
/-- the places of a net that change; its nodes' places by names -/
structure Sg where
  S : List Addr
  nx : List (Str × Addr)
def NetZ.ps (c : Cs) (Z : NetZ) : List Addr := (objs c Z).map (·.1)
def NetZ.nx (Z : NetZ) : List (Str × Addr) := Z.nodes.map fun z => (z.label, z.na)
/-- the net with its data -/
structure NetQ (c : Cs) (H : Hp) (n : Addr) (g : Sg) (M : NetM) (Z : NetZ) : Prop where
  n : Z.n = n
  ps : Z.ps c = g.S
  nx : Z.nx = g.nx
  h : NetH c H Z
  r : NetR H Z M
  w : NetW M
structure NetA (c : Cs) (H : Hp) (n : Addr) (g : Sg) (M : NetM) : Prop where
  ex : ∃ Z : NetZ, NetQ c H n g M Z
section
variable {c : Cs} {H H' : Hp} {n : Addr} {g : Sg} {M : NetM} {Z : NetZ}
theorem NetQ.mono (s : Same H H') (h : NetQ c H n g M Z) : NetQ c H' n g M Z := ⟨h.n, h.ps, h.nx, h.h.same s, h.r.mono (KT.of s), h.w⟩
theorem NetA.mono (s : Same H H') (h : NetA c H n g M) : NetA c H' n g M := let ⟨Z, q⟩ := h.ex; ⟨Z, q.mono s⟩
theorem NetQ.keeps {T : List Addr} (k : Keeps T H H') (ht : ∀ p ∈ T, p ∉ g.S) (hn : ∀ p ∈ T, ∀ xs, H p ≠ some (.tup xs)) (h : NetQ c H n g M Z) : NetQ c H' n g M Z := by
  refine ⟨h.n, h.ps, h.nx, h.h.keeps k fun x hx z => ht _ z ?_, h.r.mono (KT.keeps k hn), h.w⟩
  rw [← h.ps]
  exact List.mem_map.mpr ⟨x, hx, rfl⟩
theorem NetA.keeps {T : List Addr} (k : Keeps T H H') (ht : ∀ p ∈ T, p ∉ g.S) (hn : ∀ p ∈ T, ∀ xs, H p ≠ some (.tup xs)) (h : NetA c H n g M) : NetA c H' n g M := let ⟨Z, q⟩ := h.ex; ⟨Z, q.keeps k ht hn⟩
theorem NetQ.notup (h : NetQ c H n g M Z) : ∀ p ∈ g.S, ∀ xs, H p ≠ some (.tup xs) := fun p hp xs z => by
  rw [← h.ps] at hp
  obtain ⟨x, hx, rfl⟩ := List.mem_map.mp hp
  rw [h.h.at_ x hx] at z
  exact objs_notup x hx xs (Option.some.inj z)
theorem NetQ.at_n (h : NetQ c H n g M Z) : H n = some (.ins c.N Z.dx (netF Z)) := by
  have := h.h.at_net 0
  rw [← h.n]
  exact this
theorem NetQ.mem_n (h : NetQ c H n g M Z) : n ∈ g.S := by
  rw [← h.ps, ← h.n]
  exact .head _
/-- the node of a name -/
theorem NetQ.node (h : NetQ c H n g M Z) {s : Str} {na : Addr} (hs : (s, na) ∈ g.nx) : ∃ (i : Nat) (z : NodeZ) (m : NodeM), Z.nodes[i]? = some z ∧ M.nodes[i]? = some m ∧ z.na = na ∧ z.label = s ∧ NodeR H (ixOf Z) z m := by
  rw [← h.nx] at hs
  obtain ⟨z, hz, e⟩ := List.mem_map.mp hs
  obtain ⟨i, hi⟩ := List.mem_iff_getElem?.mp hz
  obtain ⟨m, hm, hr⟩ := pr_get h.r.nodes hi
  cases e
  exact ⟨i, z, m, hi, hm, rfl, rfl, hr⟩
/-- .. and the place of a name -/
theorem NetQ.node' (h : NetQ c H n g M Z) {i : Nat} {m : NodeM} (hm : M.nodes[i]? = some m) : ∃ z, Z.nodes[i]? = some z ∧ NodeR H (ixOf Z) z m ∧ (m.label, z.na) ∈ g.nx := by
  obtain ⟨z, hz, hr⟩ := pr_get' h.r.nodes hm
  refine ⟨z, hz, hr, ?_⟩
  rw [← h.nx, ← hr.label]
  exact List.mem_map.mpr ⟨z, List.mem_of_getElem? hz, rfl⟩
theorem nodesK_val {l : List NodeZ} (nd : (l.map (·.label)).Nodup) {z : NodeZ} (h : z ∈ l) : valV (nodesK l) (Sum.inr z.label) = some (.ref z.na) := by
  induction l with
  | nil => cases h
  | cons q r ih =>
    obtain ⟨n1, n2⟩ := List.nodup_cons.mp nd
    rcases List.mem_cons.mp h with e | e
    · subst e
      exact valV_pos rfl
    · exact (valV_neg (fun e2 => n1 (List.mem_map.mpr ⟨_, e, (Sum.inr.inj e2).symm⟩))).trans (ih n2 e)
theorem nodesK_none {l : List NodeZ} {s : Str} (h : s ∉ l.map (·.label)) : valV (nodesK l) (Sum.inr s) = none := by
  induction l with
  | nil => rfl
  | cons q r ih => exact (valV_neg (fun e2 => h (List.mem_map.mpr ⟨_, .head _, Sum.inr.inj e2⟩))).trans (ih fun z => h (.tail _ z))
theorem rowsK_val {l : List RowZ} (nd : (l.map (·.child)).Nodup) {z : RowZ} (h : z ∈ l) : valV (rowsK l) (Sum.inr z.child) = some (.ref z.ra) := by
  induction l with
  | nil => cases h
  | cons q r ih =>
    obtain ⟨n1, n2⟩ := List.nodup_cons.mp nd
    rcases List.mem_cons.mp h with e | e
    · subst e
      exact valV_pos rfl
    · exact (valV_neg (fun e2 => n1 (List.mem_map.mpr ⟨_, e, (Sum.inr.inj e2).symm⟩))).trans (ih n2 e)
theorem rowsK_none {l : List RowZ} {s : Str} (h : s ∉ l.map (·.child)) : valV (rowsK l) (Sum.inr s) = none := by
  induction l with
  | nil => rfl
  | cons q r ih => exact (valV_neg (fun e2 => h (List.mem_map.mpr ⟨_, .head _, Sum.inr.inj e2⟩))).trans (ih fun z => h (.tail _ z))
theorem pr_map {α β γ : Type} {F : α → β → Prop} {f : α → γ} {f' : β → γ} (w : ∀ a b, F a b → f a = f' b) : ∀ {l : List α} {m : List β}, Paired F l m → l.map f = m.map f'
  | _, _, .nil => rfl
  | _, _, .cons h t => by rw [List.map_cons, List.map_cons, w _ _ h, pr_map w t]
theorem NetQ.labels (h : NetQ c H n g M Z) : Z.nodes.map (·.label) = M.nodes.map (·.label) := pr_map (fun _ _ q => q.label) h.r.nodes
theorem NetQ.childs (h : NetQ c H n g M Z) : Z.rows.map (·.child) = M.rows.map (·.child) := pr_map (fun _ _ q => q.child) h.r.rows
theorem NetQ.nodeV (h : NetQ c H n g M Z) {z : NodeZ} (hz : z ∈ Z.nodes) : valV (nodesK Z.nodes) (Sum.inr z.label) = some (.ref z.na) := nodesK_val (by rw [h.labels]; exact h.w.nnd) hz
theorem NetQ.rowV (h : NetQ c H n g M Z) {z : RowZ} (hz : z ∈ Z.rows) : valV (rowsK Z.rows) (Sum.inr z.child) = some (.ref z.ra) := rowsK_val (by rw [h.childs]; exact h.w.rnd) hz
end
/-- a new net -/
def newM (ws : List Str) : NetM := { words := ws, nodes := [{ label := "store", above := none, cells := ws.map fun w => (w, some ⟨0, 0, 0, 0, none⟩), kids := [] }], rows := [], done := [], kept := ws.map fun w => (w, []), acc := [], stm := [], qs := 0 }
theorem newW {ws : List Str} (nd : ws.Nodup) (h4 : ws.length ≤ 4) : NetW (newM ws) := by
  have e1 : (ws.map fun w => (w, (some ⟨0, 0, 0, 0, none⟩ : Option CellM))).map (·.1) = ws := by rw [List.map_map]; exact List.map_id'' (fun _ => rfl) ws
  have e2 : (ws.map fun w => (w, ([] : List Int))).map (·.1) = ws := by rw [List.map_map]; exact List.map_id'' (fun _ => rfl) ws
  refine ⟨nd, h4, by simp [newM], by simp [newM], fun m hm => ?_, (fun r hr => nomatch hr), e2, by show 1 ≤ 12; decide, by show 0 ≤ 1000; decide, fun m hm => ?_⟩
  · rw [List.mem_singleton.mp hm]
    exact e1
  · rw [List.mem_singleton.mp hm]
    exact ⟨List.nodup_nil, by show 0 ≤ 1000; decide⟩
end NZ
set_option Elab.async false
set_option linter.all false
set_option maxRecDepth 100000
set_option maxHeartbeats 4000000
namespace K02
open PySem L2 EX PyProof.Rows LamX
open NZ
structure NetC (K : PySem.W.Frag) (N : Addr) : Prop where
  cl : Cls K N
  f_words : NoAttr K N "words"
  f_top : NoAttr K N "top"
  f_nodes : NoAttr K N "nodes"
  f_labels : NoAttr K N "labels"
  f_rows : NoAttr K N "rows"
  f_done : NoAttr K N "done"
  f_kept : NoAttr K N "kept"
  f_accepted : NoAttr K N "accepted"
  f_stamps : NoAttr K N "stamps"
  f_questions : NoAttr K N "questions"
  f_trails : NoAttr K N "trails"
  f_answered : NoAttr K N "answered"
  f_receipts : NoAttr K N "receipts"
theorem strK_none {cl : List (Str × V)} {s : Str} (h : s ∉ cl.map (·.1)) : valV (strK cl) (Sum.inr s) = none := by
  induction cl with
  | nil => rfl
  | cons q r ih =>
    have h1 : ¬ q.1 = s := fun z => h (by rw [List.map_cons, z]; exact .head _)
    exact (valV_neg (fun z => h1 (Sum.inr.inj z))).trans (ih fun z => h (.tail _ z))
theorem strK_put {cl : List (Str × V)} {s : Str} {v : V} (h : s ∉ cl.map (·.1)) : putK (strK cl) (Sum.inr s) v = strK (cl ++ [(s, v)]) := by
  rw [putK_new _ (strK_none h)]
  show List.map _ cl ++ [(Sum.inr s, v)] = List.map _ (cl ++ [(s, v)])
  rw [List.map_append]
  rfl
/-- what good keys are -/
structure KeysOk (ws : List Str) : Prop where
  nd : ws.Nodup
  wd : ∀ s ∈ ws, isW s = true
  n1 : 1 ≤ ws.length
  n4 : ws.length ≤ 4
theorem KeysOk.good {ws : List Str} (h : KeysOk ws) : goodK (strV ws) = true := by
  have e : ∀ l : List Str, txs (strV l) = l := fun l => by
    induction l with
    | nil => rfl
    | cons s r ih => exact congrArg (s :: ·) ih
  unfold goodK
  simp only [Bool.and_eq_true, decide_eq_true_eq]
  have h1 := h.n1
  have h4 := h.n4
  refine ⟨⟨by rw [List.length_map]; omega, by rw [List.length_map]; omega⟩, ?_, ?_⟩
  · rw [List.all_eq_true]
    intro x hx
    obtain ⟨s, hs, rfl⟩ := List.mem_map.mp hx
    exact h.wd s hs
  · rw [e, dn_nodup ws [] h.nd (fun _ _ z => nomatch z), List.length_map]
theorem KeysOk.arg {K : PySem.W.Frag} {H : Hp} {a : Addr} {ws : List Str} (h : KeysOk ws) (ho : SqE K H a (strV ws)) : KeyArg K H (.ref a) true := by
  have h4 := h.n4
  refine .inl ⟨a, strV ws, rfl, ho, by rw [List.length_map]; omega, fun y hy => ?_, h.good.symm⟩
  obtain ⟨s, hs, rfl⟩ := List.mem_map.mp hy
  exact .inl ⟨s, rfl, isW_len (h.wd s hs)⟩
theorem nd_at {ws : List Str} {i : Nat} {s : Str} (nd : ws.Nodup) (h : ws[i]? = some s) : s ∉ ws.take i := fun z => by
  obtain ⟨hl, e⟩ := List.getElem?_eq_some_iff.mp h
  obtain ⟨j, hj, ej⟩ := List.getElem_of_mem z
  rw [List.length_take] at hj
  rw [List.getElem_take] at ej
  have := (List.getElem_inj nd).mp (ej.trans e.symm)
  omega
theorem k_tup2 {K : PySem.W.Frag} {H : Hp} {a : Addr} {xs : List V} {Q : VK} (h : SqL K H a xs ∨ H a = some (.tup xs)) (k : ∀ q H', Same H H' → H' q = some (.tup xs) → Q (.ref q) H') : kTup K (.ref a) H Q := by
  rcases h with h | h
  · exact .inl ⟨a, xs, rfl, h, fun q hq => k q _ (Same.upd hq) upd_same⟩
  · exact .inr ⟨a, xs, rfl, SqT.of h, k a _ (Same.refl _) h⟩
theorem holds1 {H : Hp} {a : Addr × HO} (h1 : H a.1 = some a.2) : Holds H [a] := ⟨by simp, fun x hx => by rw [List.mem_singleton.mp hx]; exact h1⟩
theorem map_ws {α : Type} {ws : List Str} {f : Str → α} {i : Nat} : ((ws.take i).map fun w => (w, f w)).map (·.1) = ws.take i := by
  rw [List.map_map]
  exact List.map_id'' (fun _ => rfl) _
theorem fr_of {H H' : Hp} {n q : Addr} (k : Keeps [n] H H') (h : H' q = none) : q = n ∨ H q = none := by
  by_cases z : q = n
  · exact .inl z
  · exact .inr (k.free (by simpa using z) h)
/-- Net.__init__ -/
def spNI (K : PySem.W.Frag) (c : Cs) (IK : Addr) : Sp := fun vs H Q E => ∃ (n dx : Addr) (x : V), vs = [.ref n, x] ∧ H n = some (.ins c.N dx []) ∧
  ((∃ a ws, x = .ref a ∧ (SqL K H a (strV ws) ∨ H a = some (.tup (strV ws))) ∧ KeysOk ws ∧ ∀ H' g, Keeps [n] H H' → NetA c H' n g (newM ws) → (∀ q ∈ g.S, q = n ∨ H q = none) → Q .non H') ∨
    (KeyArg K H x false ∧ ∀ d H', Same H H' → H d = none → H' d = some (.xd [(("given" : Str), x)]) → E (.ref IK) (some d) H'))
abbrev sNI : Stmt := inClass (top 63) 1
def sNIN : List Str := ["self", "keys", "key"]
theorem scNI : FnScope ["self", "keys", "key"] ["self", "keys"] (defScope sNI) := ⟨rfl, rfl, rfl, by decide +kernel, rfl, by decide +kernel, by decide +kernel⟩
section
variable {P : Program} {w : World} {K : PySem.W.Frag} {mg : Str → Option Value} {base : Heap}
theorem ok_ni {c : Cs} {IK f : Addr} {fd : FuncData} (F : Fun K "__init__" "Net.__init__" sNI f fd) (B : Bn mg) (T : NetC K c.N) (GK : DefAt P w K mg base 2 "are_keys" ["obj"] (spKeys K)) (MC : MkAt P w K mg base CX0 1 "Cache" ["self", "home", "label", "above", "row", "cells"] c.C (spCI K c.C)) (XI : XrAt P w K mg base "InvalidKeys" "given" IK) :
    FnOk P w K mg base (L2.CX P w) 3 f fd ["self", "keys"] (spNI K c IK) := by
  refine F.okX scNI (fun vs H Q E h => ?_) (fun cdv A outer s H vs Q E hr h => ?_)
  · obtain ⟨n, dx, x, rfl, _⟩ := h
    rfl
  · obtain ⟨n, dx, x, rfl, hn, k⟩ := h
    have hu := hu_of hr
    refine ⟨_, (pss_cons (ps_if (pt_not (pt_val (pe_callD GK (hr.mono (by decide)) (pa_cons (pv 1) pa_nil)))) (pss_one (ps_raiseE XI (hr.mono (by decide)) rfl (takes_of rfl rfl rfl rfl) (pv 1))) pss_nil)
        (pss_cons (ps_fld (pv 0) (pe_tupleOf (by rfl) B.tuple (pv 1)) rfl)
        (pss_cons (ps_fld (pv 0) (pe_mkC MC (hr.mono (by decide)) (pa_cons (pv 0) (pa_cons (pe_glob (v := .str _) (by rfl) B.st.choose_spec ⟨_, rfl⟩) (pa_cons pe_non (pa_cons pe_non (pa_cons (pe_dc (own := [("key", 2)]) (g := (gName 2)) (tt := tYes) (tk := (tVar 2)) (tv := (tTup (tCons (tTup (tCons (tC (.int 0)) (tCons (tC (.int 0)) tNil))) (tCons (tC (.int 0)) (tCons (tC (.int 0)) (tCons (tC .non) tNil)))))) rfl scNI.nd (pi_tup (pe_fld (pv 0) rfl)) (blkOk_by (N := sNIN) (sc := defScope sNI) (by decide +kernel)) (fun _ _ _ _ _ => (pg_name (i := 2) scNI.nd rfl (Or.inl rfl))) (fun _ _ _ _ _ => pts_nil) (fun _ _ _ _ _ => (pv 2)) (fun _ _ _ _ _ => (pe_tup (pa_cons (pe_tup (pa_cons pe_int (pa_cons pe_int pa_nil))) (pa_cons pe_int (pa_cons pe_int (pa_cons pe_non pa_nil))))))) pa_nil)))))) rfl)
        (pss_cons (ps_fld (pv 0) (pe_disp (pps_cons (pe_glob (v := .str _) (by rfl) B.st.choose_spec ⟨_, rfl⟩) (pe_fld (pv 0) rfl) pps_nil) rfl rfl (by simp) (by decide)) rfl)
        (pss_cons (ps_fld (pv 0) (pe_tup (pa_cons (pe_glob (v := .str _) (by rfl) B.st.choose_spec ⟨_, rfl⟩) pa_nil)) rfl)
        (pss_cons (ps_fld (pv 0) pe_dnewK rfl)
        (pss_cons (ps_fld (pv 0) (pe_lst pa_nil) rfl)
        (pss_cons (ps_fld (pv 0) (pe_dc (own := [("key", 2)]) (g := (gName 2)) (tt := tYes) (tk := (tVar 2)) (tv := (tTup tNil)) rfl scNI.nd (pi_tup (pe_fld (pv 0) rfl)) (blkOk_by (N := sNIN) (sc := defScope sNI) (by decide +kernel)) (fun _ _ _ _ _ => (pg_name (i := 2) scNI.nd rfl (Or.inl rfl))) (fun _ _ _ _ _ => pts_nil) (fun _ _ _ _ _ => (pv 2)) (fun _ _ _ _ _ => (pe_tup pa_nil))) rfl)
        (pss_cons (ps_fld (pv 0) (pe_lst pa_nil) rfl)
        (pss_cons (ps_fld (pv 0) (pe_lst pa_nil) rfl)
        (pss_cons (ps_fld (pv 0) pe_int rfl)
        (pss_cons (ps_fld (pv 0) pe_dnewK rfl)
        (pss_cons (ps_fld (pv 0) pe_dnewK rfl)
        (pss_one (ps_fld (pv 0) pe_dnewK rfl))))))))))))))), ?_⟩
    rcases k with ⟨a, ws, rfl, ho, KO, k⟩ | ⟨hx, kE⟩
    rotate_left
    · refine ⟨_, rfl, x, false, rfl, hx, fun H1 S1 => ⟨_, rfl, iteT ?_⟩⟩
      exact ⟨_, rfl, fun d H' s hd e => kE d H' (Same.trans S1 s) (S1.free hd) e⟩
    have hoE : SqE K H a (strV ws) := ho.imp id SqT.of
    refine ⟨_, rfl, .ref a, true, rfl, KO.arg hoE, fun H1 S1 => ⟨_, rfl, iteF ?_⟩⟩
    have h4 := KO.n4
    have hlw : (strV ws).length = ws.length := List.length_map _
    refine ⟨_, rfl, k_tup2 (ho.imp (S1.seq ·) (S1 _ _ ·)) fun tw H2 S2 ht2 => ?_⟩
    have S02 := Same.trans S1 S2
    have hn2 := S02 _ _ hn
    have o0 : Holds H2 [(n, .ins c.N dx [])] := holds1 hn2
    refine ⟨_, rfl, n, c.N, dx, [], rfl, hn2, T.cl, T.f_words, by show 0 < 1000; decide, ?_⟩
    rw [show putF "words" (.ref tw) ([] : List (Str × V)) = ([("words", .ref tw)] : List (Str × V)) from by rfl]
    have o1 := o0.split (l := []) (m := []) (o' := .ins c.N dx ([("words", .ref tw)] : List (Str × V)))
    have k3 : Keeps [n] H2 (upd H2 n (HO.ins c.N dx ([("words", .ref tw)] : List (Str × V)))) := Keeps.one _
    generalize upd H2 n (HO.ins c.N dx ([("words", .ref tw)] : List (Str × V))) = H3 at k3 o1 ⊢
    have hn3 : H3 n = some (.ins c.N dx ([("words", .ref tw)] : List (Str × V))) := o1.at_ _ (.head _)
    have nt : n ≠ tw := fun z => by rw [← z, hn2] at ht2; cases ht2
    have ht3 : H3 tw = some (.tup (strV ws)) := k3 _ _ (by simpa using nt.symm) ht2
    have k03 := (Keeps.of (S := [n]) S02).trans k3
    clear k3 ht2 S02 hn2 S2 o0
    -- top
    refine ⟨_, rfl, _, rfl, n, c.N, dx, _, _, rfl, hn3, T.cl, T.f_words, rfl, tw, rfl, ⟨_, SqT.of ht3⟩, fun D hD => ?_⟩
    refine dc_it (walk_tup (K := K) (a := tw) (xs := strV ws)) (fun i Hh => Same H3 Hh ∧ ∃ cv : List (Str × V), Hh D = some (.dK (strK cv)) ∧ Paired (fun (p : Str × V) (q : Str × Option CellM) => p.1 = q.1 ∧ Td Hh p.2 (cellD q.2)) cv ((ws.take i).map fun w => (w, some ⟨0, 0, 0, 0, none⟩))) ⟨Same.upd hD, [], upd_same, .nil⟩ (fun i Hh _ z => SqT.of (z.1 _ _ ht3)) ?_ ?_
    · rintro i x H0 H4 hi ⟨S, cl, lD, hcl⟩ ⟨rfl, hx⟩
      obtain ⟨s', rfl, hs⟩ := strV_get hx
      refine ⟨rfl, _, rfl, by show 2 ≤ sizeLine; decide, fun q hq => ⟨by show 4 ≤ sizeLine; decide, fun t ht => ?_⟩⟩
      have nct : q ≠ t := fun z => by rw [← z, upd_same] at ht; cases ht
      have S6 : Same H4 (upd (upd H4 q (.tup [.int 0, .int 0])) t (.tup [.ref q, .int 0, .int 0, .non])) := Same.trans (Same.upd hq) (Same.upd ht)
      have lt : upd (upd H4 q (HO.tup [.int 0, .int 0])) t (HO.tup [.ref q, .int 0, .int 0, .non]) t = some (.tup [.ref q, .int 0, .int 0, .non]) := upd_same
      have lc : upd (upd H4 q (HO.tup [.int 0, .int 0])) t (HO.tup [.ref q, .int 0, .int 0, .non]) q = some (.tup [.int 0, .int 0]) := by rw [upd_ne nct, upd_same]
      generalize upd (upd H4 q (HO.tup [.int 0, .int 0])) t (HO.tup [.ref q, .int 0, .int 0, .non]) = H6 at S6 lt lc ⊢
      have ek : cl.map (·.1) = ws.take i := (pr_keys (fun _ _ z => z.1) hcl).trans map_ws
      have hns : s' ∉ cl.map (·.1) := by
        rw [ek]
        exact nd_at KO.nd hs
      have hll : cl.length ≤ 4 := by
        have e := congrArg List.length ek
        rw [List.length_map, List.length_take] at e
        omega
      have kt : KT H6 (upd H6 D (.dK (putK (strK cl) (Sum.inr s') (.ref t)))) := KT.upd fun xs z => by rw [S6 _ _ lD] at z; cases z
      refine ⟨_, Sum.inr s', rfl, S6 _ _ lD, by rw [List.length_map, sizeLine_eq]; omega, EX.Same.updN (Same.trans S S6) hD, cl ++ [(s', .ref t)], by rw [upd_same, strK_put hns], ?_⟩
      rw [List.take_add_one, hs, List.map_append]
      refine pr_app (pr_imp (fun _ _ z => ⟨z.1, (z.2.mono (KT.of S6)).mono kt⟩) hcl) (.cons ⟨rfl, ?_⟩ .nil)
      exact Td.mono kt (.tup lt (.cons (.tup lc (.cons (.int 0) (.cons (.int 0) .nil))) (.cons (.int 0) (.cons (.int 0) (.cons .non .nil)))))
    rintro H4 ⟨S4, cl, lD, hcl⟩
    rw [hlw, List.take_length] at hcl
    refine fun cp dy hcp hdy hne => ?_
    have S40 : Same H4 (upd (upd H4 dy (.own cp)) cp (.ins c.C dy [])) := Same.trans (Same.upd hdy) (Same.upd (by rw [upd_ne (Ne.symm hne)]; exact hcp))
    refine ⟨cp, dy, .ref n, .str "store", .non, .non, .ref D, rfl, upd_same, fun H5 ce kt k5 ho5 hce hkt => ⟨rfl, ?_⟩⟩
    have S45 := made_same hcp hdy hne k5
    have hce4 := S40.free hce
    have o4 : Holds H4 ([(n, .ins c.N dx ([("words", .ref tw)] : List (Str × V)))] ++ [(D, .dK (strK cl))]) := Holds.grow (l := [(n, .ins c.N dx ([("words", .ref tw)] : List (Str × V)))]) o1 S4 (holds1 lD) fun x hx => by rw [List.mem_singleton.mp hx]; exact hD
    have o5 := o4.grow S45 ho5 fun x hx => by
      simp only [List.mem_cons, List.not_mem_nil, or_false] at hx
      rcases hx with rfl | rfl
      · exact hcp
      · exact hce4
    have S35 := Same.trans S4 S45
    have ht5 := S35 _ _ ht3
    have hcl5 := pr_imp (G := fun (p : Str × V) (q : Str × Option CellM) => p.1 = q.1 ∧ Td H5 p.2 (cellD q.2)) (fun _ _ z => ⟨z.1, z.2.mono (KT.of S45)⟩) hcl
    have k05 := k03.then S35
    have hkt' := hkt
    have f5 : ∀ {q : Addr}, H4 q = none → q = n ∨ H q = none := fun {q} hq => by
      by_cases z : q = n
      · exact .inl z
      · exact .inr ((k03.then S4).free (by simpa using z) hq)
    have fD : D = n ∨ H D = none := by
      by_cases z : D = n
      · exact .inl z
      · exact .inr (k03.free (by simpa using z) hD)
    have fcp := f5 hcp
    have fce := f5 hce4
    have lo5 : Holds H5 [(n, .ins c.N dx ([("words", .ref tw)] : List (Str × V))), (D, .dK (strK cl)), (cp, .ins c.C dy (cfl (.ref n) (.str "store") .non .non (.ref D) ce kt)), (ce, .dK [])] := o5
    clear o4 o1 hce hce4 hdy hne
    have ka := k05
    have kb : Keeps [n] H5 H5 := Keeps.refl _ _
    refine ⟨_, rfl, n, c.N, dx, _, rfl, lo5.at_ _ (.head _), T.cl, T.f_top, by show 1 < 1000; decide, ?_⟩
    rw [show putF "top" (.ref cp) ([("words", .ref tw)] : List (Str × V)) = ([("words", .ref tw), ("top", .ref cp)] : List (Str × V)) from by rfl]
    have lp1 : Holds (upd H5 n (.ins c.N dx ([("words", .ref tw), ("top", .ref cp)] : List (Str × V)))) [(n, .ins c.N dx ([("words", .ref tw), ("top", .ref cp)] : List (Str × V))), (D, .dK (strK cl)), (cp, .ins c.C dy (cfl (.ref n) (.str "store") .non .non (.ref D) ce kt)), (ce, .dK [])] := lo5.split (l := [])
    have kp1 : Keeps [n] H5 (upd H5 n (.ins c.N dx ([("words", .ref tw), ("top", .ref cp)] : List (Str × V)))) := Keeps.one _
    generalize upd H5 n (HO.ins c.N dx ([("words", .ref tw), ("top", .ref cp)] : List (Str × V))) = G1 at lp1 kp1 ⊢
    have ka := ka.trans kp1
    have kb := kb.trans kp1
    refine fun nd hnd => ?_
    have ln2' := lp1.new (o := .dK []) hnd
    refine ⟨_, rfl, n, c.N, dx, _, _, rfl, ln2'.at_ _ (.head _), T.cl, T.f_top, rfl, upd_same, [(Sum.inr "store", .ref cp)], rfl, by show 1 ≤ 15; decide, ?_⟩
    rw [EX.upd_upd, show mergeK [] ([(Sum.inr "store", .ref cp)] : List (Key × V)) = ([(Sum.inr "store", .ref cp)] : List (Key × V)) from by rfl]
    have ln2 : Holds (upd G1 nd (.dK [(Sum.inr "store", .ref cp)])) [(n, .ins c.N dx ([("words", .ref tw), ("top", .ref cp)] : List (Str × V))), (D, .dK (strK cl)), (cp, .ins c.C dy (cfl (.ref n) (.str "store") .non .non (.ref D) ce kt)), (ce, .dK []), (nd, .dK [(Sum.inr "store", .ref cp)])] := lp1.new hnd
    have kn2 : Keeps [n] G1 (upd G1 nd (.dK [(Sum.inr "store", .ref cp)])) := Keeps.of (Same.upd hnd)
    have frnd := fr_of ka hnd
    generalize upd G1 nd (HO.dK ([(Sum.inr "store", .ref cp)] : List (Key × V))) = N2 at ln2 kn2 ⊢
    clear ln2'
    have ka := ka.trans kn2
    have kb := kb.trans kn2
    refine ⟨_, rfl, n, c.N, dx, _, rfl, ln2.at_ _ (.head _), T.cl, T.f_nodes, by show 2 < 1000; decide, ?_⟩
    rw [show putF "nodes" (.ref nd) ([("words", .ref tw), ("top", .ref cp)] : List (Str × V)) = ([("words", .ref tw), ("top", .ref cp), ("nodes", .ref nd)] : List (Str × V)) from by rfl]
    have lp2 : Holds (upd N2 n (.ins c.N dx ([("words", .ref tw), ("top", .ref cp), ("nodes", .ref nd)] : List (Str × V)))) [(n, .ins c.N dx ([("words", .ref tw), ("top", .ref cp), ("nodes", .ref nd)] : List (Str × V))), (D, .dK (strK cl)), (cp, .ins c.C dy (cfl (.ref n) (.str "store") .non .non (.ref D) ce kt)), (ce, .dK []), (nd, .dK [(Sum.inr "store", .ref cp)])] := ln2.split (l := [])
    have kp2 : Keeps [n] N2 (upd N2 n (.ins c.N dx ([("words", .ref tw), ("top", .ref cp), ("nodes", .ref nd)] : List (Str × V)))) := Keeps.one _
    generalize upd N2 n (HO.ins c.N dx ([("words", .ref tw), ("top", .ref cp), ("nodes", .ref nd)] : List (Str × V))) = G2 at lp2 kp2 ⊢
    have ka := ka.trans kp2
    have kb := kb.trans kp2
    refine ⟨by show 1 ≤ sizeLine; decide, fun la hla => ?_⟩
    have ln3 : Holds (upd G2 la (.tup [.str "store"])) [(n, .ins c.N dx ([("words", .ref tw), ("top", .ref cp), ("nodes", .ref nd)] : List (Str × V))), (D, .dK (strK cl)), (cp, .ins c.C dy (cfl (.ref n) (.str "store") .non .non (.ref D) ce kt)), (ce, .dK []), (nd, .dK [(Sum.inr "store", .ref cp)])] := lp2.same (Same.upd hla)
    have kn3 : Keeps [n] G2 (upd G2 la (.tup [.str "store"])) := Keeps.of (Same.upd hla)
    have frla := fr_of ka hla
    have tpla : upd G2 la (HO.tup [.str "store"]) la = some (.tup [.str "store"]) := upd_same
    have nla : la ≠ n := (ne_by (lp2.at_ _ (.head _)) hla).symm
    generalize upd G2 la (HO.tup [.str "store"]) = N3 at ln3 kn3 tpla ⊢
    have ka := ka.trans kn3
    have kb := kb.trans kn3
    refine ⟨_, rfl, n, c.N, dx, _, rfl, ln3.at_ _ (.head _), T.cl, T.f_labels, by show 3 < 1000; decide, ?_⟩
    rw [show putF "labels" (.ref la) ([("words", .ref tw), ("top", .ref cp), ("nodes", .ref nd)] : List (Str × V)) = ([("words", .ref tw), ("top", .ref cp), ("nodes", .ref nd), ("labels", .ref la)] : List (Str × V)) from by rfl]
    have lp3 : Holds (upd N3 n (.ins c.N dx ([("words", .ref tw), ("top", .ref cp), ("nodes", .ref nd), ("labels", .ref la)] : List (Str × V)))) [(n, .ins c.N dx ([("words", .ref tw), ("top", .ref cp), ("nodes", .ref nd), ("labels", .ref la)] : List (Str × V))), (D, .dK (strK cl)), (cp, .ins c.C dy (cfl (.ref n) (.str "store") .non .non (.ref D) ce kt)), (ce, .dK []), (nd, .dK [(Sum.inr "store", .ref cp)])] := ln3.split (l := [])
    have kp3 : Keeps [n] N3 (upd N3 n (.ins c.N dx ([("words", .ref tw), ("top", .ref cp), ("nodes", .ref nd), ("labels", .ref la)] : List (Str × V)))) := Keeps.one _
    generalize upd N3 n (HO.ins c.N dx ([("words", .ref tw), ("top", .ref cp), ("nodes", .ref nd), ("labels", .ref la)] : List (Str × V))) = G3 at lp3 kp3 ⊢
    have ka := ka.trans kp3
    have kb := kb.trans kp3
    have tpla := kp3 la _ (by simpa using nla) tpla
    refine fun rw hrw => ?_
    have ln4 : Holds (upd G3 rw (.dK [])) [(n, .ins c.N dx ([("words", .ref tw), ("top", .ref cp), ("nodes", .ref nd), ("labels", .ref la)] : List (Str × V))), (D, .dK (strK cl)), (cp, .ins c.C dy (cfl (.ref n) (.str "store") .non .non (.ref D) ce kt)), (ce, .dK []), (nd, .dK [(Sum.inr "store", .ref cp)]), (rw, .dK [])] := lp3.new hrw
    have kn4 : Keeps [n] G3 (upd G3 rw (.dK [])) := Keeps.of (Same.upd hrw)
    have frrw := fr_of ka hrw
    generalize upd G3 rw (HO.dK []) = N4 at ln4 kn4 ⊢
    have ka := ka.trans kn4
    have kb := kb.trans kn4
    have tpla := kn4 la _ (by simpa using nla) tpla
    refine ⟨_, rfl, n, c.N, dx, _, rfl, ln4.at_ _ (.head _), T.cl, T.f_rows, by show 4 < 1000; decide, ?_⟩
    rw [show putF "rows" (.ref rw) ([("words", .ref tw), ("top", .ref cp), ("nodes", .ref nd), ("labels", .ref la)] : List (Str × V)) = ([("words", .ref tw), ("top", .ref cp), ("nodes", .ref nd), ("labels", .ref la), ("rows", .ref rw)] : List (Str × V)) from by rfl]
    have lp4 : Holds (upd N4 n (.ins c.N dx ([("words", .ref tw), ("top", .ref cp), ("nodes", .ref nd), ("labels", .ref la), ("rows", .ref rw)] : List (Str × V)))) [(n, .ins c.N dx ([("words", .ref tw), ("top", .ref cp), ("nodes", .ref nd), ("labels", .ref la), ("rows", .ref rw)] : List (Str × V))), (D, .dK (strK cl)), (cp, .ins c.C dy (cfl (.ref n) (.str "store") .non .non (.ref D) ce kt)), (ce, .dK []), (nd, .dK [(Sum.inr "store", .ref cp)]), (rw, .dK [])] := ln4.split (l := [])
    have kp4 : Keeps [n] N4 (upd N4 n (.ins c.N dx ([("words", .ref tw), ("top", .ref cp), ("nodes", .ref nd), ("labels", .ref la), ("rows", .ref rw)] : List (Str × V)))) := Keeps.one _
    generalize upd N4 n (HO.ins c.N dx ([("words", .ref tw), ("top", .ref cp), ("nodes", .ref nd), ("labels", .ref la), ("rows", .ref rw)] : List (Str × V))) = G4 at lp4 kp4 ⊢
    have ka := ka.trans kp4
    have kb := kb.trans kp4
    have tpla := kp4 la _ (by simpa using nla) tpla
    refine ⟨by show 0 ≤ sizeLine; decide, fun dn hdn => ?_⟩
    have ln5 : Holds (upd G4 dn (.lst [])) [(n, .ins c.N dx ([("words", .ref tw), ("top", .ref cp), ("nodes", .ref nd), ("labels", .ref la), ("rows", .ref rw)] : List (Str × V))), (D, .dK (strK cl)), (cp, .ins c.C dy (cfl (.ref n) (.str "store") .non .non (.ref D) ce kt)), (ce, .dK []), (nd, .dK [(Sum.inr "store", .ref cp)]), (rw, .dK []), (dn, .lst [])] := lp4.new hdn
    have kn5 : Keeps [n] G4 (upd G4 dn (.lst [])) := Keeps.of (Same.upd hdn)
    have frdn := fr_of ka hdn
    generalize upd G4 dn (HO.lst []) = N5 at ln5 kn5 ⊢
    have ka := ka.trans kn5
    have kb := kb.trans kn5
    have tpla := kn5 la _ (by simpa using nla) tpla
    refine ⟨_, rfl, n, c.N, dx, _, rfl, ln5.at_ _ (.head _), T.cl, T.f_done, by show 5 < 1000; decide, ?_⟩
    rw [show putF "done" (.ref dn) ([("words", .ref tw), ("top", .ref cp), ("nodes", .ref nd), ("labels", .ref la), ("rows", .ref rw)] : List (Str × V)) = ([("words", .ref tw), ("top", .ref cp), ("nodes", .ref nd), ("labels", .ref la), ("rows", .ref rw), ("done", .ref dn)] : List (Str × V)) from by rfl]
    have lp5 : Holds (upd N5 n (.ins c.N dx ([("words", .ref tw), ("top", .ref cp), ("nodes", .ref nd), ("labels", .ref la), ("rows", .ref rw), ("done", .ref dn)] : List (Str × V)))) [(n, .ins c.N dx ([("words", .ref tw), ("top", .ref cp), ("nodes", .ref nd), ("labels", .ref la), ("rows", .ref rw), ("done", .ref dn)] : List (Str × V))), (D, .dK (strK cl)), (cp, .ins c.C dy (cfl (.ref n) (.str "store") .non .non (.ref D) ce kt)), (ce, .dK []), (nd, .dK [(Sum.inr "store", .ref cp)]), (rw, .dK []), (dn, .lst [])] := ln5.split (l := [])
    have kp5 : Keeps [n] N5 (upd N5 n (.ins c.N dx ([("words", .ref tw), ("top", .ref cp), ("nodes", .ref nd), ("labels", .ref la), ("rows", .ref rw), ("done", .ref dn)] : List (Str × V)))) := Keeps.one _
    generalize upd N5 n (HO.ins c.N dx ([("words", .ref tw), ("top", .ref cp), ("nodes", .ref nd), ("labels", .ref la), ("rows", .ref rw), ("done", .ref dn)] : List (Str × V))) = G5 at lp5 kp5 ⊢
    have ka := ka.trans kp5
    have kb := kb.trans kp5
    have tpla := kp5 la _ (by simpa using nla) tpla
    -- kept
    have ht6 : G5 tw = some (.tup (strV ws)) := kb _ _ (by simpa using nt.symm) ht5
    refine ⟨_, rfl, n, c.N, dx, _, _, rfl, lp5.at_ _ (.head _), T.cl, T.f_words, rfl, tw, rfl, ⟨_, SqT.of ht6⟩, fun kp hkp => ?_⟩
    refine dc_it (walk_tup (K := K) (a := tw) (xs := strV ws)) (fun i Hh => Same G5 Hh ∧ ∃ kl : List (Str × V), Hh kp = some (.dK (strK kl)) ∧ Paired (fun (p : Str × V) (q : Str × List Int) => p.1 = q.1 ∧ Td Hh p.2 (.tuple (q.2.map PyData.int))) kl ((ws.take i).map fun w => (w, []))) ⟨Same.upd hkp, [], upd_same, .nil⟩ (fun i Hh _ z => SqT.of (z.1 _ _ ht6)) ?_ ?_
    · rintro i x H0 H4 hi ⟨S, kl, lD, hkl⟩ ⟨rfl, hx⟩
      obtain ⟨s', rfl, hs⟩ := strV_get hx
      refine ⟨rfl, _, rfl, by show 0 ≤ sizeLine; decide, fun t ht => ?_⟩
      have S6 : Same H4 (upd H4 t (.tup [])) := Same.upd ht
      have lt : upd H4 t (HO.tup []) t = some (.tup []) := upd_same
      generalize upd H4 t (HO.tup []) = H6 at S6 lt ⊢
      have ek : kl.map (·.1) = ws.take i := (pr_keys (fun _ _ z => z.1) hkl).trans map_ws
      have hns : s' ∉ kl.map (·.1) := by
        rw [ek]
        exact nd_at KO.nd hs
      have hll : kl.length ≤ 4 := by
        have e := congrArg List.length ek
        rw [List.length_map, List.length_take] at e
        omega
      have kt : KT H6 (upd H6 kp (.dK (putK (strK kl) (Sum.inr s') (.ref t)))) := KT.upd fun xs z => by rw [S6 _ _ lD] at z; cases z
      refine ⟨_, Sum.inr s', rfl, S6 _ _ lD, by rw [List.length_map, sizeLine_eq]; omega, EX.Same.updN (Same.trans S S6) hkp, kl ++ [(s', .ref t)], by rw [upd_same, strK_put hns], ?_⟩
      rw [List.take_add_one, hs, List.map_append]
      exact pr_app (pr_imp (fun _ _ z => ⟨z.1, (z.2.mono (KT.of S6)).mono kt⟩) hkl) (.cons ⟨rfl, Td.mono kt (.tup lt .nil)⟩ .nil)
    rintro N6 ⟨S6, kl, lK, hkl⟩
    rw [hlw, List.take_length] at hkl
    have ln6 : Holds N6 [(n, .ins c.N dx ([("words", .ref tw), ("top", .ref cp), ("nodes", .ref nd), ("labels", .ref la), ("rows", .ref rw), ("done", .ref dn)] : List (Str × V))), (D, .dK (strK cl)), (cp, .ins c.C dy (cfl (.ref n) (.str "store") .non .non (.ref D) ce kt)), (ce, .dK []), (nd, .dK [(Sum.inr "store", .ref cp)]), (rw, .dK []), (dn, .lst []), (kp, .dK (strK kl))] := lp5.grow S6 (holds1 lK) fun x hx => by rw [List.mem_singleton.mp hx]; exact hkp
    have kn6 : Keeps [n] G5 N6 := Keeps.of S6
    have frkp := fr_of ka hkp
    have kd : Keeps [n] N6 N6 := Keeps.refl _ _
    have ka := ka.trans kn6
    have kb := kb.trans kn6
    have tpla := kn6 la _ (by simpa using nla) tpla
    refine ⟨_, rfl, n, c.N, dx, _, rfl, ln6.at_ _ (.head _), T.cl, T.f_kept, by show 6 < 1000; decide, ?_⟩
    rw [show putF "kept" (.ref kp) ([("words", .ref tw), ("top", .ref cp), ("nodes", .ref nd), ("labels", .ref la), ("rows", .ref rw), ("done", .ref dn)] : List (Str × V)) = ([("words", .ref tw), ("top", .ref cp), ("nodes", .ref nd), ("labels", .ref la), ("rows", .ref rw), ("done", .ref dn), ("kept", .ref kp)] : List (Str × V)) from by rfl]
    have lp6 : Holds (upd N6 n (.ins c.N dx ([("words", .ref tw), ("top", .ref cp), ("nodes", .ref nd), ("labels", .ref la), ("rows", .ref rw), ("done", .ref dn), ("kept", .ref kp)] : List (Str × V)))) [(n, .ins c.N dx ([("words", .ref tw), ("top", .ref cp), ("nodes", .ref nd), ("labels", .ref la), ("rows", .ref rw), ("done", .ref dn), ("kept", .ref kp)] : List (Str × V))), (D, .dK (strK cl)), (cp, .ins c.C dy (cfl (.ref n) (.str "store") .non .non (.ref D) ce kt)), (ce, .dK []), (nd, .dK [(Sum.inr "store", .ref cp)]), (rw, .dK []), (dn, .lst []), (kp, .dK (strK kl))] := ln6.split (l := [])
    have kp6 : Keeps [n] N6 (upd N6 n (.ins c.N dx ([("words", .ref tw), ("top", .ref cp), ("nodes", .ref nd), ("labels", .ref la), ("rows", .ref rw), ("done", .ref dn), ("kept", .ref kp)] : List (Str × V)))) := Keeps.one _
    generalize upd N6 n (HO.ins c.N dx ([("words", .ref tw), ("top", .ref cp), ("nodes", .ref nd), ("labels", .ref la), ("rows", .ref rw), ("done", .ref dn), ("kept", .ref kp)] : List (Str × V))) = G6 at lp6 kp6 ⊢
    have ka := ka.trans kp6
    have kb := kb.trans kp6
    have tpla := kp6 la _ (by simpa using nla) tpla
    have kd := kd.trans kp6
    refine ⟨by show 0 ≤ sizeLine; decide, fun ac hac => ?_⟩
    have ln7 : Holds (upd G6 ac (.lst [])) [(n, .ins c.N dx ([("words", .ref tw), ("top", .ref cp), ("nodes", .ref nd), ("labels", .ref la), ("rows", .ref rw), ("done", .ref dn), ("kept", .ref kp)] : List (Str × V))), (D, .dK (strK cl)), (cp, .ins c.C dy (cfl (.ref n) (.str "store") .non .non (.ref D) ce kt)), (ce, .dK []), (nd, .dK [(Sum.inr "store", .ref cp)]), (rw, .dK []), (dn, .lst []), (kp, .dK (strK kl)), (ac, .lst [])] := lp6.new hac
    have kn7 : Keeps [n] G6 (upd G6 ac (.lst [])) := Keeps.of (Same.upd hac)
    have frac := fr_of ka hac
    generalize upd G6 ac (HO.lst []) = N7 at ln7 kn7 ⊢
    have ka := ka.trans kn7
    have kb := kb.trans kn7
    have tpla := kn7 la _ (by simpa using nla) tpla
    have kd := kd.trans kn7
    refine ⟨_, rfl, n, c.N, dx, _, rfl, ln7.at_ _ (.head _), T.cl, T.f_accepted, by show 7 < 1000; decide, ?_⟩
    rw [show putF "accepted" (.ref ac) ([("words", .ref tw), ("top", .ref cp), ("nodes", .ref nd), ("labels", .ref la), ("rows", .ref rw), ("done", .ref dn), ("kept", .ref kp)] : List (Str × V)) = ([("words", .ref tw), ("top", .ref cp), ("nodes", .ref nd), ("labels", .ref la), ("rows", .ref rw), ("done", .ref dn), ("kept", .ref kp), ("accepted", .ref ac)] : List (Str × V)) from by rfl]
    have lp7 : Holds (upd N7 n (.ins c.N dx ([("words", .ref tw), ("top", .ref cp), ("nodes", .ref nd), ("labels", .ref la), ("rows", .ref rw), ("done", .ref dn), ("kept", .ref kp), ("accepted", .ref ac)] : List (Str × V)))) [(n, .ins c.N dx ([("words", .ref tw), ("top", .ref cp), ("nodes", .ref nd), ("labels", .ref la), ("rows", .ref rw), ("done", .ref dn), ("kept", .ref kp), ("accepted", .ref ac)] : List (Str × V))), (D, .dK (strK cl)), (cp, .ins c.C dy (cfl (.ref n) (.str "store") .non .non (.ref D) ce kt)), (ce, .dK []), (nd, .dK [(Sum.inr "store", .ref cp)]), (rw, .dK []), (dn, .lst []), (kp, .dK (strK kl)), (ac, .lst [])] := ln7.split (l := [])
    have kp7 : Keeps [n] N7 (upd N7 n (.ins c.N dx ([("words", .ref tw), ("top", .ref cp), ("nodes", .ref nd), ("labels", .ref la), ("rows", .ref rw), ("done", .ref dn), ("kept", .ref kp), ("accepted", .ref ac)] : List (Str × V)))) := Keeps.one _
    generalize upd N7 n (HO.ins c.N dx ([("words", .ref tw), ("top", .ref cp), ("nodes", .ref nd), ("labels", .ref la), ("rows", .ref rw), ("done", .ref dn), ("kept", .ref kp), ("accepted", .ref ac)] : List (Str × V))) = G7 at lp7 kp7 ⊢
    have ka := ka.trans kp7
    have kb := kb.trans kp7
    have tpla := kp7 la _ (by simpa using nla) tpla
    have kd := kd.trans kp7
    refine ⟨by show 0 ≤ sizeLine; decide, fun sm hsm => ?_⟩
    have ln8 : Holds (upd G7 sm (.lst [])) [(n, .ins c.N dx ([("words", .ref tw), ("top", .ref cp), ("nodes", .ref nd), ("labels", .ref la), ("rows", .ref rw), ("done", .ref dn), ("kept", .ref kp), ("accepted", .ref ac)] : List (Str × V))), (D, .dK (strK cl)), (cp, .ins c.C dy (cfl (.ref n) (.str "store") .non .non (.ref D) ce kt)), (ce, .dK []), (nd, .dK [(Sum.inr "store", .ref cp)]), (rw, .dK []), (dn, .lst []), (kp, .dK (strK kl)), (ac, .lst []), (sm, .lst [])] := lp7.new hsm
    have kn8 : Keeps [n] G7 (upd G7 sm (.lst [])) := Keeps.of (Same.upd hsm)
    have frsm := fr_of ka hsm
    generalize upd G7 sm (HO.lst []) = N8 at ln8 kn8 ⊢
    have ka := ka.trans kn8
    have kb := kb.trans kn8
    have tpla := kn8 la _ (by simpa using nla) tpla
    have kd := kd.trans kn8
    refine ⟨_, rfl, n, c.N, dx, _, rfl, ln8.at_ _ (.head _), T.cl, T.f_stamps, by show 8 < 1000; decide, ?_⟩
    rw [show putF "stamps" (.ref sm) ([("words", .ref tw), ("top", .ref cp), ("nodes", .ref nd), ("labels", .ref la), ("rows", .ref rw), ("done", .ref dn), ("kept", .ref kp), ("accepted", .ref ac)] : List (Str × V)) = ([("words", .ref tw), ("top", .ref cp), ("nodes", .ref nd), ("labels", .ref la), ("rows", .ref rw), ("done", .ref dn), ("kept", .ref kp), ("accepted", .ref ac), ("stamps", .ref sm)] : List (Str × V)) from by rfl]
    have lp8 : Holds (upd N8 n (.ins c.N dx ([("words", .ref tw), ("top", .ref cp), ("nodes", .ref nd), ("labels", .ref la), ("rows", .ref rw), ("done", .ref dn), ("kept", .ref kp), ("accepted", .ref ac), ("stamps", .ref sm)] : List (Str × V)))) [(n, .ins c.N dx ([("words", .ref tw), ("top", .ref cp), ("nodes", .ref nd), ("labels", .ref la), ("rows", .ref rw), ("done", .ref dn), ("kept", .ref kp), ("accepted", .ref ac), ("stamps", .ref sm)] : List (Str × V))), (D, .dK (strK cl)), (cp, .ins c.C dy (cfl (.ref n) (.str "store") .non .non (.ref D) ce kt)), (ce, .dK []), (nd, .dK [(Sum.inr "store", .ref cp)]), (rw, .dK []), (dn, .lst []), (kp, .dK (strK kl)), (ac, .lst []), (sm, .lst [])] := ln8.split (l := [])
    have kp8 : Keeps [n] N8 (upd N8 n (.ins c.N dx ([("words", .ref tw), ("top", .ref cp), ("nodes", .ref nd), ("labels", .ref la), ("rows", .ref rw), ("done", .ref dn), ("kept", .ref kp), ("accepted", .ref ac), ("stamps", .ref sm)] : List (Str × V)))) := Keeps.one _
    generalize upd N8 n (HO.ins c.N dx ([("words", .ref tw), ("top", .ref cp), ("nodes", .ref nd), ("labels", .ref la), ("rows", .ref rw), ("done", .ref dn), ("kept", .ref kp), ("accepted", .ref ac), ("stamps", .ref sm)] : List (Str × V))) = G8 at lp8 kp8 ⊢
    have ka := ka.trans kp8
    have kb := kb.trans kp8
    have tpla := kp8 la _ (by simpa using nla) tpla
    have kd := kd.trans kp8
    refine ⟨_, rfl, n, c.N, dx, _, rfl, lp8.at_ _ (.head _), T.cl, T.f_questions, by show 9 < 1000; decide, ?_⟩
    rw [show putF "questions" (.int 0) ([("words", .ref tw), ("top", .ref cp), ("nodes", .ref nd), ("labels", .ref la), ("rows", .ref rw), ("done", .ref dn), ("kept", .ref kp), ("accepted", .ref ac), ("stamps", .ref sm)] : List (Str × V)) = ([("words", .ref tw), ("top", .ref cp), ("nodes", .ref nd), ("labels", .ref la), ("rows", .ref rw), ("done", .ref dn), ("kept", .ref kp), ("accepted", .ref ac), ("stamps", .ref sm), ("questions", .int 0)] : List (Str × V)) from by rfl]
    have lp9 : Holds (upd G8 n (.ins c.N dx ([("words", .ref tw), ("top", .ref cp), ("nodes", .ref nd), ("labels", .ref la), ("rows", .ref rw), ("done", .ref dn), ("kept", .ref kp), ("accepted", .ref ac), ("stamps", .ref sm), ("questions", .int 0)] : List (Str × V)))) [(n, .ins c.N dx ([("words", .ref tw), ("top", .ref cp), ("nodes", .ref nd), ("labels", .ref la), ("rows", .ref rw), ("done", .ref dn), ("kept", .ref kp), ("accepted", .ref ac), ("stamps", .ref sm), ("questions", .int 0)] : List (Str × V))), (D, .dK (strK cl)), (cp, .ins c.C dy (cfl (.ref n) (.str "store") .non .non (.ref D) ce kt)), (ce, .dK []), (nd, .dK [(Sum.inr "store", .ref cp)]), (rw, .dK []), (dn, .lst []), (kp, .dK (strK kl)), (ac, .lst []), (sm, .lst [])] := lp8.split (l := [])
    have kp9 : Keeps [n] G8 (upd G8 n (.ins c.N dx ([("words", .ref tw), ("top", .ref cp), ("nodes", .ref nd), ("labels", .ref la), ("rows", .ref rw), ("done", .ref dn), ("kept", .ref kp), ("accepted", .ref ac), ("stamps", .ref sm), ("questions", .int 0)] : List (Str × V)))) := Keeps.one _
    generalize upd G8 n (HO.ins c.N dx ([("words", .ref tw), ("top", .ref cp), ("nodes", .ref nd), ("labels", .ref la), ("rows", .ref rw), ("done", .ref dn), ("kept", .ref kp), ("accepted", .ref ac), ("stamps", .ref sm), ("questions", .int 0)] : List (Str × V))) = G9 at lp9 kp9 ⊢
    have ka := ka.trans kp9
    have kb := kb.trans kp9
    have tpla := kp9 la _ (by simpa using nla) tpla
    have kd := kd.trans kp9
    refine fun tr htr => ?_
    have ln10 : Holds (upd G9 tr (.dK [])) [(n, .ins c.N dx ([("words", .ref tw), ("top", .ref cp), ("nodes", .ref nd), ("labels", .ref la), ("rows", .ref rw), ("done", .ref dn), ("kept", .ref kp), ("accepted", .ref ac), ("stamps", .ref sm), ("questions", .int 0)] : List (Str × V))), (D, .dK (strK cl)), (cp, .ins c.C dy (cfl (.ref n) (.str "store") .non .non (.ref D) ce kt)), (ce, .dK []), (nd, .dK [(Sum.inr "store", .ref cp)]), (rw, .dK []), (dn, .lst []), (kp, .dK (strK kl)), (ac, .lst []), (sm, .lst []), (tr, .dK [])] := lp9.new htr
    have kn10 : Keeps [n] G9 (upd G9 tr (.dK [])) := Keeps.of (Same.upd htr)
    have frtr := fr_of ka htr
    generalize upd G9 tr (HO.dK []) = N10 at ln10 kn10 ⊢
    have ka := ka.trans kn10
    have kb := kb.trans kn10
    have tpla := kn10 la _ (by simpa using nla) tpla
    have kd := kd.trans kn10
    refine ⟨_, rfl, n, c.N, dx, _, rfl, ln10.at_ _ (.head _), T.cl, T.f_trails, by show 10 < 1000; decide, ?_⟩
    rw [show putF "trails" (.ref tr) ([("words", .ref tw), ("top", .ref cp), ("nodes", .ref nd), ("labels", .ref la), ("rows", .ref rw), ("done", .ref dn), ("kept", .ref kp), ("accepted", .ref ac), ("stamps", .ref sm), ("questions", .int 0)] : List (Str × V)) = ([("words", .ref tw), ("top", .ref cp), ("nodes", .ref nd), ("labels", .ref la), ("rows", .ref rw), ("done", .ref dn), ("kept", .ref kp), ("accepted", .ref ac), ("stamps", .ref sm), ("questions", .int 0), ("trails", .ref tr)] : List (Str × V)) from by rfl]
    have lp10 : Holds (upd N10 n (.ins c.N dx ([("words", .ref tw), ("top", .ref cp), ("nodes", .ref nd), ("labels", .ref la), ("rows", .ref rw), ("done", .ref dn), ("kept", .ref kp), ("accepted", .ref ac), ("stamps", .ref sm), ("questions", .int 0), ("trails", .ref tr)] : List (Str × V)))) [(n, .ins c.N dx ([("words", .ref tw), ("top", .ref cp), ("nodes", .ref nd), ("labels", .ref la), ("rows", .ref rw), ("done", .ref dn), ("kept", .ref kp), ("accepted", .ref ac), ("stamps", .ref sm), ("questions", .int 0), ("trails", .ref tr)] : List (Str × V))), (D, .dK (strK cl)), (cp, .ins c.C dy (cfl (.ref n) (.str "store") .non .non (.ref D) ce kt)), (ce, .dK []), (nd, .dK [(Sum.inr "store", .ref cp)]), (rw, .dK []), (dn, .lst []), (kp, .dK (strK kl)), (ac, .lst []), (sm, .lst []), (tr, .dK [])] := ln10.split (l := [])
    have kp10 : Keeps [n] N10 (upd N10 n (.ins c.N dx ([("words", .ref tw), ("top", .ref cp), ("nodes", .ref nd), ("labels", .ref la), ("rows", .ref rw), ("done", .ref dn), ("kept", .ref kp), ("accepted", .ref ac), ("stamps", .ref sm), ("questions", .int 0), ("trails", .ref tr)] : List (Str × V)))) := Keeps.one _
    generalize upd N10 n (HO.ins c.N dx ([("words", .ref tw), ("top", .ref cp), ("nodes", .ref nd), ("labels", .ref la), ("rows", .ref rw), ("done", .ref dn), ("kept", .ref kp), ("accepted", .ref ac), ("stamps", .ref sm), ("questions", .int 0), ("trails", .ref tr)] : List (Str × V))) = G10 at lp10 kp10 ⊢
    have ka := ka.trans kp10
    have kb := kb.trans kp10
    have tpla := kp10 la _ (by simpa using nla) tpla
    have kd := kd.trans kp10
    refine fun an han => ?_
    have ln11 : Holds (upd G10 an (.dK [])) [(n, .ins c.N dx ([("words", .ref tw), ("top", .ref cp), ("nodes", .ref nd), ("labels", .ref la), ("rows", .ref rw), ("done", .ref dn), ("kept", .ref kp), ("accepted", .ref ac), ("stamps", .ref sm), ("questions", .int 0), ("trails", .ref tr)] : List (Str × V))), (D, .dK (strK cl)), (cp, .ins c.C dy (cfl (.ref n) (.str "store") .non .non (.ref D) ce kt)), (ce, .dK []), (nd, .dK [(Sum.inr "store", .ref cp)]), (rw, .dK []), (dn, .lst []), (kp, .dK (strK kl)), (ac, .lst []), (sm, .lst []), (tr, .dK []), (an, .dK [])] := lp10.new han
    have kn11 : Keeps [n] G10 (upd G10 an (.dK [])) := Keeps.of (Same.upd han)
    have fran := fr_of ka han
    generalize upd G10 an (HO.dK []) = N11 at ln11 kn11 ⊢
    have ka := ka.trans kn11
    have kb := kb.trans kn11
    have tpla := kn11 la _ (by simpa using nla) tpla
    have kd := kd.trans kn11
    refine ⟨_, rfl, n, c.N, dx, _, rfl, ln11.at_ _ (.head _), T.cl, T.f_answered, by show 11 < 1000; decide, ?_⟩
    rw [show putF "answered" (.ref an) ([("words", .ref tw), ("top", .ref cp), ("nodes", .ref nd), ("labels", .ref la), ("rows", .ref rw), ("done", .ref dn), ("kept", .ref kp), ("accepted", .ref ac), ("stamps", .ref sm), ("questions", .int 0), ("trails", .ref tr)] : List (Str × V)) = ([("words", .ref tw), ("top", .ref cp), ("nodes", .ref nd), ("labels", .ref la), ("rows", .ref rw), ("done", .ref dn), ("kept", .ref kp), ("accepted", .ref ac), ("stamps", .ref sm), ("questions", .int 0), ("trails", .ref tr), ("answered", .ref an)] : List (Str × V)) from by rfl]
    have lp11 : Holds (upd N11 n (.ins c.N dx ([("words", .ref tw), ("top", .ref cp), ("nodes", .ref nd), ("labels", .ref la), ("rows", .ref rw), ("done", .ref dn), ("kept", .ref kp), ("accepted", .ref ac), ("stamps", .ref sm), ("questions", .int 0), ("trails", .ref tr), ("answered", .ref an)] : List (Str × V)))) [(n, .ins c.N dx ([("words", .ref tw), ("top", .ref cp), ("nodes", .ref nd), ("labels", .ref la), ("rows", .ref rw), ("done", .ref dn), ("kept", .ref kp), ("accepted", .ref ac), ("stamps", .ref sm), ("questions", .int 0), ("trails", .ref tr), ("answered", .ref an)] : List (Str × V))), (D, .dK (strK cl)), (cp, .ins c.C dy (cfl (.ref n) (.str "store") .non .non (.ref D) ce kt)), (ce, .dK []), (nd, .dK [(Sum.inr "store", .ref cp)]), (rw, .dK []), (dn, .lst []), (kp, .dK (strK kl)), (ac, .lst []), (sm, .lst []), (tr, .dK []), (an, .dK [])] := ln11.split (l := [])
    have kp11 : Keeps [n] N11 (upd N11 n (.ins c.N dx ([("words", .ref tw), ("top", .ref cp), ("nodes", .ref nd), ("labels", .ref la), ("rows", .ref rw), ("done", .ref dn), ("kept", .ref kp), ("accepted", .ref ac), ("stamps", .ref sm), ("questions", .int 0), ("trails", .ref tr), ("answered", .ref an)] : List (Str × V)))) := Keeps.one _
    generalize upd N11 n (HO.ins c.N dx ([("words", .ref tw), ("top", .ref cp), ("nodes", .ref nd), ("labels", .ref la), ("rows", .ref rw), ("done", .ref dn), ("kept", .ref kp), ("accepted", .ref ac), ("stamps", .ref sm), ("questions", .int 0), ("trails", .ref tr), ("answered", .ref an)] : List (Str × V))) = G11 at lp11 kp11 ⊢
    have ka := ka.trans kp11
    have kb := kb.trans kp11
    have tpla := kp11 la _ (by simpa using nla) tpla
    have kd := kd.trans kp11
    refine fun rc hrc => ?_
    have ln12 : Holds (upd G11 rc (.dK [])) [(n, .ins c.N dx ([("words", .ref tw), ("top", .ref cp), ("nodes", .ref nd), ("labels", .ref la), ("rows", .ref rw), ("done", .ref dn), ("kept", .ref kp), ("accepted", .ref ac), ("stamps", .ref sm), ("questions", .int 0), ("trails", .ref tr), ("answered", .ref an)] : List (Str × V))), (D, .dK (strK cl)), (cp, .ins c.C dy (cfl (.ref n) (.str "store") .non .non (.ref D) ce kt)), (ce, .dK []), (nd, .dK [(Sum.inr "store", .ref cp)]), (rw, .dK []), (dn, .lst []), (kp, .dK (strK kl)), (ac, .lst []), (sm, .lst []), (tr, .dK []), (an, .dK []), (rc, .dK [])] := lp11.new hrc
    have kn12 : Keeps [n] G11 (upd G11 rc (.dK [])) := Keeps.of (Same.upd hrc)
    have frrc := fr_of ka hrc
    generalize upd G11 rc (HO.dK []) = N12 at ln12 kn12 ⊢
    have ka := ka.trans kn12
    have kb := kb.trans kn12
    have tpla := kn12 la _ (by simpa using nla) tpla
    have kd := kd.trans kn12
    refine ⟨_, rfl, n, c.N, dx, _, rfl, ln12.at_ _ (.head _), T.cl, T.f_receipts, by show 12 < 1000; decide, ?_⟩
    rw [show putF "receipts" (.ref rc) ([("words", .ref tw), ("top", .ref cp), ("nodes", .ref nd), ("labels", .ref la), ("rows", .ref rw), ("done", .ref dn), ("kept", .ref kp), ("accepted", .ref ac), ("stamps", .ref sm), ("questions", .int 0), ("trails", .ref tr), ("answered", .ref an)] : List (Str × V)) = ([("words", .ref tw), ("top", .ref cp), ("nodes", .ref nd), ("labels", .ref la), ("rows", .ref rw), ("done", .ref dn), ("kept", .ref kp), ("accepted", .ref ac), ("stamps", .ref sm), ("questions", .int 0), ("trails", .ref tr), ("answered", .ref an), ("receipts", .ref rc)] : List (Str × V)) from by rfl]
    have lp12 : Holds (upd N12 n (.ins c.N dx ([("words", .ref tw), ("top", .ref cp), ("nodes", .ref nd), ("labels", .ref la), ("rows", .ref rw), ("done", .ref dn), ("kept", .ref kp), ("accepted", .ref ac), ("stamps", .ref sm), ("questions", .int 0), ("trails", .ref tr), ("answered", .ref an), ("receipts", .ref rc)] : List (Str × V)))) [(n, .ins c.N dx ([("words", .ref tw), ("top", .ref cp), ("nodes", .ref nd), ("labels", .ref la), ("rows", .ref rw), ("done", .ref dn), ("kept", .ref kp), ("accepted", .ref ac), ("stamps", .ref sm), ("questions", .int 0), ("trails", .ref tr), ("answered", .ref an), ("receipts", .ref rc)] : List (Str × V))), (D, .dK (strK cl)), (cp, .ins c.C dy (cfl (.ref n) (.str "store") .non .non (.ref D) ce kt)), (ce, .dK []), (nd, .dK [(Sum.inr "store", .ref cp)]), (rw, .dK []), (dn, .lst []), (kp, .dK (strK kl)), (ac, .lst []), (sm, .lst []), (tr, .dK []), (an, .dK []), (rc, .dK [])] := ln12.split (l := [])
    have kp12 : Keeps [n] N12 (upd N12 n (.ins c.N dx ([("words", .ref tw), ("top", .ref cp), ("nodes", .ref nd), ("labels", .ref la), ("rows", .ref rw), ("done", .ref dn), ("kept", .ref kp), ("accepted", .ref ac), ("stamps", .ref sm), ("questions", .int 0), ("trails", .ref tr), ("answered", .ref an), ("receipts", .ref rc)] : List (Str × V)))) := Keeps.one _
    generalize upd N12 n (HO.ins c.N dx ([("words", .ref tw), ("top", .ref cp), ("nodes", .ref nd), ("labels", .ref la), ("rows", .ref rw), ("done", .ref dn), ("kept", .ref kp), ("accepted", .ref ac), ("stamps", .ref sm), ("questions", .int 0), ("trails", .ref tr), ("answered", .ref an), ("receipts", .ref rc)] : List (Str × V))) = G12 at lp12 kp12 ⊢
    have ka := ka.trans kp12
    have kb := kb.trans kp12
    have tpla := kp12 la _ (by simpa using nla) tpla
    have kd := kd.trans kp12
    have n5 : ∀ p ∈ [n], ∀ xs, H5 p ≠ some (.tup xs) := fun p hp xs z => by
      rw [List.mem_singleton.mp hp, lo5.at_ _ (.head _)] at z
      cases z
    have n6 : ∀ p ∈ [n], ∀ xs, N6 p ≠ some (.tup xs) := fun p hp xs z => by
      rw [List.mem_singleton.mp hp, ln6.at_ _ (.head _)] at z
      cases z
    have kb' := KT.keeps kb n5
    have kd' := KT.keeps kd n6
    refine k _ ⟨NetZ.ps c { n := n, dx := dx, nd := nd, rd := rw, dn := dn, kp := kp, ac := ac, sm := sm, tr := tr, an := an, rc := rc, tw := .ref tw, top := .ref cp, la := .ref la, qs := 0, nodes := [{ na := cp, dx := dy, cd := D, en := ce, label := "store", above := .non, row := .non, cells := cl, kids := [], kt := .ref kt }], rows := [], done := [], kept := kl, acc := [], stm := [], trails := [], answered := [], receipts := [] }, NetZ.nx { n := n, dx := dx, nd := nd, rd := rw, dn := dn, kp := kp, ac := ac, sm := sm, tr := tr, an := an, rc := rc, tw := .ref tw, top := .ref cp, la := .ref la, qs := 0, nodes := [{ na := cp, dx := dy, cd := D, en := ce, label := "store", above := .non, row := .non, cells := cl, kids := [], kt := .ref kt }], rows := [], done := [], kept := kl, acc := [], stm := [], trails := [], answered := [], receipts := [] }⟩ ka ⟨{ n := n, dx := dx, nd := nd, rd := rw, dn := dn, kp := kp, ac := ac, sm := sm, tr := tr, an := an, rc := rc, tw := .ref tw, top := .ref cp, la := .ref la, qs := 0, nodes := [{ na := cp, dx := dy, cd := D, en := ce, label := "store", above := .non, row := .non, cells := cl, kids := [], kt := .ref kt }], rows := [], done := [], kept := kl, acc := [], stm := [], trails := [], answered := [], receipts := [] }, rfl, rfl, rfl, lp12.perm ?_, ?_, newW KO.nd h4⟩ ?_
    · exact List.Perm.cons _ ((List.perm_append_comm (l₁ := [(nd, _), (rw, _), (dn, _), (kp, _), (ac, _), (sm, _), (tr, _), (an, _), (rc, _)]) (l₂ := [(cp, _), (D, _), (ce, _)])).trans (List.Perm.append_right _ (List.Perm.swap _ _ _)))
    · exact ⟨.cons ⟨rfl, rfl, rfl, pr_imp (fun _ _ z => ⟨z.1, z.2.mono kb'⟩) hcl5, rfl, (fun p hp => nomatch hp), .tup (kb' _ _ hkt') .nil⟩ .nil, .nil, .tup (kb' _ _ ht5) (td_strs ws), .tup tpla (.cons (.str _) .nil), ⟨_, _, rfl, rfl⟩, .nil, pr_imp (fun _ _ z => ⟨z.1, z.2.mono kd'⟩) hkl, rfl, rfl, rfl⟩
    · intro q hq
      have hq : q ∈ NetZ.ps c _ := hq
      obtain ⟨x, hx, rfl⟩ := List.mem_map.mp hq
      rcases mem_objs hx with hx | ⟨y, hy, hx⟩ | ⟨y, hy, hx⟩
      · unfold netO at hx
        simp only [List.mem_cons, List.not_mem_nil, or_false] at hx
        rcases hx with rfl | rfl | rfl | rfl | rfl | rfl | rfl | rfl | rfl | rfl
        · exact .inl rfl
        · exact frnd
        · exact frrw
        · exact frdn
        · exact frkp
        · exact frac
        · exact frsm
        · exact frtr
        · exact fran
        · exact frrc
      · rw [List.mem_singleton.mp hy] at hx
        unfold nodeO at hx
        simp only [List.mem_cons, List.not_mem_nil, or_false] at hx
        rcases hx with rfl | rfl | rfl
        · exact fcp
        · exact fD
        · exact fce
      · cases hy
end
end K02
set_option Elab.async false
set_option linter.all false
set_option maxRecDepth 100000
set_option maxHeartbeats 4000000
namespace K02
open PySem L2 EX PyProof.Rows LamX
open NZ
/-! ### allowances -/
def okA (a : Int) : Bool := decide (1 ≤ a) && decide (a ≤ 99)
def spAlw1 : Sp := fun vs H Q _ => ∃ x : V, vs = [x] ∧ ((∃ a, x = .int a ∧ Q (.bl (okA a)) H) ∨ (∃ b, x = .bl b ∧ Q (.bl false) H))
def allowB (kvs : List (Key × V)) (ws : List Str) : Bool := decide (kvs.length = ws.length) && ws.all fun w => match valV kvs (Sum.inr w) with
  | some (.int a) => okA a
  | _ => false
/-- what is asked to be allowances: a dict of whole numbers and truth values, or no dict -/
def AllowArg (K : PySem.W.Frag) (H : Hp) (x : V) (ws : List Str) (b : Bool) : Prop := (∃ d kvs, x = .ref d ∧ H d = some (.dK kvs) ∧ (∀ w v, valV kvs w = some v → (∃ a, v = .int a) ∨ ∃ b, v = .bl b) ∧ kvs.length ≤ 1000 ∧ b = allowB kvs ws) ∨ ((∃ t : String, TyX K H x (.type t) ∧ PySem.W.kitOne K (.type t) (.type "dict") = some false) ∧ b = false)
abbrev okAt (kvs : List (Key × V)) (w : Str) : Bool := match valV kvs (Sum.inr w) with
  | some (.int a) => okA a
  | _ => false
theorem all_false {α : Type} {l : List α} {F : α → Bool} {s : α} (hs : s ∈ l) (h : F s = false) : l.all F = false := by
  rw [List.all_eq_false]
  exact ⟨s, hs, by simp [h]⟩
def spAlws (K : PySem.W.Frag) : Sp := fun vs H Q _ => ∃ (x : V) (tw : Addr) (ws : List Str) (b : Bool), vs = [x, .ref tw] ∧ H tw = some (.tup (strV ws)) ∧ ws.length ≤ 4 ∧ AllowArg K H x ws b ∧ Q (.bl b) H
/-! ### looks at a net -/
theorem isW_ok {s : Str} (h : isW s = true) : PyData.strOk s = true := by
  unfold isW at h
  simp only [Bool.and_eq_true] at h
  have h2 := h.2.1
  unfold Txt.isascii at h2
  unfold PyData.strOk
  rw [Array.all_eq_true'] at h2 ⊢
  intro x hx
  have := h2 x hx
  simp only [decide_eq_true_eq] at this ⊢
  omega
def StrB (K : PySem.W.Frag) (H : Hp) (x : V) (b : Bool) : Prop := ∃ t : String, TyX K H x (.type t) ∧ PySem.W.kitOne K (.type t) (.type "str") = some b
theorem StrB.non {K : PySem.W.Frag} {H : Hp} : StrB K H .non false := ⟨_, .base .non, kit_ty (by decide +kernel)⟩
theorem StrB.int {K : PySem.W.Frag} {H : Hp} (n : Int) : StrB K H (.int n) false := ⟨_, .base (.int _), kit_ty (by decide +kernel)⟩
theorem StrB.bl {K : PySem.W.Frag} {H : Hp} (n : Bool) : StrB K H (.bl n) false := ⟨_, .base (.bl _), kit_ty (by decide +kernel)⟩
theorem StrB.seq {K : PySem.W.Frag} {H : Hp} {a : Addr} {xs : List V} (h : SqE K H a xs) : StrB K H (.ref a) false := by
  rcases h with h | h
  · exact ⟨_, tyx_lst h, kit_ty (by decide +kernel)⟩
  · exact ⟨_, tyx_tup h, kit_ty (by decide +kernel)⟩
theorem StrB.dict {K : PySem.W.Frag} {H : Hp} {a : Addr} {kvs : List (Key × V)} (h : H a = some (.dK kvs)) : StrB K H (.ref a) false := ⟨_, .base (.dK h), kit_ty (by decide +kernel)⟩
theorem inStr (s : Str) (ws : List Str) : inV (.str s) (strV ws) = decide (s ∈ ws) := by
  induction ws with
  | nil => rfl
  | cons m t ih =>
    have e : inV (.str s) (strV (m :: t)) = ((m == s) || inV (.str s) (strV t)) := rfl
    rw [e, ih]
    by_cases h : m = s
    · rw [h]
      simp
    · have h2 : ¬ s = m := fun z => h z.symm
      simp [h, h2]
theorem flat_strV (ws : List Str) : (strV ws).all flatV = true := by
  rw [List.all_eq_true]
  intro x hx
  obtain ⟨s, _, rfl⟩ := List.mem_map.mp hx
  rfl
def BadOf (K : PySem.W.Frag) (H : Hp) (ws : List Str) (x : V) : Prop := (∃ s, x = .str s ∧ s ∉ ws) ∨ StrB K H x false
def Rais (E : XK) (H : Hp) (C : Addr) (f : Str) (x : V) : Prop := ∀ d H', Same H H' → H d = none → H' d = some (.xd [(f, x)]) → E (.ref C) (some d) H'
theorem td_tup {H : Hp} {v : V} {ds : List PyData} (h : Td H v (.tuple ds)) : ∃ a xs, v = .ref a ∧ H a = some (.tup xs) ∧ TdAll H xs ds := by
  cases h with
  | tup h t => exact ⟨_, _, rfl, h, t⟩
theorem td_strsV {H : Hp} : ∀ {xs : List V} {l : List Str}, TdAll H xs (l.map PyData.str) → xs = strV l
  | _, [], h => by
    cases h
    rfl
  | _, s :: l, h => by
    cases h with
    | cons a t =>
      cases a
      rw [td_strsV t]
      rfl
def spKeyNames (c : Cs) : Sp := fun vs H Q _ => ∃ n g M, vs = [.ref n] ∧ NetA c H n g M ∧ ∀ tw, H tw = some (.tup (strV M.words)) → Q (.ref tw) H
def spHist (c : Cs) : Sp := fun vs H Q _ => ∃ n g M, vs = [.ref n] ∧ NetA c H n g M ∧ ∀ q H', Same H H' → Td H' (.ref q) (.tuple M.done) → Q (.ref q) H'
def spNLen (c : Cs) : Sp := fun vs H Q _ => ∃ n g M, vs = [.ref n] ∧ NetA c H n g M ∧ Q (.int (M.nodes.length : Nat)) H
def spNGet (K : PySem.W.Frag) (c : Cs) (UN : Addr) : Sp := fun vs H Q E => ∃ n g M x, vs = [.ref n, x] ∧ NetA c H n g M ∧ ((∃ s na, x = .str s ∧ (s, na) ∈ g.nx ∧ Q (.ref na) H) ∨ (BadOf K H (M.nodes.map (·.label)) x ∧ Rais E H UN "node" x))
/-- net.messages of a link that goes down -/
def spMsg (c : Cs) : Sp := fun vs H Q _ => ∃ (n : Addr) (g : Sg) (M : NetM) (i : Nat) (r : RowM), vs = [.ref n, .str r.above, .str r.child] ∧ NetA c H n g M ∧ M.rows[i]? = some r ∧ ∀ l vs' H', Same H H' → H' l = some (.lst vs') → TdAll H' vs' r.down → Q (.ref l) H'
abbrev sKn : Stmt := inClass (top 63) 2
theorem scKn : FnScope ["self"] ["self"] (defScope sKn) := ⟨rfl, rfl, rfl, by decide +kernel, rfl, by decide +kernel, by decide +kernel⟩
abbrev sHi : Stmt := inClass (top 63) 4
theorem scHi : FnScope ["self"] ["self"] (defScope sHi) := ⟨rfl, rfl, rfl, by decide +kernel, rfl, by decide +kernel, by decide +kernel⟩
abbrev sNl : Stmt := inClass (top 63) 6
theorem scNl : FnScope ["self"] ["self"] (defScope sNl) := ⟨rfl, rfl, rfl, by decide +kernel, rfl, by decide +kernel, by decide +kernel⟩
abbrev sNg : Stmt := inClass (top 63) 8
theorem scNg : FnScope ["self", "at"] ["self", "at"] (defScope sNg) := ⟨rfl, rfl, rfl, by decide +kernel, rfl, by decide +kernel, by decide +kernel⟩
abbrev sMs : Stmt := inClass (top 63) 29
theorem scMs : FnScope ["self", "sender", "receiver", "rows"] ["self", "sender", "receiver"] (defScope sMs) := ⟨rfl, rfl, rfl, by decide +kernel, rfl, by decide +kernel, by decide +kernel⟩
abbrev sIa : Stmt := top 31
theorem scIa : FnScope ["obj"] ["obj"] (defScope sIa) := ⟨rfl, rfl, rfl, by decide +kernel, rfl, by decide +kernel, by decide +kernel⟩
abbrev sAa : Stmt := top 32
theorem scAa : FnScope ["obj", "keys", "key"] ["obj", "keys"] (defScope sAa) := ⟨rfl, rfl, rfl, by decide +kernel, rfl, by decide +kernel, by decide +kernel⟩
section
variable {P : Program} {w : World} {K : PySem.W.Frag} {mg : Str → Option Value} {base : Heap}
theorem ok_ia {f : Addr} {fd : FuncData} (F : Fun K "is_allowance" "is_allowance" sIa f fd) (B : Bn mg) : FnOk P w K mg base CX0 1 f fd ["obj"] spAlw1 := by
  refine F.ok scIa (fun vs H Q E h => ?_) (fun cdv A outer s H vs Q E hr h => ?_)
  · obtain ⟨x, rfl, _⟩ := h
    rfl
  · obtain ⟨x, rfl, k⟩ := h
    refine ⟨_, (pss_one (ps_ret (pe_and (pe_callB call_isi (by rfl) B.isi PyProof.Rows.boot_isinstance (pa_cons (pv 0) (pa_cons (pe_bltn (v := .ty "int") (by rfl) B.int (by decide +kernel) rfl) pa_nil))) (pe_and (pe_not (pe_callB call_isi (by rfl) B.isi PyProof.Rows.boot_isinstance (pa_cons (pv 0) (pa_cons (pe_bltn (v := .ty "bool") (by rfl) B.bool (by decide +kernel) rfl) pa_nil)))) (pe_one (pe_chain op_le op_le pe_int (pv 0) (pe_glob (v := .int _) (by rfl) B.ga.choose_spec ⟨_, rfl⟩))))))), ?_⟩
    rcases k with ⟨a, rfl, k⟩ | ⟨b, rfl, k⟩
    · refine ⟨_, rfl, _, _, _, _, true, rfl, .ty _, .base (.int _), kit_ty (by decide +kernel), _, rfl, iteT ?_⟩
      refine ⟨_, rfl, _, _, _, _, false, rfl, .ty _, .base (.int _), kit_ty (by decide +kernel), _, rfl, _, rfl, iteT ?_⟩
      unfold okA at k
      refine ⟨_, rfl, _, _, rfl, rfl, _, rfl, ite2 (fun h1 => ?_) (fun h1 => ?_)⟩
      · rw [h1, Bool.true_and] at k
        exact ⟨_, _, rfl, rfl, k⟩
      · rw [show decide (1 ≤ a) = false by simpa using h1, Bool.false_and] at k
        exact k
    · refine ⟨_, rfl, _, _, _, _, true, rfl, .ty _, .base (.bl _), kit_ty (by decide +kernel), _, rfl, iteT ?_⟩
      exact ⟨_, rfl, _, _, _, _, true, rfl, .ty _, .base (.bl _), kit_ty (by decide +kernel), _, rfl, _, rfl, iteF k⟩
theorem ok_aa {f : Addr} {fd : FuncData} (F : Fun K "are_allowances" "are_allowances" sAa f fd) (B : Bn mg) (GA : DefAt P w K mg base 1 "is_allowance" ["obj"] spAlw1) : FnOk P w K mg base CX0 2 f fd ["obj", "keys"] (spAlws K) := by
  refine F.ok scAa (fun vs H Q E h => ?_) (fun cdv A outer s H vs Q E hr h => ?_)
  · obtain ⟨x, tw, ws, b, rfl, _⟩ := h
    rfl
  · obtain ⟨x, tw, ws, b, rfl, ht, h4, hx, k⟩ := h
    have hu := hu_of hr
    have hlw : (strV ws).length = ws.length := List.length_map _
    refine ⟨_, (pss_cons (ps_if (PW.pt (pw_or (pt_not (pt_val (pe_callB call_isi (by rfl) B.isi PyProof.Rows.boot_isinstance (pa_cons (pv 0) (pa_cons (pe_bltn (v := .ty "dict") (by rfl) B.dict (by decide +kernel) rfl) pa_nil))))) (pw_or1 (pt_cmpR op_ne (pe_callB call_lenD (by rfl) B.len PySem.boot_len (pa_cons (pv 0) pa_nil)) (pe_callB call_len_seq (by rfl) B.len PySem.boot_len (pa_cons (pv 1) pa_nil)) (nomark _))))) (pss_one (ps_ret pe_bl)) pss_nil)
        (pss_cons (ps_for PassesOwn.never rfl (pi_tup (pv 1)) (pg_name (i := 2) scAa.nd rfl (Or.inl rfl)) (pss_one (ps_if (PW.pt (pw_or (pt_cmp (pc_dnotin hu (pv 2) (pv 0))) (pw_or1 (pt_not (pt_val (pe_callD GA (hr.mono (by decide)) (pa_cons (pe_dget hu (pv 0) (pv 2) (fun _ _ => rfl)) pa_nil))))))) (pss_one (ps_ret pe_bl)) pss_nil)))
        (pss_one (ps_ret pe_bl)))), ?_⟩
    rcases hx with ⟨d, kvs, rfl, hd, hv, hk, rfl⟩ | ⟨⟨t, ty, hk⟩, rfl⟩
    rotate_left
    · exact ⟨_, rfl, _, _, _, _, false, rfl, .ty _, ty, hk, _, rfl, iteT k⟩
    refine ⟨_, rfl, _, _, _, _, true, rfl, .ty _, .base (.dK hd), kit_ty (by decide +kernel), _, rfl, iteF ?_⟩
    refine ⟨_, rfl, d, _, rfl, hd, _, rfl, tw, _, rfl, .inr (SqT.of ht), rfl, _, rfl, ?_⟩
    rw [hlw]
    unfold allowB at k
    by_cases hl : kvs.length = ws.length
    rotate_left
    · rw [decide_eq_false hl, Bool.false_and] at k
      rw [decide_eq_false (fun z => hl (by have := V.int.inj z; omega))]
      exact iteT k
    rw [decide_eq_true hl, Bool.true_and] at k
    rw [decide_eq_true (by rw [hl])]
    refine iteF ?_
    refine ⟨_, rfl, tw, rfl, ⟨_, SqT.of ht⟩, ?_⟩
    refine for_it (walk_tup (K := K) (a := tw) (xs := strV ws)) (fun i σ' H' => ∃ v2, σ' = [some (.ref d), some (.ref tw), v2] ∧ H' = H ∧ (ws.take i).all (okAt kvs) = true) ⟨_, rfl, rfl, rfl⟩ (fun i σ' H' _ z => by obtain ⟨_, _, e, _⟩ := z; rw [e]; exact SqT.of ht) ?_ ?_
    · rintro i x σ' H1 H2 hi ⟨v2, rfl, rfl, hall⟩ ⟨rfl, hx⟩
      obtain ⟨s', rfl, hs⟩ := strV_get hx
      have hmem := List.mem_of_getElem? hs
      have kf : okAt kvs s' = false → Q (.bl false) H2 := fun z => by
        rw [show ws.all (okAt kvs) = false from all_false hmem z] at k
        exact k
      refine ⟨_, rfl, _, rfl, d, _, rfl, .inl ⟨kvs, Sum.inr s', .inl hd, rfl, rfl⟩, ?_⟩
      cases hval : valV kvs (Sum.inr s') with
      | none =>
        refine ⟨_, rfl, iteT (kf ?_)⟩
        unfold okAt
        simp only [hval]
      | some v =>
        refine ⟨_, rfl, iteF ?_⟩
        have hg : DGet H2 d (.str s') (some v) := .inl ⟨kvs, Sum.inr s', .inl hd, rfl, hval.symm⟩
        have hnext : okAt kvs s' = true → (ws.take (i + 1)).all (okAt kvs) = true := fun z => by
          rw [List.take_add_one, hs, List.all_append, hall]
          show (true && (okAt kvs s' && true)) = true
          rw [z]
          rfl
        rcases hv _ _ hval with ⟨a, rfl⟩ | ⟨b, rfl⟩
        · have eo : okAt kvs s' = okA a := by
            unfold okAt
            rw [hval]
          refine ⟨_, rfl, _, rfl, d, _, rfl, hg, .int a, rfl, .inl ⟨a, rfl, _, rfl, ?_⟩⟩
          cases hoa : okA a with
          | true => exact iteF ⟨_, rfl, rfl, hnext (eo.trans hoa)⟩
          | false => exact iteT (kf (eo.trans hoa))
        · refine ⟨_, rfl, _, rfl, d, _, rfl, hg, .bl b, rfl, .inr ⟨b, rfl, _, rfl, iteT (kf ?_)⟩⟩
          unfold okAt
          rw [hval]
    · rintro σ' H1 ⟨v2, rfl, rfl, hall⟩
      rw [hlw, List.take_length] at hall
      rw [show (ws.all fun w => match valV kvs (Sum.inr w) with | some (.int a) => okA a | _ => false) = true from hall] at k
      exact k
theorem ok_key_names {c : Cs} {UN f : Addr} {fd : FuncData} (F : Fun K "key_names" "Net.key_names" sKn f fd) (B : Bn mg) (T : NetC K c.N) : FnOk P w K mg base CX0 1 f fd ["self"] (spKeyNames c) := by
  refine F.ok scKn (fun vs H Q E h => ?_) (fun cdv A outer s H vs Q E hr h => ?_)
  · obtain ⟨n, g, M, rfl, _⟩ := h
    rfl
  · obtain ⟨n, g, M, rfl, hN, k⟩ := h
    have hu := hu_of hr
    obtain ⟨Z, q⟩ := hN.ex
    have hn := q.at_n
    refine ⟨_, (pss_one (ps_ret (pe_fld (pv 0) rfl))), ?_⟩
    obtain ⟨tw, xs, e, htw, hxs⟩ := td_tup q.r.tw
    rw [td_strsV hxs] at htw
    refine ⟨_, rfl, n, c.N, _, _, _, rfl, hn, T.cl, T.f_words, rfl, ?_⟩
    rw [e]
    exact k tw htw
theorem ok_history {c : Cs} {UN f : Addr} {fd : FuncData} (F : Fun K "history" "Net.history" sHi f fd) (B : Bn mg) (T : NetC K c.N) : FnOk P w K mg base CX0 1 f fd ["self"] (spHist c) := by
  refine F.ok scHi (fun vs H Q E h => ?_) (fun cdv A outer s H vs Q E hr h => ?_)
  · obtain ⟨n, g, M, rfl, _⟩ := h
    rfl
  · obtain ⟨n, g, M, rfl, hN, k⟩ := h
    have hu := hu_of hr
    obtain ⟨Z, q⟩ := hN.ex
    have hn := q.at_n
    refine ⟨_, (pss_one (ps_ret (pe_tupleOf (by rfl) B.tuple (pe_fld (pv 0) rfl)))), ?_⟩
    exact ⟨_, rfl, n, c.N, _, _, _, rfl, hn, T.cl, T.f_done, rfl, k_tup2 (.inl (SqL.of (q.h.at_net 3))) fun p H' S hp => k p H' S (.tup hp (q.r.done.mono (KT.of S)))⟩
theorem ok_nlen {c : Cs} {UN f : Addr} {fd : FuncData} (F : Fun K "__len__" "Net.__len__" sNl f fd) (B : Bn mg) (T : NetC K c.N) : FnOk P w K mg base CX0 1 f fd ["self"] (spNLen c) := by
  refine F.ok scNl (fun vs H Q E h => ?_) (fun cdv A outer s H vs Q E hr h => ?_)
  · obtain ⟨n, g, M, rfl, _⟩ := h
    rfl
  · obtain ⟨n, g, M, rfl, hN, k⟩ := h
    have hu := hu_of hr
    obtain ⟨Z, q⟩ := hN.ex
    have hn := q.at_n
    refine ⟨_, (pss_one (ps_ret (pe_callB call_lenD (by rfl) B.len PySem.boot_len (pa_cons (pe_fld (pv 0) rfl) pa_nil)))), ?_⟩
    refine ⟨_, rfl, n, c.N, _, _, _, rfl, hn, T.cl, T.f_nodes, rfl, Z.nd, _, rfl, q.h.at_net 1, ?_⟩
    rw [List.length_map, pr_len q.r.nodes]
    exact k
theorem ok_nget {c : Cs} {UN f : Addr} {fd : FuncData} (F : Fun K "__getitem__" "Net.__getitem__" sNg f fd) (B : Bn mg) (T : NetC K c.N) (XUN : XrAt P w K mg base "UnknownNode" "node" UN) : FnOk P w K mg base (L2.CX P w) 3 f fd ["self", "at"] (spNGet K c UN) := by
  refine F.okX scNg (fun vs H Q E h => ?_) (fun cdv A outer s H vs Q E hr h => ?_)
  · obtain ⟨n, g, M, x, rfl, _⟩ := h
    rfl
  · obtain ⟨n, g, M, x, rfl, hN, k⟩ := h
    have hu := hu_of hr
    obtain ⟨Z, q⟩ := hN.ex
    have hn := q.at_n
    refine ⟨_, (pss_cons (ps_if (pt_val (pe_callB call_isi (by rfl) B.isi PyProof.Rows.boot_isinstance (pa_cons (pv 1) (pa_cons (pe_bltn (v := .ty "str") (by rfl) B.str (by decide +kernel) rfl) pa_nil)))) (pss_one (ps_try_only (x := "KeyError") (c := .type "KeyError") (tb := fun W => tRet (tDGetX W (tFld K (tVar 0) "nodes") (tVar 1))) (ts := fun _ _ _ => tNext) rfl rfl ⟨by rfl, by decide, .inr ⟨B.ke, boot_KeyError, by decide⟩⟩ (takes_of rfl rfl rfl rfl) (fun W pn xe tk _ => pss_one (ps_ret (pe_dgetX rfl hu tk (pe_fld (pv 0) rfl) (pv 1) (fun _ _ => rfl)))) (fun a oe cls d pn hz hf => pss_one ps_pass))) pss_nil)
        (pss_one (ps_raiseE XUN (hr.mono (by decide)) rfl (takes_of rfl rfl rfl rfl) (pv 1)))), ?_⟩
    have lab := q.labels
    rcases k with ⟨s, na, rfl, hs, k⟩ | ⟨⟨s, rfl, hs⟩ | ⟨t, ty, hk⟩, kE⟩
    · obtain ⟨i, z, m, hz, hm, ena, els, hr⟩ := q.node hs
      have hv := q.nodeV (List.mem_of_getElem? hz)
      rw [els, ena] at hv
      refine ⟨_, rfl, _, _, _, _, true, rfl, .ty _, .base (.str _), kit_ty (by decide +kernel), _, rfl, iteT ?_⟩
      refine ⟨_, rfl, n, c.N, _, _, _, rfl, hn, T.cl, T.f_nodes, rfl, _, rfl, Z.nd, _, rfl, .inl ⟨_, Sum.inr s, .inl (q.h.at_net 1), rfl, rfl⟩, fun v h2 => ?_, fun z2 => ?_⟩
      · rw [hv] at h2
        cases h2
        exact k
      · rw [hv] at z2
        cases z2
    · have hv : valV (nodesK Z.nodes) (Sum.inr s) = none := nodesK_none (by rw [lab]; exact hs)
      refine ⟨_, rfl, _, _, _, _, true, rfl, .ty _, .base (.str _), kit_ty (by decide +kernel), _, rfl, iteT ?_⟩
      refine ⟨_, rfl, n, c.N, _, _, _, rfl, hn, T.cl, T.f_nodes, rfl, _, rfl, Z.nd, _, rfl, .inl ⟨_, Sum.inr s, .inl (q.h.at_net 1), rfl, rfl⟩, fun v h2 => ?_, fun z2 d => ?_⟩
      · rw [hv] at h2
        cases h2
      · refine ⟨true, by with_unfolding_all rfl, fun _ a ha => ?_, fun z => nomatch z⟩
        exact ⟨_, rfl, fun d H' s hd e => kE d H' s hd e⟩
    · refine ⟨_, rfl, _, _, _, _, false, rfl, .ty _, ty, hk, _, rfl, iteF ?_⟩
      exact ⟨_, rfl, fun d H' s hd e => kE d H' s hd e⟩
theorem ok_msg {c : Cs} {UN f : Addr} {fd : FuncData} (F : Fun K "messages" "Net.messages" sMs f fd) (B : Bn mg) (T : NetC K c.N) (TE : EntryC K c.E) : FnOk P w K mg base CX0 1 f fd ["self", "sender", "receiver"] (spMsg c) := by
  refine F.ok scMs (fun vs H Q E h => ?_) (fun cdv A outer s H vs Q E hr h => ?_)
  · obtain ⟨n, g, M, i, r, rfl, _⟩ := h
    rfl
  · obtain ⟨n, g, M, i, r, rfl, hN, hr0, k⟩ := h
    have hu := hu_of hr
    obtain ⟨Z, q⟩ := hN.ex
    have hn := q.at_n
    refine ⟨_, (pss_cons (ps_set (i := 3) scMs.nd rfl (Or.inl rfl) (pe_fld (pv 0) rfl))
        (pss_cons (ps_if (PW.pt (pw_and (pt_val (pe_callB call_isi (by rfl) B.isi PyProof.Rows.boot_isinstance (pa_cons (pv 1) (pa_cons (pe_bltn (v := .ty "str") (by rfl) B.str (by decide +kernel) rfl) pa_nil)))) (pw_and1 (pt_val (pe_callB call_isi (by rfl) B.isi PyProof.Rows.boot_isinstance (pa_cons (pv 2) (pa_cons (pe_bltn (v := .ty "str") (by rfl) B.str (by decide +kernel) rfl) pa_nil))))))) (pss_cons (ps_if (PW.pt (pw_and (pt_cmp (pc_din hu (pv 2) (pv 3))) (pw_and1 (pt_cmpR op_eq (pe_fld (pe_dget hu (pv 3) (pv 2) (fun _ _ => rfl)) rfl) (pv 1) (nomark _))))) (pss_one (ps_ret (pe_callTy call_list_of (by rfl) B.list (by decide +kernel) (pa_cons (pe_fld (pe_dget hu (pv 3) (pv 2) (fun _ _ => rfl)) rfl) pa_nil)))) pss_nil)
        (pss_one (ps_if (PW.pt (pw_and (pt_cmp (pc_din hu (pv 1) (pv 3))) (pw_and1 (pt_cmpR op_eq (pe_fld (pe_dget hu (pv 3) (pv 1) (fun _ _ => rfl)) rfl) (pv 2) (nomark _))))) (pss_one ps_never) pss_nil))) pss_nil)
        (pss_one ps_never))), ?_⟩
    obtain ⟨y, hy, hry⟩ := pr_get' q.r.rows hr0
    have hym := List.mem_of_getElem? hy
    have hv := q.rowV hym
    have hrow := RowH.of q.h hym
    rw [hry.child] at hv
    refine ⟨_, rfl, n, c.N, _, _, _, rfl, hn, T.cl, T.f_rows, rfl, ?_⟩
    refine ⟨_, rfl, _, _, _, _, true, rfl, .ty _, .base (.str _), kit_ty (by decide +kernel), _, rfl, iteT ?_⟩
    refine ⟨_, rfl, _, _, _, _, true, rfl, .ty _, .base (.str _), kit_ty (by decide +kernel), _, rfl, iteT ?_⟩
    have hg : DGet H Z.rd (.str r.child) (some (.ref y.ra)) := .inl ⟨_, Sum.inr r.child, .inl (q.h.at_net 2), rfl, hv.symm⟩
    have hi := hrow.i
    refine ⟨_, rfl, _, rfl, Z.rd, _, rfl, hg, _, rfl, iteT ?_⟩
    refine ⟨_, rfl, _, rfl, Z.rd, _, rfl, hg, y.ra, c.E, _, _, _, rfl, hi, TE.cl, TE.above, rfl, _, rfl, rfl, _, rfl, ?_⟩
    rw [hry.above, decide_eq_true rfl]
    refine iteT ?_
    exact ⟨_, rfl, _, rfl, Z.rd, _, rfl, hg, y.ra, c.E, _, _, _, rfl, hi, TE.cl, TE.down, rfl, y.dq, _, rfl, .inl (SqL.of hrow.dq), fun p hp => k p _ _ (Same.upd hp) upd_same (hry.down.mono (KT.of (Same.upd hp)))⟩
end
end K02
set_option Elab.async false
set_option linter.all false
set_option maxRecDepth 100000
set_option maxHeartbeats 4000000
/-! tuple(d): the keys of a dict -/
namespace EX
open PySem L2 PySem.Spec PyProof.Rows
section
variable {prog : Program} {w : World} {A : Around} {E : Value → Shared → Prop} {s : Shared} {T : String} {r d : Addr} {n : Nat} {P : Nat → Value → Prop} {OK : Heap → Prop}
theorem collect_src {Q : List Value → Shared → Prop} (K : PySem.W.KdlSrc prog w T r d n P OK) (hh : A.handled = none) (hok : OK s.heap) (hn : n ≤ sizeLine)
    (hQ : ∀ (h' : Heap) (tk : Nat) (acc : Array Value), (∀ b o, s.heap.get? b = some o → h'.get? b = some o) → ItemsOf P acc n → Q acc.toList { s with heap := h', toks := tk }) :
    wpAny (model prog w) A (collect (.ref r)) Q E s := by
  have hlt := K.there _ hok
  unfold collect
  refine wpAny_bind (wpAny_runValue (codeAny_builtin F.entry_proto_collect ?_))
  rw [Around.under_plainId F.plain_proto_collect _]
  show wpAny _ A.in1 (newList [] >>= fun l => again (.builtin "list.__iadd__" ⟨[l, .ref r], []⟩)) _ _ s
  refine wpAny_bind (wpAny_newObj_type ?_)
  refine wpAny_pure ⟨plainId_quiet F.plain_list_iadd _, codeAny_builtin F.entry_list_iadd ?_⟩
  rw [Around.under_plainId F.plain_list_iadd _]
  show wpAny _ A.in1 (Builtin.List.listExtendWith (.ref s.heap.objs.size) (.ref r) (.ref s.heap.objs.size)) _ _ _
  have hS : (s.heap.push { cls := .type "list", data := .seq ([] : List Value).toArray }).get? s.heap.objs.size = some { cls := .type "list", data := .seq #[] 0 } := Heap.get?_push_size _ rfl
  refine wpAny_mono (PySem.W.kdl_extend (A := A) (R := fun rr s' => rr = .ok (.ret (.ref s.heap.objs.size)) ∧ ∃ (h' : Heap) (tk : Nat) (acc : Array Value) (c' : Nat), s' = { s with heap := h', toks := tk } ∧
      (∀ b o, s.heap.get? b = some o → h'.get? b = some o) ∧ h'.get? s.heap.objs.size = some { cls := .type "list", dict := none, data := .seq acc c', slots := #[] } ∧ ItemsOf P acc n)
    (s := { s with heap := s.heap.push { cls := .type "list", data := .seq ([] : List Value).toArray } }) K hh (K.keep _ _ hok fun b _ o e => Heap.get?_push_of_some _ e) _ (Nat.ne_of_gt hlt.1) (Nat.ne_of_gt hlt.2) _ 0 hS
    (fun h' tk acc c' hk e hi => ⟨rfl, h', tk, acc, c', rfl, fun b o q => hk b o (Nat.ne_of_lt (Heap.lt_size q)) (Heap.get?_push_of_some _ q), e, hi⟩) hn) (fun fin s' h => ?_) (fun e s' h => ?_)
  · cases fin with
    | done f =>
      obtain ⟨e, h', tk, acc, c', rfl, hk, hS', hi⟩ := h
      cases e
      show wpAny _ A (load s.heap.objs.size >>= _) _ _ _
      exact wpAny_bind (wpAny_load hS' (wpAny_pure (hQ h' tk acc hk hi)))
    | again c' =>
      refine ⟨h.1, codeAny_mono h.2 fun rr s'' hr' => ?_⟩
      obtain ⟨rfl, h', tk, acc, c', rfl, hk, hS', hi⟩ := hr'
      show wpAny _ A (load s.heap.objs.size >>= _) _ _ _
      exact wpAny_bind (wpAny_load hS' (wpAny_pure (hQ h' tk acc hk hi)))
  · exact absurd h.1 (by simp)
theorem code_tuple_new_src {Q₁ : Value → Shared → Prop} (K : PySem.W.KdlSrc prog w T r d n P OK) (hh : A.handled = none) (hok : OK s.heap) (hn : n ≤ sizeLine)
    (h : ∀ (h' : Heap) (tk : Nat) (acc : Array Value), (∀ b o, s.heap.get? b = some o → h'.get? b = some o) → ItemsOf P acc n →
      Q₁ (.ref h'.objs.size) { s with heap := h'.push { cls := .type "tuple", data := .seq acc }, toks := tk }) :
    codeAny (model prog w) A (.call (.builtin "tuple.__new__") ⟨[.type "tuple", .ref r], []⟩) (wants Q₁ E) s := by
  refine codeAny_of_tree ?_
  show wpAny _ A.in1 (do checkBuiltinCall "tuple.__new__" ⟨[.type "tuple", .ref r], []⟩; again (.builtin "tuple.__new__" ⟨[.type "tuple", .ref r], []⟩)) _ _ s
  refine wpAny_bind (wpAny_of_eq (F.newCall_tuple_1 _) (wpAny_pure ⟨plainId_quiet F.plain_tuple_new _, codeAny_builtin F.entry_tuple_new ?_⟩))
  rw [Around.under_plainId F.plain_tuple_new _]
  have hsub := sub_tuple_self
  have hinit := init_tuple_lookup
  have hmh := madeHere_tuple
  have hTI : s.TypeIs (.ref r) T := K.type s hok
  have n1 := K.notTuple
  have hh1 : A.in1.handled = none := hh
  wp_walk using wpAny_typeOf hTI, collect_src (A := A.in1) K hh1 hok hn
  intro h' tk acc hk hacc
  show wpAny _ _ (Builtin.Tuple.tupleExact acc.toList.toArray >>= fun v => ret v) _ _ _
  unfold Builtin.Tuple.tupleExact
  refine wpAny_bind (wpAny_newObj_type ?_ (by show acc.toList.toArray.size ≤ sizeLine; simp only [Array.toArray_toList]; rw [hacc.1]; exact hn))
  refine wpAny_pure ?_
  have e : acc.toList.toArray = acc := by simp
  rw [e]
  exact h h' tk acc hk hacc
theorem call_tuple_src {Q : Value → Shared → Prop} (K : PySem.W.KdlSrc prog w T r d n P OK) (hh : A.handled = none) (hok : OK s.heap) (hn : n ≤ sizeLine)
    (hQ : ∀ (h' : Heap) (tk : Nat) (acc : Array Value), (∀ b o, s.heap.get? b = some o → h'.get? b = some o) → ItemsOf P acc n →
      Q (.ref h'.objs.size) { s with heap := h'.push { cls := .type "tuple", data := .seq acc }, toks := tk }) :
    wpAny (model prog w) A (call (.type "tuple") [.ref r]) Q E s := by
  refine callType_codes (Q₁ := fun obj s₁ => s₁.TypeIs obj "tuple" ∧ Q obj s₁) F.called_tuple (F.typeCall_tuple_1 _) F.entry_object_init
    (code_tuple_new_src (A := A.in1) K hh hok hn fun h' tk acc hk hacc => ⟨⟨_, Heap.get?_push_size _ rfl, rfl⟩, hQ h' tk acc hk hacc⟩) fun obj s₁ h₁ => ?_
  exact ⟨h₁.1, F.args_object_init_2 obj _, object_init_meets F.called_tuple.init.lookup F.called_tuple.made (by decide) prog w A.in1 _ s₁ ⟨h₁.1, rfl, h₁.2⟩⟩
end
section
variable {X : Cx}
theorem call_tupleD (hcalm : X.calm = true) : CallR X (.type "tuple") (fun xs H Q => ∃ (a : Addr) (kvs : List (Key × V)), xs = [.ref a] ∧ Rd H a (.dK kvs) ∧ ∀ p, H p = none → Q (.ref p) (upd H p (.tup (kvs.map fun kv => kV kv.1)))) := by
  intro pins s σ H xs us Q I r q
  obtain ⟨a, kvs, ex, hd, q⟩ := q
  subst ex
  obtain ⟨u, eu, rx⟩ := vals1 r
  subst eu
  cases rx
  obtain ⟨z, lo, vs, rel, dd⟩ := dk_rd I.hok hd
  obtain ⟨ep, hat⟩ := dd.dictAt
  have ek : (kvs.map fun kv => kV kv.1) = vs.map fun p => kV p.1 := by
    have e := congrArg (List.map kV) rel.keys
    rw [List.map_map, List.map_map] at e
    exact e
  refine call_tuple_src (PySem.W.kdl_dict (knd := mixKind X.prog X.w) (kvs := vs) (ep := ep) lo) (I.ok.hd hcalm) hat (by rw [← rel.length]; exact z) fun h' tk acc hk hacc => ?_
  have hv : Vals (vs.map fun p => kV p.1) acc.toList := keys_at (by rw [Array.length_toList]; exact hacc.1) fun j v e => hacc.2 j v (by rw [← Array.getElem?_toList]; exact e)
  have I1 : Inv X pins σ H { s with heap := h', toks := tk } := I.kept (t' := tk) hk
  have I2 : Inv X pins σ (upd H h'.objs.size (.tup (kvs.map fun kv => kV kv.1))) { s with heap := h'.push { cls := .type "tuple", data := .seq acc }, toks := tk } :=
    I1.laid (t' := tk) (fun b o e => Heap.get?_push_of_some _ e) (Nat.le_refl _) (show ObjOk X.prog X.w _ _ _ (.tup (kvs.map fun kv => kV kv.1)) from ⟨by rw [List.length_map]; exact z, acc.toList, by rw [ek]; exact hv, IsTup.new _ _⟩)
  exact ⟨.ref h'.objs.size, _, I2, rfl, q _ (I1.hok.fresh (Nat.le_refl _))⟩
end
end EX
set_option Elab.async false
set_option linter.all false
set_option maxRecDepth 100000
set_option maxHeartbeats 4000000
/-! changes of a net's parts -/
namespace NZ
open PySem L2 EX PyProof.Rows
section
variable {α β γ : Type} {F : α → β → Prop}
theorem pr_snoc : ∀ {l : List α} {m : List β} {a : α} {b : β}, Paired F (l ++ [a]) (m ++ [b]) → Paired F l m ∧ F a b
  | [], [], _, _, .cons h .nil => ⟨.nil, h⟩
  | [], [_], _, _, .cons _ t => nomatch t
  | [], _ :: _ :: _, _, _, .cons _ t => nomatch t
  | [_], [], _, _, .cons _ t => nomatch t
  | _ :: _ :: _, [], _, _, .cons _ t => nomatch t
  | _ :: _, _ :: _, _, _, .cons h t => ⟨.cons h (pr_snoc t).1, (pr_snoc t).2⟩
theorem pr_set : ∀ {l : List α} {m : List β} {i : Nat} {a : α} {b : β}, Paired F l m → F a b → Paired F (l.set i a) (m.set i b)
  | _, _, _, _, _, .nil, _ => .nil
  | _, _, 0, _, _, .cons _ t, h => .cons h t
  | _, _, _ + 1, _, _, .cons h0 t, h => .cons h0 (pr_set t h)
theorem pr_mk {f : γ → α} {h : γ → β} (w : ∀ x, F (f x) (h x)) : ∀ l : List γ, Paired F (l.map f) (l.map h)
  | [] => .nil
  | _ :: r => .cons (w _) (pr_mk w r)
theorem mix_get {js : List γ} {f h : γ → β} {i : Nat} {j : γ} (e : js[i]? = some j) : ((js.take i).map f ++ (js.drop i).map h)[i]? = some (h j) := by
  obtain ⟨hl, e2⟩ := List.getElem?_eq_some_iff.mp e
  rw [List.getElem?_append_right (by rw [List.length_map, List.length_take]; omega), List.length_map, List.length_take, Nat.min_eq_left (Nat.le_of_lt hl), Nat.sub_self, List.drop_eq_getElem_cons hl, e2]
  rfl
theorem mix_set {js : List γ} {f h : γ → β} {i : Nat} {j : γ} (e : js[i]? = some j) : ((js.take i).map f ++ (js.drop i).map h).set i (f j) = (js.take (i + 1)).map f ++ (js.drop (i + 1)).map h := by
  obtain ⟨hl, e2⟩ := List.getElem?_eq_some_iff.mp e
  rw [List.set_append_right _ _ (by rw [List.length_map, List.length_take]; omega), List.length_map, List.length_take, Nat.min_eq_left (Nat.le_of_lt hl), Nat.sub_self, List.drop_eq_getElem_cons hl, e2, List.take_add_one, e, List.map_append, List.append_assoc]
  rfl
end
theorem rep_none {v : V} {s : Str} : ∀ {l : List (Str × V)}, s ∉ l.map (·.1) → ((strK l).map fun kv => if kv.1 = Sum.inr s then (kv.1, v) else kv) = strK l
  | [], _ => rfl
  | q :: r, h => by
    have hne : (Sum.inr q.1 : Key) ≠ Sum.inr s := fun z => h (List.mem_map.mpr ⟨_, .head _, Sum.inr.inj z⟩)
    show (if (Sum.inr q.1 : Key) = Sum.inr s then _ else _) :: List.map _ (strK r) = _
    rw [if_neg hne, rep_none (l := r) fun z => h (.tail _ z)]
    rfl
theorem rep_set {v0 v : V} {s : Str} : ∀ {l : List (Str × V)} {i : Nat}, (l.map (·.1)).Nodup → l[i]? = some (s, v0) → ((strK l).map fun kv => if kv.1 = Sum.inr s then (kv.1, v) else kv) = strK (l.set i (s, v))
  | [], _, _, e => by cases e
  | q :: r, 0, nd, e => by
    cases e
    obtain ⟨n1, n2⟩ := List.nodup_cons.mp nd
    show (if (Sum.inr s : Key) = Sum.inr s then _ else _) :: List.map _ (strK r) = _
    rw [if_pos rfl, rep_none n1]
    rfl
  | q :: r, i + 1, nd, e => by
    obtain ⟨n1, n2⟩ := List.nodup_cons.mp nd
    have hne : (Sum.inr q.1 : Key) ≠ Sum.inr s := fun z => n1 (List.mem_map.mpr ⟨_, List.mem_of_getElem? e, (Sum.inr.inj z).symm⟩)
    show (if (Sum.inr q.1 : Key) = Sum.inr s then _ else _) :: List.map _ (strK r) = _
    rw [if_neg hne, rep_set (l := r) (i := i) n2 e]
    rfl
theorem strK_set {v0 v : V} {s : Str} {l : List (Str × V)} {i : Nat} (nd : (l.map (·.1)).Nodup) (e : l[i]? = some (s, v0)) : putK (strK l) (Sum.inr s) v = strK (l.set i (s, v)) := by
  unfold putK
  have h : ((strK l).any fun kv => decide (kv.1 = (Sum.inr s : Key))) = true := List.any_eq_true.mpr ⟨(Sum.inr s, v0), List.mem_map.mpr ⟨_, List.mem_of_getElem? e, rfl⟩, by simp⟩
  rw [if_pos h]
  exact rep_set nd e
theorem set_keys {v0 v : V} {s : Str} : ∀ {l : List (Str × V)} {i : Nat}, l[i]? = some (s, v0) → (l.set i (s, v)).map (·.1) = l.map (·.1)
  | [], _, e => by cases e
  | q :: r, 0, e => by
    cases e
    rfl
  | q :: r, i + 1, e => congrArg (q.1 :: ·) (set_keys (l := r) (i := i) e)
/-- the cells of a node, opened -/
theorem td_cell {H : Hp} {v : V} {c : CellM} (h : Td H v c.d) : ∃ t q a, v = .ref t ∧ H t = some (.tup [.ref q, .int c.alw, .int c.told, a]) ∧ H q = some (.tup [.int c.num, .int c.val]) ∧ Td H a (optD c.asked) := by
  unfold CellM.d copyD at h
  cases h with
  | tup h1 t1 =>
    cases t1 with
    | cons a t2 =>
      cases t2 with
      | cons b t3 =>
        cases t3 with
        | cons d t4 =>
          cases t4 with
          | cons e t5 =>
            cases t5
            cases b
            cases d
            cases a with
            | tup h2 u1 =>
              cases u1 with
              | cons a2 u2 =>
                cases u2 with
                | cons b2 u3 =>
                  cases u3
                  cases a2
                  cases b2
                  exact ⟨_, _, _, rfl, h1, h2, e⟩
theorem td_two {H : Hp} {v : V} {a b : Int} (h : Td H v (.tuple [.int a, .int b])) : ∃ t, v = .ref t ∧ H t = some (.tup [.int a, .int b]) := by
  cases h with
  | tup h1 t1 =>
    cases t1 with
    | cons a t2 =>
      cases t2 with
      | cons b t3 =>
        cases t3
        cases a
        cases b
        exact ⟨_, rfl, h1⟩
section
variable {c : Cs} {H : Hp} {Z : NetZ} {xs ys : List RowZ} {y : RowZ}
theorem row_cells (h : NetH c H Z) (hz : Z.rows = xs ++ y :: ys) (cs : List (Str × V)) : NetH c (upd H y.cd (.dK (strK cs))) { Z with rows := xs ++ { y with cells := cs } :: ys } := by
  have e : rowsK (xs ++ { y with cells := cs } :: ys) = rowsK Z.rows := by
    rw [hz]
    simp [rowsK]
  refine h.put_row (z' := { Z with rows := xs ++ { y with cells := cs } :: ys }) (y' := { y with cells := cs }) (a := [(y.ra, .ins c.E y.dx (rowF y))]) (b := [(y.dq, .lst y.down), (y.uq, .lst y.up)]) hz rfl rfl rfl ?_ rfl
  unfold netO
  simp only [e]
theorem row_down (h : NetH c H Z) (hz : Z.rows = xs ++ y :: ys) (ds : List V) : NetH c (upd H y.dq (.lst ds)) { Z with rows := xs ++ { y with down := ds } :: ys } := by
  have e : rowsK (xs ++ { y with down := ds } :: ys) = rowsK Z.rows := by
    rw [hz]
    simp [rowsK]
  refine h.put_row (z' := { Z with rows := xs ++ { y with down := ds } :: ys }) (y' := { y with down := ds }) (a := [(y.ra, .ins c.E y.dx (rowF y)), (y.cd, .dK (strK y.cells))]) (b := [(y.uq, .lst y.up)]) hz rfl rfl rfl ?_ rfl
  unfold netO
  simp only [e]
theorem row_up (h : NetH c H Z) (hz : Z.rows = xs ++ y :: ys) (ds : List V) : NetH c (upd H y.uq (.lst ds)) { Z with rows := xs ++ { y with up := ds } :: ys } := by
  have e : rowsK (xs ++ { y with up := ds } :: ys) = rowsK Z.rows := by
    rw [hz]
    simp [rowsK]
  refine h.put_row (z' := { Z with rows := xs ++ { y with up := ds } :: ys }) (y' := { y with up := ds }) (a := [(y.ra, .ins c.E y.dx (rowF y)), (y.cd, .dK (strK y.cells)), (y.dq, .lst y.down)]) (b := []) hz rfl rfl rfl ?_ rfl
  unfold netO
  simp only [e]
end
section
variable {c : Cs} {H : Hp} {Z : NetZ} {xs ys : List NodeZ} {y : NodeZ}
theorem node_cells (h : NetH c H Z) (hz : Z.nodes = xs ++ y :: ys) (cs : List (Str × V)) : NetH c (upd H y.cd (.dK (strK cs))) { Z with nodes := xs ++ { y with cells := cs } :: ys } := by
  have e : nodesK (xs ++ { y with cells := cs } :: ys) = nodesK Z.nodes := by
    rw [hz]
    simp [nodesK]
  refine h.put_node (z' := { Z with nodes := xs ++ { y with cells := cs } :: ys }) (y' := { y with cells := cs }) (a := [(y.na, .ins c.C y.dx (nodeF Z.n y))]) (b := [(y.en, .dK (refK y.kids))]) hz rfl rfl rfl ?_ rfl rfl
  unfold netO
  simp only [e]
theorem node_kids (h : NetH c H Z) (hz : Z.nodes = xs ++ y :: ys) (ks : List (Str × Addr)) : NetH c (upd H y.en (.dK (refK ks))) { Z with nodes := xs ++ { y with kids := ks } :: ys } := by
  have e : nodesK (xs ++ { y with kids := ks } :: ys) = nodesK Z.nodes := by
    rw [hz]
    simp [nodesK]
  refine h.put_node (z' := { Z with nodes := xs ++ { y with kids := ks } :: ys }) (y' := { y with kids := ks }) (a := [(y.na, .ins c.C y.dx (nodeF Z.n y)), (y.cd, .dK (strK y.cells))]) (b := []) hz rfl rfl rfl ?_ rfl rfl
  unfold netO
  simp only [e]
theorem node_kt (h : NetH c H Z) (hz : Z.nodes = xs ++ y :: ys) (kt : V) : NetH c (upd H y.na (.ins c.C y.dx (nodeF Z.n { y with kt := kt }))) { Z with nodes := xs ++ { y with kt := kt } :: ys } := by
  have e : nodesK (xs ++ { y with kt := kt } :: ys) = nodesK Z.nodes := by
    rw [hz]
    simp [nodesK]
  refine h.put_node (z' := { Z with nodes := xs ++ { y with kt := kt } :: ys }) (y' := { y with kt := kt }) (a := []) (b := [(y.cd, .dK (strK y.cells)), (y.en, .dK (refK y.kids))]) hz rfl rfl rfl ?_ rfl rfl
  unfold netO
  simp only [e]
end
theorem Holds.add1 {H : Hp} {l : List (Addr × HO)} {p : Addr} {o : HO} (h : Holds H l) (n : p ∉ l.map (·.1)) (e : H p = some o) : Holds H (l ++ [(p, o)]) := by
  refine ⟨?_, fun x hx => (List.mem_append.mp hx).elim (h.at_ x) fun hx => by rw [List.mem_singleton.mp hx]; exact e⟩
  rw [List.map_append, List.nodup_append]
  refine ⟨h.nd, by simp, fun a ha b hb z => n ?_⟩
  rw [List.map_cons, List.map_nil, List.mem_singleton] at hb
  have hb : b = p := hb
  rw [← hb, ← z]
  exact ha
theorem _root_.EX.Keeps.updN {S : List Addr} {H H1 : Hp} {D : Addr} {o : HO} (k : Keeps S H H1) (h : H D = none) : Keeps S H (upd H1 D o) := fun b u n e => by
  rw [upd_ne (fun z => by rw [z, h] at e; cases e)]
  exact k b u n e
end NZ
namespace NZ
open PySem L2 EX PyProof.Rows
theorem perm_a {α : Type} {A B R : List α} {x1 x2 x3 : α} : (A ++ ((B ++ [x1, x2, x3]) ++ R)).Perm ((A ++ (B ++ R)) ++ [x2] ++ [x1, x3]) := by
  have h1 : ((B ++ [x1, x2, x3]) ++ R).Perm ((B ++ R) ++ [x1, x2, x3]) := by
    rw [List.append_assoc, List.append_assoc]
    exact List.Perm.append_left B List.perm_append_comm
  have h2 : ((B ++ R) ++ [x1, x2, x3]).Perm ((B ++ R) ++ [x2, x1, x3]) := List.Perm.append_left _ (List.Perm.swap _ _ _)
  have h3 := List.Perm.append_left A (h1.trans h2)
  refine h3.trans (List.Perm.of_eq ?_)
  simp
abbrev strV' (l : List Str) : List V := l.map V.str
theorem kV_nodes (l : List NodeZ) : ((nodesK l).map fun kv => kV kv.1) = strV' (l.map (·.label)) := by
  rw [List.map_map, strV', List.map_map]
  rfl
end NZ
namespace NZ
open PySem L2 EX PyProof.Rows
theorem NodeR.more {H : Hp} {ix ix' : Ix} (s : ∀ p ∈ ix, p ∈ ix') {z : NodeZ} {m : NodeM} (h : NodeR H ix z m) : NodeR H ix' z m := ⟨h.label, h.above, by
  have hr := h.row
  cases e : m.above with
  | none =>
    rw [e] at hr
    exact hr
  | some a =>
    rw [e] at hr
    obtain ⟨ra, h1, h2⟩ := hr
    exact ⟨ra, s _ h1, h2⟩, h.cells, h.kids, fun p hp => s _ (h.kin p hp), h.kt⟩
theorem refK_none {cl : List (Str × Addr)} {s : Str} (h : s ∉ cl.map (·.1)) : valV (refK cl) (Sum.inr s) = none := by
  induction cl with
  | nil => rfl
  | cons q r ih =>
    have h1 : ¬ q.1 = s := fun z => h (by rw [List.map_cons, z]; exact .head _)
    exact (valV_neg (fun z => h1 (Sum.inr.inj z))).trans (ih fun z => h (.tail _ z))
theorem refK_put {cl : List (Str × Addr)} {s : Str} {v : Addr} (h : s ∉ cl.map (·.1)) : putK (refK cl) (Sum.inr s) (.ref v) = refK (cl ++ [(s, v)]) := by
  rw [putK_new _ (refK_none h)]
  show List.map _ cl ++ [(Sum.inr s, V.ref v)] = List.map _ (cl ++ [(s, v)])
  rw [List.map_append]
  rfl
theorem rowsK_put {l : List RowZ} {y : RowZ} (h : y.child ∉ l.map (·.child)) : putK (rowsK l) (Sum.inr y.child) (.ref y.ra) = rowsK (l ++ [y]) := by
  rw [putK_new _ (rowsK_none h)]
  show List.map _ l ++ [(Sum.inr y.child, V.ref y.ra)] = List.map _ (l ++ [y])
  rw [List.map_append]
  rfl
theorem kV_kids (l : List (Str × Addr)) : (List.map (fun kv : Key × V => kV kv.1) (refK l)) = (l.map (·.1)).map V.str := by
  rw [List.map_map, List.map_map]
  rfl
theorem holds4 {H : Hp} {a b d e : Addr × HO} (h1 : H a.1 = some a.2) (h2 : H b.1 = some b.2) (h3 : H d.1 = some d.2) (h4 : H e.1 = some e.2) (nd : ([a, b, d, e].map (·.1)).Nodup) : Holds H [a, b, d, e] := ⟨nd, fun x hx => by
  simp only [List.mem_cons, List.not_mem_nil, or_false] at hx
  rcases hx with rfl | rfl | rfl | rfl
  · exact h1
  · exact h2
  · exact h3
  · exact h4⟩
theorem set_mid {α : Type} {l : List α} {i : Nat} {a b : α} (h : l[i]? = some a) : l.set i b = l.take i ++ b :: l.drop (i + 1) := by
  obtain ⟨hl, _⟩ := List.getElem?_eq_some_iff.mp h
  rw [List.set_eq_take_append_cons_drop, if_pos hl]
end NZ
namespace NZ
open PySem L2 EX PyProof.Rows
theorem Holds.join {H : Hp} {l m : List (Addr × HO)} (a : Holds H l) (b : Holds H m) (d : ∀ x ∈ l, ∀ y ∈ m, x.1 ≠ y.1) : Holds H (l ++ m) := by
  refine ⟨?_, fun x hx => (List.mem_append.mp hx).elim (a.at_ x) (b.at_ x)⟩
  rw [List.map_append, List.nodup_append]
  refine ⟨a.nd, b.nd, fun p hp q hq e => ?_⟩
  obtain ⟨x, hx, rfl⟩ := List.mem_map.mp hp
  obtain ⟨y, hy, rfl⟩ := List.mem_map.mp hq
  exact d x hx y hy e
theorem set_map_same {α β : Type} {f : α → β} {a b : α} (e : f b = f a) : ∀ {l : List α} {i : Nat}, l[i]? = some a → (l.set i b).map f = l.map f
  | [], _, h => by cases h
  | q :: r, 0, h => by
    cases h
    show f b :: _ = f a :: _
    rw [e]
  | q :: r, i + 1, h => congrArg (f q :: ·) (set_map_same (l := r) (i := i) e h)
end NZ
namespace NZ
open PySem L2 EX PyProof.Rows
/-- a message to the children that are named -/
def sendR (ks : List Str) (d : PyData) (r : RowM) : RowM := if r.child ∈ ks ∧ r.there = true then { r with down := r.down ++ [d] } else r
theorem sendR_child {ks : List Str} {d : PyData} {r : RowM} : (sendR ks d r).child = r.child := by
  unfold sendR
  split <;> rfl
theorem sendR_cells {ks : List Str} {d : PyData} {r : RowM} : (sendR ks d r).cells = r.cells := by
  unfold sendR
  split <;> rfl
theorem sendR_out {ks : List Str} {d : PyData} {r : RowM} (h : r.child ∉ ks) : sendR ks d r = r := if_neg fun z => h z.1
theorem send_childs {ks : List Str} {d : PyData} (l : List RowM) : (l.map (sendR ks d)).map (·.child) = l.map (·.child) := by
  rw [List.map_map]
  exact List.map_congr_left fun r _ => sendR_child
theorem take_mem {α : Type} {l : List α} {i : Nat} {a x : α} (h : l[i]? = some a) : x ∈ l.take (i + 1) ↔ x ∈ l.take i ∨ x = a := by
  rw [List.take_add_one, h, List.mem_append]
  simp
theorem send_step {rows : List RowM} (nd : (rows.map (·.child)).Nodup) {ks : List Str} {i j : Nat} {r : RowM} {d : PyData} (hk : ks[i]? = some r.child) (knd : ks.Nodup) (hr : rows[j]? = some r) :
    rows.map (sendR (ks.take (i + 1)) d) = (rows.map (sendR (ks.take i) d)).set j (if r.there = true then { r with down := r.down ++ [d] } else r) := by
  apply List.ext_getElem?
  intro a
  rw [List.getElem?_map, List.getElem?_set, List.getElem?_map, List.length_map]
  obtain ⟨hl, er⟩ := List.getElem?_eq_some_iff.mp hr
  by_cases h : j = a
  · subst h
    rw [if_pos rfl, if_pos hl, hr]
    show some (sendR _ d r) = _
    unfold sendR
    have hm : r.child ∈ ks.take (i + 1) := (take_mem hk).mpr (.inr rfl)
    by_cases ht : r.there = true
    · rw [if_pos ⟨hm, ht⟩, if_pos ht]
    · rw [if_neg fun z => ht z.2, if_neg ht]
  · rw [if_neg h]
    cases e : rows[a]? with
    | none => rfl
    | some q =>
      have hq : q.child ≠ r.child := fun z => by
        obtain ⟨hl2, eq⟩ := List.getElem?_eq_some_iff.mp e
        have := (List.getElem_inj (h₀ := by rw [List.length_map]; exact hl) (h₁ := by rw [List.length_map]; exact hl2) nd).mp (by rw [List.getElem_map, List.getElem_map, er, eq, z])
        exact h this
      show some (sendR _ d q) = some (sendR _ d q)
      congr 1
      unfold sendR
      have : q.child ∈ ks.take (i + 1) ↔ q.child ∈ ks.take i := (take_mem hk).trans ⟨fun z => z.elim id fun z => absurd z hq, .inl⟩
      simp only [this]
theorem upd_swap {H : Hp} {a b : Addr} {o u : HO} (h : a ≠ b) : upd (upd H a o) b u = upd (upd H b u) a o := by
  funext x
  by_cases ha : x = a
  · subst ha
    rw [upd_ne h, upd_same, upd_same]
  · by_cases hb : x = b
    · subst hb
      rw [upd_same, upd_ne ha, upd_same]
    · rw [upd_ne hb, upd_ne ha, upd_ne ha, upd_ne hb]
end NZ
set_option Elab.async false
set_option linter.all false
set_option maxRecDepth 100000
set_option maxHeartbeats 4000000
namespace K02
open PySem L2 EX PyProof.Rows LamX
open NZ
abbrev sSc : Stmt := top 41
theorem scSc : FnScope ["net", "node", "child", "row", "cells", "key", "number", "value", "granted"] ["net", "node", "child", "row"] (defScope sSc) := ⟨rfl, rfl, rfl, by decide +kernel, rfl, by decide +kernel, by decide +kernel⟩
/-- a word with the copy that its parent has, and the allowance given -/
abbrev Js : Type := List (Str × CellM × Int)
def msgD (j : Str × CellM × Int) : PyData := .tuple [.str "copy", .str j.1, .int j.2.1.num, .int j.2.1.val, .int j.2.2]
def row0 (up ch : Str) (js : Js) : RowM := { child := ch, above := up, cells := js.map fun j => (j.1, 0, j.2.2), rais := [], there := true, crashed := false, down := [], up := [] }
def row1 (up ch : Str) (js : Js) : RowM := { child := ch, above := up, cells := js.map fun j => (j.1, j.2.1.num, j.2.2), rais := [], there := true, crashed := false, down := js.map msgD, up := [] }
def node1 (up ch : Str) (ws : List Str) : NodeM := { label := ch, above := some up, cells := ws.map fun w => (w, none), kids := [] }
def startM (M : NetM) (rs : List RowM) (up ch : Str) (js : Js) : NetM := { M with nodes := M.nodes ++ [node1 up ch M.words], rows := rs ++ [row1 up ch js] }
/-- what a deed keeps -/
structure Went (H H' : Hp) (g g' : Sg) : Prop where
  k : Keeps g.S H H'
  s : ∀ q ∈ g'.S, q ∈ g.S ∨ H q = none
  nx : ∀ x ∈ g.nx, x ∈ g'.nx
def spStart (c : Cs) : Sp := fun vs H Q _ => ∃ (n na : Addr) (ch : Str) (g : Sg) (M : NetM) (Z : NetZ) (i : Nat) (z : NodeZ) (m : NodeM) (zs : List RowZ) (y : RowZ) (rs : List RowM) (js : Js), vs = [.ref n, .ref na, .str ch, .ref y.ra] ∧
  NetQ c H n g M Z ∧ Z.nodes[i]? = some z ∧ z.na = na ∧ M.nodes[i]? = some m ∧ m.cells = (js.map fun j => (j.1, some j.2.1)) ∧ js.map (·.1) = M.words ∧ Z.rows = zs ++ [y] ∧ M.rows = rs ++ [row0 m.label ch js] ∧
  ch ∉ M.nodes.map (·.label) ∧ M.nodes.length < 12 ∧ ∀ H' g', Went H H' g g' → NetA c H' n g' (startM M rs m.label ch js) → Q .non H'
section
variable {P : Program} {w : World} {K : PySem.W.Frag} {mg : Str → Option Value} {base : Heap}
theorem ok_sc {c : Cs} {f : Addr} {fd : FuncData} (F : Fun K "start_child" "start_child" sSc f fd) (B : Bn mg) (T : NetC K c.N) (TC : CacheC K c.C) (TE : EntryC K c.E) (MC : MkAt P w K mg base CX0 1 "Cache" ["self", "home", "label", "above", "row", "cells"] c.C (spCI K c.C)) : FnOk P w K mg base CX0 3 f fd ["net", "node", "child", "row"] (spStart c) := by
  refine F.ok scSc (fun vs H Q E h => ?_) (fun cdv A outer s H vs Q E hr h => ?_)
  · obtain ⟨n, na, ch, g, M, Z, i, z, m, zs, y, rs, js, rfl, _⟩ := h
    rfl
  · obtain ⟨n, na, ch, g, M, Z, i0, z, m, zs, y, rs, js, rfl, q, hz, rfl, hm, hmc, hjw, hzr, hMr, hch, h12, k⟩ := h
    have hu := hu_of hr
    have hzm := List.mem_of_getElem? hz
    obtain ⟨m', hm', zr⟩ := pr_get q.r.nodes hz
    cases hm.symm.trans hm'
    have hn := q.at_n
    have nt := q.notup
    have wnd := q.w.wnd
    have w4 := q.w.w4
    have jnd : (js.map (·.1)).Nodup := by rw [hjw]; exact wnd
    have j4 : js.length ≤ 4 := by
      have e := congrArg List.length hjw
      rw [List.length_map] at e
      omega
    have hrows := q.r.rows
    rw [hzr, hMr] at hrows
    obtain ⟨hrs, hy⟩ := pr_snoc hrows
    obtain ⟨tw, xs, etw, htw, hxs⟩ := td_tup q.r.tw
    rw [td_strsV hxs] at htw
    have hps : ∀ p ∈ (objs c Z).map (·.1), p ∈ g.S := fun p hp => by
      rw [← q.ps]
      exact hp
    have pn : n ∈ g.S := q.mem_n
    have prow : ∀ x ∈ rowO c y, x.1 ∈ g.S := fun x hx => hps _ (List.mem_map.mpr ⟨x, mem_row (by rw [hzr]; exact List.mem_append_right _ (.head _)) hx, rfl⟩)
    refine ⟨_, (pss_cons (ps_set (i := 4) scSc.nd rfl (Or.inl rfl) pe_dnewK)
        (pss_cons (ps_for PassesOwn.never rfl (pi_tup (pe_fld (pv 0) rfl)) (pg_name (i := 5) scSc.nd rfl (Or.inl rfl)) (pss_cons (ps_asg (pe_ix ix_tup (pe_dget hu (pe_fld (pv 1) rfl) (pv 5) (fun _ _ => rfl)) pe_int (fun _ _ => rfl)) (pg_tup rfl (pgs_cons (pg_name (i := 6) scSc.nd rfl (Or.inl rfl)) (pgs_cons (pg_name (i := 7) scSc.nd rfl (Or.inl rfl)) pgs_nil))))
        (pss_cons (ps_set (i := 8) scSc.nd rfl (Or.inl rfl) (pe_ix ix_tup (pe_dget hu (pe_fld (pv 3) rfl) (pv 5) (fun _ _ => rfl)) pe_int (fun _ _ => rfl)))
        (pss_cons (ps_dput hu (pe_fld (pv 3) rfl) (pv 5) (pe_tup (pa_cons (pv 6) (pa_cons (pv 8) pa_nil))) rfl)
        (pss_cons (ps_expr (pe_bm PySem.F.plainAttrs_list PySem.F.slot_list_append PySem.F.type_list_append mt_append (pe_fld (pv 3) rfl) (pa_cons (pe_tup (pa_cons pe_str (pa_cons (pv 5) (pa_cons (pv 6) (pa_cons (pv 7) (pa_cons (pv 8) pa_nil)))))) pa_nil)))
        (pss_one (ps_dput hu (pv 4) (pv 5) pe_non rfl)))))))
        (pss_cons (ps_dput hu (pe_fld (pv 0) rfl) (pv 2) (pe_mkC MC (hr.mono (by decide)) (pa_cons (pv 0) (pa_cons (pv 2) (pa_cons (pe_fld (pv 1) rfl) (pa_cons (pv 3) (pa_cons (pv 4) pa_nil)))))) rfl)
        (pss_one (ps_fld (pv 0) (pe_callTy (call_tupleD rfl) (by rfl) B.tuple (by decide +kernel) (pa_cons (pe_fld (pv 0) rfl) pa_nil)) rfl))))), ?_⟩
    refine fun D hD => ?_
    refine ⟨_, rfl, n, c.N, _, _, _, rfl, ((Same.upd hD) _ _ hn), T.cl, T.f_words, rfl, tw, etw, ⟨_, SqT.of ((Same.upd hD) _ _ htw)⟩, ?_⟩
    refine for_it (walk_tup (K := K) (a := tw) (xs := strV M.words)) (fun i σ' Hh => ∃ (v5 v6 v7 v8 : Option V) (cs : List (Str × V)) (ds : List V), σ' = [some (.ref n), some (.ref z.na), some (.str ch), some (.ref y.ra), some (.ref D), v5, v6, v7, v8] ∧ Keeps g.S H Hh ∧
      NetH c Hh { Z with rows := zs ++ [{ y with cells := cs, down := ds }] } ∧ Hh D = some (.dK (strK ((js.take i).map fun j => (j.1, V.non)))) ∧
      Paired (fun (p : Str × V) (q : Str × Int × Int) => p.1 = q.1 ∧ Td Hh p.2 (.tuple [.int q.2.1, .int q.2.2])) cs ((js.take i).map (fun j => (j.1, j.2.1.num, j.2.2)) ++ (js.drop i).map (fun j => (j.1, (0 : Int), j.2.2))) ∧ TdAll Hh ds ((js.take i).map msgD)) ?_ (fun i σ' Hh _ z => ?_) ?_ ?_
    · refine ⟨none, none, none, none, y.cells, y.down, rfl, (Keeps.refl _ _).updN hD, ?_, upd_same, ?_, ?_⟩
      · have hq := q.h.same (Same.upd (o := .dK []) hD)
        have e : Z = { Z with rows := zs ++ [{ y with cells := y.cells, down := y.down }] } := by
          rw [← hzr]
        rw [← e]
        exact hq
      · have := hy.cells
        exact pr_imp (fun _ _ w => ⟨w.1, w.2.mono (KT.of (Same.upd hD))⟩) this
      · exact hy.down.mono (KT.of (Same.upd hD))
    · obtain ⟨v5, v6, v7, v8, cs, ds, e, kk, _⟩ := z
      exact SqT.of (KT.keeps kk nt _ _ htw)
    · rintro i x σ' H1 H2 hi ⟨v5, v6, v7, v8, cs, ds, rfl, kk, hN, lD, hcs, hds⟩ ⟨rfl, hx⟩
      obtain ⟨s', rfl, hs⟩ := strV_get hx
      rw [← hjw, List.getElem?_map] at hs
      obtain ⟨j, hj, rfl⟩ := Option.map_eq_some_iff.mp hs
      have kt := KT.keeps kk nt
      -- the parent's cell
      have hcell : m.cells[i]? = some (j.1, some j.2.1) := by rw [hmc, List.getElem?_map, hj]; rfl
      obtain ⟨p1, hp1, e1, hp2⟩ := pr_get' zr.cells hcell
      obtain ⟨t, qd, av, et, ht, hqd, _⟩ := td_cell hp2
      obtain ⟨p1a, p1b⟩ := p1
      cases e1
      cases et
      have zk : z.cells.map (·.1) = M.words := (pr_keys (fun _ _ w => w.1) zr.cells).trans (q.w.cell _ (List.mem_of_getElem? hm))
      have hzv := strK_val (by rw [zk]; exact wnd) (List.mem_of_getElem? hp1)
      have hN1 := NodeH.of hN (y := z) hzm
      -- the row's cell
      obtain ⟨p2, hp3, e2, hp4⟩ := pr_get' hcs (mix_get (f := fun j => (j.1, j.2.1.num, j.2.2)) (h := fun j => (j.1, (0 : Int), j.2.2)) hj)
      obtain ⟨p2a, p2b⟩ := p2
      cases e2
      obtain ⟨t2, et2, ht2⟩ := td_two hp4
      cases et2
      have ck : cs.map (·.1) = js.map (·.1) := by
        refine (pr_keys (fun _ _ w => w.1) hcs).trans ?_
        rw [List.map_append, List.map_map, List.map_map]
        conv => rhs; rw [← List.take_append_drop i js, List.map_append]
        rfl
      have cnd : (cs.map (·.1)).Nodup := by rw [ck]; exact jnd
      have cl4 : cs.length ≤ 4 := by
        have e := congrArg List.length ck
        rw [List.length_map, List.length_map] at e
        omega
      have hcv := strK_val cnd (List.mem_of_getElem? hp3)
      have hR1 := RowH.of hN (y := { y with cells := cs, down := ds }) (List.mem_append_right _ (.head _))
      have hR1i : H2 y.ra = some (.ins c.E y.dx (rowF { y with cells := cs, down := ds })) := hR1.i
      have hR1c : H2 y.cd = some (.dK (strK cs)) := hR1.cd
      have hg1 : DGet H2 z.cd (.str j.1) (some (.ref t)) := .inl ⟨strK z.cells, Sum.inr j.1, .inl hN1.cd, rfl, hzv.symm⟩
      have hg2 : DGet H2 y.cd (.str j.1) (some (.ref t2)) := .inl ⟨strK cs, Sum.inr j.1, .inl hR1c, rfl, hcv.symm⟩
      refine ⟨_, rfl, z.na, c.C, _, _, _, rfl, hN1.i, TC.cl, TC.cells, rfl, _, rfl, z.cd, _, rfl, hg1, t, _, _, _, rfl, rfl, SqT.of (kt _ _ ht), atI_nat (j := 0) rfl, ?_⟩
      refine ⟨qd, _, rfl, SqT.of (kt _ _ hqd), rfl, _, _, rfl, _, _, rfl, rfl, ?_⟩
      refine ⟨_, rfl, y.ra, c.E, _, _, _, rfl, hR1i, TE.cl, TE.cells, rfl, _, rfl, y.cd, _, rfl, hg2, t2, _, _, _, rfl, rfl, SqT.of ht2, atI_nat (j := 1) rfl, ?_⟩
      refine ⟨_, rfl, _, rfl, by show 2 ≤ sizeLine; decide, fun t3 ht3 => ?_⟩
      have S3 : Same H2 (upd H2 t3 (.tup [.int j.2.1.num, .int j.2.2])) := Same.upd ht3
      have l3 : upd H2 t3 (HO.tup [.int j.2.1.num, .int j.2.2]) t3 = some (.tup [.int j.2.1.num, .int j.2.2]) := upd_same
      generalize upd H2 t3 (HO.tup [.int j.2.1.num, .int j.2.2]) = H3 at S3 l3 ⊢
      have lD3 := S3 _ _ lD
      have hN3 := hN.same S3
      refine ⟨_, rfl, y.ra, c.E, _, _, _, rfl, S3 _ _ hR1i, TE.cl, TE.cells, rfl, _, rfl, y.cd, _, rfl, .inl ⟨strK cs, Sum.inr j.1, S3 _ _ hR1c, rfl, by rw [List.length_map, sizeLine_eq]; omega, rfl⟩, ?_⟩
      rw [strK_set (v := .ref t3) cnd hp3]
      have hN4 := row_cells hN3 (xs := zs) (ys := []) rfl (cs.set i (j.1, .ref t3))
      have kk3 := kk.then S3
      have ycd : y.cd ∈ g.S := prow _ (.tail _ (.head _))
      have ydq : y.dq ∈ g.S := prow _ (.tail _ (.tail _ (.head _)))
      have kk4 := kk3.put (o := .dK (strK (cs.set i (j.1, .ref t3)))) ycd
      have hS4 : ∀ xs, H3 y.cd ≠ some (.tup xs) := fun xs z => by rw [S3 _ _ hR1c] at z; cases z
      have kt4 := (KT.of S3).trans (KT.upd (o := .dK (strK (cs.set i (j.1, .ref t3)))) hS4)
      have nDc : D ≠ y.cd := fun z => (q.h.ne hD _ (mem_row (by rw [hzr]; exact List.mem_append_right _ (.head _)) (.tail _ (.head _)))) z.symm
      have nDq : D ≠ y.dq := fun z => (q.h.ne hD _ (mem_row (by rw [hzr]; exact List.mem_append_right _ (.head _)) (.tail _ (.tail _ (.head _))))) z.symm
      have lD4 : upd H3 y.cd (.dK (strK (cs.set i (j.1, .ref t3)))) D = _ := (upd_ne nDc).trans lD3
      have l4 := (KT.upd (o := .dK (strK (cs.set i (j.1, .ref t3)))) hS4) _ _ l3
      generalize upd H3 y.cd (HO.dK (strK (cs.set i (j.1, .ref t3)))) = H4 at hN4 kk4 kt4 lD4 l4 ⊢
      have hR4 := RowH.of hN4 (y := { y with cells := cs.set i (j.1, .ref t3), down := ds }) (List.mem_append_right _ (.head _))
      have hR4i : H4 y.ra = some (.ins c.E y.dx (rowF y)) := hR4.i
      have hR4i : H4 y.ra = some (.ins c.E y.dx (rowF { y with cells := cs.set i (j.1, .ref t3), down := ds })) := hR4.i
      have hR4q : H4 y.dq = some (.lst ds) := hR4.dq
      refine ⟨_, rfl, y.ra, c.E, _, _, _, rfl, hR4i, TE.cl, TE.down, rfl, .inl ⟨rfl, _, SqL.of hR4q⟩, ?_⟩
      refine ⟨_, rfl, _, rfl, _, rfl, _, rfl, by show 5 ≤ sizeLine; decide, fun t4 ht4 => ?_⟩
      have S5 : Same H4 (upd H4 t4 (.tup [.str "copy", .str j.1, .int j.2.1.num, .int j.2.1.val, .int j.2.2])) := Same.upd ht4
      have l5 : upd H4 t4 (HO.tup [.str "copy", .str j.1, .int j.2.1.num, .int j.2.1.val, .int j.2.2]) t4 = some (.tup [.str "copy", .str j.1, .int j.2.1.num, .int j.2.1.val, .int j.2.2]) := upd_same
      generalize upd H4 t4 (HO.tup [.str "copy", .str j.1, .int j.2.1.num, .int j.2.1.val, .int j.2.2]) = H5 at S5 l5 ⊢
      have dl : ds.length < sizeLine := by
        have e := hds.length
        rw [List.length_map, List.length_take] at e
        rw [sizeLine_eq]
        omega
      refine ⟨y.dq, _, _, rfl, rfl, S5 _ _ hR4q, dl, ?_⟩
      have hN6 := row_down (hN4.same S5) (xs := zs) (ys := []) rfl (ds ++ [.ref t4])
      have kk6 := (kk4.then S5).put (o := .lst (ds ++ [.ref t4])) ydq
      have hS6 : ∀ xs, H5 y.dq ≠ some (.tup xs) := fun xs z => by rw [S5 _ _ hR4q] at z; cases z
      have kt6 := (kt4.trans (KT.of S5)).trans (KT.upd (o := .lst (ds ++ [.ref t4])) hS6)
      have lD6 : upd H5 y.dq (.lst (ds ++ [.ref t4])) D = _ := (upd_ne nDq).trans (S5 _ _ lD4)
      have l6 := (KT.upd (o := .lst (ds ++ [.ref t4])) hS6) _ _ (S5 _ _ l4)
      have l6' := (KT.upd (o := .lst (ds ++ [.ref t4])) hS6) _ _ l5
      generalize upd H5 y.dq (HO.lst (ds ++ [.ref t4])) = H6 at hN6 kk6 kt6 lD6 l6 l6' ⊢
      have jn : j.1 ∉ ((js.take i).map fun j => (j.1, V.non)).map (·.1) := by
        rw [List.map_map]
        have e : (js.take i).map ((fun x : Str × V => x.1) ∘ fun j => (j.1, V.non)) = (js.map (·.1)).take i := by rw [← List.map_take]; rfl
        rw [e]
        exact nd_at jnd (by rw [List.getElem?_map, hj]; rfl)
      have tl4 : ((js.take i).map fun j => (j.1, V.non)).length ≤ 4 := by
        rw [List.length_map, List.length_take]
        omega
      refine ⟨_, rfl, _, rfl, D, _, rfl, .inl ⟨_, Sum.inr j.1, lD6, rfl, by rw [List.length_map, sizeLine_eq]; omega, rfl⟩, ?_⟩
      rw [strK_put (v := .non) jn]
      have nDo : ∀ x ∈ objs c { Z with rows := zs ++ [{ y with cells := cs.set i (j.1, .ref t3), down := ds ++ [.ref t4] }] }, x.1 ≠ D := by
        intro x hx
        have e : (objs c { Z with rows := zs ++ [{ y with cells := cs.set i (j.1, .ref t3), down := ds ++ [.ref t4] }] }).map (·.1) = (objs c Z).map (·.1) := by
          unfold objs
          rw [hzr]
          simp [netO, rowO]
        have hx2 : x.1 ∈ (objs c Z).map (·.1) := by rw [← e]; exact List.mem_map.mpr ⟨x, hx, rfl⟩
        obtain ⟨x2, h2, e2⟩ := List.mem_map.mp hx2
        rw [← e2]
        exact q.h.ne hD x2 h2
      have k7 : ∀ b o, b ≠ D → H6 b = some o → upd H6 D (.dK (strK (((js.take i).map fun j => (j.1, V.non)) ++ [(j.1, V.non)]))) b = some o := fun b o hb e => by
        rw [upd_ne hb]
        exact e
      have kt7 : KT H6 (upd H6 D (.dK (strK (((js.take i).map fun j => (j.1, V.non)) ++ [(j.1, V.non)])))) := KT.upd fun xs z => by rw [lD6] at z; cases z
      refine ⟨_, _, _, _, cs.set i (j.1, .ref t3), ds ++ [.ref t4], rfl, kk6.updN hD, ⟨hN6.nd, fun x hx => k7 _ _ (nDo x hx) (hN6.at_ x hx)⟩, ?_, ?_, ?_⟩
      · rw [upd_same, List.take_add_one, hj, List.map_append]
        rfl
      · rw [← mix_set (f := fun j => (j.1, j.2.1.num, j.2.2)) (h := fun j => (j.1, (0 : Int), j.2.2)) hj]
        refine pr_set (pr_imp (fun _ _ w => ⟨w.1, (w.2.mono kt6).mono kt7⟩) hcs) ⟨rfl, ?_⟩
        exact Td.mono kt7 (.tup l6 (.cons (.int _) (.cons (.int _) .nil)))
      · rw [List.take_add_one, hj, List.map_append]
        refine ((hds.mono kt6).mono kt7).append (.cons ?_ .nil)
        exact Td.mono kt7 (.tup l6' (.cons (.str _) (.cons (.str _) (.cons (.int _) (.cons (.int _) (.cons (.int _) .nil))))))
    · rintro σ' H1 ⟨v5, v6, v7, v8, cs, ds, rfl, kk, hN, lD, hcs, hds⟩
      have elj : (strV M.words).length = js.length := by rw [List.length_map, ← hjw, List.length_map]
      rw [elj, List.take_length] at lD hds
      rw [elj, List.take_length, List.drop_length, List.map_nil, List.append_nil] at hcs
      have kt := KT.keeps kk nt
      have hN1 := NodeH.of hN (y := z) hzm
      refine ⟨_, rfl, _, rfl, _, rfl, z.na, c.C, _, _, _, rfl, hN1.i, TC.cl, TC.label, rfl, _, rfl, _, rfl, fun cp dy hcp hdy hne => ?_⟩
      refine ⟨cp, dy, .ref n, .str ch, .str z.label, .ref y.ra, .ref D, rfl, upd_same, fun H5 ce kt5 k5 ho5 hce hkt => ?_⟩
      have S40 : Same H1 (upd (upd H1 dy (.own cp)) cp (.ins c.C dy [])) := Same.trans (Same.upd hdy) (Same.upd (by rw [upd_ne (Ne.symm hne)]; exact hcp))
      have S5 := made_same hcp hdy hne k5
      have hce1 := S40.free hce
      have nDo : D ∉ (objs c { Z with rows := zs ++ [{ y with cells := cs, down := ds }] }).map (·.1) := by
        have e : (objs c { Z with rows := zs ++ [{ y with cells := cs, down := ds }] }).map (·.1) = (objs c Z).map (·.1) := by
          unfold objs
          rw [hzr]
          simp [netO, rowO]
        intro hx2
        rw [e] at hx2
        obtain ⟨x2, h2, e2⟩ := List.mem_map.mp hx2
        exact q.h.ne hD x2 h2 e2
      have ho1 := hN.add1 nDo lD
      have ho6 := Holds.grow ho1 S5 ho5 fun x hx => by
        simp only [List.mem_cons, List.not_mem_nil, or_false] at hx
        rcases hx with rfl | rfl
        · exact hcp
        · exact hce1
      have kk5 := kk.then S5
      have kt5' := kt.trans (KT.of S5)
      have hn5 := ho6.at_ _ (List.mem_append_left _ (List.mem_append_left _ (mem_net (.head _))))
      have hnd5 := ho6.at_ _ (List.mem_append_left _ (List.mem_append_left _ (mem_net (.tail _ (.head _)))))
      have lnodes : Z.nodes.length = M.nodes.length := pr_len q.r.nodes
      have hvn : valV (nodesK Z.nodes) (Sum.inr ch) = none := nodesK_none (by rw [q.labels]; exact hch)
      refine ⟨rfl, _, rfl, n, c.N, _, _, _, rfl, by rw [← q.n]; exact hn5, T.cl, T.f_nodes, rfl, _, rfl, Z.nd, _, rfl, .inl ⟨_, Sum.inr ch, hnd5, rfl, by show List.length (nodesK Z.nodes) < _; rw [List.length_map, sizeLine_eq]; omega, rfl⟩, ?_⟩
      have ek : putK (nodesK Z.nodes) (Sum.inr ch) (.ref cp) = nodesK Z.nodes ++ [(Sum.inr ch, .ref cp)] := putK_new _ hvn
      rw [ek]
      have eix : ixOf { Z with rows := zs ++ [{ y with cells := cs, down := ds }] } = ixOf Z := by
        unfold ixOf
        rw [hzr]
        simp
      obtain ⟨rest, erest⟩ : ∃ rest, rest = (((netO c Z).drop 3 ++ (Z.nodes.flatMap (nodeO c Z.n) ++ (zs ++ [{ y with cells := cs, down := ds }]).flatMap (rowO c))) ++ [(D, HO.dK (strK (js.map fun j => (j.1, V.non))))]) ++ [(cp, HO.ins c.C dy (cfl (.ref n) (.str ch) (.str z.label) (.ref y.ra) (.ref D) ce kt5)), (ce, HO.dK [])] := ⟨_, rfl⟩
      have ho7 : Holds H5 ([(Z.n, HO.ins c.N Z.dx (netF Z))] ++ (Z.nd, .dK (nodesK Z.nodes)) :: (Z.rd, .dK (rowsK (zs ++ [{ y with cells := cs, down := ds }]))) :: rest) := by
        rw [erest]
        exact ho6
      have ho8 := ho7.split (o' := .dK (nodesK Z.nodes ++ [(Sum.inr ch, .ref cp)]))
      have kk8 := kk5.put (o := .dK (nodesK Z.nodes ++ [(Sum.inr ch, .ref cp)])) (hps _ (List.mem_map.mpr ⟨_, mem_net (.tail _ (.head _)), rfl⟩))
      have kt8 := kt5'.trans (KT.upd (o := .dK (nodesK Z.nodes ++ [(Sum.inr ch, .ref cp)])) fun xs z => by rw [hnd5] at z; cases z)
      have hkt8 := (KT.upd (o := .dK (nodesK Z.nodes ++ [(Sum.inr ch, .ref cp)])) fun xs z => by rw [hnd5] at z; cases z) _ _ hkt
      have hcs8 := pr_imp (G := fun (p : Str × V) (q : Str × Int × Int) => p.1 = q.1 ∧ Td (upd H5 Z.nd (.dK (nodesK Z.nodes ++ [(Sum.inr ch, .ref cp)]))) p.2 (.tuple [.int q.2.1, .int q.2.2])) (fun _ _ w => ⟨w.1, (w.2.mono (KT.of S5)).mono (KT.upd (o := .dK (nodesK Z.nodes ++ [(Sum.inr ch, .ref cp)])) fun xs z => by rw [hnd5] at z; cases z)⟩) hcs
      have hds8 := (hds.mono (KT.of S5)).mono (KT.upd (o := .dK (nodesK Z.nodes ++ [(Sum.inr ch, .ref cp)])) fun xs z => by rw [hnd5] at z; cases z)
      have hS : ∀ q0 : Addr, H1 q0 = none → q0 ∈ g.S ∨ H q0 = none := fun q0 h0 => by
        by_cases w : q0 ∈ g.S
        · exact .inl w
        · exact .inr (kk.free w h0)
      have fcp := hS _ hcp
      have fce := hS _ hce1
      generalize upd H5 Z.nd (HO.dK (nodesK Z.nodes ++ [(Sum.inr ch, .ref cp)])) = H6 at ho8 kk8 kt8 hkt8 hcs8 hds8 ⊢
      have hn8 := ho8.at_ _ (List.mem_append_left _ (.head _))
      have hnd8 := ho8.at_ _ (List.mem_append_right _ (.head _))
      refine ⟨_, rfl, n, c.N, _, _, _, rfl, by rw [← q.n]; exact hn8, T.cl, T.f_nodes, rfl, Z.nd, _, rfl, .inl hnd8, fun la hla => ?_⟩
      have S9 : Same H6 (upd H6 la (.tup (List.map (fun kv : Key × V => kV kv.1) (nodesK Z.nodes ++ [(Sum.inr ch, V.ref cp)])))) := Same.upd hla
      have l9 : upd H6 la (HO.tup (List.map (fun kv : Key × V => kV kv.1) (nodesK Z.nodes ++ [(Sum.inr ch, V.ref cp)]))) la = some (.tup (List.map (fun kv : Key × V => kV kv.1) (nodesK Z.nodes ++ [(Sum.inr ch, V.ref cp)]))) := upd_same
      generalize upd H6 la (HO.tup (List.map (fun kv : Key × V => kV kv.1) (nodesK Z.nodes ++ [(Sum.inr ch, V.ref cp)]))) = H7 at S9 l9 ⊢
      have ho9 := ho8.same S9
      have hn9 := ho9.at_ _ (List.mem_append_left _ (.head _))
      refine ⟨_, rfl, n, c.N, Z.dx, netF Z, rfl, by rw [← q.n]; exact hn9, T.cl, T.f_labels, by show 13 < 1000; decide, ?_⟩
      rw [show putF "labels" (.ref la) (netF Z) = netF { Z with la := .ref la } from rfl]
      have ho10 := Holds.split (l := []) (o' := .ins c.N Z.dx (netF { Z with la := .ref la })) ho9
      rw [← q.n]
      have kt10 : KT H7 (upd H7 Z.n (.ins c.N Z.dx (netF { Z with la := .ref la }))) := KT.upd fun xs z => by rw [hn9] at z; cases z
      have kk10 := (kk8.then S9).put (o := .ins c.N Z.dx (netF { Z with la := .ref la })) (p := Z.n) (by rw [q.n]; exact pn)
      have kt11 := (kt8.trans (KT.of S9)).trans kt10
      have hkt11 := kt10 _ _ (S9 _ _ hkt8)
      have hla11 := kt10 _ _ l9
      have hcs11 := pr_imp (G := fun (p : Str × V) (q : Str × Int × Int) => p.1 = q.1 ∧ Td (upd H7 Z.n (.ins c.N Z.dx (netF { Z with la := .ref la }))) p.2 (.tuple [.int q.2.1, .int q.2.2])) (fun _ _ w => ⟨w.1, (w.2.mono (KT.of S9)).mono kt10⟩) hcs8
      have hds11 := (hds8.mono (KT.of S9)).mono kt10
      generalize upd H7 Z.n (HO.ins c.N Z.dx (netF { Z with la := .ref la })) = H8 at ho10 kk10 kt11 hkt11 hla11 hcs11 hds11 ⊢
      have en := q.n
      obtain ⟨yn, eyn⟩ : ∃ yn : NodeZ, yn = { na := cp, dx := dy, cd := D, en := ce, label := ch, above := .str z.label, row := .ref y.ra, cells := js.map fun j => (j.1, V.non), kids := [], kt := .ref kt5 } := ⟨_, rfl⟩
      obtain ⟨Z', eZ⟩ : ∃ Z' : NetZ, Z' = { Z with rows := zs ++ [{ y with cells := cs, down := ds }], nodes := Z.nodes ++ [yn], la := .ref la } := ⟨_, rfl⟩
      have hp : (objs c Z').Perm ([] ++ (Z.n, HO.ins c.N Z.dx (netF { Z with la := .ref la })) :: (Z.nd, .dK (nodesK Z.nodes ++ [(Sum.inr ch, .ref cp)])) :: (Z.rd, .dK (rowsK (zs ++ [{ y with cells := cs, down := ds }]))) :: rest) := by
        have e1 : objs c Z' = (netO c Z') ++ ((Z.nodes.flatMap (nodeO c Z.n) ++ [(cp, HO.ins c.C dy (cfl (.ref n) (.str ch) (.str z.label) (.ref y.ra) (.ref D) ce kt5)), (D, HO.dK (strK (js.map fun j => (j.1, V.non)))), (ce, HO.dK [])]) ++ (zs ++ [{ y with cells := cs, down := ds }]).flatMap (rowO c)) := by
          rw [eZ]
          unfold objs
          rw [List.flatMap_append, eyn]
          simp only [List.flatMap_cons, List.flatMap_nil, List.append_nil]
          rw [← en]
          rfl
        have e2 : netO c Z' = (Z.n, HO.ins c.N Z.dx (netF { Z with la := .ref la })) :: (Z.nd, .dK (nodesK Z.nodes ++ [(Sum.inr ch, .ref cp)])) :: (Z.rd, .dK (rowsK (zs ++ [{ y with cells := cs, down := ds }]))) :: (netO c Z).drop 3 := by
          rw [eZ]
          unfold netO nodesK
          simp only [List.map_append, List.map_cons, List.map_nil, eyn]
          rfl
        rw [e1]
        refine (perm_a).trans (List.Perm.of_eq ?_)
        rw [e2, erest]
        rfl
      have hH : NetH c H8 Z' := ho10.perm hp
      have elb : z.label = m.label := zr.label
      have hR : NetR H8 Z' (startM M rs m.label ch js) := by
        rw [eZ]
        refine ⟨?_, ?_, q.r.tw.mono kt11, ?_, ?_, q.r.done.mono kt11, pr_imp (fun _ _ w => ⟨w.1, w.2.mono kt11⟩) q.r.kept, q.r.acc, q.r.stm, q.r.qs⟩
        · have eix2 : ixOf { Z with rows := zs ++ [{ y with cells := cs, down := ds }], nodes := Z.nodes ++ [yn], la := .ref la } = ixOf Z := eix
          rw [eix2]
          refine pr_app (pr_imp (fun _ _ w => w.mono kt11) q.r.nodes) (.cons ?_ .nil)
          rw [eyn]
          refine ⟨rfl, by rw [elb]; rfl, ?_, ?_, rfl, (fun p hp => nomatch hp), .tup hkt11 .nil⟩
          · refine ⟨y.ra, ?_, rfl⟩
            unfold ixOf
            rw [hzr]
            refine List.mem_map.mpr ⟨y, List.mem_append_right _ (.head _), ?_⟩
            rw [hy.child]
            rfl
          · show Paired _ _ (M.words.map fun w => (w, (none : Option CellM)))
            rw [← hjw, List.map_map]
            exact pr_mk (fun j => ⟨rfl, .non⟩) js
        · refine pr_app (pr_imp (fun _ _ w => w.mono kt11) hrs) (.cons ⟨hy.child, hy.above, hy.dl.mono kt11, hy.ul.mono kt11, hcs11, hy.rais.mono kt11, hy.there, hy.crashed, hds11, hy.up.mono kt11⟩ .nil)
        · refine .tup hla11 ?_
          have e3 : List.map (fun kv : Key × V => kV kv.1) (nodesK Z.nodes ++ [(Sum.inr ch, V.ref cp)]) = (M.nodes.map (·.label) ++ [ch]).map V.str := by
            rw [List.map_append, kV_nodes, q.labels, List.map_append]
            rfl
          rw [e3]
          have e4 : (startM M rs m.label ch js).nodes.map (fun m => PyData.str m.label) = (M.nodes.map (·.label) ++ [ch]).map PyData.str := by
            show (M.nodes ++ [node1 m.label ch M.words]).map _ = _
            rw [List.map_append, List.map_append, List.map_map]
            rfl
          rw [e4]
          exact td_strs _
        · obtain ⟨z0, r0, e5, e6⟩ := q.r.top
          exact ⟨z0, r0 ++ [yn], by show Z.nodes ++ [yn] = _; rw [e5]; rfl, e6⟩
      have w0 := q.w
      have hW : NetW (startM M rs m.label ch js) := by
        have r1c : (rs ++ [row1 m.label ch js]).map (·.child) = M.rows.map (·.child) := by
          rw [hMr, List.map_append, List.map_append]
          rfl
        refine ⟨wnd, w4, ?_, ?_, ?_, ?_, w0.kept, ?_, ?_, ?_⟩
        · show ((M.nodes ++ [node1 m.label ch M.words]).map (·.label)).Nodup
          rw [List.map_append, List.nodup_append]
          refine ⟨w0.nnd, by simp, fun a ha b hb e => ?_⟩
          have hb : b = ch := by simpa [node1] using hb
          rw [e, hb] at ha
          exact hch ha
        · show ((rs ++ [row1 m.label ch js]).map (·.child)).Nodup
          rw [r1c]
          exact w0.rnd
        · intro m2 h2
          rcases List.mem_append.mp (show m2 ∈ M.nodes ++ [node1 m.label ch M.words] from h2) with h2 | h2
          · exact w0.cell _ h2
          · rw [List.mem_singleton.mp h2]
            show (M.words.map fun w => (w, (none : Option CellM))).map (·.1) = M.words
            rw [List.map_map]
            exact List.map_id'' (fun _ => rfl) _
        · intro r2 h2
          rcases List.mem_append.mp (show r2 ∈ rs ++ [row1 m.label ch js] from h2) with h2 | h2
          · exact w0.rcell _ (by rw [hMr]; exact List.mem_append_left _ h2)
          · rw [List.mem_singleton.mp h2]
            show (js.map fun j => (j.1, j.2.1.num, j.2.2)).map (·.1) = M.words
            rw [← hjw, List.map_map]
            rfl
        · show (M.nodes ++ [node1 m.label ch M.words]).length ≤ 12
          rw [List.length_append]
          exact h12
        · show (rs ++ [row1 m.label ch js]).length ≤ 1000
          have e7 := congrArg List.length hMr
          have e8 := w0.r12
          rw [List.length_append, List.length_singleton] at e7 ⊢
          omega
        · intro m2 h2
          rcases List.mem_append.mp (show m2 ∈ M.nodes ++ [node1 m.label ch M.words] from h2) with h2 | h2
          · exact w0.kids _ h2
          · rw [List.mem_singleton.mp h2]
            exact ⟨List.nodup_nil, Nat.zero_le _⟩
      refine k H8 ⟨Z'.ps c, Z'.nx⟩ ⟨kk10, ?_, ?_⟩ ⟨Z', by rw [eZ]; exact q.n, rfl, rfl, hH, hR, hW⟩
      · intro q0 h0
        have h0 : q0 ∈ (objs c Z').map (·.1) := h0
        have h1 := (hp.map (·.1)).mem_iff.mp h0
        obtain ⟨x, hx, rfl⟩ := List.mem_map.mp h1
        have hob : ∀ x ∈ objs c { Z with rows := zs ++ [{ y with cells := cs, down := ds }] }, x.1 ∈ g.S := fun x hx => by
          have e : (objs c { Z with rows := zs ++ [{ y with cells := cs, down := ds }] }).map (·.1) = (objs c Z).map (·.1) := by
            unfold objs
            rw [hzr]
            simp [netO, rowO]
          refine hps _ ?_
          rw [← e]
          exact List.mem_map.mpr ⟨x, hx, rfl⟩
        rcases List.mem_cons.mp hx with rfl | hx
        · exact .inl (by rw [q.n]; exact pn)
        · rcases List.mem_cons.mp hx with rfl | hx
          · exact .inl (hps _ (List.mem_map.mpr ⟨_, mem_net (.tail _ (.head _)), rfl⟩))
          · rcases List.mem_cons.mp hx with rfl | hx
            · exact .inl (hps _ (List.mem_map.mpr ⟨_, mem_net (.tail _ (.tail _ (.head _))), rfl⟩))
            · rw [erest] at hx
              rcases List.mem_append.mp hx with hx | hx
              · rcases List.mem_append.mp hx with hx | hx
                · refine .inl (hob _ ?_)
                  exact .tail _ (.tail _ (.tail _ hx))
                · rw [List.mem_singleton.mp hx]
                  exact .inr hD
              · simp only [List.mem_cons, List.not_mem_nil, or_false] at hx
                rcases hx with rfl | rfl
                · exact fcp
                · exact fce
      · intro x hx
        rw [← q.nx] at hx
        show x ∈ Z'.nx
        rw [eZ]
        show x ∈ (Z.nodes ++ [yn]).map _
        rw [List.map_append]
        exact List.mem_append_left _ hx
end
end K02
set_option Elab.async false
set_option linter.all false
set_option maxRecDepth 100000
set_option maxHeartbeats 4000000
namespace K02
open PySem L2 EX PyProof.Rows LamX
open NZ
abbrev sAc : Stmt := top 42
theorem scAc : FnScope ["net", "node", "child", "pairs", "row", "key", "allowance"] ["net", "node", "child", "pairs"] (defScope sAc) := ⟨rfl, rfl, rfl, by decide +kernel, rfl, by decide +kernel, by decide +kernel⟩
theorem Went.trans {H1 H2 H3 : Hp} {g1 g2 g3 : Sg} (a : Went H1 H2 g1 g2) (b : Went H2 H3 g2 g3) : Went H1 H3 g1 g3 := by
  refine ⟨fun p o n e => b.k p o (fun z => ?_) (a.k p o n e), fun q hq => ?_, fun x hx => b.nx x (a.nx x hx)⟩
  · rcases a.s p z with h | h
    · exact n h
    · rw [h] at e
      cases e
  · rcases b.s q hq with h | h
    · exact a.s q h
    · by_cases z : q ∈ g1.S
      · exact .inl z
      · exact .inr (a.k.free z h)
theorem Went.refl (H : Hp) (g : Sg) : Went H H g g := ⟨Keeps.refl _ _, fun _ h => .inl h, fun _ h => h⟩
theorem Went.of {H H' : Hp} {g : Sg} (k : Keeps g.S H H') : Went H H' g g := ⟨k, fun _ h => .inl h, fun _ h => h⟩
theorem Went.before {H0 H H' : Hp} {g g' : Sg} (s : Same H0 H) (a : Went H H' g g') : Went H0 H' g g' := ⟨(Keeps.of s).trans a.k, fun q hq => (a.s q hq).imp id fun h => s.free h, a.nx⟩
/-- the list of pairs of a join -/
def PairsAt (H : Hp) (ps : List V) (js : Js) : Prop := Paired (fun (v : V) (j : Str × CellM × Int) => ∃ p, v = .ref p ∧ H p = some (.tup [.str j.1, .int j.2.2])) ps js
def joinM (M : NetM) (i : Nat) (m : NodeM) (ch : Str) (js : Js) : NetM := startM { M with nodes := M.nodes.set i { m with kids := m.kids ++ [ch] } } M.rows m.label ch js
def spAdd (c : Cs) : Sp := fun vs H Q _ => ∃ (n na pl : Addr) (ch : Str) (g : Sg) (M : NetM) (Z : NetZ) (i : Nat) (z : NodeZ) (m : NodeM) (ps : List V) (js : Js), vs = [.ref n, .ref na, .str ch, .ref pl] ∧
  NetQ c H n g M Z ∧ Z.nodes[i]? = some z ∧ z.na = na ∧ M.nodes[i]? = some m ∧ m.cells = (js.map fun j => (j.1, some j.2.1)) ∧ js.map (·.1) = M.words ∧ H pl = some (.lst ps) ∧ PairsAt H ps js ∧
  ch ∉ M.nodes.map (·.label) ∧ ch ∉ M.rows.map (·.child) ∧ M.nodes.length < 12 ∧ M.rows.length < 1000 ∧ m.kids.length < 1000 ∧ ∀ H' g', Went H H' g g' → NetA c H' n g' (joinM M i m ch js) → Q .non H'
section
variable {P : Program} {w : World} {K : PySem.W.Frag} {mg : Str → Option Value} {base : Heap}
theorem ok_ac {c : Cs} {f : Addr} {fd : FuncData} (F : Fun K "add_child" "add_child" sAc f fd) (B : Bn mg) (T : NetC K c.N) (TC : CacheC K c.C) (TE : EntryC K c.E) (ME : MkAt P w K mg base CX0 1 "Entry" ["self", "down_link", "up_link", "cells"] c.E (spEI K c.E)) (GSc : DefAt P w K mg base 3 "start_child" ["net", "node", "child", "row"] (spStart c)) : FnOk P w K mg base CX0 4 f fd ["net", "node", "child", "pairs"] (spAdd c) := by
  refine F.ok scAc (fun vs H Q E h => ?_) (fun cdv A outer s H vs Q E hr h => ?_)
  · obtain ⟨n, na, pl, ch, g, M, Z, i, z, m, ps, js, rfl, _⟩ := h
    rfl
  · obtain ⟨n, na, pl, ch, g, M, Z, i0, z, m, ps, js, rfl, q, hz, rfl, hm, hmc, hjw, hpl, hps, hch, hch2, h12, h1000, hk1000, k⟩ := h
    have hu := hu_of hr
    have hzm := List.mem_of_getElem? hz
    obtain ⟨m', hm', zr⟩ := pr_get q.r.nodes hz
    cases hm.symm.trans hm'
    have hn := q.at_n
    have wnd := q.w.wnd
    have jnd : (js.map (·.1)).Nodup := by rw [hjw]; exact wnd
    have j4 : js.length ≤ 4 := by
      have e := congrArg List.length hjw
      have w4 := q.w.w4
      rw [List.length_map] at e
      omega
    have elb : z.label = m.label := zr.label
    have hN := NodeH.of q.h hzm
    refine ⟨_, (pss_cons (ps_set (i := 4) scAc.nd rfl (Or.inl rfl) (pe_mkC ME (hr.mono (by decide)) (pa_cons (pe_tup (pa_cons (pe_fld (pv 1) rfl) (pa_cons (pv 2) pa_nil))) (pa_cons (pe_tup (pa_cons (pv 2) (pa_cons (pe_fld (pv 1) rfl) pa_nil))) (pa_cons pe_dnewK pa_nil)))))
        (pss_cons (ps_for PassesOwn.never rfl (pi_list (pv 3)) (pg_tup rfl (pgs_cons (pg_name (i := 5) scAc.nd rfl (Or.inl rfl)) (pgs_cons (pg_name (i := 6) scAc.nd rfl (Or.inl rfl)) pgs_nil))) (pss_one (ps_dput hu (pe_fld (pv 4) rfl) (pv 5) (pe_tup (pa_cons pe_int (pa_cons (pv 6) pa_nil))) rfl)))
        (pss_cons (ps_dput hu (pe_fld (pv 1) rfl) (pv 2) (pv 4) rfl)
        (pss_cons (ps_fld (pv 1) (pe_callTy (call_tupleD rfl) (by rfl) B.tuple (by decide +kernel) (pa_cons (pe_fld (pv 1) rfl) pa_nil)) rfl)
        (pss_cons (ps_dput hu (pe_fld (pv 0) rfl) (pv 2) (pv 4) rfl)
        (pss_one (ps_expr (pe_callD GSc (hr.mono (by decide)) (pa_cons (pv 0) (pa_cons (pv 1) (pa_cons (pv 2) (pa_cons (pv 4) pa_nil)))))))))))), ?_⟩
    -- the row
    refine ⟨_, rfl, z.na, c.C, _, _, _, rfl, hN.i, TC.cl, TC.label, rfl, _, rfl, by show 2 ≤ sizeLine; decide, fun dl hdl => ?_⟩
    have b1 := (Ks.start H).new (o := .tup [.str z.label, .str ch]) hdl
    generalize upd H dl (HO.tup [.str z.label, .str ch]) = H1 at b1 ⊢
    refine ⟨_, rfl, _, rfl, z.na, c.C, _, _, _, rfl, (b1.s _ _ hN.i), TC.cl, TC.label, rfl, by show 2 ≤ sizeLine; decide, fun ul hul => ?_⟩
    have b2 := b1.new (o := .tup [.str ch, .str z.label]) hul
    generalize upd H1 ul (HO.tup [.str ch, .str z.label]) = H2 at b2 ⊢
    refine fun cd hcd => ?_
    have b3 := b2.new (o := .dK []) hcd
    have fcd := b2.s.free hcd
    generalize upd H2 cd (HO.dK []) = H3 at b3 ⊢
    refine fun ra dy hra hdy hne => ?_
    have S34 : Same H3 (upd (upd H3 dy (.own ra)) ra (.ins c.E dy [])) := Same.trans (Same.upd hdy) (Same.upd (by rw [upd_ne (Ne.symm hne)]; exact hra))
    refine ⟨ra, dy, dl, .str z.label, [.str ch], .ref ul, .ref cd, rfl, upd_same, S34 _ _ (b3.get 2), fun H5 rt dq uq k5 ho5 hdq huq hrt => ⟨rfl, ?_⟩⟩
    have S5 := made_same hra hdy hne k5
    have b5 := b3.same S5
    have hdq3 := S34.free hdq
    have huq3 := S34.free huq
    have fra := b3.s.free hra
    have fdq := b3.s.free hdq3
    have fuq := b3.s.free huq3
    have hcd3 := b3.get 0
    have nra : ra ≠ cd := fun e => by rw [e, hcd3] at hra; cases hra
    have ndq : dq ≠ cd := fun e => by rw [e, hcd3] at hdq3; cases hdq3
    have nuq : uq ≠ cd := fun e => by rw [e, hcd3] at huq3; cases huq3
    have nd3 := ho5.nd
    simp only [List.map_cons, List.map_nil, List.nodup_cons, List.mem_cons, List.not_mem_nil, or_false, not_or, List.nodup_nil, and_true, not_false_eq_true] at nd3
    have hor : Holds H5 [(ra, .ins c.E dy (efl (.str z.label) (.ref dl) (.ref ul) (.ref cd) rt dq uq)), (cd, .dK (strK [])), (dq, .lst []), (uq, .lst [])] := by
      refine holds4 (ho5.at_ _ (.head _)) (b5.get 0) (ho5.at_ _ (.tail _ (.head _))) (ho5.at_ _ (.tail _ (.tail _ (.head _)))) ?_
      simp only [List.map_cons, List.map_nil, List.nodup_cons, List.mem_cons, List.not_mem_nil, or_false, not_or, List.nodup_nil, and_true, not_false_eq_true]
      exact ⟨⟨nra, nd3.1.1, nd3.1.2⟩, ⟨ndq.symm, nuq.symm⟩, nd3.2⟩
    have hdl5 := b5.get 2
    have hul5 := b5.get 1
    have S05 := b5.s
    refine ⟨_, rfl, pl, rfl, ⟨_, SqL.of (S05 _ _ hpl)⟩, ?_⟩
    obtain ⟨fl, efl'⟩ : ∃ fl, fl = efl (.str z.label) (.ref dl) (.ref ul) (.ref cd) rt dq uq := ⟨_, rfl⟩
    rw [← efl'] at hor
    refine for_it (walk_list (K := K) (a := pl) (xs := ps)) (fun i σ' Hh => ∃ (v5 v6 : Option V) (cv : List (Str × V)), σ' = [some (.ref n), some (.ref z.na), some (.str ch), some (.ref pl), some (.ref ra), v5, v6] ∧ Same H Hh ∧ KT H5 Hh ∧
      Holds Hh [(ra, .ins c.E dy fl), (cd, .dK (strK cv)), (dq, .lst []), (uq, .lst [])] ∧
      Paired (fun (p : Str × V) (q : Str × Int × Int) => p.1 = q.1 ∧ Td Hh p.2 (.tuple [.int q.2.1, .int q.2.2])) cv ((js.take i).map fun j => (j.1, (0 : Int), j.2.2)))
      ⟨none, none, [], rfl, S05, KT.refl _, hor, .nil⟩ (fun i σ' Hh _ w => by obtain ⟨_, _, _, _, S, _⟩ := w; exact SqL.of (S _ _ hpl)) ?_ ?_
    · rintro i x σ' Hh H8 hi ⟨v5, v6, cv, rfl, S, kt, ho, hcv⟩ ⟨rfl, hx⟩
      obtain ⟨j, hj, p, rfl, hp⟩ := pr_get hps hx
      have hra8 := ho.at_ _ (.head _)
      have hcd8 := ho.at_ _ (.tail _ (.head _))
      refine ⟨p, _, rfl, SqT.of (S _ _ hp), rfl, _, _, rfl, _, _, rfl, rfl, ?_⟩
      refine ⟨_, rfl, by show 2 ≤ sizeLine; decide, fun t ht => ?_⟩
      have S9 : Same H8 (upd H8 t (.tup [.int 0, .int j.2.2])) := Same.upd ht
      have l9 : upd H8 t (HO.tup [.int 0, .int j.2.2]) t = some (.tup [.int 0, .int j.2.2]) := upd_same
      generalize upd H8 t (HO.tup [.int 0, .int j.2.2]) = H9 at S9 l9 ⊢
      have hra9 := S9 _ _ hra8
      have hcd9 := S9 _ _ hcd8
      have ek : cv.map (·.1) = (js.map (·.1)).take i := by
        refine (pr_keys (fun _ _ w => w.1) hcv).trans ?_
        rw [List.map_map, ← List.map_take]
        rfl
      have hns : j.1 ∉ cv.map (·.1) := by
        rw [ek]
        exact nd_at jnd (by rw [List.getElem?_map, hj]; rfl)
      have hcl : cv.length ≤ 4 := by
        have e := congrArg List.length ek
        rw [List.length_map, List.length_take, List.length_map] at e
        omega
      rw [efl'] at hra9
      refine ⟨_, rfl, ra, c.E, _, _, _, rfl, hra9, TE.cl, TE.cells, rfl, _, rfl, cd, _, rfl, .inl ⟨strK cv, Sum.inr j.1, hcd9, rfl, by rw [List.length_map, sizeLine_eq]; omega, rfl⟩, ?_⟩
      rw [strK_put (v := .ref t) hns]
      have ho10 := Holds.split (l := [(ra, HO.ins c.E dy fl)]) (o' := .dK (strK (cv ++ [(j.1, V.ref t)]))) (ho.same S9)
      have kt10 : KT H9 (upd H9 cd (.dK (strK (cv ++ [(j.1, V.ref t)])))) := KT.upd fun xs z => by rw [hcd9] at z; cases z
      have S10 : Same H (upd H9 cd (.dK (strK (cv ++ [(j.1, V.ref t)])))) := EX.Same.updN (Same.trans S S9) fcd
      refine ⟨_, _, cv ++ [(j.1, V.ref t)], rfl, S10, (kt.trans (KT.of S9)).trans kt10, ho10, ?_⟩
      rw [List.take_add_one, hj, List.map_append]
      refine pr_app (pr_imp (fun _ _ w => ⟨w.1, (w.2.mono (KT.of S9)).mono kt10⟩) hcv) (.cons ⟨rfl, ?_⟩ .nil)
      exact Td.mono kt10 (.tup l9 (.cons (.int _) (.cons (.int _) .nil)))
    · rintro σ' H6 ⟨v5, v6, cv, rfl, S, ktl, ho, hcv⟩
      have elj : ps.length = js.length := pr_len hps
      rw [elj, List.take_length] at hcv
      have hN6 := q.h.same S
      have hz6 := NodeH.of hN6 hzm
      obtain ⟨zs1, z', zs2, ez, zr', hp1, hp2, hlen⟩ := pr_mid q.r.nodes hm
      have ez' : z' = z := by
        rw [ez, List.getElem?_append_right (by omega), hlen, Nat.sub_self] at hz
        exact Option.some.inj hz
      rw [ez'] at ez
      have hkid : ch ∉ z.kids.map (·.1) := fun w => by
        obtain ⟨p, hp, e⟩ := List.mem_map.mp w
        have := zr.kin p hp
        unfold ixOf at this
        obtain ⟨r, hr1, hr2⟩ := List.mem_map.mp this
        refine hch2 ?_
        rw [← q.childs, ← e, ← hr2]
        exact List.mem_map.mpr ⟨r, hr1, rfl⟩
      have hkl : z.kids.length = m.kids.length := by
        have e := congrArg List.length zr.kids
        rw [List.length_map] at e
        exact e
      refine ⟨_, rfl, _, rfl, z.na, c.C, _, _, _, rfl, hz6.i, TC.cl, TC.entries, rfl, _, rfl, z.en, _, rfl, .inl ⟨_, Sum.inr ch, hz6.en, rfl, by rw [List.length_map, sizeLine_eq]; omega, rfl⟩, ?_⟩
      rw [refK_put hkid]
      have nS : ∀ p, H p = none → p ∉ g.S := fun p hp w => by
        rw [← q.ps] at w
        obtain ⟨x, hx, e⟩ := List.mem_map.mp w
        exact q.h.ne hp x hx e
      have inS : ∀ x ∈ objs c Z, x.1 ∈ g.S := fun x hx => by
        rw [← q.ps]
        exact List.mem_map.mpr ⟨x, hx, rfl⟩
      have sen : z.en ∈ g.S := inS _ (mem_node hzm (.tail _ (.tail _ (.head _))))
      have sna : z.na ∈ g.S := inS _ (mem_node hzm (.head _))
      have srd : Z.rd ∈ g.S := inS _ (mem_net (.tail _ (.tail _ (.head _))))
      have hN7 := node_kids hN6 ez (z.kids ++ [(ch, ra)])
      have k7 : Keeps g.S H6 (upd H6 z.en (.dK (refK (z.kids ++ [(ch, ra)])))) := (Keeps.refl _ _).put sen
      have kt7 : KT H6 (upd H6 z.en (.dK (refK (z.kids ++ [(ch, ra)])))) := KT.upd fun xs w => by rw [hz6.en] at w; cases w
      generalize upd H6 z.en (HO.dK (refK (z.kids ++ [(ch, ra)]))) = H7 at hN7 k7 kt7 ⊢
      have hz7 := NodeH.of hN7 (y := { z with kids := z.kids ++ [(ch, ra)] }) (List.mem_append_right _ (.head _))
      have hz7i : H7 z.na = some (.ins c.C z.dx (nodeF Z.n z)) := hz7.i
      have hz7e : H7 z.en = some (.dK (refK (z.kids ++ [(ch, ra)]))) := hz7.en
      refine ⟨_, rfl, z.na, c.C, _, _, _, rfl, hz7i, TC.cl, TC.entries, rfl, z.en, _, rfl, .inl hz7e, fun kt hkt => ?_⟩
      have S8 : Same H7 (upd H7 kt (.tup (List.map (fun kv : Key × V => kV kv.1) (refK (z.kids ++ [(ch, ra)]))))) := Same.upd hkt
      have l8 : upd H7 kt (HO.tup (List.map (fun kv : Key × V => kV kv.1) (refK (z.kids ++ [(ch, ra)])))) kt = some (.tup (List.map (fun kv : Key × V => kV kv.1) (refK (z.kids ++ [(ch, ra)])))) := upd_same
      generalize upd H7 kt (HO.tup (List.map (fun kv : Key × V => kV kv.1) (refK (z.kids ++ [(ch, ra)])))) = H8 at S8 l8 ⊢
      refine ⟨_, rfl, z.na, c.C, z.dx, nodeF Z.n z, rfl, S8 _ _ hz7i, TC.cl, TC.kids, by show 8 < 1000; decide, ?_⟩
      rw [show putF "kids" (.ref kt) (nodeF Z.n z) = nodeF Z.n { z with kids := z.kids ++ [(ch, ra)], kt := .ref kt } from rfl]
      have hN9 := node_kt (hN7.same S8) (y := { z with kids := z.kids ++ [(ch, ra)] }) rfl (.ref kt)
      have k9 : Keeps g.S H6 (upd H8 z.na (.ins c.C z.dx (nodeF Z.n { z with kids := z.kids ++ [(ch, ra)], kt := .ref kt }))) := (k7.then S8).put sna
      have kt9 : KT H8 (upd H8 z.na (.ins c.C z.dx (nodeF Z.n { z with kids := z.kids ++ [(ch, ra)], kt := .ref kt }))) := KT.upd fun xs w => by rw [S8 _ _ hz7i] at w; cases w
      have kt69 := (kt7.trans (KT.of S8)).trans kt9
      have l9 := kt9 _ _ l8
      have hN9' : NetH c (upd H8 z.na (.ins c.C z.dx (nodeF Z.n { z with kids := z.kids ++ [(ch, ra)], kt := .ref kt }))) { Z with nodes := zs1 ++ { z with kids := z.kids ++ [(ch, ra)], kt := .ref kt } :: zs2 } := hN9
      clear hN9
      generalize upd H8 z.na (HO.ins c.C z.dx (nodeF Z.n { z with kids := z.kids ++ [(ch, ra)], kt := .ref kt })) = H9 at hN9' k9 kt69 l9 ⊢
      have hn9 : H9 Z.n = some (.ins c.N Z.dx (netF Z)) := hN9'.at_net 0
      have hrd9 : H9 Z.rd = some (.dK (rowsK Z.rows)) := hN9'.at_net 2
      have lr : Z.rows.length = M.rows.length := pr_len q.r.rows
      refine ⟨_, rfl, _, rfl, n, c.N, _, _, _, rfl, by rw [← q.n]; exact hn9, T.cl, T.f_rows, rfl, _, rfl, Z.rd, _, rfl, .inl ⟨_, Sum.inr ch, hrd9, rfl, by rw [List.length_map, sizeLine_eq]; omega, rfl⟩, ?_⟩
      obtain ⟨y, ey⟩ : ∃ y : RowZ, y = { ra := ra, dx := dy, cd := cd, dq := dq, uq := uq, child := ch, above := z.label, dl := .ref dl, ul := .ref ul, cells := cv, rais := .ref rt, there := true, crashed := false, down := [], up := [] } := ⟨_, rfl⟩
      have ey1 : y.child = ch := by rw [ey]
      have ey2 : y.ra = ra := by rw [ey]
      have erk : putK (rowsK Z.rows) (Sum.inr ch) (.ref ra) = rowsK (Z.rows ++ [y]) := by
        rw [← ey1, ← ey2]
        exact rowsK_put (by rw [ey1, q.childs]; exact hch2)
      rw [erk]
      obtain ⟨z9, ez9⟩ : ∃ z9 : NodeZ, z9 = { z with kids := z.kids ++ [(ch, ra)], kt := .ref kt } := ⟨_, rfl⟩
      rw [← ez9] at hN9'
      have hL9 : Holds H9 ([(Z.n, HO.ins c.N Z.dx (netF Z)), (Z.nd, .dK (nodesK (zs1 ++ z9 :: zs2)))] ++ (Z.rd, .dK (rowsK Z.rows)) :: ((netO c Z).drop 3 ++ ((zs1 ++ z9 :: zs2).flatMap (nodeO c Z.n) ++ Z.rows.flatMap (rowO c)))) := hN9'
      have hL10 := hL9.split (o' := .dK (rowsK (Z.rows ++ [y])))
      have k10 := k9.put (o := .dK (rowsK (Z.rows ++ [y]))) srd
      have kt10 := kt69.trans (KT.upd (o := .dK (rowsK (Z.rows ++ [y]))) fun xs w => by rw [hrd9] at w; cases w)
      have l10 := (KT.upd (o := .dK (rowsK (Z.rows ++ [y]))) fun xs w => by rw [hrd9] at w; cases w) _ _ l9
      generalize upd H9 Z.rd (HO.dK (rowsK (Z.rows ++ [y]))) = H10 at hL10 k10 kt10 l10 ⊢
      have hex : Holds H10 (rowO c y) := by
        have e : rowO c y = [(ra, .ins c.E dy fl), (cd, .dK (strK cv)), (dq, .lst []), (uq, .lst [])] := by
          rw [ey, efl']
          rfl
        rw [e]
        refine ho.keeps k10 fun x hx => ?_
        simp only [List.mem_cons, List.not_mem_nil, or_false] at hx
        rcases hx with rfl | rfl | rfl | rfl
        · exact nS _ fra
        · exact nS _ fcd
        · exact nS _ fdq
        · exact nS _ fuq
      have fex : ∀ x ∈ rowO c y, H x.1 = none := fun x hx => by
        rw [ey] at hx
        unfold rowO at hx
        simp only [List.mem_cons, List.not_mem_nil, or_false] at hx
        rcases hx with rfl | rfl | rfl | rfl
        · exact fra
        · exact fcd
        · exact fdq
        · exact fuq
      have epl : ([(Z.n, HO.ins c.N Z.dx (netF Z)), (Z.nd, .dK (nodesK (zs1 ++ z9 :: zs2)))] ++ (Z.rd, .dK (rowsK (Z.rows ++ [y]))) :: ((netO c Z).drop 3 ++ ((zs1 ++ z9 :: zs2).flatMap (nodeO c Z.n) ++ Z.rows.flatMap (rowO c)))).map (·.1) = (objs c Z).map (·.1) := by
        unfold objs
        rw [ez, ez9]
        simp [netO, nodeO]
      have hAll := hL10.join hex fun x hx x2 hx2 e => by
        have h1 : x.1 ∈ (objs c Z).map (·.1) := by
          rw [← epl]
          exact List.mem_map.mpr ⟨x, hx, rfl⟩
        obtain ⟨x3, h3, e3⟩ := List.mem_map.mp h1
        refine nS _ (fex x2 hx2) ?_
        rw [← e, ← e3]
        exact inS x3 h3
      obtain ⟨Z', eZ⟩ : ∃ Z' : NetZ, Z' = { Z with nodes := zs1 ++ z9 :: zs2, rows := Z.rows ++ [y] } := ⟨_, rfl⟩
      have hH : NetH c H10 Z' := by
        have e : objs c Z' = ([(Z.n, HO.ins c.N Z.dx (netF Z)), (Z.nd, .dK (nodesK (zs1 ++ z9 :: zs2)))] ++ (Z.rd, .dK (rowsK (Z.rows ++ [y]))) :: ((netO c Z).drop 3 ++ ((zs1 ++ z9 :: zs2).flatMap (nodeO c Z.n) ++ Z.rows.flatMap (rowO c)))) ++ rowO c y := by
          rw [eZ]
          unfold objs
          simp [netO, List.flatMap_append]
        unfold NetH
        rw [e]
        exact hAll
      obtain ⟨m9, em9⟩ : ∃ m9 : NodeM, m9 = { m with kids := m.kids ++ [ch] } := ⟨_, rfl⟩
      obtain ⟨M', eM⟩ : ∃ M' : NetM, M' = { M with nodes := M.nodes.set i0 m9, rows := M.rows ++ [row0 m.label ch js] } := ⟨_, rfl⟩
      have kt0 : KT H H10 := (KT.of S).trans kt10
      have kt5 : KT H5 H10 := ktl.trans kt10
      have eix : ixOf Z' = ixOf Z ++ [(ch, ra)] := by
        rw [eZ]
        unfold ixOf
        show (Z.rows ++ [y]).map _ = _
        rw [List.map_append, List.map_cons, List.map_nil, ey1, ey2]
      have inix : ∀ p ∈ ixOf Z, p ∈ ixOf Z' := fun p hp => by
        rw [eix]
        exact List.mem_append_left _ hp
      have nodeUp : ∀ (a : NodeZ) (b : NodeM), NodeR H (ixOf Z) a b → NodeR H10 (ixOf Z') a b := fun a b w => (w.mono kt0).more inix
      have lab9 : (M.nodes.set i0 m9).map (·.label) = M.nodes.map (·.label) := set_map_same (by rw [em9]) hm
      have hz9R : NodeR H10 (ixOf Z') z9 m9 := by
        have w := nodeUp _ _ zr
        rw [ez9, em9]
        refine ⟨w.label, w.above, w.row, w.cells, ?_, ?_, .tup l10 ?_⟩
        · show (z.kids ++ [(ch, ra)]).map (·.1) = m.kids ++ [ch]
          rw [List.map_append, zr.kids]
          rfl
        · intro p hp
          rcases List.mem_append.mp (show p ∈ z.kids ++ [(ch, ra)] from hp) with hp | hp
          · exact w.kin p hp
          · rw [List.mem_singleton.mp hp, eix]
            exact List.mem_append_right _ (.head _)
        · rw [kV_kids, List.map_append, zr.kids]
          exact td_strs _
      have hdl10 : H10 dl = some (.tup [.str m.label, .str ch]) := by
        rw [← elb]
        exact kt5 _ _ hdl5
      have hul10 : H10 ul = some (.tup [.str ch, .str m.label]) := by
        rw [← elb]
        exact kt5 _ _ hul5
      have hrt10 := kt5 _ _ hrt
      have hyR : RowR H10 y (row0 m.label ch js) := by
        rw [ey]
        refine ⟨rfl, elb, .tup hdl10 (.cons (.str _) (.cons (.str _) .nil)), .tup hul10 (.cons (.str _) (.cons (.str _) .nil)), ?_, .tup hrt10 .nil, rfl, rfl, .nil, .nil⟩
        exact pr_imp (fun _ _ w => ⟨w.1, w.2.mono kt10⟩) hcv
      have hR : NetR H10 Z' M' := by
        have w0 := q.r.mono kt0
        rw [eM]
        refine ⟨?_, ?_, ?_, ?_, ?_, ?_, ?_, ?_, ?_, ?_⟩
        · show Paired _ Z'.nodes (M.nodes.set i0 m9)
          rw [set_mid hm]
          have e : Z'.nodes = zs1 ++ z9 :: zs2 := by rw [eZ]
          rw [e]
          exact pr_app (pr_imp nodeUp hp1) (.cons hz9R (pr_imp nodeUp hp2))
        · show Paired _ Z'.rows (M.rows ++ [row0 m.label ch js])
          have e : Z'.rows = Z.rows ++ [y] := by rw [eZ]
          rw [e]
          exact pr_app w0.rows (.cons hyR .nil)
        · rw [eZ]
          exact w0.tw
        · have e : (M.nodes.set i0 m9).map (fun m => PyData.str m.label) = M.nodes.map fun m => PyData.str m.label := by
            have := congrArg (List.map PyData.str) lab9
            rw [List.map_map, List.map_map] at this
            exact this
          show Td H10 Z'.la (.tuple ((M.nodes.set i0 m9).map fun m => PyData.str m.label))
          rw [e, eZ]
          exact w0.la
        · obtain ⟨z0, r0, e5, e6⟩ := q.r.top
          rw [eZ]
          show ∃ z rest, zs1 ++ z9 :: zs2 = z :: rest ∧ Z.top = .ref z.na
          rw [ez] at e5
          cases zs1 with
          | nil =>
            cases e5
            exact ⟨z9, zs2, rfl, by rw [e6, ez9]⟩
          | cons a r =>
            cases e5
            exact ⟨z0, r ++ z9 :: zs2, rfl, e6⟩
        · rw [eZ]
          exact w0.done
        · rw [eZ]
          exact w0.kept
        · rw [eZ]
          exact w0.acc
        · rw [eZ]
          exact w0.stm
        · rw [eZ]
          exact w0.qs
      have w0 := q.w
      have hmem := List.mem_of_getElem? hm
      have hW : NetW M' := by
        rw [eM]
        refine ⟨wnd, w0.w4, ?_, ?_, ?_, ?_, w0.kept, ?_, ?_, ?_⟩
        · show ((M.nodes.set i0 m9).map (·.label)).Nodup
          rw [lab9]
          exact w0.nnd
        · show ((M.rows ++ [row0 m.label ch js]).map (·.child)).Nodup
          rw [List.map_append, List.nodup_append]
          refine ⟨w0.rnd, by simp, fun a ha b hb e => ?_⟩
          have hb : b = ch := by simpa [row0] using hb
          rw [e, hb] at ha
          exact hch2 ha
        · intro m2 h2
          rcases List.mem_or_eq_of_mem_set h2 with h2 | rfl
          · exact w0.cell _ h2
          · rw [em9]
            show m.cells.map (·.1) = M.words
            exact w0.cell _ hmem
        · intro r2 h2
          rcases List.mem_append.mp (show r2 ∈ M.rows ++ [row0 m.label ch js] from h2) with h2 | h2
          · exact w0.rcell _ h2
          · rw [List.mem_singleton.mp h2]
            show (js.map fun j => (j.1, (0 : Int), j.2.2)).map (·.1) = M.words
            rw [← hjw, List.map_map]
            rfl
        · show (M.nodes.set i0 m9).length ≤ 12
          rw [List.length_set]
          exact w0.n12
        · show (M.rows ++ [row0 m.label ch js]).length ≤ 1000
          rw [List.length_append]
          exact h1000
        · intro m2 h2
          rcases List.mem_or_eq_of_mem_set h2 with h2 | rfl
          · exact w0.kids _ h2
          · rw [em9]
            refine ⟨?_, ?_⟩
            · show (m.kids ++ [ch]).Nodup
              rw [List.nodup_append]
              refine ⟨(w0.kids _ hmem).1, by simp, fun a ha b hb e => ?_⟩
              rw [List.mem_singleton.mp hb] at e
              rw [e, ← zr.kids] at ha
              exact hkid ha
            · show (m.kids ++ [ch]).length ≤ 1000
              rw [List.length_append]
              exact hk1000
      have hnx : Z'.nx = g.nx := by
        rw [← q.nx, eZ]
        show (zs1 ++ z9 :: zs2).map _ = Z.nodes.map _
        rw [ez, ez9]
        simp
      have wt : Went H H10 g ⟨Z'.ps c, Z'.nx⟩ := by
        refine ⟨(Keeps.of S).trans k10, fun p hp => ?_, fun x hx => by rw [hnx]; exact hx⟩
        have hp : p ∈ (objs c Z').map (·.1) := hp
        have e : (objs c Z').map (·.1) = (objs c Z).map (·.1) ++ (rowO c y).map (·.1) := by
          rw [eZ]
          unfold objs
          rw [ez, ez9]
          simp [netO, nodeO, rowO]
        rw [e] at hp
        rcases List.mem_append.mp hp with hp | hp
        · obtain ⟨x, hx, rfl⟩ := List.mem_map.mp hp
          exact .inl (inS x hx)
        · obtain ⟨x, hx, rfl⟩ := List.mem_map.mp hp
          exact .inr (fex x hx)
      have hzi : Z'.nodes[i0]? = some z9 := by
        rw [eZ]
        show (zs1 ++ z9 :: zs2)[i0]? = some z9
        rw [List.getElem?_append_right (by omega), hlen, Nat.sub_self]
        rfl
      have hmi : M'.nodes[i0]? = some m9 := by
        rw [eM]
        show (M.nodes.set i0 m9)[i0]? = some m9
        obtain ⟨hl, _⟩ := List.getElem?_eq_some_iff.mp hm
        exact List.getElem?_set_self hl
      have em9l : m9.label = m.label := by rw [em9]
      refine ⟨_, rfl, _, rfl, _, rfl, _, rfl, n, z.na, ch, ⟨Z'.ps c, Z'.nx⟩, M', Z', i0, z9, m9, Z.rows, y, M.rows, js, by rw [ey2]; rfl, ⟨by rw [eZ]; exact q.n, rfl, rfl, hH, hR, hW⟩, hzi, by rw [ez9], hmi, by rw [em9]; exact hmc, by rw [eM]; exact hjw, by rw [eZ], by rw [eM, em9l], ?_, ?_, fun H' g' w a => k H' g' (wt.trans w) ?_⟩
      · rw [eM]
        show ch ∉ (M.nodes.set i0 m9).map (·.label)
        rw [lab9]
        exact hch
      · rw [eM]
        show (M.nodes.set i0 m9).length < 12
        rw [List.length_set]
        exact h12
      · rw [eM, em9l] at a
        rw [em9] at a
        exact a
end
end K02
set_option Elab.async false
set_option linter.all false
set_option maxRecDepth 100000
set_option maxHeartbeats 4000000
namespace K02
open PySem L2 EX PyProof.Rows LamX
open NZ
abbrev sJn : Stmt := inClass (top 63) 14
theorem scJn : FnScope ["self", "name", "parent", "allowances", "above", "key", "pairs", "least"] ["self", "name", "parent", "allowances"] (defScope sJn) := ⟨rfl, rfl, rfl, by decide +kernel, rfl, by decide +kernel, by decide +kernel⟩
def spWordB (K : PySem.W.Frag) : Sp := fun vs H Q _ => ∃ x : V, vs = [x] ∧ ((∃ s, x = .str s ∧ s.length ≤ sizeLine ∧ Q (.bl (isW s)) H) ∨ (StrB K H x false ∧ Q (.bl false) H))
/-- the places of the errors' classes -/
structure Xs where
  IN : Addr
  NT : Addr
  UN : Addr
  IA : Addr
  LE : Addr
  NR : Addr
  TL : Addr
def joinDeed (s u : Str) (js : Js) : PyData := .tuple [.str "join", .str s, .str u, .tuple (js.map fun j => .tuple [.str j.1, .int j.2.2])]
def joinD (M : NetM) (i : Nat) (m : NodeM) (ch : Str) (js : Js) : NetM := joinM { M with done := M.done ++ [joinDeed ch m.label js] } i m ch js
def spJoin (K : PySem.W.Frag) (c : Cs) (X : Xs) : Sp := fun vs H Q E => ∃ (n : Addr) (g : Sg) (M : NetM) (x up al : V), vs = [.ref n, x, up, al] ∧ NetA c H n g M ∧
  ((((∃ s, x = .str s ∧ s.length ≤ sizeLine ∧ isW s = false) ∨ StrB K H x false) ∧ Rais E H X.IN "given" x) ∨
  ∃ s, x = .str s ∧ isW s = true ∧
    (((s ∈ M.nodes.map (·.label) ∨ s ∈ M.rows.map (·.child)) ∧ Rais E H X.NT "node" x) ∨
    (s ∉ M.nodes.map (·.label) ∧ s ∉ M.rows.map (·.child) ∧
      ((BadOf K H (M.nodes.map (·.label)) up ∧ Rais E H X.UN "node" up) ∨
      ∃ (i : Nat) (m : NodeM), up = .str m.label ∧ M.nodes[i]? = some m ∧
        ((AllowArg K H al M.words false ∧ Rais E H X.IA "given" al) ∨
        (AllowArg K H al M.words true ∧
          ((12 ≤ M.nodes.length ∧ Rais E H X.LE "limit" (.int 12)) ∨
          (M.nodes.length < 12 ∧
            (((∃ k, (k, none) ∈ m.cells) ∧ Rais E H X.NR "node" up) ∨
            ∃ (js : Js) (d : Addr) (kvs : List (Key × V)), m.cells = (js.map fun j => (j.1, some j.2.1)) ∧ al = .ref d ∧ H d = some (.dK kvs) ∧ (∀ j ∈ js, valV kvs (Sum.inr j.1) = some (.int j.2.2)) ∧
              ((∃ (i : Nat) (j : Str × CellM × Int), js[i]? = some j ∧ (∀ j' ∈ js.take i, j'.2.1.alw ≤ j'.2.2) ∧ j.2.2 < j.2.1.alw ∧ Rais E H X.TL "least" (.int j.2.1.alw)) ∨
              ((∀ j ∈ js, j.2.1.alw ≤ j.2.2) ∧ M.rows.length < 1000 ∧ m.kids.length < 1000 ∧ M.done.length < 1000 ∧ ∀ H' g', Went H H' g g' → NetA c H' n g' (joinD M i m s js) → Q .non H')))))))))))
section
variable {P : Program} {w : World} {K : PySem.W.Frag} {mg : Str → Option Value} {base : Heap}
theorem ok_wordB {f : Addr} {fd : FuncData} (F : Fun K "is_word" "is_word" sWrd f fd) (B : Bn mg) : FnOk P w K mg base CX0 1 f fd ["obj"] (spWordB K) := by
  refine F.ok scWrd (fun vs H Q E h => ?_) (fun cdv A outer s H vs Q E hr h => ?_)
  · obtain ⟨x, rfl, _⟩ := h
    rfl
  · obtain ⟨x, rfl, hx⟩ := h
    refine ⟨_, (pss_cons (ps_if (PW.pt (pw_or (pt_not (pt_val (pe_callB call_isi (by rfl) B.isi PyProof.Rows.boot_isinstance (pa_cons (pv 0) (pa_cons (pe_bltn (v := .ty "str") (by rfl) B.str (by decide +kernel) rfl) pa_nil))))) (pw_or1 (pt_cmpR op_gt (pe_callB call_len_str (by rfl) B.len PySem.boot_len (pa_cons (pv 0) pa_nil)) (pe_glob (v := .int _) (by rfl) B.lw.choose_spec ⟨_, rfl⟩) (nomark _))))) (pss_one (ps_ret pe_bl)) pss_nil)
        (pss_one (ps_ret (pe_and (pe_m0 PySem.F.slot_str_isascii PySem.F.type_str_isascii mt_isascii (pv 0)) (pe_and (pe_m0 PySem.F.slot_str_isalpha PySem.F.type_str_isalpha mt_isalpha (pv 0)) (pe_one (pe_m0 PySem.F.slot_str_islower PySem.F.type_str_islower mt_islower (pv 0)))))))), ?_⟩
    rcases hx with ⟨x, rfl, hz, k⟩ | ⟨⟨t, ty, hk⟩, k⟩
    · refine ⟨_, rfl, _, _, _, _, true, rfl, .ty _, .base (.str _), kit_ty (by decide +kernel), _, rfl, iteF ?_⟩
      refine ⟨_, rfl, x, rfl, hz, _, _, rfl, rfl, _, rfl, ite2 (fun h => ?_) (fun h => ?_)⟩
      · unfold isW at k
        rw [h, Bool.not_true, Bool.false_and] at k
        exact k
      · unfold isW at k
        rw [show decide (8 < (x.length : Int)) = false by simpa using h, Bool.not_false, Bool.true_and] at k
        refine ⟨_, rfl, ⟨_, rfl⟩, _, rfl, rfl, trivial, _, rfl, ite2 (fun h1 => ?_) (fun h1 => ?_)⟩
        · rw [h1, Bool.true_and] at k
          refine ⟨_, rfl, ⟨_, rfl⟩, _, rfl, rfl, trivial, _, rfl, ite2 (fun h2 => ?_) (fun h2 => ?_)⟩
          · rw [h2, Bool.true_and] at k
            exact ⟨_, rfl, ⟨_, rfl⟩, _, rfl, rfl, trivial, k⟩
          · rw [show Txt.isalpha x = false by simpa using h2, Bool.false_and] at k
            exact k
        · rw [show Txt.isascii x = false by simpa using h1, Bool.false_and] at k
          exact k
    · exact ⟨_, rfl, _, _, _, _, false, rfl, .ty _, ty, hk, _, rfl, iteT k⟩
theorem ok_join {c : Cs} {X : Xs} {N f : Addr} {fd : FuncData} (F : Fun K "join" "Net.join" sJn f fd) (B : Bn mg) (T : NetC K c.N) (TC : CacheC K c.C) (mN : mg "Net" = some (.ref N)) (RC : ClX.CRead K N (.type "type")) (VC : ∃ t, ClX.CVal K N (.type "type") "MOST" (.int 12) (.int 12 t)) (XIN : XrAt P w K mg base "InvalidName" "given" X.IN) (XNT : XrAt P w K mg base "NameTaken" "node" X.NT) (XUN : XrAt P w K mg base "UnknownNode" "node" X.UN) (XIA : XrAt P w K mg base "InvalidAllowance" "given" X.IA) (XLE : XrAt P w K mg base "LimitExceeded" "limit" X.LE) (XNR : XrAt P w K mg base "NotReady" "node" X.NR) (XTL : XrAt P w K mg base "TooLow" "least" X.TL) (GWb : DefAt P w K mg base 1 "is_word" ["obj"] (spWordB K)) (GAa : DefAt P w K mg base 2 "are_allowances" ["obj", "keys"] (spAlws K)) (GAc : DefAt P w K mg base 4 "add_child" ["net", "node", "child", "pairs"] (spAdd c)) : FnOk P w K mg base (L2.CX P w) 5 f fd ["self", "name", "parent", "allowances"] (spJoin K c X) := by
  refine F.okX scJn (fun vs H Q E h => ?_) (fun cdv A outer s H vs Q E hr h => ?_)
  · obtain ⟨n, g, M, x, up, al, rfl, _⟩ := h
    rfl
  · obtain ⟨n, g, M, x, up, al, rfl, ⟨Z, q⟩, k⟩ := h
    have hu := hu_of hr
    have hn := q.at_n
    have hnd : H Z.nd = some (.dK (nodesK Z.nodes)) := q.h.at_net 1
    have hrd : H Z.rd = some (.dK (rowsK Z.rows)) := q.h.at_net 2
    refine ⟨_, (pss_cons (ps_if (pt_not (pt_val (pe_callD GWb (hr.mono (by decide)) (pa_cons (pv 1) pa_nil)))) (pss_one (ps_raiseE XIN (hr.mono (by decide)) rfl (takes_of rfl rfl rfl rfl) (pv 1))) pss_nil)
        (pss_cons (ps_if (PW.pt (pw_or (pt_cmp (pc_din hu (pv 1) (pe_fld (pv 0) rfl))) (pw_or1 (pt_cmp (pc_din hu (pv 1) (pe_fld (pv 0) rfl)))))) (pss_one (ps_raiseE XNT (hr.mono (by decide)) rfl (takes_of rfl rfl rfl rfl) (pv 1))) pss_nil)
        (pss_cons (ps_if (PW.pt (pw_or (pt_not (pt_val (pe_callB call_isi (by rfl) B.isi PyProof.Rows.boot_isinstance (pa_cons (pv 2) (pa_cons (pe_bltn (v := .ty "str") (by rfl) B.str (by decide +kernel) rfl) pa_nil))))) (pw_or1 (pt_cmp (pc_dnotin hu (pv 2) (pe_fld (pv 0) rfl)))))) (pss_one (ps_raiseE XUN (hr.mono (by decide)) rfl (takes_of rfl rfl rfl rfl) (pv 2))) pss_nil)
        (pss_cons (ps_if (pt_not (pt_val (pe_callD GAa (hr.mono (by decide)) (pa_cons (pv 3) (pa_cons (pe_fld (pv 0) rfl) pa_nil))))) (pss_one (ps_raiseE XIA (hr.mono (by decide)) rfl (takes_of rfl rfl rfl rfl) (pv 3))) pss_nil)
        (pss_cons (ps_if (pt_cmpR op_ge (pe_callB call_lenD (by rfl) B.len PySem.boot_len (pa_cons (pe_fld (pv 0) rfl) pa_nil)) (ClX.pe_cval (pe_glob (v := .ref N) (by rfl) mN rfl)) (nomark _)) (pss_one (ps_raiseE XLE (hr.mono (by decide)) rfl (takes_of rfl rfl rfl rfl) (ClX.pe_cval (pe_glob (v := .ref N) (by rfl) mN rfl)))) pss_nil)
        (pss_cons (ps_set (i := 4) scJn.nd rfl (Or.inl rfl) (pe_dget hu (pe_fld (pv 0) rfl) (pv 2) (fun _ _ => rfl)))
        (pss_cons (ps_for (passes_of rfl) rfl (pi_tup (pe_fld (pv 0) rfl)) (pg_name (i := 5) scJn.nd rfl (Or.inl rfl)) (pss_one (ps_if (pt_cmp (pc_isN (pe_dget hu (pe_fld (pv 4) rfl) (pv 5) (fun _ _ => rfl)))) (pss_one (ps_raiseE XNR (hr.mono (by decide)) rfl (takes_of rfl rfl rfl rfl) (pv 2))) pss_nil)))
        (pss_cons (ps_set (i := 6) scJn.nd rfl (Or.inl rfl) (pe_lst pa_nil))
        (pss_cons (ps_for (passes_of rfl) rfl (pi_tup (pe_fld (pv 0) rfl)) (pg_name (i := 5) scJn.nd rfl (Or.inl rfl)) (pss_cons (ps_set (i := 7) scJn.nd rfl (Or.inl rfl) (pe_ix ix_tup (pe_dget hu (pe_fld (pv 4) rfl) (pv 5) (fun _ _ => rfl)) pe_int (fun _ _ => rfl)))
        (pss_cons (ps_if (pt_cmpR op_lt (pe_dget hu (pv 3) (pv 5) (fun _ _ => rfl)) (pv 7) (nomark _)) (pss_one (ps_raiseE XTL (hr.mono (by decide)) rfl (takes_of rfl rfl rfl rfl) (pv 7))) pss_nil)
        (pss_one (ps_expr (pe_bm PySem.F.plainAttrs_list PySem.F.slot_list_append PySem.F.type_list_append mt_append (pv 6) (pa_cons (pe_tup (pa_cons (pv 5) (pa_cons (pe_dget hu (pv 3) (pv 5) (fun _ _ => rfl)) pa_nil))) pa_nil)))))))
        (pss_cons (ps_expr (pe_bm PySem.F.plainAttrs_list PySem.F.slot_list_append PySem.F.type_list_append mt_append (pe_fld (pv 0) rfl) (pa_cons (pe_tup (pa_cons pe_str (pa_cons (pv 1) (pa_cons (pv 2) (pa_cons (pe_tupleOf (by rfl) B.tuple (pv 6)) pa_nil))))) pa_nil)))
        (pss_one (ps_expr (pe_callD GAc (hr.mono (by decide)) (pa_cons (pv 0) (pa_cons (pv 4) (pa_cons (pv 1) (pa_cons (pv 6) pa_nil))))))))))))))))), ?_⟩
    rcases k with ⟨hx, kE⟩ | ⟨s, rfl, hs, k⟩
    · rcases hx with ⟨s, rfl, hl, hw⟩ | hx
      · refine ⟨_, rfl, _, rfl, .inl ⟨s, rfl, hl, _, rfl, ifT (by rw [hw]; rfl) ?_⟩⟩
        exact ⟨_, rfl, fun d H' s hd e => kE d H' s hd e⟩
      · refine ⟨_, rfl, _, rfl, .inr ⟨hx, _, rfl, iteT ?_⟩⟩
        exact ⟨_, rfl, fun d H' s hd e => kE d H' s hd e⟩
    refine ⟨_, rfl, _, rfl, .inl ⟨s, rfl, isW_len hs, _, rfl, ifF (by rw [hs]; rfl) ?_⟩⟩
    have lnodes : Z.nodes.length = M.nodes.length := pr_len q.r.nodes
    have hN1 : (valV (nodesK Z.nodes) (Sum.inr s)).isSome = decide (s ∈ M.nodes.map (·.label)) := by
      by_cases w : s ∈ M.nodes.map (·.label)
      · rw [decide_eq_true w]
        rw [← q.labels] at w
        obtain ⟨z, hz, rfl⟩ := List.mem_map.mp w
        rw [q.nodeV hz]
        rfl
      · rw [decide_eq_false w, nodesK_none (by rw [q.labels]; exact w)]
        rfl
    have hR1 : (valV (rowsK Z.rows) (Sum.inr s)).isSome = decide (s ∈ M.rows.map (·.child)) := by
      by_cases w : s ∈ M.rows.map (·.child)
      · rw [decide_eq_true w]
        rw [← q.childs] at w
        obtain ⟨z, hz, rfl⟩ := List.mem_map.mp w
        rw [q.rowV hz]
        rfl
      · rw [decide_eq_false w, rowsK_none (by rw [q.childs]; exact w)]
        rfl
    rcases k with ⟨hin, kE⟩ | ⟨hsn, hsr, k⟩
    · refine ⟨_, rfl, _, rfl, n, c.N, _, _, _, rfl, hn, T.cl, T.f_nodes, rfl, Z.nd, _, rfl, .inl ⟨_, Sum.inr s, .inl hnd, rfl, rfl⟩, _, rfl, ?_⟩
      by_cases w : s ∈ M.nodes.map (·.label)
      · refine ifT (hN1.trans (decide_eq_true w)) ?_
        exact ⟨_, rfl, fun d H' s hd e => kE d H' s hd e⟩
      · refine ifF (hN1.trans (decide_eq_false w)) ?_
        refine ⟨_, rfl, _, rfl, n, c.N, _, _, _, rfl, hn, T.cl, T.f_rows, rfl, Z.rd, _, rfl, .inl ⟨_, Sum.inr s, .inl hrd, rfl, rfl⟩, _, rfl, ?_⟩
        refine ifT (hR1.trans (decide_eq_true (hin.resolve_left w))) ?_
        exact ⟨_, rfl, fun d H' s hd e => kE d H' s hd e⟩
    refine ⟨_, rfl, _, rfl, n, c.N, _, _, _, rfl, hn, T.cl, T.f_nodes, rfl, Z.nd, _, rfl, .inl ⟨_, Sum.inr s, .inl hnd, rfl, rfl⟩, _, rfl, ?_⟩
    refine ifF (hN1.trans (decide_eq_false hsn)) ?_
    refine ⟨_, rfl, _, rfl, n, c.N, _, _, _, rfl, hn, T.cl, T.f_rows, rfl, Z.rd, _, rfl, .inl ⟨_, Sum.inr s, .inl hrd, rfl, rfl⟩, _, rfl, ?_⟩
    refine ifF (hR1.trans (decide_eq_false hsr)) ?_
    rcases k with ⟨hb, kE⟩ | ⟨i0, m, rfl, hm, k⟩
    · rcases hb with ⟨u, rfl, hu2⟩ | ⟨t, ty, hk⟩
      · refine ⟨_, rfl, _, _, _, _, true, rfl, .ty _, .base (.str _), kit_ty (by decide +kernel), _, rfl, iteF ?_⟩
        refine ⟨_, rfl, _, rfl, n, c.N, _, _, _, rfl, hn, T.cl, T.f_nodes, rfl, Z.nd, _, rfl, .inl ⟨_, Sum.inr u, .inl hnd, rfl, rfl⟩, _, rfl, ?_⟩
        refine ifT (by rw [nodesK_none (by rw [q.labels]; exact hu2)]; rfl) ?_
        exact ⟨_, rfl, fun d H' s hd e => kE d H' s hd e⟩
      · refine ⟨_, rfl, _, _, _, _, false, rfl, .ty _, ty, hk, _, rfl, iteT ?_⟩
        exact ⟨_, rfl, fun d H' s hd e => kE d H' s hd e⟩
    obtain ⟨z, hz, zr⟩ := pr_get' q.r.nodes hm
    have hzm := List.mem_of_getElem? hz
    have hzv := q.nodeV hzm
    rw [show z.label = m.label from zr.label] at hzv
    obtain ⟨tw, xs, etw, htw, hxs⟩ := td_tup q.r.tw
    rw [td_strsV hxs] at htw
    have w4 := q.w.w4
    refine ⟨_, rfl, _, _, _, _, true, rfl, .ty _, .base (.str _), kit_ty (by decide +kernel), _, rfl, iteF ?_⟩
    refine ⟨_, rfl, _, rfl, n, c.N, _, _, _, rfl, hn, T.cl, T.f_nodes, rfl, Z.nd, _, rfl, .inl ⟨_, Sum.inr m.label, .inl hnd, rfl, rfl⟩, _, rfl, ?_⟩
    refine ifF (by rw [hzv]; rfl) ?_
    rcases k with ⟨hal, kE⟩ | ⟨hal, k⟩
    · refine ⟨_, rfl, _, rfl, n, c.N, _, _, _, rfl, hn, T.cl, T.f_words, rfl, al, tw, M.words, false, by rw [← etw]; rfl, htw, w4, hal, _, rfl, iteT ?_⟩
      exact ⟨_, rfl, fun d H' s hd e => kE d H' s hd e⟩
    refine ⟨_, rfl, _, rfl, n, c.N, _, _, _, rfl, hn, T.cl, T.f_words, rfl, al, tw, M.words, true, by rw [← etw]; rfl, htw, w4, hal, _, rfl, iteF ?_⟩
    obtain ⟨tv, cv⟩ := VC
    have elen : ((nodesK Z.nodes).length : Nat) = M.nodes.length := by rw [List.length_map, lnodes]
    refine ⟨_, rfl, n, c.N, _, _, _, rfl, hn, T.cl, T.f_nodes, rfl, Z.nd, _, rfl, hnd, N, _, _, _, rfl, RC, cv, _, _, rfl, rfl, _, rfl, ?_⟩
    rw [elen]
    rcases k with ⟨h12, kE⟩ | ⟨h12, k⟩
    · refine ifT (decide_eq_true (by omega)) ?_
      exact ⟨N, _, _, _, rfl, RC, cv, fun d H' s hd e => kE d H' s hd e⟩
    refine ifF (decide_eq_false (by omega)) ?_
    have hgu : DGet H Z.nd (.str m.label) (some (.ref z.na)) := .inl ⟨_, Sum.inr m.label, .inl hnd, rfl, hzv.symm⟩
    refine ⟨_, rfl, n, c.N, _, _, _, rfl, hn, T.cl, T.f_nodes, rfl, _, rfl, Z.nd, _, rfl, hgu, ?_⟩
    have hN := NodeH.of q.h hzm
    have mc : m.cells.map (·.1) = M.words := q.w.cell _ (List.mem_of_getElem? hm)
    have zk : z.cells.map (·.1) = M.words := (pr_keys (fun _ _ w => w.1) zr.cells).trans mc
    have wnd := q.w.wnd
    have kN : ∀ k0, (k0, none) ∈ m.cells → Rais E H X.NR "node" (.str m.label) := by
      rcases k with ⟨_, kE⟩ | ⟨js, d, kvs, hmc, _⟩
      · exact fun _ _ => kE
      · intro k0 h0
        rw [hmc] at h0
        obtain ⟨j, _, e⟩ := List.mem_map.mp h0
        cases e
    refine ⟨_, rfl, n, c.N, _, _, _, rfl, hn, T.cl, T.f_words, rfl, tw, etw, ⟨_, SqT.of htw⟩, ?_⟩
    refine for_it (walk_tup (K := K) (a := tw) (xs := strV M.words)) (fun i σ' Hh => ∃ v5, σ' = [some (.ref n), some (.str s), some (.str m.label), some al, some (.ref z.na), v5, none, none] ∧ Hh = H ∧ ∀ p ∈ m.cells.take i, p.2 ≠ none) ⟨none, rfl, rfl, fun p hp => nomatch hp⟩ (fun i σ' Hh _ w => by obtain ⟨_, _, e, _⟩ := w; rw [e]; exact SqT.of htw) ?_ ?_
    · rintro i x σ' H1 H2 hi ⟨v5, rfl, e1, hall⟩ ⟨e2, hx⟩
      obtain ⟨s', rfl, hs'⟩ := strV_get hx
      have e3 : H2 = H := by first | exact e2.trans e1 | exact e2.symm.trans e1
      subst e3
      rw [← mc, List.getElem?_map] at hs'
      obtain ⟨⟨k0, o⟩, ho, rfl⟩ := Option.map_eq_some_iff.mp hs'
      obtain ⟨⟨p1a, p1b⟩, hp1, ep, hp2⟩ := pr_get' zr.cells ho
      cases ep
      have hv := strK_val (by rw [zk]; exact wnd) (List.mem_of_getElem? hp1)
      have hg1 : DGet H2 z.cd (.str k0) (some p1b) := .inl ⟨strK z.cells, Sum.inr k0, .inl hN.cd, rfl, hv.symm⟩
      refine ⟨_, rfl, z.na, c.C, _, _, _, rfl, hN.i, TC.cl, TC.cells, rfl, _, rfl, z.cd, _, rfl, hg1, ?_⟩
      refine ⟨_, rfl, ?_⟩
      cases o with
      | none =>
        cases hp2
        refine ifT (decide_eq_true rfl) ?_
        have kE := kN k0 (List.mem_of_getElem? ho)
        exact ⟨_, rfl, fun d H' s hd e => kE d H' s hd e⟩
      | some cm =>
        obtain ⟨t, qd, av, et, _⟩ := td_cell hp2
        cases et
        refine ifF isNone ⟨_, rfl, rfl, fun p hp => ?_⟩
        rw [List.take_add_one, ho] at hp
        rcases List.mem_append.mp hp with hp | hp
        · exact hall p hp
        · rw [show p = (k0, some cm) by simpa using hp]
          exact fun w => nomatch w
    rintro σ' H1 ⟨v5, rfl, rfl, hall⟩
    have emc : (strV M.words).length = m.cells.length := by rw [List.length_map, ← mc, List.length_map]
    rw [emc, List.take_length] at hall
    rcases k with ⟨⟨k0, h0⟩, _⟩ | ⟨js, d, kvs, hmc, rfl, hd, hkv, k⟩
    · exact absurd rfl (hall _ h0)
    have hjw : js.map (·.1) = M.words := by
      rw [← mc, hmc, List.map_map]
      rfl
    have elj : (strV M.words).length = js.length := by rw [List.length_map, ← hjw, List.length_map]
    have jnd : (js.map (·.1)).Nodup := by rw [hjw]; exact wnd
    have j4 : js.length ≤ 4 := by
      have e := congrArg List.length hjw
      rw [List.length_map] at e
      omega
    have kT : ∀ (i : Nat) (j : Str × CellM × Int), js[i]? = some j → (∀ j' ∈ js.take i, j'.2.1.alw ≤ j'.2.2) → j.2.2 < j.2.1.alw → Rais E H1 X.TL "least" (.int j.2.1.alw) := by
      intro i j hj hb hl
      rcases k with ⟨i1, j1, hj1, hb1, hl1, kE⟩ | ⟨hall, _⟩
      · have e : i = i1 := by
          rcases Nat.lt_trichotomy i i1 with w | w | w
          · have hm1 : j ∈ js.take i1 := List.mem_iff_getElem?.mpr ⟨i, by rw [List.getElem?_take_of_lt w]; exact hj⟩
            have := hb1 j hm1
            omega
          · exact w
          · have hm1 : j1 ∈ js.take i := List.mem_iff_getElem?.mpr ⟨i1, by rw [List.getElem?_take_of_lt w]; exact hj1⟩
            have := hb j1 hm1
            omega
        subst e
        cases hj.symm.trans hj1
        exact kE
      · have := hall j (List.mem_of_getElem? hj)
        omega
    refine ⟨by show 0 ≤ sizeLine; decide, fun pl hpl => ?_⟩
    refine ⟨_, rfl, n, c.N, _, _, _, rfl, (Same.upd hpl) _ _ hn, T.cl, T.f_words, rfl, tw, etw, ⟨_, SqT.of ((Same.upd hpl) _ _ htw)⟩, ?_⟩
    refine for_it (walk_tup (K := K) (a := tw) (xs := strV M.words)) (fun i σ' Hh => ∃ (v5 v7 : Option V) (ps : List V), σ' = [some (.ref n), some (.str s), some (.str m.label), some (.ref d), some (.ref z.na), v5, some (.ref pl), v7] ∧ Same H1 Hh ∧ Hh pl = some (.lst ps) ∧ PairsAt Hh ps (js.take i) ∧ ∀ j' ∈ js.take i, j'.2.1.alw ≤ j'.2.2)
      ⟨v5, none, [], rfl, Same.upd hpl, upd_same, .nil, fun p hp => nomatch hp⟩ (fun i σ' Hh _ w => by obtain ⟨_, _, _, _, S, _⟩ := w; exact SqT.of (S _ _ htw)) ?_ ?_
    · rintro i x σ' H2 H3 hi ⟨v5, v7, ps, rfl, S, lp, hps, hall2⟩ ⟨rfl, hx⟩
      obtain ⟨s', rfl, hs'⟩ := strV_get hx
      rw [← hjw, List.getElem?_map] at hs'
      obtain ⟨j, hj, rfl⟩ := Option.map_eq_some_iff.mp hs'
      have hcell : m.cells[i]? = some (j.1, some j.2.1) := by rw [hmc, List.getElem?_map, hj]; rfl
      obtain ⟨⟨p1a, p1b⟩, hp1, ep, hp2⟩ := pr_get' zr.cells hcell
      cases ep
      obtain ⟨t, qd, av, et, ht, _⟩ := td_cell hp2
      cases et
      have hv := strK_val (by rw [zk]; exact wnd) (List.mem_of_getElem? hp1)
      have hg1 : DGet H3 z.cd (.str j.1) (some (.ref t)) := .inl ⟨strK z.cells, Sum.inr j.1, .inl (S _ _ hN.cd), rfl, hv.symm⟩
      have hg2 : DGet H3 d (.str j.1) (some (.int j.2.2)) := .inl ⟨kvs, Sum.inr j.1, .inl (S _ _ hd), rfl, (hkv j (List.mem_of_getElem? hj)).symm⟩
      refine ⟨_, rfl, z.na, c.C, _, _, _, rfl, S _ _ hN.i, TC.cl, TC.cells, rfl, _, rfl, z.cd, _, rfl, hg1, t, _, _, _, rfl, rfl, SqT.of (S _ _ ht), atI_nat (j := 1) rfl, ?_⟩
      refine ⟨_, rfl, _, rfl, d, _, rfl, hg2, _, rfl, _, _, rfl, rfl, _, rfl, ite2 (fun hlt => ?_) (fun hlt => ?_)⟩
      · have kE := kT i j hj hall2 (by simpa using hlt)
        exact ⟨_, rfl, fun d H' s hd e => kE d H' (Same.trans S s) (S.free hd) e⟩
      have hle : j.2.1.alw ≤ j.2.2 := by simpa using hlt
      refine ⟨_, rfl, .inl ⟨rfl, _, SqL.of lp⟩, _, rfl, _, rfl, _, rfl, d, _, rfl, hg2, by show 2 ≤ sizeLine; decide, fun p hp => ?_⟩
      have S4 : Same H3 (upd H3 p (.tup [.str j.1, .int j.2.2])) := Same.upd hp
      have l4 : upd H3 p (HO.tup [.str j.1, .int j.2.2]) p = some (.tup [.str j.1, .int j.2.2]) := upd_same
      generalize upd H3 p (HO.tup [.str j.1, .int j.2.2]) = H4 at S4 l4 ⊢
      have lp4 := S4 _ _ lp
      have pll : ps.length < sizeLine := by
        have e := pr_len hps
        rw [List.length_take] at e
        rw [sizeLine_eq]
        omega
      refine ⟨pl, _, _, rfl, rfl, lp4, pll, ?_⟩
      have kt5 : KT H4 (upd H4 pl (.lst (ps ++ [.ref p]))) := KT.upd fun xs w => by rw [lp4] at w; cases w
      have S5 : Same H1 (upd H4 pl (.lst (ps ++ [.ref p]))) := EX.Same.updN (Same.trans S S4) hpl
      refine ⟨_, _, ps ++ [.ref p], rfl, S5, upd_same, ?_, ?_⟩
      · rw [List.take_add_one, hj]
        exact pr_app (pr_imp (fun _ _ w => by obtain ⟨p, e, h⟩ := w; exact ⟨p, e, kt5 _ _ (S4 _ _ h)⟩) hps) (.cons ⟨p, rfl, kt5 _ _ l4⟩ .nil)
      · intro j' hj'
        rw [List.take_add_one, hj] at hj'
        rcases List.mem_append.mp hj' with w | w
        · exact hall2 j' w
        · rw [show j' = j by simpa using w]
          exact hle
    rintro σ' H2 ⟨v5, v7, ps, rfl, S, lp, hps, hall2⟩
    rw [elj, List.take_length] at hps hall2
    rcases k with ⟨i1, j1, hj1, hb1, hl1, _⟩ | ⟨_, h1000, hk1000, hd1000, k⟩
    · have := hall2 j1 (List.mem_of_getElem? hj1)
      omega
    have hdn : H1 Z.dn = some (.lst Z.done) := q.h.at_net 3
    have hdl : Z.done.length = M.done.length := q.r.done.length
    have npl : pl ≠ Z.dn := (ne_by hdn hpl).symm
    refine ⟨_, rfl, n, c.N, _, _, _, rfl, S _ _ hn, T.cl, T.f_done, rfl, .inl ⟨rfl, _, SqL.of (S _ _ hdn)⟩, ?_⟩
    refine ⟨_, rfl, _, rfl, _, rfl, k_tup2 (.inl (SqL.of lp)) fun q0 H3 S3 hq0 => ⟨by show 4 ≤ sizeLine; decide, fun p hp => ?_⟩⟩
    have S4 : Same H3 (upd H3 p (.tup [.str "join", .str s, .str m.label, .ref q0])) := Same.upd hp
    have l4 : upd H3 p (HO.tup [.str "join", .str s, .str m.label, .ref q0]) p = some (.tup [.str "join", .str s, .str m.label, .ref q0]) := upd_same
    generalize upd H3 p (HO.tup [.str "join", .str s, .str m.label, .ref q0]) = H4 at S4 l4 ⊢
    have S24 := Same.trans S3 S4
    have S14 := Same.trans S S24
    refine ⟨Z.dn, _, _, rfl, rfl, S14 _ _ hdn, by rw [hdl, sizeLine_eq]; omega, ?_⟩
    have kt5 : KT H4 (upd H4 Z.dn (.lst (Z.done ++ [.ref p]))) := KT.upd fun xs w => by rw [S14 _ _ hdn] at w; cases w
    have q4 := q.mono S14
    have hH : NetH c (upd H4 Z.dn (.lst (Z.done ++ [.ref p]))) { Z with done := Z.done ++ [.ref p] } := q4.h.put_net (a := [(Z.n, .ins c.N Z.dx (netF Z)), (Z.nd, .dK (nodesK Z.nodes)), (Z.rd, .dK (rowsK Z.rows))]) (b := (netO c Z).drop 4) rfl rfl rfl rfl
    have sdn : Z.dn ∈ g.S := by
      rw [← q.ps]
      exact List.mem_map.mpr ⟨_, mem_net (.tail _ (.tail _ (.tail _ (.head _)))), rfl⟩
    have k5 : Keeps g.S H1 (upd H4 Z.dn (.lst (Z.done ++ [.ref p]))) := (Keeps.of S14).put sdn
    have lp5 : upd H4 Z.dn (.lst (Z.done ++ [.ref p])) pl = some (.lst ps) := (upd_ne npl).trans (S24 _ _ lp)
    have l5 := kt5 _ _ l4
    have l5' := kt5 _ _ (S4 _ _ hq0)
    have kt25 : KT H2 (upd H4 Z.dn (.lst (Z.done ++ [.ref p]))) := (KT.of S24).trans kt5
    have q5r := q4.r.mono kt5
    generalize upd H4 Z.dn (HO.lst (Z.done ++ [.ref p])) = H5 at hH k5 lp5 l5 l5' kt25 q5r ⊢
    have hps5 : PairsAt H5 ps js := pr_imp (fun _ _ w => by obtain ⟨p, e, h⟩ := w; exact ⟨p, e, kt25 _ _ h⟩) hps
    have hdeed : Td H5 (.ref p) (joinDeed s m.label js) := by
      refine .tup l5 (.cons (.str _) (.cons (.str _) (.cons (.str _) (.cons (.tup l5' ?_) .nil))))
      have : ∀ {ps : List V} {js : Js}, PairsAt H5 ps js → TdAll H5 ps (js.map fun j => .tuple [.str j.1, .int j.2.2]) := by
        intro ps js h
        induction h with
        | nil => exact .nil
        | cons h t ih =>
          obtain ⟨p, rfl, h⟩ := h
          exact .cons (.tup h (.cons (.str _) (.cons (.int _) .nil))) ih
      exact this hps5
    have hR : NetR H5 { Z with done := Z.done ++ [.ref p] } { M with done := M.done ++ [joinDeed s m.label js] } := ⟨q5r.nodes, q5r.rows, q5r.tw, q5r.la, q5r.top, q5r.done.append (.cons hdeed .nil), q5r.kept, q5r.acc, q5r.stm, q5r.qs⟩
    have w0 := q.w
    have hW : NetW { M with done := M.done ++ [joinDeed s m.label js] } := ⟨w0.wnd, w0.w4, w0.nnd, w0.rnd, w0.cell, w0.rcell, w0.kept, w0.n12, w0.r12, w0.kids⟩
    exact ⟨_, rfl, _, rfl, _, rfl, _, rfl, n, z.na, pl, s, g, _, { Z with done := Z.done ++ [.ref p] }, i0, z, m, ps, js, rfl, ⟨q.n, q.ps, q.nx, hH, hR, hW⟩, hz, rfl, hm, hmc, hjw, lp5, hps5, hsn, hsr, h12, h1000, hk1000, fun H' g' w a => k H' g' ((Went.of k5).trans w) a⟩
end
end K02
set_option Elab.async false
set_option linter.all false
set_option maxRecDepth 100000
set_option maxHeartbeats 4000000
namespace K02
open PySem L2 EX PyProof.Rows LamX
open NZ
abbrev sSd : Stmt := top 35
theorem scSd : FnScope ["node", "message", "row"] ["node", "message"] (defScope sSd) := ⟨rfl, rfl, rfl, by decide +kernel, rfl, by decide +kernel, by decide +kernel⟩
abbrev sAp : Stmt := top 36
theorem scAp : FnScope ["net", "key", "value", "top", "number", "row", "confirmed", "granted"] ["net", "key", "value"] (defScope sAp) := ⟨rfl, rfl, rfl, by decide +kernel, rfl, by decide +kernel, by decide +kernel⟩
def sendM (M : NetM) (ks : List Str) (d : PyData) : NetM := { M with rows := M.rows.map (sendR ks d) }
def spSend (c : Cs) : Sp := fun vs H Q _ => ∃ (na : Addr) (msg : V) (n : Addr) (g : Sg) (M : NetM) (Z : NetZ) (i : Nat) (z : NodeZ) (m : NodeM) (d : PyData), vs = [.ref na, msg] ∧ NetQ c H n g M Z ∧ Z.nodes[i]? = some z ∧ z.na = na ∧ M.nodes[i]? = some m ∧ Td H msg d ∧ (∀ r ∈ M.rows, r.down.length < 1000) ∧
  ∀ H', Keeps g.S H H' → NetA c H' n g (sendM M m.kids d) → Q .non H'
section
variable {P : Program} {w : World} {K : PySem.W.Frag} {mg : Str → Option Value} {base : Heap}
theorem ok_sd {c : Cs} {f : Addr} {fd : FuncData} (F : Fun K "send_to_children" "send_to_children" sSd f fd) (TC : CacheC K c.C) (TE : EntryC K c.E) : FnOk P w K mg base CX0 1 f fd ["node", "message"] (spSend c) := by
  refine F.ok scSd (fun vs H Q E h => ?_) (fun cdv A outer s H vs Q E hr h => ?_)
  · obtain ⟨na, msg, n, g, M, Z, i, z, m, d, rfl, _⟩ := h
    rfl
  · obtain ⟨na, msg, n, g, M, Z, i0, z, m, d, rfl, q, hz, rfl, hm, hmsg, hlen, k⟩ := h
    have hzm := List.mem_of_getElem? hz
    obtain ⟨m', hm', zr⟩ := pr_get q.r.nodes hz
    cases hm.symm.trans hm'
    have hN := NodeH.of q.h hzm
    have nt := q.notup
    have hkn := (q.w.kids _ (List.mem_of_getElem? hm)).1
    refine ⟨_, (pss_one (ps_lock (ps_for PassesOwn.never rfl (pi_values (pe_fld (pv 0) rfl)) (pg_name (i := 2) scSd.nd rfl (Or.inl rfl)) (pss_one (ps_if (pt_val (pe_fld (pv 2) rfl)) (pss_one (ps_expr (pe_bm PySem.F.plainAttrs_list PySem.F.slot_list_append PySem.F.type_list_append mt_append (pe_fld (pv 2) rfl) (pa_cons (pv 1) pa_nil)))) pss_nil))))), ?_⟩
    have hen := hN.en
    refine ⟨z.en, .dK (refK z.kids), hen, trivial, fun od => ?_⟩
    have nna : z.na ≠ z.en := fun e => by have := hN.i; rw [e, hen] at this; cases this
    have l3 : upd H z.en (.frz od (.dK (refK z.kids))) z.en = some (.frz od (.dK (refK z.kids))) := upd_same
    have li : upd H z.en (.frz od (.dK (refK z.kids))) z.na = some (.ins c.C z.dx (nodeF Z.n z)) := by rw [upd_ne nna]; exact hN.i
    have eU : upd (upd H z.en (.frz od (.dK (refK z.kids)))) z.en (.dK (refK z.kids)) = H := by
      rw [EX.upd_upd]
      funext x
      by_cases e : x = z.en
      · rw [e, upd_same, hen]
      · rw [upd_ne e]
    generalize upd H z.en (HO.frz od (.dK (refK z.kids))) = L at l3 li eU ⊢
    refine ⟨_, rfl, z.na, c.C, _, _, _, rfl, li, TC.cl, TC.entries, rfl, z.en, od, _, rfl, l3, ?_⟩
    refine for_it (walk_values (d := z.en) (o := od) (kvs := refK z.kids)) (fun i σ' Hh => ∃ (v : Option V) (rs : List RowZ), σ' = [some (.ref z.na), some msg, v] ∧ Hh z.en = some (.frz od (.dK (refK z.kids))) ∧ NetH c (upd Hh z.en (.dK (refK z.kids))) { Z with rows := rs } ∧ rs.map (fun r => (r.child, r.ra)) = ixOf Z ∧ Paired (RowR (upd Hh z.en (.dK (refK z.kids)))) rs (M.rows.map (sendR (m.kids.take i) d)) ∧ Keeps g.S H (upd Hh z.en (.dK (refK z.kids))) ∧ ({ Z with rows := rs } : NetZ).ps c = g.S)
      ⟨none, Z.rows, rfl, l3, by rw [eU]; exact q.h, rfl, ?_, by rw [eU]; exact Keeps.refl _ _, q.ps⟩ (fun i σ' Hh _ w => by obtain ⟨_, _, _, e, _⟩ := w; exact e) ?_ ?_
    · rw [eU, List.take_zero]
      have e : M.rows.map (sendR [] d) = M.rows := by
        conv => rhs; rw [← List.map_id M.rows]
        exact List.map_congr_left fun r _ => sendR_out (by simp)
      rw [e]
      exact q.r.rows
    · rintro i x σ' H1 H2 hi ⟨v, rs, rfl, lz, hH, eix, hrs, kk, eps⟩ ⟨rfl, kk0, hx⟩
      have hx : (refK z.kids)[i]? = some (kk0, x) := hx
      rw [List.getElem?_map] at hx
      obtain ⟨⟨ch, ra⟩, hki, e⟩ := Option.map_eq_some_iff.mp hx
      cases e
      have hmk : m.kids[i]? = some ch := by rw [← zr.kids, List.getElem?_map, hki]; rfl
      have hin := zr.kin _ (List.mem_of_getElem? hki)
      rw [← eix] at hin
      obtain ⟨y, hy, e⟩ := List.mem_map.mp hin
      cases e
      obtain ⟨j, hj⟩ := List.mem_iff_getElem?.mp hy
      obtain ⟨r', hr', hyr⟩ := pr_get hrs hj
      rw [List.getElem?_map] at hr'
      obtain ⟨r, hr, er⟩ := Option.map_eq_some_iff.mp hr'
      have hrc : r.child = y.child := by rw [hyr.child, ← er, sendR_child]
      have e0 : sendR (m.kids.take i) d r = r := sendR_out (by rw [hrc]; exact nd_at hkn hmk)
      rw [e0] at er
      subst er
      have hRH := RowH.of hH (y := y) hy
      have nra : y.ra ≠ z.en := fun e => by have := hRH.i; rw [e, upd_same] at this; cases this
      have ndq : y.dq ≠ z.en := fun e => by have := hRH.dq; rw [e, upd_same] at this; cases this
      have hri : H2 y.ra = some (.ins c.E y.dx (rowF y)) := by have := hRH.i; rw [upd_ne nra] at this; exact this
      have hrq : H2 y.dq = some (.lst y.down) := by have := hRH.dq; rw [upd_ne ndq] at this; exact this
      have hst := send_step (d := d) q.w.rnd (by rw [hrc]; exact hmk) hkn hr
      refine ⟨_, rfl, y.ra, c.E, _, _, _, rfl, hri, TE.cl, TE.there, rfl, _, rfl, ?_⟩
      cases hth : r.there with
      | false =>
        refine ifF (hyr.there.trans hth) ⟨_, rs, rfl, lz, hH, eix, ?_, kk, eps⟩
        rw [hst, hth]
        rw [if_neg Bool.false_ne_true]
        have e5 : (M.rows.map (sendR (m.kids.take i) d)).set j r = M.rows.map (sendR (m.kids.take i) d) := by
          refine List.ext_getElem? fun a => ?_
          rw [List.getElem?_set]
          by_cases h : j = a
          · subst h
            obtain ⟨hl, _⟩ := List.getElem?_eq_some_iff.mp hr
            rw [if_pos rfl, List.length_map, if_pos hl, List.getElem?_map, hr]
            show some r = some (sendR _ d r)
            rw [e0]
          · rw [if_neg h]
        rw [e5]
        exact hrs
      | true =>
        refine ifT (hyr.there.trans hth) ?_
        have hdl : y.down.length < sizeLine := by
          rw [hyr.down.length, sizeLine_eq]
          have := hlen r (List.mem_of_getElem? hr)
          omega
        refine ⟨_, rfl, y.ra, c.E, _, _, _, rfl, hri, TE.cl, TE.down, rfl, .inl ⟨rfl, _, SqL.of hrq⟩, _, rfl, y.dq, _, _, rfl, rfl, hrq, hdl, ?_⟩
        have esp : rs = rs.take j ++ y :: rs.drop (j + 1) := by
          have := set_mid (b := y) hj
          rw [← this]
          refine List.ext_getElem? fun a => ?_
          rw [List.getElem?_set]
          by_cases h : j = a
          · subst h
            obtain ⟨hl, _⟩ := List.getElem?_eq_some_iff.mp hj
            rw [if_pos rfl, if_pos hl, hj]
          · rw [if_neg h]
        have hH2 := row_down hH (xs := rs.take j) (ys := rs.drop (j + 1)) (y := y) esp (y.down ++ [msg])
        have hH3 : NetH c (upd (upd H2 z.en (.dK (refK z.kids))) y.dq (.lst (y.down ++ [msg]))) { Z with rows := rs.take j ++ { y with down := y.down ++ [msg] } :: rs.drop (j + 1) } := hH2
        rw [← set_mid hj, ← upd_swap ndq] at hH3
        have hmem : y.dq ∈ g.S := by
          rw [← eps]
          exact List.mem_map.mpr ⟨_, mem_row (z := { Z with rows := rs }) hy (.tail _ (.tail _ (.head _))), rfl⟩
        have kk3 := kk.put (o := .lst (y.down ++ [msg])) hmem
        have kt3 : KT (upd H2 z.en (.dK (refK z.kids))) (upd (upd H2 z.en (.dK (refK z.kids))) y.dq (.lst (y.down ++ [msg]))) := KT.upd fun xs w => by rw [hRH.dq] at w; cases w
        rw [← upd_swap ndq] at kk3 kt3
        have ktm := KT.keeps kk3 nt
        refine ⟨_, rs.set j { y with down := y.down ++ [msg] }, rfl, by rw [upd_ne ndq.symm]; exact lz, hH3, ?_, ?_, kk3, ?_⟩
        · rw [← eix]
          exact set_map_same (a := y) (b := { y with down := y.down ++ [msg] }) rfl hj
        · rw [hst, hth, if_pos rfl]
          refine pr_set (pr_imp (fun _ _ w => w.mono kt3) hrs) ?_
          have w := hyr.mono kt3
          exact ⟨w.child, w.above, w.dl, w.ul, w.cells, w.rais, w.there.trans hth, w.crashed, w.down.append (.cons (hmsg.mono ktm) .nil), w.up⟩
        · rw [← eps]
          unfold NetZ.ps objs
          have e6 : (rs.set j { y with down := y.down ++ [msg] }).flatMap (fun r => (rowO c r).map (·.1)) = rs.flatMap fun r => (rowO c r).map (·.1) := by
            rw [List.flatMap_def, List.flatMap_def]
            rw [set_map_same (a := y) (b := { y with down := y.down ++ [msg] }) rfl hj]
          simp only [List.map_append, List.map_flatMap, e6]
          rfl
    · rintro σ' H1 ⟨v, rs, rfl, lz, hH, eix, hrs, kk, eps⟩
      refine ⟨lz, ?_⟩
      have el : (refK z.kids).length = m.kids.length := by rw [List.length_map, ← zr.kids, List.length_map]
      rw [el, List.take_length] at hrs
      have kt := KT.keeps kk nt
      refine k _ kk ⟨{ Z with rows := rs }, q.n, eps, q.nx, hH, ?_, ?_⟩
      · have w := q.r.mono kt
        have e : ixOf { Z with rows := rs } = ixOf Z := eix
        refine ⟨?_, hrs, w.tw, w.la, w.top, w.done, w.kept, w.acc, w.stm, w.qs⟩
        rw [e]
        exact w.nodes
      · have w0 := q.w
        refine ⟨w0.wnd, w0.w4, w0.nnd, ?_, w0.cell, ?_, w0.kept, w0.n12, ?_, w0.kids⟩
        · show ((M.rows.map (sendR m.kids d)).map (·.child)).Nodup
          rw [send_childs]
          exact w0.rnd
        · intro r hr
          obtain ⟨r0, h0, rfl⟩ := List.mem_map.mp (show r ∈ M.rows.map (sendR m.kids d) from hr)
          rw [sendR_cells]
          exact w0.rcell _ h0
        · show (M.rows.map (sendR m.kids d)).length ≤ 1000
          rw [List.length_map]
          exact w0.r12
end
end K02
set_option Elab.async false
set_option linter.all false
set_option maxRecDepth 100000
set_option maxHeartbeats 4000000
/-! one row or one node of a net takes other data -/
namespace NZ
open PySem L2 EX PyProof.Rows
theorem set_split {α : Type} {l : List α} {j : Nat} {y : α} (hj : l[j]? = some y) : l = l.take j ++ y :: l.drop (j + 1) := by
  rw [← set_mid (b := y) hj]
  refine List.ext_getElem? fun a => ?_
  rw [List.getElem?_set]
  by_cases h : j = a
  · subst h
    obtain ⟨hl, _⟩ := List.getElem?_eq_some_iff.mp hj
    rw [if_pos rfl, if_pos hl, hj]
  · rw [if_neg h]
theorem set_same {α : Type} {l : List α} {j : Nat} {y : α} (hj : l[j]? = some y) : l.set j y = l := by
  rw [set_mid hj, ← set_split hj]
section
variable {c : Cs} {H H' : Hp} {n : Addr} {g : Sg} {M : NetM} {Z : NetZ} {j i : Nat}
theorem ps_rows {Z : NetZ} {rs : List RowZ} (h : rs.map (fun r => (rowO c r).map (·.1)) = Z.rows.map fun r => (rowO c r).map (·.1)) : ({ Z with rows := rs } : NetZ).ps c = Z.ps c := by
  unfold NetZ.ps objs
  have e6 : rs.flatMap (fun r => (rowO c r).map (·.1)) = Z.rows.flatMap fun r => (rowO c r).map (·.1) := by
    rw [List.flatMap_def, List.flatMap_def, h]
  simp only [List.map_append, List.map_flatMap, e6]
  rfl
theorem ps_nodes {Z : NetZ} {rs : List NodeZ} (h : rs.map (fun r => (nodeO c Z.n r).map (·.1)) = Z.nodes.map fun r => (nodeO c Z.n r).map (·.1)) : ({ Z with nodes := rs } : NetZ).ps c = Z.ps c := by
  unfold NetZ.ps objs
  have e6 : rs.flatMap (fun r => (nodeO c Z.n r).map (·.1)) = Z.nodes.flatMap fun r => (nodeO c Z.n r).map (·.1) := by
    rw [List.flatMap_def, List.flatMap_def, h]
  simp only [List.map_append, List.map_flatMap, e6]
  rfl
theorem NetQ.setRow (q : NetQ c H n g M Z) {y y' : RowZ} {r r' : RowM} (hy : Z.rows[j]? = some y) (hr : M.rows[j]? = some r) (hH : NetH c H' { Z with rows := Z.rows.set j y' })
    (hp : (rowO c y').map (·.1) = (rowO c y).map (·.1)) (hc : y'.child = y.child) (hra : y'.ra = y.ra) (hR : RowR H' y' r') (hrc : r'.cells.map (·.1) = r.cells.map (·.1)) (kt : KT H H') :
    NetQ c H' n g { M with rows := M.rows.set j r' } { Z with rows := Z.rows.set j y' } := by
  have eix : ixOf { Z with rows := Z.rows.set j y' } = ixOf Z := set_map_same (f := fun r : RowZ => (r.child, r.ra)) (a := y) (b := y') (by rw [hc, hra]) hy
  obtain ⟨r0, h0, hyr⟩ := pr_get q.r.rows hy
  cases hr.symm.trans h0
  have erc : r'.child = r.child := by rw [← hR.child, hc, hyr.child]
  have w0 := q.w
  have w := q.r.mono kt
  refine ⟨q.n, (ps_rows (set_map_same (a := y) (b := y') hp hy)).trans q.ps, q.nx, hH, ⟨?_, pr_set w.rows hR, w.tw, w.la, w.top, w.done, w.kept, w.acc, w.stm, w.qs⟩, ⟨w0.wnd, w0.w4, w0.nnd, ?_, w0.cell, ?_, w0.kept, w0.n12, ?_, w0.kids⟩⟩
  · rw [eix]
    exact w.nodes
  · show ((M.rows.set j r').map (·.child)).Nodup
    rw [set_map_same (a := r) (b := r') erc hr]
    exact w0.rnd
  · intro r2 h2
    rcases List.mem_or_eq_of_mem_set h2 with h2 | rfl
    · exact w0.rcell _ h2
    · rw [hrc]
      exact w0.rcell _ (List.mem_of_getElem? hr)
  · show (M.rows.set j r').length ≤ 1000
    rw [List.length_set]
    exact w0.r12
/-- a queue of a row -/
theorem NetQ.setDown (q : NetQ c H n g M Z) {y : RowZ} {r : RowM} (hy : Z.rows[j]? = some y) (hr : M.rows[j]? = some r) {ds : List V} {dm : List PyData} (hd : TdAll H ds dm) :
    NetQ c (upd H y.dq (.lst ds)) n g { M with rows := M.rows.set j { r with down := dm } } { Z with rows := Z.rows.set j { y with down := ds } } := by
  have hH := row_down q.h (set_split hy) ds
  rw [← set_mid hy] at hH
  obtain ⟨r0, h0, hyr⟩ := pr_get q.r.rows hy
  cases hr.symm.trans h0
  have kt : KT H (upd H y.dq (.lst ds)) := KT.upd fun xs w => by
    have := q.h.at_row (List.mem_of_getElem? hy) 2
    rw [this] at w
    cases w
  have w := hyr.mono kt
  exact q.setRow hy hr hH rfl rfl rfl ⟨w.child, w.above, w.dl, w.ul, w.cells, w.rais, w.there, w.crashed, hd.mono kt, w.up⟩ rfl kt
theorem NetQ.setCell (q : NetQ c H n g M Z) {z : NodeZ} {m : NodeM} {key : Str} {o : Option CellM} (hz : Z.nodes[j]? = some z) (hm : M.nodes[j]? = some m) (hc : m.cells[i]? = some (key, o)) {v : V} {c' : Option CellM} (hv : Td H v (cellD c')) :
    NetQ c (upd H z.cd (.dK (putK (strK z.cells) (Sum.inr key) v))) n g { M with nodes := M.nodes.set j { m with cells := m.cells.set i (key, c') } } { Z with nodes := Z.nodes.set j { z with cells := z.cells.set i (key, v) } } := by
  obtain ⟨m0, h0, zr⟩ := pr_get q.r.nodes hz
  cases hm.symm.trans h0
  have hmem := List.mem_of_getElem? hm
  have hzm := List.mem_of_getElem? hz
  have mc := q.w.cell _ hmem
  have zk : z.cells.map (·.1) = M.words := (pr_keys (fun _ _ w => w.1) zr.cells).trans mc
  obtain ⟨⟨p1a, p1b⟩, hp1, ep, hp2⟩ := pr_get' zr.cells hc
  cases ep
  rw [strK_set (v := v) (by rw [zk]; exact q.w.wnd) hp1]
  have hH := node_cells q.h (set_split hz) (z.cells.set i (key, v))
  rw [← set_mid hz] at hH
  have hcd : H z.cd = some (.dK (strK z.cells)) := q.h.at_node hzm 1
  have kt : KT H (upd H z.cd (.dK (strK (z.cells.set i (key, v))))) := KT.upd fun xs w => by
    rw [hcd] at w
    cases w
  have w := q.r.mono kt
  have zw := zr.mono kt
  have w0 := q.w
  have emc : (m.cells.set i (key, c')).map (·.1) = m.cells.map (·.1) := set_map_same (a := (key, o)) (b := (key, c')) rfl hc
  refine ⟨q.n, (ps_nodes (set_map_same (a := z) (b := { z with cells := z.cells.set i (key, v) }) rfl hz)).trans q.ps, ?_, hH, ⟨?_, w.rows, w.tw, ?_, ?_, w.done, w.kept, w.acc, w.stm, w.qs⟩, ⟨w0.wnd, w0.w4, ?_, w0.rnd, ?_, w0.rcell, w0.kept, ?_, w0.r12, ?_⟩⟩
  · rw [← q.nx]
    exact set_map_same (f := fun z : NodeZ => (z.label, z.na)) (a := z) (b := { z with cells := z.cells.set i (key, v) }) rfl hz
  · exact pr_set w.nodes ⟨zw.label, zw.above, zw.row, pr_set zw.cells ⟨rfl, hv.mono kt⟩, zw.kids, zw.kin, zw.kt⟩
  · show Td _ Z.la (.tuple ((M.nodes.set j { m with cells := m.cells.set i (key, c') }).map fun m => PyData.str m.label))
    rw [set_map_same (a := m) (b := { m with cells := m.cells.set i (key, c') }) rfl hm]
    exact w.la
  · obtain ⟨z0, r0, e5, e6⟩ := q.r.top
    show ∃ z1 rest, Z.nodes.set j { z with cells := z.cells.set i (key, v) } = z1 :: rest ∧ Z.top = .ref z1.na
    rw [e5] at hz ⊢
    cases j with
    | zero =>
      cases hz
      exact ⟨_, _, rfl, e6⟩
    | succ j => exact ⟨_, _, rfl, e6⟩
  · show ((M.nodes.set j { m with cells := m.cells.set i (key, c') }).map (·.label)).Nodup
    rw [set_map_same (a := m) (b := { m with cells := m.cells.set i (key, c') }) rfl hm]
    exact w0.nnd
  · intro m2 h2
    rcases List.mem_or_eq_of_mem_set h2 with h2 | rfl
    · exact w0.cell _ h2
    · exact emc.trans mc
  · show (M.nodes.set j { m with cells := m.cells.set i (key, c') }).length ≤ 12
    rw [List.length_set]
    exact w0.n12
  · intro m2 h2
    rcases List.mem_or_eq_of_mem_set h2 with h2 | rfl
    · exact w0.kids _ h2
    · show m.kids.Nodup ∧ m.kids.length ≤ 1000
      exact w0.kids _ hmem
theorem NetQ.addAcc (q : NetQ c H n g M Z) (k : Str) : NetQ c (upd H Z.ac (.lst (Z.acc ++ [.str k]))) n g { M with acc := M.acc ++ [k] } { Z with acc := Z.acc ++ [.str k] } := by
  have h0 : H Z.ac = some (.lst Z.acc) := q.h.at_net 5
  have kt : KT H (upd H Z.ac (.lst (Z.acc ++ [.str k]))) := KT.upd fun xs w => by rw [h0] at w; cases w
  have w := q.r.mono kt
  have w0 := q.w
  exact ⟨q.n, q.ps, q.nx, q.h.put_net (a := (netO c Z).take 5) (b := (netO c Z).drop 6) rfl rfl rfl rfl, ⟨w.nodes, w.rows, w.tw, w.la, w.top, w.done, w.kept, by show Z.acc ++ [V.str k] = (M.acc ++ [k]).map V.str; rw [w.acc, List.map_append]; rfl, w.stm, w.qs⟩, ⟨w0.wnd, w0.w4, w0.nnd, w0.rnd, w0.cell, w0.rcell, w0.kept, w0.n12, w0.r12, w0.kids⟩⟩
theorem NetQ.addStm (q : NetQ c H n g M Z) (k : Int) : NetQ c (upd H Z.sm (.lst (Z.stm ++ [.int k]))) n g { M with stm := M.stm ++ [k] } { Z with stm := Z.stm ++ [.int k] } := by
  have h0 : H Z.sm = some (.lst Z.stm) := q.h.at_net 6
  have kt : KT H (upd H Z.sm (.lst (Z.stm ++ [.int k]))) := KT.upd fun xs w => by rw [h0] at w; cases w
  have w := q.r.mono kt
  have w0 := q.w
  exact ⟨q.n, q.ps, q.nx, q.h.put_net (a := (netO c Z).take 6) (b := (netO c Z).drop 7) rfl rfl rfl rfl, ⟨w.nodes, w.rows, w.tw, w.la, w.top, w.done, w.kept, w.acc, by show Z.stm ++ [V.int k] = (M.stm ++ [k]).map V.int; rw [w.stm, List.map_append]; rfl, w.qs⟩, ⟨w0.wnd, w0.w4, w0.nnd, w0.rnd, w0.cell, w0.rcell, w0.kept, w0.n12, w0.r12, w0.kids⟩⟩
theorem NetQ.addDone (q : NetQ c H n g M Z) {v : V} {d : PyData} (hd : Td H v d) : NetQ c (upd H Z.dn (.lst (Z.done ++ [v]))) n g { M with done := M.done ++ [d] } { Z with done := Z.done ++ [v] } := by
  have h0 : H Z.dn = some (.lst Z.done) := q.h.at_net 3
  have kt : KT H (upd H Z.dn (.lst (Z.done ++ [v]))) := KT.upd fun xs w => by rw [h0] at w; cases w
  have w := q.r.mono kt
  have w0 := q.w
  exact ⟨q.n, q.ps, q.nx, q.h.put_net (a := (netO c Z).take 3) (b := (netO c Z).drop 4) rfl rfl rfl rfl, ⟨w.nodes, w.rows, w.tw, w.la, w.top, w.done.append (.cons (hd.mono kt) .nil), w.kept, w.acc, w.stm, w.qs⟩, ⟨w0.wnd, w0.w4, w0.nnd, w0.rnd, w0.cell, w0.rcell, w0.kept, w0.n12, w0.r12, w0.kids⟩⟩
theorem NetQ.setKept (q : NetQ c H n g M Z) {key : Str} {l l' : List Int} (hk : M.kept[i]? = some (key, l)) {v : V} (hv : Td H v (.tuple (l'.map PyData.int))) :
    NetQ c (upd H Z.kp (.dK (putK (strK Z.kept) (Sum.inr key) v))) n g { M with kept := M.kept.set i (key, l') } { Z with kept := Z.kept.set i (key, v) } := by
  have h0 : H Z.kp = some (.dK (strK Z.kept)) := q.h.at_net 4
  obtain ⟨⟨p1a, p1b⟩, hp1, ep, hp2⟩ := pr_get' q.r.kept hk
  cases ep
  have ek : Z.kept.map (·.1) = M.kept.map (·.1) := pr_keys (fun _ _ w => w.1) q.r.kept
  rw [strK_set (v := v) (by rw [ek, q.w.kept]; exact q.w.wnd) hp1]
  have kt : KT H (upd H Z.kp (.dK (strK (Z.kept.set i (key, v))))) := KT.upd fun xs w => by rw [h0] at w; cases w
  have w := q.r.mono kt
  have w0 := q.w
  refine ⟨q.n, q.ps, q.nx, q.h.put_net (a := (netO c Z).take 4) (b := (netO c Z).drop 5) rfl rfl rfl rfl, ⟨w.nodes, w.rows, w.tw, w.la, w.top, w.done, pr_set w.kept ⟨rfl, hv.mono kt⟩, w.acc, w.stm, w.qs⟩, ⟨w0.wnd, w0.w4, w0.nnd, w0.rnd, w0.cell, w0.rcell, ?_, w0.n12, w0.r12, w0.kids⟩⟩
  show (M.kept.set i (key, l')).map (·.1) = M.words
  rw [set_map_same (a := (key, l)) (b := (key, l')) rfl hk]
  exact w0.kept
theorem NetQ.in_net (q : NetQ c H n g M Z) (k : Nat) {x : Addr × HO} (e : (netO c Z)[k]? = some x := by rfl) : x.1 ∈ g.S := by
  rw [← q.ps]
  exact List.mem_map.mpr ⟨x, mem_net (List.mem_of_getElem? e), rfl⟩
theorem NetQ.in_node (q : NetQ c H n g M Z) {z : NodeZ} (hz : z ∈ Z.nodes) (k : Nat) {x : Addr × HO} (e : (nodeO c Z.n z)[k]? = some x := by rfl) : x.1 ∈ g.S := by
  rw [← q.ps]
  exact List.mem_map.mpr ⟨x, mem_node hz (List.mem_of_getElem? e), rfl⟩
theorem NetQ.in_row (q : NetQ c H n g M Z) {z : RowZ} (hz : z ∈ Z.rows) (k : Nat) {x : Addr × HO} (e : (rowO c z)[k]? = some x := by rfl) : x.1 ∈ g.S := by
  rw [← q.ps]
  exact List.mem_map.mpr ⟨x, mem_row hz (List.mem_of_getElem? e), rfl⟩
end
end NZ
set_option Elab.async false
set_option linter.all false
set_option maxRecDepth 100000
set_option maxHeartbeats 4000000
namespace K02
open PySem L2 EX PyProof.Rows LamX
open NZ
abbrev sWr : Stmt := inClass (top 63) 15
theorem scWr : FnScope ["self", "key", "value", "waiting", "number"] ["self", "key", "value"] (defScope sWr) := ⟨rfl, rfl, rfl, by decide +kernel, rfl, by decide +kernel, by decide +kernel⟩
def okCell (key : Str) (numb : Int) (r : RowM) : Bool := r.cells.all fun p => !decide (p.1 = key) || decide (numb - p.2.1 ≤ p.2.2)
/-- may the store take a value with this number -/
def accB (M : NetM) (ks : List Str) (key : Str) (numb : Int) : Bool := M.rows.all fun r => !decide (r.child ∈ ks) || okCell key numb r
def msgU (key : Str) (numb v : Int) : PyData := .tuple [.str "update", .str key, .int numb, .int v]
def newC (numb v : Int) : CellM := ⟨numb, v, 0, numb, none⟩
def accM (M : NetM) (m0 : NodeM) (i : Nat) (key : Str) (v numb : Int) : NetM := sendM { M with nodes := M.nodes.set 0 { m0 with cells := m0.cells.set i (key, some (newC numb v)) }, acc := M.acc ++ [key], stm := M.stm ++ [(M.done.length : Int)] } m0.kids (msgU key numb v)
/-- room for one more -/
structure Rooms (M : NetM) : Prop where
  down : ∀ r ∈ M.rows, r.down.length < 1000
  done : M.done.length < 1000
  acc : M.acc.length < 1000
  stm : M.stm.length < 1000
def spAcc (c : Cs) : Sp := fun vs H Q _ => ∃ (n : Addr) (key : Str) (v : Int) (g : Sg) (M : NetM) (i : Nat) (m0 : NodeM) (c0 : CellM), vs = [.ref n, .str key, .int v] ∧ NetA c H n g M ∧ M.nodes[0]? = some m0 ∧ m0.cells[i]? = some (key, some c0) ∧ Rooms M ∧
  (accB M m0.kids key (c0.told + 1) = true → ∀ H', Keeps g.S H H' → NetA c H' n g (accM M m0 i key v (c0.told + 1)) → Q (.int (c0.told + 1)) H') ∧ (accB M m0.kids key (c0.told + 1) = false → Q .non H)
theorem k_cat {K : PySem.W.Frag} {H : Hp} {a b : Addr} {xs ys : List V} {Q : VK} (ha : H a = some (.tup xs)) (hb : H b = some (.tup ys)) (hy : ys ≠ []) (hl : xs.length + ys.length ≤ sizeLine) (k : ∀ q H', Same H H' → H' q = some (.tup (xs ++ ys)) → Q (.ref q) H') : rCatA K (.ref a) (.ref b) H Q :=
  ⟨a, b, xs, ys, rfl, rfl, SqT.of ha, SqT.of hb, hl, fun e => k b H (Same.refl _) (by rw [e]; exact hb), fun _ e => absurd e hy, fun _ _ p hp => k p _ (Same.upd hp) upd_same⟩
theorem td_intsV {H : Hp} : ∀ {xs : List V} {l : List Int}, TdAll H xs (l.map PyData.int) → xs = l.map V.int
  | _, [], h => by
    cases h
    rfl
  | _, s :: l, h => by
    cases h with
    | cons a t =>
      cases a
      rw [td_intsV t]
      rfl
def wDeed (key : Str) (v : Int) : PyData := .tuple [.str "write", .str key, .int v]
def writeM (M : NetM) (m0 : NodeM) (i : Nat) (key : Str) (v : Int) (c0 : CellM) (l : List Int) : NetM :=
  if accB M m0.kids key (c0.told + 1) = true then accM { M with done := M.done ++ [wDeed key v] } m0 i key v (c0.told + 1)
  else { M with done := M.done ++ [wDeed key v], kept := M.kept.set i (key, l ++ [v]) }
def spWrite (c : Cs) : Sp := fun vs H Q _ => ∃ (n : Addr) (key : Str) (v : Int) (g : Sg) (M : NetM) (i : Nat) (m0 : NodeM) (c0 : CellM) (l : List Int), vs = [.ref n, .str key, .int v] ∧ NetA c H n g M ∧ M.nodes[0]? = some m0 ∧ m0.cells[i]? = some (key, some c0) ∧ M.kept[i]? = some (key, l) ∧ l.length < 20 ∧ Rooms { M with done := M.done ++ [wDeed key v] } ∧
  ∀ H' o, Keeps g.S H H' → NetA c H' n g (writeM M m0 i key v c0 l) → (o = if accB M m0.kids key (c0.told + 1) = true then .int (c0.told + 1) else .non) → Q o H'
section
variable {P : Program} {w : World} {K : PySem.W.Frag} {mg : Str → Option Value} {base : Heap}
theorem ok_ap {c : Cs} {f : Addr} {fd : FuncData} (F : Fun K "accept" "accept" sAp f fd) (B : Bn mg) (T : NetC K c.N) (TC : CacheC K c.C) (TE : EntryC K c.E) (GSd : DefAt P w K mg base 1 "send_to_children" ["node", "message"] (spSend c)) : FnOk P w K mg base CX0 2 f fd ["net", "key", "value"] (spAcc c) := by
  refine F.ok scAp (fun vs H Q E h => ?_) (fun cdv A outer s H vs Q E hr h => ?_)
  · obtain ⟨n, key, v, g, M, i, m0, c0, rfl, _⟩ := h
    rfl
  · obtain ⟨n, key, v, g, M, i0, m0, c0, rfl, ⟨Z, q⟩, hm, hmc, rm, kt1, kf⟩ := h
    have hu := hu_of hr
    have hn := q.at_n
    obtain ⟨z, hz, zr, _⟩ := q.node' hm
    have hzm := List.mem_of_getElem? hz
    obtain ⟨z', r', e5, etop⟩ := q.r.top
    have ez : z' = z := by
      rw [e5] at hz
      exact Option.some.inj hz
    subst ez
    have hN := NodeH.of q.h hzm
    have nt := q.notup
    have mc : m0.cells.map (·.1) = M.words := q.w.cell _ (List.mem_of_getElem? hm)
    have zk : z'.cells.map (·.1) = M.words := (pr_keys (fun _ _ w => w.1) zr.cells).trans mc
    have wnd := q.w.wnd
    have hwi : M.words[i0]? = some key := by rw [← mc, List.getElem?_map, hmc]; rfl
    obtain ⟨⟨p1a, p1b⟩, hp1, ep, hp2⟩ := pr_get' zr.cells hmc
    cases ep
    obtain ⟨t, qd, av, et, ht, hqd, _⟩ := td_cell hp2
    cases et
    have hv := strK_val (by rw [zk]; exact wnd) (List.mem_of_getElem? hp1)
    have hg1 : DGet H z'.cd (.str key) (some (.ref t)) := .inl ⟨strK z'.cells, Sum.inr key, .inl hN.cd, rfl, hv.symm⟩
    refine ⟨_, (pss_cons (ps_set (i := 3) scAp.nd rfl (Or.inl rfl) (pe_fld (pv 0) rfl))
        (pss_cons (ps_set (i := 4) scAp.nd rfl (Or.inl rfl) (pe_op op_add (pe_ix ix_tup (pe_dget hu (pe_fld (pv 3) rfl) (pv 1) (fun _ _ => rfl)) pe_int (fun _ _ => rfl)) pe_int))
        (pss_cons (ps_lock (ps_for PassesOwn.never rfl (pi_values (pe_fld (pv 3) rfl)) (pg_name (i := 5) scAp.nd rfl (Or.inl rfl)) (pss_cons (ps_asg (pe_dget hu (pe_fld (pv 5) rfl) (pv 1) (fun _ _ => rfl)) (pg_tup rfl (pgs_cons (pg_name (i := 6) scAp.nd rfl (Or.inl rfl)) (pgs_cons (pg_name (i := 7) scAp.nd rfl (Or.inl rfl)) pgs_nil))))
        (pss_one (ps_if (pt_cmpR op_gt (pe_op op_sub (pv 4) (pv 6)) (pv 7) (nomark _)) (pss_one (ps_ret pe_non)) pss_nil)))))
        (pss_cons (ps_dput hu (pe_fld (pv 3) rfl) (pv 1) (pe_tup (pa_cons (pe_tup (pa_cons (pv 4) (pa_cons (pv 2) pa_nil))) (pa_cons pe_int (pa_cons (pv 4) (pa_cons pe_non pa_nil))))) rfl)
        (pss_cons (ps_expr (pe_bm PySem.F.plainAttrs_list PySem.F.slot_list_append PySem.F.type_list_append mt_append (pe_fld (pv 0) rfl) (pa_cons (pv 1) pa_nil)))
        (pss_cons (ps_expr (pe_bm PySem.F.plainAttrs_list PySem.F.slot_list_append PySem.F.type_list_append mt_append (pe_fld (pv 0) rfl) (pa_cons (pe_callB call_len_seq (by rfl) B.len PySem.boot_len (pa_cons (pe_fld (pv 0) rfl) pa_nil)) pa_nil)))
        (pss_cons (ps_expr (pe_callD GSd (hr.mono (by decide)) (pa_cons (pv 3) (pa_cons (pe_tup (pa_cons pe_str (pa_cons (pv 1) (pa_cons (pv 4) (pa_cons (pv 2) pa_nil))))) pa_nil))))
        (pss_one (ps_ret (pv 4)))))))))), ?_⟩
    refine ⟨_, rfl, n, c.N, _, _, _, rfl, hn, T.cl, T.f_top, rfl, ?_⟩
    rw [etop]
    refine ⟨_, rfl, z'.na, c.C, _, _, _, rfl, hN.i, TC.cl, TC.cells, rfl, _, rfl, z'.cd, _, rfl, hg1, t, _, _, _, rfl, rfl, SqT.of ht, atI_nat (j := 2) rfl, _, _, rfl, rfl, ?_⟩
    have hen := hN.en
    refine ⟨z'.en, .dK (refK z'.kids), hen, trivial, fun od => ?_⟩
    have nne : ∀ {a : Addr} {o : HO}, H a = some o → (∀ d, o ≠ .dK d) → a ≠ z'.en := fun {a o} h1 h2 e => by
      rw [e, hen] at h1
      exact h2 _ (Option.some.inj h1).symm
    have l3 : upd H z'.en (.frz od (.dK (refK z'.kids))) z'.en = some (.frz od (.dK (refK z'.kids))) := upd_same
    have li : ∀ {a : Addr} {o : HO}, H a = some o → (∀ d, o ≠ .dK d) → upd H z'.en (.frz od (.dK (refK z'.kids))) a = some o := fun h1 h2 => by
      rw [upd_ne (nne h1 h2)]
      exact h1
    have lr : ∀ {a : Addr} {d : List (Key × V)}, H a = some (.dK d) → Rd (upd H z'.en (.frz od (.dK (refK z'.kids)))) a (.dK d) := fun h1 => rd_lock (.inl h1) hen
    have eU : upd (upd H z'.en (.frz od (.dK (refK z'.kids)))) z'.en (.dK (refK z'.kids)) = H := by
      rw [EX.upd_upd]
      funext x
      by_cases e : x = z'.en
      · rw [e, upd_same, hen]
      · rw [upd_ne e]
    generalize upd H z'.en (HO.frz od (.dK (refK z'.kids))) = L at l3 li lr eU ⊢
    refine ⟨_, rfl, z'.na, c.C, _, _, _, rfl, li hN.i (fun _ w => nomatch w), TC.cl, TC.entries, rfl, z'.en, od, _, rfl, l3, ?_⟩
    refine for_it (walk_values (d := z'.en) (o := od) (kvs := refK z'.kids)) (fun i σ' Hh => ∃ v5 v6 v7 : Option V, σ' = [some (.ref n), some (.str key), some (.int v), some (.ref z'.na), some (.int (c0.told + 1)), v5, v6, v7] ∧ Hh = L ∧ ∀ r ∈ M.rows, r.child ∈ m0.kids.take i → okCell key (c0.told + 1) r = true) ⟨none, none, none, rfl, rfl, fun r _ w => nomatch w⟩ (fun i σ' Hh _ w => by obtain ⟨_, _, _, _, e, _⟩ := w; rw [e]; exact l3) ?_ ?_
    · rintro i x σ' H1 H2 hi ⟨v5, v6, v7, rfl, e1, hall⟩ ⟨e2, kk0, hx⟩
      have e3 : H2 = L := by first | exact e2.trans e1 | exact e2.symm.trans e1
      subst e3
      have hx : (refK z'.kids)[i]? = some (kk0, x) := hx
      rw [List.getElem?_map] at hx
      obtain ⟨⟨ch, ra⟩, hki, e⟩ := Option.map_eq_some_iff.mp hx
      cases e
      have hmk : m0.kids[i]? = some ch := by rw [← zr.kids, List.getElem?_map, hki]; rfl
      have hin := zr.kin _ (List.mem_of_getElem? hki)
      unfold ixOf at hin
      obtain ⟨y, hy, e⟩ := List.mem_map.mp hin
      cases e
      obtain ⟨r, hr, hyr⟩ := pr_mem q.r.rows hy
      have hRH := RowH.of q.h hy
      have hri : H2 y.ra = _ := li hRH.i (fun _ w => nomatch w)
      have yk : y.cells.map (·.1) = M.words := (pr_keys (fun _ _ w => w.1) hyr.cells).trans (q.w.rcell _ hr)
      have hyi : ∃ v2, y.cells[i0]? = some (key, v2) := by
        rw [← yk, List.getElem?_map] at hwi
        obtain ⟨⟨k2, v2⟩, h2, e⟩ := Option.map_eq_some_iff.mp hwi
        cases e
        exact ⟨v2, h2⟩
      obtain ⟨v2, hyi⟩ := hyi
      obtain ⟨⟨k2, conf, gr⟩, hri2, ek2, htd⟩ := pr_get hyr.cells hyi
      cases ek2
      obtain ⟨t2, et2, ht2⟩ := td_two htd
      cases et2
      have hv2 := strK_val (by rw [yk]; exact wnd) (List.mem_of_getElem? hyi)
      have hg2 : DGet H2 y.cd (.str key) (some (.ref t2)) := .inl ⟨strK y.cells, Sum.inr key, lr hRH.cd, rfl, hv2.symm⟩
      refine ⟨_, rfl, y.ra, c.E, _, _, _, rfl, hri, TE.cl, TE.cells, rfl, _, rfl, y.cd, _, rfl, hg2, t2, _, rfl, SqT.of (li ht2 (fun _ w => nomatch w)), rfl, _, _, rfl, _, _, rfl, rfl, ?_⟩
      have hok : okCell key (c0.told + 1) r = decide (c0.told + 1 - conf ≤ gr) := by
        unfold okCell
        cases hd : decide (c0.told + 1 - conf ≤ gr) with
        | false =>
          rw [List.all_eq_false]
          exact ⟨_, List.mem_of_getElem? hri2, by simp only [hd]; simp⟩
        | true =>
          rw [List.all_eq_true]
          intro p hp
          by_cases e : p.1 = key
          · have rn : (r.cells.map (·.1)).Nodup := by rw [q.w.rcell _ hr]; exact wnd
            obtain ⟨j2, hj2⟩ := List.mem_iff_getElem?.mp hp
            have : p = (key, conf, gr) := by
              obtain ⟨l1, e1⟩ := List.getElem?_eq_some_iff.mp hj2
              obtain ⟨l2, e2⟩ := List.getElem?_eq_some_iff.mp hri2
              have ij := (List.getElem_inj (h₀ := by rw [List.length_map]; exact l1) (h₁ := by rw [List.length_map]; exact l2) rn).mp (by rw [List.getElem_map, List.getElem_map, e1, e2, e])
              subst ij
              rw [← e1, ← e2]
            rw [this]
            simp only [hd]
            simp
          · rw [decide_eq_false e]
            rfl
      refine ⟨_, rfl, _, rfl, _, _, rfl, rfl, _, rfl, _, _, rfl, rfl, _, rfl, ite2 (fun hlt => ?_) (fun hlt => ?_)⟩
      · have hlt : gr < c0.told + 1 - conf := by simpa using hlt
        refine ⟨l3, ?_⟩
        rw [eU]
        refine kf ?_
        unfold accB
        rw [List.all_eq_false]
        refine ⟨r, hr, ?_⟩
        rw [hok, decide_eq_true (show r.child ∈ m0.kids by rw [← hyr.child]; exact List.mem_of_getElem? hmk), decide_eq_false (by omega)]
        simp
      · have hlt : ¬ gr < c0.told + 1 - conf := by simpa using hlt
        refine ⟨_, _, _, rfl, rfl, fun r2 h2 hk2 => ?_⟩
        rcases (take_mem hmk).mp hk2 with w | w
        · exact hall r2 h2 w
        · have er : r2 = r := by
            obtain ⟨j1, hj1⟩ := List.mem_iff_getElem?.mp h2
            obtain ⟨j2, hj2⟩ := List.mem_iff_getElem?.mp hr
            obtain ⟨l1, e1⟩ := List.getElem?_eq_some_iff.mp hj1
            obtain ⟨l2, e2⟩ := List.getElem?_eq_some_iff.mp hj2
            have ij := (List.getElem_inj (h₀ := by rw [List.length_map]; exact l1) (h₁ := by rw [List.length_map]; exact l2) q.w.rnd).mp (by rw [List.getElem_map, List.getElem_map, e1, e2, w, hyr.child])
            subst ij
            rw [← e1, ← e2]
          rw [er, hok, decide_eq_true (by omega)]
    · rintro σ' H1 ⟨v5, v6, v7, rfl, e1, hall⟩
      subst e1
      refine ⟨l3, ?_⟩
      rw [eU]
      have el : (refK z'.kids).length = m0.kids.length := by rw [List.length_map, ← zr.kids, List.length_map]
      rw [el, List.take_length] at hall
      have hacc : accB M m0.kids key (c0.told + 1) = true := by
        unfold accB
        rw [List.all_eq_true]
        intro r hr
        by_cases w : r.child ∈ m0.kids
        · rw [hall r hr w, Bool.or_true]
        · rw [decide_eq_false w]
          rfl
      have kt1 := kt1 hacc
      clear l3 li lr eU nne
      have hcd : H z'.cd = some (.dK (strK z'.cells)) := hN.cd
      refine ⟨_, rfl, _, rfl, by show 2 ≤ sizeLine; decide, fun qn hqn => ⟨_, rfl, by show 4 ≤ sizeLine; decide, fun t3 ht3 => ?_⟩⟩
      have S2 : Same H (upd (upd H qn (.tup [.int (c0.told + 1), .int v])) t3 (.tup [.ref qn, .int 0, .int (c0.told + 1), .non])) := Same.trans (Same.upd hqn) (Same.upd ht3)
      have lt3 : upd (upd H qn (HO.tup [.int (c0.told + 1), .int v])) t3 (HO.tup [.ref qn, .int 0, .int (c0.told + 1), .non]) t3 = some (.tup [.ref qn, .int 0, .int (c0.told + 1), .non]) := upd_same
      have lqn : upd (upd H qn (HO.tup [.int (c0.told + 1), .int v])) t3 (HO.tup [.ref qn, .int 0, .int (c0.told + 1), .non]) qn = some (.tup [.int (c0.told + 1), .int v]) := (Same.upd ht3) _ _ upd_same
      generalize upd (upd H qn (HO.tup [.int (c0.told + 1), .int v])) t3 (HO.tup [.ref qn, .int 0, .int (c0.told + 1), .non]) = H2 at S2 lt3 lqn ⊢
      have w4 := q.w.w4
      have zl : z'.cells.length ≤ 4 := by
        have e := congrArg List.length zk
        rw [List.length_map] at e
        omega
      refine ⟨_, rfl, z'.na, c.C, _, _, _, rfl, S2 _ _ hN.i, TC.cl, TC.cells, rfl, _, rfl, z'.cd, _, rfl, .inl ⟨strK z'.cells, Sum.inr key, S2 _ _ hcd, rfl, by rw [List.length_map, sizeLine_eq]; omega, rfl⟩, ?_⟩
      have htd : Td H2 (.ref t3) (cellD (some (newC (c0.told + 1) v))) := .tup lt3 (.cons (.tup lqn (.cons (.int _) (.cons (.int _) .nil))) (.cons (.int _) (.cons (.int _) (.cons .non .nil))))
      have q3 := (q.mono S2).setCell hz hm hmc htd
      have k3 := (Keeps.of S2).put (o := .dK (putK (strK z'.cells) (Sum.inr key) (.ref t3))) (q.in_node hzm 1)
      generalize upd H2 z'.cd (HO.dK (putK (strK z'.cells) (Sum.inr key) (.ref t3))) = H3 at q3 k3 ⊢
      have hac : H3 Z.ac = some (.lst Z.acc) := q3.h.at_net 5
      have hal : Z.acc.length < sizeLine := by
        rw [q.r.acc, List.length_map, sizeLine_eq]
        have := rm.acc
        omega
      refine ⟨_, rfl, n, c.N, _, _, _, rfl, q3.at_n, T.cl, T.f_accepted, rfl, .inl ⟨rfl, _, SqL.of hac⟩, _, rfl, Z.ac, _, _, rfl, rfl, hac, hal, ?_⟩
      have q4 := q3.addAcc key
      have k4 := k3.put (o := .lst (Z.acc ++ [.str key])) (q.in_net 5)
      have q4 : NetQ c (upd H3 Z.ac (.lst (Z.acc ++ [.str key]))) n g _ _ := q4
      generalize upd H3 Z.ac (HO.lst (Z.acc ++ [.str key])) = H4 at q4 k4 ⊢
      have hsm : H4 Z.sm = some (.lst Z.stm) := q4.h.at_net 6
      have hdn : H4 Z.dn = some (.lst Z.done) := q4.h.at_net 3
      have hsl : Z.stm.length < sizeLine := by
        rw [q.r.stm, List.length_map, sizeLine_eq]
        have := rm.stm
        omega
      refine ⟨_, rfl, n, c.N, _, _, _, rfl, q4.at_n, T.cl, T.f_stamps, rfl, .inl ⟨rfl, _, SqL.of hsm⟩, _, rfl, n, c.N, _, _, _, rfl, q4.at_n, T.cl, T.f_done, rfl, Z.dn, _, rfl, .inl (SqL.of hdn), Z.sm, _, _, rfl, rfl, hsm, hsl, ?_⟩
      rw [show Z.done.length = M.done.length from q.r.done.length]
      have q5 := q4.addStm (M.done.length : Int)
      have k5 := k4.put (o := .lst (Z.stm ++ [.int (M.done.length : Int)])) (q.in_net 6)
      have q5 : NetQ c (upd H4 Z.sm (.lst (Z.stm ++ [.int (M.done.length : Int)]))) n g _ _ := q5
      generalize upd H4 Z.sm (HO.lst (Z.stm ++ [.int (M.done.length : Int)])) = H5 at q5 k5 ⊢
      refine ⟨_, rfl, _, rfl, _, rfl, _, rfl, by show 4 ≤ sizeLine; decide, fun p hp => ?_⟩
      have S6 : Same H5 (upd H5 p (.tup [.str "update", .str key, .int (c0.told + 1), .int v])) := Same.upd hp
      have l6 : upd H5 p (HO.tup [.str "update", .str key, .int (c0.told + 1), .int v]) p = some (.tup [.str "update", .str key, .int (c0.told + 1), .int v]) := upd_same
      generalize upd H5 p (HO.tup [.str "update", .str key, .int (c0.told + 1), .int v]) = H6 at S6 l6 ⊢
      have hz5 : (Z.nodes.set 0 { z' with cells := z'.cells.set i0 (key, V.ref t3) })[0]? = some { z' with cells := z'.cells.set i0 (key, V.ref t3) } := by
        rw [e5]
        rfl
      have hm5 : (M.nodes.set 0 { m0 with cells := m0.cells.set i0 (key, some (newC (c0.told + 1) v)) })[0]? = some { m0 with cells := m0.cells.set i0 (key, some (newC (c0.told + 1) v)) } := by
        obtain ⟨hl, _⟩ := List.getElem?_eq_some_iff.mp hm
        exact List.getElem?_set_self hl
      exact ⟨z'.na, .ref p, n, g, _, _, 0, _, _, msgU key (c0.told + 1) v, rfl, q5.mono S6, hz5, rfl, hm5, .tup l6 (.cons (.str _) (.cons (.str _) (.cons (.int _) (.cons (.int _) .nil)))), rm.down, fun H' kk a => ⟨_, rfl, kt1 H' ((k5.then S6).trans kk) a⟩⟩
theorem ok_write {c : Cs} {f : Addr} {fd : FuncData} (F : Fun K "write" "Net.write" sWr f fd) (B : Bn mg) (T : NetC K c.N) (GAp : DefAt P w K mg base 2 "accept" ["net", "key", "value"] (spAcc c)) : FnOk P w K mg base CX0 3 f fd ["self", "key", "value"] (spWrite c) := by
  refine F.ok scWr (fun vs H Q E h => ?_) (fun cdv A outer s H vs Q E hr h => ?_)
  · obtain ⟨n, key, v, g, M, i, m0, c0, l, rfl, _⟩ := h
    rfl
  · obtain ⟨n, key, v, g, M, i0, m0, c0, l, rfl, ⟨Z, q⟩, hm, hmc, hkl, hl20, rm, k⟩ := h
    have hu := hu_of hr
    have hn := q.at_n
    have mc : m0.cells.map (·.1) = M.words := q.w.cell _ (List.mem_of_getElem? hm)
    have hwi : M.words[i0]? = some key := by rw [← mc, List.getElem?_map, hmc]; rfl
    obtain ⟨tw, xs, etw, htw, hxs⟩ := td_tup q.r.tw
    rw [td_strsV hxs] at htw
    refine ⟨_, (pss_cons (ps_if (PW.pt (pw_or (pt_not (pt_val (pe_callB call_isi (by rfl) B.isi PyProof.Rows.boot_isinstance (pa_cons (pv 1) (pa_cons (pe_bltn (v := .ty "str") (by rfl) B.str (by decide +kernel) rfl) pa_nil))))) (pw_or1 (pt_cmpR op_notIn_seq (pv 1) (pe_fld (pv 0) rfl) (by rfl))))) pss_never pss_nil)
        (pss_cons (ps_if (PW.pt (pw_or (pt_not (pt_val (pe_callB call_isi (by rfl) B.isi PyProof.Rows.boot_isinstance (pa_cons (pv 2) (pa_cons (pe_bltn (v := .ty "int") (by rfl) B.int (by decide +kernel) rfl) pa_nil))))) (pw_or1 (pt_val (pe_callB call_isi (by rfl) B.isi PyProof.Rows.boot_isinstance (pa_cons (pv 2) (pa_cons (pe_bltn (v := .ty "bool") (by rfl) B.bool (by decide +kernel) rfl) pa_nil))))))) pss_never pss_nil)
        (pss_cons (ps_set (i := 3) scWr.nd rfl (Or.inl rfl) (pe_dget hu (pe_fld (pv 0) rfl) (pv 1) (fun _ _ => rfl)))
        (pss_cons (ps_if (pt_cmpR op_ge (pe_callB call_len_seq (by rfl) B.len PySem.boot_len (pa_cons (pv 3) pa_nil)) (pe_glob (v := .int _) (by rfl) B.mw.choose_spec ⟨_, rfl⟩) (nomark _)) pss_never pss_nil)
        (pss_cons (ps_expr (pe_bm PySem.F.plainAttrs_list PySem.F.slot_list_append PySem.F.type_list_append mt_append (pe_fld (pv 0) rfl) (pa_cons (pe_tup (pa_cons pe_str (pa_cons (pv 1) (pa_cons (pv 2) pa_nil)))) pa_nil)))
        (pss_cons (ps_set (i := 4) scWr.nd rfl (Or.inl rfl) (pe_callD GAp (hr.mono (by decide)) (pa_cons (pv 0) (pa_cons (pv 1) (pa_cons (pv 2) pa_nil)))))
        (pss_cons (ps_if (pt_cmp (pc_isN (pv 4))) (pss_one (ps_dput hu (pe_fld (pv 0) rfl) (pv 1) (pe_op op_catA (pv 3) (pe_tup (pa_cons (pv 2) pa_nil))) rfl)) pss_nil)
        (pss_one (ps_ret (pv 4)))))))))), ?_⟩
    refine ⟨_, rfl, _, _, _, _, true, rfl, .ty _, .base (.str _), kit_ty (by decide +kernel), _, rfl, iteF ?_⟩
    refine ⟨_, rfl, _, rfl, n, c.N, _, _, _, rfl, hn, T.cl, T.f_words, rfl, ?_⟩
    rw [etw]
    refine ⟨tw, _, rfl, .inr (SqT.of htw), rfl, flat_strV _, ?_⟩
    rw [inStr, decide_eq_true (List.mem_of_getElem? hwi)]
    refine ⟨_, rfl, iteF ?_⟩
    refine ⟨_, rfl, _, _, _, _, true, rfl, .ty _, .base (.int _), kit_ty (by decide +kernel), _, rfl, iteF ?_⟩
    refine ⟨_, rfl, _, _, _, _, false, rfl, .ty _, .base (.int _), kit_ty (by decide +kernel), _, rfl, iteF ?_⟩
    obtain ⟨⟨p1a, p1b⟩, hp1, ep, hp2⟩ := pr_get' q.r.kept hkl
    cases ep
    have hp2 : Td H p1b (.tuple (l.map PyData.int)) := hp2
    obtain ⟨ka, kx, eka, hka, hkx⟩ := td_tup hp2
    subst eka
    rw [td_intsV hkx] at hka
    have ek : Z.kept.map (·.1) = M.words := (pr_keys (fun _ _ w => w.1) q.r.kept).trans q.w.kept
    have hkv := strK_val (by rw [ek]; exact q.w.wnd) (List.mem_of_getElem? hp1)
    have hkp : H Z.kp = some (.dK (strK Z.kept)) := q.h.at_net 4
    have hgk : DGet H Z.kp (.str key) (some (.ref ka)) := .inl ⟨strK Z.kept, Sum.inr key, .inl hkp, rfl, hkv.symm⟩
    refine ⟨_, rfl, n, c.N, _, _, _, rfl, hn, T.cl, T.f_kept, rfl, _, rfl, Z.kp, _, rfl, hgk, ?_⟩
    have ell : (l.map V.int).length = l.length := List.length_map _
    refine ⟨_, rfl, ka, _, rfl, .inr (SqT.of hka), _, _, rfl, rfl, _, rfl, ?_⟩
    rw [ell]
    refine ifF (decide_eq_false (by omega)) ?_
    have hdn : H Z.dn = some (.lst Z.done) := q.h.at_net 3
    have hdl : Z.done.length < sizeLine := by
      rw [q.r.done.length, sizeLine_eq]
      have := rm.done
      have e : ({ M with done := M.done ++ [wDeed key v] } : NetM).done.length = M.done.length + 1 := List.length_append
      omega
    refine ⟨_, rfl, n, c.N, _, _, _, rfl, hn, T.cl, T.f_done, rfl, .inl ⟨rfl, _, SqL.of hdn⟩, _, rfl, _, rfl, by show 3 ≤ sizeLine; decide, fun p hp => ?_⟩
    have S1 : Same H (upd H p (.tup [.str "write", .str key, .int v])) := Same.upd hp
    have l1 : upd H p (HO.tup [.str "write", .str key, .int v]) p = some (.tup [.str "write", .str key, .int v]) := upd_same
    generalize upd H p (HO.tup [.str "write", .str key, .int v]) = H1 at S1 l1 ⊢
    refine ⟨Z.dn, _, _, rfl, rfl, S1 _ _ hdn, hdl, ?_⟩
    have q2 := (q.mono S1).addDone (.tup l1 (.cons (.str _) (.cons (.str _) (.cons (.int _) .nil))))
    have k2 := (Keeps.of S1).put (o := .lst (Z.done ++ [.ref p])) (q.in_net 3)
    have hka2 : upd H1 Z.dn (.lst (Z.done ++ [.ref p])) ka = some (.tup (l.map V.int)) := (KT.upd (o := .lst (Z.done ++ [.ref p])) fun xs w => by rw [S1 _ _ hdn] at w; cases w) _ _ (S1 _ _ hka)
    have q2 : NetQ c (upd H1 Z.dn (.lst (Z.done ++ [.ref p]))) n g { M with done := M.done ++ [wDeed key v] } _ := q2
    generalize upd H1 Z.dn (HO.lst (Z.done ++ [.ref p])) = H2 at q2 k2 hka2 ⊢
    refine ⟨_, rfl, _, rfl, _, rfl, n, key, v, g, _, i0, m0, c0, rfl, ⟨_, q2⟩, hm, hmc, rm, fun ha H' kk a => ?_, fun ha => ?_⟩
    · have ha : accB M m0.kids key (c0.told + 1) = true := ha
      refine ⟨_, rfl, _, rfl, ifF (decide_eq_false fun w => nomatch w) ⟨_, rfl, k H' _ (k2.trans kk) ?_ ?_⟩⟩
      · unfold writeM
        rw [if_pos ha]
        exact a
      · rw [if_pos ha]
    · have ha : accB M m0.kids key (c0.told + 1) = false := ha
      refine ⟨_, rfl, _, rfl, ifT (decide_eq_true rfl) ?_⟩
      refine ⟨_, rfl, _, rfl, by show 1 ≤ sizeLine; decide, fun p2 hp2 => ?_⟩
      refine k_cat ((Same.upd hp2) _ _ hka2) upd_same (fun w => nomatch w) (by rw [ell, sizeLine_eq]; show l.length + 1 ≤ _; omega) fun p3 H3 S3 hp3 => ?_
      have S23 := Same.trans (Same.upd hp2) S3
      have q3 := q2.mono S23
      have hkp3 : H3 Z.kp = some (.dK (strK Z.kept)) := q3.h.at_net 4
      have kl4 : Z.kept.length ≤ 4 := by
        have e := congrArg List.length ek
        rw [List.length_map] at e
        have := q.w.w4
        omega
      refine ⟨_, rfl, n, c.N, _, _, _, rfl, q3.at_n, T.cl, T.f_kept, rfl, _, rfl, Z.kp, _, rfl, .inl ⟨strK Z.kept, Sum.inr key, hkp3, rfl, by rw [List.length_map, sizeLine_eq]; omega, rfl⟩, ?_⟩
      have htd : Td H3 (.ref p3) (.tuple ((l ++ [v]).map PyData.int)) := by
        refine .tup hp3 ?_
        rw [List.map_append]
        exact (td_ints l).append (td_ints [v])
      have q4 := q3.setKept (l' := l ++ [v]) hkl htd
      have a4 : NetA c (upd H3 Z.kp (.dK (putK (strK Z.kept) (Sum.inr key) (.ref p3)))) n g (writeM M m0 i0 key v c0 l) := by
        unfold writeM
        rw [if_neg (by rw [ha]; exact Bool.false_ne_true)]
        exact ⟨_, q4⟩
      exact ⟨_, rfl, k _ _ ((k2.then S23).put (q.in_net 4)) a4 (by rw [if_neg (by rw [ha]; exact Bool.false_ne_true)])⟩
end
end K02
set_option Elab.async false
set_option linter.all false
set_option maxRecDepth 100000
set_option maxHeartbeats 4000000
/-! t[key] of a kept dict with text keys; what never runs -/
namespace EX
open PySem L2 PySem.Spec PyProof.Rows
section
variable {X : Cx} {d : Addr} {es : Array DictEntry} {n : Nat}
def rIxKd (K : PySem.W.Frag) (d : Addr) : R2 := fun x y H Q => ∃ (z : Str) (u0 : Value) (v0 : V), x = .ref d ∧ y = .str z ∧ PySem.W.nsIn K d z = some (some u0) ∧ RelV v0 u0 ∧ Q v0 H
theorem ix_kd (D : KDict X.K X.w d es n) : IxR X (rIxKd X.K d) := by
  intro value slice pins s σ H x y v u Q I rx ry h hs
  obtain ⟨z, u0, v0, rfl, rfl, e, r, q⟩ := h
  cases rx
  exact tail_any (kd_type D I) F.slot_dict_getitem.lookup (op_item_kd D pins s σ H (.ref d) (.str z) (.ref d) u Q I rfl ry ⟨z, u0, v0, rfl, rfl, e, r, q⟩) hs
theorem pe_never {e : Expr} : PE X e (fun _ _ _ => False) := ⟨fun _ _ _ _ _ _ h => h.elim⟩
end
end EX
set_option Elab.async false
set_option linter.all false
set_option maxRecDepth 100000
set_option maxHeartbeats 4000000
namespace K02
open PySem L2 EX PyProof.Rows LamX
open NZ
abbrev sRn : Stmt := top 38
theorem scRn : FnScope ["node", "key", "copy", "allowance", "told", "asked", "row", "limit", "entry", "confirmed", "granted"] ["node", "key", "copy", "allowance", "told", "asked"] (defScope sRn) := ⟨rfl, rfl, rfl, by decide +kernel, rfl, by decide +kernel, by decide +kernel⟩
abbrev sHc : Stmt := top 52
theorem scHc : FnScope ["net", "node", "sender", "message", "key", "number", "value", "allowance"] ["net", "node", "sender", "message"] (defScope sHc) := ⟨rfl, rfl, rfl, by decide +kernel, rfl, by decide +kernel, by decide +kernel⟩
abbrev sDv : Stmt := inClass (top 63) 18
theorem scDv : FnScope ["self", "sender", "receiver", "queue", "rows", "message", "arrive"] ["self", "sender", "receiver"] (defScope sDv) := ⟨rfl, rfl, rfl, by decide +kernel, rfl, by decide +kernel, by decide +kernel⟩
theorem ite_and {b : Bool} {A C : Prop} (h1 : b = true → C → A) (hC : C) : if b = true then A else C := by
  split
  · rename_i h
    exact h1 h hC
  · exact hC
def gotC (num val alw told : Int) : Option CellM := some ⟨num, val, alw, told, none⟩
def setC (M : NetM) (j : Nat) (m : NodeM) (i : Nat) (key : Str) (c' : Option CellM) : NetM := { M with nodes := M.nodes.set j { m with cells := m.cells.set i (key, c') } }
/-- no question is asked of the allowance, the copy is no newer than what was told -/
def spRenew (c : Cs) : Sp := fun vs H Q _ => ∃ (na cp : Addr) (key : Str) (num val alw told : Int) (n : Addr) (g : Sg) (M : NetM) (Z : NetZ) (j i : Nat) (z : NodeZ) (m : NodeM) (o : Option CellM), vs = [.ref na, .str key, .ref cp, .int alw, .int told, .non] ∧ H cp = some (.tup [.int num, .int val]) ∧ num ≤ told ∧
  NetQ c H n g M Z ∧ Z.nodes[j]? = some z ∧ z.na = na ∧ M.nodes[j]? = some m ∧ m.cells[i]? = some (key, o) ∧ ∀ H', Keeps g.S H H' → NetA c H' n g (setC M j m i key (gotC num val alw told)) → Q .non H'
def copyMsg (key : Str) (num val alw : Int) : PyData := .tuple [.str "copy", .str key, .int num, .int val, .int alw]
theorem td_copy {H : Hp} {v : V} {key : Str} {num val alw : Int} (h : Td H v (copyMsg key num val alw)) : ∃ mp, v = .ref mp ∧ H mp = some (.tup [.str "copy", .str key, .int num, .int val, .int alw]) := by
  cases h with
  | tup h1 t =>
    cases t with
    | cons a1 t =>
      cases t with
      | cons a2 t =>
        cases t with
        | cons a3 t =>
          cases t with
          | cons a4 t =>
            cases t with
            | cons a5 t =>
              cases t
              cases a1
              cases a2
              cases a3
              cases a4
              cases a5
              exact ⟨_, rfl, h1⟩
def spHearCopy (c : Cs) : Sp := fun vs H Q _ => ∃ (n na mp : Addr) (sd : V) (key : Str) (num val alw : Int) (g : Sg) (M : NetM) (Z : NetZ) (j i : Nat) (z : NodeZ) (m : NodeM) (o : Option CellM), vs = [.ref n, .ref na, sd, .ref mp] ∧ H mp = some (.tup [.str "copy", .str key, .int num, .int val, .int alw]) ∧
  NetQ c H n g M Z ∧ Z.nodes[j]? = some z ∧ z.na = na ∧ M.nodes[j]? = some m ∧ m.cells[i]? = some (key, o) ∧ ∀ H', Keeps g.S H H' → NetA c H' n g (setC M j m i key (gotC num val alw num)) → Q .non H'
def dDeed (up ch : Str) : PyData := .tuple [.str "deliver", .str up, .str ch]
def delM (M : NetM) (j : Nat) (r : RowM) (rest : List PyData) : NetM := { M with done := M.done ++ [dDeed r.above r.child], rows := M.rows.set j { r with down := rest } }
def spDel (c : Cs) : Sp := fun vs H Q _ => ∃ (n : Addr) (g : Sg) (M : NetM) (j j2 i : Nat) (r : RowM) (m : NodeM) (key : Str) (num val alw : Int) (rest : List PyData) (o : Option CellM), vs = [.ref n, .str r.above, .str r.child] ∧ NetA c H n g M ∧ M.rows[j]? = some r ∧ (∀ r' ∈ M.rows, r'.child = r.above → r'.above ≠ r.child) ∧ r.down = copyMsg key num val alw :: rest ∧ r.down.length < 1000 ∧
  M.nodes[j2]? = some m ∧ m.label = r.child ∧ m.cells[i]? = some (key, o) ∧ M.done.length < 1000 ∧ ∀ H' msg, Keeps g.S H H' → NetA c H' n g (setC (delM M j r rest) j2 m i key (gotC num val alw num)) → Td H' msg (copyMsg key num val alw) → Q msg H'
section
variable {P : Program} {w : World} {K : PySem.W.Frag} {mg : Str → Option Value} {base : Heap}
theorem ok_rn {c : Cs} {f : Addr} {fd : FuncData} (F : Fun K "renew" "renew" sRn f fd) (TC : CacheC K c.C) : FnOk P w K mg base CX0 1 f fd ["node", "key", "copy", "allowance", "told", "asked"] (spRenew c) := by
  refine F.ok scRn (fun vs H Q E h => ?_) (fun cdv A outer s H vs Q E hr h => ?_)
  · obtain ⟨na, cp, key, num, val, alw, told, n, g, M, Z, j, i, z, m, o, rfl, _⟩ := h
    rfl
  · obtain ⟨na, cp, key, num, val, alw, told, n, g, M, Z, j, i, z, m, o, rfl, hcp, hle, q, hz, rfl, hm, hmc, k⟩ := h
    have hu := hu_of hr
    have hzm := List.mem_of_getElem? hz
    have hN := NodeH.of q.h hzm
    obtain ⟨m', hm', zr⟩ := pr_get q.r.nodes hz
    cases hm.symm.trans hm'
    have mc : m.cells.map (·.1) = M.words := q.w.cell _ (List.mem_of_getElem? hm)
    have zk : z.cells.map (·.1) = M.words := (pr_keys (fun _ _ w => w.1) zr.cells).trans mc
    have zl : z.cells.length ≤ 4 := by
      have e := congrArg List.length zk
      rw [List.length_map] at e
      have := q.w.w4
      omega
    refine ⟨_, (pss_cons (ps_set (i := 6) scRn.nd rfl (Or.inl rfl) (pe_fld (pv 0) rfl))
        (pss_cons (ps_if (PW.pt (pw_and (pt_cmp (pc_notN (pv 5))) (pw_and1 (pt_val pe_never)))) pss_never pss_nil)
        (pss_cons (ps_set (i := 7) scRn.nd rfl (Or.inl rfl) (pe_ix ix_tup (pv 2) pe_int (fun _ _ => rfl)))
        (pss_cons (ps_if (pt_cmpR op_gt (pv 7) (pv 4) (nomark _)) pss_never pss_nil)
        (pss_one (ps_dput hu (pe_fld (pv 0) rfl) (pv 1) (pe_tup (pa_cons (pv 2) (pa_cons (pv 3) (pa_cons (pv 4) (pa_cons (pv 5) pa_nil))))) rfl)))))), ?_⟩
    refine ⟨_, rfl, z.na, c.C, _, _, _, rfl, hN.i, TC.cl, TC.row, rfl, ?_⟩
    refine ⟨_, rfl, _, rfl, ifF rfl ?_⟩
    refine ⟨_, rfl, cp, _, _, _, rfl, rfl, SqT.of hcp, atI_nat (j := 0) rfl, ?_⟩
    refine ⟨_, rfl, _, rfl, _, _, rfl, rfl, _, rfl, ifF (decide_eq_false (by omega)) ?_⟩
    refine ⟨_, rfl, _, rfl, _, rfl, _, rfl, by show 4 ≤ sizeLine; decide, fun t ht => ?_⟩
    have S1 : Same H (upd H t (.tup [.ref cp, .int alw, .int told, .non])) := Same.upd ht
    have l1 : upd H t (HO.tup [.ref cp, .int alw, .int told, .non]) t = some (.tup [.ref cp, .int alw, .int told, .non]) := upd_same
    generalize upd H t (HO.tup [.ref cp, .int alw, .int told, .non]) = H1 at S1 l1 ⊢
    refine ⟨_, rfl, z.na, c.C, _, _, _, rfl, S1 _ _ hN.i, TC.cl, TC.cells, rfl, _, rfl, z.cd, _, rfl, .inl ⟨strK z.cells, Sum.inr key, S1 _ _ hN.cd, rfl, by rw [List.length_map, sizeLine_eq]; omega, rfl⟩, ?_⟩
    have htd : Td H1 (.ref t) (cellD (gotC num val alw told)) := .tup l1 (.cons (.tup (S1 _ _ hcp) (.cons (.int _) (.cons (.int _) .nil))) (.cons (.int _) (.cons (.int _) (.cons .non .nil))))
    exact k _ ((Keeps.of S1).put (q.in_node hzm 1)) ⟨_, (q.mono S1).setCell hz hm hmc htd⟩
theorem ok_hc {c : Cs} {f : Addr} {fd : FuncData} (F : Fun K "hear_copy" "hear_copy" sHc f fd) (GRn : DefAt P w K mg base 1 "renew" ["node", "key", "copy", "allowance", "told", "asked"] (spRenew c)) : FnOk P w K mg base CX0 2 f fd ["net", "node", "sender", "message"] (spHearCopy c) := by
  refine F.ok scHc (fun vs H Q E h => ?_) (fun cdv A outer s H vs Q E hr h => ?_)
  · obtain ⟨n, na, mp, sd, key, num, val, alw, g, M, Z, j, i, z, m, o, rfl, _⟩ := h
    rfl
  · obtain ⟨n, na, mp, sd, key, num, val, alw, g, M, Z, j, i, z, m, o, rfl, hmp, q, hz, rfl, hm, hmc, k⟩ := h
    refine ⟨_, (pss_cons (ps_asg (pe_slice sl_tupA (pv 3) (po_some pe_int) po_none) (pg_tup rfl (pgs_cons (pg_name (i := 4) scHc.nd rfl (Or.inl rfl)) (pgs_cons (pg_name (i := 5) scHc.nd rfl (Or.inl rfl)) (pgs_cons (pg_name (i := 6) scHc.nd rfl (Or.inl rfl)) (pgs_cons (pg_name (i := 7) scHc.nd rfl (Or.inl rfl)) pgs_nil))))))
        (pss_one (ps_expr (pe_callD GRn (hr.mono (by decide)) (pa_cons (pv 1) (pa_cons (pv 4) (pa_cons (pe_tup (pa_cons (pv 5) (pa_cons (pv 6) pa_nil))) (pa_cons (pv 7) (pa_cons (pv 5) (pa_cons pe_non pa_nil)))))))))), ?_⟩
    refine ⟨_, rfl, 1, rfl, mp, _, rfl, SqT.of hmp, (fun w => absurd (show HT.sIx 5 0 (some 1) = 0 from w.1) (by decide)), fun _ p hp => ?_⟩
    rw [show cutV [V.str ("copy" : Str), V.str key, V.int num, V.int val, V.int alw] (some 1) none = [V.str key, V.int num, V.int val, V.int alw] from rfl]
    have S1 : Same H (upd H p (.tup [.str key, .int num, .int val, .int alw])) := Same.upd hp
    have l1 : upd H p (HO.tup [.str key, .int num, .int val, .int alw]) p = some (.tup [.str key, .int num, .int val, .int alw]) := upd_same
    refine ⟨p, _, rfl, SqT.of l1, rfl, _, _, rfl, _, _, rfl, _, _, rfl, _, _, rfl, rfl, ?_⟩
    generalize upd H p (HO.tup [.str key, .int num, .int val, .int alw]) = H1 at S1 l1 ⊢
    refine ⟨_, rfl, _, rfl, _, rfl, _, rfl, by show 2 ≤ sizeLine; decide, fun cp hcp => ?_⟩
    have S2 : Same H1 (upd H1 cp (.tup [.int num, .int val])) := Same.upd hcp
    have l2 : upd H1 cp (HO.tup [.int num, .int val]) cp = some (.tup [.int num, .int val]) := upd_same
    generalize upd H1 cp (HO.tup [.int num, .int val]) = H2 at S2 l2 ⊢
    refine ⟨_, rfl, _, rfl, z.na, cp, key, num, val, alw, num, n, g, M, Z, j, i, z, m, o, rfl, l2, Int.le_refl _, q.mono (Same.trans S1 S2), hz, rfl, hm, hmc, fun H' kk a => k H' ((Keeps.of (Same.trans S1 S2)).trans kk) a⟩
theorem ok_dv {c : Cs} {f aD fH : Addr} {fd fdH : FuncData} {es : Array DictEntry} {en : Nat} (F : Fun K "deliver" "Net.deliver" sDv f fd) (B : Bn mg) (T : NetC K c.N) (TE : EntryC K c.E) (hA : mg "ARRIVALS" = some (.ref aD)) (D : KDict K w aD es en) (hC : PySem.W.nsIn K aD "copy" = some (some (.ref fH))) (FH : FnOk P w K mg base CX0 2 fH fdH ["net", "node", "sender", "message"] (spHearCopy c)) (kH : PySem.W.keepIn K (.ref fH) = true) (bH : Binds K fdH ["net", "node", "sender", "message"] []) : FnOk P w K mg base CX0 3 f fd ["self", "sender", "receiver"] (spDel c) := by
  refine F.ok scDv (fun vs H Q E h => ?_) (fun cdv A outer s H vs Q E hr h => ?_)
  · obtain ⟨n, g, M, j, j2, i, r, m, key, num, val, alw, rest, o, rfl, _⟩ := h
    rfl
  · obtain ⟨n, g, M, j, j2, i, r, m, key, num, val, alw, rest, o, rfl, ⟨Z, q⟩, hr0, hcyc, hdown, hdl, hm, hml, hmc, hd, k⟩ := h
    have hu := hu_of hr
    have hn := q.at_n
    refine ⟨_, (pss_cons (ps_set (i := 3) scDv.nd rfl (Or.inl rfl) pe_non)
        (pss_cons (ps_if (PW.pt (pw_and (pt_val (pe_callB call_isi (by rfl) B.isi PyProof.Rows.boot_isinstance (pa_cons (pv 1) (pa_cons (pe_bltn (v := .ty "str") (by rfl) B.str (by decide +kernel) rfl) pa_nil)))) (pw_and1 (pt_val (pe_callB call_isi (by rfl) B.isi PyProof.Rows.boot_isinstance (pa_cons (pv 2) (pa_cons (pe_bltn (v := .ty "str") (by rfl) B.str (by decide +kernel) rfl) pa_nil))))))) (pss_cons (ps_set (i := 4) scDv.nd rfl (Or.inl rfl) (pe_fld (pv 0) rfl))
        (pss_one (ps_if (PW.pt (pw_and (pt_cmp (pc_din hu (pv 1) (pv 4))) (pw_and1 (pt_cmpR op_eq (pe_fld (pe_dget hu (pv 4) (pv 1) (fun _ _ => rfl)) rfl) (pv 2) (nomark _))))) pss_never (pss_one (ps_if (PW.pt (pw_and (pt_cmp (pc_din hu (pv 2) (pv 4))) (pw_and1 (pt_cmpR op_eq (pe_fld (pe_dget hu (pv 4) (pv 2) (fun _ _ => rfl)) rfl) (pv 1) (nomark _))))) (pss_one (ps_set (i := 3) scDv.nd rfl (Or.inl rfl) (pe_fld (pe_dget hu (pv 4) (pv 2) (fun _ _ => rfl)) rfl))) pss_nil))))) pss_nil)
        (pss_cons (ps_if (pt_not (pt_truth (pv 3) (by intro _; rfl))) pss_never pss_nil)
        (pss_cons (ps_expr (pe_bm PySem.F.plainAttrs_list PySem.F.slot_list_append PySem.F.type_list_append mt_append (pe_fld (pv 0) rfl) (pa_cons (pe_tup (pa_cons pe_str (pa_cons (pv 1) (pa_cons (pv 2) pa_nil)))) pa_nil)))
        (pss_cons (ps_set (i := 5) scDv.nd rfl (Or.inl rfl) (pe_bm PySem.F.plainAttrs_list PySem.F.slot_list_pop PySem.F.type_list_pop mt_popAt (pv 3) (pa_cons pe_int pa_nil)))
        (pss_cons (ps_set (i := 6) scDv.nd rfl (Or.inl rfl) (pe_ix (ix_kd D) (pe_glob (v := .ref aD) (by rfl) hA rfl) (pe_ix ix_tup (pv 5) pe_int (fun _ _ => rfl)) (fun _ _ => rfl)))
        (pss_cons (ps_expr (pe_callL (i := 6) (E := E0) FH (hr.mono (by decide)) (by rfl) (Or.inl rfl) kH bH .nil pass0 (pa_cons (pv 0) (pa_cons (pe_dget hu (pe_fld (pv 0) rfl) (pv 2) (fun _ _ => rfl)) (pa_cons (pv 1) (pa_cons (pv 5) pa_nil))))))
        (pss_one (ps_ret (pv 5)))))))))), ?_⟩
    have hrd : H Z.rd = some (.dK (rowsK Z.rows)) := q.h.at_net 2
    obtain ⟨y, hy, hyr⟩ := pr_get' q.r.rows hr0
    have hym := List.mem_of_getElem? hy
    have hrv := q.rowV hym
    rw [hyr.child] at hrv
    have hRH := RowH.of q.h hym
    have hg : DGet H Z.rd (.str r.child) (some (.ref y.ra)) := .inl ⟨_, Sum.inr r.child, .inl hrd, rfl, hrv.symm⟩
    obtain ⟨z, hz, zr⟩ := pr_get' q.r.nodes hm
    have hzm := List.mem_of_getElem? hz
    have hzv := q.nodeV hzm
    rw [show z.label = r.child from zr.label.trans hml] at hzv
    refine ⟨_, rfl, _, _, _, _, true, rfl, .ty _, .base (.str _), kit_ty (by decide +kernel), _, rfl, iteT ?_⟩
    refine ⟨_, rfl, _, _, _, _, true, rfl, .ty _, .base (.str _), kit_ty (by decide +kernel), _, rfl, iteT ?_⟩
    refine ⟨_, rfl, n, c.N, _, _, _, rfl, hn, T.cl, T.f_rows, rfl, ?_⟩
    refine ⟨_, rfl, _, rfl, Z.rd, _, rfl, .inl ⟨_, Sum.inr r.above, .inl hrd, rfl, rfl⟩, _, rfl, ?_⟩
    refine ite_and (fun hb els => ?_) ?_
    · have hin : r.above ∈ Z.rows.map (·.child) := Decidable.byContradiction fun w => by
        rw [rowsK_none w] at hb
        cases hb
      obtain ⟨y2, hy2, e2⟩ := List.mem_map.mp hin
      have hv2 := q.rowV hy2
      rw [e2] at hv2
      have hR2 := RowH.of q.h hy2
      obtain ⟨r2, hr2, hyr2⟩ := pr_mem q.r.rows hy2
      have hg2 : DGet H Z.rd (.str r.above) (some (.ref y2.ra)) := .inl ⟨_, Sum.inr r.above, .inl hrd, rfl, hv2.symm⟩
      refine ⟨_, rfl, _, rfl, Z.rd, _, rfl, hg2, y2.ra, c.E, _, _, _, rfl, hR2.i, TE.cl, TE.above, rfl, _, rfl, rfl, _, rfl, ifF (decide_eq_false fun w => ?_) els⟩
      refine hcyc r2 hr2 ?_ ?_
      · rw [← hyr2.child, e2]
      · rw [← hyr2.above]
        exact V.str.inj w
    refine ⟨_, rfl, _, rfl, Z.rd, _, rfl, .inl ⟨_, Sum.inr r.child, .inl hrd, rfl, rfl⟩, _, rfl, ifT (by rw [hrv]; rfl) ?_⟩
    refine ⟨_, rfl, _, rfl, Z.rd, _, rfl, hg, y.ra, c.E, _, _, _, rfl, hRH.i, TE.cl, TE.above, rfl, _, rfl, rfl, _, rfl, ifT (decide_eq_true (by rw [hyr.above])) ?_⟩
    refine ⟨_, rfl, _, rfl, Z.rd, _, rfl, hg, y.ra, c.E, _, _, _, rfl, hRH.i, TE.cl, TE.down, rfl, ?_⟩
    have hd1 := hyr.down
    rw [hdown] at hd1
    obtain ⟨v0, vs, eyd, hv0, hvs⟩ : ∃ v0 vs, y.down = v0 :: vs ∧ Td H v0 (copyMsg key num val alw) ∧ TdAll H vs rest := by
      generalize y.down = l at hd1
      cases hd1 with
      | cons a t => exact ⟨_, _, rfl, a, t⟩
    obtain ⟨mp, emp, hmp⟩ := td_copy hv0
    refine ⟨_, rfl, true, .inl ⟨_, SqL.of hRH.dq, by rw [eyd]; rfl⟩, ifF rfl ?_⟩
    have hdn : H Z.dn = some (.lst Z.done) := q.h.at_net 3
    have hdl2 : Z.done.length < sizeLine := by
      rw [q.r.done.length, sizeLine_eq]
      omega
    refine ⟨_, rfl, n, c.N, _, _, _, rfl, hn, T.cl, T.f_done, rfl, .inl ⟨rfl, _, SqL.of hdn⟩, _, rfl, _, rfl, by show 3 ≤ sizeLine; decide, fun p hp => ?_⟩
    have S1 : Same H (upd H p (.tup [.str "deliver", .str r.above, .str r.child])) := Same.upd hp
    have l1 : upd H p (HO.tup [.str "deliver", .str r.above, .str r.child]) p = some (.tup [.str "deliver", .str r.above, .str r.child]) := upd_same
    generalize upd H p (HO.tup [.str "deliver", .str r.above, .str r.child]) = H1 at S1 l1 ⊢
    refine ⟨Z.dn, _, _, rfl, rfl, S1 _ _ hdn, hdl2, ?_⟩
    have q2 := (q.mono S1).addDone (.tup l1 (.cons (.str _) (.cons (.str _) (.cons (.str _) .nil))))
    have k2 := (Keeps.of S1).put (o := .lst (Z.done ++ [.ref p])) (q.in_net 3)
    have q2 : NetQ c (upd H1 Z.dn (.lst (Z.done ++ [.ref p]))) n g { M with done := M.done ++ [dDeed r.above r.child] } { Z with done := Z.done ++ [.ref p] } := q2
    generalize upd H1 Z.dn (HO.lst (Z.done ++ [.ref p])) = H2 at q2 k2 ⊢
    have nt := q.notup
    have kt2 := KT.keeps k2 nt
    have hdq2 : H2 y.dq = some (.lst y.down) := (RowH.of q2.h (y := y) hym).dq
    refine ⟨_, rfl, .inl ⟨rfl, _, SqL.of hdq2⟩, y.dq, _, 0, 0, .ref mp, rfl, rfl, hdq2, by decide, by decide, by rw [eyd]; simp [seqIndex?], by rw [eyd, emp]; rfl, ?_⟩
    rw [show y.down.eraseIdx 0 = vs by rw [eyd]; rfl]
    have q3 := q2.setDown hy hr0 (hvs.mono kt2)
    have k3 := k2.put (o := .lst vs) (q.in_row hym 2)
    generalize upd H2 y.dq (HO.lst vs) = H3 at q3 k3 ⊢
    have kt3 := KT.keeps k3 nt
    refine ⟨_, rfl, mp, _, _, _, rfl, rfl, SqT.of (kt3 _ _ hmp), atI_nat (j := 0) rfl, "copy", .ref fH, .ref fH, rfl, rfl, hC, rfl, ?_⟩
    have hnd3 : H3 Z.nd = some (.dK (nodesK Z.nodes)) := q3.h.at_net 1
    have hgn : DGet H3 Z.nd (.str r.child) (some (.ref z.na)) := .inl ⟨_, Sum.inr r.child, .inl hnd3, rfl, hzv.symm⟩
    exact ⟨rfl, _, rfl, _, rfl, n, c.N, _, _, _, rfl, q3.at_n, T.cl, T.f_nodes, rfl, _, rfl, Z.nd, _, rfl, hgn, _, rfl, _, rfl, n, z.na, mp, .str r.above, key, num, val, alw, g, _, _, j2, i, z, m, o, rfl, kt3 _ _ hmp, q3, hz, rfl, hm, hmc, fun H' kk a => ⟨_, rfl, k H' _ (k3.trans kk) a (.tup ((KT.keeps (k3.trans kk) nt) _ _ hmp) (.cons (.str _) (.cons (.str _) (.cons (.int _) (.cons (.int _) (.cons (.int _) .nil))))))⟩⟩
end
end K02
set_option Elab.async false
set_option linter.all false
set_option maxRecDepth 100000
set_option maxHeartbeats 4000000
/-! list(text), text * n -/
namespace EX
open PySem L2 PySem.Spec PyProof.Rows
def rRepN : R2 := fun x y H Q => ∃ l k xs, x = .ref l ∧ y = .int k ∧ H l = some (.lst xs) ∧ -(2 ^ 63) ≤ k ∧ k < 2 ^ 63 ∧ xs.length * k.toNat ≤ sizeLine ∧ ∀ p, H p = none → p ≠ sysModules → Q (.ref p) (upd H p (.lst (List.replicate k.toNat xs).flatten))
theorem op_repN {X : Cx} : OpR X (binaryOp .Mult) rRepN := by
  intro pins s σ H x y v u Q I rx ry h
  obtain ⟨l, k, xs, rfl, rfl, hH, h1, h2, hz, q⟩ := h
  obtain rfl : v = Value.ref l := rx
  obtain ⟨t, rfl⟩ := ry
  obtain ⟨z, its, n, r, hl, e⟩ := I.lstM hH
  have hk : its.toArray.size * k.toNat ≤ sizeLine := by
    rw [List.size_toArray, ← hl]
    exact hz
  have hb : sizeLine ≤ (2 ^ 63 - 1) / 8 := by decide
  refine wpAny_binaryOp_repeat_ref (T := "list") (U := "int") (by decide) ⟨_, e, rfl⟩ (fun s2 => typeIs_int s2 k t) noFill_list_mul F.fills_int_mul F.slot_int_rmul repeat_list F.slot_int_index.lookup
    (call_meets F.slot_int_rmul (typeIs_int s k t) F.entry_int_rmul (F.args_int_rmul_2 _ _) (int___rmul___int_list k t l its.toArray n) ⟨e, rfl, ⟨_, e, rfl⟩, call_meets F.slot_list_mul ⟨_, e, rfl⟩ F.entry_list_mul (F.args_list_mul_2 _ _)
      (AutoListH.list___mul___list_int_3 l its.toArray n k t (by rw [fitsIndex_both h1 h2]; exact Bool.false_ne_true) (by omega) (by rw [notLongL hk]; exact Bool.false_ne_true)) ⟨e, ?_⟩⟩)
  have en : List.foldl (fun x1 x2 => x1 ++ x2) #[] (List.replicate (if its.toArray.isEmpty = true then 0 else k.toNat) its.toArray) = (List.replicate k.toNat its).flatten.toArray := by
    rw [PyProof.Rows.listMul_foldl]
    cases its with
    | nil =>
      have : (List.replicate k.toNat ([] : List Value)).flatten = [] := by simp
      rw [this]
      simp
    | cons a r => simp
  rw [en]
  have hf : H s.heap.objs.size = none := I.fresh
  exact ⟨.ref s.heap.objs.size, _, I.lnew (t' := s.toks) (r.rep k.toNat) (by rw [PyProof.Rows.lm_len_rep_flat, Nat.mul_comm]; exact hz), rfl, q _ hf fun z => by
    have := I.big
    rw [z] at this
    exact Nat.lt_irrefl _ this⟩
def signs (x : Str) : List V := x.cps.toList.map fun c => V.str ⟨#[c]⟩
theorem vals_signs : ∀ {cs : List Nat} {us : List Value}, us.length = cs.length → (∀ (j : Nat) (v : Value), us[j]? = some v → ∃ c u, cs[j]? = some c ∧ v = .str ⟨#[c]⟩ u) → Vals (cs.map fun c => V.str ⟨#[c]⟩) us
  | [], [], _, _ => .nil
  | [], _ :: _, h, _ => nomatch h
  | _ :: _, [], h, _ => nomatch h
  | c :: cs, v :: us, h, k => by
    obtain ⟨c', u, e, ev⟩ := k 0 v rfl
    cases e
    exact .cons ⟨u, ev⟩ (vals_signs (Nat.succ.inj h) fun j v hj => k (j + 1) v hj)
section
variable {X : Cx}
def rListStr : List V → Hp → VK → Prop := fun xs H Q => ∃ a : Str, xs = [.str a] ∧ a.length ≤ 1000 ∧ ∀ l H', Same H H' → l ≠ sysModules → H' l = some (.lst (signs a)) → Q (.ref l) H'
theorem cr_listStr (hc : X.calm = true) : CallR X (.type "list") rListStr := by
  intro pins s σ H xs us Q I r h
  obtain ⟨a, rfl, hl, q⟩ := h
  obtain ⟨u, rfl, t, rfl⟩ := vals1 r
  have hsz : a.cps.size ≤ sizeLine := by
    rw [sizeLine_eq]
    have : a.cps.size = a.length := rfl
    omega
  refine call_list_str (I.ok.hd hc) a t (fun h' tk acc' c' k e it => ?_) hsz
  obtain ⟨i1, i2⟩ := it
  have rv : Vals (signs a) acc'.toList := vals_signs (by rw [Array.length_toList, i1, Array.length_toList]) fun j v hj => by
    obtain ⟨c, u, e1, e2⟩ := i2 j v (by simpa using hj)
    exact ⟨c, u, by simpa using e1, e2⟩
  have hz : (signs a).length ≤ sizeLine := by
    unfold signs
    rw [List.length_map, Array.length_toList]
    exact hsz
  exact ⟨.ref s.heap.objs.size, _, I.laid (t' := tk) k (Nat.le_refl _) (show ObjOk X.prog X.w _ h' _ (.lst (signs a)) from ⟨hz, acc'.toList, c', rv, by simpa using e⟩), rfl, q _ _ (EX.Same.upd (I.hok.fresh (Nat.le_refl _))) (fun z => by
    have := I.big
    rw [z] at this
    exact Nat.lt_irrefl _ this) upd_same⟩
def repStr (a : Str) (n : Nat) : Str := ⟨(List.replicate n a.cps).foldl (· ++ ·) #[]⟩
theorem rep_size (a : Array Nat) : ∀ (n : Nat) (acc : Array Nat), ((List.replicate n a).foldl (· ++ ·) acc).size = acc.size + n * a.size
  | 0, acc => by simp
  | n + 1, acc => by
    rw [List.replicate_succ, List.foldl_cons, rep_size a n (acc ++ a), Array.size_append, Nat.succ_mul]
    omega
def rRepStr : R2 := fun x y H Q => ∃ (a : Str) (n : Nat), x = .str a ∧ y = .int (n : Int) ∧ 2 ≤ n ∧ n ≤ 1000 ∧ 1 ≤ a.length ∧ a.length ≤ 1000 ∧ Q (.str (repStr a n)) H
theorem op_repStr : OpR X (binaryOp .Mult) rRepStr := by
  intro pins s σ H x y v u Q I rx ry h
  obtain ⟨a, n, rfl, rfl, h2, hn, ha, ha2, q⟩ := h
  obtain ⟨t, rfl⟩ := rx
  obtain ⟨t', rfl⟩ := ry
  have hb : a.length * n ≤ 1000000 := Nat.le_trans (Nat.mul_le_mul ha2 hn) (by decide)
  have e1 : ((n : Int) == 1 || a.length == 0) = false := by
    rw [Bool.or_eq_false_iff]
    exact ⟨beq_eq_false_iff_ne.mpr (by omega), beq_eq_false_iff_ne.mpr (by omega)⟩
  have hlong : Builtin.Str.tooLong (a.length * n) = false := by
    unfold Builtin.Str.tooLong
    rw [sizeLine_eq]
    exact decide_eq_false (by omega)
  have hbi : (a.length : Int) * (n : Int) ≤ 1000000 := by
    rw [← Int.natCast_mul]
    omega
  refine P.mul_str (by
    rw [decide_eq_false (by omega), decide_eq_false (by omega)]
    rfl) (fun _ _ => ?_) (fun _ _ => by rw [Int.toNat_natCast]; exact hlong) ?_
  · have : (a.length : Int) ≤ (2 ^ 63 - 1) / (n : Int) := Int.le_ediv_of_mul_le (by omega) (by omega)
    omega
  · rw [if_neg (by omega), e1, if_neg (by decide), Int.toNat_natCast]
    have hz : (repStr a n).length ≤ sizeLine := by
      have e : (repStr a n).length = n * a.length := (rep_size a.cps n #[]).trans (Nat.zero_add _)
      rw [e, Nat.mul_comm, sizeLine_eq]
      omega
    exact ⟨hz, .str (repStr a n), H, I.tok _, ⟨_, rfl⟩, q⟩
end
end EX
set_option Elab.async false
set_option linter.all false
set_option maxRecDepth 100000
set_option maxHeartbeats 4000000
namespace K02
open PySem L2 EX PyProof.Rows LamX
open NZ
abbrev sSa : Stmt := top 67
theorem scSa : FnScope ["_law_net", "_law_name", "_law_parent", "_law_allowances", "e"] ["_law_net", "_law_name", "_law_parent", "_law_allowances"] (defScope sSa) := ⟨rfl, rfl, rfl, by decide +kernel, rfl, by decide +kernel, by decide +kernel⟩
structure RefOk (dv : PyData) : Prop where
  sh : dv.showable = true
  dp : dv.depth ≤ 60
  len : dv.shown.length ≤ sizeLine
def refB (dv : PyData) : Bool := dv.showable && (decide (dv.depth ≤ 60) && decide (dv.shown.length ≤ 1000))
theorem refB_ok {dv : PyData} (h : refB dv = true) : RefOk dv := by
  unfold refB at h
  simp only [Bool.and_eq_true, decide_eq_true_eq] at h
  exact ⟨h.1, h.2.1, Nat.le_trans h.2.2 (by rw [sizeLine_eq]; decide)⟩
theorem same_dqs {K : PySem.W.Frag} {H H' : Hp} (s : Same H H') {v : V} {d : PyData} (h : DqS K H v d) : DqS K H' v d := EX.DqS.ext (LamX.ExtN.of s) h
/-- which clause takes which error -/
structure Exs (K : PySem.W.Frag) (X : Xs) : Prop where
  e_IN_IN : PySem.W.exmOne K (.ref X.IN) (.ref X.IN) = some true
  e_NT_IN : PySem.W.exmOne K (.ref X.NT) (.ref X.IN) = some false
  e_NT_NT : PySem.W.exmOne K (.ref X.NT) (.ref X.NT) = some true
  e_UN_IN : PySem.W.exmOne K (.ref X.UN) (.ref X.IN) = some false
  e_UN_NT : PySem.W.exmOne K (.ref X.UN) (.ref X.NT) = some false
  e_UN_UN : PySem.W.exmOne K (.ref X.UN) (.ref X.UN) = some true
  e_IA_IN : PySem.W.exmOne K (.ref X.IA) (.ref X.IN) = some false
  e_IA_NT : PySem.W.exmOne K (.ref X.IA) (.ref X.NT) = some false
  e_IA_UN : PySem.W.exmOne K (.ref X.IA) (.ref X.UN) = some false
  e_IA_IA : PySem.W.exmOne K (.ref X.IA) (.ref X.IA) = some true
  e_LE_IN : PySem.W.exmOne K (.ref X.LE) (.ref X.IN) = some false
  e_LE_NT : PySem.W.exmOne K (.ref X.LE) (.ref X.NT) = some false
  e_LE_UN : PySem.W.exmOne K (.ref X.LE) (.ref X.UN) = some false
  e_LE_IA : PySem.W.exmOne K (.ref X.LE) (.ref X.IA) = some false
  e_LE_LE : PySem.W.exmOne K (.ref X.LE) (.ref X.LE) = some true
  e_NR_IN : PySem.W.exmOne K (.ref X.NR) (.ref X.IN) = some false
  e_NR_NT : PySem.W.exmOne K (.ref X.NR) (.ref X.NT) = some false
  e_NR_UN : PySem.W.exmOne K (.ref X.NR) (.ref X.UN) = some false
  e_NR_IA : PySem.W.exmOne K (.ref X.NR) (.ref X.IA) = some false
  e_NR_LE : PySem.W.exmOne K (.ref X.NR) (.ref X.LE) = some false
  e_NR_NR : PySem.W.exmOne K (.ref X.NR) (.ref X.NR) = some true
  e_TL_IN : PySem.W.exmOne K (.ref X.TL) (.ref X.IN) = some false
  e_TL_NT : PySem.W.exmOne K (.ref X.TL) (.ref X.NT) = some false
  e_TL_UN : PySem.W.exmOne K (.ref X.TL) (.ref X.UN) = some false
  e_TL_IA : PySem.W.exmOne K (.ref X.TL) (.ref X.IA) = some false
  e_TL_LE : PySem.W.exmOne K (.ref X.TL) (.ref X.LE) = some false
  e_TL_NR : PySem.W.exmOne K (.ref X.TL) (.ref X.NR) = some false
  e_TL_TL : PySem.W.exmOne K (.ref X.TL) (.ref X.TL) = some true
/-- a join that is refused, and what is said then -/
def RefusedJ (K : PySem.W.Frag) (H : Hp) (M : NetM) (x up al : V) (ans : List V) : Prop :=
  (((∃ s, x = .str s ∧ s.length ≤ sizeLine ∧ isW s = false) ∨ StrB K H x false) ∧ ∃ dv, DqS K H x dv ∧ RefOk dv ∧ ans = [.str "name", .str dv.shown]) ∨
  ∃ s, x = .str s ∧ isW s = true ∧
    (((s ∈ M.nodes.map (·.label) ∨ s ∈ M.rows.map (·.child)) ∧ ans = [.str "taken", x]) ∨
    (s ∉ M.nodes.map (·.label) ∧ s ∉ M.rows.map (·.child) ∧
      ((BadOf K H (M.nodes.map (·.label)) up ∧ ∃ dv, DqS K H up dv ∧ RefOk dv ∧ ans = [.str "unknown", .str dv.shown]) ∨
      ∃ (i : Nat) (m : NodeM), up = .str m.label ∧ M.nodes[i]? = some m ∧
        ((AllowArg K H al M.words false ∧ ∃ dv, DqS K H al dv ∧ RefOk dv ∧ ans = [.str "allowance", .str dv.shown]) ∨
        (AllowArg K H al M.words true ∧
          ((12 ≤ M.nodes.length ∧ ans = [.str "limit", .int 12]) ∨
          (M.nodes.length < 12 ∧
            (((∃ k, (k, none) ∈ m.cells) ∧ ans = [.str "ready", up]) ∨
            ∃ (js : Js) (d : Addr) (kvs : List (Key × V)), m.cells = (js.map fun j => (j.1, some j.2.1)) ∧ al = .ref d ∧ H d = some (.dK kvs) ∧ (∀ j ∈ js, valV kvs (Sum.inr j.1) = some (.int j.2.2)) ∧
              ∃ (i : Nat) (j : Str × CellM × Int), js[i]? = some j ∧ (∀ j' ∈ js.take i, j'.2.1.alw ≤ j'.2.2) ∧ j.2.2 < j.2.1.alw ∧ ans = [.str "low", .int j.2.1.alw]))))))))
def spSaid (K : PySem.W.Frag) (c : Cs) : Sp := fun vs H Q _ => ∃ (n : Addr) (g : Sg) (M : NetM) (x up al : V) (ans : List V), vs = [.ref n, x, up, al] ∧ NetA c H n g M ∧ RefusedJ K H M x up al ans ∧ ∀ H' l, Same H H' → H' l = some (.lst ans) → Q (.ref l) H'
section
variable {P : Program} {w : World} {K : PySem.W.Frag} {mg : Str → Option Value} {base : Heap}
theorem ok_said {c : Cs} {X : Xs} {f : Addr} {fd : FuncData} (F : Fun K "_law_said" "_law_said" sSa f fd) (B : Bn mg) (ex : Exs K X) (XIN : XrAt P w K mg base "InvalidName" "given" X.IN) (XNT : XrAt P w K mg base "NameTaken" "node" X.NT) (XUN : XrAt P w K mg base "UnknownNode" "node" X.UN) (XIA : XrAt P w K mg base "InvalidAllowance" "given" X.IA) (XLE : XrAt P w K mg base "LimitExceeded" "limit" X.LE) (XNR : XrAt P w K mg base "NotReady" "node" X.NR) (XTL : XrAt P w K mg base "TooLow" "least" X.TL) (GJn : MtX P w K mg base 5 c.N "join" ["self", "name", "parent", "allowances"] (spJoin K c X)) : FnG P w K mg base CX0 6 f fd ["_law_net", "_law_name", "_law_parent", "_law_allowances"] (spSaid K c) := by
  refine okG F scSa (fun vs H Q E h => ?_) (fun cdv A outer s H vs Q E hgu hr h => ?_)
  · obtain ⟨n, g, M, x, up, al, ans, rfl, _⟩ := h
    rfl
  · obtain ⟨n, g, M, x, up, al, ans, rfl, hN, hj, k⟩ := h
    obtain ⟨Z, q⟩ := id hN
    have hn := q.at_n
    have hu64 : _ + 64 < cLine := hr.units
    have hu70 : (A.deeper (envOfC "_law_said" (defScope sSa) s.heap.objs.size f cdv)).units + 70 < cLine := by
      have := hr.un
      omega
    refine ⟨_, PSs.nox (pss_cons (ps_try_cls (tb := fun W => tDrop (tMethU c.N "join" (spJoin K c X) W (tVar 0) (tCons (tVar 1) (tCons (tVar 2) (tCons (tVar 3) tNil))))) (l := [⟨.ref X.IN, some 4, fun a cls d => tRet (tLst (tCons (tC (.str "name")) (tCons (tCB (rRepq K) (tCons (tXf a cls d X.IN "given" (tVar 4)) tNil)) tNil)))⟩, ⟨.ref X.NT, some 4, fun a cls d => tRet (tLst (tCons (tC (.str "taken")) (tCons (tXf a cls d X.NT "node" (tVar 4)) tNil)))⟩, ⟨.ref X.UN, some 4, fun a cls d => tRet (tLst (tCons (tC (.str "unknown")) (tCons (tCB (rRepq K) (tCons (tXf a cls d X.UN "node" (tVar 4)) tNil)) tNil)))⟩, ⟨.ref X.IA, some 4, fun a cls d => tRet (tLst (tCons (tC (.str "allowance")) (tCons (tCB (rRepq K) (tCons (tXf a cls d X.IA "given" (tVar 4)) tNil)) tNil)))⟩, ⟨.ref X.LE, some 4, fun a cls d => tRet (tLst (tCons (tC (.str "limit")) (tCons (tXf a cls d X.LE "limit" (tVar 4)) tNil)))⟩, ⟨.ref X.NR, some 4, fun a cls d => tRet (tLst (tCons (tC (.str "ready")) (tCons (tXf a cls d X.NR "node" (tVar 4)) tNil)))⟩, ⟨.ref X.TL, some 4, fun a cls d => tRet (tLst (tCons (tC (.str "low")) (tCons (tXf a cls d X.TL "least" (tVar 4)) tNil)))⟩]) rfl rfl scSa.nd L2.takes0 (fun W pn xe tk _ => (pss_one (ps_expr (pe_mtU GJn (hr.mono (by decide)) tk (pv 0) (pa_cons (pv 1) (pa_cons (pv 2) (pa_cons (pv 3) pa_nil))))))) (ClsOk.as ⟨by rfl, by decide, .inl XIN.m⟩ rfl rfl (fun a oe cls d pn hz hf => (pss_one (ps_ret (pe_lst (pa_cons pe_str (pa_cons (pe_callB (call_reprq hgu hu70) (by rfl) B.repr (by decide +kernel) (pa_cons (pe_xf XIN.T.xf XIN.no hz hf (pv 4)) pa_nil)) pa_nil)))))) (ClsOk.as ⟨by rfl, by decide, .inl XNT.m⟩ rfl rfl (fun a oe cls d pn hz hf => (pss_one (ps_ret (pe_lst (pa_cons pe_str (pa_cons (pe_xf XNT.T.xf XNT.no hz hf (pv 4)) pa_nil)))))) (ClsOk.as ⟨by rfl, by decide, .inl XUN.m⟩ rfl rfl (fun a oe cls d pn hz hf => (pss_one (ps_ret (pe_lst (pa_cons pe_str (pa_cons (pe_callB (call_reprq hgu hu70) (by rfl) B.repr (by decide +kernel) (pa_cons (pe_xf XUN.T.xf XUN.no hz hf (pv 4)) pa_nil)) pa_nil)))))) (ClsOk.as ⟨by rfl, by decide, .inl XIA.m⟩ rfl rfl (fun a oe cls d pn hz hf => (pss_one (ps_ret (pe_lst (pa_cons pe_str (pa_cons (pe_callB (call_reprq hgu hu70) (by rfl) B.repr (by decide +kernel) (pa_cons (pe_xf XIA.T.xf XIA.no hz hf (pv 4)) pa_nil)) pa_nil)))))) (ClsOk.as ⟨by rfl, by decide, .inl XLE.m⟩ rfl rfl (fun a oe cls d pn hz hf => (pss_one (ps_ret (pe_lst (pa_cons pe_str (pa_cons (pe_xf XLE.T.xf XLE.no hz hf (pv 4)) pa_nil)))))) (ClsOk.as ⟨by rfl, by decide, .inl XNR.m⟩ rfl rfl (fun a oe cls d pn hz hf => (pss_one (ps_ret (pe_lst (pa_cons pe_str (pa_cons (pe_xf XNR.T.xf XNR.no hz hf (pv 4)) pa_nil)))))) (ClsOk.as ⟨by rfl, by decide, .inl XTL.m⟩ rfl rfl (fun a oe cls d pn hz hf => (pss_one (ps_ret (pe_lst (pa_cons pe_str (pa_cons (pe_xf XTL.T.xf XTL.no hz hf (pv 4)) pa_nil)))))) .nil))))))))
        (pss_one (ps_ret (pe_lst (pa_cons pe_str pa_nil))))), ?_⟩
    refine ⟨_, rfl, n, Z.dx, _, rfl, hn, rfl, _, rfl, _, rfl, _, rfl, n, g, M, x, up, al, rfl, hN, ?_⟩
    rcases hj with ⟨hx, dv, hd, hok, rfl⟩ | ⟨s, rfl, hs, hj⟩
    · exact .inl ⟨hx, (fun d H' S _ hdd => ⟨true, ex.e_IN_IN, fun _ a ha => ⟨_, rfl, rfl, rfl, d, _, x, rfl, hdd, rfl, x, dv, rfl, same_dqs S hd, hok.sh, hok.dp, hok.len, by show 2 ≤ sizeLine; decide, fun l hl => k _ l (Same.trans S (Same.upd hl)) (by rw [upd_same])⟩, (fun z => nomatch z)⟩)⟩
    refine .inr ⟨s, rfl, hs, ?_⟩
    rcases hj with ⟨hin, rfl⟩ | ⟨hn1, hr1, hj⟩
    · exact .inl ⟨hin, (fun d H' S _ hdd => ⟨false, ex.e_NT_IN, (fun z => nomatch z), fun _ => ⟨true, ex.e_NT_NT, fun _ a ha => ⟨_, rfl, rfl, rfl, d, _, _, rfl, hdd, rfl, by show 2 ≤ sizeLine; decide, fun l hl => k _ l (Same.trans S (Same.upd hl)) (by rw [upd_same])⟩, (fun z => nomatch z)⟩⟩)⟩
    refine .inr ⟨hn1, hr1, ?_⟩
    rcases hj with ⟨hb, dv, hd, hok, rfl⟩ | ⟨i, m, rfl, hm, hj⟩
    · exact .inl ⟨hb, (fun d H' S _ hdd => ⟨false, ex.e_UN_IN, (fun z => nomatch z), fun _ => ⟨false, ex.e_UN_NT, (fun z => nomatch z), fun _ => ⟨true, ex.e_UN_UN, fun _ a ha => ⟨_, rfl, rfl, rfl, d, _, up, rfl, hdd, rfl, up, dv, rfl, same_dqs S hd, hok.sh, hok.dp, hok.len, by show 2 ≤ sizeLine; decide, fun l hl => k _ l (Same.trans S (Same.upd hl)) (by rw [upd_same])⟩, (fun z => nomatch z)⟩⟩⟩)⟩
    refine .inr ⟨i, m, rfl, hm, ?_⟩
    rcases hj with ⟨ha, dv, hd, hok, rfl⟩ | ⟨ha, hj⟩
    · exact .inl ⟨ha, (fun d H' S _ hdd => ⟨false, ex.e_IA_IN, (fun z => nomatch z), fun _ => ⟨false, ex.e_IA_NT, (fun z => nomatch z), fun _ => ⟨false, ex.e_IA_UN, (fun z => nomatch z), fun _ => ⟨true, ex.e_IA_IA, fun _ a ha => ⟨_, rfl, rfl, rfl, d, _, al, rfl, hdd, rfl, al, dv, rfl, same_dqs S hd, hok.sh, hok.dp, hok.len, by show 2 ≤ sizeLine; decide, fun l hl => k _ l (Same.trans S (Same.upd hl)) (by rw [upd_same])⟩, (fun z => nomatch z)⟩⟩⟩⟩)⟩
    refine .inr ⟨ha, ?_⟩
    rcases hj with ⟨h12, rfl⟩ | ⟨h12, hj⟩
    · exact .inl ⟨h12, (fun d H' S _ hdd => ⟨false, ex.e_LE_IN, (fun z => nomatch z), fun _ => ⟨false, ex.e_LE_NT, (fun z => nomatch z), fun _ => ⟨false, ex.e_LE_UN, (fun z => nomatch z), fun _ => ⟨false, ex.e_LE_IA, (fun z => nomatch z), fun _ => ⟨true, ex.e_LE_LE, fun _ a ha => ⟨_, rfl, rfl, rfl, d, _, _, rfl, hdd, rfl, by show 2 ≤ sizeLine; decide, fun l hl => k _ l (Same.trans S (Same.upd hl)) (by rw [upd_same])⟩, (fun z => nomatch z)⟩⟩⟩⟩⟩)⟩
    refine .inr ⟨h12, ?_⟩
    rcases hj with ⟨hk, rfl⟩ | ⟨js, d0, kvs, hmc, rfl, hd0, hkv, i, j, hj1, hj2, hj3, rfl⟩
    · exact .inl ⟨hk, (fun d H' S _ hdd => ⟨false, ex.e_NR_IN, (fun z => nomatch z), fun _ => ⟨false, ex.e_NR_NT, (fun z => nomatch z), fun _ => ⟨false, ex.e_NR_UN, (fun z => nomatch z), fun _ => ⟨false, ex.e_NR_IA, (fun z => nomatch z), fun _ => ⟨false, ex.e_NR_LE, (fun z => nomatch z), fun _ => ⟨true, ex.e_NR_NR, fun _ a ha => ⟨_, rfl, rfl, rfl, d, _, _, rfl, hdd, rfl, by show 2 ≤ sizeLine; decide, fun l hl => k _ l (Same.trans S (Same.upd hl)) (by rw [upd_same])⟩, (fun z => nomatch z)⟩⟩⟩⟩⟩⟩)⟩
    exact .inr ⟨js, d0, kvs, hmc, rfl, hd0, hkv, .inl ⟨i, j, hj1, hj2, hj3, (fun d H' S _ hdd => ⟨false, ex.e_TL_IN, (fun z => nomatch z), fun _ => ⟨false, ex.e_TL_NT, (fun z => nomatch z), fun _ => ⟨false, ex.e_TL_UN, (fun z => nomatch z), fun _ => ⟨false, ex.e_TL_IA, (fun z => nomatch z), fun _ => ⟨false, ex.e_TL_LE, (fun z => nomatch z), fun _ => ⟨false, ex.e_TL_NR, (fun z => nomatch z), fun _ => ⟨true, ex.e_TL_TL, fun _ a ha => ⟨_, rfl, rfl, rfl, d, _, _, rfl, hdd, rfl, by show 2 ≤ sizeLine; decide, fun l hl => k _ l (Same.trans S (Same.upd hl)) (by rw [upd_same])⟩, (fun z => nomatch z)⟩⟩⟩⟩⟩⟩⟩)⟩⟩
end
end K02
set_option Elab.async false
set_option linter.all false
set_option maxRecDepth 100000
set_option maxHeartbeats 4000000
namespace K02
open PySem L2 EX PyProof.Rows LamX
open NZ
abbrev sRr : Stmt := top 68
theorem scRr : FnScope ["_law_source_here", "_law_net", "_law_odd", "_law_up", "_law_bad", "_law_saved", "_law_dues"] ["_law_source_here", "_law_net"] (defScope sRr) := ⟨rfl, rfl, rfl, by decide +kernel, rfl, by decide +kernel, by decide +kernel⟩
/-- things made beside a source that changes -/
structure Kp (so : Addr) (H0 H : Hp) (l : List (Addr × HO)) : Prop where
  k : Keeps [so] H0 H
  own : ∀ x ∈ l, x.1 ≠ so ∧ H x.1 = some x.2
section
variable {so p : Addr} {H0 H H' : Hp} {l : List (Addr × HO)} {o u : HO}
theorem Kp.start (so : Addr) (H : Hp) : Kp so H H [] := ⟨Keeps.refl _ _, fun x hx => nomatch hx⟩
theorem Kp.same (b : Kp so H0 H l) (s : Same H H') : Kp so H0 H' l := ⟨b.k.then s, fun x hx => ⟨(b.own x hx).1, s _ _ (b.own x hx).2⟩⟩
theorem Kp.add (b : Kp so H0 H l) (h : H p = some o) (n : p ≠ so) : Kp so H0 H ((p, o) :: l) := ⟨b.k, fun x hx => by
  rcases List.mem_cons.mp hx with rfl | hx
  · exact ⟨n, h⟩
  · exact b.own x hx⟩
theorem Kp.new (b : Kp so H0 H l) (hp : H p = none) (hs : H so = some u) : Kp so H0 (upd H p o) ((p, o) :: l) := (b.same (Same.upd hp)).add upd_same (ne_by hs hp).symm
theorem Kp.put (b : Kp so H0 H l) : Kp so H0 (upd H so o) l := ⟨b.k.put (by simp), fun x hx => ⟨(b.own x hx).1, by rw [upd_ne (b.own x hx).1]; exact (b.own x hx).2⟩⟩
theorem Kp.get (b : Kp so H0 H l) (i : Nat) {x : Addr × HO} (h : l[i]? = some x := by rfl) : H x.1 = some x.2 := (b.own x (List.mem_of_getElem? h)).2
end
theorem ex_ix {l : List V} {k : Nat} (h : k < l.length) : ∃ v, l[k]? = some v := ⟨l[k], List.getElem?_eq_getElem h⟩
/-- what is shown of a thing and said with a word -/
structure ShownOk (w : Str) (dv : PyData) : Prop where
  ok : RefOk dv
  sh : SeqAt.shaped (.list [.str w, .str dv.shown]) = true
def shB (w : Str) (dv : PyData) : Bool := refB dv && SeqAt.shaped (.list [.str w, .str dv.shown])
theorem sh_ok {w : Str} {dv : PyData} (h : shB w dv = true) : ShownOk w dv := by
  unfold shB at h
  rw [Bool.and_eq_true] at h
  exact ⟨refB_ok h.1, h.2⟩
theorem eqS {d : PyData} (h : SeqAt.shaped d = true) : PyData.eqv d d = true := SeqAt.eqv_refl d (SeqAt.canLay_of_shaped h)
theorem dpS2 {K : PySem.W.Frag} {H : Hp} {l : Addr} {a b : Str} (h : H l = some (.lst [.str a, .str b])) : Dp K H (.ref l) (.list [.str a, .str b]) := .lst (SqL.of h) (.cons (.str a) (.cons (.str b) .nil))
theorem allow_of {K : PySem.W.Frag} {H : Hp} {d : Addr} {kvs : List (Key × V)} {ws : List Str} {b : Bool} (h : H d = some (.dK kvs)) (hv : kvs.all (fun p => match p.2 with | .int _ => true | .bl _ => true | _ => false) = true) (hl : kvs.length ≤ 1000) (hb : allowB kvs ws = b) : AllowArg K H (.ref d) ws b := by
  refine .inl ⟨d, kvs, rfl, h, fun w v e => ?_, hl, hb.symm⟩
  have hm : ∃ p ∈ kvs, p.2 = v := by
    unfold valV at e
    obtain ⟨p, hp, e2⟩ := Option.map_eq_some_iff.mp e
    exact ⟨p, List.mem_of_find?_eq_some hp, e2⟩
  obtain ⟨p, hp, rfl⟩ := hm
  have := List.all_eq_true.mp hv p hp
  cases e3 : p.2 with
  | int i => exact .inl ⟨i, rfl⟩
  | bl i => exact .inr ⟨i, rfl⟩
  | non => rw [e3] at this; cases this
  | str i => rw [e3] at this; cases this
  | flt i => rw [e3] at this; cases this
  | byt i => rw [e3] at this; cases this
  | ty i => rw [e3] at this; cases this
  | ref i => rw [e3] at this; cases this
def NameBad (K : PySem.W.Frag) (H : Hp) (x : V) : Prop := (∃ s, x = .str s ∧ s.length ≤ sizeLine ∧ isW s = false) ∨ StrB K H x false
theorem sl {s : Str} (h : s.length ≤ 1000) : s.length ≤ sizeLine := Nat.le_trans h (by rw [sizeLine_eq]; decide)
/-- what stands at the start of a look by the law at what is refused -/
structure RefPre (K : PySem.W.Frag) (c : Cs) (H : Hp) (n : Addr) (g : Sg) (M : NetM) : Prop where
  net : NetA c H n g M
  words : M.words = [("b" : Str), ("a" : Str)]
  store : ("store" : Str) ∈ M.nodes.map (·.label)
  nob : ("nobody" : Str) ∉ M.nodes.map (·.label)
  x1 : ("x" : Str) ∉ M.nodes.map (·.label)
  x2 : ("x" : Str) ∉ M.rows.map (·.child)
  sh : SeqAt.shaped (.tuple M.done) = true
def spRefR (K : PySem.W.Frag) (c : Cs) : Sp := fun vs H Q _ => ∃ (so n : Addr) (g : Sg) (M : NetM) (x y : Int), vs = [.ref so, .ref n] ∧ RefPre K c H n g M ∧ H so = some (.lst [.int x, .int y]) ∧ SrcOk x y ∧ so ∉ g.S ∧ ∀ H' x' y', Keeps [so] H H' → H' so = some (.lst [.int x', .int y']) → SrcOk x' y' → Q (.bl true) H'
section
variable {P : Program} {w : World} {K : PySem.W.Frag} {mg : Str → Option Value} {base : Heap}
theorem ok_rr {c : Cs} {f : Addr} {fd : FuncData} (F : Fun K "_law_refused_right" "_law_refused_right" sRr f fd) (B : Bn mg) (GDr : DefAt P w K mg base 1 "_law_draw" ["_law_source_here", "_law_amount"] spDraw) (GSa : DefG P w K mg base 6 "_law_said" ["_law_net", "_law_name", "_law_parent", "_law_allowances"] (spSaid K c)) (PHi : PrAt P w K mg base 1 c.N "history" ["self"] (spHist c)) : FnG P w K mg base CX0 7 f fd ["_law_source_here", "_law_net"] (spRefR K c) := by
  refine okG F scRr (fun vs H Q E h => ?_) (fun cdv A outer s H vs Q E hgu hr h => ?_)
  · obtain ⟨so, n, g, M, x, y, rfl, _⟩ := h
    rfl
  · obtain ⟨so, n, g, M, x, y, rfl, hp, hso, hxy, nso, k⟩ := h
    have hu64 : _ + 64 < cLine := hr.units
    have hu70 : (A.deeper (envOfC "_law_refused_right" (defScope sRr) s.heap.objs.size f cdv)).units + 70 < cLine := by
      have := hr.un
      omega
    refine ⟨_, PSs.nox (pss_cons (ps_set (i := 2) scRr.nd rfl (Or.inl rfl) (pe_ix ix_list (pe_lst (pa_cons pe_non (pa_cons pe_str (pa_cons pe_str (pa_cons pe_str (pa_cons pe_int (pa_cons (pe_lstN (pa_cons pe_str pa_nil)) (pa_cons pe_str (pa_cons pe_bl pa_nil))))))))) (pe_callD GDr (hr.mono (by decide)) (pa_cons (pv 0) (pa_cons pe_int pa_nil))) (fun _ _ => rfl)))
        (pss_cons (ps_set (i := 3) scRr.nd rfl (Or.inl rfl) (pe_ix ix_list (pe_lst (pa_cons pe_non (pa_cons pe_str (pa_cons pe_int (pa_cons (pe_lstN (pa_cons pe_str pa_nil)) pa_nil))))) (pe_callD GDr (hr.mono (by decide)) (pa_cons (pv 0) (pa_cons pe_int pa_nil))) (fun _ _ => rfl)))
        (pss_cons (ps_set (i := 4) scRr.nd rfl (Or.inl rfl) (pe_lst (pa_cons pe_non (pa_cons pe_int (pa_cons pe_dnewK (pa_cons (pe_disp (pps_cons pe_str pe_int pps_nil) rfl rfl (by simp) (by decide)) (pa_cons (pe_disp (pps_cons pe_str pe_int (pps_cons pe_str pe_int pps_nil)) rfl rfl (by simp) (by decide)) (pa_cons (pe_disp (pps_cons pe_str pe_int (pps_cons pe_str pe_bl pps_nil)) rfl rfl (by simp) (by decide)) (pa_cons (pe_disp (pps_cons pe_str pe_int (pps_cons pe_str pe_int pps_nil)) rfl rfl (by simp) (by decide)) (pa_cons (pe_disp (pps_cons pe_str pe_int (pps_cons pe_str pe_int (pps_cons pe_str pe_int pps_nil))) rfl rfl (by simp) (by decide)) pa_nil))))))))))
        (pss_cons (ps_set (i := 4) scRr.nd rfl (Or.inl rfl) (pe_ix ix_list (pv 4) (pe_callD GDr (hr.mono (by decide)) (pa_cons (pv 0) (pa_cons pe_int pa_nil))) (fun _ _ => rfl)))
        (pss_cons (ps_set (i := 5) scRr.nd rfl (Or.inl rfl) (pe_prD PHi (hr.mono (by decide)) (pv 1)))
        (pss_cons (ps_set (i := 6) scRr.nd rfl (Or.inl rfl) (pe_lst (pa_cons (pe_cmpR (op_eqD hu64) (pe_callG GSa (hr.mono (by decide)) hgu (pa_cons (pv 1) (pa_cons (pv 2) (pa_cons (pv 3) (pa_cons (pv 4) pa_nil))))) (pe_lst (pa_cons pe_str (pa_cons (pe_callB (call_reprq hgu hu70) (by rfl) B.repr (by decide +kernel) (pa_cons (pv 2) pa_nil)) pa_nil))) (nomark _)) (pa_cons (pe_cmpR (op_eqD hu64) (pe_callG GSa (hr.mono (by decide)) hgu (pa_cons (pv 1) (pa_cons pe_str (pa_cons (pv 3) (pa_cons (pv 4) pa_nil))))) (pe_lst (pa_cons pe_str (pa_cons pe_str pa_nil))) (nomark _)) pa_nil))))
        (pss_cons (ps_set (i := 6) scRr.nd rfl (Or.inl rfl) (pe_op op_cat (pv 6) (pe_lst (pa_cons (pe_cmpR (op_eqD hu64) (pe_callG GSa (hr.mono (by decide)) hgu (pa_cons (pv 1) (pa_cons pe_str (pa_cons (pv 3) (pa_cons (pv 4) pa_nil))))) (pe_lst (pa_cons pe_str (pa_cons (pe_callB (call_reprq hgu hu70) (by rfl) B.repr (by decide +kernel) (pa_cons (pv 3) pa_nil)) pa_nil))) (nomark _)) pa_nil))))
        (pss_cons (ps_set (i := 6) scRr.nd rfl (Or.inl rfl) (pe_op op_cat (pv 6) (pe_lst (pa_cons (pe_cmpR (op_eqD hu64) (pe_callG GSa (hr.mono (by decide)) hgu (pa_cons (pv 1) (pa_cons pe_str (pa_cons pe_str (pa_cons (pv 4) pa_nil))))) (pe_lst (pa_cons pe_str (pa_cons (pe_callB (call_reprq hgu hu70) (by rfl) B.repr (by decide +kernel) (pa_cons (pv 4) pa_nil)) pa_nil))) (nomark _)) pa_nil))))
        (pss_one (ps_ret (pe_and (pe_cmpR (op_eqD hu64) (pv 6) (pe_op op_repN (pe_lst (pa_cons pe_bl pa_nil)) pe_int) (nomark _)) (pe_one (pe_cmpR (op_eqD hu64) (pe_prD PHi (hr.mono (by decide)) (pv 1)) (pv 5) (nomark _)))))))))))))), ?_⟩
    -- the odd name
    refine ⟨by show 1 ≤ sizeLine; decide, fun l1 hl1 ns1 => ⟨by show 8 ≤ sizeLine; decide, fun lo hlo => ?_⟩⟩
    have b2 := (((Kp.start so H).new (o := .lst [.str "a"]) hl1 hso).new (o := .lst [.non, .str "", .str "A", .str "a1", .int 5, .ref l1, .str "toolongaa", .bl true]) hlo ((Same.upd hl1) _ _ hso))
    have hs2 := (Same.upd (o := .lst [.non, .str "", .str "A", .str "a1", .int 5, .ref l1, .str "toolongaa", .bl true]) hlo) _ _ ((Same.upd (o := .lst [.str "a"]) hl1) _ _ hso)
    generalize upd (upd H l1 (HO.lst [.str "a"])) lo (HO.lst [.non, .str "", .str "A", .str "a1", .int 5, .ref l1, .str "toolongaa", .bl true]) = H2 at b2 hs2 ⊢
    refine ⟨_, rfl, so, x, y, 8, rfl, hs2, hxy, by decide, by decide, fun x1 y1 d1 hxy1 h01 h81 => ?_⟩
    obtain ⟨k1, rfl⟩ := Int.eq_ofNat_of_zero_le h01
    obtain ⟨v1, hv1⟩ := ex_ix (l := [.non, .str "", .str "A", .str "a1", .int 5, .ref l1, .str "toolongaa", .bl true]) (k := k1) (by show k1 < 8; omega)
    have b3 := b2.put (o := .lst [.int x1, .int y1])
    have hs3 : upd H2 so (.lst [.int x1, .int y1]) so = some (.lst [.int x1, .int y1]) := upd_same
    generalize upd H2 so (HO.lst [.int x1, .int y1]) = H3 at b3 hs3 ⊢
    refine ⟨lo, _, _, _, rfl, rfl, SqL.of (b3.get 0), atI_nat hv1, ?_⟩
    -- the odd parent
    refine ⟨by show 1 ≤ sizeLine; decide, fun l4 hl4 ns4 => ⟨by show 4 ≤ sizeLine; decide, fun lu hlu => ?_⟩⟩
    have b4 := ((b3.new (o := .lst [.str "store"]) hl4 hs3).new (o := .lst [.non, .str "nobody", .int 5, .ref l4]) hlu ((Same.upd hl4) _ _ hs3))
    have hs4 := (Same.upd (o := .lst [.non, .str "nobody", .int 5, .ref l4]) hlu) _ _ ((Same.upd (o := .lst [.str "store"]) hl4) _ _ hs3)
    generalize upd (upd H3 l4 (HO.lst [.str "store"])) lu (HO.lst [.non, .str "nobody", .int 5, .ref l4]) = H4 at b4 hs4 ⊢
    refine ⟨_, rfl, so, x1, y1, 4, rfl, hs4, hxy1, by decide, by decide, fun x2 y2 d2 hxy2 h02 h82 => ?_⟩
    obtain ⟨k2, rfl⟩ := Int.eq_ofNat_of_zero_le h02
    obtain ⟨v2, hv2⟩ := ex_ix (l := [.non, .str "nobody", .int 5, .ref l4]) (k := k2) (by show k2 < 4; omega)
    have b5 := b4.put (o := .lst [.int x2, .int y2])
    have hs5 : upd H4 so (.lst [.int x2, .int y2]) so = some (.lst [.int x2, .int y2]) := upd_same
    generalize upd H4 so (HO.lst [.int x2, .int y2]) = H5 at b5 hs5 ⊢
    refine ⟨lu, _, _, _, rfl, rfl, SqL.of (b5.get 0), atI_nat hv2, ?_⟩
    -- the odd allowances
    refine fun d0 hd0 => ?_
    have c0 := b5.new (o := .dK []) hd0 hs5
    have hc0 := (Same.upd (o := .dK []) hd0) _ _ hs5
    generalize upd H5 d0 (HO.dK []) = C0 at c0 hc0 ⊢
    refine disp_c (cs := [((Sum.inr "a" : Key), V.int 1)]) (by decide) fun d3 C1 S1 fd3 hd3 => ?_
    have hd3 : C1 d3 = some (.dK [((Sum.inr "a" : Key), V.int 1)]) := hd3
    have c1 := (c0.same S1).add hd3 (ne_by hc0 fd3).symm
    have hc1 := S1 _ _ hc0
    refine disp_c (cs := [((Sum.inr "a" : Key), V.int 0), ((Sum.inr "b" : Key), V.int 1)]) (by decide) fun d4 C2 S2 fd4 hd4 => ?_
    have hd4 : C2 d4 = some (.dK [((Sum.inr "a" : Key), V.int 0), ((Sum.inr "b" : Key), V.int 1)]) := hd4
    have c2 := (c1.same S2).add hd4 (ne_by hc1 fd4).symm
    have hc2 := S2 _ _ hc1
    refine disp_c (cs := [((Sum.inr "a" : Key), V.int 1), ((Sum.inr "b" : Key), V.bl true)]) (by decide) fun d5 C3 S3 fd5 hd5 => ?_
    have hd5 : C3 d5 = some (.dK [((Sum.inr "a" : Key), V.int 1), ((Sum.inr "b" : Key), V.bl true)]) := hd5
    have c3 := (c2.same S3).add hd5 (ne_by hc2 fd5).symm
    have hc3 := S3 _ _ hc2
    refine disp_c (cs := [((Sum.inr "a" : Key), V.int 1), ((Sum.inr "b" : Key), V.int 100)]) (by decide) fun d6 C4 S4 fd6 hd6 => ?_
    have hd6 : C4 d6 = some (.dK [((Sum.inr "a" : Key), V.int 1), ((Sum.inr "b" : Key), V.int 100)]) := hd6
    have c4 := (c3.same S4).add hd6 (ne_by hc3 fd6).symm
    have hc4 := S4 _ _ hc3
    refine disp_c (cs := [((Sum.inr "a" : Key), V.int 1), ((Sum.inr "b" : Key), V.int 1), ((Sum.inr "c" : Key), V.int 1)]) (by decide) fun d7 C5 S5 fd7 hd7 => ?_
    have hd7 : C5 d7 = some (.dK [((Sum.inr "a" : Key), V.int 1), ((Sum.inr "b" : Key), V.int 1), ((Sum.inr "c" : Key), V.int 1)]) := hd7
    have c5 := (c4.same S5).add hd7 (ne_by hc4 fd7).symm
    have hc5 := S5 _ _ hc4
    refine ⟨by show 8 ≤ sizeLine; decide, fun lb hlb => ?_⟩
    have b6 := c5.new (o := .lst [.non, .int 5, .ref d0, .ref d3, .ref d4, .ref d5, .ref d6, .ref d7]) hlb hc5
    have hs6 := (Same.upd (o := .lst [.non, .int 5, .ref d0, .ref d3, .ref d4, .ref d5, .ref d6, .ref d7]) hlb) _ _ hc5
    generalize upd C5 lb (HO.lst [.non, .int 5, .ref d0, .ref d3, .ref d4, .ref d5, .ref d6, .ref d7]) = H6 at b6 hs6 ⊢
    refine ⟨_, rfl, _, rfl, so, x2, y2, 8, rfl, hs6, hxy2, by decide, by decide, fun x3 y3 e3 hxy3 h03 h83 => ?_⟩
    obtain ⟨k3, rfl⟩ := Int.eq_ofNat_of_zero_le h03
    obtain ⟨v3, hv3⟩ := ex_ix (l := [.non, .int 5, .ref d0, .ref d3, .ref d4, .ref d5, .ref d6, .ref d7]) (k := k3) (by show k3 < 8; omega)
    have b7 := b6.put (o := .lst [.int x3, .int y3])
    have hs7 : upd H6 so (.lst [.int x3, .int y3]) so = some (.lst [.int x3, .int y3]) := upd_same
    generalize upd H6 so (HO.lst [.int x3, .int y3]) = H7 at b7 hs7 ⊢
    refine ⟨lb, _, _, _, rfl, rfl, SqL.of (b7.get 0), atI_nat hv3, ?_⟩
    have nk : ∀ p ∈ [so], p ∉ g.S := fun p h => by rw [List.mem_singleton.mp h]; exact nso
    have nt : ∀ p ∈ [so], ∀ xs, H p ≠ some (.tup xs) := fun p h xs w => by
      rw [List.mem_singleton.mp h, hso] at w
      cases w
    have hN7 := hp.net.keeps b7.k nk nt
    have g1 : H7 l1 = some (.lst [.str "a"]) := b7.get 10
    have g4 : H7 l4 = some (.lst [.str "store"]) := b7.get 8
    have e0 : H7 d0 = some (.dK []) := b7.get 6
    have ed3 : H7 d3 = some (.dK [((Sum.inr "a" : Key), V.int 1)]) := b7.get 5
    have ed4 : H7 d4 = some (.dK [((Sum.inr "a" : Key), V.int 0), ((Sum.inr "b" : Key), V.int 1)]) := b7.get 4
    have ed5 : H7 d5 = some (.dK [((Sum.inr "a" : Key), V.int 1), ((Sum.inr "b" : Key), V.bl true)]) := b7.get 3
    have ed6 : H7 d6 = some (.dK [((Sum.inr "a" : Key), V.int 1), ((Sum.inr "b" : Key), V.int 100)]) := b7.get 2
    have ed7 : H7 d7 = some (.dK [((Sum.inr "a" : Key), V.int 1), ((Sum.inr "b" : Key), V.int 1), ((Sum.inr "c" : Key), V.int 1)]) := b7.get 1
    have odd : ∀ H', Same H7 H' → NameBad K H' v1 ∧ ∃ dv, DqS K H' v1 dv ∧ ShownOk "name" dv := by
      intro H' S
      match k1, hv1 with
      | 0, h => cases h; exact ⟨.inr .non, _, .non, sh_ok (by decide +kernel)⟩
      | 1, h => cases h; exact ⟨.inl ⟨_, rfl, sl (by decide +kernel), by decide +kernel⟩, _, .str _, sh_ok (by decide +kernel)⟩
      | 2, h => cases h; exact ⟨.inl ⟨_, rfl, sl (by decide +kernel), by decide +kernel⟩, _, .str _, sh_ok (by decide +kernel)⟩
      | 3, h => cases h; exact ⟨.inl ⟨_, rfl, sl (by decide +kernel), by decide +kernel⟩, _, .str _, sh_ok (by decide +kernel)⟩
      | 4, h => cases h; exact ⟨.inr (.int _), _, .int _, sh_ok (by decide +kernel)⟩
      | 5, h => cases h; exact ⟨.inr (.seq (.inl (SqL.of (S _ _ g1)))), _, .lst ns1 (SqL.of (S _ _ g1)) (.cons (.str _) .nil), sh_ok (by decide +kernel)⟩
      | 6, h => cases h; exact ⟨.inl ⟨_, rfl, sl (by decide +kernel), by decide +kernel⟩, _, .str _, sh_ok (by decide +kernel)⟩
      | 7, h => cases h; exact ⟨.inr (.bl _), _, .bl _, sh_ok (by decide +kernel)⟩
      | n + 8, h => simp at h
    have up : ∀ H', Same H7 H' → BadOf K H' (M.nodes.map (·.label)) v2 ∧ ∃ dv, DqS K H' v2 dv ∧ ShownOk "unknown" dv := by
      intro H' S
      match k2, hv2 with
      | 0, h => cases h; exact ⟨.inr .non, _, .non, sh_ok (by decide +kernel)⟩
      | 1, h => cases h; exact ⟨.inl ⟨_, rfl, hp.nob⟩, _, .str _, sh_ok (by decide +kernel)⟩
      | 2, h => cases h; exact ⟨.inr (.int _), _, .int _, sh_ok (by decide +kernel)⟩
      | 3, h => cases h; exact ⟨.inr (.seq (.inl (SqL.of (S _ _ g4)))), _, .lst ns4 (SqL.of (S _ _ g4)) (.cons (.str _) .nil), sh_ok (by decide +kernel)⟩
      | n + 4, h => simp at h
    have bad : ∀ H', Same H7 H' → AllowArg K H' v3 M.words false ∧ ∃ dv, DqS K H' v3 dv ∧ ShownOk "allowance" dv := by
      intro H' S
      rw [hp.words]
      match k3, hv3 with
      | 0, h => cases h; exact ⟨.inr ⟨⟨_, .base .non, kit_ty (by decide +kernel)⟩, rfl⟩, _, .non, sh_ok (by decide +kernel)⟩
      | 1, h => cases h; exact ⟨.inr ⟨⟨_, .base (.int _), kit_ty (by decide +kernel)⟩, rfl⟩, _, .int _, sh_ok (by decide +kernel)⟩
      | 2, h => cases h; exact ⟨allow_of (S _ _ e0) (by decide +kernel) (by decide) (by decide +kernel), _, .dic (S _ _ e0) .nil, sh_ok (by decide +kernel)⟩
      | 3, h => cases h; exact ⟨allow_of (S _ _ ed3) (by decide +kernel) (by decide) (by decide +kernel), _, .dic (S _ _ ed3) (.cons (.int _) .nil), sh_ok (by decide +kernel)⟩
      | 4, h => cases h; exact ⟨allow_of (S _ _ ed4) (by decide +kernel) (by decide) (by decide +kernel), _, .dic (S _ _ ed4) (.cons (.int _) (.cons (.int _) .nil)), sh_ok (by decide +kernel)⟩
      | 5, h => cases h; exact ⟨allow_of (S _ _ ed5) (by decide +kernel) (by decide) (by decide +kernel), _, .dic (S _ _ ed5) (.cons (.int _) (.cons (.bl _) .nil)), sh_ok (by decide +kernel)⟩
      | 6, h => cases h; exact ⟨allow_of (S _ _ ed6) (by decide +kernel) (by decide) (by decide +kernel), _, .dic (S _ _ ed6) (.cons (.int _) (.cons (.int _) .nil)), sh_ok (by decide +kernel)⟩
      | 7, h => cases h; exact ⟨allow_of (S _ _ ed7) (by decide +kernel) (by decide) (by decide +kernel), _, .dic (S _ _ ed7) (.cons (.int _) (.cons (.int _) (.cons (.int _) .nil))), sh_ok (by decide +kernel)⟩
      | n + 8, h => simp at h
    obtain ⟨Z7, q7⟩ := id hN7
    refine ⟨_, rfl, n, _, _, rfl, q7.at_n, n, g, M, rfl, hN7, fun q0 H8 S8 hq => ?_⟩
    have hN8 := hN7.mono S8
    obtain ⟨ob, dv1, hd1, ok1⟩ := odd H8 S8
    refine ⟨_, rfl, _, rfl, _, rfl, _, rfl, n, g, M, v1, v2, v3, _, rfl, hN8, .inl ⟨ob, dv1, hd1, ok1.ok, rfl⟩, fun H9 la S9 hla => ?_⟩
    refine ⟨_, rfl, v1, dv1, rfl, same_dqs S9 hd1, ok1.ok.sh, ok1.ok.dp, ok1.ok.len, by show 2 ≤ sizeLine; decide, fun le hle => ?_⟩
    have S10 : Same H9 (upd H9 le (.lst [.str "name", .str dv1.shown])) := Same.upd hle
    have hle' : upd H9 le (HO.lst [.str "name", .str dv1.shown]) le = some (.lst [.str "name", .str dv1.shown]) := upd_same
    generalize upd H9 le (HO.lst [.str "name", .str dv1.shown]) = H10 at S10 hle' ⊢
    refine ⟨_, _, dpS2 (S10 _ _ hla), dpS2 hle', ok1.sh, ok1.sh, ?_⟩
    rw [eqS ok1.sh]
    have S810 := Same.trans S9 S10
    have S710 := Same.trans S8 S810
    have hN10 := hN8.mono S810
    have hq10 := hq.mono (KT.of S810)
    refine ⟨_, rfl, _, rfl, _, rfl, n, g, M, .str "store", v2, v3, _, rfl, hN10, .inr ⟨"store", rfl, by decide +kernel, .inl ⟨.inl hp.store, rfl⟩⟩, fun H11 lt S11 hlt => ?_⟩
    refine ⟨by show 2 ≤ sizeLine; decide, fun lf hlf => ?_⟩
    have S12 : Same H11 (upd H11 lf (.lst [.str "taken", .str "store"])) := Same.upd hlf
    have hlf' : upd H11 lf (HO.lst [.str "taken", .str "store"]) lf = some (.lst [.str "taken", .str "store"]) := upd_same
    generalize upd H11 lf (HO.lst [.str "taken", .str "store"]) = H12 at S12 hlf' ⊢
    refine ⟨_, _, dpS2 (S12 _ _ hlt), dpS2 hlf', by decide +kernel, by decide +kernel, ?_⟩
    rw [eqS (show SeqAt.shaped (.list [.str "taken", .str "store"]) = true by decide +kernel)]
    refine ⟨by show 2 ≤ sizeLine; decide, fun ld hld => ?_⟩
    have S13 : Same H12 (upd H12 ld (.lst [.bl true, .bl true])) := Same.upd hld
    have hld' : upd H12 ld (HO.lst [.bl true, .bl true]) ld = some (.lst [.bl true, .bl true]) := upd_same
    generalize upd H12 ld (HO.lst [.bl true, .bl true]) = H13 at S13 hld' ⊢
    have S1013 := Same.trans S11 (Same.trans S12 S13)
    have S713 := Same.trans S710 S1013
    have hN13 := hN10.mono S1013
    have hq13 := hq10.mono (KT.of S1013)
    -- unknown
    obtain ⟨ub, dv2, hd2, ok2⟩ := up H13 S713
    refine ⟨_, rfl, ?_⟩
    refine ⟨_, rfl, _, rfl, _, rfl, n, g, M, .str "x", v2, v3, _, rfl, hN13, .inr ⟨"x", rfl, by decide +kernel, .inr ⟨hp.x1, hp.x2, .inl ⟨ub, dv2, hd2, ok2.ok, rfl⟩⟩⟩, fun H14 lu2 S14 hlu2 => ?_⟩
    refine ⟨_, rfl, v2, dv2, rfl, same_dqs S14 hd2, ok2.ok.sh, ok2.ok.dp, ok2.ok.len, by show 2 ≤ sizeLine; decide, fun lg hlg => ?_⟩
    have S15 : Same H14 (upd H14 lg (.lst [.str "unknown", .str dv2.shown])) := Same.upd hlg
    have hlg' : upd H14 lg (HO.lst [.str "unknown", .str dv2.shown]) lg = some (.lst [.str "unknown", .str dv2.shown]) := upd_same
    generalize upd H14 lg (HO.lst [.str "unknown", .str dv2.shown]) = H15 at S15 hlg' ⊢
    refine ⟨_, _, dpS2 (S15 _ _ hlu2), dpS2 hlg', ok2.sh, ok2.sh, ?_⟩
    rw [eqS ok2.sh]
    refine ⟨by show 1 ≤ sizeLine; decide, fun lh hlh => ?_⟩
    have S16 : Same H15 (upd H15 lh (.lst [.bl true])) := Same.upd hlh
    have hlh' : upd H15 lh (HO.lst [.bl true]) lh = some (.lst [.bl true]) := upd_same
    generalize upd H15 lh (HO.lst [.bl true]) = H16 at S16 hlh' ⊢
    have S1316 := Same.trans S14 (Same.trans S15 S16)
    refine ⟨ld, lh, _, _, rfl, rfl, S1316 _ _ hld', hlh', by show 3 ≤ sizeLine; decide, fun l3 hl3 => ?_⟩
    have S17 : Same H16 (upd H16 l3 (.lst ([.bl true, .bl true] ++ [.bl true]))) := Same.upd hl3
    have hl3' : upd H16 l3 (HO.lst ([.bl true, .bl true] ++ [.bl true])) l3 = some (.lst ([.bl true, .bl true] ++ [.bl true])) := upd_same
    generalize upd H16 l3 (HO.lst ([.bl true, .bl true] ++ [.bl true])) = H17 at S17 hl3' ⊢
    have S1317 := Same.trans S1316 S17
    have S717 := Same.trans S713 S1317
    have hN17 := hN13.mono S1317
    have hq17 := hq13.mono (KT.of S1317)
    -- allowance
    obtain ⟨ab, dv3, hd3', ok3⟩ := bad H17 S717
    obtain ⟨m, hmm, hml⟩ := List.mem_map.mp hp.store
    obtain ⟨im, hm⟩ := List.mem_iff_getElem?.mp hmm
    refine ⟨_, rfl, ?_⟩
    refine ⟨_, rfl, _, rfl, n, g, M, .str "x", .str "store", v3, _, rfl, hN17, .inr ⟨"x", rfl, by decide +kernel, .inr ⟨hp.x1, hp.x2, .inr ⟨im, m, by rw [hml], hm, .inl ⟨ab, dv3, hd3', ok3.ok, rfl⟩⟩⟩⟩, fun H18 lv S18 hlv => ?_⟩
    refine ⟨_, rfl, v3, dv3, rfl, same_dqs S18 hd3', ok3.ok.sh, ok3.ok.dp, ok3.ok.len, by show 2 ≤ sizeLine; decide, fun lg2 hlg2 => ?_⟩
    have S19 : Same H18 (upd H18 lg2 (.lst [.str "allowance", .str dv3.shown])) := Same.upd hlg2
    have hlg2' : upd H18 lg2 (HO.lst [.str "allowance", .str dv3.shown]) lg2 = some (.lst [.str "allowance", .str dv3.shown]) := upd_same
    generalize upd H18 lg2 (HO.lst [.str "allowance", .str dv3.shown]) = H19 at S19 hlg2' ⊢
    refine ⟨_, _, dpS2 (S19 _ _ hlv), dpS2 hlg2', ok3.sh, ok3.sh, ?_⟩
    rw [eqS ok3.sh]
    refine ⟨by show 1 ≤ sizeLine; decide, fun lj hlj => ?_⟩
    have S20 : Same H19 (upd H19 lj (.lst [.bl true])) := Same.upd hlj
    have hlj' : upd H19 lj (HO.lst [.bl true]) lj = some (.lst [.bl true]) := upd_same
    generalize upd H19 lj (HO.lst [.bl true]) = H20 at S20 hlj' ⊢
    have S1720 := Same.trans S18 (Same.trans S19 S20)
    refine ⟨l3, lj, _, _, rfl, rfl, S1720 _ _ hl3', hlj', by show 4 ≤ sizeLine; decide, fun l5 hl5 => ?_⟩
    have S21 : Same H20 (upd H20 l5 (.lst ([.bl true, .bl true] ++ [.bl true] ++ [.bl true]))) := Same.upd hl5
    have hl5' : upd H20 l5 (HO.lst ([.bl true, .bl true] ++ [.bl true] ++ [.bl true])) l5 = some (.lst [.bl true, .bl true, .bl true, .bl true]) := upd_same
    generalize upd H20 l5 (HO.lst ([.bl true, .bl true] ++ [.bl true] ++ [.bl true])) = H21 at S21 hl5' ⊢
    have S1721 := Same.trans S1720 S21
    have S721 := Same.trans S717 S1721
    have hN21 := hN17.mono S1721
    have hq21 := hq17.mono (KT.of S1721)
    have dpT : ∀ {H' : Hp} {l : Addr}, H' l = some (.lst [.bl true, .bl true, .bl true, .bl true]) → Dp K H' (.ref l) (.list [.bool true, .bool true, .bool true, .bool true]) := fun h => .lst (SqL.of h) (.cons (.bl _) (.cons (.bl _) (.cons (.bl _) (.cons (.bl _) .nil))))
    refine ⟨_, rfl, by show 1 ≤ sizeLine; decide, fun lr hlr => ?_⟩
    have S22 : Same H21 (upd H21 lr (.lst [.bl true])) := Same.upd hlr
    have hlr' : upd H21 lr (HO.lst [.bl true]) lr = some (.lst [.bl true]) := upd_same
    generalize upd H21 lr (HO.lst [.bl true]) = H22 at S22 hlr' ⊢
    refine ⟨lr, 4, [.bl true], rfl, rfl, hlr', by decide, by decide, by show 1 * 4 ≤ sizeLine; decide, fun l6 hl6 n6 => ?_⟩
    have S23 : Same H22 (upd H22 l6 (.lst (List.replicate (Int.toNat 4) [V.bl true]).flatten)) := Same.upd hl6
    have hl6' : upd H22 l6 (HO.lst (List.replicate (Int.toNat 4) [V.bl true]).flatten) l6 = some (.lst [.bl true, .bl true, .bl true, .bl true]) := upd_same
    generalize upd H22 l6 (HO.lst (List.replicate (Int.toNat 4) [V.bl true]).flatten) = H23 at S23 hl6' ⊢
    have S2123 := Same.trans S22 S23
    refine ⟨_, _, dpT (S2123 _ _ hl5'), dpT hl6', by decide +kernel, by decide +kernel, ?_⟩
    rw [eqS (show SeqAt.shaped (.list [.bool true, .bool true, .bool true, .bool true]) = true by decide +kernel)]
    obtain ⟨Z23, q23⟩ := (hN21.mono S2123).ex
    refine ⟨_, rfl, iteT ?_⟩
    refine ⟨_, rfl, n, _, _, rfl, q23.at_n, n, g, M, rfl, hN21.mono S2123, fun q1 H24 S24 hq1 => ⟨_, rfl, _, _, hq1.dp, ((hq21.mono (KT.of S2123)).mono (KT.of S24)).dp, hp.sh, hp.sh, ?_⟩⟩
    rw [eqS hp.sh]
    have S724 := Same.trans S721 (Same.trans S2123 S24)
    exact k H24 x3 y3 (b7.k.then S724) (S724 _ _ hs7) hxy3
end
end K02
set_option Elab.async false
set_option linter.all false
set_option maxRecDepth 100000
set_option maxHeartbeats 4000000
namespace K02
open PySem L2 EX PyProof.Rows LamX
open NZ
/-! ### what the law keeps of its net's data: ns the names in order, the first k nodes have all copies, t deeds, u writes -/
structure LawN (M : NetM) (ns : List Str) (k t u : Nat) : Prop where
  words : M.words = [("b" : Str), ("a" : Str)]
  labels : M.nodes.map (·.label) = ns
  childs : ("store" : Str) :: M.rows.map (·.child) = ns
  above : ∀ (j : Nat) (r : RowM), M.rows[j]? = some r → ∃ i, i ≤ j ∧ ns[i]? = some r.above
  full : ∀ (i : Nat) (m : NodeM), i < k → M.nodes[i]? = some m → ∃ cb ca : CellM, m.cells = [(("b" : Str), some cb), (("a" : Str), some ca)] ∧ cb.alw ≤ 5 * (i : Int) ∧ ca.alw ≤ 5 * (i : Int)
  down : ∀ r ∈ M.rows, r.down.length ≤ t + 2
  done : M.done.length ≤ t
  acc : M.acc.length ≤ t
  stm : M.stm.length ≤ t
  kept : ∃ lb la : List Int, M.kept = [(("b" : Str), lb), (("a" : Str), la)] ∧ la.length ≤ u
  kids : ∀ m ∈ M.nodes, m.kids.length ≤ t
  sh : ∀ d ∈ M.done, d.canLay0 = true ∧ d.depth ≤ 10
theorem LawN.rooms {M : NetM} {ns : List Str} {k t u : Nat} (h : LawN M ns k t u) (ht : t ≤ 900) : Rooms M := ⟨fun r hr => by have := h.down r hr; omega, by have := h.done; omega, by have := h.acc; omega, by have := h.stm; omega⟩
/-- no cycle -/
theorem LawN.cyc {M : NetM} {ns : List Str} {k t u : Nat} (h : LawN M ns k t u) (nd : ns.Nodup) {j : Nat} {r r' : RowM} (hr : M.rows[j]? = some r) (hr' : r' ∈ M.rows) (e : r'.child = r.above) : r'.above ≠ r.child := by
  intro e2
  obtain ⟨j', hj'⟩ := List.mem_iff_getElem?.mp hr'
  obtain ⟨i, hi, hni⟩ := h.above j r hr
  obtain ⟨i', hi', hni'⟩ := h.above j' r' hj'
  have c1 : ns[j + 1]? = some r.child := by rw [← h.childs, List.getElem?_cons_succ, List.getElem?_map, hr]; rfl
  have c2 : ns[j' + 1]? = some r'.child := by rw [← h.childs, List.getElem?_cons_succ, List.getElem?_map, hj']; rfl
  rw [e] at c2
  rw [e2] at hni'
  have inj : ∀ {a b : Nat} {x : Str}, ns[a]? = some x → ns[b]? = some x → a = b := fun {a b x} ha hb => by
    obtain ⟨l1, e1⟩ := List.getElem?_eq_some_iff.mp ha
    obtain ⟨l2, e3⟩ := List.getElem?_eq_some_iff.mp hb
    exact (List.getElem_inj nd).mp (e1.trans e3.symm)
  have x1 := inj hni c2
  have x2 := inj hni' c1
  omega
theorem canAll : ∀ {ds : List PyData}, (∀ d ∈ ds, d.canLay0 = true) → PyData.canLayAll0 ds = true
  | [], _ => by simp [PyData.canLayAll0]
  | d :: r, h => by
    simp only [PyData.canLayAll0, Bool.and_eq_true]
    exact ⟨h d (.head _), canAll fun x hx => h x (.tail _ hx)⟩
theorem depAll : ∀ {ds : List PyData}, (∀ d ∈ ds, d.depth ≤ 10) → PyData.depthAll ds ≤ 10
  | [], _ => by simp [PyData.depthAll]
  | d :: r, h => by
    have h1 := h d (.head _)
    have h2 := depAll (ds := r) fun x hx => h x (.tail _ hx)
    simp only [PyData.depthAll]
    omega
theorem LawN.shaped {M : NetM} {ns : List Str} {k t u : Nat} (h : LawN M ns k t u) : SeqAt.shaped (.tuple M.done) = true := by
  unfold SeqAt.shaped
  rw [Bool.and_eq_true, decide_eq_true_eq]
  have h2 := depAll fun d hd => (h.sh d hd).2
  refine ⟨?_, ?_⟩
  · simp only [PyData.canLay0]
    exact canAll fun d hd => (h.sh d hd).1
  · simp only [PyData.depth]
    omega
/-- a step that adds one deed and changes neither names nor rows' ends -/
theorem LawN.join {M : NetM} {ns : List Str} {t u i : Nat} {m : NodeM} {nm : Str} {js : Js} {cb ca : CellM} {gb ga : Int} (h : LawN M ns ns.length t u) (hm : M.nodes[i]? = some m) (ejs : js = [(("b" : Str), cb, gb), (("a" : Str), ca, ga)]) (hd : (joinDeed nm m.label js).canLay0 = true ∧ (joinDeed nm m.label js).depth ≤ 10) :
    LawN (joinD M i m nm js) (ns ++ [nm]) ns.length (t + 1) u := by
  have hl : M.nodes.length = ns.length := by rw [← h.labels, List.length_map]
  have hr : M.rows.length + 1 = ns.length := by rw [← h.childs, List.length_cons, List.length_map]
  have hmi : ns[i]? = some m.label := by rw [← h.labels, List.getElem?_map, hm]; rfl
  obtain ⟨hil, _⟩ := List.getElem?_eq_some_iff.mp hm
  refine ⟨h.words, ?_, ?_, ?_, ?_, ?_, ?_, ?_, ?_, h.kept, ?_, ?_⟩
  · show (M.nodes.set i { m with kids := m.kids ++ [nm] } ++ [node1 m.label nm M.words]).map (·.label) = _
    rw [List.map_append, set_map_same (a := m) (b := { m with kids := m.kids ++ [nm] }) rfl hm, h.labels]
    rfl
  · show ("store" : Str) :: (M.rows ++ [row1 m.label nm js]).map (·.child) = _
    rw [List.map_append, ← List.cons_append, h.childs]
    rfl
  · intro j r hj
    have hj : (M.rows ++ [row1 m.label nm js])[j]? = some r := hj
    by_cases hlt : j < M.rows.length
    · rw [List.getElem?_append_left hlt] at hj
      obtain ⟨i', h1, h2⟩ := h.above j r hj
      obtain ⟨hl2, _⟩ := List.getElem?_eq_some_iff.mp h2
      exact ⟨i', h1, by rw [List.getElem?_append_left hl2]; exact h2⟩
    · rw [List.getElem?_append_right (by omega)] at hj
      have hj0 : j - M.rows.length = 0 := by
        obtain ⟨hl2, _⟩ := List.getElem?_eq_some_iff.mp hj
        rw [List.length_singleton] at hl2
        omega
      rw [hj0] at hj
      cases hj
      obtain ⟨hl2, _⟩ := List.getElem?_eq_some_iff.mp hmi
      exact ⟨i, by omega, by rw [List.getElem?_append_left hl2]; exact hmi⟩
  · intro i' m' hi' hm'
    have hm' : (M.nodes.set i { m with kids := m.kids ++ [nm] } ++ [node1 m.label nm M.words])[i']? = some m' := hm'
    rw [List.getElem?_append_left (by rw [List.length_set]; omega), List.getElem?_set] at hm'
    by_cases e : i = i'
    · subst e
      rw [if_pos rfl, if_pos hil] at hm'
      cases hm'
      exact h.full i m hi' hm
    · rw [if_neg e] at hm'
      exact h.full i' m' hi' hm'
  · intro r hr2
    rcases List.mem_append.mp (show r ∈ M.rows ++ [row1 m.label nm js] from hr2) with w | w
    · have := h.down r w
      omega
    · rw [List.mem_singleton.mp w]
      show (js.map msgD).length ≤ _
      rw [List.length_map, ejs]
      show 2 ≤ _
      omega
  · show (M.done ++ [joinDeed nm m.label js]).length ≤ _
    rw [List.length_append]
    have := h.done
    show _ + 1 ≤ _
    omega
  · have := h.acc
    show M.acc.length ≤ _
    omega
  · have := h.stm
    show M.stm.length ≤ _
    omega
  · intro m2 h2
    rcases List.mem_append.mp (show m2 ∈ M.nodes.set i { m with kids := m.kids ++ [nm] } ++ [node1 m.label nm M.words] from h2) with w | w
    · rcases List.mem_or_eq_of_mem_set w with w | rfl
      · have := h.kids m2 w
        omega
      · show (m.kids ++ [nm]).length ≤ _
        rw [List.length_append]
        have := h.kids m (List.mem_of_getElem? hm)
        show _ + 1 ≤ _
        omega
    · rw [List.mem_singleton.mp w]
      exact Nat.zero_le _
  · intro d hd2
    rcases List.mem_append.mp (show d ∈ M.done ++ [joinDeed nm m.label js] from hd2) with w | w
    · exact h.sh d w
    · rw [List.mem_singleton.mp w]
      exact hd
theorem sendR_above {ks : List Str} {d : PyData} {r : RowM} : (sendR ks d r).above = r.above := by
  unfold sendR
  split <;> rfl
theorem sendR_down {ks : List Str} {d : PyData} {r : RowM} : (sendR ks d r).down.length ≤ r.down.length + 1 := by
  unfold sendR
  split
  · show (r.down ++ [d]).length ≤ _
    rw [List.length_append]
    exact Nat.le_refl _
  · omega
theorem LawN.write {M : NetM} {ns : List Str} {k t u : Nat} {m0 : NodeM} {c0 : CellM} {l : List Int} {v : Int} (h : LawN M ns k t u) (hk : 0 < k) (hm : M.nodes[0]? = some m0) (hkl : M.kept[1]? = some (("a" : Str), l)) (hd : (wDeed "a" v).canLay0 = true ∧ (wDeed "a" v).depth ≤ 10) :
    LawN (writeM M m0 1 "a" v c0 l) ns k (t + 1) (u + 1) := by
  obtain ⟨hl0, _⟩ := List.getElem?_eq_some_iff.mp hm
  obtain ⟨lb, la, ek, hla⟩ := h.kept
  have el : l = la := by
    rw [ek] at hkl
    cases hkl
    rfl
  have hdone : (M.done ++ [wDeed "a" v]).length ≤ t + 1 := by
    rw [List.length_append]
    have := h.done
    show _ + 1 ≤ _
    omega
  have hsh : ∀ d ∈ M.done ++ [wDeed "a" v], d.canLay0 = true ∧ d.depth ≤ 10 := by
    intro d hd2
    rcases List.mem_append.mp hd2 with w | w
    · exact h.sh d w
    · rw [List.mem_singleton.mp w]
      exact hd
  unfold writeM
  split
  · refine ⟨h.words, ?_, ?_, ?_, ?_, ?_, hdone, ?_, ?_, ⟨lb, la, ek, by omega⟩, ?_, hsh⟩
    · exact (set_map_same (a := m0) (b := { m0 with cells := m0.cells.set 1 (("a" : Str), some (newC (c0.told + 1) v)) }) rfl hm).trans h.labels
    · show ("store" : Str) :: (M.rows.map (sendR m0.kids _)).map (·.child) = ns
      rw [send_childs]
      exact h.childs
    · intro j r hj
      have hj : (M.rows.map (sendR m0.kids (msgU "a" (c0.told + 1) v)))[j]? = some r := hj
      rw [List.getElem?_map] at hj
      obtain ⟨r0, h0, rfl⟩ := Option.map_eq_some_iff.mp hj
      rw [sendR_above]
      exact h.above j r0 h0
    · intro i m hi hm2
      have hm2 : (M.nodes.set 0 { m0 with cells := m0.cells.set 1 (("a" : Str), some (newC (c0.told + 1) v)) })[i]? = some m := hm2
      rw [List.getElem?_set] at hm2
      by_cases e : 0 = i
      · subst e
        rw [if_pos rfl, if_pos hl0] at hm2
        cases hm2
        obtain ⟨cb, ca, e1, e2, e3⟩ := h.full 0 m0 hk hm
        refine ⟨cb, newC (c0.told + 1) v, ?_, e2, Int.le_refl _⟩
        show m0.cells.set 1 _ = _
        rw [e1]
        rfl
      · rw [if_neg e] at hm2
        exact h.full i m hi hm2
    · intro r hr
      obtain ⟨r0, h0, rfl⟩ := List.mem_map.mp (show r ∈ M.rows.map (sendR m0.kids (msgU "a" (c0.told + 1) v)) from hr)
      have h1 := h.down r0 h0
      have h2 := sendR_down (ks := m0.kids) (d := msgU "a" (c0.told + 1) v) (r := r0)
      omega
    · show (M.acc ++ [("a" : Str)]).length ≤ _
      rw [List.length_append]
      have := h.acc
      show _ + 1 ≤ _
      omega
    · show (M.stm ++ [_]).length ≤ _
      rw [List.length_append]
      have := h.stm
      show _ + 1 ≤ _
      omega
    · intro m2 h2
      rcases List.mem_or_eq_of_mem_set h2 with w | rfl
      · have := h.kids m2 w
        omega
      · have := h.kids m0 (List.mem_of_getElem? hm)
        show m0.kids.length ≤ _
        omega
  · refine ⟨h.words, h.labels, h.childs, h.above, h.full, fun r hr => ?_, hdone, ?_, ?_, ⟨lb, l ++ [v], ?_, ?_⟩, fun m2 h2 => ?_, hsh⟩
    · have := h.down r hr
      omega
    · have := h.acc
      show M.acc.length ≤ _
      omega
    · have := h.stm
      show M.stm.length ≤ _
      omega
    · show M.kept.set 1 _ = _
      rw [ek]
      rfl
    · rw [List.length_append, el]
      show _ + 1 ≤ _
      omega
    · have := h.kids m2 h2
      omega
theorem LawN.del {M : NetM} {ns : List Str} {k t u j j2 i : Nat} {r : RowM} {m : NodeM} {rest : List PyData} {key : Str} {c' : Option CellM} (h : LawN M ns k t u) (hr : M.rows[j]? = some r) (hl : rest.length ≤ r.down.length) (hm : M.nodes[j2]? = some m) (hj : k ≤ j2) (hd : (dDeed r.above r.child).canLay0 = true ∧ (dDeed r.above r.child).depth ≤ 10) :
    LawN (setC (delM M j r rest) j2 m i key c') ns k (t + 1) u := by
  refine ⟨h.words, ?_, ?_, ?_, ?_, ?_, ?_, ?_, ?_, h.kept, ?_, ?_⟩
  · exact (set_map_same (a := m) (b := { m with cells := m.cells.set i (key, c') }) rfl hm).trans h.labels
  · show ("store" : Str) :: (M.rows.set j { r with down := rest }).map (·.child) = ns
    rw [set_map_same (a := r) (b := { r with down := rest }) rfl hr]
    exact h.childs
  · intro a r2 ha
    have ha : (M.rows.set j { r with down := rest })[a]? = some r2 := ha
    rw [List.getElem?_set] at ha
    obtain ⟨hl2, _⟩ := List.getElem?_eq_some_iff.mp hr
    by_cases e : j = a
    · subst e
      rw [if_pos rfl, if_pos hl2] at ha
      cases ha
      exact h.above j r hr
    · rw [if_neg e] at ha
      exact h.above a r2 ha
  · intro a m2 ha hm2
    have hm2 : (M.nodes.set j2 { m with cells := m.cells.set i (key, c') })[a]? = some m2 := hm2
    rw [List.getElem?_set, if_neg (by omega)] at hm2
    exact h.full a m2 ha hm2
  · intro r2 h2
    rcases List.mem_or_eq_of_mem_set (show r2 ∈ M.rows.set j { r with down := rest } from h2) with w | rfl
    · have := h.down r2 w
      omega
    · have := h.down r (List.mem_of_getElem? hr)
      show rest.length ≤ _
      omega
  · show (M.done ++ [dDeed r.above r.child]).length ≤ _
    rw [List.length_append]
    have := h.done
    show _ + 1 ≤ _
    omega
  · have := h.acc
    show M.acc.length ≤ _
    omega
  · have := h.stm
    show M.stm.length ≤ _
    omega
  · intro m2 h2
    rcases List.mem_or_eq_of_mem_set (show m2 ∈ M.nodes.set j2 { m with cells := m.cells.set i (key, c') } from h2) with w | rfl
    · have := h.kids m2 w
      omega
    · have := h.kids m (List.mem_of_getElem? hm)
      show m.kids.length ≤ _
      omega
  · intro d hd2
    rcases List.mem_append.mp (show d ∈ M.done ++ [dDeed r.above r.child] from hd2) with w | w
    · exact h.sh d w
    · rw [List.mem_singleton.mp w]
      exact hd
theorem LawN.fill {M : NetM} {ns : List Str} {k t u : Nat} (h : LawN M ns k t u) {m : NodeM} (hm : M.nodes[k]? = some m) {cb ca : CellM} (e : m.cells = [(("b" : Str), some cb), (("a" : Str), some ca)]) (hb : cb.alw ≤ 5 * (k : Int)) (ha : ca.alw ≤ 5 * (k : Int)) : LawN M ns (k + 1) t u := by
  refine ⟨h.words, h.labels, h.childs, h.above, fun i m2 hi hm2 => ?_, h.down, h.done, h.acc, h.stm, h.kept, h.kids, h.sh⟩
  by_cases e2 : i = k
  · subst e2
    cases hm.symm.trans hm2
    exact ⟨cb, ca, e, hb, ha⟩
  · exact h.full i m2 (by omega) hm2
theorem LawN.new : LawN (newM [("b" : Str), ("a" : Str)]) ["store"] 1 0 0 := by
  refine ⟨rfl, rfl, rfl, (fun j r h => by cases h), fun i m hi hm => ?_, (fun r hr => nomatch hr), Nat.le_refl _, Nat.le_refl _, Nat.le_refl _, ⟨[], [], rfl, Nat.le_refl _⟩, fun m hm => ?_, (fun d hd => nomatch hd)⟩
  · have e : i = 0 := by omega
    subst e
    cases hm
    exact ⟨_, _, rfl, by show (0 : Int) ≤ 0; decide, by show (0 : Int) ≤ 0; decide⟩
  · rw [List.mem_singleton.mp hm]
    exact Nat.le_refl _
/-- _law_joined_right(source, net, name, parent) -/
def spJoinR (c : Cs) : Sp := fun vs H Q _ => ∃ (so n : Addr) (nm pa : Str) (g : Sg) (M : NetM) (ns : List Str) (t u : Nat) (x y : Int), vs = [.ref so, .ref n, .str nm, .str pa] ∧ NetA c H n g M ∧ LawN M ns ns.length t u ∧ ns.Nodup ∧ pa ∈ ns ∧ nm ∉ ns ∧ isW nm = true ∧ (∀ s ∈ ns, isW s = true) ∧ nm ≠ "x" ∧ ("x" : Str) ∉ ns ∧ ns.length ≤ 11 ∧
  H so = some (.lst [.int x, .int y]) ∧ SrcOk x y ∧ so ∉ g.S ∧ t ≤ 800 ∧ u ≤ 18 ∧
  ∀ H' g' M' x' y', Keeps (so :: g.S) H H' → (∀ q ∈ g'.S, q ∈ g.S ∨ H q = none) → NetA c H' n g' M' → LawN M' (ns ++ [nm]) (ns.length + 1) (t + 4) (u + 1) → H' so = some (.lst [.int x', .int y']) → SrcOk x' y' → Q (.bl true) H'
end K02
set_option Elab.async false
set_option linter.all false
set_option maxRecDepth 100000
set_option maxHeartbeats 4000000
namespace K02
open PySem L2 EX PyProof.Rows LamX
open NZ
/-! ### looks at a net, and comprehensions over its words -/
section
variable {c : Cs} {n : Addr} {g : Sg} {M : NetM} {H : Hp} {Z : NetZ}
theorem NodeH.mono {C n : Addr} {H H' : Hp} {z : NodeZ} (h : NodeH C H n z) (s : Same H H') : NodeH C H' n z := ⟨s _ _ h.i, s _ _ h.cd, s _ _ h.en⟩
theorem RowH.mono {E : Addr} {H H' : Hp} {z : RowZ} (h : RowH E H z) (s : Same H H') : RowH E H' z := ⟨s _ _ h.i, s _ _ h.cd, s _ _ h.dq, s _ _ h.uq⟩
theorem nIn {p : Addr} (hN : NetA c H n g M) (h : H p = none) : p ∉ g.S := fun z => by
  obtain ⟨Z, q⟩ := hN.ex
  rw [← q.ps] at z
  obtain ⟨x, hx, e⟩ := List.mem_map.mp z
  exact q.h.ne h x hx e
theorem nx_one (q : NetQ c H n g M Z) {s : Str} {a b : Addr} (ha : (s, a) ∈ g.nx) (hb : (s, b) ∈ g.nx) : a = b := by
  obtain ⟨i, z, m, hz, _, rfl, e1, _⟩ := q.node ha
  obtain ⟨i2, z2, m2, hz2, _, rfl, e2, _⟩ := q.node hb
  have h1 := q.nodeV (List.mem_of_getElem? hz)
  have h2 := q.nodeV (List.mem_of_getElem? hz2)
  rw [e1] at h1
  rw [e2, h1] at h2
  exact V.ref.inj (Option.some.inj h2)
theorem look (q : NetQ c H n g M Z) {j i : Nat} {z : NodeZ} {m : NodeM} {key : Str} {cm : CellM} (hz : Z.nodes[j]? = some z) (hm : M.nodes[j]? = some m) (hc : m.cells[i]? = some (key, some cm)) :
    ∃ t tc av, valV (strK z.cells) (Sum.inr key) = some (.ref t) ∧ H t = some (.tup [.ref tc, .int cm.alw, .int cm.told, av]) ∧ H tc = some (.tup [.int cm.num, .int cm.val]) := by
  obtain ⟨m0, h0, zr⟩ := pr_get q.r.nodes hz
  cases hm.symm.trans h0
  have zk : z.cells.map (·.1) = M.words := (pr_keys (fun _ _ w => w.1) zr.cells).trans (q.w.cell _ (List.mem_of_getElem? hm))
  obtain ⟨⟨p1, p2⟩, hp, ep, htd⟩ := pr_get' zr.cells hc
  cases ep
  obtain ⟨t, qq, av, e, h3, h4, _⟩ := td_cell htd
  cases e
  exact ⟨t, qq, av, strK_val (by rw [zk]; exact q.w.wnd) (List.mem_of_getElem? hp), h3, h4⟩
theorem refK_val {l : List (Str × Addr)} (nd : (l.map (·.1)).Nodup) {k : Str} {v : Addr} (h : (k, v) ∈ l) : valV (NZ.refK l) (Sum.inr k) = some (.ref v) := by
  have e : NZ.refK l = strK (l.map fun p => (p.1, V.ref p.2)) := by simp [NZ.refK, NZ.strK]
  rw [e]
  exact strK_val (by rw [List.map_map]; exact nd) (List.mem_map.mpr ⟨_, h, rfl⟩)
theorem kidOf (q : NetQ c H n g M Z) {i j : Nat} {m : NodeM} {r : RowM} {z : NodeZ} (hz : Z.nodes[i]? = some z) (hm : M.nodes[i]? = some m) (hk : r.child ∈ m.kids) (hr : M.rows[j]? = some r) :
    ∃ y, Z.rows[j]? = some y ∧ RowR H y r ∧ valV (NZ.refK z.kids) (Sum.inr r.child) = some (.ref y.ra) ∧ RowH c.E H y := by
  obtain ⟨m0, h0, zr⟩ := pr_get q.r.nodes hz
  cases hm.symm.trans h0
  obtain ⟨y, hy, yr⟩ := pr_get' q.r.rows hr
  have hym := List.mem_of_getElem? hy
  have nd : (z.kids.map (·.1)).Nodup := by
    rw [zr.kids]
    exact (q.w.kids _ (List.mem_of_getElem? hm)).1
  have hp : r.child ∈ z.kids.map (·.1) := by rw [zr.kids]; exact hk
  obtain ⟨⟨p1, p2⟩, hp1, e⟩ := List.mem_map.mp hp
  have e : p1 = r.child := e
  obtain ⟨y2, hy2, e2⟩ := List.mem_map.mp (zr.kin _ hp1)
  obtain ⟨e3, e4⟩ := Prod.mk.inj e2
  have h1 := q.rowV hym
  have h2 := q.rowV hy2
  rw [e3, e, e4] at h2
  rw [yr.child, h2] at h1
  refine ⟨y, hy, yr, ?_, RowH.of q.h hym⟩
  rw [← h1, ← e]
  exact refK_val nd hp1
theorem entryOf (q : NetQ c H n g M Z) {i j k : Nat} {m : NodeM} {r : RowM} {key : Str} {num alw : Int} {z : NodeZ} (hz : Z.nodes[i]? = some z) (hm : M.nodes[i]? = some m) (hk : r.child ∈ m.kids) (hr : M.rows[j]? = some r) (hc : r.cells[k]? = some (key, num, alw)) :
    ∃ y t, valV (NZ.refK z.kids) (Sum.inr r.child) = some (.ref y.ra) ∧ RowH c.E H y ∧ valV (strK y.cells) (Sum.inr key) = some (.ref t) ∧ H t = some (.tup [.int num, .int alw]) := by
  obtain ⟨y, hy, yr, h1, h2⟩ := kidOf q hz hm hk hr
  obtain ⟨⟨p1, p2⟩, hp, ep, htd⟩ := pr_get' yr.cells hc
  cases ep
  obtain ⟨t, e, h3⟩ := td_two htd
  cases e
  have yk : y.cells.map (·.1) = M.words := (pr_keys (fun _ _ w => w.1) yr.cells).trans (q.w.rcell _ (List.mem_of_getElem? hr))
  exact ⟨y, t, h1, h2, strK_val (by rw [yk]; exact q.w.wnd) (List.mem_of_getElem? hp), h3⟩
theorem cellsOk (q : NetQ c H n g M Z) {j : Nat} {z : NodeZ} {m : NodeM} (hz : Z.nodes[j]? = some z) (hm : M.nodes[j]? = some m) : CellsOk z ∧ z.cells.map (·.1) = M.words := by
  obtain ⟨m0, h0, zr⟩ := pr_get q.r.nodes hz
  cases hm.symm.trans h0
  have zk : z.cells.map (·.1) = M.words := (pr_keys (fun _ _ w => w.1) zr.cells).trans (q.w.cell _ (List.mem_of_getElem? hm))
  refine ⟨⟨by rw [zk]; exact q.w.wnd, ?_, fun p hp => ?_⟩, zk⟩
  · have e := congrArg List.length zk
    rw [List.length_map] at e
    have := q.w.w4
    omega
  · obtain ⟨⟨b1, b2⟩, _, _, htd⟩ := pr_mem zr.cells hp
    generalize p.2 = v at htd ⊢
    cases b2 with
    | none =>
      cases htd
      exact .inl rfl
    | some cm =>
      obtain ⟨t, _, _, e, _⟩ := td_cell htd
      exact .inr ⟨t, e⟩
theorem copied_nil (q : NetQ c H n g M Z) {j : Nat} {z : NodeZ} {m : NodeM} (hz : Z.nodes[j]? = some z) (hm : M.nodes[j]? = some m) (hn : ∀ p ∈ m.cells, p.2 = none) : copied z = [] := by
  obtain ⟨m0, h0, zr⟩ := pr_get q.r.nodes hz
  cases hm.symm.trans h0
  unfold copied
  rw [List.map_eq_nil_iff, List.filter_eq_nil_iff]
  intro p hp
  obtain ⟨b, hb, _, htd⟩ := pr_mem zr.cells hp
  rw [hn b hb] at htd
  generalize p.2 = v at htd ⊢
  cases htd
  exact fun z => nomatch z
theorem td_last {xs : List V} {ds : List PyData} {d : PyData} (h : TdAll H xs (ds ++ [d])) : ∃ v, atI xs (-1) = some v ∧ Td H v d := by
  have hl := h.length
  rw [List.length_append, List.length_singleton] at hl
  have hlt : ds.length < xs.length := by omega
  have hv : xs[ds.length]? = some xs[ds.length] := List.getElem?_eq_getElem hlt
  obtain ⟨d', hd', ht⟩ := h.get hv
  rw [List.getElem?_append_right (Nat.le_refl _), Nat.sub_self] at hd'
  cases hd'
  refine ⟨_, ?_, ht⟩
  have e : ixN xs.length (-1) = some ds.length := by
    unfold ixN
    rw [if_neg (by omega), if_pos (by omega)]
    congr 1
    omega
  unfold atI
  rw [e]
  exact hv
end
theorem tcons_c {v : V} {r : TA} {σ : L2.St} {H : Hp} {Q : List V → Hp → Prop} (h : r σ H fun vs H2 => Q (v :: vs) H2) : tCons (tC v) r σ H Q := h
theorem tcons_1 {te : TE} {σ : L2.St} {H : Hp} {Q : List V → Hp → Prop} (h : te σ H fun v H1 => Q [v] H1) : tCons te tNil σ H Q := h
/-- one of two lists, both with the same things in them -/
theorem if_lst {b : Bool} {t1 t2 : TE} {σ : L2.St} {H : Hp} {Q : VK} (xs : List V) (h1 : b = true → ∀ R : VK, (∀ l H', Same H H' → H' l = some (.lst xs) → R (.ref l) H') → t1 σ H R) (h2 : b = false → ∀ R : VK, (∀ l H', Same H H' → H' l = some (.lst xs) → R (.ref l) H') → t2 σ H R) (k : ∀ l H', Same H H' → H' l = some (.lst xs) → Q (.ref l) H') : if b = true then t1 σ H Q else t2 σ H Q := by
  cases b with
  | true => exact iteT (h1 rfl Q k)
  | false => exact iteF (h2 rfl Q k)
/-- a test that comes out false, by its first part or by its second -/
theorem and_f {b : Bool} {u : TT} {σ : L2.St} {H : Hp} {Q : Bool → Hp → Prop} (h : b = true → ∀ R : Bool → Hp → Prop, (∀ H', Same H H' → R false H') → u σ H R) (k : ∀ H', Same H H' → Q false H') : if b = true then u σ H Q else Q false H := by
  cases b with
  | true => exact iteT (h rfl Q k)
  | false => exact iteF (k H (Same.refl _))
theorem td_pairs {K : PySem.W.Frag} {H : Hp} {f : Str → Int} : ∀ {ys : List V} {ws : List Str}, TdAll H ys (ws.map fun w => .tuple [.str w, .int (f w)]) → ∃ ps : List Addr, ys = ps.map V.ref ∧ Paired (fun p (kv : Key × V) => SqT K H p [kV kv.1, kv.2]) ps (ws.map fun w => ((Sum.inr w : Key), V.int (f w)))
  | _, [], h => by
    cases h
    exact ⟨[], rfl, .nil⟩
  | _, w :: ws, h => by
    cases h with
    | cons a t =>
      obtain ⟨ps, rfl, hp⟩ := td_pairs t
      obtain ⟨q, xs, rfl, hq, hx⟩ := td_tup a
      cases hx with
      | cons a1 t1 =>
        cases t1 with
        | cons a2 t2 =>
          cases t2
          cases a1
          cases a2
          exact ⟨q :: ps, rfl, .cons (SqT.of hq) hp⟩
theorem writeM_row {M : NetM} {m0 : NodeM} {i j : Nat} {key : Str} {v : Int} {c0 : CellM} {l : List Int} {r : RowM} (hr : M.rows[j]? = some r) : ∃ ds, (writeM M m0 i key v c0 l).rows[j]? = some { r with down := r.down ++ ds } ∧ ds.length ≤ 1 := by
  unfold writeM
  split
  · show ∃ ds, (M.rows.map (sendR m0.kids (msgU key (c0.told + 1) v)))[j]? = _ ∧ _
    rw [List.getElem?_map, hr]
    show ∃ ds, some (sendR m0.kids (msgU key (c0.told + 1) v) r) = _ ∧ _
    unfold sendR
    split
    · exact ⟨[_], rfl, Nat.le_refl _⟩
    · exact ⟨[], by rw [List.append_nil], Nat.zero_le _⟩
  · refine ⟨[], ?_, Nat.zero_le _⟩
    show M.rows[j]? = _
    rw [hr, List.append_nil]
theorem writeM_node {M : NetM} {m0 : NodeM} {i j : Nat} {key : Str} {v : Int} {c0 : CellM} {l : List Int} (hj : 0 < j) : (writeM M m0 i key v c0 l).nodes[j]? = M.nodes[j]? := by
  unfold writeM
  split
  · show (M.nodes.set 0 { m0 with cells := m0.cells.set i (key, some (newC (c0.told + 1) v)) })[j]? = _
    rw [List.getElem?_set, if_neg (by omega)]
  · rfl
def gotJ (e : Str × CellM × Int) : Str × Option CellM := (e.1, gotC e.2.1.num e.2.1.val e.2.2 e.2.1.num)
def noneJ (e : Str × CellM × Int) : Str × Option CellM := (e.1, none)
theorem shp {d : PyData} (h1 : d.canLay0 = true) (h2 : d.depth ≤ 64) : SeqAt.shaped d = true := by
  unfold SeqAt.shaped
  rw [h1, Bool.true_and, decide_eq_true_eq]
  exact h2
theorem shMsg {e : Str × CellM × Int} (h : PyData.strOk e.1 = true) : SeqAt.shaped (msgD e) = true := by
  refine shp ?_ ?_ <;> simp only [msgD, PyData.canLay0, PyData.canLayAll0, PyData.depth, PyData.depthAll, h, Bool.and_true, Bool.true_and] <;> decide +kernel
theorem lc_words {K : PySem.W.Frag} {a : Addr} {te : TE} {i : Nat} {σ : L2.St} {H1 : Hp} {D : Addr} {Qd : Hp → Prop} {ws : List Str} (f : Str → PyData) (ha : H1 a = some (.tup (strV ws))) (hl : ws.length ≤ 4) (hD : H1 D = none) (hw : ∀ v, wipe ((wipe σ [i]).set i (some v)) [i] = wipe σ [i])
    (hte : ∀ w ∈ ws, ∀ Hh, Same H1 Hh → ∀ Q' : VK, (∀ y H4, Same Hh H4 → Td H4 y (f w) → Q' y H4) → te ((wipe σ [i]).set i (some (.str w))) Hh Q')
    (k : ∀ ys H', Same H1 H' → H' D = some (.lst ys) → TdAll H' ys (ws.map f) → Qd H') :
    ∃ W : Nat → Nat → Hp → Prop, (∃ m, W 0 m (upd H1 D (.lst []))) ∧ ∀ q m H, W q m H →
      ((Itt K a).stop q H ∧ Qd H) ∨ ((Itt K a).go q H ∧ ∃ Nx : Hp → Prop, (∀ H', Nx H' → ∃ m', m' < m ∧ W (q + 1) m' H') ∧ ∀ x H', (Itt K a).yld q H x H' → gName i x (wipe σ [i]) H' fun σ2 H2 => wipe σ2 [i] = wipe σ [i] ∧ tYes σ2 H2 fun b H3 =>
        if b = true then te σ2 H3 fun y H4 => ∃ acc, H4 D = some (.lst acc) ∧ acc.length < sizeLine ∧ Nx (upd H4 D (.lst (acc ++ [y]))) else Nx H3) := by
  refine lc_tup (K := K) (a := a) (xs := strV ws) (fun j Hh => Same H1 Hh ∧ ∃ ys, Hh D = some (.lst ys) ∧ TdAll Hh ys ((ws.take j).map f)) ⟨Same.upd hD, [], upd_same, .nil⟩ (fun j Hh _ z => sqt_same z.1 (SqT.of ha)) ?_ ?_
  · rintro j v Hh hj ⟨S, ys, hys, hd⟩
    obtain ⟨w, rfl, hwj⟩ := strV_get hj
    refine ⟨hw _, ?_⟩
    show te _ _ _
    refine hte w (List.mem_of_getElem? hwj) Hh S _ fun y H4 S4 hy => ?_
    have hjl : j < ws.length := (List.getElem?_eq_some_iff.mp hwj).1
    have hyl : ys.length ≤ 4 := by
      have e := hd.length
      rw [List.length_map, List.length_take] at e
      omega
    have hys4 := S4 _ _ hys
    have kt : KT H4 (upd H4 D (.lst (ys ++ [y]))) := KT.upd fun xs z => by rw [hys4] at z; cases z
    refine ⟨ys, hys4, by rw [sizeLine_eq]; omega, EX.Same.updN (Same.trans S S4) hD, ys ++ [y], upd_same, ?_⟩
    rw [List.take_add_one, hwj, List.map_append]
    exact ((hd.mono (KT.of S4)).mono kt).append (.cons (hy.mono kt) .nil)
  · rintro Hh ⟨S, ys, hys, hd⟩
    have e : ws.take (strV ws).length = ws := List.take_of_length_le (by rw [List.length_map]; exact Nat.le_refl _)
    rw [e] at hd
    exact k ys Hh S hys hd
end K02
set_option Elab.async false
set_option linter.all false
set_option maxRecDepth 100000
set_option maxHeartbeats 4000000
namespace K02
open PySem L2 EX PyProof.Rows LamX
open NZ
abbrev sJr : Stmt := top 69
def sJrN : List Str := ["_law_source_here", "_law_net", "_law_name", "_law_parent", "_law_upper", "_law_gifts", "_law_held", "_law_sent", "_law_deed", "_law_entries", "_law_message", "_law_low", "_law_due", "_law_word"]
theorem scJr : FnScope ["_law_source_here", "_law_net", "_law_name", "_law_parent", "_law_upper", "_law_gifts", "_law_held", "_law_sent", "_law_deed", "_law_entries", "_law_message", "_law_low", "_law_due", "_law_word"] ["_law_source_here", "_law_net", "_law_name", "_law_parent"] (defScope sJr) := ⟨rfl, rfl, rfl, by decide +kernel, rfl, by decide +kernel, by decide +kernel⟩
section
variable {P : Program} {w : World} {K : PySem.W.Frag} {mg : Str → Option Value} {base : Heap}
theorem ok_jr {c : Cs} {X : Xs} {f : Addr} {fd : FuncData} (F : Fun K "_law_joined_right" "_law_joined_right" sJr f fd) (B : Bn mg) (GDr : DefAt P w K mg base 1 "_law_draw" ["_law_source_here", "_law_amount"] spDraw) (GSa : DefG P w K mg base 6 "_law_said" ["_law_net", "_law_name", "_law_parent", "_law_allowances"] (spSaid K c)) (PHi : PrAt P w K mg base 1 c.N "history" ["self"] (spHist c)) (PKn : PrAt P w K mg base 1 c.N "key_names" ["self"] (spKeyNames c))
    (DG : DunX P w K mg base 3 c.N "__getitem__" ["self", "at"] (spNGet K c X.UN)) (DCg : Dun P w K mg base CX0 1 c.C "__getitem__" ["self", "at"] (spCGet c.C)) (DNl : Dun P w K mg base CX0 1 c.N "__len__" ["self"] (spNLen c)) (DCl : Dun P w K mg base CX0 3 c.C "__len__" ["self"] (spCLen c.C))
    (GAl : MtAt P w K mg base CX0 1 c.C "allowance" ["self", "key"] (spAlw c.C)) (GTo : MtAt P w K mg base CX0 1 c.C "told" ["self", "key"] (spTold c.C)) (GEn : MtAt P w K mg base CX0 1 c.C "entry" ["self", "child", "key"] (spEntry c.C c.E)) (GMs : MtAt P w K mg base CX0 1 c.N "messages" ["self", "sender", "receiver"] (spMsg c))
    (GJn : MtX P w K mg base 5 c.N "join" ["self", "name", "parent", "allowances"] (spJoin K c X)) (GWr : MtAt P w K mg base CX0 3 c.N "write" ["self", "key", "value"] (spWrite c)) (GDv : MtAt P w K mg base CX0 3 c.N "deliver" ["self", "sender", "receiver"] (spDel c)) : FnG P w K mg base CX0 7 f fd ["_law_source_here", "_law_net", "_law_name", "_law_parent"] (spJoinR c) := by
  refine okG F scJr (fun vs H Q E h => ?_) (fun cdv A outer s H vs Q E hgu hr h => ?_)
  · obtain ⟨so, n, nm, pa, g, M, ns, t, u, x, y, rfl, _⟩ := h
    rfl
  · obtain ⟨so, n, nm, pa, g, M, ns, t, u, x, y, rfl, hN, hL, nd, hpa, hnm, hw, hwa, hnx, hx, h11, hso, hxy, nso, ht, hu18, k⟩ := h
    have hu := hu_of hr
    have hu64 : _ + 64 < cLine := hr.units
    have hu70 : (A.deeper (envOfC "_law_joined_right" (defScope sJr) s.heap.objs.size f cdv)).units + 70 < cLine := by
      have := hr.un
      omega
    refine ⟨_, PSs.nox (pss_cons (ps_set (i := 4) scJr.nd rfl (Or.inr rfl) (pe_getX DG (hr.mono (by decide)) (pv 1) (pv 3)))
        (pss_cons (ps_set (i := 5) scJr.nd rfl (Or.inl rfl) (pe_callTy (call_dictP rfl) (by rfl) B.dict (by decide +kernel) (pa_cons (pe_lc (own := [("_law_word", 13)]) (g := (gName 13)) (tt := tYes) (te := (tTup (tCons (tVar 13) (tCons (tOp (rI0 fun i j => .int (i + j)) (tCB rMax2 (tCons (tC (.int 1)) (tCons (tMeth c.C "allowance" (spAlw c.C) [] E0 (tVar 4) (tCons (tVar 13) tNil)) tNil))) (tCall spDraw [] E0 (tCons (tVar 0) (tCons (tC (.int 5)) tNil)))) tNil)))) rfl scJr.nd (pi_list (pe_lst (pa_cons pe_str (pa_cons pe_str pa_nil)))) (blkOk_by (N := sJrN) (sc := defScope sJr) (by decide +kernel)) (fun _ _ _ _ _ => (pg_name (i := 13) scJr.nd rfl (Or.inl rfl))) (fun _ _ _ _ _ => pts_nil) (fun _ _ _ _ _ => (pe_tup (pa_cons (pv 13) (pa_cons (pe_op op_add (pe_callB (call_max2 rfl) (by rfl) B.max PyProof.Rows.boot_max (pa_cons pe_int (pa_cons (pe_mtD GAl (hr.mono (by decide)) (pv 4) (pa_cons (pv 13) pa_nil)) pa_nil))) (pe_callD GDr (hr.mono (by decide)) (pa_cons (pv 0) (pa_cons pe_int pa_nil)))) pa_nil))))) pa_nil)))
        (pss_cons (ps_set (i := 6) scJr.nd rfl (Or.inr rfl) (pe_callTy call_dictD (by rfl) B.dict (by decide +kernel) (pa_cons (pv 5) pa_nil)))
        (pss_cons (ps_expr (pe_mtX GJn (hr.mono (by decide)) (pv 1) (pa_cons (pv 2) (pa_cons (pv 3) (pa_cons (pv 5) pa_nil)))))
        (pss_cons (ps_expr (pe_dclear (pv 5)))
        (pss_cons (ps_setLc (i := 7) (own := [("_law_word", 13)]) (g := (gName 13)) (tt := tYes) (te := (tOp (rCatA K) (tOp (rCatA K) (tTup (tCons (tC (.str "copy")) (tCons (tVar 13) tNil))) (tGetO c.C (spCGet c.C) E0 (tVar 4) (tVar 13))) (tTup (tCons (tDGet (tVar 6) (tVar 13)) tNil)))) rfl scJr.nd rfl rfl (sw_true rfl rfl rfl (by decide +kernel)) (pi_tup (pe_prD PKn (hr.mono (by decide)) (pv 1))) (blkOk_by (N := sJrN) (sc := defScope sJr) (by decide +kernel)) (fun _ _ _ _ _ => (pg_name (i := 13) scJr.nd rfl (Or.inl rfl))) (fun _ _ _ _ _ => pts_nil) (fun _ _ _ _ _ => (pe_op op_catA (pe_op op_catA (pe_tup (pa_cons pe_str (pa_cons (pv 13) pa_nil))) (pe_getO DCg (hr.mono (by decide)) pass0 (pv 4) (pv 13))) (pe_tup (pa_cons (pe_dget hu (pv 6) (pv 13) (fun _ _ => rfl)) pa_nil)))))
        (pss_cons (ps_set (i := 8) scJr.nd rfl (Or.inl rfl) (pe_tup (pa_cons pe_str (pa_cons (pv 2) (pa_cons (pv 3) (pa_cons (pe_tupleOf (by rfl) B.tuple (pe_lc (own := [("_law_word", 13)]) (g := (gName 13)) (tt := tYes) (te := (tTup (tCons (tVar 13) (tCons (tDGet (tVar 6) (tVar 13)) tNil)))) rfl scJr.nd (pi_tup (pe_prD PKn (hr.mono (by decide)) (pv 1))) (blkOk_by (N := sJrN) (sc := defScope sJr) (by decide +kernel)) (fun _ _ _ _ _ => (pg_name (i := 13) scJr.nd rfl (Or.inl rfl))) (fun _ _ _ _ _ => pts_nil) (fun _ _ _ _ _ => (pe_tup (pa_cons (pv 13) (pa_cons (pe_dget hu (pv 6) (pv 13) (fun _ _ => rfl)) pa_nil)))))) pa_nil))))))
        (pss_cons (ps_if (PW.pt (pw_or (pt_cmpR (op_neD hu64) (pe_mtD GMs (hr.mono (by decide)) (pv 1) (pa_cons (pv 3) (pa_cons (pv 2) pa_nil))) (pv 7) (nomark _)) (pw_or1 (pt_cmpR (op_neD hu64) (pe_ix ix_tup (pe_prD PHi (hr.mono (by decide)) (pv 1)) (pe_un un_neg pe_int) (fun _ _ => rfl)) (pv 8) (nomark _))))) (pss_one (ps_ret pe_bl)) pss_nil)
        (pss_cons (ps_setLc (i := 9) (own := [("_law_word", 13)]) (g := (gName 13)) (tt := tYes) (te := (tMeth c.C "entry" (spEntry c.C c.E) [] E0 (tVar 4) (tCons (tVar 2) (tCons (tVar 13) tNil)))) rfl scJr.nd rfl rfl (sw_true rfl rfl rfl (by decide +kernel)) (pi_tup (pe_prD PKn (hr.mono (by decide)) (pv 1))) (blkOk_by (N := sJrN) (sc := defScope sJr) (by decide +kernel)) (fun _ _ _ _ _ => (pg_name (i := 13) scJr.nd rfl (Or.inl rfl))) (fun _ _ _ _ _ => pts_nil) (fun _ _ _ _ _ => (pe_mtD GEn (hr.mono (by decide)) (pv 4) (pa_cons (pv 2) (pa_cons (pv 13) pa_nil)))))
        (pss_cons (ps_if (PW.pt (pw_or (pt_cmpR (op_neD hu64) (pv 9) (pe_lc (own := [("_law_word", 13)]) (g := (gName 13)) (tt := tYes) (te := (tTup (tCons (tOp (rIxT K) (tGetO c.C (spCGet c.C) E0 (tVar 4) (tVar 13)) (tC (.int 0))) (tCons (tDGet (tVar 6) (tVar 13)) tNil)))) rfl scJr.nd (pi_tup (pe_prD PKn (hr.mono (by decide)) (pv 1))) (blkOk_by (N := sJrN) (sc := defScope sJr) (by decide +kernel)) (fun _ _ _ _ _ => (pg_name (i := 13) scJr.nd rfl (Or.inl rfl))) (fun _ _ _ _ _ => pts_nil) (fun _ _ _ _ _ => (pe_tup (pa_cons (pe_ix ix_tup (pe_getO DCg (hr.mono (by decide)) pass0 (pv 4) (pv 13)) pe_int (fun _ _ => rfl)) (pa_cons (pe_dget hu (pv 6) (pv 13) (fun _ _ => rfl)) pa_nil))))) (nomark _)) (pw_or1 (pt_cmpR op_ne (pe_callB (call_lenO DCl (hr.mono (by decide)) pass0) (by rfl) B.len PySem.boot_len (pa_cons (pe_getX DG (hr.mono (by decide)) (pv 1) (pv 2)) pa_nil)) pe_int (nomark _))))) (pss_one (ps_ret pe_bl)) pss_nil)
        (pss_cons (ps_if (pt_cmpR (op_neD hu64) (pe_callG GSa (hr.mono (by decide)) hgu (pa_cons (pv 1) (pa_cons pe_str (pa_cons (pv 2) (pa_cons (pe_disp (pps_cons pe_str pe_int (pps_cons pe_str pe_int pps_nil)) rfl rfl (by simp) (by decide)) pa_nil))))) (pe_ifExp (pt_cmpR op_eq (pe_callB (call_lenO DNl (hr.mono (by decide)) pass0) (by rfl) B.len PySem.boot_len (pa_cons (pv 1) pa_nil)) pe_int (nomark _)) (pe_lst (pa_cons pe_str (pa_cons pe_int pa_nil))) (pe_lst (pa_cons pe_str (pa_cons (pv 2) pa_nil)))) (nomark _)) (pss_one (ps_ret pe_bl)) pss_nil)
        (pss_cons (ps_expr (pe_mtD GWr (hr.mono (by decide)) (pv 1) (pa_cons pe_str (pa_cons pe_int pa_nil))))
        (pss_cons (ps_for PassesOwn.never rfl (pi_list (pv 7)) (pg_name (i := 10) scJr.nd rfl (Or.inl rfl)) (pss_cons (ps_if (PW.pt (pw_or (pt_cmpR (op_neD hu64) (pe_mtD GDv (hr.mono (by decide)) (pv 1) (pa_cons (pv 3) (pa_cons (pv 2) pa_nil))) (pv 10) (nomark _)) (pw_or1 (pt_cmpR (op_neD hu64) (pe_getO DCg (hr.mono (by decide)) pass0 (pe_getX DG (hr.mono (by decide)) (pv 1) (pv 2)) (pe_ix ix_tup (pv 10) pe_int (fun _ _ => rfl))) (pe_slice sl_tupA (pv 10) (po_some pe_int) (po_some pe_int)) (nomark _))))) (pss_one (ps_ret pe_bl)) pss_nil)
        (pss_one (ps_if (pt_cmpR (op_neD hu64) (pe_lst (pa_cons (pe_mtD GAl (hr.mono (by decide)) (pe_getX DG (hr.mono (by decide)) (pv 1) (pv 2)) (pa_cons (pe_ix ix_tup (pv 10) pe_int (fun _ _ => rfl)) pa_nil)) (pa_cons (pe_mtD GTo (hr.mono (by decide)) (pe_getX DG (hr.mono (by decide)) (pv 1) (pv 2)) (pa_cons (pe_ix ix_tup (pv 10) pe_int (fun _ _ => rfl)) pa_nil)) pa_nil))) (pe_lst (pa_cons (pe_ix ix_tup (pv 10) pe_int (fun _ _ => rfl)) (pa_cons (pe_ix ix_tup (pv 10) pe_int (fun _ _ => rfl)) pa_nil))) (nomark _)) (pss_one (ps_ret pe_bl)) pss_nil))))
        (pss_cons (ps_set (i := 11) scJr.nd rfl (Or.inl rfl) (pe_callTy (call_dictP rfl) (by rfl) B.dict (by decide +kernel) (pa_cons (pe_lc (own := [("_law_word", 13)]) (g := (gName 13)) (tt := tYes) (te := (tTup (tCons (tVar 13) (tCons (tOp (rI0 fun i j => .int (i - j)) (tDGet (tVar 6) (tVar 13)) (tC (.int 1))) tNil)))) rfl scJr.nd (pi_tup (pe_prD PKn (hr.mono (by decide)) (pv 1))) (blkOk_by (N := sJrN) (sc := defScope sJr) (by decide +kernel)) (fun _ _ _ _ _ => (pg_name (i := 13) scJr.nd rfl (Or.inl rfl))) (fun _ _ _ _ _ => pts_nil) (fun _ _ _ _ _ => (pe_tup (pa_cons (pv 13) (pa_cons (pe_op op_sub (pe_dget hu (pv 6) (pv 13) (fun _ _ => rfl)) pe_int) pa_nil))))) pa_nil)))
        (pss_cons (ps_set (i := 12) scJr.nd rfl (Or.inl rfl) (pe_ifExp (pt_cmpR op_eq (pe_callB (call_lenO DNl (hr.mono (by decide)) pass0) (by rfl) B.len PySem.boot_len (pa_cons (pv 1) pa_nil)) pe_int (nomark _)) (pe_lst (pa_cons pe_str (pa_cons pe_int pa_nil))) (pe_lst (pa_cons pe_str (pa_cons (pe_dget hu (pv 6) pe_str (fun _ _ => rfl)) pa_nil)))))
        (pss_cons (ps_if (PW.pt (pw_and (pt_cmpR op_gt (pe_dget hu (pv 6) pe_str (fun _ _ => rfl)) pe_int (nomark _)) (pw_and (pt_cmpR op_gt (pe_dget hu (pv 6) pe_str (fun _ _ => rfl)) pe_int (nomark _)) (pw_and1 (pt_cmpR (op_neD hu64) (pe_callG GSa (hr.mono (by decide)) hgu (pa_cons (pv 1) (pa_cons pe_str (pa_cons (pv 2) (pa_cons (pv 11) pa_nil))))) (pv 12) (nomark _)))))) (pss_one (ps_ret pe_bl)) pss_nil)
        (pss_one (ps_ret (pe_cmpR (op_eqD hu64) (pe_callG GSa (hr.mono (by decide)) hgu (pa_cons (pv 1) (pa_cons (pv 2) (pa_cons pe_str (pa_cons (pe_disp (pps_cons pe_str pe_int (pps_cons pe_str pe_int pps_nil)) rfl rfl (by simp) (by decide)) pa_nil))))) (pe_lst (pa_cons pe_str (pa_cons (pv 2) pa_nil))) (nomark _)))))))))))))))))))), ?_⟩
    obtain ⟨Z, q⟩ := id hN
    rw [← hL.labels] at hpa
    obtain ⟨m, hmm, hml⟩ := List.mem_map.mp hpa
    obtain ⟨im, hm⟩ := List.mem_iff_getElem?.mp hmm
    have him : im < ns.length := by
      rw [← hL.labels, List.length_map]
      exact (List.getElem?_eq_some_iff.mp hm).1
    obtain ⟨cb, ca, hmc, hcb, hca⟩ := hL.full im m him hm
    obtain ⟨z, hz, zr, hnxm⟩ := q.node' hm
    rw [hml] at hnxm
    have hzm := List.mem_of_getElem? hz
    -- the parent
    refine ⟨_, rfl, _, rfl, n, Z.dx, _, rfl, q.at_n, n, g, M, .str pa, rfl, hN, .inl ⟨pa, z.na, rfl, hnxm, ?_⟩⟩
    -- the gifts
    refine ⟨by show 2 ≤ sizeLine; decide, fun lw hlw => ⟨lw, rfl, ⟨_, SqL.of upd_same⟩, fun D hD => ?_⟩⟩
    have b1 := (Kp.start so H).new (o := .lst [.str "a", .str "b"]) hlw hso
    have hs1 := (Same.upd (o := .lst [.str "a", .str "b"]) hlw) _ _ hso
    generalize upd H lw (HO.lst [.str "a", .str "b"]) = H1 at b1 hs1 hD ⊢
    have hN1 : NodeH c.C H Z.n z := NodeH.of q.h hzm
    have zk : z.cells.map (·.1) = M.words := (pr_keys (fun _ _ w => w.1) zr.cells).trans (q.w.cell _ hmm)
    obtain ⟨al, hal⟩ : ∃ al : Str → Int, al = fun w : Str => if w = ("a" : Str) then ca.alw else cb.alw := ⟨_, rfl⟩
    have cellOf : ∀ w ∈ [("a" : Str), ("b" : Str)], ∃ t v1 v3 v4, valV (strK z.cells) (Sum.inr w) = some (.ref t) ∧ H t = some (.tup [v1, .int (al w), v3, v4]) := by
      intro w hw2
      have hi : ∃ (i : Nat) (cm : CellM), m.cells[i]? = some (w, some cm) ∧ cm.alw = al w := by
        rw [hmc, hal]
        simp only [List.mem_cons, List.not_mem_nil, or_false] at hw2
        rcases hw2 with rfl | rfl
        · exact ⟨1, ca, rfl, rfl⟩
        · exact ⟨0, cb, rfl, rfl⟩
      obtain ⟨i, cm, h1, h2⟩ := hi
      obtain ⟨⟨p1, p2⟩, hp, ep, htd⟩ := pr_get' zr.cells h1
      cases ep
      obtain ⟨t, qq, av, e, h3, _⟩ := td_cell htd
      cases e
      exact ⟨t, _, _, _, strK_val (by rw [zk]; exact q.w.wnd) (List.mem_of_getElem? hp), by rw [← h2]; exact h3⟩
    have nzs : ∀ {p : Addr} {o : HO}, H p = some o → (∀ xs, o ≠ .lst xs) → p ≠ so := fun {p o} h1 h2 e => by
      rw [e, hso] at h1
      exact h2 _ (Option.some.inj h1).symm
    have hDs : D ≠ so := (ne_by hs1 hD).symm
    have hDi : H D = none := b1.k.free (by simpa using hDs) hD
    have hDw : D ≠ lw := (ne_by (b1.get 0) hD).symm
    refine lc_list (K := K) (a := lw) (xs := [.str "a", .str "b"]) (fun j Hh => ∃ (x y : Int) (ps : List Addr) (gs : List (Str × Int)), Keeps [so] H Hh ∧ Hh so = some (.lst [.int x, .int y]) ∧ SrcOk x y ∧ Hh lw = some (.lst [.str "a", .str "b"]) ∧ Hh D = some (.lst (ps.map V.ref)) ∧ Paired (fun p (e : Str × Int) => Hh p = some (.tup [.str e.1, .int e.2])) ps gs ∧
      gs.map (·.1) = [("a" : Str), ("b" : Str)].take j ∧ ∀ e ∈ gs, (if al e.1 > 1 then al e.1 else 1) ≤ e.2 ∧ e.2 ≤ (if al e.1 > 1 then al e.1 else 1) + 4)
      ⟨x, y, [], [], b1.k.updN hDi, by rw [upd_ne hDs.symm]; exact hs1, hxy, by rw [upd_ne hDw.symm]; exact b1.get 0, upd_same, .nil, rfl, fun e he => nomatch he⟩ (fun j Hh _ w => by obtain ⟨_, _, _, _, _, _, _, e, _⟩ := w; exact SqL.of e) ?_ ?_
    · rintro j v Hh hj ⟨x, y, ps, gs, kk, hso2, hxy2, hlw2, lD, hps, hgs, hbd⟩
      have hv : ∃ w ∈ [("a" : Str), ("b" : Str)], v = .str w ∧ [("a" : Str), ("b" : Str)][j]? = some w := by
        match j, hj with
        | 0, h => cases h; exact ⟨"a", .head _, rfl, rfl⟩
        | 1, h => cases h; exact ⟨"b", .tail _ (.head _), rfl, rfl⟩
        | n + 2, h => simp at h
      obtain ⟨w, hwm, rfl, hjw⟩ := hv
      obtain ⟨t2, v1, v3, v4, hval, ht2⟩ := cellOf w hwm
      have kkn : ∀ {p : Addr} {o : HO}, H p = some o → (∀ xs, o ≠ .lst xs) → Hh p = some o := fun h1 h2 => kk _ _ (by simpa using nzs h1 h2) h1
      have hNh : NodeH c.C Hh Z.n z := ⟨kkn hN1.i (fun _ e => nomatch e), kkn hN1.cd (fun _ e => nomatch e), kkn hN1.en (fun _ e => nomatch e)⟩
      refine ⟨rfl, ?_⟩
      refine ⟨_, rfl, _, rfl, z.na, _, _, rfl, hNh.i, rfl, _, rfl, Z.n, z, w, t2, _, _, _, _, rfl, hNh, hval, kkn ht2 (fun _ e => nomatch e), 1, al w, rfl, ?_⟩
      refine ⟨_, rfl, so, x, y, 5, rfl, hso2, hxy2, by decide, by decide, fun x' y' d hxy' h0 h5 => ?_⟩
      refine ⟨_, _, rfl, rfl, ?_⟩
      have hso3 : upd Hh so (HO.lst [.int x', .int y']) so = some (.lst [.int x', .int y']) := upd_same
      have k3 := kk.put (o := .lst [.int x', .int y']) (List.mem_singleton.mpr rfl)
      have nlw : lw ≠ so := (b1.own _ (.head _)).1
      have lD3 : upd Hh so (HO.lst [.int x', .int y']) D = some (.lst (ps.map V.ref)) := by rw [upd_ne hDs]; exact lD
      have hlw3 : upd Hh so (HO.lst [.int x', .int y']) lw = some (.lst [.str "a", .str "b"]) := by rw [upd_ne nlw]; exact hlw2
      have hps3 : Paired (fun p (e : Str × Int) => upd Hh so (HO.lst [.int x', .int y']) p = some (.tup [.str e.1, .int e.2])) ps gs := pr_imp (fun p e h => by rw [upd_ne (fun z => by rw [z, hso2] at h; cases h)]; exact h) hps
      generalize upd Hh so (HO.lst [.int x', .int y']) = H3 at hso3 k3 lD3 hlw3 hps3 ⊢
      refine ⟨by show 2 ≤ sizeLine; decide, fun p hp => ?_⟩
      have S4 : Same H3 (upd H3 p (.tup [.str w, .int ((if al w > 1 then al w else 1) + d)])) := Same.upd hp
      have l4 : upd H3 p (HO.tup [.str w, .int ((if al w > 1 then al w else 1) + d)]) p = some (.tup [.str w, .int ((if al w > 1 then al w else 1) + d)]) := upd_same
      generalize upd H3 p (HO.tup [.str w, .int ((if al w > 1 then al w else 1) + d)]) = H4 at S4 l4 ⊢
      have glen : gs.length ≤ 2 := by
        have e := congrArg List.length hgs
        rw [List.length_map, List.length_take] at e
        have e2 : ([("a" : Str), ("b" : Str)]).length = 2 := rfl
        omega
      have plen : (ps.map V.ref).length < sizeLine := by
        rw [List.length_map, pr_len hps, sizeLine_eq]
        omega
      refine ⟨_, S4 _ _ lD3, plen, ?_⟩
      have tD : ∀ {b : Addr} {o : HO}, b ≠ D → H4 b = some o → upd H4 D (.lst (ps.map V.ref ++ [.ref p])) b = some o := fun hb h => by rw [upd_ne hb]; exact h
      refine ⟨x', y', ps ++ [p], gs ++ [(w, (if al w > 1 then al w else 1) + d)], (k3.then S4).updN hDi, tD hDs.symm (S4 _ _ hso3), hxy', tD hDw.symm (S4 _ _ hlw3), by rw [upd_same, List.map_append]; rfl, pr_app (pr_imp (fun p e h => tD (fun z => by rw [z, lD3] at h; cases h) (S4 _ _ h)) hps3) (.cons (tD (fun z => by rw [z, S4 _ _ lD3] at l4; cases l4) l4) .nil), ?_, ?_⟩
      · rw [List.map_append, hgs, List.take_add_one, hjw]
        rfl
      · intro e he
        rcases List.mem_append.mp he with he | he
        · exact hbd e he
        · rw [List.mem_singleton.mp he]
          show (if al w > 1 then al w else 1) ≤ (if al w > 1 then al w else 1) + d ∧ (if al w > 1 then al w else 1) + d ≤ (if al w > 1 then al w else 1) + 4
          generalize (if al w > 1 then al w else 1) = lo
          omega
    rintro H2 ⟨x2, y2, ps, gs, kk, hso2, hxy2, hlw2, lD, hps, hgs, hbd⟩
    obtain ⟨ga, gb, rfl⟩ : ∃ ga gb : Int, gs = [(("a" : Str), ga), (("b" : Str), gb)] := by
      match gs, hgs with
      | [(x1, g1), (x2, g2)], h =>
        cases h
        exact ⟨g1, g2, rfl⟩
    have hba := hbd (("a" : Str), ga) (.head _)
    have hbb := hbd (("b" : Str), gb) (.tail _ (.head _))
    have hpk : Paired (fun p (kv : Key × V) => SqT K H2 p [kV kv.1, kv.2]) ps [((Sum.inr "a" : Key), V.int ga), ((Sum.inr "b" : Key), V.int gb)] := by
      cases hps with
      | cons h1 t1 =>
        cases t1 with
        | cons h2 t2 =>
          cases t2
          exact .cons (SqT.of h1) (.cons (SqT.of h2) .nil)
    refine ⟨D, ps, _, rfl, SqL.of lD, hpk, fun gd hgd => ?_⟩
    have lg : upd H2 gd (HO.dK (mergeK [] [((Sum.inr "a" : Key), V.int ga), ((Sum.inr "b" : Key), V.int gb)])) gd = some (.dK [((Sum.inr "a" : Key), V.int ga), ((Sum.inr "b" : Key), V.int gb)]) := by
      rw [upd_same]
      rfl
    have S3 : Same H2 (upd H2 gd (.dK (mergeK [] [((Sum.inr "a" : Key), V.int ga), ((Sum.inr "b" : Key), V.int gb)]))) := Same.upd hgd
    generalize upd H2 gd (HO.dK (mergeK [] [((Sum.inr "a" : Key), V.int ga), ((Sum.inr "b" : Key), V.int gb)])) = H3 at lg S3 ⊢
    -- held
    refine ⟨_, rfl, gd, _, rfl, .inl lg, fun hd hhd => ?_⟩
    have S4 : Same H3 (upd H3 hd (.dK [((Sum.inr "a" : Key), V.int ga), ((Sum.inr "b" : Key), V.int gb)])) := Same.upd hhd
    have lh : upd H3 hd (HO.dK [((Sum.inr "a" : Key), V.int ga), ((Sum.inr "b" : Key), V.int gb)]) hd = some (.dK [((Sum.inr "a" : Key), V.int ga), ((Sum.inr "b" : Key), V.int gb)]) := upd_same
    generalize upd H3 hd (HO.dK [((Sum.inr "a" : Key), V.int ga), ((Sum.inr "b" : Key), V.int gb)]) = H4 at S4 lh ⊢
    have lg4 := S4 _ _ lg
    have k4 := kk.then (Same.trans S3 S4)
    have hN4 := hN.keeps k4 (fun p h => by rw [List.mem_singleton.mp h]; exact nso) (fun p h xs w => by rw [List.mem_singleton.mp h, hso] at w; cases w)
    obtain ⟨Z4, q4⟩ := id hN4
    -- the join
    have hlab : nm ∉ M.nodes.map (·.label) := by rw [hL.labels]; exact hnm
    have hchi : nm ∉ M.rows.map (·.child) := fun w => hnm (by rw [← hL.childs]; exact .tail _ w)
    have hnl : M.nodes.length = ns.length := by rw [← hL.labels, List.length_map]
    have hrl : M.rows.length + 1 = ns.length := by rw [← hL.childs, List.length_cons, List.length_map]
    have eala : al "a" = ca.alw := by rw [hal]; rfl
    have ealb : al "b" = cb.alw := by rw [hal]; rfl
    have bga : ca.alw ≤ ga ∧ 1 ≤ ga ∧ ga ≤ 5 * (im : Int) + 5 := by
      have h1 := hba.1
      have h2 := hba.2
      simp only [eala] at h1 h2
      split at h1 <;> split at h2 <;> omega
    have bgb : cb.alw ≤ gb ∧ 1 ≤ gb ∧ gb ≤ 5 * (im : Int) + 5 := by
      have h1 := hbb.1
      have h2 := hbb.2
      simp only [ealb] at h1 h2
      split at h1 <;> split at h2 <;> omega
    have hal4 : AllowArg K H4 (.ref gd) M.words true := by
      rw [hL.words]
      refine allow_of lg4 (by rfl) (by show 2 ≤ 1000; decide) ?_
      have o1 : okA ga = true := by unfold okA; simp; omega
      have o2 : okA gb = true := by unfold okA; simp; omega
      show (decide (2 = 2) && (okA gb && (okA ga && true))) = true
      rw [o1, o2]
      rfl
    obtain ⟨js, ejs⟩ : ∃ js : Js, js = [(("b" : Str), cb, gb), (("a" : Str), ca, ga)] := ⟨_, rfl⟩
    have hmj : m.cells = (js.map fun j => (j.1, some j.2.1)) := by rw [hmc, ejs]; rfl
    have hkv : ∀ j ∈ js, valV [((Sum.inr "a" : Key), V.int ga), ((Sum.inr "b" : Key), V.int gb)] (Sum.inr j.1) = some (.int j.2.2) := by
      rw [ejs]
      intro j hj
      simp only [List.mem_cons, List.not_mem_nil, or_false] at hj
      rcases hj with rfl | rfl <;> rfl
    have hle : ∀ j ∈ js, j.2.1.alw ≤ j.2.2 := by
      rw [ejs]
      intro j hj
      simp only [List.mem_cons, List.not_mem_nil, or_false] at hj
      rcases hj with rfl | rfl
      · exact bgb.1
      · exact bga.1
    have hkids := hL.kids m hmm
    have hdone := hL.done
    refine ⟨_, rfl, n, Z4.dx, _, rfl, q4.at_n, rfl, _, rfl, _, rfl, _, rfl, n, g, M, .str nm, .str pa, .ref gd, rfl, hN4, .inr ⟨nm, rfl, hw, .inr ⟨hlab, hchi, .inr ⟨im, m, by rw [hml], hm, .inr ⟨hal4, .inr ⟨by omega, .inr ⟨js, gd, _, hmj, rfl, lg4, hkv, .inr ⟨hle, by omega, by omega, by omega, fun H5 g5 w5 hN5 => ?_⟩⟩⟩⟩⟩⟩⟩⟩
    -- what stands at H5
    have ngd : gd ≠ so := (ne_by hso2 hgd).symm
    have hgdi : H gd = none := kk.free (by simpa using ngd) hgd
    have hhd2 : H2 hd = none := S3.free hhd
    have nhd : hd ≠ so := (ne_by hso2 hhd2).symm
    have hhdi : H hd = none := kk.free (by simpa using nhd) hhd2
    have nhg : hd ≠ gd := fun z => by rw [z, lg] at hhd; cases hhd
    have hso4 := S4 _ _ (S3 _ _ hso2)
    have hso5 := w5.k _ _ nso hso4
    have lg5 := w5.k _ _ (nIn hN hgdi) lg4
    have lh5 := w5.k _ _ (nIn hN hhdi) lh
    have n5 : ∀ {p : Addr} {o : HO}, p ∉ g.S → H4 p = some o → p ∉ g5.S := fun h1 h2 h3 => (w5.s _ h3).elim h1 fun e => by rw [h2] at e; cases e
    have nso5 := n5 nso hso4
    have ngd5 := n5 (nIn hN hgdi) lg4
    have nhd5 := n5 (nIn hN hhdi) lh
    have kS : ∀ {Ha Hb : Hp}, Keeps (so :: g.S) H Ha → Keeps g5.S Ha Hb → Keeps (so :: g.S) H Hb := fun {Ha Hb} k1 k2 b o hb e => k2 b o (fun z => (w5.s b z).elim (fun h => hb (.tail _ h)) fun h => by rw [k4 b o (fun y => hb (List.mem_singleton.mp y ▸ .head _)) e] at h; cases h) (k1 b o hb e)
    have K5 : Keeps (so :: g.S) H H5 := fun b o hb e => w5.k b o (fun z => hb (.tail _ z)) (k4 b o (fun y => hb (List.mem_singleton.mp y ▸ .head _)) e)
    -- gifts.clear()
    refine ⟨_, rfl, .inr (.inr (.inl ⟨rfl, .inl ⟨_, lg5⟩⟩)), gd, _, rfl, rfl, lg5, ?_⟩
    have hN6 := hN5.keeps (T := [gd]) (Keeps.one (o := .dK []) H5) (fun p h => by rw [List.mem_singleton.mp h]; exact ngd5) (fun p h xs w => by rw [List.mem_singleton.mp h, lg5] at w; cases w)
    have hso6 : upd H5 gd (HO.dK []) so = some (.lst [.int x2, .int y2]) := by rw [upd_ne ngd.symm]; exact hso5
    have lh6 : upd H5 gd (HO.dK []) hd = some (.dK [((Sum.inr "a" : Key), V.int ga), ((Sum.inr "b" : Key), V.int gb)]) := by rw [upd_ne nhg]; exact lh5
    have K6 : Keeps (so :: g.S) H (upd H5 gd (.dK [])) := K5.updN hgdi
    generalize upd H5 gd (HO.dK []) = H6 at hN6 hso6 lh6 K6 ⊢
    -- the data after the join
    have sok : ∀ {s : Str}, isW s = true → PyData.strOk s = true := fun h => isW_ok h
    have hmlw : isW m.label = true := by
      rw [hml]
      refine hwa pa ?_
      rw [← hL.labels]
      exact hpa
    have hdj : (joinDeed nm m.label js).canLay0 = true ∧ (joinDeed nm m.label js).depth ≤ 10 := by
      rw [ejs]
      unfold joinDeed
      simp only [List.map_cons, List.map_nil, PyData.canLay0, PyData.canLayAll0, PyData.depth, PyData.depthAll, isW_ok hw, isW_ok hmlw, Bool.and_true, Bool.true_and]
      decide +kernel
    have hL6 := LawN.join (ns := ns) (nm := nm) hL hm ejs hdj
    obtain ⟨M6, eM6⟩ : ∃ M6, M6 = joinD M im m nm js := ⟨_, rfl⟩
    have hw6 : M6.words = [("b" : Str), ("a" : Str)] := by rw [eM6]; exact hL.words
    have hm6 : M6.nodes[im]? = some { m with kids := m.kids ++ [nm] } := by
      rw [eM6]
      show (M.nodes.set im { m with kids := m.kids ++ [nm] } ++ [node1 m.label nm M.words])[im]? = _
      rw [List.getElem?_append_left (by rw [List.length_set, hnl]; exact him), List.getElem?_set, if_pos rfl, if_pos (by rw [hnl]; exact him)]
    have hr6 : M6.rows[M.rows.length]? = some (row1 m.label nm js) := by
      rw [eM6]
      show (M.rows ++ [row1 m.label nm js])[M.rows.length]? = _
      rw [List.getElem?_append_right (Nat.le_refl _), Nat.sub_self]
      rfl
    have hn6 : M6.nodes[ns.length]? = some (node1 m.label nm M.words) := by
      rw [eM6]
      show (M.nodes.set im { m with kids := m.kids ++ [nm] } ++ [node1 m.label nm M.words])[ns.length]? = _
      rw [List.getElem?_append_right (by rw [List.length_set, hnl]; exact Nat.le_refl _), List.length_set, hnl, Nat.sub_self]
      rfl
    have hd6 : M6.done = M.done ++ [joinDeed nm m.label js] := by rw [eM6]; rfl
    rw [← eM6] at hN6 hL6
    obtain ⟨Z6, q6⟩ := id hN6
    obtain ⟨z6, hz6, zr6, hnx6⟩ := q6.node' hm6
    have ez : z6.na = z.na := nx_one q6 hnx6 (by show (m.label, z.na) ∈ g5.nx; rw [hml]; exact w5.nx _ hnxm)
    have hNz6 : NodeH c.C H6 Z6.n z6 := NodeH.of q6.h (List.mem_of_getElem? hz6)
    obtain ⟨cw, ecw⟩ : ∃ cw : Str → CellM, cw = fun w : Str => if w = ("b" : Str) then cb else ca := ⟨_, rfl⟩
    obtain ⟨gw, egw⟩ : ∃ gw : Str → Int, gw = fun w : Str => if w = ("b" : Str) then gb else ga := ⟨_, rfl⟩
    have up6 : ∀ w ∈ [("b" : Str), ("a" : Str)], ∃ t tc av, valV (strK z6.cells) (Sum.inr w) = some (.ref t) ∧ H6 t = some (.tup [.ref tc, .int (cw w).alw, .int (cw w).told, av]) ∧ H6 tc = some (.tup [.int (cw w).num, .int (cw w).val]) := by
      intro w hw2
      simp only [List.mem_cons, List.not_mem_nil, or_false] at hw2
      rcases hw2 with rfl | rfl
      · rw [ecw]
        exact look q6 hz6 hm6 (i := 0) (by show m.cells[0]? = _; rw [hmc]; rfl)
      · rw [ecw]
        exact look q6 hz6 hm6 (i := 1) (by show m.cells[1]? = _; rw [hmc]; rfl)
    have dg : ∀ w ∈ [("b" : Str), ("a" : Str)], ∀ {Hh : Hp}, Hh hd = some (.dK [((Sum.inr "a" : Key), V.int ga), ((Sum.inr "b" : Key), V.int gb)]) → DGet Hh hd (.str w) (some (.int (gw w))) := by
      intro w hw2 Hh h
      refine .inl ⟨_, Sum.inr w, .inl h, rfl, ?_⟩
      simp only [List.mem_cons, List.not_mem_nil, or_false] at hw2
      rw [egw]
      rcases hw2 with rfl | rfl <;> rfl
    -- sent
    refine ⟨_, rfl, n, _, _, rfl, q6.at_n, n, g5, M6, rfl, hN6, fun tw htw => ⟨tw, rfl, ⟨_, SqT.of htw⟩, fun D7 hD7 => ?_⟩⟩
    rw [hw6] at htw
    refine lc_words (fun w => .tuple [.str "copy", .str w, .int (cw w).num, .int (cw w).val, .int (gw w)]) htw (by decide) hD7 (fun _ => rfl) ?_ ?_
    · intro w hwm Hh S Q' k0
      obtain ⟨t, tc, av, e1, e2, e3⟩ := up6 w hwm
      refine ⟨_, rfl, by show 2 ≤ sizeLine; decide, fun p hp => ?_⟩
      have Sa : Same Hh (upd Hh p (.tup [.str "copy", .str w])) := Same.upd hp
      have lp : upd Hh p (HO.tup [.str "copy", .str w]) p = some (.tup [.str "copy", .str w]) := upd_same
      generalize upd Hh p (HO.tup [.str "copy", .str w]) = Ha at Sa lp ⊢
      have S6a := Same.trans S Sa
      refine ⟨_, rfl, _, rfl, z6.na, _, _, by rw [ez], (hNz6.mono S6a).i, Z6.n, z6, w, t, _, _, _, _, by rw [ez], hNz6.mono S6a, e1, S6a _ _ e2, ?_⟩
      refine k_cat lp (S6a _ _ e3) (fun e => nomatch e) (by show 4 ≤ sizeLine; decide) fun p2 Hb Sb lp2 => ?_
      refine ⟨_, rfl, _, rfl, hd, _, rfl, dg w hwm (Sb _ _ (S6a _ _ lh6)), by show 1 ≤ sizeLine; decide, fun p3 hp3 => ?_⟩
      have Sc : Same Hb (upd Hb p3 (.tup [.int (gw w)])) := Same.upd hp3
      have lp3 : upd Hb p3 (HO.tup [.int (gw w)]) p3 = some (.tup [.int (gw w)]) := upd_same
      generalize upd Hb p3 (HO.tup [.int (gw w)]) = Hc at Sc lp3 ⊢
      refine k_cat (Sc _ _ lp2) lp3 (fun e => nomatch e) (by show 5 ≤ sizeLine; decide) fun p4 Hd Sd lp4 => ?_
      exact k0 _ _ (Same.trans Sa (Same.trans Sb (Same.trans Sc Sd))) (.tup lp4 (.cons (.str _) (.cons (.str _) (.cons (.int _) (.cons (.int _) (.cons (.int _) .nil))))))
    rintro ys H7 S67 hls hys
    have eys : ([("b" : Str), ("a" : Str)].map fun w => PyData.tuple [.str "copy", .str w, .int (cw w).num, .int (cw w).val, .int (gw w)]) = js.map msgD := by
      rw [ejs, ecw, egw]
      rfl
    rw [eys] at hys
    have hN7 := hN6.mono S67
    have q7 := q6.mono S67
    -- the deed
    refine ⟨_, rfl, _, rfl, ?_⟩
    refine ⟨_, rfl, n, _, _, rfl, q7.at_n, n, g5, M6, rfl, hN7, fun tw2 htw2 => ⟨tw2, rfl, ⟨_, SqT.of htw2⟩, fun D8 hD8 => ?_⟩⟩
    rw [hw6] at htw2
    refine lc_words (fun w => .tuple [.str w, .int (gw w)]) htw2 (by decide) hD8 (fun _ => rfl) ?_ ?_
    · intro w hwm Hh S Q' k0
      refine ⟨_, rfl, _, rfl, _, rfl, hd, _, rfl, dg w hwm (S _ _ (S67 _ _ lh6)), by show 2 ≤ sizeLine; decide, fun p hp => ?_⟩
      exact k0 _ _ (Same.upd hp) (.tup upd_same (.cons (.str _) (.cons (.int _) .nil)))
    rintro ys8 H8 S78 hls8 hys8
    refine .inl ⟨D8, ys8, rfl, SqL.of hls8, fun q9 hq9 => ?_⟩
    have S89 : Same H8 (upd H8 q9 (.tup ys8)) := Same.upd hq9
    have l9 : upd H8 q9 (HO.tup ys8) q9 = some (.tup ys8) := upd_same
    generalize upd H8 q9 (HO.tup ys8) = H9 at S89 l9 ⊢
    refine ⟨by show 4 ≤ sizeLine; decide, fun p10 hp10 => ?_⟩
    have S910 : Same H9 (upd H9 p10 (.tup [.str "join", .str nm, .str pa, .ref q9])) := Same.upd hp10
    have l10 : upd H9 p10 (HO.tup [.str "join", .str nm, .str pa, .ref q9]) p10 = some (.tup [.str "join", .str nm, .str pa, .ref q9]) := upd_same
    generalize upd H9 p10 (HO.tup [.str "join", .str nm, .str pa, .ref q9]) = H10 at S910 l10 ⊢
    have hdeed : Td H10 (.ref p10) (joinDeed nm m.label js) := by
      have e : joinDeed nm m.label js = .tuple [.str "join", .str nm, .str pa, .tuple ([("b" : Str), ("a" : Str)].map fun w => .tuple [.str w, .int (gw w)])] := by
        rw [ejs, hml, egw]
        rfl
      rw [e]
      exact .tup l10 (.cons (.str _) (.cons (.str _) (.cons (.str _) (.cons (.tup (S910 _ _ l9) ((hys8.mono (KT.of S89)).mono (KT.of S910))) .nil))))
    have S710 := Same.trans S78 (Same.trans S89 S910)
    have S610 := Same.trans S67 S710
    have hN10 := hN6.mono S610
    have q10 := q6.mono S610
    have shs : SeqAt.shaped (.list (js.map msgD)) = true := by
      rw [ejs]
      unfold SeqAt.shaped msgD
      simp only [List.map_cons, List.map_nil, PyData.canLay0, PyData.canLayAll0, PyData.depth, PyData.depthAll, Bool.and_true, Bool.true_and]
      decide +kernel
    have shj : SeqAt.shaped (joinDeed nm m.label js) = true := by
      unfold SeqAt.shaped
      rw [hdj.1, Bool.true_and, decide_eq_true_eq]
      have := hdj.2
      omega
    have hab : (row1 m.label nm js).above = pa := hml
    have hch : (row1 m.label nm js).child = nm := rfl
    refine ⟨_, rfl, n, _, _, rfl, q10.at_n, rfl, _, rfl, _, rfl, n, g5, M6, M.rows.length, row1 m.label nm js, by rw [hab]; rfl, hN10, hr6, fun l11 vs11 H11 S1011 hl11 hvs11 => ?_⟩
    have hys10 := (hys.mono (KT.of S710)).mono (KT.of S1011)
    refine ⟨_, rfl, _, _, .lst (SqL.of hl11) hvs11.dp, .lst (SqL.of (S1011 _ _ (S710 _ _ hls))) hys10.dp, shs, shs, ?_⟩
    rw [show (row1 m.label nm js).down = js.map msgD from rfl, eqS shs]
    refine ⟨_, rfl, iteF ?_⟩
    have S611 := Same.trans S610 S1011
    have hN11 := hN6.mono S611
    have q11 := q6.mono S611
    refine ⟨_, rfl, n, _, _, rfl, q11.at_n, n, g5, M6, rfl, hN11, fun q12 H12 S1112 hq12 => ?_⟩
    rw [hd6] at hq12
    obtain ⟨h12, xs12, e12, lh12, hxs12⟩ := td_tup hq12
    cases e12
    obtain ⟨v12, hv12, hvd12⟩ := td_last hxs12
    refine ⟨_, rfl, q12, xs12, -1, v12, rfl, rfl, SqT.of lh12, hv12, ?_⟩
    refine ⟨_, rfl, _, _, hvd12.dp, ((hdeed.mono (KT.of S1011)).mono (KT.of S1112)).dp, shj, shj, ?_⟩
    rw [eqS shj]
    refine ⟨_, rfl, iteF ?_⟩
    have S612 := Same.trans S611 S1112
    have hN12 := hN6.mono S612
    have q12' := q6.mono S612
    have S1012 := Same.trans S1011 S1112
    -- the entries
    have hNz12 : NodeH c.C H12 Z6.n z6 := hNz6.mono S612
    have upn : nm ∈ ({ m with kids := m.kids ++ [nm] } : NodeM).kids := List.mem_append_right _ (.head _)
    have ent : ∀ w ∈ [("b" : Str), ("a" : Str)], ∃ y t, valV (NZ.refK z6.kids) (Sum.inr nm) = some (.ref y.ra) ∧ RowH c.E H12 y ∧ valV (strK y.cells) (Sum.inr w) = some (.ref t) ∧ H12 t = some (.tup [.int (cw w).num, .int (gw w)]) := by
      intro w hw2
      simp only [List.mem_cons, List.not_mem_nil, or_false] at hw2
      rcases hw2 with rfl | rfl
      · rw [ecw, egw]
        exact entryOf q12' (r := row1 m.label nm js) (k := 0) hz6 hm6 upn hr6 (by rw [ejs]; rfl)
      · rw [ecw, egw]
        exact entryOf q12' (r := row1 m.label nm js) (k := 1) hz6 hm6 upn hr6 (by rw [ejs]; rfl)
    refine ⟨_, rfl, n, _, _, rfl, q12'.at_n, n, g5, M6, rfl, hN12, fun tw3 htw3 => ⟨tw3, rfl, ⟨_, SqT.of htw3⟩, fun D13 hD13 => ?_⟩⟩
    rw [hw6] at htw3
    refine lc_words (fun w => .tuple [.int (cw w).num, .int (gw w)]) htw3 (by decide) hD13 (fun _ => rfl) ?_ ?_
    · intro w hwm Hh S Q' k0
      obtain ⟨y, t, e1, e2, e3, e4⟩ := ent w hwm
      refine ⟨_, rfl, z6.na, _, _, by rw [ez], (hNz12.mono S).i, rfl, _, rfl, _, rfl, Z6.n, z6, nm, w, y, _, by rw [ez]; rfl, hNz12.mono S, e1, e2.mono S, e3, ?_⟩
      exact k0 _ _ (Same.refl _) (.tup (S _ _ e4) (.cons (.int _) (.cons (.int _) .nil)))
    rintro ys13 H13 S1213 hls13 hys13
    have q13 := q12'.mono S1213
    have S613 := Same.trans S612 S1213
    have hN13 := hN6.mono S613
    have hNz13 : NodeH c.C H13 Z6.n z6 := hNz6.mono S613
    have she : SeqAt.shaped (.list ([("b" : Str), ("a" : Str)].map fun w => PyData.tuple [.int (cw w).num, .int (gw w)])) = true := by
      unfold SeqAt.shaped
      simp only [List.map_cons, List.map_nil, PyData.canLay0, PyData.canLayAll0, PyData.depth, PyData.depthAll, Bool.and_true, Bool.true_and]
      decide +kernel
    refine ⟨_, rfl, ?_⟩
    refine ⟨_, rfl, n, _, _, rfl, q13.at_n, n, g5, M6, rfl, hN13, fun tw4 htw4 => ⟨tw4, rfl, ⟨_, SqT.of htw4⟩, fun D14 hD14 => ?_⟩⟩
    rw [hw6] at htw4
    refine lc_words (fun w => .tuple [.int (cw w).num, .int (gw w)]) htw4 (by decide) hD14 (fun _ => rfl) ?_ ?_
    · intro w hwm Hh S Q' k0
      obtain ⟨t, tc, av, e1, e2, e3⟩ := up6 w hwm
      have Sh := Same.trans S613 S
      refine ⟨_, rfl, _, rfl, z6.na, _, _, by rw [ez], (hNz6.mono Sh).i, Z6.n, z6, w, t, _, _, _, _, by rw [ez], hNz6.mono Sh, e1, Sh _ _ e2, ?_⟩
      refine ⟨tc, _, 0, .int (cw w).num, rfl, rfl, SqT.of (Sh _ _ e3), rfl, ?_⟩
      refine ⟨_, rfl, _, rfl, hd, _, rfl, dg w hwm (Sh _ _ lh6), by show 2 ≤ sizeLine; decide, fun p hp => ?_⟩
      exact k0 _ _ (Same.upd hp) (.tup upd_same (.cons (.int _) (.cons (.int _) .nil)))
    rintro ys14 H14 S1314 hls14 hys14
    refine ⟨_, _, .lst (SqL.of (S1314 _ _ hls13)) (hys13.mono (KT.of S1314)).dp, .lst (SqL.of hls14) hys14.dp, she, she, ?_⟩
    rw [eqS she]
    refine ⟨_, rfl, iteF ?_⟩
    -- the new node has no copies
    have S614 := Same.trans S613 S1314
    have hN14 := hN6.mono S614
    have q14 := q6.mono S614
    obtain ⟨zn, hzn, zrn, hnxn⟩ := q14.node' hn6
    have hnxn : (nm, zn.na) ∈ g5.nx := hnxn
    have hNzn : NodeH c.C H14 Z6.n zn := NodeH.of q14.h (List.mem_of_getElem? hzn)
    have cpn : copied zn = [] := copied_nil q14 hzn hn6 fun p hp => by
      obtain ⟨w, _, e⟩ := List.mem_map.mp (show p ∈ M.words.map fun w => (w, (none : Option CellM)) from hp)
      rw [← e]
    refine ⟨_, rfl, _, rfl, n, _, _, rfl, q14.at_n, n, g5, M6, .str nm, rfl, hN14, .inl ⟨nm, zn.na, rfl, hnxn, ?_⟩⟩
    refine ⟨zn.na, _, _, rfl, hNzn.i, Z6.n, zn, rfl, hNzn, (cellsOk q14 hzn hn6).1, fun H15 S1415 => ⟨_, rfl, by rw [cpn]; decide, by rw [cpn]; decide, ?_⟩⟩
    refine ⟨rfl, _, rfl, ifF (by rw [cpn]; rfl) ?_⟩
    have S615 := Same.trans S614 S1415
    -- a join below the new node is refused: it has no copies
    have hn16 := hN6.mono S615
    have hlab6 : M6.nodes.map (·.label) = ns ++ [nm] := hL6.labels
    have hlen6 : M6.nodes.length = ns.length + 1 := by
      have e := congrArg List.length hlab6
      rw [List.length_map, List.length_append, List.length_singleton] at e
      exact e
    have xlab : ∀ {M' : NetM} {k' t' u' : Nat}, LawN M' (ns ++ [nm]) k' t' u' → ("x" : Str) ∉ M'.nodes.map (·.label) ∧ ("x" : Str) ∉ M'.rows.map (·.child) := fun {M' k' t' u'} h => by
      have h1 : ("x" : Str) ∉ ns ++ [nm] := fun z => (List.mem_append.mp z).elim hx fun y => hnx (List.mem_singleton.mp y).symm
      exact ⟨by rw [h.labels]; exact h1, fun z => h1 (by rw [← h.childs]; exact .tail _ z)⟩
    refine ⟨_, rfl, ?_⟩
    refine tcons_c ?_
    refine ⟨_, rfl, ?_⟩
    refine tcons_1 (disp_c (cs := [((Sum.inr "a" : Key), V.int 99), ((Sum.inr "b" : Key), V.int 99)]) (by decide) fun d16 H16 S1516 _ hd16 => ?_)
    have hd16 : H16 d16 = some (.dK [((Sum.inr "a" : Key), V.int 99), ((Sum.inr "b" : Key), V.int 99)]) := hd16
    have hal16 : AllowArg K H16 (.ref d16) M6.words true := by
      rw [hw6]
      exact allow_of hd16 (by decide +kernel) (by decide) (by decide +kernel)
    have S616 := Same.trans S615 S1516
    obtain ⟨an, dA, hra, hdpA, hshA, hcA⟩ : ∃ an dA, RefusedJ K H16 M6 (.str "x") (.str nm) (.ref d16) an ∧ (∀ H' l, H' l = some (.lst an) → Dp K H' (.ref l) dA) ∧ SeqAt.shaped dA = true ∧ ((ns.length = 11 ∧ an = [.str "limit", .int 12]) ∨ (ns.length ≠ 11 ∧ an = [.str "ready", .str nm])) := by
      by_cases h : ns.length = 11
      · exact ⟨_, .list [.str "limit", .int 12], .inr ⟨"x", rfl, by decide +kernel, .inr ⟨(xlab hL6).1, (xlab hL6).2, .inr ⟨ns.length, _, rfl, hn6, .inr ⟨hal16, .inl ⟨by omega, rfl⟩⟩⟩⟩⟩, fun H' l hl => .lst (SqL.of hl) (.cons (.str _) (.cons (.int _) .nil)), by decide +kernel, .inl ⟨h, rfl⟩⟩
      · refine ⟨_, .list [.str "ready", .str nm], .inr ⟨"x", rfl, by decide +kernel, .inr ⟨(xlab hL6).1, (xlab hL6).2, .inr ⟨ns.length, _, rfl, hn6, .inr ⟨hal16, .inr ⟨by omega, .inl ⟨⟨"b", ?_⟩, rfl⟩⟩⟩⟩⟩⟩, fun H' l hl => .lst (SqL.of hl) (.cons (.str _) (.cons (.str _) .nil)), ?_, .inr ⟨h, rfl⟩⟩
        · show (("b" : Str), (none : Option CellM)) ∈ M.words.map fun w => (w, (none : Option CellM))
          rw [hL.words]
          exact .head _
        · refine shp ?_ ?_ <;> simp only [PyData.canLay0, PyData.canLayAll0, PyData.depth, PyData.depthAll, isW_ok hw, Bool.and_true, Bool.true_and] <;> decide +kernel
    refine ⟨n, g5, M6, .str "x", .str nm, .ref d16, an, rfl, hN6.mono S616, hra, fun H17 l17 S1617 hl17 => ?_⟩
    have S617 := Same.trans S616 S1617
    have q17 := q6.mono S617
    refine ⟨_, rfl, n, _, _, rfl, q17.at_n, n, g5, M6, rfl, hN6.mono S617, _, rfl, by omega, by omega, rfl, _, rfl, ?_⟩
    refine if_lst an (fun h R kR => ?_) (fun h R kR => ?_) fun l18 H18 S1718 hl18 => ?_
    · have h : (M6.nodes.length : Int) = 12 := V.int.inj (of_decide_eq_true h)
      refine ⟨by show 2 ≤ sizeLine; decide, fun p hp => kR p _ (Same.upd hp) ?_⟩
      rcases hcA with ⟨_, e⟩ | ⟨h1, _⟩
      · rw [e, upd_same]
      · omega
    · have h : ¬ (M6.nodes.length : Int) = 12 := fun z => of_decide_eq_false h (by rw [z])
      refine ⟨_, rfl, by show 2 ≤ sizeLine; decide, fun p hp => kR p _ (Same.upd hp) ?_⟩
      rcases hcA with ⟨h1, _⟩ | ⟨_, e⟩
      · omega
      · rw [e, upd_same]
    refine ⟨_, _, hdpA _ _ (S1718 _ _ hl17), hdpA _ _ hl18, hshA, hshA, ?_⟩
    rw [eqS hshA]
    refine ⟨_, rfl, iteF ?_⟩
    -- a write
    have S618 := Same.trans S617 S1718
    have hN18 := hN6.mono S618
    have q18 := q6.mono S618
    obtain ⟨m0, hm0⟩ : ∃ m0, M6.nodes[0]? = some m0 := ⟨M6.nodes[0]'(by omega), List.getElem?_eq_getElem _⟩
    have hns0 : 0 < ns.length := by omega
    obtain ⟨b0, a0, hc0, _, _⟩ := hL6.full 0 m0 hns0 hm0
    obtain ⟨lb, la, hk6, hla⟩ := hL6.kept
    have hk1 : M6.kept[1]? = some (("a" : Str), la) := by rw [hk6]; rfl
    have rm := hL6.rooms (by omega)
    have hdl := hL6.done
    refine ⟨_, rfl, n, _, _, rfl, q18.at_n, rfl, n, "a", 5, g5, M6, 1, m0, a0, la, rfl, hN18, hm0, by rw [hc0]; rfl, hk1, by omega, ⟨rm.down, ?_, rm.acc, rm.stm⟩, fun H19 o19 k19 hN19 _ => ?_⟩
    · show (M6.done ++ [wDeed "a" 5]).length < 1000
      rw [List.length_append, List.length_singleton]
      omega
    have hL19 := LawN.write (c0 := a0) (v := 5) hL6 hns0 hm0 hk1 (by decide +kernel)
    obtain ⟨ds, hr19, hds⟩ := writeM_row (M := M6) (m0 := m0) (i := 1) (key := "a") (v := 5) (c0 := a0) (l := la) hr6
    have hn19 := (writeM_node (M := M6) (m0 := m0) (i := 1) (key := "a") (v := 5) (c0 := a0) (l := la) hns0).trans hn6
    generalize writeM M6 m0 1 "a" 5 a0 la = M19 at hN19 hL19 hr19 hn19
    have kt1819 : KT H18 H19 := KT.keeps k19 q18.notup
    have nD7 : D7 ∉ g5.S := nIn hN6 hD7
    have K19 : Keeps (so :: g.S) H H19 := kS (K6.then S618) k19
    have hso19 := k19 _ _ nso5 (S618 _ _ hso6)
    have lh19 := k19 _ _ nhd5 (S618 _ _ lh6)
    have S718 : Same H7 H18 := Same.trans S710 (Same.trans S1012 (Same.trans S1213 (Same.trans S1314 (Same.trans S1415 (Same.trans S1516 (Same.trans S1617 S1718))))))
    have hls19 := k19 _ _ nD7 (S718 _ _ hls)
    have hys19 := (hys.mono (KT.of S718)).mono kt1819
    -- two deliveries
    have hjs2 : js.length = 2 := by rw [ejs]; rfl
    have shm : ∀ e ∈ js, SeqAt.shaped (msgD e) = true := by
      rw [ejs]
      intro e he
      simp only [List.mem_cons, List.not_mem_nil, or_false] at he
      rcases he with rfl | rfl
      · exact shMsg (show PyData.strOk ("b" : Str) = true by decide +kernel)
      · exact shMsg (show PyData.strOk ("a" : Str) = true by decide +kernel)
    have nd19 : (ns ++ [nm]).Nodup := List.nodup_append.mpr ⟨nd, by simp, fun a ha b hb e => hnm (by rw [List.mem_singleton.mp hb] at e; exact e ▸ ha)⟩
    have hpaw : isW pa = true := by rw [← hml]; exact hmlw
    have hdD : (dDeed pa nm).canLay0 = true ∧ (dDeed pa nm).depth ≤ 10 := by
      unfold dDeed
      refine ⟨?_, ?_⟩ <;> simp only [PyData.canLay0, PyData.canLayAll0, PyData.depth, PyData.depthAll, isW_ok hw, isW_ok hpaw, Bool.and_true, Bool.true_and] <;> decide +kernel
    refine ⟨_, rfl, D7, rfl, ⟨_, SqL.of hls19⟩, ?_⟩
    refine for_list (K := K) (a := D7) (xs := ys) (fun j σ Hh => ∃ (M' : NetM) (mN : NodeM) (r : RowM) (v10 : Option V), σ = [some (.ref so), some (.ref n), some (.str nm), some (.str pa), some (.ref z.na), some (.ref gd), some (.ref hd), some (.ref D7), some (.ref p10), some (.ref D13), v10, none, none, none] ∧ NetA c Hh n g5 M' ∧ LawN M' (ns ++ [nm]) ns.length (t + 2 + j) (u + 1) ∧ M'.rows[M.rows.length]? = some r ∧ r.child = nm ∧ r.above = pa ∧ r.down = (js.drop j).map msgD ++ ds ∧
      M'.nodes[ns.length]? = some mN ∧ mN.label = nm ∧ mN.cells = (js.take j).map gotJ ++ (js.drop j).map noneJ ∧ Keeps (so :: g.S) H Hh ∧ Hh so = some (.lst [.int x2, .int y2]) ∧ Hh hd = some (.dK [((Sum.inr "a" : Key), V.int ga), ((Sum.inr "b" : Key), V.int gb)]) ∧ Hh D7 = some (.lst ys) ∧ TdAll Hh ys (js.map msgD))
      ⟨M19, _, _, none, rfl, hN19, hL19, hr19, rfl, hab, rfl, hn19, rfl, by show M.words.map (fun w => (w, (none : Option CellM))) = _; rw [hL.words, ejs]; rfl, K19, hso19, lh19, hls19, hys19⟩ (fun j σ Hh _ w => by obtain ⟨_, _, _, _, _, _, _, _, _, _, _, _, _, _, _, _, _, e, _⟩ := w; exact SqL.of e) ?_ ?_
    · rintro j v σ Hh hj ⟨M', mN, r, v10, rfl, hNh, hLh, hr, hrc, hra, hrd, hmN, hmNl, hmNc, KH, hsoh, lhh, hlsh, hysh⟩
      obtain ⟨d, hdj2, hvd⟩ := hysh.get hj
      rw [List.getElem?_map] at hdj2
      obtain ⟨e, he, rfl⟩ := Option.map_eq_some_iff.mp hdj2
      obtain ⟨hjl, hjg⟩ := List.getElem?_eq_some_iff.mp he
      have hdrop : js.drop j = e :: js.drop (j + 1) := by rw [List.drop_eq_getElem_cons hjl, hjg]
      have hem : e ∈ js := List.mem_of_getElem? he
      obtain ⟨Zh, qh⟩ := id hNh
      have hmc2 : mN.cells[j]? = some (noneJ e) := by rw [hmNc]; exact mix_get he
      have hdown : r.down = copyMsg e.1 e.2.1.num e.2.1.val e.2.2 :: ((js.drop (j + 1)).map msgD ++ ds) := by
        rw [hrd, hdrop]
        rfl
      have hrl : r.down.length < 1000 := by
        rw [hrd, List.length_append, List.length_map, List.length_drop]
        omega
      have hdone2 := hLh.done
      refine ⟨_, rfl, n, _, _, rfl, qh.at_n, rfl, _, rfl, _, rfl, n, g5, M', M.rows.length, ns.length, j, r, mN, e.1, e.2.1.num, e.2.1.val, e.2.2, (js.drop (j + 1)).map msgD ++ ds, none, by rw [hra, hrc]; rfl, hNh, hr, fun r' h1 h2 => hLh.cyc nd19 hr h1 h2, hdown, hrl, hmN, by rw [hmNl, hrc], hmc2, by omega, fun H20 msg k20 hN20 hmsg => ?_⟩
      have hL20 := LawN.del (i := j) (key := e.1) (c' := gotC e.2.1.num e.2.1.val e.2.2 e.2.1.num) (rest := (js.drop (j + 1)).map msgD ++ ds) hLh hr (by rw [hdown]; exact Nat.le_succ _) hmN (Nat.le_refl _) (by rw [hra, hrc]; exact hdD)
      have hr20 : (setC (delM M' M.rows.length r ((js.drop (j + 1)).map msgD ++ ds)) ns.length mN j e.1 (gotC e.2.1.num e.2.1.val e.2.2 e.2.1.num)).rows[M.rows.length]? = some { r with down := (js.drop (j + 1)).map msgD ++ ds } := by
        show (M'.rows.set M.rows.length { r with down := (js.drop (j + 1)).map msgD ++ ds })[M.rows.length]? = _
        rw [List.getElem?_set, if_pos rfl, if_pos (List.getElem?_eq_some_iff.mp hr).1]
      have hn20 : (setC (delM M' M.rows.length r ((js.drop (j + 1)).map msgD ++ ds)) ns.length mN j e.1 (gotC e.2.1.num e.2.1.val e.2.2 e.2.1.num)).nodes[ns.length]? = some { mN with cells := mN.cells.set j (gotJ e) } := by
        show (M'.nodes.set ns.length { mN with cells := mN.cells.set j (gotJ e) })[ns.length]? = _
        rw [List.getElem?_set, if_pos rfl, if_pos (List.getElem?_eq_some_iff.mp hmN).1]
      have hc20 : mN.cells.set j (gotJ e) = (js.take (j + 1)).map gotJ ++ (js.drop (j + 1)).map noneJ := by rw [hmNc]; exact mix_set he
      generalize setC (delM M' M.rows.length r ((js.drop (j + 1)).map msgD ++ ds)) ns.length mN j e.1 (gotC e.2.1.num e.2.1.val e.2.2 e.2.1.num) = M20 at hN20 hL20 hr20 hn20
      have kt20 : KT Hh H20 := KT.keeps k20 qh.notup
      have hvd20 := hvd.mono kt20
      refine ⟨_, rfl, _, _, hmsg.dp, hvd20.dp, shm e hem, shm e hem, ?_⟩
      rw [show PyData.eqv (copyMsg e.1 e.2.1.num e.2.1.val e.2.2) (msgD e) = true from eqS (shm e hem)]
      refine ⟨_, rfl, iteF ?_⟩
      obtain ⟨mp, rfl, hmp⟩ := td_copy (key := e.1) (num := e.2.1.num) (val := e.2.1.val) (alw := e.2.2) hvd20
      obtain ⟨Z20, q20⟩ := id hN20
      obtain ⟨z20, hz20, _, hnx20⟩ := q20.node' hn20
      have hnx20 : (nm, z20.na) ∈ g5.nx := by rw [← hmNl]; exact hnx20
      have hNz20 : NodeH c.C H20 Z20.n z20 := NodeH.of q20.h (List.mem_of_getElem? hz20)
      obtain ⟨t20, tc20, av20, f1, f2, f3⟩ := look q20 hz20 hn20 (i := j) (key := e.1) (cm := ⟨e.2.1.num, e.2.1.val, e.2.2, e.2.1.num, none⟩) (by
        show (mN.cells.set j (gotJ e))[j]? = _
        rw [List.getElem?_set, if_pos rfl, if_pos (List.getElem?_eq_some_iff.mp hmc2).1]
        rfl)
      have sh2 : SeqAt.shaped (.tuple [.int e.2.1.num, .int e.2.1.val]) = true := by rfl
      refine ⟨_, rfl, _, rfl, n, _, _, rfl, q20.at_n, n, g5, M20, .str nm, rfl, hN20, .inl ⟨nm, z20.na, rfl, hnx20, ?_⟩⟩
      refine ⟨_, rfl, mp, _, 1, .str e.1, rfl, rfl, SqT.of hmp, rfl, z20.na, _, _, rfl, hNz20.i, Z20.n, z20, e.1, t20, _, _, _, _, rfl, hNz20, f1, f2, ?_⟩
      refine ⟨_, rfl, 2, rfl, 4, rfl, mp, _, rfl, SqT.of hmp, (fun z => absurd z (by show ¬ (HT.sIx 5 0 (some 2) = 0 ∧ HT.sIx 5 5 (some 4) = 5); decide)), fun _ p hp => ?_⟩
      have S21 : Same H20 (upd H20 p (.tup [.int e.2.1.num, .int e.2.1.val])) := Same.upd hp
      have l21 : upd H20 p (HO.tup [.int e.2.1.num, .int e.2.1.val]) p = some (.tup [.int e.2.1.num, .int e.2.1.val]) := upd_same
      rw [show cutV [V.str "copy", .str e.1, .int e.2.1.num, .int e.2.1.val, .int e.2.2] (some 2) (some 4) = [.int e.2.1.num, .int e.2.1.val] from rfl]
      generalize upd H20 p (HO.tup [.int e.2.1.num, .int e.2.1.val]) = H21 at S21 l21 ⊢
      refine ⟨_, _, .tup (SqT.of (S21 _ _ f3)) (.cons (.int _) (.cons (.int _) .nil)), .tup (SqT.of l21) (.cons (.int _) (.cons (.int _) .nil)), sh2, sh2, ?_⟩
      rw [eqS sh2]
      refine ⟨_, rfl, iteF ?_⟩
      have hN21 := hN20.mono S21
      have q21 := q20.mono S21
      have hNz21 : NodeH c.C H21 Z20.n z20 := hNz20.mono S21
      have hmp21 := S21 _ _ hmp
      refine ⟨_, rfl, _, rfl, n, _, _, rfl, q21.at_n, n, g5, M20, .str nm, rfl, hN21, .inl ⟨nm, z20.na, rfl, hnx20, z20.na, _, _, rfl, hNz21.i, rfl, _, rfl, mp, _, 1, .str e.1, rfl, rfl, SqT.of hmp21, rfl, Z20.n, z20, e.1, t20, _, _, _, _, rfl, hNz21, f1, S21 _ _ f2, ?_⟩⟩
      refine ⟨_, rfl, _, rfl, n, _, _, rfl, q21.at_n, n, g5, M20, .str nm, rfl, hN21, .inl ⟨nm, z20.na, rfl, hnx20, z20.na, _, _, rfl, hNz21.i, rfl, _, rfl, mp, _, 1, .str e.1, rfl, rfl, SqT.of hmp21, rfl, Z20.n, z20, e.1, t20, _, _, _, _, rfl, hNz21, f1, S21 _ _ f2, ?_⟩⟩
      refine ⟨by show 2 ≤ sizeLine; decide, fun p2 hp2 => ?_⟩
      have S22 : Same H21 (upd H21 p2 (.lst [.int e.2.2, .int e.2.1.num])) := Same.upd hp2
      have l22 : upd H21 p2 (HO.lst [.int e.2.2, .int e.2.1.num]) p2 = some (.lst [.int e.2.2, .int e.2.1.num]) := upd_same
      generalize upd H21 p2 (HO.lst [.int e.2.2, .int e.2.1.num]) = H22 at S22 l22 ⊢
      refine ⟨_, rfl, mp, _, 4, .int e.2.2, rfl, rfl, SqT.of (S22 _ _ hmp21), rfl, _, rfl, mp, _, 2, .int e.2.1.num, rfl, rfl, SqT.of (S22 _ _ hmp21), rfl, by show 2 ≤ sizeLine; decide, fun p3 hp3 => ?_⟩
      have S23 : Same H22 (upd H22 p3 (.lst [.int e.2.2, .int e.2.1.num])) := Same.upd hp3
      have l23 : upd H22 p3 (HO.lst [.int e.2.2, .int e.2.1.num]) p3 = some (.lst [.int e.2.2, .int e.2.1.num]) := upd_same
      generalize upd H22 p3 (HO.lst [.int e.2.2, .int e.2.1.num]) = H23 at S23 l23 ⊢
      have sh3 : SeqAt.shaped (.list [.int e.2.2, .int e.2.1.num]) = true := by rfl
      refine ⟨_, _, .lst (SqL.of (S23 _ _ l22)) (.cons (.int _) (.cons (.int _) .nil)), .lst (SqL.of l23) (.cons (.int _) (.cons (.int _) .nil)), sh3, sh3, ?_⟩
      rw [eqS sh3]
      refine ⟨_, rfl, iteF ?_⟩
      have S2023 := Same.trans S21 (Same.trans S22 S23)
      have kg : ∀ {p : Addr} {o : HO}, p ∉ g5.S → Hh p = some o → H23 p = some o := fun h1 h2 => S2023 _ _ (k20 _ _ h1 h2)
      exact ⟨M20, _, _, _, rfl, hN20.mono S2023, hL20, hr20, hrc, hra, rfl, hn20, hmNl, hc20, (kS KH k20).then S2023, kg nso5 hsoh, kg nhd5 lhh, kg nD7 hlsh, (hysh.mono kt20).mono (KT.of S2023)⟩
    rintro σ Hh ⟨M', mN, r, v10, rfl, hNh, hLh, hr, hrc, hra, hrd, hmN, hmNl, hmNc, KH, hsoh, lhh, hlsh, hysh⟩
    have eyl : ys.length = 2 := by
      have e := hys.length
      rw [List.length_map, hjs2] at e
      exact e
    rw [eyl] at hLh hmNc
    have hmNc : mN.cells = js.map gotJ := by rw [hmNc, ejs]; rfl
    have hwh : M'.words = [("b" : Str), ("a" : Str)] := hLh.words
    obtain ⟨Zh, qh⟩ := id hNh
    have hlenh : M'.nodes.length = ns.length + 1 := by
      have e := congrArg List.length hLh.labels
      rw [List.length_map, List.length_append, List.length_singleton] at e
      exact e
    -- low
    refine ⟨_, rfl, n, _, _, rfl, qh.at_n, n, g5, M', rfl, hNh, fun tw5 htw5 => ⟨tw5, rfl, ⟨_, SqT.of htw5⟩, fun D24 hD24 => ?_⟩⟩
    rw [hwh] at htw5
    refine lc_words (fun w => .tuple [.str w, .int (gw w - 1)]) htw5 (by decide) hD24 (fun _ => rfl) ?_ ?_
    · intro w hwm Hg S Q' k0
      refine ⟨_, rfl, _, rfl, _, rfl, hd, _, rfl, dg w hwm (S _ _ lhh), _, _, rfl, rfl, by show 2 ≤ sizeLine; decide, fun p hp => ?_⟩
      exact k0 _ _ (Same.upd hp) (.tup upd_same (.cons (.str _) (.cons (.int _) .nil)))
    rintro ys24 H24 S24 hls24 hys24
    obtain ⟨ps24, e24, hps24⟩ := td_pairs (K := K) (f := fun w => gw w - 1) hys24
    rw [e24] at hls24
    refine ⟨D24, ps24, _, rfl, SqL.of hls24, hps24, fun lo hlo => ?_⟩
    obtain ⟨kl, ekl⟩ : ∃ kl : List (Key × V), kl = [((Sum.inr "b" : Key), V.int (gb - 1)), ((Sum.inr "a" : Key), V.int (ga - 1))] := ⟨_, rfl⟩
    have S25 : Same H24 (upd H24 lo (.dK (mergeK [] ([("b" : Str), ("a" : Str)].map fun w => ((Sum.inr w : Key), V.int (gw w - 1)))))) := Same.upd hlo
    have llo : upd H24 lo (HO.dK (mergeK [] ([("b" : Str), ("a" : Str)].map fun w => ((Sum.inr w : Key), V.int (gw w - 1))))) lo = some (.dK kl) := by
      rw [upd_same, ekl, egw]
      rfl
    generalize upd H24 lo (HO.dK (mergeK [] ([("b" : Str), ("a" : Str)].map fun w => ((Sum.inr w : Key), V.int (gw w - 1))))) = H25 at S25 llo ⊢
    have Sh25 := Same.trans S24 S25
    have q25 := qh.mono Sh25
    -- due
    obtain ⟨du, dD, hdpD, hshD, hcD⟩ : ∃ du dD, (∀ H' l, H' l = some (.lst du) → Dp K H' (.ref l) dD) ∧ SeqAt.shaped dD = true ∧ ((ns.length = 11 ∧ du = [.str "limit", .int 12]) ∨ (ns.length ≠ 11 ∧ du = [.str "low", .int gb])) := by
      by_cases h : ns.length = 11
      · exact ⟨_, .list [.str "limit", .int 12], fun H' l hl => .lst (SqL.of hl) (.cons (.str _) (.cons (.int _) .nil)), by decide +kernel, .inl ⟨h, rfl⟩⟩
      · refine ⟨_, .list [.str "low", .int gb], fun H' l hl => .lst (SqL.of hl) (.cons (.str _) (.cons (.int _) .nil)), ?_, .inr ⟨h, rfl⟩⟩
        refine shp ?_ ?_ <;> simp only [PyData.canLay0, PyData.canLayAll0, PyData.depth, PyData.depthAll, Bool.and_true, Bool.true_and] <;> decide +kernel
    refine ⟨_, rfl, n, _, _, rfl, q25.at_n, n, g5, M', rfl, hNh.mono Sh25, _, rfl, by omega, by omega, rfl, _, rfl, ?_⟩
    refine if_lst du (fun h R kR => ?_) (fun h R kR => ?_) fun l26 H26 S2526 hl26 => ?_
    · have h : (M'.nodes.length : Int) = 12 := V.int.inj (of_decide_eq_true h)
      refine ⟨by show 2 ≤ sizeLine; decide, fun p hp => kR p _ (Same.upd hp) ?_⟩
      rcases hcD with ⟨_, e⟩ | ⟨h1, _⟩
      · rw [e, upd_same]
      · omega
    · have h : ¬ (M'.nodes.length : Int) = 12 := fun z => of_decide_eq_false h (by rw [z])
      refine ⟨_, rfl, hd, _, rfl, dg "b" (.head _) (Sh25 _ _ lhh), by show 2 ≤ sizeLine; decide, fun p hp => kR p _ (Same.upd hp) ?_⟩
      rcases hcD with ⟨h1, _⟩ | ⟨_, e⟩
      · omega
      · rw [e, upd_same, egw]
        rfl
    have Sh26 := Same.trans Sh25 S2526
    -- the low join is refused, if it is asked
    refine ⟨_, rfl, hd, _, rfl, dg "a" (.tail _ (.head _)) (Sh26 _ _ lhh), _, _, rfl, rfl, _, rfl, and_f (fun h1 R kR => ?_) (fun H27 S27 => ?_)⟩
    · refine ⟨_, rfl, hd, _, rfl, dg "b" (.head _) (Sh26 _ _ lhh), _, _, rfl, rfl, _, rfl, and_f (fun h2 R2 kR2 => ?_) kR⟩
      have ga1 : 1 < ga := by
        have := of_decide_eq_true h1
        rw [egw] at this
        exact this
      have gb1 : 1 < gb := by
        have := of_decide_eq_true h2
        rw [egw] at this
        exact this
      have lo26 := S2526 _ _ llo
      have hal26 : AllowArg K H26 (.ref lo) M'.words true := by
        rw [hwh]
        refine allow_of lo26 (by rw [ekl]; rfl) (by rw [ekl]; show 2 ≤ 1000; decide) ?_
        have o1 : okA (ga - 1) = true := by unfold okA; simp; omega
        have o2 : okA (gb - 1) = true := by unfold okA; simp; omega
        rw [ekl]
        show (decide (2 = 2) && (okA (gb - 1) && (okA (ga - 1) && true))) = true
        rw [o1, o2]
        rfl
      obtain ⟨j2, ej2⟩ : ∃ j2 : Js, j2 = [(("b" : Str), (⟨cb.num, cb.val, gb, cb.num, none⟩ : CellM), gb - 1), (("a" : Str), (⟨ca.num, ca.val, ga, ca.num, none⟩ : CellM), ga - 1)] := ⟨_, rfl⟩
      have hm2 : mN.cells = (j2.map fun j => (j.1, some j.2.1)) := by rw [hmNc, ejs, ej2]; rfl
      have hra26 : RefusedJ K H26 M' (.str "x") (.str nm) (.ref lo) du := by
        refine .inr ⟨"x", rfl, by decide +kernel, .inr ⟨(xlab hLh).1, (xlab hLh).2, .inr ⟨ns.length, mN, by rw [hmNl], hmN, .inr ⟨hal26, ?_⟩⟩⟩⟩
        rcases hcD with ⟨h, e⟩ | ⟨h, e⟩
        · exact .inl ⟨by omega, e⟩
        · refine .inr ⟨by omega, .inr ⟨j2, lo, kl, hm2, rfl, lo26, ?_, 0, (("b" : Str), (⟨cb.num, cb.val, gb, cb.num, none⟩ : CellM), gb - 1), by rw [ej2]; rfl, (fun j' hj' => nomatch hj'), by show gb - 1 < gb; omega, e⟩⟩
          rw [ej2, ekl]
          intro j hj
          simp only [List.mem_cons, List.not_mem_nil, or_false] at hj
          rcases hj with rfl | rfl <;> rfl
      refine ⟨_, rfl, _, rfl, _, rfl, n, g5, M', .str "x", .str nm, .ref lo, du, rfl, hNh.mono Sh26, hra26, fun H28 l28 S28 hl28 => ?_⟩
      refine ⟨_, rfl, _, _, hdpD _ _ hl28, hdpD _ _ (S28 _ _ hl26), hshD, hshD, ?_⟩
      rw [eqS hshD]
      exact ⟨_, rfl, kR2 H28 S28⟩
    refine iteF ?_
    -- the name is taken
    have Sh27 := Same.trans Sh26 S27
    refine ⟨_, rfl, ?_⟩
    refine ⟨_, rfl, ?_⟩
    refine tcons_c (tcons_1 (disp_c (cs := [((Sum.inr "a" : Key), V.int 1), ((Sum.inr "b" : Key), V.int 1)]) (by decide) fun d29 H29 S29 _ _ => ?_))
    have Sh29 := Same.trans Sh27 S29
    refine ⟨n, g5, M', .str nm, .str "store", .ref d29, _, rfl, hNh.mono Sh29, .inr ⟨nm, rfl, hw, .inl ⟨.inl (by rw [hLh.labels]; exact List.mem_append_right _ (.head _)), rfl⟩⟩, fun H30 l30 S30 hl30 => ?_⟩
    refine ⟨_, rfl, by show 2 ≤ sizeLine; decide, fun l31 hl31 => ?_⟩
    have S31 : Same H30 (upd H30 l31 (.lst [.str "taken", .str nm])) := Same.upd hl31
    have hl31' : upd H30 l31 (HO.lst [.str "taken", .str nm]) l31 = some (.lst [.str "taken", .str nm]) := upd_same
    generalize upd H30 l31 (HO.lst [.str "taken", .str nm]) = H31 at S31 hl31' ⊢
    have shT : SeqAt.shaped (.list [.str "taken", .str nm]) = true := by
      refine shp ?_ ?_ <;> simp only [PyData.canLay0, PyData.canLayAll0, PyData.depth, PyData.depthAll, isW_ok hw, Bool.and_true, Bool.true_and] <;> decide +kernel
    refine ⟨_, _, dpS2 (S31 _ _ hl30), dpS2 hl31', shT, shT, ?_⟩
    rw [eqS shT]
    have Sh31 := Same.trans Sh29 (Same.trans S30 S31)
    have hLf := hLh.fill (k := ns.length) hmN (cb := ⟨cb.num, cb.val, gb, cb.num, none⟩) (ca := ⟨ca.num, ca.val, ga, ca.num, none⟩) (by rw [hmNc, ejs]; rfl) (by show gb ≤ 5 * (ns.length : Int); omega) (by show ga ≤ 5 * (ns.length : Int); omega)
    refine k H31 g5 M' x2 y2 (KH.then Sh31) (fun q hq => (w5.s q hq).elim .inl fun h => .inr ?_) (hNh.mono Sh31) hLf (Sh31 _ _ hsoh) hxy2
    have h2' : H2 q = none := S3.free (S4.free h)
    exact kk.free (by simpa using fun z : q = so => by rw [z, hso2] at h2'; cases h2') h2'

end
end K02
set_option Elab.async false
set_option linter.all false
set_option maxRecDepth 100000
set_option maxHeartbeats 4000000
namespace K02
open PySem L2 EX PyProof.Rows LamX
open NZ
abbrev sLaw : Stmt := top 70
def sLawN : List Str := ["_law_script", "_law_turn", "_law_source_here", "_law_net", "_law_names", "_law_name"]
theorem scLw : FnScope ["_law_script", "_law_turn", "_law_source_here", "_law_net", "_law_names", "_law_name"] ["_law_script"] (defScope sLaw) := ⟨rfl, rfl, rfl, by decide +kernel, rfl, by decide +kernel, by decide +kernel⟩
section
variable {P : Program} {w : World} {K : PySem.W.Frag} {mg : Str → Option Value} {base : Heap}
def elevn : List Str := ["c", "d", "e", "f", "g", "h", "i", "j", "k", "l", "m"]
theorem run_law {c : Cs} {IK : Addr} {f a : Addr} {fd : FuncData} {s : Shared} {H : Hp} {ns : List Int} (F : Fun K "law" "law" sLaw f fd) (B : Bn mg) (TN : NetC K c.N)
    (GSo : DefAt P w K mg base 1 "_law_source" ["_law_script", "_law_turn"] (spSource K)) (GDr : DefAt P w K mg base 1 "_law_draw" ["_law_source_here", "_law_amount"] spDraw) (GSa : DefG P w K mg base 6 "_law_said" ["_law_net", "_law_name", "_law_parent", "_law_allowances"] (spSaid K c)) (GJr : DefG P w K mg base 7 "_law_joined_right" ["_law_source_here", "_law_net", "_law_name", "_law_parent"] (spJoinR c)) (GRr : DefG P w K mg base 7 "_law_refused_right" ["_law_source_here", "_law_net"] (spRefR K c))
    (MN : MkX P w K mg base 3 "Net" ["self", "keys"] c.N (spNI K c IK)) (DNl : Dun P w K mg base CX0 1 c.N "__len__" ["self"] (spNLen c))
    (hb : ∀ (s : Shared) (u : Value), BindsTo s fd ⟨[u], []⟩ [("_law_script", u)]) (e0 : Env0 P w K mg base callerA [] s H) (hS : SqL K H a (ns.map V.int)) (hns : ns.length ≤ 63) :
    codeAny (model P w) callerA (.call (.ref f) ⟨[.ref a], []⟩) (CR CX0 [] P w H s (fun v _ => v = .bl true) E0) s := by
  have hroom : Room 40 callerA := ⟨rfl, by decide, by decide⟩
  refine fn_at (us := [Value.ref a]) (vs := [V.ref a]) F scLw hroom e0 (hb s (.ref a)) (.cons rfl .nil) rfl fun cdv hr => ?_
  have hgu : (callerA.deeper (envOfC "law" (defScope sLaw) s.heap.objs.size f cdv)).guards = some [] := rfl
  have hu := hu_of hr
  have hu64 : (callerA.deeper (envOfC "law" (defScope sLaw) s.heap.objs.size f cdv)).units + 64 < cLine := hr.units
  refine ⟨_, PSs.nox (pss_cons (ps_for PassesOwn.never rfl (pi_range1 (by rfl) B.range (pa_cons (pe_callB (call_max2 rfl) (by rfl) B.max PyProof.Rows.boot_max (pa_cons pe_int (pa_cons (pe_callB (call_min2 rfl) (by rfl) B.min PyProof.Rows.boot_min (pa_cons (pe_callB call_len_seq (by rfl) B.len PySem.boot_len (pa_cons (pv 0) pa_nil)) (pa_cons pe_int pa_nil))) pa_nil))) pa_nil)) (pg_name (i := 1) scLw.nd rfl (Or.inl rfl)) (pss_cons (ps_set (i := 2) scLw.nd rfl (Or.inl rfl) (pe_callD GSo (hr.mono (by decide)) (pa_cons (pv 0) (pa_cons (pv 1) pa_nil))))
        (pss_cons (ps_set (i := 3) scLw.nd rfl (Or.inl rfl) (pe_mkX MN (hr.mono (by decide)) (pa_cons (pe_lst (pa_cons pe_str (pa_cons pe_str pa_nil))) pa_nil)))
        (pss_cons (ps_set (i := 4) scLw.nd rfl (Or.inl rfl) (pe_lst (pa_cons pe_str pa_nil)))
        (pss_cons (ps_for PassesOwn.never rfl (pi_list (pe_lst (pa_cons pe_str (pa_cons pe_str (pa_cons pe_str (pa_cons pe_str (pa_cons pe_str (pa_cons pe_str (pa_cons pe_str (pa_cons pe_str (pa_cons pe_str (pa_cons pe_str (pa_cons pe_str pa_nil))))))))))))) (pg_name (i := 5) scLw.nd rfl (Or.inl rfl)) (pss_cons (ps_if (pt_not (pt_val (pe_callG GJr (hr.mono (by decide)) hgu (pa_cons (pv 2) (pa_cons (pv 3) (pa_cons (pv 5) (pa_cons (pe_ix ix_list (pv 4) (pe_callD GDr (hr.mono (by decide)) (pa_cons (pv 2) (pa_cons (pe_callB call_len_seq (by rfl) B.len PySem.boot_len (pa_cons (pv 4) pa_nil)) pa_nil))) (fun _ _ => rfl)) pa_nil))))))) (pss_one (ps_ret pe_bl)) pss_nil)
        (pss_cons (ps_expr (pe_bm PySem.F.plainAttrs_list PySem.F.slot_list_append PySem.F.type_list_append mt_append (pv 4) (pa_cons (pv 5) pa_nil)))
        (pss_one (ps_if (pt_not (pt_val (pe_callG GRr (hr.mono (by decide)) hgu (pa_cons (pv 2) (pa_cons (pv 3) pa_nil))))) (pss_one (ps_ret pe_bl)) pss_nil)))))
        (pss_one (ps_if (PW.pt (pw_or (pt_cmpR (op_neD hu64) (pe_callG GSa (hr.mono (by decide)) hgu (pa_cons (pv 3) (pa_cons pe_str (pa_cons pe_str (pa_cons (pe_disp (pps_cons pe_str pe_int (pps_cons pe_str pe_int pps_nil)) rfl rfl (by simp) (by decide)) pa_nil))))) (pe_lst (pa_cons pe_str (pa_cons pe_int pa_nil))) (nomark _)) (pw_or1 (pt_cmpR op_ne (pe_callB (call_lenO DNl (hr.mono (by decide)) pass0) (by rfl) B.len PySem.boot_len (pa_cons (pv 3) pa_nil)) pe_int (nomark _))))) (pss_one (ps_ret pe_bl)) pss_nil)))))))
        (pss_one (ps_ret pe_bl))), ?_⟩
  refine ⟨_, rfl, a, _, rfl, .inl hS, _, _, rfl, _, _, rfl, _, rfl, ?_, ?_, ?_⟩
  · rw [List.length_map]; split <;> split <;> omega
  · rw [List.length_map]; split <;> split <;> omega
  refine for_range (fun i σ H' => ∃ v1 v2 v3 v4 v5, σ = [some (V.ref a), v1, v2, v3, v4, v5] ∧ Same H H') ⟨_, _, _, _, _, rfl, Same.refl H⟩ ?_ ?_
  · rintro i σ Hi hi ⟨v1, v2, v3, v4, v5, rfl, Xi⟩
    have hi63 : i ≤ 1000 := by
      rw [List.length_map] at hi
      split at hi <;> split at hi <;> omega
    refine ⟨_, rfl, _, rfl, a, ns, i, by rw [Int.zero_add]; rfl, Xi.seq hS, hi63, fun so x0 y0 hso hsrc => ?_⟩
    have ls : upd Hi so (HO.lst [.int x0, .int y0]) so = some (.lst [.int x0, .int y0]) := upd_same
    have s1 : Same Hi (upd Hi so (.lst [.int x0, .int y0])) := Same.upd hso
    generalize upd Hi so (HO.lst [.int x0, .int y0]) = H1 at ls s1 ⊢
    refine ⟨by show 2 ≤ sizeLine; decide, fun lk hlk => ?_⟩
    have s2 : Same H1 (upd H1 lk (.lst [.str "b", .str "a"])) := Same.upd hlk
    have llk : upd H1 lk (HO.lst [.str "b", .str "a"]) lk = some (.lst (strV [("b" : Str), ("a" : Str)])) := upd_same
    generalize upd H1 lk (HO.lst [.str "b", .str "a"]) = H2 at s2 llk ⊢
    refine fun n dx hn hdx hne => ?_
    have s3 : Same H2 (upd (upd H2 dx (.own n)) n (.ins c.N dx [])) := Same.trans (Same.upd hdx) (Same.upd (by rw [upd_ne (Ne.symm hne)]; exact hn))
    have KO : KeysOk [("b" : Str), ("a" : Str)] := ⟨by decide +kernel, by decide +kernel, by decide, by decide⟩
    refine ⟨n, dx, .ref lk, rfl, upd_same, .inl ⟨lk, _, rfl, .inl (SqL.of (s3 _ _ llk)), KO, fun H4 g k4 hN hg => ⟨rfl, ?_⟩⟩⟩
    have sHi4 : Same Hi H4 := Same.trans s1 (Same.trans s2 (made_same hn hdx hne k4))
    have hso4 : H4 so = some (.lst [.int x0, .int y0]) := made_same hn hdx hne k4 _ _ (s2 _ _ ls)
    have fg : ∀ q ∈ g.S, H2 q = none := fun q hq => by
      rcases hg q hq with e | e
      · rw [e]
        exact hn
      · exact s3.free e
    have fgi : ∀ q ∈ g.S, Hi q = none := fun q hq => s1.free (s2.free (fg q hq))
    have nso : so ∉ g.S := fun z => by
      have := fg so z
      rw [s2 _ _ ls] at this
      cases this
    refine ⟨by show 1 ≤ sizeLine; decide, fun l hl => ?_⟩
    have s5 : Same H4 (upd H4 l (.lst (strV [("store" : Str)]))) := Same.upd hl
    have ll : upd H4 l (HO.lst (strV [("store" : Str)])) l = some (.lst (strV [("store" : Str)])) := upd_same
    have nl : l ∉ g.S := fun z => by
      obtain ⟨Z, q⟩ := hN.ex
      rw [← q.ps] at z
      obtain ⟨x, hx, e⟩ := List.mem_map.mp z
      exact q.h.ne hl x hx e
    have nls : l ≠ so := fun z => by rw [z, hso4] at hl; cases hl
    have hli : Hi l = none := sHi4.free hl
    have e5 : (HO.lst [V.str "store"]) = HO.lst (strV [("store" : Str)]) := rfl
    rw [e5]
    generalize upd H4 l (HO.lst (strV [("store" : Str)])) = H5 at s5 ll ⊢
    have hN5 := hN.mono s5
    refine ⟨by show 11 ≤ sizeLine; decide, fun le hle => ?_⟩
    have s6 : Same H5 (upd H5 le (.lst (strV elevn))) := Same.upd hle
    have lle : upd H5 le (HO.lst (strV elevn)) le = some (.lst (strV elevn)) := upd_same
    have nle : le ∉ g.S := fun z => by
      obtain ⟨Z, q⟩ := hN5.ex
      rw [← q.ps] at z
      obtain ⟨x, hx, e⟩ := List.mem_map.mp z
      exact q.h.ne hle x hx e
    have nles : le ≠ so := fun z => by rw [z, s5 _ _ hso4] at hle; cases hle
    have nlel : le ≠ l := fun z => by rw [z, ll] at hle; cases hle
    have hlei : Hi le = none := (Same.trans sHi4 s5).free hle
    have e6 : upd H5 le (HO.lst [V.str "c", V.str "d", V.str "e", V.str "f", V.str "g", V.str "h", V.str "i", V.str "j", V.str "k", V.str "l", V.str "m"]) = upd H5 le (HO.lst (strV elevn)) := rfl
    rw [e6]
    generalize upd H5 le (HO.lst (strV elevn)) = H6 at s6 lle ⊢
    refine ⟨le, rfl, ⟨_, SqL.of lle⟩, ?_⟩
    refine for_list (K := K) (a := le) (xs := strV elevn) (fun j σ Hh => ∃ (g : Sg) (M : NetM) (x y : Int) (v5 : Option V), σ = [some (V.ref a), some (.int (0 + (i : Int))), some (.ref so), some (.ref n), some (.ref l), v5] ∧ NetA c Hh n g M ∧ LawN M ("store" :: elevn.take j) (j + 1) (4 * j) j ∧ Hh so = some (.lst [.int x, .int y]) ∧ SrcOk x y ∧
      Hh l = some (.lst (strV ("store" :: elevn.take j))) ∧ Hh le = some (.lst (strV elevn)) ∧ Same Hi Hh ∧ (∀ q ∈ g.S, Hi q = none) ∧ so ∉ g.S ∧ l ∉ g.S ∧ le ∉ g.S)
      ⟨g, _, x0, y0, v5, rfl, hN5.mono s6, LawN.new, s6 _ _ (s5 _ _ hso4), hsrc, s6 _ _ ll, lle, Same.trans sHi4 (Same.trans s5 s6), fgi, nso, nl, nle⟩ (fun j σ Hh _ w => by obtain ⟨_, _, _, _, _, _, _, _, _, _, _, e, _⟩ := w; exact SqL.of e) ?_ ?_
    · rintro j nmv σ Hh hj ⟨g, M, x, y, v5, rfl, hN, hL, hso7, hxy, hl7, hle7, hS7, hfr, nso, nl, nle⟩
      obtain ⟨nm, rfl, hnm⟩ := strV_get hj
      have hj11 : j < 11 := (List.getElem?_eq_some_iff.mp hnm).1
      have nsd : (("store" : Str) :: elevn).Nodup := by decide +kernel
      have sub : ∀ z ∈ ("store" : Str) :: elevn.take j, z ∈ ("store" : Str) :: elevn := fun z hz => by
        rcases List.mem_cons.mp hz with e | e
        · exact e ▸ .head _
        · exact .tail _ (List.mem_of_mem_take e)
      have nl7 : (strV (("store" : Str) :: elevn.take j)).length = j + 1 := by
        rw [List.length_map, List.length_cons, List.length_take, Nat.min_eq_left (by show j ≤ 11; omega)]
      refine ⟨_, rfl, _, rfl, _, rfl, _, rfl, _, rfl, _, rfl, l, _, rfl, .inl (SqL.of hl7), so, x, y, _, rfl, hso7, hxy, by omega, by omega, fun x' y' d hxy' h0 hd => ?_⟩
      rw [nl7] at hd
      obtain ⟨dk, rfl⟩ := Int.eq_ofNat_of_zero_le h0
      have hdl : dk < (strV (("store" : Str) :: elevn.take j)).length := by rw [nl7]; omega
      obtain ⟨pv, hpv⟩ := ex_ix hdl
      obtain ⟨pa, rfl, hpa⟩ := strV_get hpv
      have hNd := hN.keeps (T := [so]) (Keeps.one (o := .lst [.int x', .int y']) Hh) (fun p h => by rw [List.mem_singleton.mp h]; exact nso) (fun p h xs w => by rw [List.mem_singleton.mp h, hso7] at w; cases w)
      have hl8 : upd Hh so (HO.lst [.int x', .int y']) l = some (.lst (strV ("store" :: elevn.take j))) := by rw [upd_ne nls]; exact hl7
      have hle8 : upd Hh so (HO.lst [.int x', .int y']) le = some (.lst (strV elevn)) := by rw [upd_ne nles]; exact hle7
      have hso8 : upd Hh so (HO.lst [.int x', .int y']) so = some (.lst [.int x', .int y']) := upd_same
      have hsoi : Hi so = none := hso
      have hS8 : Same Hi (upd Hh so (.lst [.int x', .int y'])) := EX.Same.updN hS7 hsoi
      generalize upd Hh so (HO.lst [.int x', .int y']) = H8 at hNd hl8 hle8 hso8 hS8 ⊢
      refine ⟨l, _, _, _, rfl, rfl, SqL.of hl8, atI_nat hpv, ?_⟩
      have htl : (("store" : Str) :: elevn.take j).length = j + 1 := by rw [List.length_cons, List.length_take, Nat.min_eq_left (by show j ≤ 11; omega)]
      have hnin : nm ∉ ("store" : Str) :: elevn.take j := fun z => by
        have h1 := nd_at (ws := ("store" : Str) :: elevn) (i := j + 1) nsd (by rw [List.getElem?_cons_succ]; exact hnm)
        exact h1 (by rw [List.take_succ_cons]; exact z)
      have hnme : nm ∈ elevn := List.mem_of_getElem? hnm
      have hL8 : LawN M ("store" :: elevn.take j) (("store" : Str) :: elevn.take j).length (4 * j) j := by rw [htl]; exact hL
      refine ⟨so, n, nm, pa, g, M, _, 4 * j, j, x', y', rfl, hNd, hL8, nsd.sublist (List.Sublist.cons₂ _ (List.take_sublist _ _)), List.mem_of_getElem? hpa, hnin, (by decide +kernel : ∀ z ∈ elevn, isW z = true) nm hnme, (fun s hs => (by decide +kernel : ∀ z ∈ ("store" : Str) :: elevn, isW z = true) s (sub s hs)), (by decide +kernel : ∀ z ∈ elevn, z ≠ "x") nm hnme, fun z => absurd (sub _ z) (by decide +kernel), by rw [htl]; omega, hso8, hxy', nso, by omega, by omega, fun H9 g' M' x2 y2 k9 fr9 hN9 hL9 hso9 hxy9 => ?_⟩
      have etk : ("store" : Str) :: elevn.take (j + 1) = (("store" : Str) :: elevn.take j) ++ [nm] := by
        rw [List.take_add_one, hnm]
        rfl
      have hl9 : H9 l = some (.lst (strV (("store" : Str) :: elevn.take j))) := k9 _ _ (fun z => (List.mem_cons.mp z).elim nls nl) hl8
      have hle9 : H9 le = some (.lst (strV elevn)) := k9 _ _ (fun z => (List.mem_cons.mp z).elim nles nle) hle8
      have hS9 : Same Hi H9 := fun b o e => k9 b o (fun z => (List.mem_cons.mp z).elim (fun w => by rw [w, hsoi] at e; cases e) fun w => by rw [hfr b w] at e; cases e) (hS8 b o e)
      have fr9i : ∀ q ∈ g'.S, Hi q = none := fun q hq => (fr9 q hq).elim (hfr q) fun w => hS8.free w
      have nso' : so ∉ g'.S := fun z => (fr9 so z).elim nso fun w => by rw [hso8] at w; cases w
      have nl' : l ∉ g'.S := fun z => (fr9 l z).elim nl fun w => by rw [hl8] at w; cases w
      have nle' : le ∉ g'.S := fun z => (fr9 le z).elim nle fun w => by rw [hle8] at w; cases w
      refine ⟨_, rfl, iteF ?_⟩
      refine ⟨_, rfl, .inl ⟨rfl, _, SqL.of hl9⟩, _, rfl, l, _, _, rfl, rfl, hl9, by rw [nl7, sizeLine_eq]; omega, ?_⟩
      have hN10 := hN9.keeps (T := [l]) (Keeps.one (o := .lst (strV (("store" : Str) :: elevn.take j) ++ [.str nm])) H9) (fun p h => by rw [List.mem_singleton.mp h]; exact nl') (fun p h xs w => by rw [List.mem_singleton.mp h, hl9] at w; cases w)
      have hl10 : upd H9 l (HO.lst (strV (("store" : Str) :: elevn.take j) ++ [.str nm])) l = some (.lst (strV (("store" : Str) :: elevn.take (j + 1)))) := by
        rw [upd_same, etk]
        simp [strV]
      have hle10 : upd H9 l (HO.lst (strV (("store" : Str) :: elevn.take j) ++ [.str nm])) le = some (.lst (strV elevn)) := by rw [upd_ne nlel]; exact hle9
      have hso10 : upd H9 l (HO.lst (strV (("store" : Str) :: elevn.take j) ++ [.str nm])) so = some (.lst [.int x2, .int y2]) := by rw [upd_ne nls.symm]; exact hso9
      have hS10 : Same Hi (upd H9 l (.lst (strV (("store" : Str) :: elevn.take j) ++ [.str nm]))) := EX.Same.updN hS9 hli
      generalize upd H9 l (HO.lst (strV (("store" : Str) :: elevn.take j) ++ [.str nm])) = H10 at hN10 hl10 hle10 hso10 hS10 ⊢
      rw [htl, ← etk] at hL9
      have sub1 : ∀ z ∈ ("store" : Str) :: elevn.take (j + 1), z ∈ ("store" : Str) :: elevn := fun z hz => by
        rcases List.mem_cons.mp hz with e | e
        · exact e ▸ .head _
        · exact .tail _ (List.mem_of_mem_take e)
      have hch : ∀ z ∈ M'.rows.map (·.child), z ∈ ("store" : Str) :: elevn := fun z hz => sub1 z (by rw [← hL9.childs]; exact .tail _ hz)
      refine ⟨_, rfl, _, rfl, so, n, g', M', x2, y2, rfl, ⟨hN10, hL9.words, by rw [hL9.labels]; exact .head _, by rw [hL9.labels]; exact fun z => absurd (sub1 _ z) (by decide +kernel), by rw [hL9.labels]; exact fun z => absurd (sub1 _ z) (by decide +kernel), fun z => absurd (hch _ z) (by decide +kernel), hL9.shaped⟩, hso10, hxy9, nso', fun H11 x3 y3 k11 hso11 hxy11 => ⟨_, rfl, iteF ?_⟩⟩
      have hN11 := hN10.keeps k11 (fun p h => by rw [List.mem_singleton.mp h]; exact nso') (fun p h xs w => by rw [List.mem_singleton.mp h, hso10] at w; cases w)
      have hS11 : Same Hi H11 := fun b o e => k11 b o (fun z => by rw [List.mem_singleton.mp z, hsoi] at e; cases e) (hS10 b o e)
      refine ⟨g', M', x3, y3, _, rfl, hN11, ?_, hso11, hxy11, k11 _ _ (by simpa using nls) hl10, k11 _ _ (by simpa using nles) hle10, hS11, fr9i, nso', nl', nle'⟩
      rw [show 4 * (j + 1) = 4 * j + 4 by omega]
      exact hL9
    · rintro σ Hh ⟨g, M, x, y, v5, rfl, hN, hL, hso7, hxy, hl7, hle7, hS7, hfr, nso, nl, nle⟩
      have htk : elevn.take (strV elevn).length = elevn := List.take_of_length_le (by rw [List.length_map]; exact Nat.le_refl _)
      rw [htk] at hL
      have hlen : M.nodes.length = 12 := by
        have e := congrArg List.length hL.labels
        rw [List.length_map] at e
        exact e
      have hmem : ("store" : Str) ∈ M.nodes.map (·.label) := by rw [hL.labels]; exact .head _
      obtain ⟨m, hmm, hml⟩ := List.mem_map.mp hmem
      obtain ⟨im, hm⟩ := List.mem_iff_getElem?.mp hmm
      have hx1 : ("x" : Str) ∉ M.nodes.map (·.label) := by rw [hL.labels]; decide +kernel
      have hx2 : ("x" : Str) ∉ M.rows.map (·.child) := fun z => by
        have z2 : ("x" : Str) ∈ ("store" : Str) :: elevn := by rw [← hL.childs]; exact .tail _ z
        exact absurd z2 (by decide +kernel)
      refine ⟨_, rfl, ?_⟩
      refine tcons_c (tcons_c (tcons_1 (disp_c (cs := [((Sum.inr "a" : Key), V.int 1), ((Sum.inr "b" : Key), V.int 1)]) (by decide) fun d H1 S1 _ hd => ?_)))
      have hd : H1 d = some (.dK [((Sum.inr "a" : Key), V.int 1), ((Sum.inr "b" : Key), V.int 1)]) := hd
      have hal : AllowArg K H1 (.ref d) M.words true := by
        rw [hL.words]
        exact allow_of hd (by decide +kernel) (by decide) (by decide +kernel)
      refine ⟨n, g, M, .str "x", .str "store", .ref d, _, rfl, hN.mono S1, .inr ⟨"x", rfl, by decide +kernel, .inr ⟨hx1, hx2, .inr ⟨im, m, by rw [hml], hm, .inr ⟨hal, .inl ⟨by omega, rfl⟩⟩⟩⟩⟩, fun H2 la S2 hla => ?_⟩
      refine ⟨by show 2 ≤ sizeLine; decide, fun lx hlx => ?_⟩
      have S3 : Same H2 (upd H2 lx (.lst [.str "limit", .int 12])) := Same.upd hlx
      have hlx' : upd H2 lx (HO.lst [.str "limit", .int 12]) lx = some (.lst [.str "limit", .int 12]) := upd_same
      generalize upd H2 lx (HO.lst [.str "limit", .int 12]) = H3 at S3 hlx' ⊢
      have dpL : ∀ {H' : Hp} {l : Addr}, H' l = some (.lst [.str "limit", .int 12]) → Dp K H' (.ref l) (.list [.str "limit", .int 12]) := fun h => .lst (SqL.of h) (.cons (.str _) (.cons (.int _) .nil))
      have shL : SeqAt.shaped (.list [.str "limit", .int 12]) = true := by decide +kernel
      have S03 := Same.trans S1 (Same.trans S2 S3)
      have hN3 := hN.mono S03
      obtain ⟨Z3, q3⟩ := id hN3
      refine ⟨_, _, dpL (S3 _ _ hla), dpL hlx', shL, shL, _, rfl, ifF (by rw [eqS shL]; rfl) ?_⟩
      refine ⟨_, rfl, n, Z3.dx, _, rfl, q3.at_n, n, g, M, rfl, hN3, _, rfl, by omega, by omega, rfl, _, rfl, ifF (by rw [hlen]; rfl) ?_⟩
      exact ⟨_, _, _, _, _, rfl, Same.trans Xi (Same.trans hS7 S03)⟩
  · rintro σ H' ⟨v1, v2, v3, v4, v5, rfl, _⟩
    exact rfl
end
end K02
set_option Elab.async false
set_option linter.all false
set_option maxRecDepth 100000
set_option maxHeartbeats 4000000
/-! the law's end with tables of code objects, the law's own call met at callerA -/
namespace EX
open PySem L2 PySem.Spec PyProof.Rows LamX
/-- the tables as they stand at the head: empty, no part of what is written, each with its code object -/
structure TabsAt (K : PySem.W.Frag) (h : Heap) (cs : List (Addr × Addr)) : Prop where
  emp : ∀ p ∈ cs, h.get? p.2 = some { cls := .none, data := .fields #[] }
  out : ∀ p ∈ cs, K.lookup p.2 = none
  cod : ∀ p ∈ cs, PySem.W.CodeHd h p.1 p.2
/-- a table told by its def's name -/
structure TabOf (q : Program) (K : PySem.W.Frag) (x : Str) (c P : Addr) : Prop where
  has : ∃ d, (recsOf q).find? (fun e => e.name == x) = some d
  tab : PySem.W.tabIn K x = some (c, P)
  out : K.lookup P = none
theorem tab_by {K : PySem.W.Frag} {x : Str} {f c P : Addr} {oc oc2 : Value} {od od2 : Option Addr} {fd : FuncData} {vs : Array Value} {os1 os2 : Array (Option Value)} (h1 : PySem.W.nsIn K mainGlobals x = some (some (.ref f))) (h2 : K.lookup f = some ⟨oc, od, .func fd, os1⟩) (h3 : fd.code = .ref c)
    (h4 : K.lookup c = some ⟨oc2, od2, .fields vs, os2⟩) (h5 : (vs[11]? : Option Value) = some (.ref P)) : PySem.W.tabIn K x = some (c, P) := by
  unfold PySem.W.tabIn
  rw [h1]
  show (match K.lookup f with | some ⟨_, _, .func fd, _⟩ => _ | _ => _) = _
  rw [h2]
  show (match fd.code with | .ref c => _ | _ => _) = _
  rw [h3]
  show (match K.lookup c with | some ⟨_, _, .fields vs, _⟩ => _ | _ => _) = _
  rw [h4]
  show (match (vs[11]? : Option Value) with | some (.ref P) => some (c, P) | _ => none) = _
  rw [h5]
theorem walkT {l : PySem.W.OpenLaw} {n : Nat} {q : Program} {loose : List Str} {XP : (Str → Option Value) → Heap → Prop} {YP : World → Heap → Prop} {d : DefRec} {K : Params → PySem.W.Frag}
    (hn : l.most = some n) (hn2 : n ≤ sizeLine) (hdf : d.params.defaults = []) (hY : ∀ (w : World) (h : Heap), YP w h → (K w.params).In h)
    (F : ∀ (w : World) (mg : Str → Option Value) (fa : Addr) (h : Heap), YP w h → (K w.params).In h → h.Ns mainGlobals mg → mg d.name = some (.ref fa) → ∃ cs : List (Addr × Addr), (∀ p ∈ cs, ∃ x, TabOf q (K w.params) x p.1 p.2) ∧
      ∀ base : Heap, (K w.params).In base → base.Ns mainGlobals mg → (∀ p ∈ cs, TabB base mg p.1 p.2) → ∀ (s : Shared) (H : Hp) (a : Addr) (ns : List Int), ns.length ≤ n → (∀ p ∈ cs, H p.2 = some (.tbl #[])) → SqL (K w.params) H a (ns.map V.int) →
        Env0 l.prog w (K w.params) mg base callerA [] s H → codeAny (model l.prog w) callerA (.call (.ref fa) ⟨[.ref a], []⟩) (CR CX0 [] l.prog w H s (fun v _ => v = .bl true) E0) s) :
    PySem.W.WalkO q loose XP YP l.row.toRowW d [] (fun f vs => PySem.call f vs) := by
  refine Att.attach_callB hn hdf ?_
  intro w s₀ s₁ mg mb fa o pm cd doc a vs ns G Y ho hd hcd hmg hobj hints hlen hbits hg
  have kin := hY w _ Y
  obtain ⟨cs, TO, run⟩ := F w mg fa _ Y kin G.T.g hmg
  have TA : TabsAt (K w.params) s₁.heap cs := by
    refine ⟨fun p hp => ?_, fun p hp => ?_, fun p hp => ?_⟩ <;> obtain ⟨x, ⟨d2, hd2⟩, ht, ho2⟩ := TO p hp
    · exact (PySem.W.tab_of G.T kin hd2 ht).2
    · exact ho2
    · exact (PySem.W.tab_of G.T kin hd2 ht).1
  have rv := vals_ints hints
  have lv := hints.length
  have tabOf : ∀ b, b ∈ cs.map (·.2) → ∃ p ∈ cs, p.2 = b := fun b hb => List.mem_map.mp hb
  have emp : ∀ b, b ∈ cs.map (·.2) → s₁.heap.get? b = some { cls := .none, data := .fields #[] } := fun b hb => by
    obtain ⟨p, hp, rfl⟩ := tabOf b hb
    exact TA.emp p hp
  have aOut : a ∉ cs.map (·.2) := fun z => by
    have e := emp a z
    rw [hobj] at e
    have d2 := congrArg Obj.data (Option.some.inj e)
    cases d2
  have key : ∀ H : Hp, (∀ b, b ∈ cs.map (·.2) → H b = some (.tbl #[])) → (∀ b, b ∈ cs.map (·.2) ∨ H b = none ∨ ∃ ob xs, H b = some (.frz ob (.lst xs))) → SqL (K w.params) H a (ns.map V.int) → HOk l.prog w H s₁.heap → (∀ b, H b ≠ none → b = a ∨ b ∈ cs.map (·.2)) → (H a ≠ none → (K w.params).lookup a = none) →
      codeAny (model l.prog w) callerA (.call (.ref fa) ⟨[.ref a], []⟩) (fun r s' => r = .ok (.ret (.bool true)) ∧ OldK s₁.heap s'.heap ∧ s'.os = s₁.os ∧ AllBare s'.gens) s₁ := by
    intro H tab only sq hok who notK
    -- what is no list and no table is not tracked
    have plain : ∀ {b : Addr} {o : Obj}, s₁.heap.get? b = some o → (∀ xs m, o.data ≠ .seq xs m) → o.data ≠ .fields #[] → H b = none := by
      intro b o e1 e2 e3
      cases h : H b with
      | none => rfl
      | some u =>
        rcases who b (by rw [h]; exact fun z => nomatch z) with e4 | e4
        · rw [e4, hobj] at e1
          cases e1
          exact absurd rfl (e2 _ _)
        · rw [emp b e4] at e1
          cases e1
          exact absurd rfl e3
    have dicts : ∀ {b : Addr} {o : Obj} {es : Array DictEntry} {ep : Nat}, s₁.heap.get? b = some o → o.data = .dict es ep → H b = none := by
      intro b o es ep e1 e2
      refine plain e1 (fun xs m z => ?_) fun z => ?_ <;> rw [e2] at z <;> cases z
    have nsB : ∀ {b : Addr} {m : Str → Option Value}, s₁.heap.Ns b m → (hidT s₁.heap H).Ns b m := by
      rintro b m ⟨o, es, ep, e1, e2, r⟩
      exact ⟨o, es, ep, hidT_get e1 (dicts e1 e2), e2, r⟩
    have kinB : (K w.params).In (hidT s₁.heap H) := by
      intro b o e
      refine hidT_get (kin b o e) ?_
      cases h : H b with
      | none => rfl
      | some u =>
        rcases who b (by rw [h]; exact fun z => nomatch z) with e3 | e3
        · rw [e3, notK (by rw [← e3, h]; exact fun z => nomatch z)] at e
          cases e
        · obtain ⟨p, hp, rfl⟩ := tabOf b e3
          rw [TA.out p hp] at e
          cases e
    have TB : ∀ p ∈ cs, TabB (hidT s₁.heap H) mg p.1 p.2 := by
      intro p hp
      have ep := TA.emp p hp
      obtain ⟨o, us, file, tf, flags, tg, inF, text, tt, e1, r1, r2, r3, r4, r5, r6, r7, r8, hne⟩ := TA.cod p hp
      obtain ⟨bm, ob, b1, b2, b3, b4, b5, b6⟩ := G.T.bmain
      have bmG : bm ≠ mainGlobals := by
        intro z
        obtain ⟨o2, es, ep2, e2, hd2, _⟩ := G.T.g
        rw [z, e2] at b3
        cases b3
        rw [hd2] at b6
        cases b6
      have bmP : bm ≠ p.2 := by
        intro z
        rw [z, ep] at b3
        cases b3
        cases b6
      refine ⟨⟨o, us, file, tf, flags, tg, inF, text, tt, hidT_get e1 (plain e1 (fun xs m z => ?_) fun z => ?_), r1, r2, r3, r4, r5, r6, r7, r8, hne⟩, ⟨bm, ob, b1, b2, bmG, bmP, hidT_get b3 (plain b3 (fun xs m z => ?_) fun z => ?_), b4, b5, b6⟩, fun z => ?_⟩
      · rw [r2] at z
        cases z
      · rw [r2] at z
        cases z
        simp at r3
      · rw [b6] at z
        cases z
      · rw [b6] at z
        cases z
      · obtain ⟨o2, es, ep2, e2, hd2, _⟩ := G.T.g
        rw [z, ep] at e2
        cases e2
        cases hd2
    have e0 : Env0 l.prog w (K w.params) mg (hidT s₁.heap H) callerA [] s₁ H := by
      refine ⟨rfl, ⟨kinB, nsB G.T.g, ⟨mb, nsB G.T.b, G.T.builtins⟩, ?_⟩, fun b o e => of_hidT e, Nat.le_of_eq (hidT_size _ _), trivial, (fun b hb => absurd hb (List.not_mem_nil)), hok, .of_eq hg⟩
      obtain ⟨mc, h1, h2⟩ := G.T.nolimit
      exact ⟨mc, nsB h1, h2⟩
    refine codeAny_mono (run _ kinB (nsB G.T.g) TB s₁ H a ns hlen (fun p hp => tab p.2 (List.mem_map.mpr ⟨p, hp, rfl⟩)) sq e0) ?_
    intro r s' z
    cases r with
    | error e => exact z.elim
    | ok fl =>
      cases fl with
      | next => exact z.elim
      | brk => exact z.elim
      | cont => exact z.elim
      | ret u =>
        obtain ⟨v, H', os, bare, un, hok', rr, qq⟩ := z
        subst qq
        obtain rfl : u = Value.bool true := rr
        have kept : ∀ b o, b ∉ cs.map (·.2) → s₁.heap.get? b = some o → s'.heap.get? b = some o := by
          intro b o out e
          rcases only b with h | h | ⟨ob, xs, h⟩
          · exact absurd h out
          · exact un.keep b o e h (fun z => nomatch z) (fun z => nomatch z)
          · have h1 := (hok b _ h).1
            have h2 := (hok' b _ (un.frzs b ob _ h)).1
            rw [e] at h1
            cases h1
            exact h2
        have more : ∀ p ∈ cs, ∃ xs : Array Value, s'.heap.get? p.2 = some { cls := .none, data := .fields xs } := by
          intro p hp
          obtain ⟨xs, z⟩ := un.tbls p.2 #[] (tab p.2 (List.mem_map.mpr ⟨p, hp, rfl⟩))
          exact ⟨_, hok' p.2 _ z⟩
        refine ⟨rfl, ⟨fun b o e => ?_, fun b o e => ?_⟩, os, bare⟩
        · by_cases hb : b ∈ cs.map (·.2)
          · obtain ⟨p, hp, rfl⟩ := tabOf b hb
            obtain ⟨xs, hx⟩ := more p hp
            rw [TA.emp p hp] at e
            cases e
            exact .inr (.inl ⟨((TA.cod p hp).tab (TA.emp p hp)).isCodeTable, rfl, #[], xs, rfl, by rw [Array.empty_append]; exact hx⟩)
          · exact .inl (kept b o hb e)
        · by_cases hb : b ∈ cs.map (·.2)
          · obtain ⟨p, hp, rfl⟩ := tabOf b hb
            obtain ⟨xs, hx⟩ := more p hp
            exact ⟨_, hx⟩
          · exact ⟨o, kept b o hb e⟩
  have hz : ns.length ≤ sizeLine := Nat.le_trans hlen hn2
  -- the heap that tracks the tables, and the script where it is not written
  have start : ∀ (H : Hp) (keepA : Bool), (∀ b, H b = if b ∈ cs.map (·.2) then some (.tbl #[]) else if keepA = true ∧ b = a then some (HO.frz { cls := .type "list", data := .seq vs.toArray } (.lst (ns.map V.int))) else none) →
      (keepA = true → (K w.params).lookup a = none) → SqL (K w.params) H a (ns.map V.int) → codeAny (model l.prog w) callerA (.call (.ref fa) ⟨[.ref a], []⟩) (fun r s' => r = .ok (.ret (.bool true)) ∧ OldK s₁.heap s'.heap ∧ s'.os = s₁.os ∧ AllBare s'.gens) s₁ := by
    intro H keepA eH ok sq
    have inT : ∀ b, b ∈ cs.map (·.2) → H b = some (.tbl #[]) := fun b hb => by rw [eH, if_pos hb]
    have offT : ∀ b, b ∉ cs.map (·.2) → H b = if keepA = true ∧ b = a then some (HO.frz { cls := .type "list", data := .seq vs.toArray } (.lst (ns.map V.int))) else none := fun b hb => by rw [eH, if_neg hb]
    refine key H inT (fun b => ?_) sq (fun b u e => ?_) (fun b e => ?_) fun e => ?_
    · by_cases hb : b ∈ cs.map (·.2)
      · exact .inl hb
      · have q1 := offT b hb
        by_cases h2 : keepA = true ∧ b = a
        · rw [if_pos h2] at q1
          exact .inr (.inr ⟨_, _, q1⟩)
        · rw [if_neg h2] at q1
          exact .inr (.inl q1)
    · by_cases hb : b ∈ cs.map (·.2)
      · rw [inT b hb] at e
        cases e
        exact emp b hb
      · rw [offT b hb] at e
        by_cases h2 : keepA = true ∧ b = a
        · rw [if_pos h2] at e
          obtain ⟨_, rfl⟩ := h2
          cases e
          exact ⟨hobj, by rw [List.length_map]; exact hz, vs, _, rv, hobj⟩
        · rw [if_neg h2] at e
          cases e
    · by_cases hb : b ∈ cs.map (·.2)
      · exact .inr hb
      · rw [offT b hb] at e
        by_cases h2 : keepA = true ∧ b = a
        · exact .inl h2.2
        · exact absurd (if_neg h2) e
    · rw [offT a aOut] at e
      by_cases h2 : keepA = true ∧ a = a
      · exact ok h2.1
      · exact absurd (if_neg h2) e
  cases hk : (K w.params).lookup a with
  | some o =>
    have e := kin a o hk
    rw [hobj] at e
    cases e
    refine start (fun b => if b ∈ cs.map (·.2) then some (.tbl #[]) else none) false (fun b => by simp) (fun z => nomatch z) (.inr ⟨_, vs.toArray, _, hk, rfl, rfl, rfl, ?_, ?_⟩)
    · rw [List.size_toArray, lv]
      exact hz
    · simpa using rv
  | none =>
    refine start (fun b => if b ∈ cs.map (·.2) then some (.tbl #[]) else if b = a then some (.frz { cls := .type "list", data := .seq vs.toArray } (.lst (ns.map V.int))) else none) true (fun b => by simp) (fun _ => hk) (.inl (.inr ⟨{ cls := .type "list", data := .seq vs.toArray }, ?_⟩))
    show (if a ∈ cs.map (·.2) then _ else _) = _
    rw [if_neg aOut, if_pos rfl]
/-- .. where the written part comes out of the walk's own facts (small heads) -/
theorem walkTH {l : PySem.W.OpenLaw} {n : Nat} {q : Program} {loose : List Str} {XP : (Str → Option Value) → Heap → Prop} {YP : World → Heap → Prop} {d : DefRec}
    (hn : l.most = some n) (hn2 : n ≤ sizeLine) (hdf : d.params.defaults = [])
    (F : ∀ (w : World) (mg : Str → Option Value) (fa : Addr) (h : Heap), YP w h → h.Ns mainGlobals mg → mg d.name = some (.ref fa) → ∃ (K : PySem.W.Frag) (cs : List (Addr × Addr)), K.In h ∧ (∀ p ∈ cs, ∃ x, TabOf q K x p.1 p.2) ∧
      ∀ base : Heap, K.In base → base.Ns mainGlobals mg → (∀ p ∈ cs, TabB base mg p.1 p.2) → ∀ (s : Shared) (H : Hp) (a : Addr) (ns : List Int), ns.length ≤ n → (∀ p ∈ cs, H p.2 = some (.tbl #[])) → SqL K H a (ns.map V.int) →
        Env0 l.prog w K mg base callerA [] s H → codeAny (model l.prog w) callerA (.call (.ref fa) ⟨[.ref a], []⟩) (CR CX0 [] l.prog w H s (fun v _ => v = .bl true) E0) s) :
    PySem.W.WalkO q loose XP YP l.row.toRowW d [] (fun f vs => PySem.call f vs) := by
  refine Att.attach_callB hn hdf ?_
  intro w s₀ s₁ mg mb fa o pm cd doc a vs ns G Y ho hd hcd hmg hobj hints hlen hbits hg
  obtain ⟨K, cs, kin, TO, run⟩ := F w mg fa _ Y G.T.g hmg
  have TA : TabsAt K s₁.heap cs := by
    refine ⟨fun p hp => ?_, fun p hp => ?_, fun p hp => ?_⟩ <;> obtain ⟨x, ⟨d2, hd2⟩, ht, ho2⟩ := TO p hp
    · exact (PySem.W.tab_of G.T kin hd2 ht).2
    · exact ho2
    · exact (PySem.W.tab_of G.T kin hd2 ht).1
  have rv := vals_ints hints
  have lv := hints.length
  have tabOf : ∀ b, b ∈ cs.map (·.2) → ∃ p ∈ cs, p.2 = b := fun b hb => List.mem_map.mp hb
  have emp : ∀ b, b ∈ cs.map (·.2) → s₁.heap.get? b = some { cls := .none, data := .fields #[] } := fun b hb => by
    obtain ⟨p, hp, rfl⟩ := tabOf b hb
    exact TA.emp p hp
  have aOut : a ∉ cs.map (·.2) := fun z => by
    have e := emp a z
    rw [hobj] at e
    have d2 := congrArg Obj.data (Option.some.inj e)
    cases d2
  have key : ∀ H : Hp, (∀ b, b ∈ cs.map (·.2) → H b = some (.tbl #[])) → (∀ b, b ∈ cs.map (·.2) ∨ H b = none ∨ ∃ ob xs, H b = some (.frz ob (.lst xs))) → SqL K H a (ns.map V.int) → HOk l.prog w H s₁.heap → (∀ b, H b ≠ none → b = a ∨ b ∈ cs.map (·.2)) → (H a ≠ none → K.lookup a = none) →
      codeAny (model l.prog w) callerA (.call (.ref fa) ⟨[.ref a], []⟩) (fun r s' => r = .ok (.ret (.bool true)) ∧ OldK s₁.heap s'.heap ∧ s'.os = s₁.os ∧ AllBare s'.gens) s₁ := by
    intro H tab only sq hok who notK
    -- what is no list and no table is not tracked
    have plain : ∀ {b : Addr} {o : Obj}, s₁.heap.get? b = some o → (∀ xs m, o.data ≠ .seq xs m) → o.data ≠ .fields #[] → H b = none := by
      intro b o e1 e2 e3
      cases h : H b with
      | none => rfl
      | some u =>
        rcases who b (by rw [h]; exact fun z => nomatch z) with e4 | e4
        · rw [e4, hobj] at e1
          cases e1
          exact absurd rfl (e2 _ _)
        · rw [emp b e4] at e1
          cases e1
          exact absurd rfl e3
    have dicts : ∀ {b : Addr} {o : Obj} {es : Array DictEntry} {ep : Nat}, s₁.heap.get? b = some o → o.data = .dict es ep → H b = none := by
      intro b o es ep e1 e2
      refine plain e1 (fun xs m z => ?_) fun z => ?_ <;> rw [e2] at z <;> cases z
    have nsB : ∀ {b : Addr} {m : Str → Option Value}, s₁.heap.Ns b m → (hidT s₁.heap H).Ns b m := by
      rintro b m ⟨o, es, ep, e1, e2, r⟩
      exact ⟨o, es, ep, hidT_get e1 (dicts e1 e2), e2, r⟩
    have kinB : K.In (hidT s₁.heap H) := by
      intro b o e
      refine hidT_get (kin b o e) ?_
      cases h : H b with
      | none => rfl
      | some u =>
        rcases who b (by rw [h]; exact fun z => nomatch z) with e3 | e3
        · rw [e3, notK (by rw [← e3, h]; exact fun z => nomatch z)] at e
          cases e
        · obtain ⟨p, hp, rfl⟩ := tabOf b e3
          rw [TA.out p hp] at e
          cases e
    have TB : ∀ p ∈ cs, TabB (hidT s₁.heap H) mg p.1 p.2 := by
      intro p hp
      have ep := TA.emp p hp
      obtain ⟨o, us, file, tf, flags, tg, inF, text, tt, e1, r1, r2, r3, r4, r5, r6, r7, r8, hne⟩ := TA.cod p hp
      obtain ⟨bm, ob, b1, b2, b3, b4, b5, b6⟩ := G.T.bmain
      have bmG : bm ≠ mainGlobals := by
        intro z
        obtain ⟨o2, es, ep2, e2, hd2, _⟩ := G.T.g
        rw [z, e2] at b3
        cases b3
        rw [hd2] at b6
        cases b6
      have bmP : bm ≠ p.2 := by
        intro z
        rw [z, ep] at b3
        cases b3
        cases b6
      refine ⟨⟨o, us, file, tf, flags, tg, inF, text, tt, hidT_get e1 (plain e1 (fun xs m z => ?_) fun z => ?_), r1, r2, r3, r4, r5, r6, r7, r8, hne⟩, ⟨bm, ob, b1, b2, bmG, bmP, hidT_get b3 (plain b3 (fun xs m z => ?_) fun z => ?_), b4, b5, b6⟩, fun z => ?_⟩
      · rw [r2] at z
        cases z
      · rw [r2] at z
        cases z
        simp at r3
      · rw [b6] at z
        cases z
      · rw [b6] at z
        cases z
      · obtain ⟨o2, es, ep2, e2, hd2, _⟩ := G.T.g
        rw [z, ep] at e2
        cases e2
        cases hd2
    have e0 : Env0 l.prog w K mg (hidT s₁.heap H) callerA [] s₁ H := by
      refine ⟨rfl, ⟨kinB, nsB G.T.g, ⟨mb, nsB G.T.b, G.T.builtins⟩, ?_⟩, fun b o e => of_hidT e, Nat.le_of_eq (hidT_size _ _), trivial, (fun b hb => absurd hb (List.not_mem_nil)), hok, .of_eq hg⟩
      obtain ⟨mc, h1, h2⟩ := G.T.nolimit
      exact ⟨mc, nsB h1, h2⟩
    refine codeAny_mono (run _ kinB (nsB G.T.g) TB s₁ H a ns hlen (fun p hp => tab p.2 (List.mem_map.mpr ⟨p, hp, rfl⟩)) sq e0) ?_
    intro r s' z
    cases r with
    | error e => exact z.elim
    | ok fl =>
      cases fl with
      | next => exact z.elim
      | brk => exact z.elim
      | cont => exact z.elim
      | ret u =>
        obtain ⟨v, H', os, bare, un, hok', rr, qq⟩ := z
        subst qq
        obtain rfl : u = Value.bool true := rr
        have kept : ∀ b o, b ∉ cs.map (·.2) → s₁.heap.get? b = some o → s'.heap.get? b = some o := by
          intro b o out e
          rcases only b with h | h | ⟨ob, xs, h⟩
          · exact absurd h out
          · exact un.keep b o e h (fun z => nomatch z) (fun z => nomatch z)
          · have h1 := (hok b _ h).1
            have h2 := (hok' b _ (un.frzs b ob _ h)).1
            rw [e] at h1
            cases h1
            exact h2
        have more : ∀ p ∈ cs, ∃ xs : Array Value, s'.heap.get? p.2 = some { cls := .none, data := .fields xs } := by
          intro p hp
          obtain ⟨xs, z⟩ := un.tbls p.2 #[] (tab p.2 (List.mem_map.mpr ⟨p, hp, rfl⟩))
          exact ⟨_, hok' p.2 _ z⟩
        refine ⟨rfl, ⟨fun b o e => ?_, fun b o e => ?_⟩, os, bare⟩
        · by_cases hb : b ∈ cs.map (·.2)
          · obtain ⟨p, hp, rfl⟩ := tabOf b hb
            obtain ⟨xs, hx⟩ := more p hp
            rw [TA.emp p hp] at e
            cases e
            exact .inr (.inl ⟨((TA.cod p hp).tab (TA.emp p hp)).isCodeTable, rfl, #[], xs, rfl, by rw [Array.empty_append]; exact hx⟩)
          · exact .inl (kept b o hb e)
        · by_cases hb : b ∈ cs.map (·.2)
          · obtain ⟨p, hp, rfl⟩ := tabOf b hb
            obtain ⟨xs, hx⟩ := more p hp
            exact ⟨_, hx⟩
          · exact ⟨o, kept b o hb e⟩
  have hz : ns.length ≤ sizeLine := Nat.le_trans hlen hn2
  -- the heap that tracks the tables, and the script where it is not written
  have start : ∀ (H : Hp) (keepA : Bool), (∀ b, H b = if b ∈ cs.map (·.2) then some (.tbl #[]) else if keepA = true ∧ b = a then some (HO.frz { cls := .type "list", data := .seq vs.toArray } (.lst (ns.map V.int))) else none) →
      (keepA = true → K.lookup a = none) → SqL K H a (ns.map V.int) → codeAny (model l.prog w) callerA (.call (.ref fa) ⟨[.ref a], []⟩) (fun r s' => r = .ok (.ret (.bool true)) ∧ OldK s₁.heap s'.heap ∧ s'.os = s₁.os ∧ AllBare s'.gens) s₁ := by
    intro H keepA eH ok sq
    have inT : ∀ b, b ∈ cs.map (·.2) → H b = some (.tbl #[]) := fun b hb => by rw [eH, if_pos hb]
    have offT : ∀ b, b ∉ cs.map (·.2) → H b = if keepA = true ∧ b = a then some (HO.frz { cls := .type "list", data := .seq vs.toArray } (.lst (ns.map V.int))) else none := fun b hb => by rw [eH, if_neg hb]
    refine key H inT (fun b => ?_) sq (fun b u e => ?_) (fun b e => ?_) fun e => ?_
    · by_cases hb : b ∈ cs.map (·.2)
      · exact .inl hb
      · have q1 := offT b hb
        by_cases h2 : keepA = true ∧ b = a
        · rw [if_pos h2] at q1
          exact .inr (.inr ⟨_, _, q1⟩)
        · rw [if_neg h2] at q1
          exact .inr (.inl q1)
    · by_cases hb : b ∈ cs.map (·.2)
      · rw [inT b hb] at e
        cases e
        exact emp b hb
      · rw [offT b hb] at e
        by_cases h2 : keepA = true ∧ b = a
        · rw [if_pos h2] at e
          obtain ⟨_, rfl⟩ := h2
          cases e
          exact ⟨hobj, by rw [List.length_map]; exact hz, vs, _, rv, hobj⟩
        · rw [if_neg h2] at e
          cases e
    · by_cases hb : b ∈ cs.map (·.2)
      · exact .inr hb
      · rw [offT b hb] at e
        by_cases h2 : keepA = true ∧ b = a
        · exact .inl h2.2
        · exact absurd (if_neg h2) e
    · rw [offT a aOut] at e
      by_cases h2 : keepA = true ∧ a = a
      · exact ok h2.1
      · exact absurd (if_neg h2) e
  cases hk : K.lookup a with
  | some o =>
    have e := kin a o hk
    rw [hobj] at e
    cases e
    refine start (fun b => if b ∈ cs.map (·.2) then some (.tbl #[]) else none) false (fun b => by simp) (fun z => nomatch z) (.inr ⟨_, vs.toArray, _, hk, rfl, rfl, rfl, ?_, ?_⟩)
    · rw [List.size_toArray, lv]
      exact hz
    · simpa using rv
  | none =>
    refine start (fun b => if b ∈ cs.map (·.2) then some (.tbl #[]) else if b = a then some (.frz { cls := .type "list", data := .seq vs.toArray } (.lst (ns.map V.int))) else none) true (fun b => by simp) (fun _ => hk) (.inl (.inr ⟨{ cls := .type "list", data := .seq vs.toArray }, ?_⟩))
    show (if a ∈ cs.map (·.2) then _ else _) = _
    rw [if_neg aOut, if_pos rfl]
end EX
set_option Elab.async false
set_option linter.all false
set_option maxRecDepth 100000
set_option maxHeartbeats 0
namespace HX02
open PySem PySem.Spec PyProof.Rows L2 EX HkX K02 NZ
theorem all_mk {P : Program} {w : World} {K : PySem.W.Frag} {h : Heap} {mg : Str → Option Value} {fa : Addr} (KX : K.In h) (G : h.Ns mainGlobals mg) (hfa : mg ("law" : Str) = some (.ref fa)) (cy : SaysY fx fn ts w K) :
    ∀ base : Heap, K.In base → base.Ns mainGlobals mg → ∀ (s : Shared) (H : Hp) (a : Addr) (ns : List Int), ns.length ≤ 63 → SqL K H a (ns.map V.int) → Env0 P w K mg base callerA [] s H →
      codeAny (model P w) callerA (.call (.ref fa) ⟨[.ref a], []⟩) (CR CX0 [] P w H s (fun v _ => v = .bl true) E0) s := by
  intro base KB GB s H a ns hns hS e0
  have c := cy.d
  have e := hfa.symm.trans (g_law KX G c)
  cases e
  have B : Bn mg := ⟨z_range KX G c, z_max KX G c, z_min KX G c, z_len KX G c, z_all KX G c, z_isinstance KX G c, z_tuple KX G c, z_list KX G c, z_set KX G c, z_int KX G c, z_bool KX G c, z_str KX G c, z_sorted KX G c, z_repr KX G c, k_LONGEST_WORD KX G c, k_MOST_KEYS KX G c, k_STORE KX G c, k_MOST_WAITING KX G c, z_dict KX G c, z_any KX G c, z_KeyError KX G c, k_GREATEST_ALLOWANCE KX G c⟩
  have TC : CacheC K (He.ga K "Cache") := ⟨c_Cache c, n_Cache_home c, n_Cache_label c, n_Cache_above c, n_Cache_row c, n_Cache_gone c, n_Cache_cells c, n_Cache_entries c, n_Cache_kids c⟩
  have TE : EntryC K (He.ga K "Entry") := ⟨c_Entry c, n_Entry_above c, n_Entry_down_link c, n_Entry_up_link c, n_Entry_cells c, n_Entry_raising c, n_Entry_there c, n_Entry_crashed c, n_Entry_down c, n_Entry_up c⟩
  have TN : NetC K (He.ga K "Net") := ⟨c_Net c, n_Net_words c, n_Net_top c, n_Net_nodes c, n_Net_labels c, n_Net_rows c, n_Net_done c, n_Net_kept c, n_Net_accepted c, n_Net_stamps c, n_Net_questions c, n_Net_trails c, n_Net_answered c, n_Net_receipts c⟩
  obtain ⟨fd_InvalidKeys___init__, F_InvalidKeys___init__⟩ := d_InvalidKeys___init__ c
  have b_InvalidKeys___init__ := F_InvalidKeys___init__.binds (ps := ["self", "given"]) fun _ _ _ _ _ _ us hl => match us, hl with | [_, _], _ => rfl
  obtain ⟨fd_InvalidName___init__, F_InvalidName___init__⟩ := d_InvalidName___init__ c
  have b_InvalidName___init__ := F_InvalidName___init__.binds (ps := ["self", "given"]) fun _ _ _ _ _ _ us hl => match us, hl with | [_, _], _ => rfl
  obtain ⟨fd_InvalidAllowance___init__, F_InvalidAllowance___init__⟩ := d_InvalidAllowance___init__ c
  have b_InvalidAllowance___init__ := F_InvalidAllowance___init__.binds (ps := ["self", "given"]) fun _ _ _ _ _ _ us hl => match us, hl with | [_, _], _ => rfl
  obtain ⟨fd_UnknownNode___init__, F_UnknownNode___init__⟩ := d_UnknownNode___init__ c
  have b_UnknownNode___init__ := F_UnknownNode___init__.binds (ps := ["self", "node"]) fun _ _ _ _ _ _ us hl => match us, hl with | [_, _], _ => rfl
  obtain ⟨fd_NameTaken___init__, F_NameTaken___init__⟩ := d_NameTaken___init__ c
  have b_NameTaken___init__ := F_NameTaken___init__.binds (ps := ["self", "node"]) fun _ _ _ _ _ _ us hl => match us, hl with | [_, _], _ => rfl
  obtain ⟨fd_NotReady___init__, F_NotReady___init__⟩ := d_NotReady___init__ c
  have b_NotReady___init__ := F_NotReady___init__.binds (ps := ["self", "node"]) fun _ _ _ _ _ _ us hl => match us, hl with | [_, _], _ => rfl
  obtain ⟨fd_TooLow___init__, F_TooLow___init__⟩ := d_TooLow___init__ c
  have b_TooLow___init__ := F_TooLow___init__.binds (ps := ["self", "least"]) fun _ _ _ _ _ _ us hl => match us, hl with | [_, _], _ => rfl
  obtain ⟨fd_LimitExceeded___init__, F_LimitExceeded___init__⟩ := d_LimitExceeded___init__ c
  have b_LimitExceeded___init__ := F_LimitExceeded___init__.binds (ps := ["self", "limit"]) fun _ _ _ _ _ _ us hl => match us, hl with | [_, _], _ => rfl
  obtain ⟨fd_Entry___init__, F_Entry___init__⟩ := d_Entry___init__ c
  have b_Entry___init__ := F_Entry___init__.binds (ps := ["self", "down_link", "up_link", "cells"]) fun _ _ _ _ _ _ us hl => match us, hl with | [_, _, _, _], _ => rfl
  obtain ⟨fd_Cache___init__, F_Cache___init__⟩ := d_Cache___init__ c
  have b_Cache___init__ := F_Cache___init__.binds (ps := ["self", "home", "label", "above", "row", "cells"]) fun _ _ _ _ _ _ us hl => match us, hl with | [_, _, _, _, _, _], _ => rfl
  obtain ⟨fd_Cache_seek, F_Cache_seek⟩ := d_Cache_seek c
  have b_Cache_seek := F_Cache_seek.binds (ps := ["self"]) fun _ _ _ _ _ _ us hl => match us, hl with | [_], _ => rfl
  obtain ⟨fd_Cache_copied_keys, F_Cache_copied_keys⟩ := d_Cache_copied_keys c
  have b_Cache_copied_keys := F_Cache_copied_keys.binds (ps := ["self"]) fun _ _ _ _ _ _ us hl => match us, hl with | [_], _ => rfl
  obtain ⟨fd_Cache___getitem__, F_Cache___getitem__⟩ := d_Cache___getitem__ c
  have b_Cache___getitem__ := F_Cache___getitem__.binds (ps := ["self", "at"]) fun _ _ _ _ _ _ us hl => match us, hl with | [_, _], _ => rfl
  obtain ⟨fd_Cache___len__, F_Cache___len__⟩ := d_Cache___len__ c
  have b_Cache___len__ := F_Cache___len__.binds (ps := ["self"]) fun _ _ _ _ _ _ us hl => match us, hl with | [_], _ => rfl
  obtain ⟨fd_Cache_allowance, F_Cache_allowance⟩ := d_Cache_allowance c
  have b_Cache_allowance := F_Cache_allowance.binds (ps := ["self", "key"]) fun _ _ _ _ _ _ us hl => match us, hl with | [_, _], _ => rfl
  obtain ⟨fd_Cache_told, F_Cache_told⟩ := d_Cache_told c
  have b_Cache_told := F_Cache_told.binds (ps := ["self", "key"]) fun _ _ _ _ _ _ us hl => match us, hl with | [_, _], _ => rfl
  obtain ⟨fd_Cache_entry, F_Cache_entry⟩ := d_Cache_entry c
  have b_Cache_entry := F_Cache_entry.binds (ps := ["self", "child", "key"]) fun _ _ _ _ _ _ us hl => match us, hl with | [_, _, _], _ => rfl
  obtain ⟨fd_is_word, F_is_word⟩ := d_is_word c
  have b_is_word := F_is_word.binds (ps := ["obj"]) fun _ _ _ _ _ _ us hl => match us, hl with | [_], _ => rfl
  obtain ⟨fd_are_keys, F_are_keys⟩ := d_are_keys c
  have b_are_keys := F_are_keys.binds (ps := ["obj"]) fun _ _ _ _ _ _ us hl => match us, hl with | [_], _ => rfl
  obtain ⟨fd_is_allowance, F_is_allowance⟩ := d_is_allowance c
  have b_is_allowance := F_is_allowance.binds (ps := ["obj"]) fun _ _ _ _ _ _ us hl => match us, hl with | [_], _ => rfl
  obtain ⟨fd_are_allowances, F_are_allowances⟩ := d_are_allowances c
  have b_are_allowances := F_are_allowances.binds (ps := ["obj", "keys"]) fun _ _ _ _ _ _ us hl => match us, hl with | [_, _], _ => rfl
  obtain ⟨fd_send_to_children, F_send_to_children⟩ := d_send_to_children c
  have b_send_to_children := F_send_to_children.binds (ps := ["node", "message"]) fun _ _ _ _ _ _ us hl => match us, hl with | [_, _], _ => rfl
  obtain ⟨fd_accept, F_accept⟩ := d_accept c
  have b_accept := F_accept.binds (ps := ["net", "key", "value"]) fun _ _ _ _ _ _ us hl => match us, hl with | [_, _, _], _ => rfl
  obtain ⟨fd_renew, F_renew⟩ := d_renew c
  have b_renew := F_renew.binds (ps := ["node", "key", "copy", "allowance", "told", "asked"]) fun _ _ _ _ _ _ us hl => match us, hl with | [_, _, _, _, _, _], _ => rfl
  obtain ⟨fd_start_child, F_start_child⟩ := d_start_child c
  have b_start_child := F_start_child.binds (ps := ["net", "node", "child", "row"]) fun _ _ _ _ _ _ us hl => match us, hl with | [_, _, _, _], _ => rfl
  obtain ⟨fd_add_child, F_add_child⟩ := d_add_child c
  have b_add_child := F_add_child.binds (ps := ["net", "node", "child", "pairs"]) fun _ _ _ _ _ _ us hl => match us, hl with | [_, _, _, _], _ => rfl
  obtain ⟨fd_hear_copy, F_hear_copy⟩ := d_hear_copy c
  have b_hear_copy := F_hear_copy.binds (ps := ["net", "node", "sender", "message"]) fun _ _ _ _ _ _ us hl => match us, hl with | [_, _, _, _], _ => rfl
  obtain ⟨fd_Net___init__, F_Net___init__⟩ := d_Net___init__ c
  have b_Net___init__ := F_Net___init__.binds (ps := ["self", "keys"]) fun _ _ _ _ _ _ us hl => match us, hl with | [_, _], _ => rfl
  obtain ⟨fd_Net_key_names, F_Net_key_names⟩ := d_Net_key_names c
  have b_Net_key_names := F_Net_key_names.binds (ps := ["self"]) fun _ _ _ _ _ _ us hl => match us, hl with | [_], _ => rfl
  obtain ⟨fd_Net_history, F_Net_history⟩ := d_Net_history c
  have b_Net_history := F_Net_history.binds (ps := ["self"]) fun _ _ _ _ _ _ us hl => match us, hl with | [_], _ => rfl
  obtain ⟨fd_Net___len__, F_Net___len__⟩ := d_Net___len__ c
  have b_Net___len__ := F_Net___len__.binds (ps := ["self"]) fun _ _ _ _ _ _ us hl => match us, hl with | [_], _ => rfl
  obtain ⟨fd_Net___getitem__, F_Net___getitem__⟩ := d_Net___getitem__ c
  have b_Net___getitem__ := F_Net___getitem__.binds (ps := ["self", "at"]) fun _ _ _ _ _ _ us hl => match us, hl with | [_, _], _ => rfl
  obtain ⟨fd_Net_join, F_Net_join⟩ := d_Net_join c
  have b_Net_join := F_Net_join.binds (ps := ["self", "name", "parent", "allowances"]) fun _ _ _ _ _ _ us hl => match us, hl with | [_, _, _, _], _ => rfl
  obtain ⟨fd_Net_write, F_Net_write⟩ := d_Net_write c
  have b_Net_write := F_Net_write.binds (ps := ["self", "key", "value"]) fun _ _ _ _ _ _ us hl => match us, hl with | [_, _, _], _ => rfl
  obtain ⟨fd_Net_deliver, F_Net_deliver⟩ := d_Net_deliver c
  have b_Net_deliver := F_Net_deliver.binds (ps := ["self", "sender", "receiver"]) fun _ _ _ _ _ _ us hl => match us, hl with | [_, _, _], _ => rfl
  obtain ⟨fd_Net_messages, F_Net_messages⟩ := d_Net_messages c
  have b_Net_messages := F_Net_messages.binds (ps := ["self", "sender", "receiver"]) fun _ _ _ _ _ _ us hl => match us, hl with | [_, _, _], _ => rfl
  obtain ⟨fd__law_source, F__law_source⟩ := d__law_source c
  have b__law_source := F__law_source.binds (ps := ["_law_script", "_law_turn"]) fun _ _ _ _ _ _ us hl => match us, hl with | [_, _], _ => rfl
  obtain ⟨fd__law_draw, F__law_draw⟩ := d__law_draw c
  have b__law_draw := F__law_draw.binds (ps := ["_law_source_here", "_law_amount"]) fun _ _ _ _ _ _ us hl => match us, hl with | [_, _], _ => rfl
  obtain ⟨fd__law_said, F__law_said⟩ := d__law_said c
  have b__law_said := F__law_said.binds (ps := ["_law_net", "_law_name", "_law_parent", "_law_allowances"]) fun _ _ _ _ _ _ us hl => match us, hl with | [_, _, _, _], _ => rfl
  obtain ⟨fd__law_refused_right, F__law_refused_right⟩ := d__law_refused_right c
  have b__law_refused_right := F__law_refused_right.binds (ps := ["_law_source_here", "_law_net"]) fun _ _ _ _ _ _ us hl => match us, hl with | [_, _], _ => rfl
  obtain ⟨fd__law_joined_right, F__law_joined_right⟩ := d__law_joined_right c
  have b__law_joined_right := F__law_joined_right.binds (ps := ["_law_source_here", "_law_net", "_law_name", "_law_parent"]) fun _ _ _ _ _ _ us hl => match us, hl with | [_, _, _, _], _ => rfl
  obtain ⟨fd_law, F_law⟩ := d_law c
  have rIK := r_InvalidKeys c
  have XIK : XrAt P w K mg base "InvalidKeys" "given" (He.ga K "InvalidKeys") := ⟨e_InvalidKeys c, g_InvalidKeys KX G c, rIK.1, rIK.2.1, _, _, rIK.2.2.1, rIK.2.2.2.1, ok_IK F_InvalidKeys___init__ (e_InvalidKeys c) rIK.2.2.2.2, b_InvalidKeys___init__⟩
  have rIN := r_InvalidName c
  have XIN : XrAt P w K mg base "InvalidName" "given" (He.ga K "InvalidName") := ⟨e_InvalidName c, g_InvalidName KX G c, rIN.1, rIN.2.1, _, _, rIN.2.2.1, rIN.2.2.2.1, ok_IN F_InvalidName___init__ (e_InvalidName c) rIN.2.2.2.2, b_InvalidName___init__⟩
  have rIA := r_InvalidAllowance c
  have XIA : XrAt P w K mg base "InvalidAllowance" "given" (He.ga K "InvalidAllowance") := ⟨e_InvalidAllowance c, g_InvalidAllowance KX G c, rIA.1, rIA.2.1, _, _, rIA.2.2.1, rIA.2.2.2.1, ok_IA F_InvalidAllowance___init__ (e_InvalidAllowance c) rIA.2.2.2.2, b_InvalidAllowance___init__⟩
  have rUN := r_UnknownNode c
  have XUN : XrAt P w K mg base "UnknownNode" "node" (He.ga K "UnknownNode") := ⟨e_UnknownNode c, g_UnknownNode KX G c, rUN.1, rUN.2.1, _, _, rUN.2.2.1, rUN.2.2.2.1, ok_UN F_UnknownNode___init__ (e_UnknownNode c) rUN.2.2.2.2, b_UnknownNode___init__⟩
  have rNT := r_NameTaken c
  have XNT : XrAt P w K mg base "NameTaken" "node" (He.ga K "NameTaken") := ⟨e_NameTaken c, g_NameTaken KX G c, rNT.1, rNT.2.1, _, _, rNT.2.2.1, rNT.2.2.2.1, ok_NT F_NameTaken___init__ (e_NameTaken c) rNT.2.2.2.2, b_NameTaken___init__⟩
  have rNR := r_NotReady c
  have XNR : XrAt P w K mg base "NotReady" "node" (He.ga K "NotReady") := ⟨e_NotReady c, g_NotReady KX G c, rNR.1, rNR.2.1, _, _, rNR.2.2.1, rNR.2.2.2.1, ok_NR F_NotReady___init__ (e_NotReady c) rNR.2.2.2.2, b_NotReady___init__⟩
  have rTL := r_TooLow c
  have XTL : XrAt P w K mg base "TooLow" "least" (He.ga K "TooLow") := ⟨e_TooLow c, g_TooLow KX G c, rTL.1, rTL.2.1, _, _, rTL.2.2.1, rTL.2.2.2.1, ok_TL F_TooLow___init__ (e_TooLow c) rTL.2.2.2.2, b_TooLow___init__⟩
  have rLE := r_LimitExceeded c
  have XLE : XrAt P w K mg base "LimitExceeded" "limit" (He.ga K "LimitExceeded") := ⟨e_LimitExceeded c, g_LimitExceeded KX G c, rLE.1, rLE.2.1, _, _, rLE.2.2.1, rLE.2.2.2.1, ok_LE F_LimitExceeded___init__ (e_LimitExceeded c) rLE.2.2.2.2, b_LimitExceeded___init__⟩
  obtain ⟨cs, ecs⟩ : ∃ cs : Cs, cs = ⟨(He.ga K "Cache"), (He.ga K "Entry"), (He.ga K "Net")⟩ := ⟨_, rfl⟩
  obtain ⟨X, eX⟩ : ∃ X : Xs, X = ⟨He.ga K "InvalidName", He.ga K "NameTaken", He.ga K "UnknownNode", He.ga K "InvalidAllowance", He.ga K "LimitExceeded", He.ga K "NotReady", He.ga K "TooLow"⟩ := ⟨_, rfl⟩
  have ex : Exs K X := by
    rw [eX]
    exact ⟨ex_InvalidName_InvalidName c, ex_NameTaken_InvalidName c, ex_NameTaken_NameTaken c, ex_UnknownNode_InvalidName c, ex_UnknownNode_NameTaken c, ex_UnknownNode_UnknownNode c, ex_InvalidAllowance_InvalidName c, ex_InvalidAllowance_NameTaken c, ex_InvalidAllowance_UnknownNode c, ex_InvalidAllowance_InvalidAllowance c, ex_LimitExceeded_InvalidName c, ex_LimitExceeded_NameTaken c, ex_LimitExceeded_UnknownNode c, ex_LimitExceeded_InvalidAllowance c, ex_LimitExceeded_LimitExceeded c, ex_NotReady_InvalidName c, ex_NotReady_NameTaken c, ex_NotReady_UnknownNode c, ex_NotReady_InvalidAllowance c, ex_NotReady_LimitExceeded c, ex_NotReady_NotReady c, ex_TooLow_InvalidName c, ex_TooLow_NameTaken c, ex_TooLow_UnknownNode c, ex_TooLow_InvalidAllowance c, ex_TooLow_LimitExceeded c, ex_TooLow_NotReady c, ex_TooLow_TooLow c⟩
  have eC : cs.C = (He.ga K "Cache") := by rw [ecs]
  have eE : cs.E = (He.ga K "Entry") := by rw [ecs]
  have eN : cs.N = (He.ga K "Net") := by rw [ecs]
  have eIN : X.IN = He.ga K "InvalidName" := by rw [eX]
  have eNT : X.NT = He.ga K "NameTaken" := by rw [eX]
  have eUN : X.UN = He.ga K "UnknownNode" := by rw [eX]
  have eIA : X.IA = He.ga K "InvalidAllowance" := by rw [eX]
  have eLE : X.LE = He.ga K "LimitExceeded" := by rw [eX]
  have eNR : X.NR = He.ga K "NotReady" := by rw [eX]
  have eTL : X.TL = He.ga K "TooLow" := by rw [eX]
  rw [← eC] at TC
  rw [← eE] at TE
  rw [← eN] at TN
  rw [← eIN] at XIN
  rw [← eNT] at XNT
  rw [← eUN] at XUN
  rw [← eIA] at XIA
  rw [← eLE] at XLE
  rw [← eNR] at XNR
  rw [← eTL] at XTL
  have GW : DefAt P w K mg base 1 "is_word" ["obj"] (spWord) := ⟨_, _, ok_word F_is_word B, g_is_word KX G c, F_is_word.kp, b_is_word⟩
  have GWb : DefAt P w K mg base 1 "is_word" ["obj"] (spWordB K) := ⟨_, _, ok_wordB F_is_word B, g_is_word KX G c, F_is_word.kp, b_is_word⟩
  have GK : DefAt P w K mg base 2 "are_keys" ["obj"] (spKeys K) := ⟨_, _, ok_keys F_are_keys B GW, g_are_keys KX G c, F_are_keys.kp, b_are_keys⟩
  have GA : DefAt P w K mg base 1 "is_allowance" ["obj"] (spAlw1) := ⟨_, _, ok_ia F_is_allowance B, g_is_allowance KX G c, F_is_allowance.kp, b_is_allowance⟩
  have GAa : DefAt P w K mg base 2 "are_allowances" ["obj", "keys"] (spAlws K) := ⟨_, _, ok_aa F_are_allowances B GA, g_are_allowances KX G c, F_are_allowances.kp, b_are_allowances⟩
  have MC : MkAt P w K mg base CX0 1 "Cache" ["self", "home", "label", "above", "row", "cells"] cs.C (spCI K cs.C) := ⟨by rw [eC]; exact g_Cache KX G c, _, _, by rw [eC]; exact mk_Cache c, ok_ci F_Cache___init__ TC, b_Cache___init__⟩
  have ME : MkAt P w K mg base CX0 1 "Entry" ["self", "down_link", "up_link", "cells"] cs.E (spEI K cs.E) := ⟨by rw [eE]; exact g_Entry KX G c, _, _, by rw [eE]; exact mk_Entry c, ok_ei F_Entry___init__ TE, b_Entry___init__⟩
  have MN : MkX P w K mg base 3 "Net" ["self", "keys"] cs.N (spNI K cs (He.ga K "InvalidKeys")) := ⟨by rw [eN]; exact g_Net KX G c, _, _, by rw [eN]; exact mk_Net c, ok_ni F_Net___init__ B TN GK MC XIK, b_Net___init__⟩
  have GSk : MtAt P w K mg base CX0 1 cs.C "seek" ["self"] (spSeek cs.C) := ⟨by rw [eC]; exact c_Cache c, _, _, by rw [eC]; exact m_Cache_seek c, ok_seek F_Cache_seek TC, b_Cache_seek⟩
  have GCk : MtAt P w K mg base CX0 2 cs.C "copied_keys" ["self"] (spCk cs.C) := ⟨by rw [eC]; exact c_Cache c, _, _, by rw [eC]; exact m_Cache_copied_keys c, ok_ck F_Cache_copied_keys TC GSk, b_Cache_copied_keys⟩
  have DCl : Dun P w K mg base CX0 3 cs.C "__len__" ["self"] (spCLen cs.C) := ⟨_, _, by rw [eC]; exact (u_Cache___len__ c).1, (u_Cache___len__ c).2.1, (u_Cache___len__ c).2.2, ok_clen F_Cache___len__ B GCk, b_Cache___len__⟩
  have DCg : Dun P w K mg base CX0 1 cs.C "__getitem__" ["self", "at"] (spCGet cs.C) := ⟨_, _, by rw [eC]; exact (u_Cache___getitem__ c).1, (u_Cache___getitem__ c).2.1, (u_Cache___getitem__ c).2.2, ok_cg F_Cache___getitem__ B TC, b_Cache___getitem__⟩
  have GAl : MtAt P w K mg base CX0 1 cs.C "allowance" ["self", "key"] (spAlw cs.C) := ⟨by rw [eC]; exact c_Cache c, _, _, by rw [eC]; exact m_Cache_allowance c, ok_al F_Cache_allowance B TC, b_Cache_allowance⟩
  have GTo : MtAt P w K mg base CX0 1 cs.C "told" ["self", "key"] (spTold cs.C) := ⟨by rw [eC]; exact c_Cache c, _, _, by rw [eC]; exact m_Cache_told c, ok_to F_Cache_told B TC, b_Cache_told⟩
  have GEn : MtAt P w K mg base CX0 1 cs.C "entry" ["self", "child", "key"] (spEntry cs.C cs.E) := ⟨by rw [eC]; exact c_Cache c, _, _, by rw [eC]; exact m_Cache_entry c, ok_entry F_Cache_entry B TC TE, b_Cache_entry⟩
  have PKn : PrAt P w K mg base 1 cs.N "key_names" ["self"] (spKeyNames cs) := ⟨by rw [eN]; exact c_Net c, _, _, _, by rw [eN]; exact p_Net_key_names c, ok_key_names (UN := X.UN) F_Net_key_names B TN, b_Net_key_names⟩
  have PHi : PrAt P w K mg base 1 cs.N "history" ["self"] (spHist cs) := ⟨by rw [eN]; exact c_Net c, _, _, _, by rw [eN]; exact p_Net_history c, ok_history (UN := X.UN) F_Net_history B TN, b_Net_history⟩
  have DNl : Dun P w K mg base CX0 1 cs.N "__len__" ["self"] (spNLen cs) := ⟨_, _, by rw [eN]; exact (u_Net___len__ c).1, (u_Net___len__ c).2.1, (u_Net___len__ c).2.2, ok_nlen (UN := X.UN) F_Net___len__ B TN, b_Net___len__⟩
  have DG : DunX P w K mg base 3 cs.N "__getitem__" ["self", "at"] (spNGet K cs X.UN) := ⟨_, _, by rw [eN]; exact (u_Net___getitem__ c).1, (u_Net___getitem__ c).2.1, (u_Net___getitem__ c).2.2, ok_nget F_Net___getitem__ B TN XUN, b_Net___getitem__⟩
  have GMs : MtAt P w K mg base CX0 1 cs.N "messages" ["self", "sender", "receiver"] (spMsg cs) := ⟨by rw [eN]; exact c_Net c, _, _, by rw [eN]; exact m_Net_messages c, ok_msg (UN := X.UN) F_Net_messages B TN TE, b_Net_messages⟩
  have GSc : DefAt P w K mg base 3 "start_child" ["net", "node", "child", "row"] (spStart cs) := ⟨_, _, ok_sc F_start_child B TN TC TE MC, g_start_child KX G c, F_start_child.kp, b_start_child⟩
  have GAc : DefAt P w K mg base 4 "add_child" ["net", "node", "child", "pairs"] (spAdd cs) := ⟨_, _, ok_ac F_add_child B TN TC TE ME GSc, g_add_child KX G c, F_add_child.kp, b_add_child⟩
  have GJn : MtX P w K mg base 5 cs.N "join" ["self", "name", "parent", "allowances"] (spJoin K cs X) := ⟨by rw [eN]; exact c_Net c, _, _, by rw [eN]; exact m_Net_join c, ok_join F_Net_join B TN TC (g_Net KX G c) (ci_Net_MOST c).1 (ci_Net_MOST c).2 XIN XNT XUN XIA XLE XNR XTL GWb GAa GAc, b_Net_join⟩
  have GSd : DefAt P w K mg base 1 "send_to_children" ["node", "message"] (spSend cs) := ⟨_, _, ok_sd F_send_to_children TC TE, g_send_to_children KX G c, F_send_to_children.kp, b_send_to_children⟩
  have GAp : DefAt P w K mg base 2 "accept" ["net", "key", "value"] (spAcc cs) := ⟨_, _, ok_ap F_accept B TN TC TE GSd, g_accept KX G c, F_accept.kp, b_accept⟩
  have GWr : MtAt P w K mg base CX0 3 cs.N "write" ["self", "key", "value"] (spWrite cs) := ⟨by rw [eN]; exact c_Net c, _, _, by rw [eN]; exact m_Net_write c, ok_write F_Net_write B TN GAp, b_Net_write⟩
  have GRn : DefAt P w K mg base 1 "renew" ["node", "key", "copy", "allowance", "told", "asked"] (spRenew cs) := ⟨_, _, ok_rn F_renew TC, g_renew KX G c, F_renew.kp, b_renew⟩
  obtain ⟨es, en, KD⟩ := cy.tab 0
  have GDv : MtAt P w K mg base CX0 3 cs.N "deliver" ["self", "sender", "receiver"] (spDel cs) := ⟨by rw [eN]; exact c_Net c, _, _, by rw [eN]; exact m_Net_deliver c, ok_dv F_Net_deliver B TN TE (g_ARRIVALS KX G c) KD (v_ARRIVALS_copy c) (ok_hc F_hear_copy GRn) F_hear_copy.kp b_hear_copy, b_Net_deliver⟩
  have GSo : DefAt P w K mg base 1 "_law_source" ["_law_script", "_law_turn"] (spSource K) := ⟨_, _, ok_source F__law_source ⟨B.len, B.max⟩, g__law_source KX G c, F__law_source.kp, b__law_source⟩
  have GDr : DefAt P w K mg base 1 "_law_draw" ["_law_source_here", "_law_amount"] (spDraw) := ⟨_, _, ok_draw F__law_draw, g__law_draw KX G c, F__law_draw.kp, b__law_draw⟩
  have GSa : DefG P w K mg base 6 "_law_said" ["_law_net", "_law_name", "_law_parent", "_law_allowances"] (spSaid K cs) := ⟨_, _, ok_said F__law_said B ex XIN XNT XUN XIA XLE XNR XTL GJn, g__law_said KX G c, F__law_said.kp, b__law_said⟩
  have GRr : DefG P w K mg base 7 "_law_refused_right" ["_law_source_here", "_law_net"] (spRefR K cs) := ⟨_, _, ok_rr F__law_refused_right B GDr GSa PHi, g__law_refused_right KX G c, F__law_refused_right.kp, b__law_refused_right⟩
  have GJr : DefG P w K mg base 7 "_law_joined_right" ["_law_source_here", "_law_net", "_law_name", "_law_parent"] (spJoinR cs) := ⟨_, _, ok_jr F__law_joined_right B GDr GSa PHi PKn DG DCg DNl DCl GAl GTo GEn GMs GJn GWr GDv, g__law_joined_right KX G c, F__law_joined_right.kp, b__law_joined_right⟩
  have bL : ∀ (s : Shared) (u : Value), BindsTo s fd_law ⟨[u], []⟩ [("_law_script", u)] := by
    obtain ⟨oc, od, kV, doc, pm, an, cdv, ct, osl, rfl, _⟩ := F_law.ex
    exact fun s u => .of_eq rfl
  exact run_law F_law B TN GSo GDr GSa GJr GRr MN DNl bL e0 hS hns
end HX02
set_option Elab.async false
set_option linter.all false
set_option maxRecDepth 100000
set_option maxHeartbeats 0
open PySem PySem.W PySem.Calls PyProof.Rows in
theorem PySem.Challenge.cw_slackcache_k02_joins_and_copies_holds : PySem.Challenge.rw_slackcache_k02_joins_and_copies.Holds := by
  w_on; o_law
  refine HandSHeadRun.head_any (r := OpenLaw.row PySem.Challenge.rw_slackcache_k02_joins_and_copies) (q := view (OpenLaw.row PySem.Challenge.rw_slackcache_k02_joins_and_copies).prog [70]) (H := HX02.hk) (ob := HX02.ob) (M := 60000) (loose := HX02.names) (d := HandSHeadRun.topDef (OpenLaw.row PySem.Challenge.rw_slackcache_k02_joins_and_copies).prog 70) (kwd := []) HX02.ob_eq
    (by kernel_rfl) (fun s => by kernel_rfl) HX02.run (by kernel_rfl) (by kernel_rfl) (by kernel_rfl) (by rfl) (by first | assumption | decide +kernel) (by decide +kernel) ⟨rfl, rfl, rfl, rfl, rfl, by decide +kernel⟩ ?hw ?hc
  case hw => w_witness2
  case hc =>
    refine EX.walkTH (l := PySem.Challenge.rw_slackcache_k02_joins_and_copies) (n := 63) rfl (by decide) (by kernel_rfl) ?F
    intro w mg fa h Y G hmg0
    obtain ⟨K, KX, c⟩ := Y
    have hmg : mg ("law" : PySem.Str) = some (.ref fa) := by
      have e : (HandSHeadRun.topDef (OpenLaw.row PySem.Challenge.rw_slackcache_k02_joins_and_copies).prog 70).name = ("law" : PySem.Str) := by kernel_rfl
      rw [← e]
      exact hmg0
    exact ⟨K, [], KX, fun p hp => (nomatch hp), fun base KB GB _ s H a ns hl _ hS e0 => HX02.all_mk (P := (PySem.Challenge.rw_slackcache_k02_joins_and_copies).prog) KX G hmg c base KB GB s H a ns hl hS e0⟩
