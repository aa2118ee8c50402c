import PyProof.Rows.All
import Wide.All
import OpenK.AllK
import Wide.FinOn
import PyProof.EqAt
import PyProof.EqKinds
import PyProof.TupleCall
import KE.KIsAll
import KE.KTryMore
import KE.KStateDown
import HandS.ForMost
import HandS.Exc
import HandS.ExcOwn
import HandS.ExcInit
import HandS.ExcIs
import HandS.Defaults
import HandS.HeadHook1
import HandS.ExcValue
import HandS.Wide
import HandS.Head0
import HandS.Head1
import HandS.Head2
import HandS.HeadEnd
import HandS.HeadHook2
import HandS.Steps
import HandS.Head3
import KE.KOpsOwn
import PyProof.ListMulAny
import HandS.ExcCtx
import HandS.HotCalls
import HandS.Gcd
import HandS.SlotsOwn
import HandS.IsInst
import PyProof.ZipIter
import HandS.Base
import HandS.Call
import HandS.List
import HandS.Dict
import HandS.Iter
import HandS.Zip0
import HandS.Zip
import HandS.Walk
import HandS.Set
import HandS.OwnEq
import KE.GoesRaise
import KE.GoesComp
import HandS.DictEq
import PyProof.StrBlock2
import HandS.Flow
import PySem.Challenge.RW_anymethod_k04_questions_refused
set_option Elab.async false
set_option linter.all false
set_option maxRecDepth 100000
set_option maxHeartbeats 0
set_option exponentiation.threshold 300
namespace My
open PySem PySem.Spec PyProof.Rows L2 PySem.Calls

/-! ### exceptions of own classes as tracked objects -/
/-- what the written part says of an exception class of the program, at C -/
structure XCls (K : PySem.W.Frag) (C : Addr) : Prop where
  ox : OexC K C
  ga : PySem.W.findIn K (.ref C) "__getattribute__" = some (some (.builtin "BaseException.__getattribute__"))
  gt : PySem.W.findIn K (.ref C) "__getattr__" = some none
  hd : PySem.W.hasDictIn K C = true
  ca : PySem.W.findIn K (.ref C) "__class__" = some (some (.builtin "object.__class__"))
  cn : PySem.W.specialIn K (.builtin "object.__class__") "__get__" = some (some (.builtin "getset_descriptor.__get__"))
  ct : PySem.W.takesIn K (.builtin "object.__class__") = some true
  cm : PySem.W.mroIn K C (.type "object") = some true

def xobjB (K : PySem.W.Frag) (C : Addr) : Bool := match K.lookup C with
  | some ⟨.type c, _, .cls cd, sl⟩ => decide (c = "type") && (match cd.mro, sl.toList with
    | .ref D :: bm, [_, _, _, _, some (.builtin n), _] => decide (D = C) && (decide (n = "ValueError.__new__") && (!cd.hasDel && (cd.hasDict && PySem.HandSPX.refsVE bm)))
    | _, _ => false)
  | _ => false
theorem xobjB_ok {K : PySem.W.Frag} {C : Addr} (h : xobjB K C = true) :
    ∃ nm q N bs bm sn sub ab col dd k0 k1 k2 k3 k5, K.lookup C = some (excClassObj nm q C N bs bm true sn sub ab col dd k0 k1 k2 k3 k5 "ValueError.__new__") ∧ PySem.HandSPX.refsVE bm = true := by
  unfold xobjB at h
  split at h
  · rename_i c dd cd sl ho
    obtain ⟨hc, h⟩ := Bool.and_eq_true_iff.mp h
    split at h
    · rename_i D bm k0 k1 k2 k3 n k5 hm hs
      simp only [Bool.and_eq_true, decide_eq_true_eq, Bool.not_eq_true'] at h
      obtain ⟨rfl, rfl, hdel, hdi, hv⟩ := h
      have hc := of_decide_eq_true hc
      subst hc
      obtain ⟨nm, bs, mro, ns, qn, hd, sn, sub, ab, col, del⟩ := cd
      dsimp only at hm hdel hdi
      subst hm hdel hdi
      obtain ⟨l⟩ := sl
      simp only at hs
      subst hs
      exact ⟨nm, qn, ns, bs, bm, sn, sub, ab, col, dd, k0, k1, k2, k3, k5, ho, hv⟩
    · cases h
  · cases h
def xclsB (K : PySem.W.Frag) (C : Addr) : Bool :=
  xobjB K C && (decide (PySem.W.findIn K (.ref C) "__setattr__" = some (some (.builtin "object.__setattr__"))) && (decide (PySem.W.subIn K (.ref C) (.type "BaseException") = some true) &&
  (decide (PySem.W.typeIn K (.ref C) = some (.type "type")) && (PySem.W.keepIn K (.ref C) && (decide (PySem.W.findIn K (.ref C) "__getattribute__" = some (some (.builtin "BaseException.__getattribute__"))) &&
  (decide (PySem.W.findIn K (.ref C) "__getattr__" = some none) && (PySem.W.hasDictIn K C && (decide (PySem.W.findIn K (.ref C) "__class__" = some (some (.builtin "object.__class__"))) &&
  (decide (PySem.W.specialIn K (.builtin "object.__class__") "__get__" = some (some (.builtin "getset_descriptor.__get__"))) && (decide (PySem.W.takesIn K (.builtin "object.__class__") = some true) &&
  decide (PySem.W.mroIn K C (.type "object") = some true)))))))))))
theorem xclsB_ok {K : PySem.W.Frag} {C : Addr} (h : xclsB K C = true) : XCls K C := by
  unfold xclsB at h
  simp only [Bool.and_eq_true, decide_eq_true_eq] at h
  obtain ⟨h1, h2, h3, h4, h5, h6, h7, h8, h9, h10, h11, h12⟩ := h
  exact ⟨⟨xobjB_ok h1, h2, h3, h4, h5⟩, h6, h7, h8, h9, h10, h11, h12⟩

/-- an exception stands at e: its class at C, its dict (if there is one) and its fields -/
inductive XAt (H : Hp) (e C : Addr) : List (Str × V) → Prop
  | no (h : H e = some (exo e C none)) : XAt H e C []
  | at {d : Addr} {fs : List (Str × V)} (h : H e = some (exo e C (some d))) (hd : H d = some (exd d fs)) : XAt H e C fs
theorem XAt.same {H H' : Hp} {e C : Addr} {fs : List (Str × V)} (x : XAt H e C fs) (s : ∀ b o, H b = some o → H' b = some o) : XAt H' e C fs := by
  cases x with
  | no h => exact .no (s _ _ h)
  | «at» h hd => exact .at (s _ _ h) (s _ _ hd)

section
variable {X : Cx} {pins : List (Addr × Obj)} {σ : L2.St} {H : Hp} {s : Shared} {e C : Addr} {fs : List (Str × V)}
theorem XAt.inst (I : Inv X pins σ H s) (x : XAt H e C fs) : ∃ ox od, PySem.W.InstAt s.heap e ox C od ∧ ∀ f : Str, (fs.lookup f = none → PySem.W.shadowIn od f = some false) ∧ ∀ v, fs.lookup f = some v → ∃ o u, od = some o ∧ PySem.W.lookIn f o = some (some u) ∧ RelV v u := by
  cases x with
  | no h =>
    obtain ⟨t1, ho⟩ := exo_at I.hok h
    exact ⟨_, none, ⟨ho, rfl, rfl, trivial⟩, fun f => ⟨fun _ => rfl, fun v z => by cases z⟩⟩
  | @«at» d fs h hd =>
    obtain ⟨t1, ho⟩ := exo_at I.hok h
    obtain ⟨mA, hns, rel⟩ := exd_at I.hok hd
    obtain ⟨od, hod, hl⟩ := lookIn_ns hns
    refine ⟨_, some od, ⟨ho, rfl, rfl, hod⟩, fun f => ⟨fun z => ?_, fun v z => ?_⟩⟩
    · have hn : mA f = none := RelO.none_of (by rw [← z]; exact rel f)
      show (PySem.W.lookIn f od).map (·.isSome) = some false
      rw [hl, hn] <;> rfl
    · obtain ⟨u, hu, ru⟩ := RelO.some_of (v := v) (o := mA f) (by rw [← z]; exact rel f)
      exact ⟨od, u, rfl, by rw [hl, hu], ru⟩
/-- e.f -/
theorem x_get {f : Str} {b : Bool} {v : V} {Q : VK} (I : Inv X pins σ H s) (x : XAt H e C fs) (T : XCls X.K C) (hno : PySem.W.findIn X.K (.ref C) f = some none) (hl : fs.lookup f = some v) (q : Q v H) :
    wpAny (model X.prog X.w) X.A (getAttr (.ref e) f b) (EP X pins σ Q) X.xe s := by
  obtain ⟨ox, od, J, hf⟩ := x.inst I
  obtain ⟨o, u, rfl, lk, ru⟩ := (hf f).2 v hl
  exact HandSPX.exc_get I.kIn J T.ga T.gt T.ox.exC (PySem.W.findObj_own T.hd hno rfl lk) (handed_of ru) ⟨v, H, I.tok _, ru, q⟩
/-- e.m, to be called -/
theorem x_meth {K : PySem.W.Frag} {prog : Program} {w : World} {A : Around} {E : Value → Shared → Prop} {x : Addr} {ox : Obj} {od : Option Obj} {f : Addr} {name : Str} {pl : Sem Bool} {Q : Value × List Value → Shared → Prop} (Y : K.In s.heap) (I : PySem.W.InstAt s.heap x ox C od)
    (hga : PySem.W.findIn K (.ref C) "__getattribute__" = some (some (.builtin "BaseException.__getattribute__"))) (hk : PySem.W.findIn K (.ref C) "__getattr__" = some none) (hf : PySem.W.findIn K (.ref C) name = some (some (.ref f))) (ht : PySem.W.typeIn K (.ref f) = some (.type "function"))
    (hs : PySem.W.shadowIn od name = some false) (h : Q (.ref f, [.ref x]) s) : wpAny (model prog w) A (getMethod (.ref x) name pl) Q E s := by
  have c0 : (Manifest.canonical "BaseException.__getattribute__" != "object.__getattribute__") = false := by decide +kernel
  have hd := I.dict
  unfold getMethod specialOf
  refine wpAny_bind (wpAny_bind (I.type.here ((PySem.W.looks_findIn Y hga).here ?_))); dsimp only; rw [c0, if_neg (by decide)]
  refine wpAny_bind (wpAny_bind (I.type.here ((PySem.W.looks_findIn Y hk).here ?_))); refine wpAny_bind (wpAny_bind (I.type.here ((PySem.W.looks_findIn Y hf).here (wpAny_bind ((PySem.W.looks_typeIn Y ht).here ?_))))); rw [if_neg (by decide +kernel)]
  refine wpAny_bind (wpAny_loadPart I.at_ ?_)
  cases q : ox.dict with
  | none => exact wpAny_bind (wpAny_rule (wpAny_pure h))
  | some dx =>
    cases od with
    | none => rw [q] at hd; exact hd.elim
    | some o =>
      rw [q] at hd
      obtain ⟨r, a, b⟩ := Option.map_eq_some_iff.mp hs
      refine wpAny_bind (wpAny_bind (wpAny_loadPart hd ?_)); rw [PySem.W.nsLook_of a]; refine wpAny_pure ?_; rw [b]
      exact wpAny_bind (wpAny_rule (wpAny_pure h))
end
end My

namespace My
open PySem PySem.Spec PyProof.Rows L2 PySem.Calls
section
variable {X : Cx} {pins : List (Addr × Obj)} {σ : L2.St} {H : Hp} {s : Shared} {e C : Addr} {fs : List (Str × V)} {K : PySem.W.Frag}
theorem find_dataX {od : Option Obj} {name : Str} {a g : Value} (hc : (PySem.W.clsIn K C).isSome = true) (ha : PySem.W.findIn K (.ref C) name = some (some a)) (hg : PySem.W.specialIn K a "__get__" = some (some g)) (ht : PySem.W.takesIn K a = some true) :
    PySem.W.findObj K C od name = some (.bind g a) := by
  obtain ⟨cd, hc⟩ := Option.isSome_iff_exists.mp hc
  unfold PySem.W.findObj
  rw [hc, Option.bind_some, ha, Option.bind_some]; simp [hg, ht]
theorem XCls.isCls (T : XCls K C) : (PySem.W.clsIn K C).isSome = true := by
  obtain ⟨cd, hc, _⟩ := PySem.W.any_some T.hd
  rw [hc]; rfl
theorem x_class {prog : Program} {w : World} {A : Around} {E : Value → Shared → Prop} {x : Addr} {ox : Obj} {od : Option Obj} {Q : Option Value → Shared → Prop} (T : XCls K C) (Y : K.In s.heap) (I : PySem.W.InstAt s.heap x ox C od)
    (h : Q (some (.ref C)) { s with toks := s.toks + 1 }) : wpAny (model prog w) A (getAttr? (.ref x) "__class__") Q E s := by
  have hf : PySem.W.findObj K C od "__class__" = some (.bind (.builtin "getset_descriptor.__get__") (.builtin "object.__class__")) := find_dataX T.isCls T.ca T.cn T.ct
  obtain ⟨hp, g, d, t, os⟩ := s
  have L0 := I.type (M := model prog w); have L1 := PySem.W.looks_findIn (M := model prog w) Y T.ga; have L2 := PySem.W.looks_findIn (M := model prog w) Y T.gt; have L3 := PySem.W.looks_find (M := model prog w) Y I hf
  have sub : PySem.W.Looks (model prog w) hp (isInstance (.ref x) (.type "BaseException")) true := L0.andThen (PySem.W.looks_subIn Y T.ox.exC)
  have n2 : (Value.builtin "BaseException.__getattribute__" == Value.builtin "object.__getattribute__") = false := by decide +kernel
  have n1 : (onTheHeap (Value.ref C) && Value.builtin "BaseException.__getattribute__" == Value.builtin "object.__getattribute__") = false := by rw [n2]; rfl
  unfold getAttr? getAttrBy? getAttrBy; refine wpAny_bind (wpAny_mkText (wpAny_bind (wpAny_attempt (wpAny_holding (wpAny_bind (L0.at (wpAny_bind (L1.at ?_))))))))
  change wpAny _ _ (if (onTheHeap (Value.ref C) && Value.builtin "BaseException.__getattribute__" == Value.builtin "object.__getattribute__") = true then _ else _) _ _ _
  rw [n1, if_neg Bool.false_ne_true]; unfold getAttrByItsOwn hookBefore; refine wpAny_bind ?_; rw [if_pos (show onTheHeap (Value.ref C) = true from rfl)]; refine L2.at ?_; refine wpAny_bind (wpAny_attempt (wpAny_holding ?_))
  unfold callGetattribute; rw [show (false && onTheHeap (Value.builtin "BaseException.__getattribute__")) = false from rfl, if_neg Bool.false_ne_true]; unfold boundAndCalled; rw [PySem.F.excAttr_ValueError.ga.bind (.ref x)]; refine wpAny_bind (wpAny_pure ?_)
  change wpAny _ _ (call (.builtin "BaseException.__getattribute__") [.ref x, .str "__class__" t]) _ _ _
  refine wpAny_call (codeAny_call_builtin PySem.F.excAttr_ValueError.ga.plain PySem.F.entry_bexc_ga (@PySem.W.check_slot (model prog w) _ _ ⟨hp, g, d, t + 1, os⟩ "BaseException.__getattribute__" "BaseException" "__getattribute__" (.ref x) [.str "__class__" t] [] _ (by decide +kernel) (by decide +kernel) sub (PySem.F.args_bexc_ga (.ref x) (.str "__class__" t)) ?_))
  unfold Builtin.«object.__getattribute__»; refine wpAny_bind (wpAny_of_eq (a := ((Value.ref x : Value), [Value.str "__class__" t])) (by first | rfl | (simp only [slotArgs]; rfl)) ?_); refine wpAny_bind (wpAny_pure (wpAny_bind (L0.at (wpAny_bind (L3.at ?_)))))
  change wpAny _ _ (holding [Value.builtin "object.__class__"] (call (.builtin "getset_descriptor.__get__") [.builtin "object.__class__", .ref x, .ref C]) >>= ret) _ _ _
  refine wpAny_bind (wpAny_holding (wpAny_call (PySem.W.class_get (s := ⟨hp, g, d, t + 1, os⟩) (ox := ox) (od := od) Y I T.cm (wpAny_pure ?_))))
  change wpAny _ _ (handedOut (.ref C)) _ _ _; rw [PySem.W.handedOut_of (v := .ref C) rfl]
  first
    | exact wpAny_pure (wpAny_pure h)
    | exact wpAny_pure h
    | exact wpAny_pure (wpAny_bind (wpAny_pure (wpAny_pure h)))
theorem x_kit {x : Addr} {ox : Obj} {od : Option Obj} (T : XCls K C) : PySem.W.KitX K (.ref x) (.ref C) (fun h => PySem.W.InstAt h x ox C od) where
  ty := fun _ _ _ I => I.type
  it := fun _ _ Y _ => by
    obtain ⟨cd, hc⟩ := Option.isSome_iff_exists.mp T.isCls
    unfold PySem.W.clsIn at hc; split at hc
    · rename_i ho
      intro A' Q' E' s' k q; unfold isType loadHead
      exact wpAny_bind (wpAny_loadPart (k _ _ (Y _ _ ho)) (wpAny_pure q))
    · cases hc
  ne := fun h tp dd its n sl Y htp => Bool.eq_false_iff.mpr fun q => by
    obtain ⟨cd, hc⟩ := Option.isSome_iff_exists.mp T.isCls
    have z : C = tp := Value.ref.inj (beq_iff_eq.mp q)
    subst z
    unfold PySem.W.clsIn at hc; split at hc
    · rename_i ho
      have z := (Y _ _ ho).symm.trans htp; cases z
    · cases hc
  ca := fun Y I k => x_class T Y I k

/-! ### rules -/
/-- e.f of a tracked exception -/
def tXf (K : PySem.W.Frag) (f : Str) (te : TE) : TE := fun σ H Q => te σ H fun x H1 => ∃ (e C : Addr) (fs : List (Str × V)) (v : V), x = .ref e ∧ XAt H1 e C fs ∧ XCls K C ∧ PySem.W.findIn K (.ref C) f = some none ∧ fs.lookup f = some v ∧ Q v H1
theorem pe_xfld {o : Expr} {te : TE} {f : Str} {pos : Pos} (he : PE X o te) (hb : attributeBase o f X.env (eval o X.env) = eval o X.env := by rfl) : PE X (.Attribute o f pos) (tXf X.K f te) := by
  refine ⟨fun pins s σ H Q I h => attr_of hb (thn (he.run pins s σ H _ I h) fun u s1 ⟨x, H1, I1, rx, e, C, fs, v, ex, hx, T, hno, hl, q⟩ => ?_)⟩
  subst ex
  obtain rfl : u = Value.ref e := rx
  exact x_get I1 hx T hno hl q
/-- e.m() of a tracked exception -/
def tXm (m : Str) (C : Addr) (sp : Sp) (E : XK) (te : TE) : TE := fun σ H Q => te σ H fun x H1 => ∃ (e : Addr) (fs : List (Str × V)), x = .ref e ∧ XAt H1 e C fs ∧ fs.lookup m = none ∧ sp [x] H1 Q E
theorem pe_xmeth {CX : CXT} {k : Nat} {f : Addr} {fd : FuncData} {ps : List Str} {sp : Sp} {E : XK} {o : Expr} {te : TE} {m : Str} {apos pos : Pos} {pl : Sem Bool} (T : XCls X.K C) (he : PE X o te) (hf : PySem.W.findIn X.K (.ref C) m = some (some (.ref f))) (ht : PySem.W.typeIn X.K (.ref f) = some (.type "function")) (hk : PySem.W.keepIn X.K (.ref f) = true)
    (F : FnOk X.prog X.w X.K X.mg X.base CX k f fd ps sp) (hr : Room k X.A) (hb : Binds X.K fd ps []) (hx : Passes CX X E)
    (hq : eval (.Call (.Attribute o m apos) [] [] pos) X.env = (do
      let ov ← eval o X.env
      standAt apos.atName
      let (f, first) ← holding [ov] (getMethod ov m pl)
      callWith pos f first (backTo pos (starEach [] X.env)) (backToKw pos (keywordEach [] X.env))) := by rfl) : PE X (.Call (.Attribute o m apos) [] [] pos) (tXm m C sp E te) := by
  refine ⟨fun pins s σ H Q I h => PySem.W.methodCall_KW (pl := pl) (thn (he.run pins s σ H _ I h) fun u s1 ⟨x, H1, I1, rx, e, fs, ex, ha, hl, q⟩ => ?_) hq⟩
  subst ex
  obtain rfl : u = Value.ref e := rx
  obtain ⟨ox, od, J, hf2⟩ := ha.inst I1
  refine x_meth I1.kIn J T.ga T.gt hf ht ((hf2 m).1 hl) (PySem.W.callWith_K0 (first := [.ref e]) I1.kIn hk ?_)
  exact run_fn (us := [.ref e]) (vs := [.ref e]) F hr hb .nil hx I1 (.cons rfl .nil) (by rw [List.append_nil]; exact q)
/-- isinstance(e, c), c one class -/
def rIsX (K : PySem.W.Frag) : List V → Hp → VK → Prop := fun xs H Q => ∃ (e C : Addr) (fs : List (Str × V)) (c : V) (cv : Value) (b : Bool), xs = [.ref e, c] ∧ XAt H e C fs ∧ XCls K C ∧ (∀ u, RelV c u → u = cv) ∧ PySem.W.kitOne K (.ref C) cv = some b ∧ Q (.bl b) H
theorem call_isX : CallR X (.builtin "isinstance") (rIsX X.K) := by
  intro pins s σ H xs us Q I r h
  obtain ⟨e, C, fs, c, cv, b, rfl, hx, T, hcv, hk, q⟩ := h
  obtain ⟨u1, u2, rfl, r1, r2⟩ := r.two
  cases (show u1 = Value.ref e from r1)
  have ec := hcv _ r2
  subst ec
  obtain ⟨ox, od, J, _⟩ := hx.inst I
  exact PySem.W.kia_one (x_kit T) I.kIn J hk (fun z => nomatch z) fun tk => ⟨.bl b, H, I.tok _, rfl, q⟩
/-- isinstance(e, (c, d, ..)) -/
def rIsXT (K : PySem.W.Frag) : List V → Hp → VK → Prop := fun xs H Q => ∃ (e C t : Addr) (fs : List (Str × V)) (cs : List V) (cv : List Value) (b : Bool), xs = [.ref e, .ref t] ∧ XAt H e C fs ∧ XCls K C ∧ H t = some (.tup cs) ∧ (∀ us, Vals cs us → us = cv) ∧ PySem.W.kitAny K (.ref C) cv = some b ∧ Q (.bl b) H
theorem call_isXT : CallR X (.builtin "isinstance") (rIsXT X.K) := by
  intro pins s σ H xs us Q I r h
  obtain ⟨e, C, t, fs, cs, cv, b, rfl, hx, T, ht, hcv, hk, q⟩ := h
  obtain ⟨u1, u2, rfl, r1, r2⟩ := r.two
  cases (show u1 = Value.ref e from r1)
  cases (show u2 = Value.ref t from r2)
  obtain ⟨ox, od, J, _⟩ := hx.inst I
  obtain ⟨its, hv, htp, _⟩ := I.tuple (SqT.of ht)
  have ec := hcv _ hv
  subst ec
  obtain ⟨o, ho, hc, n, hd⟩ := htp
  obtain ⟨oc, dd, dat, sl⟩ := o
  dsimp only at hc hd
  subst hc hd
  exact PySem.W.kia_tup (x_kit T) I.kIn J ho hk (fun z => nomatch z) fun tk => ⟨.bl b, H, I.tok _, rfl, q⟩

/-! ### making one -/
/-- C(e, ..), C's own __init__ keeping sp; the exception is held -/
def tMkI (C : Addr) (sp : Sp) (ta : TA) : TE := fun σ H Q => ta σ H fun vs H1 => vs.length ≤ 1000 ∧ ∀ a, H1 a = none → sp (.ref a :: vs) (upd H1 a (exo a C none)) (fun v H2 => v = .non ∧ Q (.ref a) H2) (fun _ _ _ => False)
theorem pe_excI {CX : CXT} {x : Str} {fI : Addr} {k : Nat} {fd : FuncData} {ps : List Str} {sp : Sp} {e : Expr} {es : List Expr} {ta : TA} {p pos : Pos} (T : OexC X.K C) (iC : PySem.W.findIn X.K (.ref C) "__init__" = some (some (.ref fI))) (tI : PySem.W.typeIn X.K (.ref fI) = some (.type "function"))
    (F1 : FnOk X.prog X.w X.K X.mg X.base CX k fI fd ps sp) (hr : Room (k + 1) X.A) (hb : Binds X.K fd ps []) (hx : Passes CX X (fun _ _ _ => False)) (hm : X.mg x = some (.ref C)) (ha : PA X (e :: es) ta) (hg : Gl X x := by rfl)
    (hdb : (x == ("__debug__" : Str)) = false := by decide) (he : starEach (e :: es) X.env = (false, eval e X.env) :: starEach es X.env := by rfl) (hpl : (backTo pos (starEach es X.env)).any (·.1) = false := by rfl) :
    PE X (.Call (.Name x p) (e :: es) [] pos) (tMkI C sp ta) := by
  refine ⟨fun pins s σ H Q I h => ?_⟩
  obtain ⟨nm, q, N, bs, bm, sn, sub, ab, col, dd, k0, k1, k2, k3, k5, hC, hbm⟩ := T.cls
  refine wpAny_Call_Name_kw (ld_glob I hg hm (PySem.W.callWith_K (h₀ := X.base) I.ok.mod.kin T.kC (thn (ha.run pos pins s σ H _ I h) fun us s1 ⟨vs, H1, I1, r1, hz, q1⟩ => ⟨I1.kIn, ?_⟩) he hpl) hdb)
  change wpAny _ _ (call (.ref C) us) _ _ _
  obtain ⟨hp, g, dw, tk, os⟩ := s1
  have hsz : hp.objs.size ≤ hp.objs.size + 1 := Nat.le_succ _
  have hn : H1 (hp.objs.size + 1) = none := I1.hok.fresh hsz
  have hq := q1 (hp.objs.size + 1) hn
  have kk : ∀ b o, hp.get? b = some o → ((hp.push (PySem.W.kdv_tup us)).push (PySem.HandSPX.excO C hp.objs.size)).get? b = some o := fun b o z => Heap.get?_push_of_some _ (Heap.get?_push_of_some _ z)
  have hget : ((hp.push (PySem.W.kdv_tup us)).push (PySem.HandSPX.excO C hp.objs.size)).get? (hp.objs.size + 1) = some (PySem.HandSPX.excO C hp.objs.size) := by heap_get
  have I2 := I1.laid (t' := tk) (a := hp.objs.size + 1) (o := exo (hp.objs.size + 1) C none) (h' := (hp.push (PySem.W.kdv_tup us)).push (PySem.HandSPX.excO C hp.objs.size)) kk hsz (exo_ok hget)
  have r2 : Vals (V.ref (hp.objs.size + 1) :: vs) (Value.ref (hp.objs.size + 1) :: us) := .cons rfl r1
  have hl : (Value.ref (hp.objs.size + 1) :: us).length = ps.length := by rw [← F1.len _ _ _ _ hq]; exact r2.length.symm
  have hus : us.length ≤ sizeLine := by rw [← Paired.length r1, sizeLine_eq]; omega
  refine wpAny_call (PySem.HandSPX.call_own F.excBase_ValueError (fun Y => PySem.HandSPX.refsVE_contains Y bm hbm) (I1.kIn _ _ hC) (PySem.W.looks_findIn I1.kIn iC) (fun self => PySem.W.bind_fn I1.kIn self tI) hus (codeAny_mono (F1.run _ X.stack _ _ ⟨Value.ref (hp.objs.size + 1) :: us, []⟩ (Value.ref (hp.objs.size + 1) :: us) _ _ (fun _ _ _ => False) (hr.make C us []) (I2.env0.make C us []) (by have z := hb _ (Value.ref (hp.objs.size + 1) :: us) I2.kIn (by rw [List.append_nil]; exact hl); rw [List.append_nil] at z; exact z) r2 hq) fun r s' hq' => ?_))
  cases r with
  | error er => exact hx pins σ _ _ er s' I2 hq'
  | ok fl =>
    cases fl with
    | ret u =>
      obtain ⟨v, H2, os2, bare2, un2, hok2, rv, ev, q2⟩ := hq'
      subst ev
      refine ⟨rv, .ref (hp.objs.size + 1), H2, ?_, rfl, q2⟩
      exact I2.call' (ch := []) os2 un2 hok2 bare2 (fun b z => absurd z (by simp))
    | next => exact False.elim hq'
    | brk => exact False.elim hq'
    | cont => exact False.elim hq'
/-- C(), an own exception class without own __init__ -/
def tMk0 (C : Addr) : TE := fun _ H Q => ∀ a, H a = none → Q (.ref a) (upd H a (exo a C none))
theorem pe_exc0 {x : Str} {p pos : Pos} (q : PySem.W.excIn X.K C He.veBase "ValueError.__new__" = true) (kC : PySem.W.keepIn X.K (.ref C) = true) (gC : X.mg x = some (.ref C)) (hg : Gl X x := by rfl) (hdb : (x == ("__debug__" : Str)) = false := by decide) : PE X (.Call (.Name x p) [] [] pos) (tMk0 C) := by
  refine ⟨fun pins s σ H Q I h => wpAny_Call_Name_kw (ld_glob I hg gC (PySem.W.callWith_K0 (first := []) I.kIn kC ?_) hdb)⟩
  obtain ⟨bm, N, nm, qn, bs, hdct, sn, sub, ab, col, dd, k0, k1, k2, k3, k5, mN, hC, hN, hni, T⟩ := exc_obj I.kIn q
  refine wpAny_call_exc_subT F.excBase_ValueError T hC hN hni (fun h' a hm => ?_) (by show 0 ≤ sizeLine; omega)
  have hn : H a = none := I.hok.gone hm.new
  obtain ⟨t, ht, _, _⟩ := hm.there
  exact ⟨.ref a, _, I.laidN hm.keeps hm.new hn (exo_ok ht), rfl, h a hn⟩
end
end My

namespace My
open PySem PySem.Spec PyProof.Rows L2 PySem.Calls

/-! ### a hook of facts with one more Bool -/
def obsM (fa : List He.Fa) (fn : List He.DefD) (ex : PySem.W.Frag → Bool) (K : PySem.W.Frag) : He.AlD := (ex K && (He.obsD fa fn K).1, (He.obsD fa fn K).2)
def obsMG (n : Nat) (fa : List He.Fa) (fn : List He.DefD) (ex : PySem.W.Frag → Bool) (g : Addr → Option Obj) : He.AlD := obsM fa fn ex (He.frG g (He.asD g n))
def hookM (n : Nat) (fa : List He.Fa) (fn : List He.DefD) (ex : PySem.W.Frag → Bool) : PySem.W.Hook where
  α := He.AlD
  obs := fun s => obsMG n fa fn ex s.heap.get?
  val := fun _ => He.valD fn
  says := fun _ h => ∃ K : PySem.W.Frag, K.In h ∧ obsM fa fn ex K = He.valD fn
  of := fun _ _ z => ⟨_, He.frG_in, z⟩
  keeps := fun _ _ _ ⟨K, kin, z⟩ k => ⟨K, kin.keeps k, z⟩
theorem obsMG_eq {n : Nat} {fa : List He.Fa} {fn : List He.DefD} {ex : PySem.W.Frag → Bool} {g : Addr → Option Obj} {s : Shared} (h : ∀ a, g a = s.heap.get? a) : obsMG n fa fn ex g = (hookM n fa fn ex).obs s := by
  rw [show g = s.heap.get? from funext h]; rfl
/-- what the walks lean on -/
structure Ctx (fa : List He.Fa) (fn : List He.DefD) (ex : PySem.W.Frag → Bool) (K : PySem.W.Frag) (mg : Str → Option Value) : Prop where
  h : ∃ h : Heap, K.In h ∧ h.Ns mainGlobals mg
  d : He.SaysD fa fn K
  e : ex K = true
theorem ctx_of {fa : List He.Fa} {fn : List He.DefD} {ex : PySem.W.Frag → Bool} {K : PySem.W.Frag} {mg : Str → Option Value} {h : Heap} (X : K.In h) (G : h.Ns mainGlobals mg) (z : obsM fa fn ex K = He.valD fn) : Ctx fa fn ex K mg := by
  have z1 : (ex K && (He.obsD fa fn K).1) = true := congrArg (fun y : He.AlD => y.1) z
  have z2 : (He.obsD fa fn K).2 = fn.map He.DefD.val := congrArg (fun y : He.AlD => y.2) z
  obtain ⟨e1, e2⟩ := Bool.and_eq_true_iff.mp z1
  exact ⟨⟨h, X, G⟩, Prod.ext e2 z2, e1⟩
section
variable {fa : List He.Fa} {fn : List He.DefD} {ex : PySem.W.Frag → Bool} {K : PySem.W.Frag} {mg : Str → Option Value}
theorem Ctx.glo (Z : Ctx fa fn ex K mg) {x : Str} (i : Nat) (h : fa[i]? = some (.glo x) := by rfl) : mg x = some (.ref (He.ga K x)) := let ⟨_, X, G⟩ := Z.h; He.glo_ok X G (Z.d.fact i h)
theorem Ctx.free (Z : Ctx fa fn ex K mg) {x : Str} (i : Nat) (h : fa[i]? = some (.free x) := by rfl) : mg x = none := let ⟨_, X, G⟩ := Z.h; He.free_ok X G (Z.d.fact i h)
end

/-! ### a def of the module, by its promise -/
structure GoodF (CX : CXT) (P : Program) (w : World) (K : PySem.W.Frag) (mg : Str → Option Value) (base : Heap) (k : Nat) (x : Str) (ps : List Str) (sp : Sp) : Prop where
  g : mg x = some (.ref (He.ga K x))
  fn : ∃ fd, FnOk P w K mg base CX k (He.ga K x) fd ps sp ∧ Binds K fd ps []
  kp : PySem.W.keepIn K (.ref (He.ga K x)) = true
theorem gcall {X : Cx} {CX : CXT} {E : XK} {k k' : Nat} {x : Str} {ps : List Str} {sp : Sp} {e : Expr} {es : List Expr} {t : TA} {p pos : Pos} (G : GoodF CX X.prog X.w X.K X.mg X.base k x ps sp) (hr : Room k' X.A) (ha : PA X (e :: es) t) (hx : Passes CX X E) (hk : k ≤ k' := by decide) (hg : Gl X x := by rfl)
    (hdb : (x == ("__debug__" : Str)) = false := by decide) (he : starEach (e :: es) X.env = (false, eval e X.env) :: starEach es X.env := by rfl) (hpl : (backTo pos (starEach es X.env)).any (·.1) = false := by rfl) :
    PE X (.Call (.Name x p) (e :: es) [] pos) (tCall sp [] E t) :=
  let ⟨_, F, B⟩ := G.fn
  pe_call F (hr.mono hk) hg G.g G.kp B .nil hx ha hdb he hpl
theorem Ctx.good {fa : List He.Fa} {fn : List He.DefD} {ex : PySem.W.Frag → Bool} {K : PySem.W.Frag} {mg : Str → Option Value} {CX : CXT} {P : Program} {w : World} {base : Heap} {k : Nat} {x : Str} {ps : List Str} {sp : Sp} (Z : Ctx fa fn ex K mg) (i j : Nat) (d : He.DefD)
    (hb : ∀ (kV doc pm : Value) (an : Option Addr) (cdv ct : Value) (us : List Value), us.length = ps.length → bindArgs (PySem.W.fnOf d.name d.qual d.params d.body d.scope .none kV doc pm an cdv ct) ⟨us, []⟩ = pure (ps.zip us))
    (ok : ∀ fd, FunD K d.name d.qual d.params d.body d.scope [] [] (He.ga K x) fd → FnOk P w K mg base CX k (He.ga K x) fd ps sp)
    (hd : fn[i]? = some d := by rfl) (hj : fa[j]? = some (.glo x) := by rfl) (hx : d.at_ = (x, none) := by rfl) (hdf : d.dfl = [] := by rfl) (hkw : d.kwd = [] := by rfl) : GoodF CX P w K mg base k x ps sp := by
  obtain ⟨fd, F⟩ := Z.d.def_ i hd
  have e1 : d.dvs K = [] := by unfold He.DefD.dvs; rw [hdf]; rfl
  have e2 : d.kws K = [] := by unfold He.DefD.kws; rw [hkw]; rfl
  have e3 : He.fAd K d.at_ = He.ga K x := by rw [hx]; rfl
  rw [e1, e2, e3] at F
  exact ⟨Z.glo j hj, ⟨fd, ok fd F, F.bindsN hb⟩, F.kp⟩

/-! ### told, __init__ of an exception class -/
section
variable {P : Program} {w : World} {K : PySem.W.Frag} {mg : Str → Option Value} {base : Heap} {f : Addr} {fd : FuncData} {qual nm : Str} {pa : Arguments} {sc : Scope}
def spTold (z : Str) : Sp := fun vs H Q _ => ∃ a, vs = [.ref a] ∧ Q (.str z) H
theorem ok_told {z : Str} {j : Nat} {p p2 : Pos} {body : List Stmt} (F : FunD K nm qual pa body sc [] [] f fd) (S : FnScope ["self"] ["self"] sc) (hb : body = [.Return (some (.Constant (.str z) j p)) p2] := by rfl) : FnOk P w K mg base CX0 1 f fd ["self"] (spTold z) := by
  subst hb
  refine F.ok S (fun vs H Q E h => ?_) (fun cdv A outer s H vs Q E hr h => ⟨_, pss_one (ps_ret pe_str), ?_⟩)
  · obtain ⟨a, rfl, _⟩ := h
    rfl
  · obtain ⟨a, rfl, q⟩ := h
    exact q
/-- __init__(self, g): self.g = g -/
def spIni1 (K : PySem.W.Frag) (C : Addr) (g : Str) : Sp := fun vs H Q _ => ∃ a v, vs = [.ref a, v] ∧ H a = some (exo a C none) ∧ ∀ d, H d = none → d ≠ a → Q .non (upd (upd H d (exd d [(g, v)])) a (exo a C (some d)))
theorem ok_ini1 {C : Addr} {g y : Str} {p1 p2 p3 p4 : Pos} {body : List Stmt} (F : FunD K nm qual pa body sc [] [] f fd) (T : XCls K C) (S : FnScope ["self", y] ["self", y] sc) (no : PySem.W.findIn K (.ref C) g = some none)
    (v0 : Vis sc "self" := by first | exact Or.inl rfl | exact Or.inr (Or.inl rfl)) (v1 : Vis sc y := by first | exact Or.inl rfl | exact Or.inr (Or.inl rfl)) (hy : (y == ("__debug__" : Str)) = false := by decide) (hy2 : (y == ("__classdict__" : Str)) = false := by decide)
    (hb : body = [.Assign [.Attribute (.Name "self" p1) g p2] (.Name y p3) p4] := by rfl) : FnOk P w K mg base CX0 1 f fd ["self", y] (spIni1 K C g) := by
  subst hb
  refine F.ok S (fun vs H Q E h => ?_) (fun cdv A outer s H vs Q E hr h => ⟨_, pss_one (ps_ost (pe_var (i := 0) rfl v0) (pe_var (i := 1) rfl v1 hy hy2)), ?_⟩)
  · obtain ⟨a, v, rfl, _⟩ := h
    rfl
  · obtain ⟨a, v, rfl, ha, q⟩ := h
    exact ⟨v, rfl, _, rfl, a, C, rfl, T.ox, no, .inl ⟨ha, fun dx n ne => q dx n ne⟩⟩
/-- __init__(self, g, h): self.g = g; self.h = h -/
def spIni2 (K : PySem.W.Frag) (C : Addr) (g h : Str) : Sp := fun vs H Q _ => ∃ a v u, vs = [.ref a, v, u] ∧ H a = some (exo a C none) ∧ ∀ d, H d = none → d ≠ a → Q .non (upd (upd (upd H d (exd d [(g, v)])) a (exo a C (some d))) d (exd d [(h, u), (g, v)]))
theorem ok_ini2 {C : Addr} {g h y z : Str} {p1 p2 p3 p4 p5 p6 p7 p8 : Pos} {body : List Stmt} (F : FunD K nm qual pa body sc [] [] f fd) (T : XCls K C) (S : FnScope ["self", y, z] ["self", y, z] sc) (no : PySem.W.findIn K (.ref C) g = some none) (no2 : PySem.W.findIn K (.ref C) h = some none)
    (v0 : Vis sc "self" := by first | exact Or.inl rfl | exact Or.inr (Or.inl rfl)) (v1 : Vis sc y := by first | exact Or.inl rfl | exact Or.inr (Or.inl rfl)) (v2 : Vis sc z := by first | exact Or.inl rfl | exact Or.inr (Or.inl rfl))
    (hy : (y == ("__debug__" : Str)) = false := by decide) (hy2 : (y == ("__classdict__" : Str)) = false := by decide) (hz : (z == ("__debug__" : Str)) = false := by decide) (hz2 : (z == ("__classdict__" : Str)) = false := by decide)
    (hb : body = [.Assign [.Attribute (.Name "self" p1) g p2] (.Name y p3) p4, .Assign [.Attribute (.Name "self" p5) h p6] (.Name z p7) p8] := by rfl) : FnOk P w K mg base CX0 1 f fd ["self", y, z] (spIni2 K C g h) := by
  subst hb
  refine F.ok S (fun vs H Q E h => ?_) (fun cdv A outer s H vs Q E hr h => ⟨_, pss_cons (ps_ost (pe_var (i := 0) rfl v0) (pe_var (i := 1) rfl v1 hy hy2)) (pss_one (ps_ost (pe_var (i := 0) rfl v0) (pe_var (i := 2) rfl v2 hz hz2))), ?_⟩)
  · obtain ⟨a, v, u, rfl, _⟩ := h
    rfl
  · obtain ⟨a, v, u, rfl, ha, q⟩ := h
    refine ⟨v, rfl, _, rfl, a, C, rfl, T.ox, no, .inl ⟨ha, fun dx n ne => ?_⟩⟩
    refine ⟨u, rfl, _, rfl, a, C, rfl, T.ox, no2, .inr ⟨dx, _, upd_same, ?_, (by show 1 ≤ 900; decide), q dx n ne⟩⟩
    rw [upd_ne ne, upd_same]
end
end My

namespace My
open PySem PySem.Spec PyProof.Rows L2 PySem.Calls

theorem rel_ref (a : Addr) : RelV (.ref a) (Value.ref a) := rfl
theorem rel_ty (n : String) : RelV (.ty n) (Value.type n) := rfl
theorem boot_isinstance : bootBuiltins "isinstance" = some (.builtin "isinstance") := by decide +kernel
theorem boot_abs : bootBuiltins "abs" = some (.builtin "abs") := by decide +kernel
theorem boot_all : bootBuiltins "all" = some (.builtin "all") := by decide +kernel
theorem boot_int : bootBuiltins "int" = some (.type "int") := by decide +kernel
theorem boot_bool : bootBuiltins "bool" = some (.type "bool") := by decide +kernel
theorem boot_str : bootBuiltins "str" = some (.type "str") := by decide +kernel

/-! ### a method of an exception class whose class is not written -/
structure XMeth (P : Program) (w : World) (K : PySem.W.Frag) (mg : Str → Option Value) (base : Heap) (C : Addr) (m : Str) (f : Addr) (z : Str) : Prop where
  c : XCls K C
  at_ : PySem.W.findIn K (.ref C) m = some (some (.ref f))
  ty : PySem.W.typeIn K (.ref f) = some (.type "function")
  kp : PySem.W.keepIn K (.ref f) = true
  fn : ∃ fd, FnOk P w K mg base CX0 1 f fd ["self"] (spTold z) ∧ Binds K fd ["self"] []
def tXmV (X : Cx) (m : Str) (te : TE) : TE := fun σ H Q => te σ H fun x H1 => ∃ (e C f : Addr) (fs : List (Str × V)) (z : Str), x = .ref e ∧ XAt H1 e C fs ∧ fs.lookup m = none ∧ XMeth X.prog X.w X.K X.mg X.base C m f z ∧ Q (.str z) H1
theorem pe_xmethV {X : Cx} {k : Nat} {o : Expr} {te : TE} {m : Str} {apos pos : Pos} {pl : Sem Bool} (hr : Room k X.A) (he : PE X o te) (hk : 1 ≤ k := by decide)
    (hq : eval (.Call (.Attribute o m apos) [] [] pos) X.env = (do
      let ov ← eval o X.env
      standAt apos.atName
      let (f, first) ← holding [ov] (getMethod ov m pl)
      callWith pos f first (backTo pos (starEach [] X.env)) (backToKw pos (keywordEach [] X.env))) := by rfl) : PE X (.Call (.Attribute o m apos) [] [] pos) (tXmV X m te) := by
  refine ⟨fun pins s σ H Q I h => PySem.W.methodCall_KW (pl := pl) (thn (he.run pins s σ H _ I h) fun u s1 ⟨x, H1, I1, rx, e, C, f, fs, z, ex, ha, hl, M, q⟩ => ?_) hq⟩
  subst ex
  obtain rfl : u = Value.ref e := rx
  obtain ⟨ox, od, J, hf2⟩ := ha.inst I1
  obtain ⟨fd, F, B⟩ := M.fn
  refine x_meth I1.kIn J M.c.ga M.c.gt M.at_ M.ty ((hf2 m).1 hl) (PySem.W.callWith_K0 (first := [.ref e]) I1.kIn M.kp ?_)
  exact run_fn (us := [.ref e]) (vs := [.ref e]) F (hr.mono hk) B .nil pass0 I1 (.cons rfl .nil) ⟨e, rfl, q⟩

theorem isFn_ty {K : PySem.W.Frag} {f : Addr} (h : PySem.W.isFn K (.ref f) = true) : PySem.W.typeIn K (.ref f) = some (.type "function") := beq_iff_eq.mp h
theorem told_of {P : Program} {w : World} {K : PySem.W.Frag} {mg : Str → Option Value} {base : Heap} {C f : Addr} {q z : Str} {pa : Arguments} {body : List Stmt} {sc : Scope} {j : Nat} {p p2 : Pos} (T : XCls K C) (me : Meth K C "told" f) (F : ∃ fd, FunD K "told" q pa body sc [] [] f fd)
    (S : FnScope ["self"] ["self"] sc) (hb : body = [.Return (some (.Constant (.str z) j p)) p2]) (bind : ∀ (kV doc pm : Value) (an : Option Addr) (cdv ct : Value) (us : List Value), us.length = 1 → bindArgs (PySem.W.fnOf "told" q pa body sc .none kV doc pm an cdv ct) ⟨us, []⟩ = pure ((["self"] : List Str).zip us)) : XMeth P w K mg base C "told" f z :=
  let ⟨fd, F⟩ := F
  ⟨T, me.at_, isFn_ty me.fn, me.kp, fd, ok_told F S hb, F.bindsN bind⟩
section
variable {X : Cx} {x g h y z q : Str} {pa : Arguments} {sc : Scope} {body : List Stmt} {p1 p2 p3 p4 p5 p6 p7 p8 p pos : Pos} {f : Addr} {e : Expr} {es : List Expr} {t : TA} {k : Nat}
theorem mk_ini1 (T : XCls X.K (He.ga X.K x)) (no : PySem.W.findIn X.K (.ref (He.ga X.K x)) g = some none) (gl : X.mg x = some (.ref (He.ga X.K x))) (me : Meth X.K (He.ga X.K x) "__init__" f) (F : ∃ fd, FunD X.K "__init__" q pa body sc [] [] f fd) (S : FnScope ["self", y] ["self", y] sc)
    (hb : body = [.Assign [.Attribute (.Name "self" p1) g p2] (.Name y p3) p4]) (v0 : Vis sc "self") (v1 : Vis sc y) (hy : (y == ("__debug__" : Str)) = false) (hy2 : (y == ("__classdict__" : Str)) = false)
    (bind : ∀ (kV doc pm : Value) (an : Option Addr) (cdv ct : Value) (us : List Value), us.length = 2 → bindArgs (PySem.W.fnOf "__init__" q pa body sc .none kV doc pm an cdv ct) ⟨us, []⟩ = pure ((["self", y] : List Str).zip us)) (hdb : (x == ("__debug__" : Str)) = false)
    (hr : Room k X.A) (ha : PA X (e :: es) t) (hk : 2 ≤ k := by decide) (hg : Gl X x := by rfl) (he : starEach (e :: es) X.env = (false, eval e X.env) :: starEach es X.env := by rfl) (hpl : (backTo pos (starEach es X.env)).any (·.1) = false := by rfl) :
    PE X (.Call (.Name x p) (e :: es) [] pos) (tMkI (He.ga X.K x) (spIni1 X.K (He.ga X.K x) g) t) := by
  obtain ⟨fd, F⟩ := F
  exact pe_excI T.ox me.at_ (isFn_ty me.fn) (ok_ini1 F T S no v0 v1 hy hy2 hb) (hr.mono hk) (F.bindsN bind) pass0 gl ha hg hdb he hpl
theorem mk_ini2 (T : XCls X.K (He.ga X.K x)) (no : PySem.W.findIn X.K (.ref (He.ga X.K x)) g = some none) (no2 : PySem.W.findIn X.K (.ref (He.ga X.K x)) h = some none) (gl : X.mg x = some (.ref (He.ga X.K x))) (me : Meth X.K (He.ga X.K x) "__init__" f) (F : ∃ fd, FunD X.K "__init__" q pa body sc [] [] f fd) (S : FnScope ["self", y, z] ["self", y, z] sc)
    (hb : body = [.Assign [.Attribute (.Name "self" p1) g p2] (.Name y p3) p4, .Assign [.Attribute (.Name "self" p5) h p6] (.Name z p7) p8]) (v0 : Vis sc "self") (v1 : Vis sc y) (v2 : Vis sc z) (hy : (y == ("__debug__" : Str)) = false) (hy2 : (y == ("__classdict__" : Str)) = false) (hz : (z == ("__debug__" : Str)) = false) (hz2 : (z == ("__classdict__" : Str)) = false)
    (bind : ∀ (kV doc pm : Value) (an : Option Addr) (cdv ct : Value) (us : List Value), us.length = 3 → bindArgs (PySem.W.fnOf "__init__" q pa body sc .none kV doc pm an cdv ct) ⟨us, []⟩ = pure ((["self", y, z] : List Str).zip us)) (hdb : (x == ("__debug__" : Str)) = false)
    (hr : Room k X.A) (ha : PA X (e :: es) t) (hk : 2 ≤ k := by decide) (hg : Gl X x := by rfl) (he : starEach (e :: es) X.env = (false, eval e X.env) :: starEach es X.env := by rfl) (hpl : (backTo pos (starEach es X.env)).any (·.1) = false := by rfl) :
    PE X (.Call (.Name x p) (e :: es) [] pos) (tMkI (He.ga X.K x) (spIni2 X.K (He.ga X.K x) g h) t) := by
  obtain ⟨fd, F⟩ := F
  exact pe_excI T.ox me.at_ (isFn_ty me.fn) (ok_ini2 F T S no no2 v0 v1 v2 hy hy2 hz hz2 hb) (hr.mono hk) (F.bindsN bind) pass0 gl ha hg hdb he hpl
end

/-! ### rules that ask one thing -/
section
variable {X : Cx}
def rLenL (K : PySem.W.Frag) : List V → Hp → VK → Prop := fun xs H Q => ∃ p ys, xs = [.ref p] ∧ SqL K H p ys ∧ Q (.int ys.length) H
def rLenT (K : PySem.W.Frag) : List V → Hp → VK → Prop := fun xs H Q => ∃ p ys, xs = [.ref p] ∧ SqT K H p ys ∧ Q (.int ys.length) H
theorem call_lenL : CallR X (.builtin "len") (rLenL X.K) := fun pins s σ H xs us Q I r ⟨p, ys, e, h, q⟩ => call_len_seq pins s σ H xs us Q I r ⟨p, ys, e, .inl h, q⟩
theorem call_lenT : CallR X (.builtin "len") (rLenT X.K) := fun pins s σ H xs us Q I r ⟨p, ys, e, h, q⟩ => call_len_seq pins s σ H xs us Q I r ⟨p, ys, e, .inr h, q⟩
def rIntI : List V → Hp → VK → Prop := fun xs H Q => ∃ i : Int, xs = [.int i] ∧ Q (.int i) H
def rIntB : List V → Hp → VK → Prop := fun xs H Q => ∃ k : Bool, xs = [.bl k] ∧ Q (.int (if k then 1 else 0)) H
theorem call_intI : CallR X (.type "int") rIntI := fun pins s σ H xs us Q I r h => call_int1 pins s σ H xs us Q I r (.inl h)
theorem call_intB : CallR X (.type "int") rIntB := fun pins s σ H xs us Q I r h => call_int1 pins s σ H xs us Q I r (.inr h)
end

/-! ### heaps -/
theorem same_new {H : Hp} {p : Addr} {o : HO} (h : H p = none) : Same H (upd H p o) := fun b u z => by rw [upd_ne (ne_of_none z h)]; exact z
theorem at_new {H : Hp} {p : Addr} {o : HO} : upd H p o p = some o := upd_same
/-- a new object: what follows is asked of any heap that holds it -/
theorem newly {H : Hp} {o : HO} {R : Addr → Hp → Prop} (h : ∀ p H', Same H H' → H' p = some o → H p = none → R p H') : ∀ p, H p = none → R p (upd H p o) := fun p hp => h p _ (same_new hp) upd_same hp
end My

namespace My
open PySem PySem.Spec PyProof.Rows L2 PySem.Calls
section
variable {X : Cx}
/-! ### readings with a wish that is easier to say -/
theorem pe_imp {e : Expr} {t u : TE} (h : PE X e t) (i : ∀ σ H Q, u σ H Q → t σ H Q) : PE X e u := ⟨fun pins s σ H Q I q => h.run pins s σ H Q I (i σ H Q q)⟩
def wkE (t : TE) : TE := fun σ H Q => ∃ R : VK, t σ H R ∧ ∀ v H1, R v H1 → Q v H1
def wkA (t : TA) : TA := fun σ H Q => ∃ R : List V → Hp → Prop, t σ H R ∧ ∀ v H1, R v H1 → Q v H1
theorem wk_e {e : Expr} {t : TE} (h : PE X e t) : PE X e (wkE t) := ⟨fun pins s σ H Q I ⟨R, q, m⟩ => thn (h.run pins s σ H R I q) fun u s' ⟨v, H', I', r, z⟩ => ⟨v, H', I', r, m v H' z⟩⟩
theorem wk_a {es : List Expr} {t : TA} (h : PA X es t) : PA X es (wkA t) := ⟨fun pos pins s σ H Q I ⟨R, q, m⟩ => thn (h.run pos pins s σ H R I q) fun u s' ⟨v, H', I', r, z⟩ => ⟨v, H', I', r, m v H' z⟩⟩
/-- short lists: a length that the eye sees -/
abbrev Few (xs : List V) : Prop := Nat.ble xs.length 1000 = true
theorem few {xs : List V} (h : Few xs) : xs.length ≤ sizeLine := Nat.le_of_lt (small1000 (Nat.le_of_ble_eq_true h))
theorem few1 {xs : List V} (h : Few xs) : xs.length ≤ 1000 := Nat.le_of_ble_eq_true h
/-- what is wanted of a new object -/
def NewT (H : Hp) (xs : List V) (Q : VK) : Prop := ∀ p H', Same H H' → H' p = some (.tup xs) → H p = none → Q (.ref p) H'
def NewL (H : Hp) (xs : List V) (Q : VK) : Prop := ∀ p H', Same H H' → H' p = some (.lst xs) → H p = none → Q (.ref p) H'
def NewX (H : Hp) (C : Addr) (fs : List (Str × V)) (Q : VK) : Prop := ∀ p H', Same H H' → XAt H' p C fs → H p = none → Q (.ref p) H'
def tNewT (t : TA) : TE := fun σ H Q => t σ H fun xs H1 => Few xs ∧ NewT H1 xs Q
def tNewL (t : TA) : TE := fun σ H Q => t σ H fun xs H1 => Few xs ∧ NewL H1 xs Q
theorem pe_tupN {es : List Expr} {t : TA} {x1 pos} (h : PA X es t) : PE X (.Tuple es x1 pos) (tNewT t) :=
  pe_imp (pe_tup (wk_a h)) fun σ H Q q => ⟨_, q, fun xs H1 z => ⟨few z.1, newly fun p H' hs ho hn => z.2 p H' hs ho hn⟩⟩
theorem pe_lstN {es : List Expr} {t : TA} {pos} (h : PA X es t) : PE X (.List es pos) (tNewL t) :=
  pe_imp (pe_lst (wk_a h)) fun σ H Q q => ⟨_, q, fun xs H1 z => ⟨few z.1, newly fun p H' hs ho hn => z.2 p H' hs ho hn⟩⟩
/-- xs + ys, both short -/
def rCatN : R2 := fun x y H Q => ∃ l b xs zs, x = .ref l ∧ y = .ref b ∧ H l = some (.lst xs) ∧ H b = some (.lst zs) ∧ Few (xs ++ zs) ∧ NewL H (xs ++ zs) Q
theorem op_catN : OpR X (binaryOp .Add) rCatN := fun pins s σ H x y v u Q I rx ry ⟨l, b, xs, zs, e1, e2, h1, h2, hf, q⟩ =>
  op_cat pins s σ H x y v u Q I rx ry ⟨l, b, xs, zs, e1, e2, h1, h2, by have z := few hf; rw [List.length_append] at z; exact z, newly fun p H' hs ho hn => q p H' hs ho hn⟩
/-- exceptions made -/
def tX0 (C : Addr) : TE := fun _ H Q => NewX H C [] Q
def tX1 (C : Addr) (g : Str) (t : TA) : TE := fun σ H Q => t σ H fun vs H1 => ∃ v, vs = [v] ∧ NewX H1 C [(g, v)] Q
def tX2 (C : Addr) (g h : Str) (t : TA) : TE := fun σ H Q => t σ H fun vs H1 => ∃ v u, vs = [v, u] ∧ NewX H1 C [(h, u), (g, v)] Q
theorem x0_of {e : Expr} {C : Addr} (h : PE X e (tMk0 C)) : PE X e (tX0 C) := pe_imp h fun σ H Q q a ha => q a _ (same_new ha) (.no upd_same) ha
theorem x1_of {K : PySem.W.Frag} {e : Expr} {C : Addr} {g : Str} {t : TA} (h : PE X e (tMkI C (spIni1 K C g) (wkA t))) : PE X e (tX1 C g t) :=
  pe_imp h fun σ H Q q => ⟨_, q, fun vs H1 ⟨v, e, z⟩ => by
    subst e
    refine ⟨by show 1 ≤ 1000; decide, fun a ha => ⟨a, v, rfl, upd_same, fun d hd hne => ⟨rfl, z a _ (fun b o y => ?_) (.at upd_same (by rw [upd_ne hne, upd_same])) ha⟩⟩⟩
    have hd1 : H1 d = none := by rw [upd_ne hne] at hd; exact hd
    rw [upd_ne (ne_of_none y ha), upd_ne (ne_of_none y hd1), upd_ne (ne_of_none y ha)]; exact y⟩
theorem x2_of {K : PySem.W.Frag} {e : Expr} {C : Addr} {g k : Str} {t : TA} (h : PE X e (tMkI C (spIni2 K C g k) (wkA t))) : PE X e (tX2 C g k t) :=
  pe_imp h fun σ H Q q => ⟨_, q, fun vs H1 ⟨v, u, e, z⟩ => by
    subst e
    refine ⟨by show 2 ≤ 1000; decide, fun a ha => ⟨a, v, u, rfl, upd_same, fun d hd hne => ⟨rfl, z a _ (fun b o y => ?_) (.at (d := d) (by rw [upd_ne (Ne.symm hne), upd_same]) upd_same) ha⟩⟩⟩
    have hd1 : H1 d = none := by rw [upd_ne hne] at hd; exact hd
    rw [upd_ne (ne_of_none y hd1), upd_ne (ne_of_none y ha), upd_ne (ne_of_none y hd1), upd_ne (ne_of_none y ha)]; exact y⟩
theorem sm_step {G H : Hp} {b : Addr} {o : HO} (s : Same G H) (h : G b = some o) : H b = some o := s _ _ h
theorem ss_step {F G H : Hp} (s : Same G H) (h : Same F G) : Same F H := h.trans s
theorem xs_step {G H : Hp} {e C : Addr} {fs : List (Str × V)} (s : Same G H) (h : XAt G e C fs) : XAt H e C fs := h.same s
theorem sq_step {K : PySem.W.Frag} {G H : Hp} {a : Addr} {xs : List V} (s : Same G H) (h : SqL K G a xs) : SqL K H a xs := s.seq h
theorem lk1 {g : Str} {v : V} {r : List (Str × V)} : List.lookup g ((g, v) :: r) = some v := by simp [List.lookup]
theorem lk2 {g h : Str} {v : V} {r : List (Str × V)} (n : decide (g = h) = false) : List.lookup g ((h, v) :: r) = List.lookup g r := by
  have e : (g == h) = false := beq_eq_false_iff_ne.mpr (of_decide_eq_false n)
  simp [List.lookup, e]
end
end My

/-! the head's run, looked at in parts: each part runs anew, so that no part needs all the room -/
namespace My
open PySem PySem.W PySem.Calls PyProof.Rows L2 HandSHeadRun
section
variable {α β γ : Type} {X : Option α}
theorem hAll {P : α → β → Bool} {p q : List β} (h1 : X.map (fun x => p.all (P x)) = some true) (h2 : X.map (fun x => q.all (P x)) = some true) : X.map (fun x => (p ++ q).all (P x)) = some true := by
  cases X with
  | none => cases h1
  | some x =>
    have a : p.all (P x) = true := Option.some.inj h1
    have b : q.all (P x) = true := Option.some.inj h2
    show some ((p ++ q).all (P x)) = some true
    rw [List.all_append, a, b]; rfl
theorem hDef {P : α → β → Bool} {G : α → β → γ} {V : β → γ} {p q : List β} (h1 : X.map (fun x => (p.all (P x), p.map (G x))) = some (true, p.map V)) (h2 : X.map (fun x => (q.all (P x), q.map (G x))) = some (true, q.map V)) : X.map (fun x => ((p ++ q).all (P x), (p ++ q).map (G x))) = some (true, (p ++ q).map V) := by
  cases X with
  | none => cases h1
  | some x =>
    have a : (p.all (P x), p.map (G x)) = (true, p.map V) := Option.some.inj h1
    have b : (q.all (P x), q.map (G x)) = (true, q.map V) := Option.some.inj h2
    obtain ⟨a1, a2⟩ := Prod.mk.inj a
    obtain ⟨b1, b2⟩ := Prod.mk.inj b
    show some ((p ++ q).all (P x), (p ++ q).map (G x)) = some (true, (p ++ q).map V)
    rw [List.all_append, List.map_append, List.map_append, a1, b1, a2, b2]; rfl
theorem hFst {f : α → β} {g : α → γ} {b : β} {c : γ} (h : X.map (fun x => (f x, g x)) = some (b, c)) : X.map f = some b := by
  cases X with
  | none => cases h
  | some x => exact congrArg some (Prod.mk.inj (Option.some.inj h)).1
theorem hSnd {f : α → β} {g : α → γ} {b : β} {c : γ} (h : X.map (fun x => (f x, g x)) = some (b, c)) : X.map g = some c := by
  cases X with
  | none => cases h
  | some x => exact congrArg some (Prod.mk.inj (Option.some.inj h)).2
theorem hAnd {f g : α → Bool} (h1 : X.map f = some true) (h2 : X.map g = some true) : X.map (fun x => f x && g x) = some true := by
  cases X with
  | none => cases h1
  | some x =>
    have a : f x = true := Option.some.inj h1
    have b : g x = true := Option.some.inj h2
    show some (f x && g x) = some true
    rw [a, b]; rfl
end
def KOf (s : SharedT) : PySem.W.Frag := He.frG (getT s) (He.asD (getT s) 5)
theorem hRun {X : Option (Shared × SharedT)} {δ : Type} {L : Shared × SharedT → Bool} {S : Shared × SharedT → δ} {g : δ} {fa : List He.Fa} {fn : List He.DefD} {ex : PySem.W.Frag → Bool}
    (hL : X.map L = some true) (hS : X.map S = some g) (hE : X.map (fun x => ex (KOf x.2)) = some true) (hF : X.map (fun x => fa.all fun f => f.ok (KOf x.2)) = some true)
    (hD : X.map (fun x => (fn.all fun d => d.ok (KOf x.2), fn.map fun d => He.fnW (KOf x.2) d.at_)) = some (true, fn.map He.DefD.val)) :
    X.map (fun x => (L x, S x, obsMG 5 fa fn ex (getT x.2))) = some (true, g, (true, fn.map He.DefD.val)) := by
  cases X with
  | none => cases hL
  | some x =>
    have a : L x = true := Option.some.inj hL
    have b : S x = g := Option.some.inj hS
    have c : ex (KOf x.2) = true := Option.some.inj hE
    have d : (fa.all fun f => f.ok (KOf x.2)) = true := Option.some.inj hF
    obtain ⟨e1, e2⟩ := Prod.mk.inj (show ((fn.all fun d => d.ok (KOf x.2)), fn.map fun d => He.fnW (KOf x.2) d.at_) = (true, fn.map He.DefD.val) from Option.some.inj hD)
    show some (L x, S x, (ex (KOf x.2) && ((fa.all fun f => f.ok (KOf x.2)) && fn.all fun d => d.ok (KOf x.2)), fn.map fun d => He.fnW (KOf x.2) d.at_)) = _
    rw [a, b, c, d, e1, e2]; rfl
end My

namespace My
open PySem PySem.Spec PyProof.Rows L2
def top (i : Nat) : Stmt := PySem.Challenge.pw_anymethod_k04_questions_refused.main.body.getD i (.Pass ⟨0, 0, 0, 0⟩)
abbrev s_MethodError_told : Stmt := inClass (top 2) 0
def d_MethodError_told : He.DefD := ⟨("MethodError", some "told"), "told", "MethodError.told", defArgs s_MethodError_told, defBody s_MethodError_told, defScope s_MethodError_told, [], []⟩
abbrev s_NoRatio_init : Stmt := inClass (top 3) 0
def d_NoRatio_init : He.DefD := ⟨("NoRatio", some "__init__"), "__init__", "NoRatio.__init__", defArgs s_NoRatio_init, defBody s_NoRatio_init, defScope s_NoRatio_init, [], []⟩
abbrev s_NoRatio_told : Stmt := inClass (top 3) 1
def d_NoRatio_told : He.DefD := ⟨("NoRatio", some "told"), "told", "NoRatio.told", defArgs s_NoRatio_told, defBody s_NoRatio_told, defScope s_NoRatio_told, [], []⟩
abbrev s_NoQuestion_init : Stmt := inClass (top 4) 0
def d_NoQuestion_init : He.DefD := ⟨("NoQuestion", some "__init__"), "__init__", "NoQuestion.__init__", defArgs s_NoQuestion_init, defBody s_NoQuestion_init, defScope s_NoQuestion_init, [], []⟩
abbrev s_NoQuestion_told : Stmt := inClass (top 4) 1
def d_NoQuestion_told : He.DefD := ⟨("NoQuestion", some "told"), "told", "NoQuestion.told", defArgs s_NoQuestion_told, defBody s_NoQuestion_told, defScope s_NoQuestion_told, [], []⟩
abbrev s_OtherEffects_told : Stmt := inClass (top 5) 0
def d_OtherEffects_told : He.DefD := ⟨("OtherEffects", some "told"), "told", "OtherEffects.told", defArgs s_OtherEffects_told, defBody s_OtherEffects_told, defScope s_OtherEffects_told, [], []⟩
abbrev s_NoWorld_told : Stmt := inClass (top 6) 0
def d_NoWorld_told : He.DefD := ⟨("NoWorld", some "told"), "told", "NoWorld.told", defArgs s_NoWorld_told, defBody s_NoWorld_told, defScope s_NoWorld_told, [], []⟩
abbrev s_NoSuch_init : Stmt := inClass (top 7) 0
def d_NoSuch_init : He.DefD := ⟨("NoSuch", some "__init__"), "__init__", "NoSuch.__init__", defArgs s_NoSuch_init, defBody s_NoSuch_init, defScope s_NoSuch_init, [], []⟩
abbrev s_NoSuch_told : Stmt := inClass (top 7) 1
def d_NoSuch_told : He.DefD := ⟨("NoSuch", some "told"), "told", "NoSuch.told", defArgs s_NoSuch_told, defBody s_NoSuch_told, defScope s_NoSuch_told, [], []⟩
abbrev s_is_integer : Stmt := top 13
def d_is_integer : He.DefD := ⟨("is_integer", none), "is_integer", "is_integer", defArgs s_is_integer, defBody s_is_integer, defScope s_is_integer, [], []⟩
abbrev s_is_sequence : Stmt := top 14
def d_is_sequence : He.DefD := ⟨("is_sequence", none), "is_sequence", "is_sequence", defArgs s_is_sequence, defBody s_is_sequence, defScope s_is_sequence, [], []⟩
abbrev s_is_name : Stmt := top 15
def d_is_name : He.DefD := ⟨("is_name", none), "is_name", "is_name", defArgs s_is_name, defBody s_is_name, defScope s_is_name, [], []⟩
abbrev s_are_names : Stmt := top 16
def d_are_names : He.DefD := ⟨("are_names", none), "are_names", "are_names", defArgs s_are_names, defBody s_are_names, defScope s_are_names, [], []⟩
abbrev s_is_effects : Stmt := top 17
def d_is_effects : He.DefD := ⟨("is_effects", none), "is_effects", "is_effects", defArgs s_is_effects, defBody s_is_effects, defScope s_is_effects, [], []⟩
abbrev s_Ratio_init : Stmt := inClass (top 21) 0
def d_Ratio_init : He.DefD := ⟨("Ratio", some "__init__"), "__init__", "Ratio.__init__", defArgs s_Ratio_init, defBody s_Ratio_init, defScope s_Ratio_init, [.int 1], []⟩
abbrev s_Ratio_eq : Stmt := inClass (top 21) 1
def d_Ratio_eq : He.DefD := ⟨("Ratio", some "__eq__"), "__eq__", "Ratio.__eq__", defArgs s_Ratio_eq, defBody s_Ratio_eq, defScope s_Ratio_eq, [], []⟩
abbrev s_Ratio_lt : Stmt := inClass (top 21) 2
def d_Ratio_lt : He.DefD := ⟨("Ratio", some "__lt__"), "__lt__", "Ratio.__lt__", defArgs s_Ratio_lt, defBody s_Ratio_lt, defScope s_Ratio_lt, [], []⟩
abbrev s_Ratio_le : Stmt := inClass (top 21) 3
def d_Ratio_le : He.DefD := ⟨("Ratio", some "__le__"), "__le__", "Ratio.__le__", defArgs s_Ratio_le, defBody s_Ratio_le, defScope s_Ratio_le, [], []⟩
abbrev s_Ratio_gt : Stmt := inClass (top 21) 4
def d_Ratio_gt : He.DefD := ⟨("Ratio", some "__gt__"), "__gt__", "Ratio.__gt__", defArgs s_Ratio_gt, defBody s_Ratio_gt, defScope s_Ratio_gt, [], []⟩
abbrev s_Ratio_ge : Stmt := inClass (top 21) 5
def d_Ratio_ge : He.DefD := ⟨("Ratio", some "__ge__"), "__ge__", "Ratio.__ge__", defArgs s_Ratio_ge, defBody s_Ratio_ge, defScope s_Ratio_ge, [], []⟩
abbrev s_Ratio_neg : Stmt := inClass (top 21) 6
def d_Ratio_neg : He.DefD := ⟨("Ratio", some "__neg__"), "__neg__", "Ratio.__neg__", defArgs s_Ratio_neg, defBody s_Ratio_neg, defScope s_Ratio_neg, [], []⟩
abbrev s_Ratio_pos : Stmt := inClass (top 21) 7
def d_Ratio_pos : He.DefD := ⟨("Ratio", some "__pos__"), "__pos__", "Ratio.__pos__", defArgs s_Ratio_pos, defBody s_Ratio_pos, defScope s_Ratio_pos, [], []⟩
abbrev s_Ratio_abs : Stmt := inClass (top 21) 8
def d_Ratio_abs : He.DefD := ⟨("Ratio", some "__abs__"), "__abs__", "Ratio.__abs__", defArgs s_Ratio_abs, defBody s_Ratio_abs, defScope s_Ratio_abs, [], []⟩
abbrev s_Ratio_add : Stmt := inClass (top 21) 9
def d_Ratio_add : He.DefD := ⟨("Ratio", some "__add__"), "__add__", "Ratio.__add__", defArgs s_Ratio_add, defBody s_Ratio_add, defScope s_Ratio_add, [], []⟩
abbrev s_Ratio_radd : Stmt := inClass (top 21) 10
def d_Ratio_radd : He.DefD := ⟨("Ratio", some "__radd__"), "__radd__", "Ratio.__radd__", defArgs s_Ratio_radd, defBody s_Ratio_radd, defScope s_Ratio_radd, [], []⟩
abbrev s_Ratio_sub : Stmt := inClass (top 21) 11
def d_Ratio_sub : He.DefD := ⟨("Ratio", some "__sub__"), "__sub__", "Ratio.__sub__", defArgs s_Ratio_sub, defBody s_Ratio_sub, defScope s_Ratio_sub, [], []⟩
abbrev s_Ratio_rsub : Stmt := inClass (top 21) 12
def d_Ratio_rsub : He.DefD := ⟨("Ratio", some "__rsub__"), "__rsub__", "Ratio.__rsub__", defArgs s_Ratio_rsub, defBody s_Ratio_rsub, defScope s_Ratio_rsub, [], []⟩
abbrev s_Ratio_mul : Stmt := inClass (top 21) 13
def d_Ratio_mul : He.DefD := ⟨("Ratio", some "__mul__"), "__mul__", "Ratio.__mul__", defArgs s_Ratio_mul, defBody s_Ratio_mul, defScope s_Ratio_mul, [], []⟩
abbrev s_Ratio_rmul : Stmt := inClass (top 21) 14
def d_Ratio_rmul : He.DefD := ⟨("Ratio", some "__rmul__"), "__rmul__", "Ratio.__rmul__", defArgs s_Ratio_rmul, defBody s_Ratio_rmul, defScope s_Ratio_rmul, [], []⟩
abbrev s_Ratio_floordiv : Stmt := inClass (top 21) 15
def d_Ratio_floordiv : He.DefD := ⟨("Ratio", some "__floordiv__"), "__floordiv__", "Ratio.__floordiv__", defArgs s_Ratio_floordiv, defBody s_Ratio_floordiv, defScope s_Ratio_floordiv, [], []⟩
abbrev s_Ratio_rfloordiv : Stmt := inClass (top 21) 16
def d_Ratio_rfloordiv : He.DefD := ⟨("Ratio", some "__rfloordiv__"), "__rfloordiv__", "Ratio.__rfloordiv__", defArgs s_Ratio_rfloordiv, defBody s_Ratio_rfloordiv, defScope s_Ratio_rfloordiv, [], []⟩
abbrev s_Ratio_mod : Stmt := inClass (top 21) 17
def d_Ratio_mod : He.DefD := ⟨("Ratio", some "__mod__"), "__mod__", "Ratio.__mod__", defArgs s_Ratio_mod, defBody s_Ratio_mod, defScope s_Ratio_mod, [], []⟩
abbrev s_Ratio_rmod : Stmt := inClass (top 21) 18
def d_Ratio_rmod : He.DefD := ⟨("Ratio", some "__rmod__"), "__rmod__", "Ratio.__rmod__", defArgs s_Ratio_rmod, defBody s_Ratio_rmod, defScope s_Ratio_rmod, [], []⟩
abbrev s_Ratio_pow : Stmt := inClass (top 21) 19
def d_Ratio_pow : He.DefD := ⟨("Ratio", some "__pow__"), "__pow__", "Ratio.__pow__", defArgs s_Ratio_pow, defBody s_Ratio_pow, defScope s_Ratio_pow, [], []⟩
abbrev s_Ratio_over : Stmt := inClass (top 21) 20
def d_Ratio_over : He.DefD := ⟨("Ratio", some "over"), "over", "Ratio.over", defArgs s_Ratio_over, defBody s_Ratio_over, defScope s_Ratio_over, [], []⟩
abbrev s_Ratio_power : Stmt := inClass (top 21) 21
def d_Ratio_power : He.DefD := ⟨("Ratio", some "power"), "power", "Ratio.power", defArgs s_Ratio_power, defBody s_Ratio_power, defScope s_Ratio_power, [], []⟩
abbrev s_Ratio_text : Stmt := inClass (top 21) 22
def d_Ratio_text : He.DefD := ⟨("Ratio", some "text"), "text", "Ratio.text", defArgs s_Ratio_text, defBody s_Ratio_text, defScope s_Ratio_text, [], []⟩
abbrev s_whole_number : Stmt := top 22
def d_whole_number : He.DefD := ⟨("whole_number", none), "whole_number", "whole_number", defArgs s_whole_number, defBody s_whole_number, defScope s_whole_number, [], []⟩
abbrev s_is_number : Stmt := top 23
def d_is_number : He.DefD := ⟨("is_number", none), "is_number", "is_number", defArgs s_is_number, defBody s_is_number, defScope s_is_number, [], []⟩
abbrev s_as_ratio : Stmt := top 24
def d_as_ratio : He.DefD := ⟨("as_ratio", none), "as_ratio", "as_ratio", defArgs s_as_ratio, defBody s_as_ratio, defScope s_as_ratio, [], []⟩
abbrev s_are_numbers : Stmt := top 25
def d_are_numbers : He.DefD := ⟨("are_numbers", none), "are_numbers", "are_numbers", defArgs s_are_numbers, defBody s_are_numbers, defScope s_are_numbers, [], []⟩
abbrev s_as_ratios : Stmt := top 26
def d_as_ratios : He.DefD := ⟨("as_ratios", none), "as_ratios", "as_ratios", defArgs s_as_ratios, defBody s_as_ratios, defScope s_as_ratios, [], []⟩
abbrev s_Question_init : Stmt := inClass (top 28) 0
def d_Question_init : He.DefD := ⟨("Question", some "__init__"), "__init__", "Question.__init__", defArgs s_Question_init, defBody s_Question_init, defScope s_Question_init, [], []⟩
abbrev s_Question_at : Stmt := inClass (top 28) 1
def d_Question_at : He.DefD := ⟨("Question", some "at"), "at", "Question.at", defArgs s_Question_at, defBody s_Question_at, defScope s_Question_at, [], []⟩
abbrev s_Question_eq : Stmt := inClass (top 28) 2
def d_Question_eq : He.DefD := ⟨("Question", some "__eq__"), "__eq__", "Question.__eq__", defArgs s_Question_eq, defBody s_Question_eq, defScope s_Question_eq, [], []⟩
abbrev s_Question_add : Stmt := inClass (top 28) 3
def d_Question_add : He.DefD := ⟨("Question", some "__add__"), "__add__", "Question.__add__", defArgs s_Question_add, defBody s_Question_add, defScope s_Question_add, [], []⟩
abbrev s_Question_sub : Stmt := inClass (top 28) 4
def d_Question_sub : He.DefD := ⟨("Question", some "__sub__"), "__sub__", "Question.__sub__", defArgs s_Question_sub, defBody s_Question_sub, defScope s_Question_sub, [], []⟩
abbrev s_Question_neg : Stmt := inClass (top 28) 5
def d_Question_neg : He.DefD := ⟨("Question", some "__neg__"), "__neg__", "Question.__neg__", defArgs s_Question_neg, defBody s_Question_neg, defScope s_Question_neg, [], []⟩
abbrev s_Question_mul : Stmt := inClass (top 28) 6
def d_Question_mul : He.DefD := ⟨("Question", some "__mul__"), "__mul__", "Question.__mul__", defArgs s_Question_mul, defBody s_Question_mul, defScope s_Question_mul, [], []⟩
abbrev s_Question_rmul : Stmt := inClass (top 28) 7
def d_Question_rmul : He.DefD := ⟨("Question", some "__rmul__"), "__rmul__", "Question.__rmul__", defArgs s_Question_rmul, defBody s_Question_rmul, defScope s_Question_rmul, [], []⟩
abbrev s_Question_over : Stmt := inClass (top 28) 8
def d_Question_over : He.DefD := ⟨("Question", some "over"), "over", "Question.over", defArgs s_Question_over, defBody s_Question_over, defScope s_Question_over, [], []⟩
abbrev s_check_same_effects : Stmt := top 29
def d_check_same_effects : He.DefD := ⟨("check_same_effects", none), "check_same_effects", "check_same_effects", defArgs s_check_same_effects, defBody s_check_same_effects, defScope s_check_same_effects, [], []⟩
abbrev s_effect : Stmt := top 30
def d_effect : He.DefD := ⟨("effect", none), "effect", "effect", defArgs s_effect, defBody s_effect, defScope s_effect, [], []⟩
abbrev s_nothing : Stmt := top 31
def d_nothing : He.DefD := ⟨("nothing", none), "nothing", "nothing", defArgs s_nothing, defBody s_nothing, defScope s_nothing, [], []⟩
abbrev s_cell : Stmt := top 33
def d_cell : He.DefD := ⟨("_law_cell", none), "_law_cell", "_law_cell", defArgs s_cell, defBody s_cell, defScope s_cell, [], []⟩
abbrev s_pouch : Stmt := top 34
def d_pouch : He.DefD := ⟨("_law_pouch", none), "_law_pouch", "_law_pouch", defArgs s_pouch, defBody s_pouch, defScope s_pouch, [], []⟩
abbrev s_draw : Stmt := top 35
def d_draw : He.DefD := ⟨("_law_draw", none), "_law_draw", "_law_draw", defArgs s_draw, defBody s_draw, defScope s_draw, [], []⟩
abbrev s_number : Stmt := top 36
def d_number : He.DefD := ⟨("_law_number", none), "_law_number", "_law_number", defArgs s_number, defBody s_number, defScope s_number, [], []⟩
abbrev s_make : Stmt := top 37
def d_make : He.DefD := ⟨("_law_make", none), "_law_make", "_law_make", defArgs s_make, defBody s_make, defScope s_make, [], []⟩
abbrev s_name : Stmt := top 38
def d_name : He.DefD := ⟨("_law_name", none), "_law_name", "_law_name", defArgs s_name, defBody s_name, defScope s_name, [], []⟩
abbrev s_Leffects : Stmt := top 39
def d_Leffects : He.DefD := ⟨("_law_effects", none), "_law_effects", "_law_effects", defArgs s_Leffects, defBody s_Leffects, defScope s_Leffects, [], []⟩
abbrev s_made : Stmt := top 40
def d_made : He.DefD := ⟨("_law_made", none), "_law_made", "_law_made", defArgs s_made, defBody s_made, defScope s_made, [], []⟩
abbrev s_asked : Stmt := top 41
def d_asked : He.DefD := ⟨("_law_asked", none), "_law_asked", "_law_asked", defArgs s_asked, defBody s_asked, defScope s_asked, [], []⟩
abbrev s_single : Stmt := top 42
def d_single : He.DefD := ⟨("_law_single", none), "_law_single", "_law_single", defArgs s_single, defBody s_single, defScope s_single, [], []⟩
abbrev s_empty : Stmt := top 43
def d_empty : He.DefD := ⟨("_law_empty", none), "_law_empty", "_law_empty", defArgs s_empty, defBody s_empty, defScope s_empty, [], []⟩
abbrev s_joined : Stmt := top 44
def d_joined : He.DefD := ⟨("_law_joined", none), "_law_joined", "_law_joined", defArgs s_joined, defBody s_joined, defScope s_joined, [], []⟩
abbrev s_bad_effects : Stmt := top 45
def d_bad_effects : He.DefD := ⟨("_law_bad_effects", none), "_law_bad_effects", "_law_bad_effects", defArgs s_bad_effects, defBody s_bad_effects, defScope s_bad_effects, [], []⟩
abbrev s_bad_numbers : Stmt := top 46
def d_bad_numbers : He.DefD := ⟨("_law_bad_numbers", none), "_law_bad_numbers", "_law_bad_numbers", defArgs s_bad_numbers, defBody s_bad_numbers, defScope s_bad_numbers, [], []⟩
abbrev s_zero : Stmt := top 47
def d_zero : He.DefD := ⟨("_law_zero", none), "_law_zero", "_law_zero", defArgs s_zero, defBody s_zero, defScope s_zero, [], []⟩
abbrev s_singles : Stmt := top 48
def d_singles : He.DefD := ⟨("_law_singles", none), "_law_singles", "_law_singles", defArgs s_singles, defBody s_singles, defScope s_singles, [], []⟩
abbrev s_sums : Stmt := top 49
def d_sums : He.DefD := ⟨("_law_sums", none), "_law_sums", "_law_sums", defArgs s_sums, defBody s_sums, defScope s_sums, [], []⟩
abbrev s_law : Stmt := top 50
def d_law : He.DefD := ⟨("law", none), "law", "law", defArgs s_law, defBody s_law, defScope s_law, [], []⟩
def fn0 : List He.DefD := [d_MethodError_told, d_NoRatio_init, d_NoRatio_told, d_NoQuestion_init, d_NoQuestion_told, d_OtherEffects_told, d_NoWorld_told, d_NoSuch_init, d_NoSuch_told, d_is_integer, d_is_sequence, d_is_name, d_are_names, d_is_effects, d_Ratio_init, d_Ratio_eq, d_Ratio_lt, d_Ratio_le, d_Ratio_gt, d_Ratio_ge, d_Ratio_neg, d_Ratio_pos, d_Ratio_abs, d_Ratio_add, d_Ratio_radd]
def fn1 : List He.DefD := [d_Ratio_sub, d_Ratio_rsub, d_Ratio_mul, d_Ratio_rmul, d_Ratio_floordiv, d_Ratio_rfloordiv, d_Ratio_mod, d_Ratio_rmod, d_Ratio_pow, d_Ratio_over, d_Ratio_power, d_Ratio_text, d_whole_number, d_is_number, d_as_ratio, d_are_numbers, d_as_ratios, d_Question_init, d_Question_at, d_Question_eq, d_Question_add, d_Question_sub, d_Question_neg, d_Question_mul, d_Question_rmul]
def fn2 : List He.DefD := [d_Question_over, d_check_same_effects, d_effect, d_nothing, d_cell, d_pouch, d_draw, d_number, d_make, d_name, d_Leffects, d_made, d_asked, d_single, d_empty, d_joined, d_bad_effects, d_bad_numbers, d_zero, d_singles, d_sums, d_law]
def fn : List He.DefD := fn0 ++ (fn1 ++ (fn2))
def fa0 : List He.Fa := [.glo "MethodError", .glo "NoRatio", .glo "NoQuestion", .glo "OtherEffects", .glo "NoWorld", .glo "NoSuch", .glo "is_integer", .glo "is_sequence", .glo "is_name", .glo "are_names", .glo "is_effects", .glo "Ratio", .glo "whole_number", .glo "is_number", .glo "as_ratio", .glo "are_numbers", .glo "as_ratios", .glo "Question", .glo "check_same_effects", .glo "effect", .glo "nothing", .glo "_law_cell", .glo "_law_pouch", .glo "_law_draw", .glo "_law_number"]
def fa1 : List He.Fa := [.glo "_law_make", .glo "_law_name", .glo "_law_effects", .glo "_law_made", .glo "_law_asked", .glo "_law_single", .glo "_law_empty", .glo "_law_joined", .glo "_law_bad_effects", .glo "_law_bad_numbers", .glo "_law_zero", .glo "_law_singles", .glo "_law_sums", .glo "law", .meth "MethodError" "told", .exc "MethodError", .meth "NoRatio" "__init__", .meth "NoRatio" "told", .noat "NoRatio" "word", .meth "NoQuestion" "__init__", .meth "NoQuestion" "told", .noat "NoQuestion" "word", .meth "OtherEffects" "told", .exc "OtherEffects", .meth "NoWorld" "told"]
def fa2 : List He.Fa := [.exc "NoWorld", .meth "NoSuch" "__init__", .meth "NoSuch" "told", .noat "NoSuch" "name", .cls "Ratio", .mkr "Ratio", .meth "Ratio" "__init__", .meth "Ratio" "__eq__", .meth "Ratio" "__lt__", .meth "Ratio" "__le__", .meth "Ratio" "__gt__", .meth "Ratio" "__ge__", .meth "Ratio" "__neg__", .meth "Ratio" "__pos__", .meth "Ratio" "__abs__", .meth "Ratio" "__add__", .meth "Ratio" "__radd__", .meth "Ratio" "__sub__", .meth "Ratio" "__rsub__", .meth "Ratio" "__mul__", .meth "Ratio" "__rmul__", .meth "Ratio" "__floordiv__", .meth "Ratio" "__rfloordiv__", .meth "Ratio" "__mod__", .meth "Ratio" "__rmod__"]
def fa3 : List He.Fa := [.meth "Ratio" "__pow__", .meth "Ratio" "over", .meth "Ratio" "power", .meth "Ratio" "text", .noat "Ratio" "top", .noat "Ratio" "bottom", .noat "Ratio" "__iadd__", .noat "Ratio" "__rpow__", .cls "Question", .mkr "Question", .meth "Question" "__init__", .meth "Question" "at", .meth "Question" "__eq__", .meth "Question" "__add__", .meth "Question" "__sub__", .meth "Question" "__neg__", .meth "Question" "__mul__", .meth "Question" "__rmul__", .meth "Question" "over", .noat "Question" "effects", .noat "Question" "weights", .noat "Question" "__iadd__", .noat "Question" "__isub__", .noat "Question" "__imul__", .free "NotImplemented"]
def fa4 : List He.Fa := [.free "abs", .free "all", .free "bool", .free "int", .free "isinstance", .free "len", .free "list", .free "range", .free "set", .free "str", .free "tuple", .free "zip", .int "MOST_POWER" 20, .int "MOST_EFFECTS" 4, .int "LONGEST_NAME" 8, .str "LETTERS" "abcdefghijklmnopqrstuvwxyz", .str "DIGITS" "0123456789"]
def fa : List He.Fa := fa0 ++ (fa1 ++ (fa2 ++ (fa3 ++ (fa4))))
def rf (K : PySem.W.Frag) (x : Str) : Value := .ref (He.ga K x)
def exX (K : PySem.W.Frag) (x : Str) : Bool := xclsB K (He.ga K x) && (decide (PySem.W.kitOne K (rf K x) (rf K "MethodError") = some true) && decide (PySem.W.exmOne K (rf K x) (rf K x) = some true))
def exR (K : PySem.W.Frag) (x : Str) : Bool := PySem.W.selfFirst K (He.ga K x) && (decide (PySem.W.subIn K (rf K x) (.type "int") = some false) && (decide (PySem.W.subIn K (.type "int") (rf K x) = some false) && (decide (PySem.W.findIn K (rf K x) "__class__" = some (some (.builtin "object.__class__"))) &&
  (decide (PySem.W.specialIn K (.builtin "object.__class__") "__get__" = some (some (.builtin "getset_descriptor.__get__"))) && (decide (PySem.W.takesIn K (.builtin "object.__class__") = some true) && (decide (PySem.W.mroIn K (He.ga K x) (.type "object") = some true) &&
  (decide (PySem.W.kitOne K (rf K x) (rf K x) = some true) && (decide (PySem.W.kitOne K (rf K x) (.type "int") = some false) && (decide (PySem.W.kitOne K (rf K x) (.type "bool") = some false) && ["int", "bool", "NoneType", "str", "tuple", "list", "dict"].all fun ty => decide (PySem.W.kitOne K (.type ty) (rf K x) = some false))))))))))
def exI (K : PySem.W.Frag) : Bool := ["add", "sub", "mul", "floordiv", "mod", "pow"].all fun n => (PySem.W.findIn K (.type "int") (PySem.dunder n)).isSome && (PySem.W.findIn K (.type "int") (PySem.dunderR n)).isSome
def exM (K : PySem.W.Frag) : Bool := (match PySem.W.clsIn K (He.ga K "Ratio") with
  | some cd => decide (cd.mro = [.ref (He.ga K "Ratio"), .type "object"])
  | none => false) && decide (PySem.W.findIn K (.type "object") "__iadd__" = some none)
def exG (K : PySem.W.Frag) : Bool := exM K && decide (PySem.W.nsIn K mainGlobals "gcd" = some (some (.builtin "math.gcd")))
def exP (K : PySem.W.Frag) : Bool := ([("Ratio", "Question"), ("Question", "Ratio")] : List (PySem.Str × PySem.Str)).all fun p => decide (PySem.W.kitOne K (rf K p.1) (rf K p.2) = some false) && decide (PySem.W.subIn K (rf K p.1) (rf K p.2) = some false)
def exT (K : PySem.W.Frag) : Bool := (["Ratio", "Question"] : List PySem.Str).all fun x => (["int", "bool", "NoneType", "str", "tuple", "list", "dict"].all fun t => decide (PySem.W.kitOne K (rf K x) (.type t) = some false) && decide (PySem.W.subIn K (.type t) (rf K x) = some false)) && (decide (PySem.W.findIn K (rf K x) "__ne__" = some (some (.builtin "object.__ne__"))) && decide (PySem.W.subIn K (rf K x) (.type "object") = some true))
def exQ (K : PySem.W.Frag) : Bool := exX K "OtherEffects" && decide (PySem.W.exmOne K (rf K "NoSuch") (rf K "NoQuestion") = some false)
def ex (K : PySem.W.Frag) : Bool := exX K "NoRatio" && (exR K "Ratio" && (exI K && (exG K && (exX K "NoQuestion" && (exX K "NoWorld" && (exX K "NoSuch" && (exR K "Question" && (exQ K && (exP K && exT K)))))))))
def nm0 : List PySem.Str := ["MethodError", "NoRatio", "NoQuestion", "OtherEffects", "NoWorld", "NoSuch", "LETTERS", "DIGITS", "LONGEST_NAME", "MOST_EFFECTS", "is_integer", "is_sequence", "is_name", "are_names", "is_effects", "MOST_DIGITS", "MOST_POWER", "Ratio", "whole_number", "is_number", "as_ratio", "are_numbers", "as_ratios", "Question", "check_same_effects"]
def nm1 : List PySem.Str := ["effect", "nothing", "_law_cell", "_law_pouch", "_law_draw", "_law_number", "_law_make", "_law_name", "_law_effects", "_law_made", "_law_asked", "_law_single", "_law_empty", "_law_joined", "_law_bad_effects", "_law_bad_numbers", "_law_zero", "_law_singles", "_law_sums"]
def loose : List PySem.Str := nm0 ++ (nm1)
abbrev R : PySem.W.OpenRow := PySem.W.OpenLaw.row PySem.Challenge.rw_anymethod_k04_questions_refused
abbrev hk : PySem.W.Hook := hookM 5 fa fn ex
def ob (s : PySem.W.SharedT) : He.AlD := obsMG 5 fa fn ex (HandSHeadRun.getT s)
theorem ob_eq (s : PySem.W.SharedT) : ob s = hk.obs s.abs := obsMG_eq (HandSHeadRun.getT_eq s)
abbrev CT (K : PySem.W.Frag) (mg : Str → Option Value) : Prop := Ctx fa fn ex K mg
section
variable {K : PySem.W.Frag} {mg : Str → Option Value}
theorem glo_MethodError (Z : CT K mg) : mg "MethodError" = some (.ref (He.ga K "MethodError")) := Z.glo 0
theorem glo_NoRatio (Z : CT K mg) : mg "NoRatio" = some (.ref (He.ga K "NoRatio")) := Z.glo 1
theorem glo_NoQuestion (Z : CT K mg) : mg "NoQuestion" = some (.ref (He.ga K "NoQuestion")) := Z.glo 2
theorem glo_OtherEffects (Z : CT K mg) : mg "OtherEffects" = some (.ref (He.ga K "OtherEffects")) := Z.glo 3
theorem glo_NoWorld (Z : CT K mg) : mg "NoWorld" = some (.ref (He.ga K "NoWorld")) := Z.glo 4
theorem glo_NoSuch (Z : CT K mg) : mg "NoSuch" = some (.ref (He.ga K "NoSuch")) := Z.glo 5
theorem glo_Ratio (Z : CT K mg) : mg "Ratio" = some (.ref (He.ga K "Ratio")) := Z.glo 11
theorem glo_Question (Z : CT K mg) : mg "Question" = some (.ref (He.ga K "Question")) := Z.glo 17
theorem me_MethodError_told (Z : CT K mg) : Meth K (He.ga K "MethodError") "told" (He.ma K (He.ga K "MethodError") "told") := He.meth_ok (Z.d.fact 39)
theorem xc0_MethodError (Z : CT K mg) : PySem.W.excIn K (He.ga K "MethodError") He.veBase "ValueError.__new__" = true := (He.exc_ok (Z.d.fact 40)).1
theorem me_NoRatio_init (Z : CT K mg) : Meth K (He.ga K "NoRatio") "__init__" (He.ma K (He.ga K "NoRatio") "__init__") := He.meth_ok (Z.d.fact 41)
theorem me_NoRatio_told (Z : CT K mg) : Meth K (He.ga K "NoRatio") "told" (He.ma K (He.ga K "NoRatio") "told") := He.meth_ok (Z.d.fact 42)
theorem no_NoRatio_word (Z : CT K mg) : PySem.W.findIn K (.ref (He.ga K "NoRatio")) "word" = some none := He.noat_ok (Z.d.fact 43)
theorem me_NoQuestion_init (Z : CT K mg) : Meth K (He.ga K "NoQuestion") "__init__" (He.ma K (He.ga K "NoQuestion") "__init__") := He.meth_ok (Z.d.fact 44)
theorem me_NoQuestion_told (Z : CT K mg) : Meth K (He.ga K "NoQuestion") "told" (He.ma K (He.ga K "NoQuestion") "told") := He.meth_ok (Z.d.fact 45)
theorem no_NoQuestion_word (Z : CT K mg) : PySem.W.findIn K (.ref (He.ga K "NoQuestion")) "word" = some none := He.noat_ok (Z.d.fact 46)
theorem me_OtherEffects_told (Z : CT K mg) : Meth K (He.ga K "OtherEffects") "told" (He.ma K (He.ga K "OtherEffects") "told") := He.meth_ok (Z.d.fact 47)
theorem xc0_OtherEffects (Z : CT K mg) : PySem.W.excIn K (He.ga K "OtherEffects") He.veBase "ValueError.__new__" = true := (He.exc_ok (Z.d.fact 48)).1
theorem me_NoWorld_told (Z : CT K mg) : Meth K (He.ga K "NoWorld") "told" (He.ma K (He.ga K "NoWorld") "told") := He.meth_ok (Z.d.fact 49)
theorem xc0_NoWorld (Z : CT K mg) : PySem.W.excIn K (He.ga K "NoWorld") He.veBase "ValueError.__new__" = true := (He.exc_ok (Z.d.fact 50)).1
theorem me_NoSuch_init (Z : CT K mg) : Meth K (He.ga K "NoSuch") "__init__" (He.ma K (He.ga K "NoSuch") "__init__") := He.meth_ok (Z.d.fact 51)
theorem me_NoSuch_told (Z : CT K mg) : Meth K (He.ga K "NoSuch") "told" (He.ma K (He.ga K "NoSuch") "told") := He.meth_ok (Z.d.fact 52)
theorem no_NoSuch_name (Z : CT K mg) : PySem.W.findIn K (.ref (He.ga K "NoSuch")) "name" = some none := He.noat_ok (Z.d.fact 53)
theorem cl_Ratio (Z : CT K mg) : Cls K (He.ga K "Ratio") := He.cls_ok (Z.d.fact 54)
theorem mk_Ratio (Z : CT K mg) : Mk K (He.ga K "Ratio") (He.ma K (He.ga K "Ratio") "__init__") := He.mkr_ok (Z.d.fact 55)
theorem me_Ratio_init (Z : CT K mg) : Meth K (He.ga K "Ratio") "__init__" (He.ma K (He.ga K "Ratio") "__init__") := He.meth_ok (Z.d.fact 56)
theorem me_Ratio_eq (Z : CT K mg) : Meth K (He.ga K "Ratio") "__eq__" (He.ma K (He.ga K "Ratio") "__eq__") := He.meth_ok (Z.d.fact 57)
theorem me_Ratio_lt (Z : CT K mg) : Meth K (He.ga K "Ratio") "__lt__" (He.ma K (He.ga K "Ratio") "__lt__") := He.meth_ok (Z.d.fact 58)
theorem me_Ratio_le (Z : CT K mg) : Meth K (He.ga K "Ratio") "__le__" (He.ma K (He.ga K "Ratio") "__le__") := He.meth_ok (Z.d.fact 59)
theorem me_Ratio_gt (Z : CT K mg) : Meth K (He.ga K "Ratio") "__gt__" (He.ma K (He.ga K "Ratio") "__gt__") := He.meth_ok (Z.d.fact 60)
theorem me_Ratio_ge (Z : CT K mg) : Meth K (He.ga K "Ratio") "__ge__" (He.ma K (He.ga K "Ratio") "__ge__") := He.meth_ok (Z.d.fact 61)
theorem me_Ratio_neg (Z : CT K mg) : Meth K (He.ga K "Ratio") "__neg__" (He.ma K (He.ga K "Ratio") "__neg__") := He.meth_ok (Z.d.fact 62)
theorem me_Ratio_pos (Z : CT K mg) : Meth K (He.ga K "Ratio") "__pos__" (He.ma K (He.ga K "Ratio") "__pos__") := He.meth_ok (Z.d.fact 63)
theorem me_Ratio_abs (Z : CT K mg) : Meth K (He.ga K "Ratio") "__abs__" (He.ma K (He.ga K "Ratio") "__abs__") := He.meth_ok (Z.d.fact 64)
theorem me_Ratio_add (Z : CT K mg) : Meth K (He.ga K "Ratio") "__add__" (He.ma K (He.ga K "Ratio") "__add__") := He.meth_ok (Z.d.fact 65)
theorem me_Ratio_radd (Z : CT K mg) : Meth K (He.ga K "Ratio") "__radd__" (He.ma K (He.ga K "Ratio") "__radd__") := He.meth_ok (Z.d.fact 66)
theorem me_Ratio_sub (Z : CT K mg) : Meth K (He.ga K "Ratio") "__sub__" (He.ma K (He.ga K "Ratio") "__sub__") := He.meth_ok (Z.d.fact 67)
theorem me_Ratio_rsub (Z : CT K mg) : Meth K (He.ga K "Ratio") "__rsub__" (He.ma K (He.ga K "Ratio") "__rsub__") := He.meth_ok (Z.d.fact 68)
theorem me_Ratio_mul (Z : CT K mg) : Meth K (He.ga K "Ratio") "__mul__" (He.ma K (He.ga K "Ratio") "__mul__") := He.meth_ok (Z.d.fact 69)
theorem me_Ratio_rmul (Z : CT K mg) : Meth K (He.ga K "Ratio") "__rmul__" (He.ma K (He.ga K "Ratio") "__rmul__") := He.meth_ok (Z.d.fact 70)
theorem me_Ratio_floordiv (Z : CT K mg) : Meth K (He.ga K "Ratio") "__floordiv__" (He.ma K (He.ga K "Ratio") "__floordiv__") := He.meth_ok (Z.d.fact 71)
theorem me_Ratio_rfloordiv (Z : CT K mg) : Meth K (He.ga K "Ratio") "__rfloordiv__" (He.ma K (He.ga K "Ratio") "__rfloordiv__") := He.meth_ok (Z.d.fact 72)
theorem me_Ratio_mod (Z : CT K mg) : Meth K (He.ga K "Ratio") "__mod__" (He.ma K (He.ga K "Ratio") "__mod__") := He.meth_ok (Z.d.fact 73)
theorem me_Ratio_rmod (Z : CT K mg) : Meth K (He.ga K "Ratio") "__rmod__" (He.ma K (He.ga K "Ratio") "__rmod__") := He.meth_ok (Z.d.fact 74)
theorem me_Ratio_pow (Z : CT K mg) : Meth K (He.ga K "Ratio") "__pow__" (He.ma K (He.ga K "Ratio") "__pow__") := He.meth_ok (Z.d.fact 75)
theorem me_Ratio_over (Z : CT K mg) : Meth K (He.ga K "Ratio") "over" (He.ma K (He.ga K "Ratio") "over") := He.meth_ok (Z.d.fact 76)
theorem me_Ratio_power (Z : CT K mg) : Meth K (He.ga K "Ratio") "power" (He.ma K (He.ga K "Ratio") "power") := He.meth_ok (Z.d.fact 77)
theorem me_Ratio_text (Z : CT K mg) : Meth K (He.ga K "Ratio") "text" (He.ma K (He.ga K "Ratio") "text") := He.meth_ok (Z.d.fact 78)
theorem no_Ratio_top (Z : CT K mg) : PySem.W.findIn K (.ref (He.ga K "Ratio")) "top" = some none := He.noat_ok (Z.d.fact 79)
theorem no_Ratio_bottom (Z : CT K mg) : PySem.W.findIn K (.ref (He.ga K "Ratio")) "bottom" = some none := He.noat_ok (Z.d.fact 80)
theorem no_Ratio___iadd__ (Z : CT K mg) : PySem.W.findIn K (.ref (He.ga K "Ratio")) "__iadd__" = some none := He.noat_ok (Z.d.fact 81)
theorem no_Ratio___rpow__ (Z : CT K mg) : PySem.W.findIn K (.ref (He.ga K "Ratio")) "__rpow__" = some none := He.noat_ok (Z.d.fact 82)
theorem cl_Question (Z : CT K mg) : Cls K (He.ga K "Question") := He.cls_ok (Z.d.fact 83)
theorem mk_Question (Z : CT K mg) : Mk K (He.ga K "Question") (He.ma K (He.ga K "Question") "__init__") := He.mkr_ok (Z.d.fact 84)
theorem me_Question_init (Z : CT K mg) : Meth K (He.ga K "Question") "__init__" (He.ma K (He.ga K "Question") "__init__") := He.meth_ok (Z.d.fact 85)
theorem me_Question_at (Z : CT K mg) : Meth K (He.ga K "Question") "at" (He.ma K (He.ga K "Question") "at") := He.meth_ok (Z.d.fact 86)
theorem me_Question_eq (Z : CT K mg) : Meth K (He.ga K "Question") "__eq__" (He.ma K (He.ga K "Question") "__eq__") := He.meth_ok (Z.d.fact 87)
theorem me_Question_add (Z : CT K mg) : Meth K (He.ga K "Question") "__add__" (He.ma K (He.ga K "Question") "__add__") := He.meth_ok (Z.d.fact 88)
theorem me_Question_sub (Z : CT K mg) : Meth K (He.ga K "Question") "__sub__" (He.ma K (He.ga K "Question") "__sub__") := He.meth_ok (Z.d.fact 89)
theorem me_Question_neg (Z : CT K mg) : Meth K (He.ga K "Question") "__neg__" (He.ma K (He.ga K "Question") "__neg__") := He.meth_ok (Z.d.fact 90)
theorem me_Question_mul (Z : CT K mg) : Meth K (He.ga K "Question") "__mul__" (He.ma K (He.ga K "Question") "__mul__") := He.meth_ok (Z.d.fact 91)
theorem me_Question_rmul (Z : CT K mg) : Meth K (He.ga K "Question") "__rmul__" (He.ma K (He.ga K "Question") "__rmul__") := He.meth_ok (Z.d.fact 92)
theorem me_Question_over (Z : CT K mg) : Meth K (He.ga K "Question") "over" (He.ma K (He.ga K "Question") "over") := He.meth_ok (Z.d.fact 93)
theorem no_Question_effects (Z : CT K mg) : PySem.W.findIn K (.ref (He.ga K "Question")) "effects" = some none := He.noat_ok (Z.d.fact 94)
theorem no_Question_weights (Z : CT K mg) : PySem.W.findIn K (.ref (He.ga K "Question")) "weights" = some none := He.noat_ok (Z.d.fact 95)
theorem no_Question___iadd__ (Z : CT K mg) : PySem.W.findIn K (.ref (He.ga K "Question")) "__iadd__" = some none := He.noat_ok (Z.d.fact 96)
theorem no_Question___isub__ (Z : CT K mg) : PySem.W.findIn K (.ref (He.ga K "Question")) "__isub__" = some none := He.noat_ok (Z.d.fact 97)
theorem no_Question___imul__ (Z : CT K mg) : PySem.W.findIn K (.ref (He.ga K "Question")) "__imul__" = some none := He.noat_ok (Z.d.fact 98)
theorem m_NotImplemented (Z : CT K mg) : mg "NotImplemented" = none := Z.free 99
theorem m_abs (Z : CT K mg) : mg "abs" = none := Z.free 100
theorem m_all (Z : CT K mg) : mg "all" = none := Z.free 101
theorem m_bool (Z : CT K mg) : mg "bool" = none := Z.free 102
theorem m_int (Z : CT K mg) : mg "int" = none := Z.free 103
theorem m_isinstance (Z : CT K mg) : mg "isinstance" = none := Z.free 104
theorem m_len (Z : CT K mg) : mg "len" = none := Z.free 105
theorem m_list (Z : CT K mg) : mg "list" = none := Z.free 106
theorem m_range (Z : CT K mg) : mg "range" = none := Z.free 107
theorem m_set (Z : CT K mg) : mg "set" = none := Z.free 108
theorem m_str (Z : CT K mg) : mg "str" = none := Z.free 109
theorem m_tuple (Z : CT K mg) : mg "tuple" = none := Z.free 110
theorem m_zip (Z : CT K mg) : mg "zip" = none := Z.free 111
theorem con_MOST_POWER {X : Cx} {pos : Pos} (Z : CT X.K X.mg) (hg : Gl X "MOST_POWER" := by rfl) : PE X (.Name "MOST_POWER" pos) (tC (.int 20)) := by
  obtain ⟨_, Y, G⟩ := Z.h
  obtain ⟨u, e⟩ := He.int_ok Y G (Z.d.fact 112)
  exact pe_glob hg e ⟨u, rfl⟩
theorem con_MOST_EFFECTS {X : Cx} {pos : Pos} (Z : CT X.K X.mg) (hg : Gl X "MOST_EFFECTS" := by rfl) : PE X (.Name "MOST_EFFECTS" pos) (tC (.int 4)) := by
  obtain ⟨_, Y, G⟩ := Z.h
  obtain ⟨u, e⟩ := He.int_ok Y G (Z.d.fact 113)
  exact pe_glob hg e ⟨u, rfl⟩
theorem con_LONGEST_NAME {X : Cx} {pos : Pos} (Z : CT X.K X.mg) (hg : Gl X "LONGEST_NAME" := by rfl) : PE X (.Name "LONGEST_NAME" pos) (tC (.int 8)) := by
  obtain ⟨_, Y, G⟩ := Z.h
  obtain ⟨u, e⟩ := He.int_ok Y G (Z.d.fact 114)
  exact pe_glob hg e ⟨u, rfl⟩
theorem con_LETTERS {X : Cx} {pos : Pos} (Z : CT X.K X.mg) (hg : Gl X "LETTERS" := by rfl) : PE X (.Name "LETTERS" pos) (tC (.str "abcdefghijklmnopqrstuvwxyz")) := by
  obtain ⟨_, Y, G⟩ := Z.h
  obtain ⟨u, e⟩ := He.str_ok Y G (Z.d.fact 115)
  exact pe_glob hg e ⟨u, rfl⟩
theorem con_DIGITS {X : Cx} {pos : Pos} (Z : CT X.K X.mg) (hg : Gl X "DIGITS" := by rfl) : PE X (.Name "DIGITS" pos) (tC (.str "0123456789")) := by
  obtain ⟨_, Y, G⟩ := Z.h
  obtain ⟨u, e⟩ := He.str_ok Y G (Z.d.fact 116)
  exact pe_glob hg e ⟨u, rfl⟩
end
theorem sc_MethodError_told : FnScope ["self"] ["self"] (defScope s_MethodError_told) := ⟨rfl, rfl, rfl, by decide +kernel, rfl, by decide +kernel, by decide +kernel⟩
theorem sc_NoRatio_init : FnScope ["self", "word"] ["self", "word"] (defScope s_NoRatio_init) := ⟨rfl, rfl, rfl, by decide +kernel, rfl, by decide +kernel, by decide +kernel⟩
theorem sc_NoRatio_told : FnScope ["self"] ["self"] (defScope s_NoRatio_told) := ⟨rfl, rfl, rfl, by decide +kernel, rfl, by decide +kernel, by decide +kernel⟩
theorem sc_NoQuestion_init : FnScope ["self", "word"] ["self", "word"] (defScope s_NoQuestion_init) := ⟨rfl, rfl, rfl, by decide +kernel, rfl, by decide +kernel, by decide +kernel⟩
theorem sc_NoQuestion_told : FnScope ["self"] ["self"] (defScope s_NoQuestion_told) := ⟨rfl, rfl, rfl, by decide +kernel, rfl, by decide +kernel, by decide +kernel⟩
theorem sc_OtherEffects_told : FnScope ["self"] ["self"] (defScope s_OtherEffects_told) := ⟨rfl, rfl, rfl, by decide +kernel, rfl, by decide +kernel, by decide +kernel⟩
theorem sc_NoWorld_told : FnScope ["self"] ["self"] (defScope s_NoWorld_told) := ⟨rfl, rfl, rfl, by decide +kernel, rfl, by decide +kernel, by decide +kernel⟩
theorem sc_NoSuch_init : FnScope ["self", "name"] ["self", "name"] (defScope s_NoSuch_init) := ⟨rfl, rfl, rfl, by decide +kernel, rfl, by decide +kernel, by decide +kernel⟩
theorem sc_NoSuch_told : FnScope ["self"] ["self"] (defScope s_NoSuch_told) := ⟨rfl, rfl, rfl, by decide +kernel, rfl, by decide +kernel, by decide +kernel⟩
theorem sc_is_integer : FnScope ["value"] ["value"] (defScope s_is_integer) := ⟨rfl, rfl, rfl, by decide +kernel, rfl, by decide +kernel, by decide +kernel⟩
theorem sc_is_sequence : FnScope ["value"] ["value"] (defScope s_is_sequence) := ⟨rfl, rfl, rfl, by decide +kernel, rfl, by decide +kernel, by decide +kernel⟩
theorem sc_is_name : FnScope ["value", "char"] ["value"] (defScope s_is_name) := ⟨rfl, rfl, rfl, by decide +kernel, rfl, by decide +kernel, by decide +kernel⟩
theorem sc_are_names : FnScope ["value", "most", "item"] ["value", "most"] (defScope s_are_names) := ⟨rfl, rfl, rfl, by decide +kernel, rfl, by decide +kernel, by decide +kernel⟩
theorem sc_is_effects : FnScope ["value"] ["value"] (defScope s_is_effects) := ⟨rfl, rfl, rfl, by decide +kernel, rfl, by decide +kernel, by decide +kernel⟩
theorem sc_Ratio_init : FnScope ["self", "top", "bottom", "common"] ["self", "top", "bottom"] (defScope s_Ratio_init) := ⟨rfl, rfl, rfl, by decide +kernel, rfl, by decide +kernel, by decide +kernel⟩
theorem sc_Ratio_eq : FnScope ["self", "other"] ["self", "other"] (defScope s_Ratio_eq) := ⟨rfl, rfl, rfl, by decide +kernel, rfl, by decide +kernel, by decide +kernel⟩
theorem sc_Ratio_lt : FnScope ["self", "other", "right"] ["self", "other"] (defScope s_Ratio_lt) := ⟨rfl, rfl, rfl, by decide +kernel, rfl, by decide +kernel, by decide +kernel⟩
theorem sc_Ratio_le : FnScope ["self", "other", "right"] ["self", "other"] (defScope s_Ratio_le) := ⟨rfl, rfl, rfl, by decide +kernel, rfl, by decide +kernel, by decide +kernel⟩
theorem sc_Ratio_gt : FnScope ["self", "other", "right"] ["self", "other"] (defScope s_Ratio_gt) := ⟨rfl, rfl, rfl, by decide +kernel, rfl, by decide +kernel, by decide +kernel⟩
theorem sc_Ratio_ge : FnScope ["self", "other", "right"] ["self", "other"] (defScope s_Ratio_ge) := ⟨rfl, rfl, rfl, by decide +kernel, rfl, by decide +kernel, by decide +kernel⟩
theorem sc_Ratio_neg : FnScope ["self"] ["self"] (defScope s_Ratio_neg) := ⟨rfl, rfl, rfl, by decide +kernel, rfl, by decide +kernel, by decide +kernel⟩
theorem sc_Ratio_pos : FnScope ["self"] ["self"] (defScope s_Ratio_pos) := ⟨rfl, rfl, rfl, by decide +kernel, rfl, by decide +kernel, by decide +kernel⟩
theorem sc_Ratio_abs : FnScope ["self"] ["self"] (defScope s_Ratio_abs) := ⟨rfl, rfl, rfl, by decide +kernel, rfl, by decide +kernel, by decide +kernel⟩
theorem sc_Ratio_add : FnScope ["self", "other", "right"] ["self", "other"] (defScope s_Ratio_add) := ⟨rfl, rfl, rfl, by decide +kernel, rfl, by decide +kernel, by decide +kernel⟩
theorem sc_Ratio_radd : FnScope ["self", "other"] ["self", "other"] (defScope s_Ratio_radd) := ⟨rfl, rfl, rfl, by decide +kernel, rfl, by decide +kernel, by decide +kernel⟩
theorem sc_Ratio_sub : FnScope ["self", "other", "right"] ["self", "other"] (defScope s_Ratio_sub) := ⟨rfl, rfl, rfl, by decide +kernel, rfl, by decide +kernel, by decide +kernel⟩
theorem sc_Ratio_rsub : FnScope ["self", "other"] ["self", "other"] (defScope s_Ratio_rsub) := ⟨rfl, rfl, rfl, by decide +kernel, rfl, by decide +kernel, by decide +kernel⟩
theorem sc_Ratio_mul : FnScope ["self", "other", "right"] ["self", "other"] (defScope s_Ratio_mul) := ⟨rfl, rfl, rfl, by decide +kernel, rfl, by decide +kernel, by decide +kernel⟩
theorem sc_Ratio_rmul : FnScope ["self", "other"] ["self", "other"] (defScope s_Ratio_rmul) := ⟨rfl, rfl, rfl, by decide +kernel, rfl, by decide +kernel, by decide +kernel⟩
theorem sc_Ratio_floordiv : FnScope ["self", "other", "quotient"] ["self", "other"] (defScope s_Ratio_floordiv) := ⟨rfl, rfl, rfl, by decide +kernel, rfl, by decide +kernel, by decide +kernel⟩
theorem sc_Ratio_rfloordiv : FnScope ["self", "other"] ["self", "other"] (defScope s_Ratio_rfloordiv) := ⟨rfl, rfl, rfl, by decide +kernel, rfl, by decide +kernel, by decide +kernel⟩
theorem sc_Ratio_mod : FnScope ["self", "other"] ["self", "other"] (defScope s_Ratio_mod) := ⟨rfl, rfl, rfl, by decide +kernel, rfl, by decide +kernel, by decide +kernel⟩
theorem sc_Ratio_rmod : FnScope ["self", "other", "left"] ["self", "other"] (defScope s_Ratio_rmod) := ⟨rfl, rfl, rfl, by decide +kernel, rfl, by decide +kernel, by decide +kernel⟩
theorem sc_Ratio_pow : FnScope ["self", "other"] ["self", "other"] (defScope s_Ratio_pow) := ⟨rfl, rfl, rfl, by decide +kernel, rfl, by decide +kernel, by decide +kernel⟩
theorem sc_Ratio_over : FnScope ["self", "number", "right"] ["self", "number"] (defScope s_Ratio_over) := ⟨rfl, rfl, rfl, by decide +kernel, rfl, by decide +kernel, by decide +kernel⟩
theorem sc_Ratio_power : FnScope ["self", "k", "top", "bottom", "power_top", "power_bottom", "_"] ["self", "k"] (defScope s_Ratio_power) := ⟨rfl, rfl, rfl, by decide +kernel, rfl, by decide +kernel, by decide +kernel⟩
theorem sc_Ratio_text : FnScope ["self"] ["self"] (defScope s_Ratio_text) := ⟨rfl, rfl, rfl, by decide +kernel, rfl, by decide +kernel, by decide +kernel⟩
theorem sc_whole_number : FnScope ["digits", "char"] ["digits"] (defScope s_whole_number) := ⟨rfl, rfl, rfl, by decide +kernel, rfl, by decide +kernel, by decide +kernel⟩
theorem sc_is_number : FnScope ["value"] ["value"] (defScope s_is_number) := ⟨rfl, rfl, rfl, by decide +kernel, rfl, by decide +kernel, by decide +kernel⟩
theorem sc_as_ratio : FnScope ["number"] ["number"] (defScope s_as_ratio) := ⟨rfl, rfl, rfl, by decide +kernel, rfl, by decide +kernel, by decide +kernel⟩
theorem sc_are_numbers : FnScope ["value", "count", "item"] ["value", "count"] (defScope s_are_numbers) := ⟨rfl, rfl, rfl, by decide +kernel, rfl, by decide +kernel, by decide +kernel⟩
theorem sc_as_ratios : FnScope ["numbers", "number"] ["numbers"] (defScope s_as_ratios) := ⟨rfl, rfl, rfl, by decide +kernel, rfl, by decide +kernel, by decide +kernel⟩
theorem sc_Question_init : FnScope ["self", "effects", "weights"] ["self", "effects", "weights"] (defScope s_Question_init) := ⟨rfl, rfl, rfl, by decide +kernel, rfl, by decide +kernel, by decide +kernel⟩
theorem sc_Question_at : FnScope ["self", "world", "answer", "weight", "number"] ["self", "world"] (defScope s_Question_at) := ⟨rfl, rfl, rfl, by decide +kernel, rfl, by decide +kernel, by decide +kernel⟩
theorem sc_Question_eq : FnScope ["self", "other"] ["self", "other"] (defScope s_Question_eq) := ⟨rfl, rfl, rfl, by decide +kernel, rfl, by decide +kernel, by decide +kernel⟩
theorem sc_Question_add : FnScope ["self", "other", "one", "two"] ["self", "other"] (defScope s_Question_add) := ⟨rfl, rfl, rfl, by decide +kernel, rfl, by decide +kernel, by decide +kernel⟩
theorem sc_Question_sub : FnScope ["self", "other"] ["self", "other"] (defScope s_Question_sub) := ⟨rfl, rfl, rfl, by decide +kernel, rfl, by decide +kernel, by decide +kernel⟩
theorem sc_Question_neg : FnScope ["self", "weight"] ["self"] (defScope s_Question_neg) := ⟨rfl, rfl, rfl, by decide +kernel, rfl, by decide +kernel, by decide +kernel⟩
theorem sc_Question_mul : FnScope ["self", "other", "weight"] ["self", "other"] (defScope s_Question_mul) := ⟨rfl, rfl, rfl, by decide +kernel, rfl, by decide +kernel, by decide +kernel⟩
theorem sc_Question_rmul : FnScope ["self", "other"] ["self", "other"] (defScope s_Question_rmul) := ⟨rfl, rfl, rfl, by decide +kernel, rfl, by decide +kernel, by decide +kernel⟩
theorem sc_Question_over : FnScope ["self", "number", "weight"] ["self", "number"] (defScope s_Question_over) := ⟨rfl, rfl, rfl, by decide +kernel, rfl, by decide +kernel, by decide +kernel⟩
theorem sc_check_same_effects : FnScope ["one", "other"] ["one", "other"] (defScope s_check_same_effects) := ⟨rfl, rfl, rfl, by decide +kernel, rfl, by decide +kernel, by decide +kernel⟩
theorem sc_effect : FnScope ["effects", "name", "other"] ["effects", "name"] (defScope s_effect) := ⟨rfl, rfl, rfl, by decide +kernel, rfl, by decide +kernel, by decide +kernel⟩
theorem sc_nothing : FnScope ["effects"] ["effects"] (defScope s_nothing) := ⟨rfl, rfl, rfl, by decide +kernel, rfl, by decide +kernel, by decide +kernel⟩
theorem sc_cell : FnScope ["_law_script", "_law_k"] ["_law_script", "_law_k"] (defScope s_cell) := ⟨rfl, rfl, rfl, by decide +kernel, rfl, by decide +kernel, by decide +kernel⟩
theorem sc_pouch : FnScope ["_law_script", "_law_k", "_law_number_here"] ["_law_script", "_law_k"] (defScope s_pouch) := ⟨rfl, rfl, rfl, by decide +kernel, rfl, by decide +kernel, by decide +kernel⟩
theorem sc_draw : FnScope ["_law_pouch_here", "_law_many", "_law_number_here", "_law_k", "_law_mixed"] ["_law_pouch_here", "_law_many"] (defScope s_draw) := ⟨rfl, rfl, rfl, by decide +kernel, rfl, by decide +kernel, by decide +kernel⟩
theorem sc_number : FnScope ["_law_pouch_here", "_law_kind", "_law_sign"] ["_law_pouch_here"] (defScope s_number) := ⟨rfl, rfl, rfl, by decide +kernel, rfl, by decide +kernel, by decide +kernel⟩
theorem sc_make : FnScope ["_law_pair"] ["_law_pair"] (defScope s_make) := ⟨rfl, rfl, rfl, by decide +kernel, rfl, by decide +kernel, by decide +kernel⟩
theorem sc_name : FnScope ["_law_pouch_here", "_law_taken", "_law_letters", "_law_size", "_law_name_here", "_law_k"] ["_law_pouch_here", "_law_taken"] (defScope s_name) := ⟨rfl, rfl, rfl, by decide +kernel, rfl, by decide +kernel, by decide +kernel⟩
theorem sc_Leffects : FnScope ["_law_pouch_here", "_law_many", "_law_names", "_law_k"] ["_law_pouch_here", "_law_many"] (defScope s_Leffects) := ⟨rfl, rfl, rfl, by decide +kernel, rfl, by decide +kernel, by decide +kernel⟩
theorem sc_made : FnScope ["_law_effects_here", "_law_weights", "_law_told", "_law_made_here", "e"] ["_law_effects_here", "_law_weights"] (defScope s_made) := ⟨rfl, rfl, rfl, by decide +kernel, rfl, by decide +kernel, by decide +kernel⟩
theorem sc_asked : FnScope ["_law_question", "_law_world", "_law_told", "_law_answer", "e"] ["_law_question", "_law_world"] (defScope s_asked) := ⟨rfl, rfl, rfl, by decide +kernel, rfl, by decide +kernel, by decide +kernel⟩
theorem sc_single : FnScope ["_law_effects_here", "_law_name_here", "_law_told", "_law_made_here", "e"] ["_law_effects_here", "_law_name_here"] (defScope s_single) := ⟨rfl, rfl, rfl, by decide +kernel, rfl, by decide +kernel, by decide +kernel⟩
theorem sc_empty : FnScope ["_law_effects_here", "_law_told", "_law_made_here", "e"] ["_law_effects_here"] (defScope s_empty) := ⟨rfl, rfl, rfl, by decide +kernel, rfl, by decide +kernel, by decide +kernel⟩
theorem sc_joined : FnScope ["_law_q", "_law_r", "_law_way", "_law_told", "_law_made_here", "e"] ["_law_q", "_law_r", "_law_way"] (defScope s_joined) := ⟨rfl, rfl, rfl, by decide +kernel, rfl, by decide +kernel, by decide +kernel⟩
theorem sc_bad_effects : FnScope ["_law_pouch_here", "_law_effects_here", "_law_way", "_law_at", "_law_bad"] ["_law_pouch_here", "_law_effects_here"] (defScope s_bad_effects) := ⟨rfl, rfl, rfl, by decide +kernel, rfl, by decide +kernel, by decide +kernel⟩
theorem sc_bad_numbers : FnScope ["_law_pouch_here", "_law_numbers", "_law_way", "_law_at", "_law_bad"] ["_law_pouch_here", "_law_numbers"] (defScope s_bad_numbers) := ⟨rfl, rfl, rfl, by decide +kernel, rfl, by decide +kernel, by decide +kernel⟩
theorem sc_zero : FnScope ["_law_q", "_law_told", "_law_made_here", "e"] ["_law_q"] (defScope s_zero) := ⟨rfl, rfl, rfl, by decide +kernel, rfl, by decide +kernel, by decide +kernel⟩
theorem sc_singles : FnScope ["_law_pouch_here", "_law_effects_here", "_law_spoiled", "_law_odd", "_law_strange", "_law_due", "_law_known"] ["_law_pouch_here", "_law_effects_here", "_law_spoiled"] (defScope s_singles) := ⟨rfl, rfl, rfl, by decide +kernel, rfl, by decide +kernel, by decide +kernel⟩
theorem sc_sums : FnScope ["_law_effects_here", "_law_other", "_law_q", "_law_r", "_law_due"] ["_law_effects_here", "_law_other", "_law_q"] (defScope s_sums) := ⟨rfl, rfl, rfl, by decide +kernel, rfl, by decide +kernel, by decide +kernel⟩
theorem sc_law : FnScope ["_law_script", "_law_pouch_here", "_law_effects_here", "_law_weights", "_law_world", "_law_spoiled", "_law_numbers", "_law_q", "_law_other", "_law_k"] ["_law_script"] (defScope s_law) := ⟨rfl, rfl, rfl, by decide +kernel, rfl, by decide +kernel, by decide +kernel⟩
end My

namespace My
open PySem PySem.W PySem.Calls PyProof.Rows HandSHeadRun
noncomputable abbrev XW (w : World) : Option (Shared × SharedT) := wholeF (fun p => stepQ (denQ tabQ) p w) fenceQ 20000 R.prog
theorem grp0 (w : World) : (XW w).map (fun x => (looksF R.prog x.1.heap x.2.abs, (seenQ (view R.prog [0, 50]) loose (importedModules R.prog.main.body) (fun s => xlAt (view R.prog [0, 50]) [] s && recOk R.toRowW.records s) x.2.abs))) = some (true, (openGood (view R.prog [0, 50]) loose)) := by kernel_rfl
theorem runL (w : World) : (XW w).map (fun x => looksF R.prog x.1.heap x.2.abs) = some (true) := hFst (grp0 w)
theorem runS (w : World) : (XW w).map (fun x => seenQ (view R.prog [0, 50]) loose (importedModules R.prog.main.body) (fun s => xlAt (view R.prog [0, 50]) [] s && recOk R.toRowW.records s) x.2.abs) = some (openGood (view R.prog [0, 50]) loose) := (hSnd (grp0 w))
theorem grp1 (w : World) : (XW w).map (fun x => (ex (KOf x.2), (fa0.all fun f => f.ok (KOf x.2), (fa1.all fun f => f.ok (KOf x.2), (fa2.all fun f => f.ok (KOf x.2), (fa3.all fun f => f.ok (KOf x.2), (fa4.all fun f => f.ok (KOf x.2)))))))) = some (true, (true, (true, (true, (true, (true)))))) := by kernel_rfl
theorem runE (w : World) : (XW w).map (fun x => ex (KOf x.2)) = some (true) := hFst (grp1 w)
theorem runF0 (w : World) : (XW w).map (fun x => fa0.all fun f => f.ok (KOf x.2)) = some (true) := hFst (hSnd (grp1 w))
theorem runF1 (w : World) : (XW w).map (fun x => fa1.all fun f => f.ok (KOf x.2)) = some (true) := hFst (hSnd (hSnd (grp1 w)))
theorem runF2 (w : World) : (XW w).map (fun x => fa2.all fun f => f.ok (KOf x.2)) = some (true) := hFst (hSnd (hSnd (hSnd (grp1 w))))
theorem runF3 (w : World) : (XW w).map (fun x => fa3.all fun f => f.ok (KOf x.2)) = some (true) := hFst (hSnd (hSnd (hSnd (hSnd (grp1 w)))))
theorem runF4 (w : World) : (XW w).map (fun x => fa4.all fun f => f.ok (KOf x.2)) = some (true) := (hSnd (hSnd (hSnd (hSnd (hSnd (grp1 w))))))
theorem grp2 (w : World) : (XW w).map (fun x => ((fn0.all fun d => d.ok (KOf x.2), fn0.map fun d => He.fnW (KOf x.2) d.at_), ((fn1.all fun d => d.ok (KOf x.2), fn1.map fun d => He.fnW (KOf x.2) d.at_), ((fn2.all fun d => d.ok (KOf x.2), fn2.map fun d => He.fnW (KOf x.2) d.at_))))) = some ((true, fn0.map He.DefD.val), ((true, fn1.map He.DefD.val), ((true, fn2.map He.DefD.val)))) := by kernel_rfl
theorem runD0 (w : World) : (XW w).map (fun x => (fn0.all fun d => d.ok (KOf x.2), fn0.map fun d => He.fnW (KOf x.2) d.at_)) = some ((true, fn0.map He.DefD.val)) := hFst (grp2 w)
theorem runD1 (w : World) : (XW w).map (fun x => (fn1.all fun d => d.ok (KOf x.2), fn1.map fun d => He.fnW (KOf x.2) d.at_)) = some ((true, fn1.map He.DefD.val)) := hFst (hSnd (grp2 w))
theorem runD2 (w : World) : (XW w).map (fun x => (fn2.all fun d => d.ok (KOf x.2), fn2.map fun d => He.fnW (KOf x.2) d.at_)) = some ((true, fn2.map He.DefD.val)) := (hSnd (hSnd (grp2 w)))
section
variable {X : Option (Shared × SharedT)}
theorem cF4 (h4 : X.map (fun x => (fa4).all fun f => f.ok (KOf x.2)) = some true) : X.map (fun x => (fa4).all fun f => f.ok (KOf x.2)) = some true := h4
theorem cF3 (h3 : X.map (fun x => (fa3).all fun f => f.ok (KOf x.2)) = some true) (h4 : X.map (fun x => (fa4).all fun f => f.ok (KOf x.2)) = some true) : X.map (fun x => ((fa3 ++ fa4)).all fun f => f.ok (KOf x.2)) = some true := hAll (X := X) (P := fun (x : Shared × SharedT) (f : He.Fa) => f.ok (KOf x.2)) (p := fa3) (q := fa4) h3 (cF4 h4)
theorem cF2 (h2 : X.map (fun x => (fa2).all fun f => f.ok (KOf x.2)) = some true) (h3 : X.map (fun x => (fa3).all fun f => f.ok (KOf x.2)) = some true) (h4 : X.map (fun x => (fa4).all fun f => f.ok (KOf x.2)) = some true) : X.map (fun x => ((fa2 ++ (fa3 ++ fa4))).all fun f => f.ok (KOf x.2)) = some true := hAll (X := X) (P := fun (x : Shared × SharedT) (f : He.Fa) => f.ok (KOf x.2)) (p := fa2) (q := (fa3 ++ fa4)) h2 (cF3 h3 h4)
theorem cF1 (h1 : X.map (fun x => (fa1).all fun f => f.ok (KOf x.2)) = some true) (h2 : X.map (fun x => (fa2).all fun f => f.ok (KOf x.2)) = some true) (h3 : X.map (fun x => (fa3).all fun f => f.ok (KOf x.2)) = some true) (h4 : X.map (fun x => (fa4).all fun f => f.ok (KOf x.2)) = some true) : X.map (fun x => ((fa1 ++ (fa2 ++ (fa3 ++ fa4)))).all fun f => f.ok (KOf x.2)) = some true := hAll (X := X) (P := fun (x : Shared × SharedT) (f : He.Fa) => f.ok (KOf x.2)) (p := fa1) (q := (fa2 ++ (fa3 ++ fa4))) h1 (cF2 h2 h3 h4)
theorem cF0 (h0 : X.map (fun x => (fa0).all fun f => f.ok (KOf x.2)) = some true) (h1 : X.map (fun x => (fa1).all fun f => f.ok (KOf x.2)) = some true) (h2 : X.map (fun x => (fa2).all fun f => f.ok (KOf x.2)) = some true) (h3 : X.map (fun x => (fa3).all fun f => f.ok (KOf x.2)) = some true) (h4 : X.map (fun x => (fa4).all fun f => f.ok (KOf x.2)) = some true) : X.map (fun x => ((fa0 ++ (fa1 ++ (fa2 ++ (fa3 ++ fa4))))).all fun f => f.ok (KOf x.2)) = some true := hAll (X := X) (P := fun (x : Shared × SharedT) (f : He.Fa) => f.ok (KOf x.2)) (p := fa0) (q := (fa1 ++ (fa2 ++ (fa3 ++ fa4)))) h0 (cF1 h1 h2 h3 h4)
theorem cD2 (h2 : X.map (fun x => ((fn2).all fun d => d.ok (KOf x.2), (fn2).map fun d => He.fnW (KOf x.2) d.at_)) = some (true, (fn2).map He.DefD.val)) : X.map (fun x => ((fn2).all fun d => d.ok (KOf x.2), (fn2).map fun d => He.fnW (KOf x.2) d.at_)) = some (true, (fn2).map He.DefD.val) := h2
theorem cD1 (h1 : X.map (fun x => ((fn1).all fun d => d.ok (KOf x.2), (fn1).map fun d => He.fnW (KOf x.2) d.at_)) = some (true, (fn1).map He.DefD.val)) (h2 : X.map (fun x => ((fn2).all fun d => d.ok (KOf x.2), (fn2).map fun d => He.fnW (KOf x.2) d.at_)) = some (true, (fn2).map He.DefD.val)) : X.map (fun x => (((fn1 ++ fn2)).all fun d => d.ok (KOf x.2), ((fn1 ++ fn2)).map fun d => He.fnW (KOf x.2) d.at_)) = some (true, ((fn1 ++ fn2)).map He.DefD.val) := hDef (X := X) (P := fun (x : Shared × SharedT) (d : He.DefD) => d.ok (KOf x.2)) (G := fun (x : Shared × SharedT) (d : He.DefD) => He.fnW (KOf x.2) d.at_) (V := He.DefD.val) (p := fn1) (q := fn2) h1 (cD2 h2)
theorem cD0 (h0 : X.map (fun x => ((fn0).all fun d => d.ok (KOf x.2), (fn0).map fun d => He.fnW (KOf x.2) d.at_)) = some (true, (fn0).map He.DefD.val)) (h1 : X.map (fun x => ((fn1).all fun d => d.ok (KOf x.2), (fn1).map fun d => He.fnW (KOf x.2) d.at_)) = some (true, (fn1).map He.DefD.val)) (h2 : X.map (fun x => ((fn2).all fun d => d.ok (KOf x.2), (fn2).map fun d => He.fnW (KOf x.2) d.at_)) = some (true, (fn2).map He.DefD.val)) : X.map (fun x => (((fn0 ++ (fn1 ++ fn2))).all fun d => d.ok (KOf x.2), ((fn0 ++ (fn1 ++ fn2))).map fun d => He.fnW (KOf x.2) d.at_)) = some (true, ((fn0 ++ (fn1 ++ fn2))).map He.DefD.val) := hDef (X := X) (P := fun (x : Shared × SharedT) (d : He.DefD) => d.ok (KOf x.2)) (G := fun (x : Shared × SharedT) (d : He.DefD) => He.fnW (KOf x.2) d.at_) (V := He.DefD.val) (p := fn0) (q := (fn1 ++ fn2)) h0 (cD1 h1 h2)
theorem faq : fa = (fa0 ++ (fa1 ++ (fa2 ++ (fa3 ++ fa4)))) := rfl
theorem fnq : fn = (fn0 ++ (fn1 ++ fn2)) := rfl
theorem cF (h0 : X.map (fun x => (fa0).all fun f => f.ok (KOf x.2)) = some true) (h1 : X.map (fun x => (fa1).all fun f => f.ok (KOf x.2)) = some true) (h2 : X.map (fun x => (fa2).all fun f => f.ok (KOf x.2)) = some true) (h3 : X.map (fun x => (fa3).all fun f => f.ok (KOf x.2)) = some true) (h4 : X.map (fun x => (fa4).all fun f => f.ok (KOf x.2)) = some true) : X.map (fun x => (fa).all fun f => f.ok (KOf x.2)) = some true := by
  rw [faq]; exact cF0 h0 h1 h2 h3 h4
theorem cD (h0 : X.map (fun x => ((fn0).all fun d => d.ok (KOf x.2), (fn0).map fun d => He.fnW (KOf x.2) d.at_)) = some (true, (fn0).map He.DefD.val)) (h1 : X.map (fun x => ((fn1).all fun d => d.ok (KOf x.2), (fn1).map fun d => He.fnW (KOf x.2) d.at_)) = some (true, (fn1).map He.DefD.val)) (h2 : X.map (fun x => ((fn2).all fun d => d.ok (KOf x.2), (fn2).map fun d => He.fnW (KOf x.2) d.at_)) = some (true, (fn2).map He.DefD.val)) : X.map (fun x => ((fn).all fun d => d.ok (KOf x.2), (fn).map fun d => He.fnW (KOf x.2) d.at_)) = some (true, (fn).map He.DefD.val) := by
  rw [fnq]; exact cD0 h0 h1 h2
end
theorem runF (w : World) : (XW w).map (fun x => fa.all fun f => f.ok (KOf x.2)) = some true := cF (X := XW w) (runF0 w) (runF1 w) (runF2 w) (runF3 w) (runF4 w)
theorem runD (w : World) : (XW w).map (fun x => (fn.all fun d => d.ok (KOf x.2), fn.map fun d => He.fnW (KOf x.2) d.at_)) = some (true, fn.map He.DefD.val) := cD (X := XW w) (runD0 w) (runD1 w) (runD2 w)
theorem run (w : World) : RunEqI R (view R.prog [0, 50]) hk ob 20000 loose w := hRun (fa := fa) (fn := fn) (ex := ex) (runL w) (runS w) (runE w) (runF w) (runD w)
end My

namespace My
open PySem PySem.Spec PyProof.Rows L2 PySem.Calls
section
variable (a : Int) (t : Tok) (l C dx : Addr)
theorem ni_add : Meets (Builtin.«int.__add__» ⟨[.int a t, .ref l], []⟩) (fun _ R s => s.heap.get? l = some (PySem.W.instObj C dx) ∧ R (.ok (.ret Value.notImplemented)) s) :=
  .of_wp fun prog w A R s h => by obtain ⟨hp, g, d, tk, os⟩ := s; obtain ⟨hl, h⟩ := h; unfold PySem.W.instObj at hl; wp_walk; exact ⟨_, rfl, h⟩
theorem ni_sub : Meets (Builtin.«int.__sub__» ⟨[.int a t, .ref l], []⟩) (fun _ R s => s.heap.get? l = some (PySem.W.instObj C dx) ∧ R (.ok (.ret Value.notImplemented)) s) :=
  .of_wp fun prog w A R s h => by obtain ⟨hp, g, d, tk, os⟩ := s; obtain ⟨hl, h⟩ := h; unfold PySem.W.instObj at hl; wp_walk; exact ⟨_, rfl, h⟩
theorem ni_mul : Meets (Builtin.«int.__mul__» ⟨[.int a t, .ref l], []⟩) (fun _ R s => s.heap.get? l = some (PySem.W.instObj C dx) ∧ R (.ok (.ret Value.notImplemented)) s) :=
  .of_wp fun prog w A R s h => by obtain ⟨hp, g, d, tk, os⟩ := s; obtain ⟨hl, h⟩ := h; unfold PySem.W.instObj at hl; wp_walk; exact ⟨_, rfl, h⟩
theorem ni_floordiv : Meets (Builtin.«int.__floordiv__» ⟨[.int a t, .ref l], []⟩) (fun _ R s => s.heap.get? l = some (PySem.W.instObj C dx) ∧ R (.ok (.ret Value.notImplemented)) s) :=
  .of_wp fun prog w A R s h => by obtain ⟨hp, g, d, tk, os⟩ := s; obtain ⟨hl, h⟩ := h; unfold PySem.W.instObj at hl; wp_walk; exact ⟨_, rfl, h⟩
theorem ni_mod : Meets (Builtin.«int.__mod__» ⟨[.int a t, .ref l], []⟩) (fun _ R s => s.heap.get? l = some (PySem.W.instObj C dx) ∧ R (.ok (.ret Value.notImplemented)) s) :=
  .of_wp fun prog w A R s h => by obtain ⟨hp, g, d, tk, os⟩ := s; obtain ⟨hl, h⟩ := h; unfold PySem.W.instObj at hl; wp_walk; exact ⟨_, rfl, h⟩
end
/-- what is known of int's own slot of an operator -/
structure IntSlot (op : Operator) (id : String) (B : Builtin) : Prop where
  fills : fillsNumberSlot (.type "int") op.info.2 = pure true
  slot : Slot "int" (PySem.dunder op.info.2) id
  entry : entryFor table id = some B
  args : ∀ a b : Value, argsOk id ⟨[a, b], []⟩
  ni : ∀ (a : Int) (t : Tok) (l C dx : Addr), Meets (B ⟨[.int a t, .ref l], []⟩) (fun _ R s => s.heap.get? l = some (PySem.W.instObj C dx) ∧ R (.ok (.ret Value.notImplemented)) s)
theorem is_add : IntSlot .Add "int.__add__" Builtin.«int.__add__» := ⟨F.fills_int_add, F.slot_int_add, F.entry_int_add, F.args_int_add_2, ni_add⟩
theorem is_sub : IntSlot .Sub "int.__sub__" Builtin.«int.__sub__» := ⟨F.fills_int_sub, F.slot_int_sub, F.entry_int_sub, F.args_int_sub_2, ni_sub⟩
theorem is_mul : IntSlot .Mult "int.__mul__" Builtin.«int.__mul__» := ⟨F.fills_int_mul, F.slot_int_mul, F.entry_int_mul, F.args_int_mul_2, ni_mul⟩
theorem is_floordiv : IntSlot .FloorDiv "int.__floordiv__" Builtin.«int.__floordiv__» := ⟨F.fills_int_floordiv, F.slot_int_floordiv, F.entry_int_floordiv, F.args_int_floordiv_2, ni_floordiv⟩
theorem is_mod : IntSlot .Mod "int.__mod__" Builtin.«int.__mod__» := ⟨F.fills_int_mod, F.slot_int_mod, F.entry_int_mod, F.args_int_mod_2, ni_mod⟩
section
variable {prog : Program} {w : World} {A : Around} {E : Value → Shared → Prop} {s : Shared} {K : PySem.W.Frag} {x C dx f g : Addr} {od : Option Obj} {i : Int} {t : Tok} {op : Operator} {id : String} {B : Builtin}
theorem try_int {Q : Option Value → Shared → Prop} (S : IntSlot op id B) (ho : s.heap.get? x = some (PySem.W.instObj C dx)) (h : Q none s) : wpAny (model prog w) A (tryMethod (.int i t) (PySem.dunder op.info.2) (.ref x)) Q E s := by
  unfold tryMethod
  refine wpAny_bind (wpAny_callSpecial?_slot (typeIs_int s i t) S.slot (call_meets S.slot (typeIs_int s i t) S.entry (S.args _ _) (S.ni i t x C dx) ⟨ho, ?_⟩))
  exact wpAny_pure h
/-- i op x, x an instance: the reflected def of its class is called -/
theorem bin_refl {Q : Value → Shared → Prop} (S : IntSlot op id B) (X : K.In s.heap) (I : PySem.W.InstAt s.heap x (PySem.W.instObj C dx) C od) (hc : PySem.W.selfFirst K C = true) (hl : PySem.W.findIn K (.ref C) (PySem.dunder op.info.2) = some (some (.ref f)))
    (hr : PySem.W.findIn K (.ref C) (dunderR op.info.2) = some (some (.ref g))) (hf : PySem.W.isFn K (.ref g) = true) (hsub : PySem.W.subIn K (.ref C) (.type "int") = some false)
    (h : wpAny (model prog w) A (call (.ref g) [.ref x, .int i t]) (PySem.W.CmpBack Q) E s) : wpAny (model prog w) A (binaryOp op (.int i t) (.ref x)) Q E s := by
  obtain ⟨cd, rest, hcd, hm⟩ := PySem.W.ksp_first hc
  have one := PySem.W.ksp_try X I hr hf h
  have zero : ∀ {Q : Option Value → Shared → Prop}, Q none s → wpAny (model prog w) A (tryMethod (.int i t) (PySem.dunder op.info.2) (.ref x)) Q E s := fun q => try_int S I.at_ q
  obtain ⟨hh, g', d, tt, os⟩ := s
  have L1 : PySem.W.Looks (model prog w) hh (typeOf (.int i t)) (.type "int") := PySem.W.Looks.of_pure rfl
  have L2 : PySem.W.Looks (model prog w) hh (typeOf (.ref x)) (.ref C) := I.type
  have L3 : PySem.W.Looks (model prog w) hh (fillsNumberSlot (.type "int") op.info.2) true := PySem.W.Looks.of_pure S.fills
  have L4 : PySem.W.Looks (model prog w) hh (fillsNumberSlot (.ref C) op.info.2) true := PySem.W.fills_K X hcd hm hl
  have L5 : PySem.W.Looks (model prog w) hh (isSubtype (.ref C) (.type "int")) false := PySem.W.looks_subIn X hsub
  have L6 : PySem.W.Looks (model prog w) hh (numberSlotInPython (.type "int") op.info.2) false := PySem.W.Looks.of_pure rfl
  have hne : (Value.type "int" == Value.ref C) = false := Bool.eq_false_iff.mpr fun q => by cases beq_iff_eq.mp q
  rcases hi : op.info with ⟨sym, nm'⟩
  rw [hi] at one zero L3 L4 L6
  dsimp only at one zero L3 L4 L6
  simp only [binaryOp, hi]
  refine wpAny_holding (wpAny_bind ?_)
  unfold binaryOp1
  refine wpAny_bind (L1.at (wpAny_bind (L2.at (wpAny_bind (L3.at ?_)))))
  simp only [hne, Bool.false_eq_true, if_false]
  ksp_lk
  refine zero ?_
  ksp_lk
  refine wpAny_mono one (fun r s' hr' => ?_) fun _ _ e => e
  obtain ⟨v, rfl, hq⟩ := hr'
  ksp_lk
  exact hq
end
end My

namespace My
open PySem PySem.Spec PyProof.Rows L2 PySem.Calls
/-! ### errors raised where nothing is handled -/
section
variable {X : Cx} {C : Addr}
/-- C(e, ..) to be raised: its own __init__ keeps sp -/
def tRzO (C : Addr) (sp : Sp) (ta : TA) : L2.St → Hp → XK → Prop := fun σ H Q => ta σ H fun vs H1 => vs.length ≤ 1000 ∧ ∀ a, H1 a = none → sp (.ref a :: vs) (upd H1 a (exo a C none))
  (fun v H2 => v = .non ∧ ∃ (d : Addr) (fs : List (Str × V)), H2 a = some (exo a C (some d)) ∧ H2 d = some (exd d fs) ∧ H1 d = none ∧ Q (.ref C) (some d) (upd (del H2 a) d (.xd fs))) (fun _ _ _ => False)
theorem pmkN_oex {CX : CXT} {x : Str} {fI : Addr} {k : Nat} {fd : FuncData} {ps : List Str} {sp : Sp} {e : Expr} {es : List Expr} {ta : TA} {p pos : Pos} (T : OexC X.K C) (iC : PySem.W.findIn X.K (.ref C) "__init__" = some (some (.ref fI))) (tI : PySem.W.typeIn X.K (.ref fI) = some (.type "function"))
    (F1 : FnOk X.prog X.w X.K X.mg X.base CX k fI fd ps sp) (hr : Room (k + 1) X.A) (hb : Binds X.K fd ps []) (hx : Passes CX X (fun _ _ _ => False)) (hm : X.mg x = some (.ref C)) (ha : PA X (e :: es) ta) (hg : Gl X x := by rfl)
    (hdb : (x == ("__debug__" : Str)) = false := by decide) (he : starEach (e :: es) X.env = (false, eval e X.env) :: starEach es X.env := by rfl) (hpl : (backTo pos (starEach es X.env)).any (·.1) = false := by rfl) :
    L2N.PMk X (.Call (.Name x p) (e :: es) [] pos) (tRzO C sp ta) := by
  intro pins s σ H Q I h
  obtain ⟨nm, q, N, bs, bm, sn, sub, ab, col, dd, k0, k1, k2, k3, k5, hC, hbm⟩ := T.cls
  refine wpAny_Call_Name_kw (ld_glob I hg hm (PySem.W.callWith_K (h₀ := X.base) I.ok.mod.kin T.kC (thn (ha.run pos pins s σ H _ I h) fun us s1 ⟨vs, H1, I1, r1, hz, q1⟩ => ⟨I1.kIn, ?_⟩) he hpl) hdb)
  change wpAny _ _ (call (.ref C) us) _ _ _
  obtain ⟨hp, g, dw, tk, os⟩ := s1
  have hsz : hp.objs.size ≤ hp.objs.size + 1 := Nat.le_succ _
  have hn : H1 (hp.objs.size + 1) = none := I1.hok.fresh hsz
  have hq := q1 (hp.objs.size + 1) hn
  have kk : ∀ b o, hp.get? b = some o → ((hp.push (PySem.W.kdv_tup us)).push (PySem.HandSPX.excO C hp.objs.size)).get? b = some o := fun b o z => Heap.get?_push_of_some _ (Heap.get?_push_of_some _ z)
  have hget : ((hp.push (PySem.W.kdv_tup us)).push (PySem.HandSPX.excO C hp.objs.size)).get? (hp.objs.size + 1) = some (PySem.HandSPX.excO C hp.objs.size) := by heap_get
  have I2 := I1.laid (t' := tk) (a := hp.objs.size + 1) (o := exo (hp.objs.size + 1) C none) (h' := (hp.push (PySem.W.kdv_tup us)).push (PySem.HandSPX.excO C hp.objs.size)) kk hsz (exo_ok hget)
  have r2 : Vals (V.ref (hp.objs.size + 1) :: vs) (Value.ref (hp.objs.size + 1) :: us) := .cons rfl r1
  have hl : (Value.ref (hp.objs.size + 1) :: us).length = ps.length := by rw [← F1.len _ _ _ _ hq]; exact r2.length.symm
  have hus : us.length ≤ sizeLine := by rw [← Paired.length r1, sizeLine_eq]; omega
  refine wpAny_call (PySem.HandSPX.call_own F.excBase_ValueError (fun Y => PySem.HandSPX.refsVE_contains Y bm hbm) (I1.kIn _ _ hC) (PySem.W.looks_findIn I1.kIn iC) (fun self => PySem.W.bind_fn I1.kIn self tI) hus (codeAny_mono (F1.run _ X.stack _ _ ⟨Value.ref (hp.objs.size + 1) :: us, []⟩ (Value.ref (hp.objs.size + 1) :: us) _ _ (fun _ _ _ => False) (hr.make C us []) (I2.env0.make C us []) (by have z := hb _ (Value.ref (hp.objs.size + 1) :: us) I2.kIn (by rw [List.append_nil]; exact hl); rw [List.append_nil] at z; exact z) r2 hq) fun r s' hq' => ?_))
  cases r with
  | error er => exact hx pins σ _ _ er s' I2 hq'
  | ok fl =>
    cases fl with
    | ret u =>
      obtain ⟨v, H2, os2, bare2, un2, hok2, rv, ev, d, fs, ea, ed, hd1, q2⟩ := hq'
      subst ev
      obtain ⟨h2, g2, d2, t2, os'⟩ := s'
      obtain ⟨t0, G, J, kG, ge, hoe, na⟩ := mk_end0 (d2 := d2) (t2 := t2) I1 hsz kk un2 hok2 os2 bare2 ea ed hd1
      exact ⟨rv, ⟨_, _, _, ⟨G, g2, d2, t2, os'⟩, _, .ref C, some d, rfl, J, kG, ge, hoe, ⟨rfl, rfl, fun vs z => by cases z; rfl⟩, rfl, rfl, na, rfl, bare2, raises_own T.exC T.tyC, q2⟩⟩
    | next => exact False.elim hq'
    | brk => exact False.elim hq'
    | cont => exact False.elim hq'
/-- C(v) to be raised, C's __init__ storing v as g -/
def tRz (C : Addr) (g : Str) (t : TA) : L2.St → Hp → XK → Prop := fun σ H Q => t σ H fun vs H1 => ∃ v, vs = [v] ∧ ∀ d H', Same H1 H' → H' d = some (.xd [(g, v)]) → Q (.ref C) (some d) H'
theorem pmkN_ini1 {x g y q : Str} {pa : Arguments} {sc : Scope} {body : List Stmt} {p1 p2 p3 p4 p pos : Pos} {f : Addr} {e : Expr} {es : List Expr} {t : TA} {k : Nat} (T : XCls X.K (He.ga X.K x)) (no : PySem.W.findIn X.K (.ref (He.ga X.K x)) g = some none) (gl : X.mg x = some (.ref (He.ga X.K x))) (me : Meth X.K (He.ga X.K x) "__init__" f)
    (F : ∃ fd, FunD X.K "__init__" q pa body sc [] [] f fd) (S : FnScope ["self", y] ["self", y] sc)
    (hb : body = [.Assign [.Attribute (.Name "self" p1) g p2] (.Name y p3) p4]) (v0 : Vis sc "self") (v1 : Vis sc y) (hy : (y == ("__debug__" : Str)) = false) (hy2 : (y == ("__classdict__" : Str)) = false)
    (bind : ∀ (kV doc pm : Value) (an : Option Addr) (cdv ct : Value) (us : List Value), us.length = 2 → bindArgs (PySem.W.fnOf "__init__" q pa body sc .none kV doc pm an cdv ct) ⟨us, []⟩ = pure ((["self", y] : List Str).zip us)) (hdb : (x == ("__debug__" : Str)) = false)
    (hr : Room k X.A) (ha : PA X (e :: es) t) (hk : 2 ≤ k := by decide) (hg : Gl X x := by rfl) (he : starEach (e :: es) X.env = (false, eval e X.env) :: starEach es X.env := by rfl) (hpl : (backTo pos (starEach es X.env)).any (·.1) = false := by rfl) :
    L2N.PMk X (.Call (.Name x p) (e :: es) [] pos) (tRz (He.ga X.K x) g t) := by
  obtain ⟨fd, F⟩ := F
  intro pins s σ H Q I h
  refine pmkN_oex T.ox me.at_ (isFn_ty me.fn) (ok_ini1 F T S no v0 v1 hy hy2 hb) (hr.mono hk) (F.bindsN bind) pass0 gl (wk_a ha) hg hdb he hpl pins s σ H Q I ⟨_, h, fun vs H1 ⟨v, ev, z⟩ => ?_⟩
  subst ev
  refine ⟨by show 1 ≤ 1000; decide, fun a hn => ⟨a, v, rfl, upd_same, fun d hd hne => ⟨rfl, d, _, upd_same, by rw [upd_ne hne, upd_same], ?_, z d _ (fun b o y => ?_) upd_same⟩⟩⟩
  · rw [upd_ne hne] at hd; exact hd
  · have hd1 : H1 d = none := by rw [upd_ne hne] at hd; exact hd
    have nb : b ≠ a := ne_of_none y hn
    rw [upd_ne (ne_of_none y hd1), del_ne nb, upd_ne nb, upd_ne (ne_of_none y hd1), upd_ne nb]; exact y
end
/-! ### in the suite: e.f, e.m(), isinstance(e, c) -/
section
variable {X : Cx} {a C : Addr} {oe : Obj} {cls : Value} {d : Option Addr} {pn : List (Addr × Obj)} {pins : List (Addr × Obj)} {σ : L2.St} {H : Hp} {s : Shared}
theorem n_inst {fs : List (Str × V)} {dd : Addr} (I : Inv (X.suite a ((a, oe) :: pn)) pins σ H s) (hz : L2N.Zn (.ref C) (some dd) oe) (hf : ∃ vs, oe.data = .fields vs) (hd : H dd = some (.xd fs)) : ∃ od, PySem.W.InstAt s.heap a oe C (some od) ∧ ∀ f : Str, (fs.lookup f = none → PySem.W.shadowIn (some od) f = some false) ∧ ∀ v, fs.lookup f = some v → ∃ u, PySem.W.lookIn f od = some (some u) ∧ RelV v u := by
  obtain ⟨ha, _⟩ := I.pin (a, oe) (List.mem_append_left _ List.mem_cons_self)
  obtain ⟨vs, hv⟩ := hf
  obtain ⟨mA, hns, hr⟩ := (show ObjOk X.prog X.w H s.heap dd (.xd fs) from I.hok dd _ hd)
  obtain ⟨od, ho, hl⟩ := lookIn_ns hns
  refine ⟨od, ⟨ha, hz.1, by unfold PySem.W.notCls; rw [hv] <;> rfl, by rw [hz.2.1]; exact ho⟩, fun f => ⟨fun z => ?_, fun v z => ?_⟩⟩
  · have hn : mA f = none := RelO.none_of (by rw [← z]; exact hr f)
    show (PySem.W.lookIn f od).map (·.isSome) = some false
    rw [hl, hn] <;> rfl
  · obtain ⟨u, hu, ru⟩ := RelO.some_of (v := v) (o := mA f) (by rw [← z]; exact hr f)
    exact ⟨u, by rw [hl, hu], ru⟩
/-- what the suite knows: its exception is of the class at C, its fields are fs -/
structure Caught (K : PySem.W.Frag) (cls : Value) (d : Option Addr) (H : Hp) (C : Addr) (fs : List (Str × V)) : Prop where
  c : cls = .ref C
  t : XCls K C
  d : ∃ dd, d = some dd ∧ H dd = some (.xd fs)
def tXs (K : PySem.W.Frag) (a : Addr) (cls : Value) (d : Option Addr) (f : Str) (te : TE) : TE := fun σ H Q => te σ H fun x H1 => ∃ (C : Addr) (fs : List (Str × V)) (v : V), x = .ref a ∧ Caught K cls d H1 C fs ∧ PySem.W.findIn K (.ref C) f = some none ∧ fs.lookup f = some v ∧ Q v H1
theorem pe_xs {e : Expr} {te : TE} {f : Str} {pos : Pos} (hz : L2N.Zn cls d oe) (hf : ∃ vs, oe.data = .fields vs) (he : PE (X.suite a ((a, oe) :: pn)) e te) (hb : attributeBase e f X.env (eval e X.env) = eval e X.env := by rfl) : PE (X.suite a ((a, oe) :: pn)) (.Attribute e f pos) (tXs X.K a cls d f te) := by
  refine ⟨fun pins s σ H Q I h => attr_of hb (thn (he.run pins s σ H _ I h) fun u s1 ⟨x, H1, I1, rx, C, fs, v, ex, ⟨ec, T, dd, ed, hd⟩, hno, hl, q⟩ => ?_)⟩
  subst ex
  obtain rfl : u = Value.ref a := rx
  subst ec ed
  obtain ⟨od, J, g⟩ := n_inst I1 hz hf hd
  obtain ⟨w, lk, rw'⟩ := (g f).2 v hl
  exact HandSPX.exc_get I1.kIn J T.ga T.gt T.ox.exC (PySem.W.findObj_own T.hd hno rfl lk) (handed_of rw') ⟨v, H1, I1.tok _, rw', q⟩
structure XMethH (P : Program) (w : World) (K : PySem.W.Frag) (mg : Str → Option Value) (base : Heap) (C : Addr) (m : Str) (f : Addr) (z : Str) : Prop where
  at_ : PySem.W.findIn K (.ref C) m = some (some (.ref f))
  ty : PySem.W.typeIn K (.ref f) = some (.type "function")
  kp : PySem.W.keepIn K (.ref f) = true
  fn : ∃ fd, L2H.FnH P w K mg base CX0 1 f fd ["self"] (spTold z) ∧ Binds K fd ["self"] []
def tXsM (X : Cx) (a : Addr) (cls : Value) (d : Option Addr) (m : Str) (te : TE) : TE := fun σ H Q => te σ H fun x H1 => ∃ (C f : Addr) (fs : List (Str × V)) (z : Str), x = .ref a ∧ Caught X.K cls d H1 C fs ∧ fs.lookup m = none ∧ XMethH X.prog X.w X.K X.mg X.base C m f z ∧ Q (.str z) H1
theorem pe_xsM {k : Nat} {o : Expr} {te : TE} {m : Str} {apos pos : Pos} {pl : Sem Bool} (hz : L2N.Zn cls d oe) (hf : ∃ vs, oe.data = .fields vs) (hr : Room k X.A) (he : PE (X.suite a ((a, oe) :: pn)) o te) (hk : 1 ≤ k := by decide)
    (hq : eval (.Call (.Attribute o m apos) [] [] pos) X.env = (do
      let ov ← eval o X.env
      standAt apos.atName
      let (f, first) ← holding [ov] (getMethod ov m pl)
      callWith pos f first (backTo pos (starEach [] X.env)) (backToKw pos (keywordEach [] X.env))) := by rfl) : PE (X.suite a ((a, oe) :: pn)) (.Call (.Attribute o m apos) [] [] pos) (tXsM X a cls d m te) := by
  refine ⟨fun pins s σ H Q I h => PySem.W.methodCall_KW (pl := pl) (thn (he.run pins s σ H _ I h) fun u s1 ⟨x, H1, I1, rx, C, f, fs, z, ex, ⟨ec, T, dd, ed, hd⟩, hl, M, q⟩ => ?_) hq⟩
  subst ex
  obtain rfl : u = Value.ref a := rx
  subst ec ed
  obtain ⟨od, J, g⟩ := n_inst I1 hz hf hd
  obtain ⟨fd, F, B⟩ := M.fn
  refine x_meth I1.kIn J T.ga T.gt M.at_ M.ty ((g m).1 hl) (PySem.W.callWith_K0 (first := [.ref a]) I1.kIn M.kp ?_)
  obtain ⟨vs, hv⟩ := hf
  have hot : L2H.HotC (X.suite a ((a, oe) :: pn)) := ⟨(a, oe), ⟨rfl, vs, hv, hz.2.2 vs hv⟩, List.mem_cons_self⟩
  exact L2H.run_fnH (X := X.suite a ((a, oe) :: pn)) (E := fun _ => E0) (us := [.ref a]) (vs := [.ref a]) F ⟨(hr.mono hk).dp, (hr.mono hk).un⟩ hot B (fun _ _ _ _ _ _ z => z.elim) I1 (.cons rfl .nil) ⟨a, rfl, q⟩
def rIsS (K : PySem.W.Frag) (a : Addr) (cls : Value) (d : Option Addr) : List V → Hp → VK → Prop := fun xs H Q => ∃ (C : Addr) (fs : List (Str × V)) (c : V) (cv : Value) (b : Bool), xs = [.ref a, c] ∧ Caught K cls d H C fs ∧ (∀ u, RelV c u → u = cv) ∧ PySem.W.kitOne K (.ref C) cv = some b ∧ Q (.bl b) H
theorem call_isS (hz : L2N.Zn cls d oe) (hf : ∃ vs, oe.data = .fields vs) : CallR (X.suite a ((a, oe) :: pn)) (.builtin "isinstance") (rIsS X.K a cls d) := by
  intro pins s σ H xs us Q I r h
  obtain ⟨C, fs, c, cv, b, rfl, ⟨ec, T, dd, ed, hd⟩, hcv, hk, q⟩ := h
  obtain ⟨u1, u2, rfl, r1, r2⟩ := r.two
  cases (show u1 = Value.ref a from r1)
  have e2 := hcv _ r2
  subst e2 ec ed
  obtain ⟨od, J, _⟩ := n_inst I hz hf hd
  exact PySem.W.kia_one (x_kit T) I.kIn J hk (fun z => nomatch z) fun tk => ⟨.bl b, H, I.tok _, rfl, q⟩
end
theorem toldH_of {P : Program} {w : World} {K : PySem.W.Frag} {mg : Str → Option Value} {base : Heap} {C f : Addr} {q z : Str} {pa : Arguments} {body : List Stmt} {sc : Scope} {j : Nat} {p p2 : Pos} (me : Meth K C "told" f) (F : ∃ fd, FunD K "told" q pa body sc [] [] f fd)
    (S : FnScope ["self"] ["self"] sc) (hb : body = [.Return (some (.Constant (.str z) j p)) p2]) (bind : ∀ (kV doc pm : Value) (an : Option Addr) (cdv ct : Value) (us : List Value), us.length = 1 → bindArgs (PySem.W.fnOf "told" q pa body sc .none kV doc pm an cdv ct) ⟨us, []⟩ = pure ((["self"] : List Str).zip us)) : XMethH P w K mg base C "told" f z := by
  obtain ⟨fd, F⟩ := F
  refine ⟨me.at_, isFn_ty me.fn, me.kp, fd, ?_, F.bindsN bind⟩
  subst hb
  obtain ⟨oc, od, dV, kV, doc, pm, an, cdv, ct, osl, rfl, lk, hcd, _, _⟩ := F.ex
  refine L2H.fn_ofH lk hcd S (fun vs H Q E h => ?_) fun A outer s H vs Q E p hot hr h => ⟨_, pss_one (ps_ret pe_str), ?_⟩
  · obtain ⟨a, rfl, _⟩ := h
    rfl
  · obtain ⟨a, rfl, q⟩ := h
    exact q
end My

namespace My
open PySem PySem.Spec PyProof.Rows L2 PySem.Calls
/-! ### fractions in lowest terms -/
/-- what Ratio(t, b) holds -/
def nrm (t b : Int) : Int × Int :=
  let g : Int := (Nat.gcd t.natAbs b.natAbs : Nat)
  if b < 0 then (t.fdiv (-g), b.fdiv (-g)) else (t.fdiv g, b.fdiv g)
def Can (q : Int × Int) : Prop := 1 ≤ q.2 ∧ Nat.gcd q.1.natAbs q.2.natAbs = 1
theorem nrm_spec {t b : Int} (hb : b ≠ 0) : ∃ g : Int, g ≠ 0 ∧ t = g * (nrm t b).1 ∧ b = g * (nrm t b).2 ∧ Can (nrm t b) := by
  have hg : 0 < Nat.gcd t.natAbs b.natAbs := Nat.gcd_pos_of_pos_right _ (Int.natAbs_pos.mpr hb)
  obtain ⟨t', ht⟩ := Nat.gcd_dvd_left t.natAbs b.natAbs
  obtain ⟨b', hb'⟩ := Nat.gcd_dvd_right t.natAbs b.natAbs
  generalize hG : Nat.gcd t.natAbs b.natAbs = g at *
  have hcop : Nat.gcd t' b' = 1 := by
    have e : g * Nat.gcd t' b' = g * 1 := by
      rw [Nat.mul_one, ← Nat.gcd_mul_left, ← ht, ← hb', hG]
    exact Nat.eq_of_mul_eq_mul_left hg e
  have hb0 : 0 < b' := Nat.pos_of_ne_zero fun z => by rw [z, Nat.mul_zero] at hb'; exact hb (Int.natAbs_eq_zero.mp hb')
  have fd : ∀ (x : Int) (y : Nat), x.natAbs = g * y → x.fdiv (g : Int) = (if x < 0 then -(y : Int) else (y : Int)) ∧ x.fdiv (-(g : Int)) = (if x < 0 then (y : Int) else -(y : Int)) := fun x y e => by
    have gz : (g : Int) ≠ 0 := by omega
    by_cases hx : x < 0
    · have ex : x = (g : Int) * (-(y : Int)) := by
        have : (x.natAbs : Int) = (g : Int) * (y : Int) := by rw [e]; exact Int.natCast_mul g y
        rw [Int.mul_neg]; omega
      have ex2 : x = -(g : Int) * (y : Int) := by rw [ex, Int.mul_neg, Int.neg_mul]
      rw [if_pos hx, if_pos hx]
      refine ⟨?_, ?_⟩
      · rw [ex, Int.mul_fdiv_cancel_left _ gz]
      · rw [ex2, Int.mul_fdiv_cancel_left _ (by omega)]
    · have ex : x = (g : Int) * (y : Int) := by
        have : (x.natAbs : Int) = (g : Int) * (y : Int) := by rw [e]; exact Int.natCast_mul g y
        omega
      have ex2 : x = -(g : Int) * (-(y : Int)) := by rw [ex, Int.neg_mul_neg]
      rw [if_neg hx, if_neg hx]
      refine ⟨?_, ?_⟩
      · rw [ex, Int.mul_fdiv_cancel_left _ gz]
      · rw [ex2, Int.mul_fdiv_cancel_left _ (by omega)]
  obtain ⟨f1, f2⟩ := fd t t' ht
  obtain ⟨f3, f4⟩ := fd b b' hb'
  have ct : (t.natAbs : Int) = (g : Int) * (t' : Int) := by rw [ht]; exact Int.natCast_mul g t'
  have cb : (b.natAbs : Int) = (g : Int) * (b' : Int) := by rw [hb']; exact Int.natCast_mul g b'
  by_cases hn : b < 0
  · have e : nrm t b = (t.fdiv (-(g : Int)), b.fdiv (-(g : Int))) := by unfold nrm; simp only [hG]; rw [if_pos hn]
    rw [e, f2, f4, if_pos hn]
    refine ⟨-(g : Int), by omega, ?_, ?_, ?_⟩
    · show t = -(g : Int) * (if t < 0 then (t' : Int) else -(t' : Int))
      split
      · rw [Int.neg_mul]; omega
      · rw [Int.neg_mul_neg]; omega
    · show b = -(g : Int) * (b' : Int)
      rw [Int.neg_mul]; omega
    · refine ⟨by show 1 ≤ (b' : Int); omega, ?_⟩
      show Nat.gcd (Int.natAbs (if t < 0 then (t' : Int) else -(t' : Int))) (Int.natAbs (b' : Int)) = 1
      split <;> simpa using hcop
  · have e : nrm t b = (t.fdiv (g : Int), b.fdiv (g : Int)) := by unfold nrm; simp only [hG]; rw [if_neg hn]
    rw [e, f1, f3, if_neg hn]
    refine ⟨(g : Int), by omega, ?_, ?_, ?_⟩
    · show t = (g : Int) * (if t < 0 then -(t' : Int) else (t' : Int))
      split
      · rw [Int.mul_neg]; omega
      · omega
    · show b = (g : Int) * (b' : Int)
      omega
    · refine ⟨by show 1 ≤ (b' : Int); omega, ?_⟩
      show Nat.gcd (Int.natAbs (if t < 0 then -(t' : Int) else (t' : Int))) (Int.natAbs (b' : Int)) = 1
      split <;> simpa using hcop
theorem nrm_can {t b : Int} (hb : b ≠ 0) : Can (nrm t b) := let ⟨_, _, _, _, h⟩ := nrm_spec (t := t) hb; h
/-- the value is the same -/
theorem nrm_eq {t b : Int} (hb : b ≠ 0) : (nrm t b).1 * b = t * (nrm t b).2 := by
  obtain ⟨g, _, e1, e2, _⟩ := nrm_spec (t := t) hb
  generalize nrm t b = q at *
  rw [e1, e2, Int.mul_left_comm, Int.mul_comm g q.1, Int.mul_assoc, Int.mul_left_comm]
theorem nrm_le {t b : Int} (hb : b ≠ 0) : (nrm t b).1.natAbs ≤ t.natAbs ∧ (nrm t b).2.natAbs ≤ b.natAbs := by
  obtain ⟨g, hg, e1, e2, _⟩ := nrm_spec (t := t) hb
  generalize nrm t b = q at *
  have g1 : 1 ≤ g.natAbs := Int.natAbs_pos.mpr hg
  rw [e1, e2, Int.natAbs_mul, Int.natAbs_mul]
  exact ⟨Nat.le_mul_of_pos_left _ g1, Nat.le_mul_of_pos_left _ g1⟩
end My

namespace My
open PySem PySem.Spec PyProof.Rows L2 PySem.Calls
/-! ### zip of a tuple and a list -/
section
variable {prog : Program} {w : World} {A : Around} {E : Value → Shared → Prop} {s : Shared} {z TI TO i1 i2 l1 l2 : Addr} {k1 k2 : Nat} {xs ys : Array Value} {x y a b : Value}
theorem ztl_item {Q : Value → Shared → Prop} (D : ZipApart z TI TO i1 i2 l1 l2) (hz : IsZip s.heap z TI TO .none) (hTI : IsPair s.heap TI (.ref i1) (.ref i2)) (hTO : IsPair s.heap TO a b) (h1 : s.heap.IsTupleIter i1 l1 k1) (h2 : s.heap.IsListIter i2 l2 k2) (hl1 : s.heap.IsTuple l1 xs) (hl2 : s.heap.IsList l2 ys) (hx : xs[k1]? = some x) (hy : ys[k2]? = some y)
    (hQ : ∀ g, IsZip g z TI TO (rawInt s.heap.objs.size) → IsPair g TO x y → g.IsTupleIter i1 l1 (k1 + 1) → g.IsListIter i2 l2 (k2 + 1) → IsPair g s.heap.objs.size x y → g.objs.size = s.heap.objs.size + 1 → (∀ c o, c ≠ z → c ≠ TO → c ≠ i1 → c ≠ i2 → s.heap.get? c = some o → g.get? c = some o) → Q (.ref s.heap.objs.size) { s with heap := g }) :
    wpAny (model prog w) A (Builtin.«zip.__next__» ⟨[.ref z], []⟩) (fun r s' => ∃ v, r = .done (.ret v) ∧ Q v s') E s := by
  change wpAny _ _ (field (.ref z) 2 >>= _) _ _ _; refine wpAny_bind (wpAny_field hz rfl (x := .bool false) rfl ?_)
  change wpAny _ _ (field (.ref z) 3 >>= _) _ _ _; refine wpAny_bind (wpAny_field hz rfl (x := .ref TI) rfl (wpAny_bind (wpAny_seqItems hTI rfl ?_)))
  change wpAny _ _ (Builtin.SmallTypes.ownedTupleIsFree (.ref z) >>= _) _ _ _; refine wpAny_bind ?_
  unfold Builtin.SmallTypes.ownedTupleIsFree; refine wpAny_bind (wpAny_field hz rfl (x := .none) rfl (wpAny_pure ?_)); simp only [if_true]
  refine wpAny_bind (wpAny_rule (wpAny_bind (wpAny_field hz rfl (x := .ref TO) rfl (wpAny_bind (wpAny_setField_rec hz (by simp) fun g1 z1 s1 => ?_)))))
  replace z1 : IsZip g1 z TI TO .ellipsis := z1
  refine wpAny_bind ?_; simp only [List.zipIdx_cons, List.zipIdx_nil, List.forIn_cons, List.forIn_nil]
  refine wpAny_bind (wpAny_bind (wpAny_onRaise ?_)); change wpAny _ _ (Builtin.SmallTypes.nextOf (.ref i1) >>= _) _ _ _
  refine wpAny_bind (RZ.nextOf_tuple_item (h1.extBut s1.extBut D.i1z) (hl1.extBut s1.extBut D.l1z) hx fun g2 n1 s2 => wpAny_pure ?_)
  have p2 : IsPair g2 TO a b := s2.extBut _ _ D.TOi1 (s1.extBut _ _ D.TOz hTO)
  refine wpAny_bind (wpAny_seqItems p2 rfl (wpAny_bind (wpAny_updateSeq_pair p2 fun g3 p3 s3 => ?_)))
  replace p3 : IsPair g3 TO x b := p3
  refine wpAny_bind (wpAny_letGo (wpAny_pure ?_)); refine wpAny_bind (wpAny_bind (wpAny_onRaise ?_)); change wpAny _ _ (Builtin.SmallTypes.nextOf (.ref i2) >>= _) _ _ _
  refine wpAny_bind (wpAny_nextOf_list_item (((h2.extBut s1.extBut D.i2z).extBut s2.extBut D.i12.symm).extBut s3.extBut D.TOi2.symm) (((hl2.extBut s1.extBut D.l2z).extBut s2.extBut D.l2i1).extBut s3.extBut D.l2TO) hy fun g4 n2 s4 => wpAny_pure ?_)
  have p4 : IsPair g4 TO x b := s4.extBut _ _ D.TOi2 p3
  refine wpAny_bind (wpAny_seqItems p4 rfl (wpAny_bind (wpAny_updateSeq_pair p4 fun g5 p5 s5 => ?_)))
  replace p5 : IsPair g5 TO x y := p5
  refine wpAny_bind (wpAny_letGo (wpAny_pure (wpAny_pure (wpAny_bind (wpAny_seqItems p5 rfl (wpAny_bind (wpAny_newTuple ?_)))))))
  have sz : g5.objs.size = s.heap.objs.size := by rw [s5.1, s4.1, s3.1, s2.1, s1.1]
  have z5 : IsZip g5 z TI TO .ellipsis := s5.extBut _ _ D.TOz.symm (s4.extBut _ _ D.i2z.symm (s3.extBut _ _ D.TOz.symm (s2.extBut _ _ D.i1z.symm z1)))
  have k5 : ∀ c o, c ≠ z → c ≠ TO → c ≠ i1 → c ≠ i2 → s.heap.get? c = some o → g5.get? c = some o := fun c o c1 c2 c3 c4 e => s5.extBut _ _ c2 (s4.extBut _ _ c4 (s3.extBut _ _ c2 (s2.extBut _ _ c3 (s1.extBut _ _ c1 e))))
  have m1 : g5.IsTupleIter i1 l1 (k1 + 1) := ((n1.extBut s3.extBut D.TOi1.symm).extBut s4.extBut D.i12).extBut s5.extBut D.TOi1.symm
  have m2 : g5.IsListIter i2 l2 (k2 + 1) := n2.extBut s5.extBut D.TOi2.symm
  have zl : z < g5.objs.size := Heap.lt_size z5
  change wpAny _ _ (Builtin.SmallTypes.ownedTupleHandOut (.ref z) (.ref g5.objs.size) >>= _) _ _ _; refine wpAny_bind ?_
  unfold Builtin.SmallTypes.ownedTupleHandOut
  have z6 : IsZip (g5.push { cls := .type "tuple", data := .seq #[x, y] }) z TI TO .ellipsis := Heap.get?_push_of_some _ z5
  refine wpAny_bind (wpAny_setField_rec z6 (by simp) fun g7 z7 s7 => ?_)
  replace z7 : IsZip g7 z TI TO (rawInt g5.objs.size) := z7
  refine wpAny_setField_rec z7 (by simp) fun g8 z8 s8 => ?_
  replace z8 : IsZip g8 z TI TO (rawInt g5.objs.size) := z8
  have up : ∀ c o, c ≠ z → g5.get? c = some o → g8.get? c = some o := fun c o c1 e => s8.extBut _ _ c1 (s7.extBut _ _ c1 (Heap.get?_push_of_some _ e))
  have p8 : IsPair g8 g5.objs.size x y := s8.extBut _ _ (Nat.ne_of_gt zl) (s7.extBut _ _ (Nat.ne_of_gt zl) (Heap.get?_push_size _ rfl))
  have q8 : g8.objs.size = g5.objs.size + 1 := by rw [s8.1, s7.1, Heap.size_push]
  rw [sz] at z8 p8 q8
  refine wpAny_pure ⟨_, rfl, ?_⟩
  change Q (.ref g5.objs.size) _
  rw [sz]
  exact hQ g8 z8 (up _ _ D.TOz p5) (m1.at fun o e => up _ o D.i1z e) (m2.at fun o e => up _ o D.i2z e) p8 q8 fun c o c1 c2 c3 c4 e => up c o c1 (k5 c o c1 c2 c3 c4 e)
theorem ztl_end {Q : Fin → Shared → Prop} (calm : A.handled = none) (D : ZipApart z TI TO i1 i2 l1 l2) (hz : IsZip s.heap z TI TO .none) (hTI : IsPair s.heap TI (.ref i1) (.ref i2)) (hTO : IsPair s.heap TO a b) (h1 : s.heap.IsTupleIter i1 l1 k1) (h2 : s.heap.IsListIter i2 l2 k2) (hl1 : s.heap.IsTuple l1 xs) (hl2 : s.heap.IsList l2 ys) (fin : xs[k1]? = none ∨ ys[k2]? = none)
    (hE : ∀ g e, (∀ c o, c ≠ z → c ≠ TO → c ≠ i1 → c ≠ i2 → s.heap.get? c = some o → g.get? c = some o) → (∃ o, g.get? e = some o ∧ o.cls = .type "StopIteration") → E (.ref e) { s with heap := g }) : wpAny (model prog w) A (Builtin.«zip.__next__» ⟨[.ref z], []⟩) Q E s := by
  change wpAny _ _ (field (.ref z) 2 >>= _) _ _ _; refine wpAny_bind (wpAny_field hz rfl (x := .bool false) rfl ?_)
  change wpAny _ _ (field (.ref z) 3 >>= _) _ _ _; refine wpAny_bind (wpAny_field hz rfl (x := .ref TI) rfl (wpAny_bind (wpAny_seqItems hTI rfl ?_)))
  change wpAny _ _ (Builtin.SmallTypes.ownedTupleIsFree (.ref z) >>= _) _ _ _; refine wpAny_bind ?_
  unfold Builtin.SmallTypes.ownedTupleIsFree; refine wpAny_bind (wpAny_field hz rfl (x := .none) rfl (wpAny_pure ?_)); simp only [if_true]
  refine wpAny_bind (wpAny_rule (wpAny_bind (wpAny_field hz rfl (x := .ref TO) rfl (wpAny_bind (wpAny_setField_rec hz (by simp) fun g1 z1 s1 => ?_)))))
  replace z1 : IsZip g1 z TI TO .ellipsis := z1
  refine wpAny_bind ?_; simp only [List.zipIdx_cons, List.zipIdx_nil, List.forIn_cons, List.forIn_nil]
  refine wpAny_bind (wpAny_bind (wpAny_onRaise ?_)); change wpAny _ _ (Builtin.SmallTypes.nextOf (.ref i1) >>= _) _ _ _
  match hx : xs[k1]?, fin with
  | none, _ =>
    refine wpAny_bind (RZ.nextOf_tuple_end calm (h1.extBut s1.extBut D.i1z) (hl1.extBut s1.extBut D.l1z) hx fun g2 e s2 ⟨oe, he, ce⟩ => ?_)
    have z2 : IsZip g2 z TI TO .ellipsis := s2 _ _ D.i1z.symm z1
    have ez : e ≠ z := fun q => by subst q; rw [z2] at he; cases he; simp at ce
    exact wpAny_setField_rec z2 (by simp) fun g3 _ s3 => hE g3 e (fun c o c1 _ c3 _ q => s3.extBut _ _ c1 (s2 _ _ c3 (s1.extBut _ _ c1 q))) ⟨oe, s3.extBut _ _ ez he, ce⟩
  | some x, .inr hy =>
    refine wpAny_bind (RZ.nextOf_tuple_item (h1.extBut s1.extBut D.i1z) (hl1.extBut s1.extBut D.l1z) hx fun g2 n1 s2 => wpAny_pure ?_)
    have p2 : IsPair g2 TO a b := s2.extBut _ _ D.TOi1 (s1.extBut _ _ D.TOz hTO)
    refine wpAny_bind (wpAny_seqItems p2 rfl (wpAny_bind (wpAny_updateSeq_pair p2 fun g3 p3 s3 => wpAny_bind (wpAny_letGo (wpAny_pure ?_)))))
    refine wpAny_bind (wpAny_bind (wpAny_onRaise ?_)); change wpAny _ _ (Builtin.SmallTypes.nextOf (.ref i2) >>= _) _ _ _
    refine wpAny_bind (wpAny_nextOf_list_end calm (((h2.extBut s1.extBut D.i2z).extBut s2.extBut D.i12.symm).extBut s3.extBut D.TOi2.symm) (((hl2.extBut s1.extBut D.l2z).extBut s2.extBut D.l2i1).extBut s3.extBut D.l2TO) hy fun g4 e s4 ⟨oe, he, ce⟩ => ?_)
    have z4 : IsZip g4 z TI TO .ellipsis := s4 _ _ D.i2z.symm (s3.extBut _ _ D.TOz.symm (s2.extBut _ _ D.i1z.symm z1))
    have ez : e ≠ z := fun q => by subst q; rw [z4] at he; cases he; simp at ce
    exact wpAny_setField_rec z4 (by simp) fun g5 _ s5 => hE g5 e (fun c o c1 c2 c3 c4 q => s5.extBut _ _ c1 (s4 _ _ c4 (s3.extBut _ _ c2 (s2.extBut _ _ c3 (s1.extBut _ _ c1 q))))) ⟨oe, s5.extBut _ _ ez he, ce⟩
theorem ztl_next {Q : Option Value → Shared → Prop} (D : ZipApart z TI TO i1 i2 l1 l2) (hz : IsZip s.heap z TI TO .none) (hTI : IsPair s.heap TI (.ref i1) (.ref i2)) (hTO : IsPair s.heap TO a b) (h1 : s.heap.IsTupleIter i1 l1 k1) (h2 : s.heap.IsListIter i2 l2 k2) (hl1 : s.heap.IsTuple l1 xs) (hl2 : s.heap.IsList l2 ys) (hx : xs[k1]? = some x) (hy : ys[k2]? = some y)
    (hQ : ∀ g, IsZip g z TI TO (rawInt s.heap.objs.size) → IsPair g TO x y → g.IsTupleIter i1 l1 (k1 + 1) → g.IsListIter i2 l2 (k2 + 1) → IsPair g s.heap.objs.size x y → g.objs.size = s.heap.objs.size + 1 → (∀ c o, c ≠ z → c ≠ TO → c ≠ i1 → c ≠ i2 → s.heap.get? c = some o → g.get? c = some o) → Q (some (.ref s.heap.objs.size)) { s with heap := g }) :
    wpAny (model prog w) A (pyNext (.ref z)) Q E s := by
  have ty : s.TypeIs (.ref z) "zip" := ⟨_, hz, rfl⟩
  unfold pyNext
  exact wpAny_bind (wpAny_attempt (wpAny_callSpecial?_slot (name := Str.ofString "__next__") ty PySem.F.slot_zip_next (wpAny_call_entry PySem.F.slot_zip_next ty PySem.F.entry_zip_next (ztl_item D hz hTI hTO h1 h2 hl1 hl2 hx hy fun g a1 a2 a3 a4 a5 a6 a7 => wpAny_pure (hQ g a1 a2 a3 a4 a5 a6 a7)) (PySem.F.args_zip_next_1 _))))
theorem ztl_stop {Q : Option Value → Shared → Prop} (calm : A.handled = none) (D : ZipApart z TI TO i1 i2 l1 l2) (hz : IsZip s.heap z TI TO .none) (hTI : IsPair s.heap TI (.ref i1) (.ref i2)) (hTO : IsPair s.heap TO a b) (h1 : s.heap.IsTupleIter i1 l1 k1) (h2 : s.heap.IsListIter i2 l2 k2) (hl1 : s.heap.IsTuple l1 xs) (hl2 : s.heap.IsList l2 ys) (fin : xs[k1]? = none ∨ ys[k2]? = none)
    (hQ : ∀ g, (∀ c o, c ≠ z → c ≠ TO → c ≠ i1 → c ≠ i2 → s.heap.get? c = some o → g.get? c = some o) → Q none { s with heap := g }) : wpAny (model prog w) A (pyNext (.ref z)) Q E s := by
  have ty : s.TypeIs (.ref z) "zip" := ⟨_, hz, rfl⟩
  unfold pyNext
  refine wpAny_bind (wpAny_attempt (wpAny_callSpecial?_slot (name := Str.ofString "__next__") ty PySem.F.slot_zip_next (wpAny_call_entry PySem.F.slot_zip_next ty PySem.F.entry_zip_next (ztl_end calm D hz hTI hTO h1 h2 hl1 hl2 fin fun g e kk ⟨o, ho, hc⟩ => ?_) (PySem.F.args_zip_next_1 _))))
  exact wpAny_bind (wpAny_isInstance (T := "StopIteration") (b := true) ⟨o, ho, hc⟩ isSubtype_stop (wpAny_pure (hQ _ kk)))
end
/-- what zip(t, l) lays -/
def zl1 (h : Heap) (a : Addr) : Heap := h.push { cls := .type "tuple_iterator", data := .fields #[.ref a, .int 0 0] }
def zl2 (h : Heap) (a b : Addr) : Heap := (zl1 h a).push { cls := .type "list_iterator", data := .fields #[.ref b, .int 0 0] }
def zl3 (h : Heap) (a b : Addr) : Heap := (zl2 h a b).push { cls := .type "tuple", data := .seq #[.ref h.objs.size, .ref (zl1 h a).objs.size] }
def zl4 (h : Heap) (a b : Addr) : Heap := (zl3 h a b).push { cls := .type "tuple", data := .seq #[.none, .none] }
def zl5 (h : Heap) (a b : Addr) : Heap := (zl4 h a b).push { cls := .type "zip", data := .fields #[.none, .bool false, .bool false, .ref (zl2 h a b).objs.size, .ref (zl3 h a b).objs.size] }
theorem ztl_new (a b : Addr) (xs ys : Array Value) : Meets (Builtin.«zip.__new__» ⟨[.type "zip", .ref a, .ref b], []⟩) (fun _ R s => s.heap.IsTuple a xs ∧ s.heap.IsList b ys ∧ R (.ok (.ret (.ref (zl4 s.heap a b).objs.size))) { s with heap := zl5 s.heap a b }) :=
  .of_wp fun prog w A R s h => by
    obtain ⟨hp, g, d, tk, os⟩ := s; obtain ⟨h1, h2, h⟩ := h
    have sub := sub_zip
    have q1 : Heap.IsTuple (Shared.heap ⟨hp, g, d, tk, os⟩) a xs := h1
    have q2 : Heap.IsList (Shared.heap ⟨hp.push { cls := .type "tuple_iterator", data := .fields #[.ref a, .int 0 0] }, g, d, tk, os⟩) b ys := Heap.IsList.push h2 _
    wp_walk using wpAny_pyIter_tuple q1, wpAny_pyIter_list q2
    exact ⟨_, rfl, h⟩
theorem call_ztl {prog : Program} {w : World} {A : Around} {E : Value → Shared → Prop} {s : Shared} {a b : Addr} {xs ys : Array Value} {Q : Value → Shared → Prop} (h1 : s.heap.IsTuple a xs) (h2 : s.heap.IsList b ys)
    (h : ∀ g, IsZip g (s.heap.objs.size + 4) (s.heap.objs.size + 2) (s.heap.objs.size + 3) .none → IsPair g (s.heap.objs.size + 2) (.ref s.heap.objs.size) (.ref (s.heap.objs.size + 1)) → IsPair g (s.heap.objs.size + 3) .none .none → g.IsTupleIter s.heap.objs.size a 0 → g.IsListIter (s.heap.objs.size + 1) b 0 →
      (∀ c o, s.heap.get? c = some o → g.get? c = some o) → Q (.ref (s.heap.objs.size + 4)) { s with heap := g }) : wpAny (model prog w) A (call (.type "zip") [.ref a, .ref b]) Q E s := by
  refine callType_new PySem.F.called_zip (by decide) (PySem.F.typeCall_zip_2 _ _) (PySem.F.newCall_zip_2 _ _) (fun obj => PySem.F.args_object_init_3 obj _ _) PySem.F.entry_zip_new (ztl_new a b xs ys) ⟨h1, h2, ?_⟩
  have n1 : (zl1 s.heap a).objs.size = s.heap.objs.size + 1 := Heap.size_push ..
  have n2 : (zl2 s.heap a b).objs.size = s.heap.objs.size + 2 := by unfold zl2; rw [Heap.size_push, n1]
  have n3 : (zl3 s.heap a b).objs.size = s.heap.objs.size + 3 := by unfold zl3; rw [Heap.size_push, n2]
  have n4 : (zl4 s.heap a b).objs.size = s.heap.objs.size + 4 := by unfold zl4; rw [Heap.size_push, n3]
  have u4 : ∀ c o, (zl4 s.heap a b).get? c = some o → (zl5 s.heap a b).get? c = some o := fun c o q => Heap.get?_push_of_some _ q
  have u3 : ∀ c o, (zl3 s.heap a b).get? c = some o → (zl5 s.heap a b).get? c = some o := fun c o q => u4 c o (Heap.get?_push_of_some _ q)
  have u2 : ∀ c o, (zl2 s.heap a b).get? c = some o → (zl5 s.heap a b).get? c = some o := fun c o q => u3 c o (Heap.get?_push_of_some _ q)
  have u1 : ∀ c o, (zl1 s.heap a).get? c = some o → (zl5 s.heap a b).get? c = some o := fun c o q => u2 c o (Heap.get?_push_of_some _ q)
  have e5 : (zl5 s.heap a b).get? (zl4 s.heap a b).objs.size = some _ := Heap.get?_push_size _ rfl
  have e4 : (zl5 s.heap a b).get? (zl3 s.heap a b).objs.size = some { cls := .type "tuple", data := .seq #[.none, .none] } := u4 _ _ (Heap.get?_push_size _ rfl)
  have e3 : (zl5 s.heap a b).get? (zl2 s.heap a b).objs.size = some { cls := .type "tuple", data := .seq #[.ref s.heap.objs.size, .ref (zl1 s.heap a).objs.size] } := u3 _ _ (Heap.get?_push_size _ rfl)
  have e2 : (zl5 s.heap a b).get? (zl1 s.heap a).objs.size = some { cls := .type "list_iterator", data := .fields #[.ref b, .int 0 0] } := u2 _ _ (Heap.get?_push_size _ rfl)
  have e1 : (zl5 s.heap a b).get? s.heap.objs.size = some { cls := .type "tuple_iterator", data := .fields #[.ref a, .int 0 0] } := u1 _ _ (Heap.get?_push_size _ rfl)
  rw [n2, n3, n4] at e5; rw [n1, n2] at e3; rw [n3] at e4; rw [n1] at e2
  show _ ∧ _
  rw [n4]
  exact ⟨⟨_, e5, rfl⟩, h _ e5 e3 e4 ⟨_, e1, rfl, rfl⟩ ⟨_, e2, rfl, rfl⟩ fun c o q => u1 c o (Heap.get?_push_of_some _ q)⟩
/-- the walk over zip(t, l) -/
def ItzM (K : PySem.W.Frag) (a b : Addr) : It :=
  ⟨fun i H => ∃ (xs ys : List V) (x y : V), SqT K H a xs ∧ SqL K H b ys ∧ xs[i]? = some x ∧ ys[i]? = some y,
    fun i H v H' => ∃ T x y, v = .ref T ∧ H T = none ∧ H' = upd H T (.tup [x, y]) ∧ (∀ xs, SqT K H a xs → xs[i]? = some x) ∧ ∀ ys, SqL K H b ys → ys[i]? = some y,
    fun i H => ∃ xs ys : List V, SqT K H a xs ∧ SqL K H b ys ∧ (xs.length ≤ i ∨ ys.length ≤ i)⟩
theorem turn_ztl {P : Program} {w : World} {K : PySem.W.Frag} {elts : List Expr} {kk : Nat} {tpos : Pos} {a b z TI TO i1 i2 : Addr} (D : ZipApart z TI TO i1 i2 a b) :
    Turn P w K (.Tuple elts kk tpos) (ItzM K a b) [z, TI, TO, i1, i2] z (fun i h => IsZip h z TI TO .none ∧ IsPair h TI (.ref i1) (.ref i2) ∧ (∃ x y, IsPair h TO x y) ∧ h.IsTupleIter i1 a i ∧ h.IsListIter i2 b i) where
  mem := by simp
  obj := by
    rintro i h ⟨hz, hTI, ⟨x, y, hTO⟩, ⟨o1, e1, _, d1⟩, ⟨o2, e2, _, d2⟩⟩ c hc
    simp only [List.mem_cons, List.not_mem_nil, or_false] at hc
    rcases hc with rfl | rfl | rfl | rfl | rfl
    · exact ⟨_, hz, fun v q => nomatch q⟩
    · exact ⟨_, hTI, fun v q => nomatch q⟩
    · exact ⟨_, hTO, fun v q => nomatch q⟩
    · exact ⟨o1, e1, fun v q => by rw [d1] at q; cases q⟩
    · exact ⟨o2, e2, fun v q => by rw [d2] at q; cases q⟩
  keep := fun i h g ⟨hz, hTI, ⟨x, y, hTO⟩, h1, h2⟩ k => ⟨k z (by simp) _ hz, k TI (by simp) _ hTI, ⟨x, y, k TO (by simp) _ hTO⟩, h1.at fun o q => k i1 (by simp) o q, h2.at fun o q => k i2 (by simp) o q⟩
  item := by
    rintro X rfl rfl rfl hc i pins s σ H E I hf ⟨hz, hTI, ⟨x0, y0, hTO⟩, h1, h2⟩ ⟨xs, ys, x, y, qx, qy, hx, hy⟩
    obtain ⟨its, rv, p, _⟩ := I.tuple qx
    obtain ⟨its2, rv2, p2, _⟩ := I.list qy
    obtain ⟨u, hu, ru⟩ := rv.get hx
    obtain ⟨u2, hu2, ru2⟩ := rv2.get hy
    have zl : z < s.heap.objs.size := Heap.lt_size hz
    refine ztl_next D hz hTI hTO h1 h2 p p2.isList (x := u) (y := u2) (by simpa using hu) (by simpa using hu2) fun g gz gTO g1 g2 gT _ gk => ⟨_, rfl, wpAny_letOwnedTupleGo_zip (s := { s with heap := g }) gz fun f fz sb => ?_⟩
    have fT : f.get? s.heap.objs.size = some { cls := .type "tuple", data := .seq #[u, u2] } := (sb.2 _ (Nat.ne_of_gt zl)).trans gT
    have new : ObjOk X.prog X.w (upd H s.heap.objs.size (.tup [x, y])) f s.heap.objs.size (.tup [x, y]) := ⟨by show 2 ≤ sizeLine; decide, [u, u2], .cons ru (.cons ru2 .nil), ⟨_, fT, rfl, _, rfl⟩⟩
    have ne : ∀ {c : Addr}, c ∉ [z, TI, TO, i1, i2] → c ≠ z ∧ c ≠ TO ∧ c ≠ i1 ∧ c ≠ i2 := fun h => by simp only [List.mem_cons, List.not_mem_nil, or_false, not_or] at h; exact ⟨h.1, h.2.2.1, h.2.2.2.1, h.2.2.2.2⟩
    have I1 : Inv X pins σ (upd H s.heap.objs.size (.tup [x, y])) { s with heap := f } := I.turnedNew (t' := s.toks) (ch := [z, TI, TO, i1, i2]) (fun c o hb q => (sb.2 c (ne hb).1).trans (gk c o (ne hb).1 (ne hb).2.1 (ne hb).2.2.1 (ne hb).2.2.2 q)) hf (Nat.le_refl _) new
    refine ⟨.ref s.heap.objs.size, _, I1, rfl, ⟨_, x, y, rfl, I.hok.fresh (Nat.le_refl _), rfl, fun l hl => by rw [I.tuple_inj hl qx]; exact hx, fun l hl => by rw [I.list_inj hl qy]; exact hy⟩, ⟨fz, ?_, ⟨u, u2, ?_⟩, ?_, ?_⟩, fun c hcm => ?_⟩
    · exact (sb.2 _ D.TIz).trans (gk _ _ D.TIz D.TITO D.TIi1 D.TIi2 hTI)
    · exact (sb.2 _ D.TOz).trans gTO
    · exact g1.at fun o q => (sb.2 _ D.i1z).trans q
    · exact g2.at fun o q => (sb.2 _ D.i2z).trans q
    · have lt : c < s.heap.objs.size := by
        have hcm2 := hcm
        simp only [List.mem_cons, List.not_mem_nil, or_false] at hcm2
        rcases hcm2 with rfl | rfl | rfl | rfl | rfl
        · exact zl
        · exact Heap.lt_size hTI
        · exact Heap.lt_size hTO
        · obtain ⟨_, e1, _⟩ := h1; exact Heap.lt_size e1
        · obtain ⟨_, e2, _⟩ := h2; exact Heap.lt_size e2
      rw [upd_ne (Nat.ne_of_lt lt)]
      exact (hf c hcm).1
  done := by
    rintro X rfl rfl rfl hc i pins s σ H E I hf ⟨hz, hTI, ⟨x0, y0, hTO⟩, h1, h2⟩ ⟨xs, ys, qx, qy, fin⟩
    obtain ⟨its, rv, p, _⟩ := I.tuple qx
    obtain ⟨its2, rv2, p2, _⟩ := I.list qy
    have n1 := rv.length; have n2 := rv2.length
    have he : its.toArray[i]? = none ∨ its2.toArray[i]? = none := fin.elim (fun q => .inl (by simp; omega)) fun q => .inr (by simp; omega)
    have ne : ∀ {c : Addr}, c ∉ [z, TI, TO, i1, i2] → c ≠ z ∧ c ≠ TO ∧ c ≠ i1 ∧ c ≠ i2 := fun h => by simp only [List.mem_cons, List.not_mem_nil, or_false, not_or] at h; exact ⟨h.1, h.2.2.1, h.2.2.2.1, h.2.2.2.2⟩
    exact ztl_stop (I.ok.hd hc) D hz hTI hTO h1 h2 p p2.isList he fun g gk => ⟨rfl, I.turnedL (t' := s.toks) (ch := [z, TI, TO, i1, i2]) (fun c o hb q => gk c o (ne hb).1 (ne hb).2.1 (ne hb).2.2.1 (ne hb).2.2.2 q) hf⟩
  self := fun A i s Q E st h => wpAny_pyIter_zip st.1 h
/-- zip(t, x), x a tuple or a list -/
def iZipM (K : PySem.W.Frag) (ta : TA) : TI := fun σ H R => ta σ H fun vs H1 => ∃ a b xs ys, vs = [.ref a, .ref b] ∧ SqT K H1 a xs ∧ ((SqT K H1 b ys ∧ R (RZ.ItzT K a b) H1) ∨ (SqL K H1 b ys ∧ R (ItzM K a b) H1))
theorem pi_zipM {X : Cx} {e e2 : Expr} {ta : TA} {p pos tpos : Pos} {elts : List Expr} {kk : Nat} (hg : Gl X "zip") (hm : X.mg "zip" = none) (ha : PA X [e, e2] ta)
    (hs : starEach [e, e2] X.env = (false, eval e X.env) :: starEach [e2] X.env := by rfl) (hpl : (backTo pos (starEach [e2] X.env)).any (·.1) = false := by rfl) : PI X (.Tuple elts kk tpos) (.Call (.Name "zip" p) [e, e2] [] pos) (iZipM X.K ta) := by
  refine ⟨fun pins s σ H R I h => Call_ (ld_blt I hg hm PyProof.Rows.boot_zip (PyProof.Rows.callWith_type1 (thn (ha.run pos pins s σ H _ I h) fun us s1 ⟨vs, H1, I1, r1, a, b, xs, ys, ex, qx, q⟩ => ?_) hs hpl))⟩
  subst ex
  obtain ⟨v1, v2, rfl, e1, e2⟩ := r1.two
  cases (show v1 = Value.ref a from e1)
  cases (show v2 = Value.ref b from e2)
  have new : ∀ c, c ∈ [s1.heap.objs.size + 4, s1.heap.objs.size + 2, s1.heap.objs.size + 3, s1.heap.objs.size, s1.heap.objs.size + 1] → FpOk X pins H1 c := fun c hc => by
    have le : s1.heap.objs.size ≤ c := by simp only [List.mem_cons, List.not_mem_nil, or_false] at hc; omega
    exact I1.fpOk le (I1.hok.fresh le)
  obtain ⟨its, rv, p1, _⟩ := I1.tuple qx
  obtain ⟨o1, w1, _⟩ := id p1
  rcases q with ⟨qy, q⟩ | ⟨qy, q⟩
  · obtain ⟨its2, rv2, p2, _⟩ := I1.tuple qy
    obtain ⟨o2, w2, _⟩ := id p2
    exact RZ.call_zipT (show s1.heap.IsTuple a its.toArray from p1) (show s1.heap.IsTuple b its2.toArray from p2) fun g hz hTI hTO h1 h2 _ hk => wpAny_pyIter_zip hz
      ⟨s1.heap.objs.size + 4, [s1.heap.objs.size + 4, s1.heap.objs.size + 2, s1.heap.objs.size + 3, s1.heap.objs.size, s1.heap.objs.size + 1], _, _, H1, rfl, I1.kept (t' := s1.toks) hk, RZ.turn_zipT (PySem.W.ktu_apart s1.heap.objs.size a b (Heap.lt_size w1) (Heap.lt_size w2)), ⟨hz, hTI, ⟨_, _, hTO⟩, h1, h2⟩, new, q⟩
  · obtain ⟨its2, rv2, p2, _⟩ := I1.list qy
    exact call_ztl (show s1.heap.IsTuple a its.toArray from p1) p2.isList fun g hz hTI hTO h1 h2 hk => wpAny_pyIter_zip hz
      ⟨s1.heap.objs.size + 4, [s1.heap.objs.size + 4, s1.heap.objs.size + 2, s1.heap.objs.size + 3, s1.heap.objs.size, s1.heap.objs.size + 1], _, _, H1, rfl, I1.kept (t' := s1.toks) hk, turn_ztl (PySem.W.ktu_apart s1.heap.objs.size a b (Heap.lt_size w1) p2.lt), ⟨hz, hTI, ⟨_, _, hTO⟩, h1, h2⟩, new, q⟩
theorem walk_ztl {K : PySem.W.Frag} {a b : Addr} {xs ys : List V} {n : Nat} (hn : n = min xs.length ys.length) : Walk (ItzM K a b) n (fun H => SqT K H a xs ∧ SqL K H b ys) (YPair (fun i => xs[i]?) (fun i => ys[i]?)) := by
  subst hn
  refine ⟨fun i H hi ⟨q1, q2⟩ => ?_, fun H ⟨q1, q2⟩ => ⟨xs, ys, q1, q2, by omega⟩, fun i H v H' hi ⟨q1, q2⟩ ⟨T, x, y, e1, e2, e3, e4, e5⟩ => ⟨T, x, y, e1, e2, e3, e4 xs q1, e5 ys q2⟩⟩
  exact ⟨xs, ys, xs[i]'(by omega), ys[i]'(by omega), q1, q2, by rw [List.getElem?_eq_getElem (by omega)], by rw [List.getElem?_eq_getElem (by omega)]⟩
theorem walk_ztt {K : PySem.W.Frag} {a b : Addr} {xs ys : List V} {n : Nat} (hn : n = min xs.length ys.length) : Walk (RZ.ItzT K a b) n (fun H => SqT K H a xs ∧ SqT K H b ys) (YPair (fun i => xs[i]?) (fun i => ys[i]?)) := by
  subst hn
  refine ⟨fun i H hi ⟨q1, q2⟩ => ?_, fun H ⟨q1, q2⟩ => ⟨xs, ys, q1, q2, by omega⟩, fun i H v H' hi ⟨q1, q2⟩ ⟨T, x, y, e1, e2, e3, e4, e5⟩ => ⟨T, x, y, e1, e2, e3, e4 xs q1, e5 ys q2⟩⟩
  exact ⟨xs, ys, xs[i]'(by omega), ys[i]'(by omega), q1, q2, by rw [List.getElem?_eq_getElem (by omega)], by rw [List.getElem?_eq_getElem (by omega)]⟩
end My

namespace My
open PySem PySem.Spec PyProof.Rows L2 PySem.Calls
/-! ### set(xs) of texts: how many there are -/
/-- how many different ones stand among the first i -/
def difs (f : Nat → Str) : Nat → Nat
  | 0 => 0
  | i + 1 => if (List.range i).any (fun j => decide (f j = f i)) then difs f i else difs f i + 1
def seen (f : Nat → Str) (i : Nat) (k : Str) : Bool := (List.range i).any fun j => decide (f j = k)
theorem seen_succ (f : Nat → Str) (i : Nat) (k : Str) : (seen f i k || decide (k = f i)) = seen f (i + 1) k := by
  unfold seen
  rw [List.range_succ, List.any_append, List.any_cons, List.any_nil, Bool.or_false]
  congr 1
  exact decide_eq_decide.mpr ⟨fun h => h.symm, fun h => h.symm⟩
theorem difs_le (f : Nat → Str) : ∀ i, difs f i ≤ i
  | 0 => Nat.le_refl _
  | i + 1 => by
    have := difs_le f i
    unfold difs; split <;> omega
section
variable {prog : Program} {w : World} {A : Around} {R : Result → Shared → Prop} {I : Addr} {fp wr : List Addr} {G : Array GenState → Array GenState → Prop} {n : Nat} {P : Nat → Value → Prop} {St : Nat → Shared → Prop}
theorem set_turns (W : WalksS prog w A.in1 I fp wr G n P St) (z : Addr) (nz : z ∉ fp) (f : Nat → Str) (fv : ∀ i v, P i v → ∃ t, v = .str (f i) t) (room : n + 1 < scanBound) (m : Nat) :
    ∀ (i : Nat) (s : Shared), n - i = m → i ≤ n → St i s → s.heap.SetOf (PySem.strKind prog w) z (seen f i) (difs f i) →
      (∀ s', Moved (z :: wr) G s s' → s'.heap.SetOf (PySem.strKind prog w) z (seen f n) (difs f n) → R (.ok (.ret .none)) s') → codeAny (model prog w) A (.builtin "set.update.loop" ⟨[.ref z, .ref I], []⟩) R s := by
  have zw : z ∉ wr := fun h => nz (W.sub _ h)
  have up : ∀ b ∈ wr, b ∈ z :: wr := fun b q => .tail _ q
  have stay : ∀ {s s' : Shared} {S : Str → Bool} {c : Nat}, Moved wr G s s' → s.heap.SetOf (PySem.strKind prog w) z S c → s'.heap.SetOf (PySem.strKind prog w) z S c := fun mv ⟨o, es, ep, tb, ho, q⟩ => ⟨o, es, ep, tb, mv.heap z _ zw ho, q⟩
  induction m with
  | zero =>
    intro i s em ile st hz hR
    obtain rfl : i = n := by omega
    refine codeAny_builtin PyProof.Rows.F.entry_set_update_loop ?_
    rw [Around.under_plainId PyProof.Rows.F.plain_set_update_loop _]
    change wpAny _ A.in1 (pyNext (.ref I) >>= _) _ _ s
    refine wpAny_bind (W.done s _ _ st fun s' mv => ?_)
    change wpAny _ A.in1 (ret Value.none) _ _ s'
    exact wpAny_pure (hR s' (mv.mono up) (stay mv hz))
  | succ m ih =>
    intro i s em ile st hz hR
    have lt : i < n := by omega
    refine codeAny_builtin PyProof.Rows.F.entry_set_update_loop ?_
    rw [Around.under_plainId PyProof.Rows.F.plain_set_update_loop _]
    change wpAny _ A.in1 (pyNext (.ref I) >>= _) _ _ s
    refine wpAny_bind (W.item i s _ _ lt st fun v s' pv st' mv => ?_)
    obtain ⟨t, rfl⟩ := fv i v pv
    have hz' := stay mv hz
    change wpAny _ A.in1 (holding [Value.str (f i) t] (setAdd z (.str (f i) t)) >>= _) _ _ s'
    refine wpAny_bind (wpAny_holding ?_)
    unfold setAdd
    refine wpAny_holding (wpAny_bind ((PySem.strKind prog w).pyHash (k := f i) (strKind_is _ _ _ _) ?_))
    have dl := difs_le f i
    refine wpAny_setAddHashed_of (knd := PySem.strKind prog w) (s := { s' with toks := s'.toks + 1 }) (strKind_is _ _ _ _) rfl hz' (by omega) fun h' sb hz2 => ?_
    have hz3 : h'.SetOf (PySem.strKind prog w) z (seen f (i + 1)) (difs f (i + 1)) := SetOf_congr hz2 (fun k => seen_succ f i k) (by show (if seen f i (f i) = true then difs f i else difs f i + 1) = difs f (i + 1); rfl)
    refine wpAny_pure ⟨plainId_quiet PyProof.Rows.F.plain_set_update_loop _, ih (i + 1) _ (by omega) lt (W.frame _ s' _ _ st' (Nat.le_succ _) fun b hb o e => ?_) hz3 fun s2 mv2 q => ?_⟩
    · rw [sb.2 b (fun h : b = z => nz (h ▸ hb))]; exact e
    · refine hR s2 (Moved.trans W.gtrans ((mv.mono up).then_heap (Nat.le_succ _) fun b o hb e => ?_) mv2) q
      rw [sb.2 b (fun h : b = z => hb (h ▸ List.mem_cons_self))]; exact e
end
theorem strs_get : ∀ {us : List Value} {xs : List Str}, Vals (xs.map V.str) us → ∀ (i : Nat) (v : Value), us[i]? = some v → ∃ t, v = .str (xs.getD i Str.empty) t
  | _, [], .nil, i, v, h => by simp at h
  | _, x :: xs, .cons r t, 0, v, h => by
    obtain ⟨k, rfl⟩ := r
    simp at h
    exact ⟨k, h.symm⟩
  | _, x :: xs, .cons r t, i + 1, v, h => by
    simp only [List.getElem?_cons_succ] at h
    obtain ⟨k, e⟩ := strs_get t i v h
    exact ⟨k, e⟩

set_option maxHeartbeats 4000000 in
theorem setS_list {prog : Program} {w : World} {A : Around} {E : Value → Shared → Prop} {s : Shared} {l : Addr} {items : Array Value} {xs : List Str} {Q : Value → Shared → Prop} (calm : A.handled = none) (hl : s.heap.IsList l items) (hv : Vals (xs.map V.str) items.toList) (room : items.size + 1 < scanBound)
    (h : ∀ (h' : Heap) (tk : Nat), h'.SetOf (PySem.strKind prog w) s.heap.objs.size (seen (fun i => xs.getD i Str.empty) items.size) (difs (fun i => xs.getD i Str.empty) items.size) → (∀ b o, b < s.heap.objs.size → s.heap.get? b = some o → h'.get? b = some o) → Q (.ref s.heap.objs.size) { s with heap := h', toks := tk }) :
    wpAny (model prog w) A (call (.type "set") [.ref l]) Q E s := by
  obtain ⟨c, tl, mro⟩ := PySem.F.called_set.mro
  have made := PySem.F.called_set.made; have sub := PySem.F.called_set.sub
  refine wpAny_call (codeAny_of_tree ?_)
  change wpAny _ _ (callAny (.type "set") _) _ _ _
  refine wpAny_pure ⟨Code.quiet_builtin _ (by decide +kernel), codeAny_builtin PySem.F.entry_type_call ?_⟩
  rw [Around.under_plain (weight_type_call_type "set" [.ref l] []) rfl]
  have nt := PySem.F.called_set.notType; have cc := PySem.F.called_set.canCreate; have tc := PySem.F.typeCall_set_1 (.ref l)
  repeat (any_goals (first | assumption | wp_step))
  generalize hZ : s.heap.objs.size = z at h
  refine codeAny_mono (code_set_new_1 (.ref l) (E := E) (Q₁ := fun v s1 => ∃ led : Bool, v = .ref z ∧ s1 = { s with heap := s.heap.push { cls := .type "set", dict := none, data := .set #[] 0 (.fresh 0 0 led) } }) fun led => ⟨led, by rw [hZ], rfl⟩) fun r s1 q => ?_
  match r, q with
  | .error e, q => exact q
  | .ok (.ret v), q =>
    obtain ⟨led, rfl, rfl⟩ := q
    have hz : (s.heap.push { cls := .type "set", dict := none, data := .set #[] 0 (.fresh 0 0 led) }).get? z = some { cls := .type "set", dict := none, data := .set #[] 0 (.fresh 0 0 led) } := by rw [← hZ]; exact Heap.get?_push_size _ rfl
    have ty : Shared.TypeIs { s with heap := s.heap.push { cls := .type "set", dict := none, data := .set #[] 0 (.fresh 0 0 led) } } (.ref z) "set" := ⟨_, hz, rfl⟩
    have il := PySem.F.called_set.init.lookup; have ib := PySem.F.called_set.init.bind (.ref z)
    repeat (any_goals (first | assumption | wp_step))
    refine codeAny_mono (codeAny_call_builtin (R := wants (fun r s2 => r = .none ∧ ∃ h' tk, s2 = { s with heap := h', toks := tk } ∧ h'.SetOf (PySem.strKind prog w) z (seen (fun i => xs.getD i Str.empty) items.size) (difs (fun i => xs.getD i Str.empty) items.size) ∧
        (∀ b o, b < z → s.heap.get? b = some o → h'.get? b = some o)) E) PySem.F.called_set.init.plain PySem.F.entry_set_init (check_set_init_1 ty ?_)) fun r2 s2 q2 => ?_
    · obtain ⟨⟨oc1, od1, dt1, sl1⟩, ho, hc, n1, hd⟩ := hl
      simp only at hc hd
      subst hc hd
      have ho' : (s.heap.push { cls := .type "set", dict := none, data := .set #[] 0 (.fresh 0 0 led) }).get? l = some { cls := .type "list", dict := od1, data := .seq items n1, slots := sl1 } := Heap.get?_push_of_some _ ho
      have k1 := PySem.F.sub_list_set; have k2 := PySem.F.sub_list_frozenset
      have k3 : (Value.type "list" == Value.type "dict") = false := by decide
      have hl1 : (s.heap.push { cls := .type "set", dict := none, data := .set #[] 0 (.fresh 0 0 led) }).IsList l items := ⟨_, ho', rfl, n1, rfl⟩
      unfold Builtin.«set.__init__» noKeywords Builtin.Frozenset.updateFrom
      generalize hI : pyIter = pI
      wp_walk
      subst hI
      refine wpAny_pyIter_list hl1 ?_
      refine wpAny_bind (wpAny_runValue ?_)
      have lz : l < z := hZ ▸ Heap.lt_size ho
      have cal : A.in1.in1.in1.handled = none := by simp [calm]
      have sz : (s.heap.push { cls := .type "set", dict := none, data := .set #[] 0 (.fresh 0 0 led) }).objs.size = z + 1 := by rw [Heap.size_push, hZ]
      have nI : l ≠ (s.heap.push { cls := .type "set", dict := none, data := .set #[] 0 (.fresh 0 0 led) }).objs.size := by rw [sz]; exact Nat.ne_of_lt (Nat.lt_succ_of_lt lz)
      have off : z ∉ [(s.heap.push { cls := .type "set", dict := none, data := .set #[] 0 (.fresh 0 0 led) }).objs.size, l] := by
        rw [sz]; simp only [List.mem_cons, List.not_mem_nil, or_false, not_or]; exact ⟨Nat.ne_of_lt (Nat.lt_succ_self z), Nat.ne_of_gt lz⟩
      refine set_turns ((Walks.list cal _ l nI items).toS) z off (fun i => xs.getD i Str.empty) (fun i v q => strs_get hv i v (by rw [Array.getElem?_toList]; exact q)) room (items.size - 0) 0 _ (by omega) (Nat.zero_le _) ⟨⟨_, Heap.get?_push_size _ rfl, rfl, rfl⟩, (hl1.push _)⟩ ?_ ?_
      · refine PyProof.Rows.SetOf_congr ((PyProof.Rows.setObjOf_fresh (knd := PySem.strKind prog w) led).setOf (Heap.get?_push_of_some _ hz) (by unfold scanBound; omega)) (fun _ => rfl) rfl
      · intro s' mv q
        obtain ⟨h', g', d', tk', os'⟩ := s'
        obtain rfl : g' = s.gens := mv.gens
        obtain rfl : d' = s.drawn := mv.drawn
        obtain rfl : os' = s.os := mv.os
        change wpAny _ _ _ _ _ _
        refine wpAny_pure ?_
        change wpAny _ _ (ret Value.none) _ _ _
        refine wpAny_pure ⟨rfl, h', tk', rfl, q, fun b o hb e => mv.heap b o ?_ (Heap.get?_push_of_some _ (Heap.get?_push_of_some _ e))⟩
        simp only [List.mem_cons, List.not_mem_nil, or_false, not_or]
        rw [sz]; exact ⟨Nat.ne_of_lt hb, Nat.ne_of_lt (Nat.lt_succ_of_lt hb)⟩
    · match r2, q2 with
      | .error e, q2 => exact q2
      | .ok (.ret v), q2 =>
        obtain ⟨rfl, h', tk, rfl, hS, kk⟩ := q2
        repeat (any_goals (first | assumption | wp_step))
        exact h _ _ hS kk
      | .ok .next, q2 => exact q2.elim
      | .ok .brk, q2 => exact q2.elim
      | .ok .cont, q2 => exact q2.elim
  | .ok .next, q => exact q.elim
  | .ok .brk, q => exact q.elim
  | .ok .cont, q => exact q.elim

set_option maxHeartbeats 4000000 in
theorem setS_tuple {prog : Program} {w : World} {A : Around} {E : Value → Shared → Prop} {s : Shared} {l : Addr} {items : Array Value} {xs : List Str} {Q : Value → Shared → Prop} (calm : A.handled = none) (hl : s.heap.IsTuple l items) (hv : Vals (xs.map V.str) items.toList) (room : items.size + 1 < scanBound)
    (h : ∀ (h' : Heap) (tk : Nat), h'.SetOf (PySem.strKind prog w) s.heap.objs.size (seen (fun i => xs.getD i Str.empty) items.size) (difs (fun i => xs.getD i Str.empty) items.size) → (∀ b o, b < s.heap.objs.size → s.heap.get? b = some o → h'.get? b = some o) → Q (.ref s.heap.objs.size) { s with heap := h', toks := tk }) :
    wpAny (model prog w) A (call (.type "set") [.ref l]) Q E s := by
  obtain ⟨c, tl, mro⟩ := PySem.F.called_set.mro
  have made := PySem.F.called_set.made; have sub := PySem.F.called_set.sub
  refine wpAny_call (codeAny_of_tree ?_)
  change wpAny _ _ (callAny (.type "set") _) _ _ _
  refine wpAny_pure ⟨Code.quiet_builtin _ (by decide +kernel), codeAny_builtin PySem.F.entry_type_call ?_⟩
  rw [Around.under_plain (weight_type_call_type "set" [.ref l] []) rfl]
  have nt := PySem.F.called_set.notType; have cc := PySem.F.called_set.canCreate; have tc := PySem.F.typeCall_set_1 (.ref l)
  repeat (any_goals (first | assumption | wp_step))
  generalize hZ : s.heap.objs.size = z at h
  refine codeAny_mono (code_set_new_1 (.ref l) (E := E) (Q₁ := fun v s1 => ∃ led : Bool, v = .ref z ∧ s1 = { s with heap := s.heap.push { cls := .type "set", dict := none, data := .set #[] 0 (.fresh 0 0 led) } }) fun led => ⟨led, by rw [hZ], rfl⟩) fun r s1 q => ?_
  match r, q with
  | .error e, q => exact q
  | .ok (.ret v), q =>
    obtain ⟨led, rfl, rfl⟩ := q
    have hz : (s.heap.push { cls := .type "set", dict := none, data := .set #[] 0 (.fresh 0 0 led) }).get? z = some { cls := .type "set", dict := none, data := .set #[] 0 (.fresh 0 0 led) } := by rw [← hZ]; exact Heap.get?_push_size _ rfl
    have ty : Shared.TypeIs { s with heap := s.heap.push { cls := .type "set", dict := none, data := .set #[] 0 (.fresh 0 0 led) } } (.ref z) "set" := ⟨_, hz, rfl⟩
    have il := PySem.F.called_set.init.lookup; have ib := PySem.F.called_set.init.bind (.ref z)
    repeat (any_goals (first | assumption | wp_step))
    refine codeAny_mono (codeAny_call_builtin (R := wants (fun r s2 => r = .none ∧ ∃ h' tk, s2 = { s with heap := h', toks := tk } ∧ h'.SetOf (PySem.strKind prog w) z (seen (fun i => xs.getD i Str.empty) items.size) (difs (fun i => xs.getD i Str.empty) items.size) ∧
        (∀ b o, b < z → s.heap.get? b = some o → h'.get? b = some o)) E) PySem.F.called_set.init.plain PySem.F.entry_set_init (check_set_init_1 ty ?_)) fun r2 s2 q2 => ?_
    · obtain ⟨⟨oc1, od1, dt1, sl1⟩, ho, hc, n1, hd⟩ := hl
      simp only at hc hd
      subst hc hd
      have ho' : (s.heap.push { cls := .type "set", dict := none, data := .set #[] 0 (.fresh 0 0 led) }).get? l = some { cls := .type "tuple", dict := od1, data := .seq items n1, slots := sl1 } := Heap.get?_push_of_some _ ho
      have k1 := PySem.F.sub_tuple_set; have k2 := PySem.F.sub_tuple_frozenset
      have k3 : (Value.type "tuple" == Value.type "dict") = false := by decide
      have hl1 : (s.heap.push { cls := .type "set", dict := none, data := .set #[] 0 (.fresh 0 0 led) }).IsTuple l items := ⟨_, ho', rfl, n1, rfl⟩
      unfold Builtin.«set.__init__» noKeywords Builtin.Frozenset.updateFrom
      generalize hI : pyIter = pI
      wp_walk
      subst hI
      refine wpAny_pyIter_tuple hl1 ?_
      refine wpAny_bind (wpAny_runValue ?_)
      have lz : l < z := hZ ▸ Heap.lt_size ho
      have cal : A.in1.in1.in1.handled = none := by simp [calm]
      have sz : (s.heap.push { cls := .type "set", dict := none, data := .set #[] 0 (.fresh 0 0 led) }).objs.size = z + 1 := by rw [Heap.size_push, hZ]
      have nI : l ≠ (s.heap.push { cls := .type "set", dict := none, data := .set #[] 0 (.fresh 0 0 led) }).objs.size := by rw [sz]; exact Nat.ne_of_lt (Nat.lt_succ_of_lt lz)
      have off : z ∉ [(s.heap.push { cls := .type "set", dict := none, data := .set #[] 0 (.fresh 0 0 led) }).objs.size, l] := by
        rw [sz]; simp only [List.mem_cons, List.not_mem_nil, or_false, not_or]; exact ⟨Nat.ne_of_lt (Nat.lt_succ_self z), Nat.ne_of_gt lz⟩
      refine set_turns ((Walks.tuple cal _ l nI items).toS) z off (fun i => xs.getD i Str.empty) (fun i v q => strs_get hv i v (by rw [Array.getElem?_toList]; exact q)) room (items.size - 0) 0 _ (by omega) (Nat.zero_le _) ⟨⟨_, Heap.get?_push_size _ rfl, rfl, rfl⟩, (hl1.push _)⟩ ?_ ?_
      · refine PyProof.Rows.SetOf_congr ((PyProof.Rows.setObjOf_fresh (knd := PySem.strKind prog w) led).setOf (Heap.get?_push_of_some _ hz) (by unfold scanBound; omega)) (fun _ => rfl) rfl
      · intro s' mv q
        obtain ⟨h', g', d', tk', os'⟩ := s'
        obtain rfl : g' = s.gens := mv.gens
        obtain rfl : d' = s.drawn := mv.drawn
        obtain rfl : os' = s.os := mv.os
        change wpAny _ _ _ _ _ _
        refine wpAny_pure ?_
        change wpAny _ _ (ret Value.none) _ _ _
        refine wpAny_pure ⟨rfl, h', tk', rfl, q, fun b o hb e => mv.heap b o ?_ (Heap.get?_push_of_some _ (Heap.get?_push_of_some _ e))⟩
        simp only [List.mem_cons, List.not_mem_nil, or_false, not_or]
        rw [sz]; exact ⟨Nat.ne_of_lt hb, Nat.ne_of_lt (Nat.lt_succ_of_lt hb)⟩
    · match r2, q2 with
      | .error e, q2 => exact q2
      | .ok (.ret v), q2 =>
        obtain ⟨rfl, h', tk, rfl, hS, kk⟩ := q2
        repeat (any_goals (first | assumption | wp_step))
        exact h _ _ hS kk
      | .ok .next, q2 => exact q2.elim
      | .ok .brk, q2 => exact q2.elim
      | .ok .cont, q2 => exact q2.elim
  | .ok .next, q => exact q.elim
  | .ok .brk, q => exact q.elim
  | .ok .cont, q => exact q.elim

/-- how many different ones -/
def dif (xs : List Str) : Nat := difs (fun i => xs.getD i Str.empty) xs.length
theorem difs_all {f : Nat → Str} : ∀ {n : Nat}, (∀ i j, i < n → j < n → f i = f j → i = j) → difs f n = n
  | 0, _ => rfl
  | n + 1, h => by
    have e := difs_all (f := f) (n := n) fun i j hi hj => h i j (by omega) (by omega)
    have no : (List.range n).any (fun j => decide (f j = f n)) = false := by
      rw [List.any_eq_false]
      intro j hj
      have hj := List.mem_range.mp hj
      have : f j ≠ f n := fun q => by have := h j n (by omega) (by omega) q; omega
      simp [this]
    unfold difs; rw [no, e]; rfl
theorem difs_lt {f : Nat → Str} {n : Nat} {i j : Nat} (hij : i < j) (hj : j < n) (e : f i = f j) : difs f n < n := by
  induction n with
  | zero => omega
  | succ n ih =>
    unfold difs
    by_cases hjn : j = n
    · subst hjn
      rw [if_pos (List.any_eq_true.mpr ⟨i, List.mem_range.mpr hij, decide_eq_true e⟩)]
      have := difs_le f j; omega
    · have := ih (by omega)
      split <;> omega
theorem dif_nodup {xs : List Str} (h : xs.Nodup) : dif xs = xs.length := difs_all fun i j hi hj e => by
  rw [List.getD_eq_getElem?_getD, List.getD_eq_getElem?_getD, List.getElem?_eq_getElem hi, List.getElem?_eq_getElem hj] at e
  exact (List.getElem_inj h).mp e
theorem dif_dup {xs : List Str} {i j : Nat} {x : Str} (hij : i < j) (hi : xs[i]? = some x) (hj : xs[j]? = some x) : dif xs < xs.length := by
  obtain ⟨hl, _⟩ := List.getElem?_eq_some_iff.mp hj
  exact difs_lt hij hl (by rw [List.getD_eq_getElem?_getD, List.getD_eq_getElem?_getD, hi, hj])
/-- len(set(xs)) of texts -/
def tLenSetS (K : PySem.W.Frag) (ta : TE) : TE := fun σ H Q => ta σ H fun x H1 => ∃ (l : Addr) (xs : List Str), x = .ref l ∧ (SqL K H1 l (xs.map V.str) ∨ SqT K H1 l (xs.map V.str)) ∧ xs.length ≤ 1000 ∧ Q (.int (dif xs : Nat)) H1
theorem pe_lenSetS {X : Cx} {a : Expr} {ta : TE} {p p2 q pos : Pos} (hg : Gl X "len") (hm : X.mg "len" = none) (hg2 : Gl X "set") (hm2 : X.mg "set" = none) (ha : PE X a ta) (hc : X.calm = true := by rfl)
    (na : starEach [a] X.env = (false, eval a X.env) :: starEach [] X.env := by rfl) : PE X (.Call (.Name "len" p) [.Call (.Name "set" p2) [a] [] q] [] pos) (tLenSetS X.K ta) := by
  refine ⟨fun pins s σ H Q I h => Call_ (ld_blt I hg hm boot_len (PyProof.Rows.callWith_builtin1 (PyProof.Rows.args_cons (Call_ (ld_blt I hg2 hm2 boot_set (PyProof.Rows.callWith_type1 (PyProof.Rows.args_cons (thn (ha.run pins s σ H _ I h) fun v s1 ⟨x, H1, I1, r1, l, xs, e, hq, hn, q1⟩ => PyProof.Rows.args_nil ?_) na) na rfl))) rfl) rfl rfl))⟩
  subst e
  cases (show v = Value.ref l from r1)
  have fin : ∀ (its : List Value), Vals (xs.map V.str) its → ∀ (h' : Heap) (tk : Nat), h'.SetOf (PySem.strKind X.prog X.w) s1.heap.objs.size (seen (fun i => xs.getD i Str.empty) its.toArray.size) (difs (fun i => xs.getD i Str.empty) its.toArray.size) → (∀ b o, b < s1.heap.objs.size → s1.heap.get? b = some o → h'.get? b = some o) →
      wpAny (model X.prog X.w) X.A (spliced (backTo pos (starEach [] X.env))) (fun vs s2 => wpAny (model X.prog X.w) X.A (call (.builtin "len") (Value.ref s1.heap.objs.size :: vs)) (EP X pins σ Q) X.xe s2) X.xe { s1 with heap := h', toks := tk } := fun its r h' tk hS hk => by
    refine PyProof.Rows.args_nil ?_
    have hl : its.toArray.size = xs.length := by rw [List.size_toArray, ← r.length, List.length_map]
    rw [hl] at hS
    have dl := difs_le (fun i => xs.getD i Str.empty) xs.length
    obtain ⟨o, es, ep, t, ho, hex, hd, _, _, _, hf, hn2⟩ := hS
    have I2 : Inv X pins σ H1 { s1 with heap := h', toks := tk } := I1.kept fun b o e => hk b o (Heap.lt_size e) e
    exact call_len_set ho hex hd hf (by rw [hn2]; omega) ⟨.int (dif xs : Nat), H1, I2.tok _, ⟨_, by rw [hn2]; rfl⟩, q1⟩
  rcases hq with hq | hq
  · obtain ⟨its, r, pl, hz⟩ := I1.list hq
    have hl : its.toArray.size = xs.length := by rw [List.size_toArray, ← r.length, List.length_map]
    exact setS_list (I1.ok.hd hc) pl.isList (by simpa using r) (by rw [hl]; unfold scanBound; omega) fun h' tk hS hk => fin its r h' tk hS hk
  · obtain ⟨its, r, pl, hz⟩ := I1.tuple hq
    have hl : its.toArray.size = xs.length := by rw [List.size_toArray, ← r.length, List.length_map]
    exact setS_tuple (I1.ok.hd hc) pl (by simpa using r) (by rw [hl]; unfold scanBound; omega) fun h' tk hS hk => fin its r h' tk hS hk
end My

namespace My
open PySem PySem.Spec PyProof.Rows L2 PySem.Calls
/-- all that is no list stays -/
def KeepN (H H' : Hp) : Prop := ∀ b o, (∀ zs, o ≠ .lst zs) → H b = some o → H' b = some o
theorem KeepN.of {H H' : Hp} (s : Same H H') : KeepN H H' := fun b o _ h => s b o h
/-- a comprehension: what each item is, and that it stays -/
theorem comp {J : It} {n : Nat} {G : Hp → Prop} {Y : Nat → Hp → V → Hp → Prop} {g : TG} {te : TE} {vs : List Nat} {σ : L2.St} {H1 : Hp} {D : Addr} {Qd : Hp → Prop} (hD : H1 D = none) (w : Walk J n G Y) (P : Nat → V → Hp → Prop) (mon : ∀ j y H H', P j y H → KeepN H H' → P j y H') (hn : n ≤ 900) (hG : ∀ H', Same H1 H' → G H')
    (turn : ∀ (i : Nat) (x : V) (H H' : Hp) (R : VK), i < n → Same H1 H → Y i H x H' → (∀ y H4, Same H H4 → P i y H4 → R y H4) → g x (wipe σ vs) H' fun σ2 H2 => wipe σ2 vs = wipe σ vs ∧ te σ2 H2 R)
    (fin : ∀ (acc : List V) (H : Hp), Same H1 H → H D = some (.lst acc) → acc.length = n → (∀ (j : Nat) (y : V), acc[j]? = some y → P j y H) → Qd H) : ∃ W : Nat → Nat → Hp → Prop, (∃ m, W 0 m (upd H1 D (.lst []))) ∧ ∀ i m H, W i m H →
      (J.stop i H ∧ Qd H) ∨ (J.go i H ∧ ∃ Nx : Hp → Prop, (∀ H', Nx H' → ∃ m', m' < m ∧ W (i + 1) m' H') ∧ ∀ x H', J.yld i H x H' → g x (wipe σ vs) H' fun σ2 H2 => wipe σ2 vs = wipe σ vs ∧ tYes σ2 H2 fun b H3 =>
        if b = true then te σ2 H3 fun y H4 => ∃ acc, H4 D = some (.lst acc) ∧ acc.length < sizeLine ∧ Nx (upd H4 D (.lst (acc ++ [y]))) else Nx H3) := by
  have off : ∀ {H : Hp} {zs : List V} , Same H1 H → Same H1 (upd H D (.lst zs)) := fun s b o h => by rw [upd_ne (ne_of_none h hD)]; exact s b o h
  refine lc_it (Qd := Qd) w (fun i H => Same H1 H ∧ ∃ acc, H D = some (.lst acc) ∧ acc.length = i ∧ ∀ j y, acc[j]? = some y → P j y H) ⟨off (Same.refl _), [], upd_same, rfl, fun j y z => by simp at z⟩ (fun i H _ p => hG H p.1) (fun i x H H' hi ⟨s, acc, ha, hl, hp⟩ hy => ?_) (fun H ⟨s, acc, ha, hl, hp⟩ => fin acc H s ha hl hp)
  refine turn i x H H' _ hi s hy fun y H4 s4 p4 => ⟨acc, s4 _ _ ha, Nat.lt_of_le_of_lt (by omega : acc.length ≤ 900) (by decide), off (s.trans s4), acc ++ [y], upd_same, by rw [List.length_append, hl]; rfl, fun j z hz => ?_⟩
  have k1 : KeepN H4 (upd H4 D (.lst (acc ++ [y]))) := fun b o ho h => by
    have : b ≠ D := fun e => by subst e; rw [s4 _ _ ha] at h; exact ho acc (Option.some.inj h).symm
    rw [upd_ne this]; exact h
  by_cases hj : j < acc.length
  · rw [List.getElem?_append_left hj] at hz
    exact mon _ _ _ _ (mon _ _ _ _ (hp j z hz) (.of s4)) k1
  · rw [List.getElem?_append_right (by omega)] at hz
    have e : j - acc.length = 0 := by
      rcases Nat.eq_zero_or_pos (j - acc.length) with q | q
      · exact q
      · rw [List.getElem?_eq_none (by simp; omega)] at hz; cases hz
    rw [e] at hz
    obtain rfl : y = z := by simpa using hz
    obtain rfl : j = i := by omega
    exact mon _ _ _ _ p4 k1
/-- the walk over a variable's list or tuple -/
def iSeqV (K : PySem.W.Frag) (i : Nat) : TI := fun σ H R => ∃ (a : Addr) (xs : List V), σ[i]? = some (some (.ref a)) ∧ ((SqL K H a xs ∧ R (Itl K a) H) ∨ (SqT K H a xs ∧ R (Itt K a) H))
theorem pi_seqV {X : Cx} {tg : Expr} {x : Str} {pos : Pos} {i : Nat} (he : PE X (.Name x pos) (tVar i)) : PI X tg (.Name x pos) (iSeqV X.K i) := by
  refine ⟨fun pins s σ H R I ⟨a, xs, e, q⟩ => ?_⟩
  rcases q with ⟨q, r⟩ | ⟨q, r⟩
  · exact (pi_list he).run pins s σ H R I ⟨_, e, a, rfl, ⟨xs, q⟩, r⟩
  · exact (pi_tup he).run pins s σ H R I ⟨_, e, a, rfl, ⟨xs, q⟩, r⟩
end My

namespace My
open PySem PySem.Spec PyProof.Rows L2 PySem.Calls
open PySem.SeqAt
open AutoSeq1 (wpAny_loadPart')
open MeetsSeq MeetsSeq2 MeetsSeq3 SeqRoads2
/-! ### == of two tuples of one length, the items' == known -/
section
variable {prog : Program} {w : World} {A : Around} {R : Result → Shared → Prop}
theorem tupB {l b : Addr} {xs ys : Array Value} {n m : Nat} {dd de : Option Addr} {sl sm : Array (Option Value)} (sz : xs.size = ys.size) (d : Nat → Bool) (I : Shared → Prop)
    (turn : ∀ i (h1 : i < xs.size) (h2 : i < ys.size) s, I s → wpAny (model prog w) A.in1 (eqBool xs[i] ys[i]) (fun r s' => r = d i ∧ I s') (fun e s' => R (.error e) s') s)
    (yes : ∀ s, I s → (∀ i, i < xs.size → d i = true) → R (.ok (.ret (.bool true))) s) (no : ∀ s i, I s → i < xs.size → d i = false → R (.ok (.ret (.bool false))) s)
    {s : Shared} (h1 : s.heap.get? l = some { cls := .type "tuple", dict := dd, data := .seq xs n, slots := sl }) (h2 : s.heap.get? b = some { cls := .type "tuple", dict := de, data := .seq ys m, slots := sm }) (h : I s) :
    wpAny (model prog w) A.in1 (Builtin.«tuple.__eq__» ⟨[.ref l, .ref b], []⟩) (GQ.FinOf prog w A R) (fun e s' => R (.error e) s') s := by
  have f2 := AutoSeq1.sub_tuple_tuple
  have hZ : (xs.toList.zip ys.toList).length = xs.size := by simp [sz]
  have h0 := h
  obtain ⟨hp, g, dw, tk, os⟩ := s
  wp_walk using wpAny_loadPart' h1, wpAny_loadPart' h2, wpAny_forIn_list _ (fun rest c s' => c.1 = none ∧ ∃ i, rest = (xs.toList.zip ys.toList).drop i ∧ i ≤ xs.size ∧ (∀ j, j < i → d j = true) ∧ I s') _
  case turn =>
    rintro ⟨y, x⟩ rest c s' ⟨hc, i, hz, hi, ha, hI⟩
    have lt : i < (xs.toList.zip ys.toList).length := by
      rcases Nat.lt_or_ge i (xs.toList.zip ys.toList).length with q | q
      · exact q
      · rw [List.drop_of_length_le q] at hz; cases hz
    have l1 : i < xs.size := hZ ▸ lt
    have l2 : i < ys.size := sz ▸ l1
    rw [List.drop_eq_getElem_cons lt] at hz
    injection hz with e1 e2
    obtain rfl : y = xs[i] := by have := congrArg Prod.fst e1; simpa using this
    obtain rfl : x = ys[i] := by have := congrArg Prod.snd e1; simpa using this
    refine wpAny_bind (wpAny_mono (turn i l1 l2 s' hI) (fun r s2 q2 => ?_) fun _ _ x => x)
    obtain ⟨hr, q2⟩ := q2
    subst hr
    cases hd : d i with
    | true =>
      wp_walk
      exact ⟨rfl, i + 1, e2, l1, fun j hj => by rcases Nat.lt_succ_iff_lt_or_eq.mp hj with q | q; exact ha j q; rw [q]; exact hd, q2⟩
    | false =>
      wp_walk
      exact no s2 i q2 l1 hd
  case fin =>
    rintro ⟨c1, c2⟩ s' ⟨hc, i, hz, hi, ha, hI⟩
    simp only at hc
    subst hc
    have ge : xs.size ≤ i := by
      rcases Nat.lt_or_ge i (xs.toList.zip ys.toList).length with q | q
      · rw [List.drop_eq_getElem_cons q] at hz; cases hz
      · exact hZ ▸ q
    obtain rfl : i = xs.size := by omega
    have hR := yes s' hI ha
    wp_walk
    simpa [Builtin.Tuple.tupleCompareSizes, sz] using hR
  case h => exact ⟨rfl, 0, rfl, Nat.zero_le _, fun j hj => absurd hj (Nat.not_lt_zero _), h0⟩
end

/-! ### the two by what is known of their == -/
abbrev EqT := V → V → Bool → Hp → Prop
def MonT (D : EqT) : Prop := ∀ x y c H H', Same H H' → D x y c H → D x y c H'
section
variable (X : Cx) (n : Nat) (D : EqT)
def EqB : Prop := ∀ (A : Around) (pins : List (Addr × Obj)) (s : Shared) (σ : L2.St) (H : Hp) (x y : V) (c : Bool) (u v : Value), Sub X n A → Inv X pins σ H s → RelV x u → RelV y v → D x y c H →
  wpAny (model X.prog X.w) A (eqBool u v) (fun r s' => r = c ∧ ∃ H', Inv X pins σ H' s' ∧ Same H H') X.xe s
def RcB : Prop := ∀ (A : Around) (pins : List (Addr × Obj)) (s : Shared) (σ : L2.St) (H : Hp) (x y : V) (c : Bool) (u v : Value), Sub X n A → Inv X pins σ H s → RelV x u → RelV y v → D x y c H →
  wpAny (model X.prog X.w) A (richCompare .Eq u v) (fun r s' => r = .bool c ∧ ∃ H', Inv X pins σ H' s' ∧ Same H H') X.xe s
end
/-- two tuples, item by item -/
def DTupB (K : PySem.W.Frag) (D : EqT) : EqT := fun x y c H => ∃ (a b : Addr) (xs ys : List V) (cs : List Bool), x = .ref a ∧ y = .ref b ∧ SqT K H a xs ∧ SqT K H b ys ∧ xs.length = ys.length ∧ cs.length = xs.length ∧ (∀ (i : Nat) (x y : V) (k : Bool), xs[i]? = some x → ys[i]? = some y → cs[i]? = some k → D x y k H) ∧ c = cs.all id
section
variable {X : Cx} {n m : Nat} {D : EqT}
theorem EqB.mono (h : EqB X n D) (hn : n ≤ m) : EqB X m D := fun A pins s σ H x y c u v sb => h A pins s σ H x y c u v (sb.mono hn)
theorem rcB_tup (mo : MonT D) (h : EqB X n D) : RcB X (n + 1) (DTupB X.K D) := by
  intro A pins s σ H x y c u v sb I rx ry ⟨a, b, xs, ys, cs, ex, ey, ha, hb, hl, hc, hd, he⟩
  subst ex ey
  cases (show u = Value.ref a from rx)
  cases (show v = Value.ref b from ry)
  obtain ⟨its, r, e, _⟩ := I.tuple ha
  obtain ⟨its2, r2, e2, _⟩ := I.tuple hb
  have n1 := r.length; have n2 := r2.length
  have sz : its.toArray.size = its2.toArray.size := by rw [List.size_toArray, List.size_toArray, ← n1, ← n2]; exact hl
  obtain ⟨⟨k1, d1, t1, l1⟩, ho, hc1, m1, hd1⟩ := id e
  obtain ⟨⟨k2, d2, t2, l2⟩, ho2, hc2, m2, hd2⟩ := id e2
  simp only at hc1 hd1 hc2 hd2
  subst hc1 hd1 hc2 hd2
  refine wpAny_richCompare_same_room (op := .Eq) ⟨_, ho, rfl⟩ ⟨_, ho2, rfl⟩ PySem.F.slot_tuple_eq (GQ.call_here PySem.F.slot_tuple_eq ⟨_, ho, rfl⟩ PySem.F.entry_tuple_eq (PySem.F.args_tuple_eq_2 _ _) ?_) sb.room.units0
  refine tupB (R := wants (fun v s' => v ≠ .notImplemented ∧ (v = .bool c ∧ ∃ H', Inv X pins σ H' s' ∧ Same H H')) X.xe) sz (fun i => cs.getD i true) (fun s' => ∃ H', Inv X pins σ H' s' ∧ Same H H') (fun i h1 h2 s' ⟨H1, I1, e1⟩ => ?_) (fun s' q ha => ⟨(fun x => nomatch x), ?_, q⟩) (fun s' i q hi hd => ⟨(fun x => nomatch x), ?_, q⟩) ho ho2 ⟨H, I, Same.refl H⟩
  · have k1 : i < xs.length := by rw [n1]; simpa using h1
    have k2 : i < ys.length := by rw [← hl]; exact k1
    have k3 : i < cs.length := by rw [hc]; exact k1
    obtain ⟨u, hu, ru⟩ := r.get (List.getElem?_eq_getElem k1)
    obtain ⟨v, hv, rv⟩ := r2.get (List.getElem?_eq_getElem k2)
    have g1 : its.toArray[i] = u := by
      have h1' : i < its.length := by simpa using h1
      rw [List.getElem?_eq_getElem h1'] at hu
      simpa using hu
    have g2 : its2.toArray[i] = v := by
      have h2' : i < its2.length := by simpa using h2
      rw [List.getElem?_eq_getElem h2'] at hv
      simpa using hv
    rw [g1, g2]
    refine wpAny_mono (h A.in1 pins s' σ H1 _ _ cs[i] u v sb.in1 I1 ru rv (mo _ _ _ _ _ e1 (hd i _ _ _ (List.getElem?_eq_getElem k1) (List.getElem?_eq_getElem k2) (List.getElem?_eq_getElem k3)))) (fun r s2 ⟨hr, H2, I2, e2⟩ => ⟨?_, H2, I2, e1.trans e2⟩) fun _ _ x => x
    rw [hr]
    show cs[i] = cs.getD i true
    rw [List.getD_eq_getElem?_getD, List.getElem?_eq_getElem k3]; rfl
  · rw [he]
    congr 1
    symm
    rw [List.all_eq_true]
    intro k hk
    obtain ⟨i, hi, ei⟩ := List.mem_iff_getElem.mp hk
    have z := ha i (by rw [List.size_toArray, ← n1, ← hc]; exact hi)
    have z2 : cs.getD i true = cs[i] := by rw [List.getD_eq_getElem?_getD, List.getElem?_eq_getElem hi]; rfl
    rw [z2, ei] at z
    exact z
  · rw [he]
    congr 1
    symm
    have hi2 : i < cs.length := by rw [hc, n1]; simpa using hi
    have z2 : cs.getD i true = cs[i] := by rw [List.getD_eq_getElem?_getD, List.getElem?_eq_getElem hi2]; rfl
    rw [z2] at hd
    rw [List.all_eq_false]
    exact ⟨cs[i], List.getElem_mem hi2, by rw [hd]; simp⟩
theorem RcB.eqB (h : RcB X n D) (hr : ∀ x y c H, D x y c H → ∃ a b, x = .ref a ∧ y = .ref b ∧ (a = b → c = true)) : EqB X n D := by
  intro A pins s σ H x y c u v sb I rx ry d
  obtain ⟨a, b, ex, ey, hs⟩ := hr _ _ _ _ d
  subst ex ey
  cases (show u = Value.ref a from rx)
  cases (show v = Value.ref b from ry)
  by_cases hab : a = b
  · subst hab
    exact SeqAt.EqAt.same (A := A) (s := s) (.ref a) X.prog X.w X.xe _ ⟨(hs rfl).symm, H, I, Same.refl H⟩
  · refine GQ.eqBool_refG hab (wpAny_mono (h A pins s σ H (.ref a) (.ref b) c _ _ sb I rfl rfl d) (fun r s' ⟨hr', q⟩ => ⟨c, hr', rfl, q⟩) fun _ _ x => x)
/-- x == y -/
def rEqB (D : EqT) : R2 := fun x y H Q => ∃ c, D x y c H ∧ ∀ H', Same H H' → Q (.bl c) H'
theorem op_eqB (h : RcB X n D) (hr : Room n X.A) : OpR X (compareOp .Eq) (rEqB D) := fun pins s σ H x y v u Q I rx ry ⟨c, d, q⟩ =>
  wpAny_mono (h X.A pins s σ H x y c v u ⟨hr, rfl⟩ I rx ry d) (fun r s' ⟨hr', H', I', e⟩ => by subst hr'; exact ⟨.bl c, H', I', rfl, q H' e⟩) fun _ _ x => x
end
/-! ### own comparisons -/
section
variable {prog : Program} {w : World} {A : Around} {E : Value → Shared → Prop} {s : Shared} {K : PySem.W.Frag} {x C L f : Addr} {h₀ : Heap} {m : Str → Option Value} {ox : Obj} {od : Option Obj} {tb b : Value}
theorem ne_K {Q : Value → Shared → Prop} (hu : A.units + 1 < cLine) (X : K.In s.heap) (I : PySem.W.InstAt s.heap x ox C od) (hb : PySem.W.Looks (model prog w) s.heap (typeOf b) tb) (hn : PySem.W.notFirst K C tb = true)
    (hne : PySem.W.findIn K (.ref C) "__ne__" = some (some (.builtin "object.__ne__"))) (hob : PySem.W.subIn K (.ref C) (.type "object") = some true) (hs : PySem.W.findIn K (.ref C) "__eq__" = some (some (.ref f))) (hf : PySem.W.isFn K (.ref f) = true)
    (h : wpAny (model prog w) A.in1 (call (.ref f) [.ref x, b]) (fun v s' => ∃ c, v = .bool c ∧ Q (.bool (!c)) s') E s) : wpAny (model prog w) A (richCompare .NotEq (.ref x) b) Q E s := by
  have L0 : PySem.W.Looks (model prog w) s.heap (isInstance (.ref x) (.type "object")) true := I.type.andThen (PySem.W.looks_subIn X hob)
  have body : wpAny (model prog w) A.in1 (Builtin.«object.__ne__» ⟨[.ref x, b], []⟩) (fun fin s' => ∃ v, fin = .done (.ret v) ∧ v ≠ .notImplemented ∧ Q v s') E s := by
    unfold Builtin.«object.__ne__»
    refine wpAny_bind (wpAny_of_eq (a := ((Value.ref x : Value), [b])) (by first | rfl | (simp only [slotArgs]; rfl)) ?_)
    refine wpAny_bind (wpAny_cRoomFor (by first | exact Nat.lt_of_succ_lt hu | exact hu) ?_)
    refine wpAny_bind (PySem.W.ifBound_K X I hs hf (wpAny_mono h (fun v s' ⟨c, e, q⟩ => ?_) fun _ _ e => e))
    subst e
    refine wpAny_bind (wpAny_truthy_bool ?_)
    exact wpAny_pure ⟨_, rfl, (fun z => nomatch z), q⟩
  have one : wpAny (model prog w) A (tryCompare (.ref x) "__ne__" b) (fun r s' => ∃ v, r = some v ∧ Q v s') E s := by
    unfold tryCompare
    simp only [callSpecialIfBound?, bindSpecialIfBound?]
    refine wpAny_bind (wpAny_holding (wpAny_bind (wpAny_bind (wpAny_bind (I.type.here ((PySem.W.looks_findIn X hne).here ?_))))))
    have fin : wpAny (model prog w) A (call (.builtin "object.__ne__") ([.ref x] ++ [b]) >>= fun v => pure (some v)) (fun r s' => wpAny (model prog w) A (match r with | some .notImplemented | none => pure none | some v => pure (some v)) (fun r s' => ∃ v, r = some v ∧ Q v s') E s') E s := by
      refine wpAny_bind (wpAny_call (codeAny_call_builtin PySem.F.slot_zip_ne.plain PySem.F.cmpEntry_ne (@PySem.W.check_slot (model prog w) _ _ s "object.__ne__" "object" "__ne__" (.ref x) [b] [] _ PySem.F.cmpKind_ne PySem.F.cmpSplit_ne L0 (PySem.F.cmpArgs_ne _ _) (wpAny_mono body (fun r s' q => ?_) fun _ _ e => e))))
      obtain ⟨v, e, hv, q⟩ := q
      subst e
      exact wpAny_pure (by cases v <;> first | exact (hv rfl).elim | exact wpAny_pure ⟨_, rfl, q⟩)
    refine wpAny_bind (wpAny_askSetting (wpAny_ite ?_))
    split
    · exact wpAny_bind (wpAny_of_eq (PySem.F.slot_zip_ne.bind (.ref x)) (wpAny_pure fin))
    · exact wpAny_tryCatch (wpAny_bind (wpAny_of_eq (PySem.F.slot_zip_ne.bind (.ref x)) (wpAny_pure fin)))
  unfold richCompare
  simp only [oneThing_ref]
  refine wpAny_holding (wpAny_bind (wpAny_cRoomFor (Nat.lt_of_succ_lt hu) ?_))
  refine wpAny_bind (I.type.here (wpAny_bind (hb.here ?_)))
  have go : wpAny (model prog w) A (tryCompare (.ref x) "__ne__" b >>= fun r => match r with | some v => pure v | none => unsupported "x") (fun v s' => Q v s') E s := wpAny_bind (wpAny_mono one (fun r s' ⟨v, e, q⟩ => by subst e; exact wpAny_pure q) fun _ _ e => e)
  split
  · rename_i q
    have e : PySem.W.subIn K tb (.ref C) = some false := by
      rcases Bool.or_eq_true_iff.mp hn with e | e
      · rw [beq_iff_eq.mp e] at q; simp at q
      · exact beq_iff_eq.mp e
    refine wpAny_bind ((PySem.W.looks_subIn X e).here ?_)
    simp only [Bool.false_eq_true, if_false]
    exact wpAny_bind (wpAny_mono one (fun r s' ⟨v, e, q⟩ => by subst e; exact wpAny_pure q) fun _ _ e => e)
  · refine wpAny_bind (wpAny_pure ?_)
    simp only [Bool.false_eq_true, if_false]
    exact wpAny_bind (wpAny_mono one (fun r s' ⟨v, e, q⟩ => by subst e; exact wpAny_pure q) fun _ _ e => e)
end
end My

namespace My
open PySem PySem.Spec PyProof.Rows L2 PySem.Calls
/-! ### own errors without arguments -/
section
variable {X : Cx} {C : Addr}
theorem pmk0 {x : Str} {p pos : Pos} (T : XCls X.K C) (q : PySem.W.excIn X.K C He.veBase "ValueError.__new__" = true) (kC : PySem.W.keepIn X.K (.ref C) = true) (gC : X.mg x = some (.ref C)) (hg : Gl X x := by rfl) (hdb : (x == ("__debug__" : Str)) = false := by decide) : L2N.PMk X (.Call (.Name x p) [] [] pos) (fun _ H Q => Q (.ref C) none H) := by
  intro pins s σ H Q I h
  refine wpAny_Call_Name_kw (ld_glob I hg gC (PySem.W.callWith_K0 (first := []) I.kIn kC ?_) hdb)
  obtain ⟨bm, N, nm, qn, bs, hdct, sn, sub, ab, col, dd, k0, k1, k2, k3, k5, mN, hC, hN, hni, U⟩ := exc_obj I.kIn q
  refine wpAny_call_exc_subT F.excBase_ValueError U hC hN hni (fun h' e hm => ?_) (by show 0 ≤ sizeLine; omega)
  exact L2N.mk_of I hm (raises_own T.ox.exC T.ox.tyC) h (I.hok.gone hm.new)
end
/-! ### in the suite: e.m() of an error without fields -/
section
variable {X : Cx} {a : Addr} {oe : Obj} {cls : Value} {d : Option Addr} {pn : List (Addr × Obj)}
def tXsM0 (X : Cx) (a : Addr) (cls : Value) (d : Option Addr) (m : Str) (te : TE) : TE := fun σ H Q => te σ H fun x H1 => ∃ (C f : Addr) (z : Str), x = .ref a ∧ cls = .ref C ∧ d = none ∧ XCls X.K C ∧ XMethH X.prog X.w X.K X.mg X.base C m f z ∧ Q (.str z) H1
theorem pe_xsM0 {k : Nat} {o : Expr} {te : TE} {m : Str} {apos pos : Pos} {pl : Sem Bool} (hz : L2N.Zn cls d oe) (hf : ∃ vs, oe.data = .fields vs) (hr : Room k X.A) (he : PE (X.suite a ((a, oe) :: pn)) o te) (hk : 1 ≤ k := by decide)
    (hq : eval (.Call (.Attribute o m apos) [] [] pos) X.env = (do
      let ov ← eval o X.env
      standAt apos.atName
      let (f, first) ← holding [ov] (getMethod ov m pl)
      callWith pos f first (backTo pos (starEach [] X.env)) (backToKw pos (keywordEach [] X.env))) := by rfl) : PE (X.suite a ((a, oe) :: pn)) (.Call (.Attribute o m apos) [] [] pos) (tXsM0 X a cls d m te) := by
  refine ⟨fun pins s σ H Q I h => PySem.W.methodCall_KW (pl := pl) (thn (he.run pins s σ H _ I h) fun u s1 ⟨x, H1, I1, rx, C, f, z, ex, ec, ed, T, M, q⟩ => ?_) hq⟩
  subst ex
  obtain rfl : u = Value.ref a := rx
  subst ec ed
  obtain ⟨ha, _⟩ := I1.pin (a, oe) (List.mem_append_left _ List.mem_cons_self)
  obtain ⟨vs, hv⟩ := hf
  have J : PySem.W.InstAt s1.heap a oe C none := ⟨ha, hz.1, by unfold PySem.W.notCls; rw [hv] <;> rfl, by rw [hz.2.1]; trivial⟩
  obtain ⟨fd, F, B⟩ := M.fn
  refine x_meth I1.kIn J T.ga T.gt M.at_ M.ty rfl (PySem.W.callWith_K0 (first := [.ref a]) I1.kIn M.kp ?_)
  have hot : L2H.HotC (X.suite a ((a, oe) :: pn)) := ⟨(a, oe), ⟨rfl, vs, hv, hz.2.2 vs hv⟩, List.mem_cons_self⟩
  exact L2H.run_fnH (X := X.suite a ((a, oe) :: pn)) (E := fun _ => E0) (us := [.ref a]) (vs := [.ref a]) F ⟨(hr.mono hk).dp, (hr.mono hk).un⟩ hot B (fun _ _ _ _ _ _ z => z.elim) I1 (.cons rfl .nil) ⟨a, rfl, q⟩
end
end My

namespace My
open PySem PySem.Spec PyProof.Rows L2 PySem.Calls
open PySem.SeqAt
open AutoSeq1 (wpAny_loadPart')
open MeetsSeq MeetsSeq2 MeetsSeq3 SeqRoads2
/-! ### != of two lists whose items are equal -/
section
variable {prog : Program} {w : World} {A : Around} {R : Result → Shared → Prop}
theorem ne_loopL (l b : Addr) (N : Nat) (I : Nat → Shared → Prop) (hl : GQ.ListI prog w A (fun e s' => R (.error e) s') l b N I)
    (fin : ∀ s, I N s → R (.ok (.ret (.bool false))) s) (k : Nat) :
    ∀ i : Nat, N - i = k → i ≤ N → ∀ s, I i s →
      wpAny (model prog w) A.in1 (Builtin.«list.__eq__.loop» ⟨[.ref l, .ref b, rawInt i, rawInt 3], []⟩) (GQ.FinOf prog w A R) (fun e s' => R (.error e) s') s := by
  induction k with
  | zero =>
    intro i hk hi s h
    obtain ⟨xs, ys, n, n2, hl1, hb1, hs1, hs2, _⟩ := hl _ _ h
    have hi' : i = N := by omega
    have hR : R (.ok (.ret (.bool false))) s := fin s (hi' ▸ h)
    obtain ⟨hp, g, d, tk, os⟩ := s
    wp_walk using wpAny_loadPart' hl1, wpAny_loadPart' hb1
    have hi1 : xs[((i : Nat) : Int).toNat]? = none := by simp; omega
    have hi2 : ys[((i : Nat) : Int).toNat]? = none := by simp; omega
    rw [hi1, hi2]
    wp_walk using wpAny_loadPart' hl1, wpAny_loadPart' hb1
    show R (.ok (.ret (.bool (xs.size != ys.size)))) _
    rw [hs1, hs2]
    simpa using hR
  | succ k ih =>
    intro i hk hi s h
    obtain ⟨xs, ys, n, n2, hl1, hb1, hs1, hs2, turn⟩ := hl _ _ h
    have l1 : i < xs.size := by omega
    have l2 : i < ys.size := by omega
    have ht := turn l1 l2
    obtain ⟨hp, g, d, tk, os⟩ := s
    wp_walk using wpAny_loadPart' hl1, wpAny_loadPart' hb1
    have hi1 : xs[((i : Nat) : Int).toNat]? = some xs[i] := by simp [l1]
    have hi2 : ys[((i : Nat) : Int).toNat]? = some ys[i] := by simp [l2]
    have hc : ((i : Int) + 1) = ((i + 1 : Nat) : Int) := by omega
    rw [hi1, hi2]
    refine wpAny_bind (wpAny_mono ht (fun r s2 h2 => ?_) fun _ _ x => x)
    obtain ⟨hr, h2⟩ := h2
    subst hr
    have hrec := ih (i + 1) (by omega) (by omega) s2 h2
    obtain ⟨hp2, g2, d2, tk2, os2⟩ := s2
    wp_walk
    rw [hc]
    exact ⟨plainId_quiet plain_eq_loop _, codeAny_builtin entry_eq_loop (by
      rw [Around.under_plainId plain_eq_loop _]
      exact hrec)⟩
theorem list_neL (l b : Addr) (N : Nat) (I : Nat → Shared → Prop) (hl : GQ.ListI prog w A (fun e s' => R (.error e) s') l b N I)
    (fin : ∀ s, I N s → R (.ok (.ret (.bool false))) s) {s : Shared} (h : I 0 s) :
    wpAny (model prog w) A.in1 (Builtin.«list.__ne__» ⟨[.ref l, .ref b], []⟩) (GQ.FinOf prog w A R) (fun e s' => R (.error e) s') s := by
  obtain ⟨xs, ys, n, n2, hl1, hb1, hs1, hs2, _⟩ := hl _ _ h
  have hrec := ne_loopL (A := A) (R := R) l b N I hl fin _ 0 rfl (Nat.zero_le _) s h
  obtain ⟨hp, g, d, tk, os⟩ := s
  have f3 := AutoSeq1.sub_list_list
  have hne : ¬ (xs.size != ys.size) = true := by simp [hs1, hs2]
  wp_walk using wpAny_loadPart' hl1, wpAny_loadPart' hb1
  exact ⟨plainId_quiet plain_eq_loop _, codeAny_builtin entry_eq_loop (by
    rw [Around.under_plainId plain_eq_loop _]
    exact hrec)⟩
end
section
variable {prog : Program} {w : World} {A : Around} {E : Value → Shared → Prop} {s : Shared}
theorem rc_listNe {l b : Addr} {N : Nat} {Q : Value → Shared → Prop} (hu : A.units < cLine) (I : Nat → Shared → Prop) (hl : GQ.ListI prog w A E l b N I)
    (fin : ∀ s, I N s → Q (.bool false) s) (h : I 0 s) : wpAny (model prog w) A (richCompare .NotEq (.ref l) (.ref b)) Q E s := by
  obtain ⟨xs, ys, n, n2, hl1, hb1, _, _, _⟩ := hl _ _ h
  refine wpAny_richCompare_same_room (op := .NotEq) ⟨_, hl1, rfl⟩ ⟨_, hb1, rfl⟩ PySem.F.slot_list_ne (GQ.call_here PySem.F.slot_list_ne ⟨_, hl1, rfl⟩ PySem.F.entry_list_ne (PySem.F.args_list_ne_2 _ _) ?_) hu
  exact list_neL (R := wants (fun v s' => v ≠ .notImplemented ∧ Q v s') E) l b N I hl (fun s' q => ⟨(fun x => nomatch x), fin s' q⟩) h
end
section
variable {X : Cx} {n : Nat} {D : Eqv}
theorem EqG.ofB {E : EqT} (h : EqB X n E) : EqG X n (fun x y H => E x y true H) := fun A pins s σ H x y u v sb I rx ry d => wpAny_mono (h A pins s σ H x y true u v sb I rx ry d) (fun r s' ⟨hr, H', I', e⟩ => ⟨hr, H', I', e⟩) fun _ _ x => x
/-- x != y of two lists, item by item equal -/
def rNeL (D : Eqv) : R2 := fun x y H Q => ∃ a b xs ys, x = .ref a ∧ y = .ref b ∧ H a = some (.lst xs) ∧ H b = some (.lst ys) ∧ Prs D xs ys H ∧ ∀ H', Same H H' → Q (.bl false) H'
theorem op_neL (hD : Mon D) (h : EqG X n D) (hr : Room (n + 1) X.A) : OpR X (compareOp .NotEq) (rNeL D) := by
  intro pins s σ H x y u v Q I rx ry ⟨a, b, xs, ys, ex, ey, ha, hb, p, q⟩
  subst ex ey
  cases (show u = Value.ref a from rx)
  cases (show v = Value.ref b from ry)
  refine rc_listNe (N := xs.length) hr.units0 (fun _ s' => LoopI X pins σ H s') (fun i s' q => ?_) (fun s' ⟨H', I', e⟩ => ⟨.bl false, H', I', rfl, q H' e⟩) ⟨H, I, Ext.rfl'⟩
  obtain ⟨H1, I1, e1⟩ := id q
  obtain ⟨z, its, k, r, e⟩ := I1.hok a _ (e1 _ _ ha)
  obtain ⟨z2, its2, k2, r2, e2⟩ := I1.hok b _ (e1 _ _ hb)
  refine ⟨its.toArray, its2.toArray, k, k2, e, e2, by rw [List.size_toArray, ← r.length], by rw [List.size_toArray, ← r2.length, ← p.1], fun h1 h2 => ?_⟩
  exact turnG hD h ⟨hr, rfl⟩ p r r2 i h1 h2 s' q
end
end My

namespace My
open PySem PySem.Spec PyProof.Rows L2
/-! ### an exception that leaves a comprehension -/
section
variable {X : Cx} {pins : List (Addr × Obj)} {σ : L2.St} {H : Hp} {s s' : Shared} {W W' : L2.WX}
/-- an exception out of a call, in flight in X -/
def XF (X : Cx) (W : L2.WX) (u : Value) (s' : Shared) : Prop :=
  ∃ (a : Addr) (B : Heap) (sI : Shared) (pins : List (Addr × Obj)) (σ : L2.St) (H : Hp) (cls : Value) (d : Option Addr), u = .ref a ∧ Inv X pins σ H sI ∧
    (∀ b o, sI.heap.get? b = some o → b ∉ frs X.stack → B.get? b = some o) ∧ sI.heap.UpToSlots s'.heap ∧ HandSPX.FlyingZ B X.stack a (L2N.Zn cls d) s'.heap ∧ H a = none ∧ s'.os = sI.os ∧ AllBare s'.gens ∧ W cls d σ H
theorem XF.of_call {E : XK} {u : Value} (I : Inv X pins σ H s) (hW : ∀ cls d H', E cls d H' → W cls d σ H') (c : L2N.CX X.prog X.w X.stack H s E u s') : XF X W u s' := by
  obtain ⟨a, B, sI, pins, σ, H, cls, d, e, J, nb, up, sky, na, os, ag, w⟩ := L2N.XE.of_call I hW c
  obtain ⟨a', B', H', cls', d', e', fl, _⟩ := c
  obtain rfl : a = a' := by rw [e] at e'; injection e'
  refine ⟨a, B, sI, pins, σ, H, cls, d, e, J, nb, up, ?_, na, os, ag, w⟩
  obtain ⟨_, _, _, oe, vs, T, oT, ts, he, _, hd, h1, _, _, hT, hdT, h3⟩ := fl
  rcases sky with ⟨_, _, _, oe2, vs2, he2, _, hd2, h12⟩ | f | ⟨_, _, _, oe2, vs2, T2, oT2, ts2, he2, _, hd2, h12, _, _, hT2, hdT2, h32⟩
  · rw [he] at he2; cases he2
    rw [hd] at hd2; injection hd2 with hd2; subst hd2
    rw [h1] at h12; cases h12
  · exact f
  · rw [he] at he2; cases he2
    rw [hd] at hd2; injection hd2 with hd2; subst hd2
    rw [h1] at h12; cases h12
    rw [hT] at hT2; cases hT2
    rw [hdT] at hdT2; injection hdT2 with hdT2; subst hdT2
    rw [h3] at h32; cases h32
theorem passF {E : XK} (hW : ∀ cls d σ H, E cls d H → W cls d σ H) : Passes (L2N.CX X.prog X.w) (X.wish (XF X W)) E := fun pins σ H s e s' I c => XF.of_call (X := X) I.unwish (fun cls d H' h => hW cls d σ H' h) c
theorem passOn_held {M : Model} {A : Around} {E : Value → Shared → Prop} {B : Heap} {l : List Env} {a L : Addr} {Z : Obj → Prop} {cenv : Env} {what : String} (hf : cenv.frame = some L) (hh : HandSPX.HeldZ B l a Z L s.heap)
    (h : ∀ h', HandSPX.HeldZ B l a Z L h' → s.heap.UpToSlots h' → E (.ref a) { s with heap := h' }) : wpAny M A (PySem.passOn what (.ref a) cenv : Sem Value) (fun _ _ => False) E s := by
  obtain ⟨oe, vs, T, oT, ts, he, hz, hd, h1, r⟩ := id hh.2.2.2
  unfold PySem.passOn
  rw [hf]
  refine wpAny_bind (wpAny_field he hd h1 ?_)
  rw [if_neg (by simp)]
  exact wpAny_bind (HandSPX.setFlight_onZ hh fun h' hh' up => wpAny_throw (h h' hh' up))
theorem funFrames_base {h B B' : Heap} : ∀ {l : List Env}, h.FunFrames B l → (∀ b ∈ frs l, B'.get? b = none) → h.FunFrames B' l
  | [], _, _ => trivial
  | env :: l, ⟨hk, ⟨L, o, hf, hn, ho, hd⟩, hr⟩, k => by
    have m : L ∈ frs (env :: l) := by unfold frs; rw [List.filterMap_cons, hf]; exact List.mem_cons_self
    refine ⟨hk, ⟨L, o, hf, k L m, ho, hd⟩, funFrames_base hr fun b hb => k b ?_⟩
    unfold frs at hb ⊢
    rw [List.filterMap_cons, hf]
    exact List.mem_cons_of_mem _ hb
theorem upTo_trans {h1 h2 h3 : Heap} (a : h1.UpToSlots h2) (b : h2.UpToSlots h3) : h1.UpToSlots h3 := fun x o e n => by
  obtain ⟨sl, e1⟩ := a x o e n
  obtain ⟨sl2, e2⟩ := b x _ e1 n
  exact ⟨sl2, e2⟩
/-- from the block's air into the def's -/
theorem comp_out {s3 : Shared} {H3 : Hp} {scope : Scope} {ce : Env} {fp : List Addr} {u : Value} (I3 : Inv X pins σ H3 s3) (f3 : ∀ b ∈ fp, FpOk X pins H3 b) (hst : X.stack = X.env :: X.outer) (hfr : X.env.frame = some X.env.locals) (hcf : ce.frame = X.env.frame)
    (hC : ce.locals = s3.heap.objs.size) (tk : L2N.Takes X W') (hW : ∀ cls d σ' σ H, W cls d σ' H → W' cls d σ H) (x : XF (X.blk s3 H3 scope ce fp) W u s') : notedBy (model X.prog X.w) X.A ce (CompFails (model X.prog X.w) X.A X.xe ce) u s' := by
  obtain ⟨a, B, sI, pins', σ', H', cls, d, rfl, I, nb, up, fl, na, os, ag, w⟩ := x
  show wpAny _ _ (noteFrame (.ref a) ce) _ _ s'
  rw [noteFrame_env _ hcf]
  have fr : X.A.frames = some (X.env :: X.outer) := by rw [I3.ok.frames, hst]
  have fl : HandSPX.FlyingZ B (X.env :: X.outer) a (L2N.Zn cls d) s'.heap := by rw [← hst]; exact fl
  refine PXN.looks_onZ L2N.Zn.steady fr hfr fl fun h1 held up1 => ?_
  obtain ⟨m, hn, _⟩ := id I.loc
  have hn : sI.heap.Ns ce.locals m := hn
  have up01 := upTo_trans up up1
  refine ⟨m, hn.upToSlots up01, fun h2 m2 hn2 hs2 => ?_⟩
  obtain ⟨oI, _, _, hoI, _⟩ := id hn
  obtain ⟨oC, es, ep, hoC, hdC, _⟩ := id hn2
  have ne : ce.locals ≠ X.env.locals := by rw [hC]; exact Nat.ne_of_gt I3.lt
  have nC : ce.locals ∉ frs X.stack := fun h => by
    rcases List.mem_cons.mp (I3.stkSub _ h) with z | z
    · exact ne z
    · exact I3.nofs (Nat.le_of_eq hC.symm) z
  have fC : oC.isFreed = false := Obj.isFreed_of_dict hdC
  have hBC : B.get? ce.locals = some oI := nb _ _ hoI nC
  have gI : ∀ b, b ≠ ce.locals → (sI.heap.update ce.locals fun _ => oC).get? b = sI.heap.get? b := fun b hb => Heap.get?_update_other _ _ (Ne.symm hb)
  have gIC : (sI.heap.update ce.locals fun _ => oC).get? ce.locals = some oC := Heap.get?_update_self (fun _ => oC) hoI fC
  have gB : ∀ b, b ≠ ce.locals → (B.update ce.locals fun _ => oC).get? b = B.get? b := fun b hb => Heap.get?_update_other _ _ (Ne.symm hb)
  have gBC : (B.update ce.locals fun _ => oC).get? ce.locals = some oC := Heap.get?_update_self (fun _ => oC) hBC fC
  obtain ⟨b1, b0, f1, oe, vs, T, oT, ts, he, hz, hd, h1', hnT, hTe, hT, hdT, h3⟩ := held
  have aC : a ≠ ce.locals := fun z => by rw [z, hBC] at b0; cases b0
  have TC : T ≠ ce.locals := fun z => by rw [z, hBC] at hnT; cases hnT
  have held2 : HandSPX.HeldZ (B.update ce.locals fun _ => oC) X.stack a (L2N.Zn cls d) X.env.locals h2 := by
    rw [hst]
    refine ⟨fun b o e => ?_, by rw [gB a aC]; exact b0, funFrames_base (Heap.FunFrames.sameBut hs2 hn2 f1) fun b hb => ?_, oe, vs, T, oT, ts, (hs2.2 a aC).trans he, hz, hd, h1', by rw [gB T TC]; exact hnT, hTe, (hs2.2 T TC).trans hT, hdT, h3⟩
    · by_cases hb : b = ce.locals
      · subst hb
        rw [gBC] at e; cases e
        exact hoC
      · rw [gB b hb] at e
        exact (hs2.2 b hb).trans (b1 b o e)
    · have hb' : b ∈ frs X.stack := by rw [hst]; exact hb
      have hbC : b ≠ ce.locals := fun z => nC (z ▸ hb')
      rw [gB b hbC]
      exact (f1.mem hb).1
  have I7 : Inv X pins σ H' sI := I3.call' (ch := fp) I.os I.base I.hok I.bare fun b hb => ⟨(f3 b hb).2.2.2.1, (f3 b hb).2.1, (f3 b hb).2.2.2.2.1, (f3 b hb).2.2.2.2.2⟩
  have fC' : FpOk X pins H' ce.locals := I3.fpOk (Nat.le_of_eq hC.symm) I.free
  obtain ⟨c0, c1, _, c3, c4, c5⟩ := fC'
  have I8 := I7.turned (h' := sI.heap.update ce.locals fun _ => oC) (t' := sI.toks) (it := ce.locals) (fun b o hb e => by rw [gI b hb]; exact e) c0 c1 c3 c4 c5
  have upI : (sI.heap.update ce.locals fun _ => oC).UpToSlots h2 := fun b o e n => by
    by_cases hb : b = ce.locals
    · subst hb
      rw [gIC] at e; cases e
      exact ⟨_, hoC⟩
    · rw [gI b hb] at e
      obtain ⟨sl, e1⟩ := up01 b o e n
      exact ⟨sl, (hs2.2 b hb).trans e1⟩
  refine passOn_held (hcf.trans hfr) held2 fun h4 held4 up4 => ?_
  refine tk _ _ ⟨a, _, _, pins, σ, H', cls, d, rfl, I8, fun b o e hb => ?_, upTo_trans upI up4, .inr (.inr held4), na, os, ag, hW _ _ _ _ _ w⟩
  by_cases hbC : b = ce.locals
  · subst hbC
    rw [gIC] at e; cases e
    exact gBC
  · have e : (sI.heap.update ce.locals fun _ => oC).get? b = some o := e
    rw [gI b hbC] at e
    rw [gB b hbC]
    exact nb b o e hb
/-- [e for x in xs], where the first e raises -/
def tLcX (wi : TI) (g : TG) (te : TE) (vs : List Nat) : TE := fun σ H _ => wi σ H fun J H1 => ∀ D, H1 D = none → J.go 0 (upd H1 D (.lst [])) ∧ ∀ x H', J.yld 0 (upd H1 D (.lst [])) x H' → g x (wipe σ vs) H' fun σ2 H2 => te σ2 H2 fun _ _ => False
theorem pe_lcX {elt tg iter : Expr} {scope : Scope} {own : List (Str × Nat)} {pos : Pos} {wi : TI} {g : TG} {te : TE} (hc : X.calm = true) (hN : X.N.Nodup) (hi : PI X tg iter wi) (ok : BlkOk X.N X.env.scope scope own) (hst : X.stack = X.env :: X.outer) (hfr : X.env.frame = some X.env.locals)
    (tk : L2N.Takes X W') (hW : ∀ cls d σ' σ H, W cls d σ' H → W' cls d σ H)
    (hg : ∀ (s : Shared) (H : Hp) (C : Addr) (cl : List (Str × Addr)) (fp : List Addr), PG ((X.blk s H scope (compEnvC scope cl C X.env) fp).wish (XF (X.blk s H scope (compEnvC scope cl C X.env) fp) W)) tg g)
    (he : ∀ (s : Shared) (H : Hp) (C : Addr) (cl : List (Str × Addr)) (fp : List Addr), PE ((X.blk s H scope (compEnvC scope cl C X.env) fp).wish (XF (X.blk s H scope (compEnvC scope cl C X.env) fp) W)) elt te)
    (hs : ∀ x, foldedSetIterable iter X.env x = pure x := by intro _; rfl) : PE X (.ListComp elt [⟨tg, iter, [], 0⟩] scope pos) (tLcX wi g te (own.map (·.2))) := by
  refine ⟨fun pins s σ H Q I h => ?_⟩
  rw [eval_ListComp]
  have caught : ∀ y ∈ scope.names, y.2 = .free → ∃ c, X.env.cells.lookup y.1 = some c := fun y hy e => (ok.free y hy e).elim (fun k => I.ok.has _ (.inl k)) fun k => I.ok.has _ (.inr k)
  refine comprehension_at (use := none) rfl hs (closure_ok caught) ok.kind (fun y hy e => by rw [ok.uniq y hy, e]) (thn (hi.run pins s σ H _ I h) fun xv sa hx => thn hx fun itv s2 h2 => ?_)
  obtain ⟨it, fp, tn, J, H2, rfl, I2, T, st2, f2, q⟩ := h2
  refine wpAny_newObj_type (newEnv_comp ?_) (by show 0 ≤ sizeLine; decide)
  have hDn : H2 s2.heap.objs.size = none := I2.hok.fresh (Nat.le_refl _)
  obtain ⟨go, step⟩ := q _ hDn
  have I3 : Inv X pins σ (upd H2 s2.heap.objs.size (.lst [])) { s2 with heap := s2.heap.push { cls := .type "list", data := .seq ([] : List Value).toArray } } :=
    I2.laid (t' := s2.toks) (fun b o e => Heap.get?_push_of_some _ e) (Nat.le_refl _) ⟨Nat.zero_le _, [], 0, .nil, Heap.get?_push_size _ rfl⟩
  have hH3 : ∃ s3 : Shared, s3 = { s2 with heap := s2.heap.push { cls := .type "list", data := .seq ([] : List Value).toArray } } := ⟨_, rfl⟩
  obtain ⟨s3, e3⟩ := hH3
  rw [← e3] at I3 ⊢
  have below : ∀ b ∈ fp, b < s2.heap.objs.size := fun b hb => let ⟨o, e, _⟩ := T.obj _ _ st2 b hb; Heap.lt_size e
  have f3 : ∀ b ∈ fp, FpOk X pins (upd H2 s2.heap.objs.size (.lst [])) b ∧ b < s3.heap.objs.size := fun b hb => by
    have lt := below b hb
    refine ⟨⟨by rw [upd_ne (Nat.ne_of_lt lt)]; exact (f2 b hb).1, (f2 b hb).2⟩, ?_⟩
    rw [e3]
    show b < (s2.heap.push _).objs.size
    rw [Heap.size_push]; exact Nat.lt_succ_of_lt lt
  have st3 : tn 0 s3.heap := T.keep _ _ _ st2 fun b _ o e => by rw [e3]; exact Heap.get?_push_of_some _ e
  have I4 := block_start I3 ok hN f3
  have pg := hg s3 (upd H2 s2.heap.objs.size (.lst [])) s3.heap.objs.size (cellsFrom (s3.heap.objs.size + 1) scope.names (cloFrom X.env.cells scope.names [])) fp
  have pe := he s3 (upd H2 s2.heap.objs.size (.lst [])) s3.heap.objs.size (cellsFrom (s3.heap.objs.size + 1) scope.names (cloFrom X.env.cells scope.names [])) fp
  have nfp : ∀ b ∈ fp, (upd H2 s2.heap.objs.size (.lst [])) b = none := fun b hb => (f3 b hb).1.1
  have hce : ∃ ce : Env, ce = compEnvC scope (cellsFrom (s3.heap.objs.size + 1) scope.names (cloFrom X.env.cells scope.names [])) s3.heap.objs.size X.env := ⟨_, rfl⟩
  obtain ⟨ce, hce⟩ := hce
  show codeAny _ _ (.compStart _ 0 _ _ (compEnvC scope (cellsFrom (s3.heap.objs.size + 1) scope.names (cloFrom X.env.cells scope.names [])) s3.heap.objs.size X.env)) (compEnds _ _ _ _ _ _ (compEnvC scope (cellsFrom (s3.heap.objs.size + 1) scope.names (cloFrom X.env.cells scope.names [])) s3.heap.objs.size X.env)) { s3 with heap := pushCells (s3.heap.push { cls := .type "dict", data := .dict #[] }) scope.names }
  rw [← hce] at I4 pg pe ⊢
  have cC : ce.locals = s3.heap.objs.size := by rw [hce]; rfl
  have cF : ce.frame = X.env.frame := by rw [hce]; rfl
  generalize upd H2 s2.heap.objs.size (.lst []) = H3 at *
  have st4 : tn 0 (pushCells (s3.heap.push { cls := .type "dict", data := .dict #[] }) scope.names) := T.keep _ _ _ st3 fun b _ o e => pushCells_keeps _ _ _ _ (Heap.get?_push_of_some _ e)
  generalize hs4 : ({ s3 with heap := pushCells (s3.heap.push { cls := .type "dict", data := .dict #[] }) scope.names } : Shared) = s4 at I4 ⊢
  have st4 : tn 0 s4.heap := by rw [← hs4]; exact st4
  have out : ∀ e s', XF (X.blk s3 H3 scope ce fp) W e s' → notedBy (model X.prog X.w) X.A ce (fun e s' => compEnds (model X.prog X.w) X.A X.xe none (EP X pins σ Q) (.ref s2.heap.objs.size) ce (.error e) s') e s' := fun e s' x =>
    comp_out I3 (fun b hb => (f3 b hb).1) hst hfr cF cC tk hW x
  have stat : ∀ b ∈ fp, FpOk ((X.blk s3 H3 scope ce fp).wish (XF (X.blk s3 H3 scope ce fp) W)) [] H3 b := fun b hb => ⟨nfp b hb, (I4.ok.exf b hb).1, I4.ok.exfs b hb, .inl hb, fun x c e => (I4.ok.exf b hb).2 x c e, fun p hp => absurd (show p ∈ ([] : List (Addr × Obj)) ++ [] from hp) (by simp)⟩
  have loop : codeAny (model X.prog X.w) X.A (.compLoop (.ListComp elt [⟨tg, iter, [], 0⟩] scope pos) 0 (.ref it) (.ref s2.heap.objs.size) ce) (compEnds (model X.prog X.w) X.A X.xe none (EP X pins σ Q) (.ref s2.heap.objs.size) ce) s4 := by
    refine compLoop_any (fun _ s' => s' = s4) (fun n s' e4 => ?_) 0 rfl
    subst e4
    refine wpAny_mono (T.item ((X.blk s3 H3 scope ce fp).wish (XF (X.blk s3 H3 scope ce fp) W)) rfl rfl rfl hc 0 [] s' _ H3 _ (I4.wish _) stat st4 go) (fun r s6 z => ?_) fun _ _ e => e
    obtain ⟨u, rfl, h6⟩ := z
    refine wpAny_mono h6 (fun _ s7 z => ?_) fun _ _ e => e
    obtain ⟨x, H7, I7, r7, y7, _, _⟩ := z
    refine wpAny_mono (pg.run _ s7 _ H7 x u _ I7 r7 (step x H7 y7)) (fun _ s8 z => ?_) out
    obtain ⟨σ8, H8, I8, q8⟩ := z
    refine wpAny_tests_nil ?_
    rw [if_pos rfl]
    exact wpAny_mono (pe.run _ s8 σ8 H8 _ I8 q8) (fun _ _ z => by obtain ⟨_, _, _, _, f⟩ := z; exact f.elim) out
  exact codeAny_compStart_list loop (T.self X.A 0 _ _ _ st4 loop)
end
end My

namespace My
open PySem PySem.Spec PyProof.Rows L2
/-! ### try with several clauses, each `as` a name -/
abbrev Clause := Value × Nat × (Addr → Value → Option Addr → TS)
def wAll (K : PySem.W.Frag) (Wout : L2.WX) (D : Ends) : List Clause → L2.WX
  | [] => Wout
  | (c, i, ts) :: r => L2.wAs K c i ts (wAll K Wout D r) D
inductive AsOk (X : Cx) : List ExceptHandler → List Clause → Prop
  | nil : AsOk X [] []
  | cons {x n : Str} {c : Value} {i : Nat} {ts : Addr → Value → Option Addr → TS} {b0 : Stmt} {suite : List Stmt} {np pos : Pos} {hds : List ExceptHandler} {l : List Clause} (hi : X.N[i]? = some n) (hl : X.env.kindOf n = some .local) (hc : Names X x c)
      (hu : ∀ (a : Addr) (oe : Obj) (cls : Value) (d : Option Addr) (pn : List (Addr × Obj)), L2N.Zn cls d oe → (∃ vs, oe.data = .fields vs) → PSs (X.suite a ((a, oe) :: pn)) (b0 :: suite) (ts a cls d)) (r : AsOk X hds l) :
      AsOk X (.ExceptHandler (some (.Name x np)) (some n) (b0 :: suite) pos :: hds) ((c, i, ts) :: l)
section
variable {X : Cx} {Wout : L2.WX} {D : Ends} {pins : List (Addr × Obj)}
theorem clauses_run (ok : X.Ok) (hs : X.stack = X.env :: X.outer) (hf : X.env.frame = some X.env.locals) (hN : X.N.Nodup) (tk : L2N.Takes X Wout) {hds : List ExceptHandler} {l : List Clause} (hh : AsOk X hds l) {a : Addr} {B : Heap} {sI s3 : Shared} {σ : L2.St} {H : Hp} {cls : Value} {d : Option Addr}
    (J : Inv X pins σ H sI) (nb : ∀ b o, sI.heap.get? b = some o → b ∉ frs X.stack → B.get? b = some o) (up : sI.heap.UpToSlots s3.heap) (fl : HandSPX.FlyingZ B (X.env :: X.outer) a (L2N.Zn cls d) s3.heap) (na : H a = none) (os : s3.os = sI.os) (ag : AllBare s3.gens)
    (w : wAll X.K Wout D l cls d σ H) : wpAny (model X.prog X.w) X.A (handleBy (.ref a) X.env hds) (SP X pins D) X.xe s3 := by
  induction hh with
  | nil =>
    refine wpAny_handleBy_nil ?_
    obtain ⟨_, _, _, oe, vs, T, _, _, he, _, hd, h1, _⟩ := id fl
    unfold PySem.passOn
    rw [hf]
    have go : wpAny (model X.prog X.w) X.A (setFlight (.ref a) (some X.env.locals)) (fun _ s4 => wpAny (model X.prog X.w) X.A (throw (.ref a) : Sem Flow) (SP X pins D) X.xe s4) X.xe s3 :=
      HandSPX.setFlight_upZ fl fun h4 hh4 up4 => wpAny_throw (tk _ _ ⟨a, B, sI, pins, σ, H, cls, d, rfl, J, nb, fun b o e n => by
        obtain ⟨sl, e1⟩ := up b o e n
        obtain ⟨sl2, e2⟩ := up4 b _ e1 n
        exact ⟨sl2, e2⟩, .inr (.inr (by rw [hs]; exact hh4)), na, os, ag, w⟩)
    refine wpAny_bind (wpAny_field he hd h1 ?_)
    rw [if_neg (by simp)]
    first
      | exact wpAny_bind go
      | exact wpAny_bind (wpAny_pure (wpAny_bind go))
  | @cons x n c i ts b0 suite np pos hds l hi hl hc hu r ih =>
    obtain ⟨b, hb, hyes, hno⟩ := w
    obtain ⟨oe, vs, he, hz, hd⟩ := fl.there
    have away : a ∉ frs (X.env :: X.outer) := fun hm => by
      obtain ⟨_, o, e, n⟩ := fl.2.2.1.mem hm
      rw [he] at e; cases e
      exact n _ hd
    have nL : a ≠ X.env.locals := fun z => away (by unfold frs; rw [List.filterMap_cons, hf, z]; exact List.mem_cons_self)
    have nF : a ∉ X.fs := fun hm => away (by unfold frs; rw [List.filterMap_cons, hf]; exact List.mem_cons_of_mem _ hm)
    have J3 : Inv X pins σ H s3 := J.landed nb fl.1 up os ag
    have T3 := J3.suite he hd na nL nF
    refine wpAny_handleBy_cons (codeAny_handlers_test ?_) (by intro q; cases q)
    have looks : PySem.W.Looks (model X.prog X.w) s3.heap (typeOf (.ref a)) cls := fun A Q E s k q => wpAny_typeOf_ref (k _ _ he) (by rw [hz.1]; exact q)
    have m := (PySem.W.exm_one (M := model X.prog X.w) J3.kIn looks hb)
    have named : ∀ {Q : Value → Shared → Prop} {E : Value → Shared → Prop}, Q c s3 → wpAny (model X.prog X.w) (X.A.mark (some (.ref a))) (eval (.Name x np) X.env) Q E s3 := fun {Q E} q => by
      rcases hc with ⟨hg, hdb, k | ⟨k, hv, hnn⟩⟩
      · exact ld_glob (X := X.suite a ((a, oe) :: (X.pn ++ pins))) T3 hg k q hdb
      · exact ld_blt (X := X.suite a ((a, oe) :: (X.pn ++ pins))) T3 hg k hv q hnn hdb
    refine named (m.here ?_)
    cases b with
    | false => exact ih (hno rfl)
    | true =>
      refine codeAny_handlers_suite_as (HandSPX.lands_againZ fl fun h4 fl4 up4 => ?_)
      obtain ⟨oe4, vs4, he4, hz4, hd4⟩ := fl4.there
      have J4 : Inv X pins σ H { s3 with heap := h4 } := J.landed nb fl4.1 (fun b o e n => by
        obtain ⟨sl, e1⟩ := up b o e n
        obtain ⟨sl2, e2⟩ := up4 b _ e1 n
        exact ⟨sl2, e2⟩) os ag
      refine store_ok (X := X.suite a ((a, oe4) :: (X.pn ++ pins))) (v := .ref a) (J4.suite he4 hd4 na nL nF) hN hi (.inl hl) rfl (fun s5 T5 => ?_) (.inr hl)
      refine wpAny_mono ((hu a oe4 cls d (X.pn ++ pins) hz4 ⟨_, hd4⟩).run [] s5 _ H _ T5 (hyes rfl a na)) (fun f s6 sp => ?_) (fun _ _ z => z.elim)
      cases f with
      | next => obtain ⟨σ6, H6, T6, q6⟩ := sp; exact gone_ok (T6.unsuite ok) hN hi hl fun s7 J7 => ⟨_, _, J7, q6⟩
      | brk => obtain ⟨σ6, H6, T6, q6⟩ := sp; exact gone_ok (T6.unsuite ok) hN hi hl fun s7 J7 => ⟨_, _, J7, q6⟩
      | cont => obtain ⟨σ6, H6, T6, q6⟩ := sp; exact gone_ok (T6.unsuite ok) hN hi hl fun s7 J7 => ⟨_, _, J7, q6⟩
      | ret u => obtain ⟨v6, σ6, H6, T6, r6, q6⟩ := sp; exact gone_ok (T6.unsuite ok) hN hi hl fun s7 J7 => ⟨_, _, _, J7, r6, q6⟩
theorem ps_try_all {body : List Stmt} {h0 : ExceptHandler} {hds : List ExceptHandler} {l : List Clause} {pos : Pos} (tb : L2.WX → TS) (hs : X.stack = X.env :: X.outer) (hf : X.env.frame = some X.env.locals) (hN : X.N.Nodup) (tk : L2N.Takes X Wout)
    (hb : ∀ (W : L2.WX) (pn : List (Addr × Obj)) (xe : Value → Shared → Prop), L2N.Takes (X.tr pn xe) W → PassesOwn (model X.prog X.w) X.A X.env xe → PSs (X.tr pn xe) body (tb W)) (hh : AsOk X (h0 :: hds) l) :
    PS X (.Try body (h0 :: hds) [] [] pos) (fun D σ H => tb (wAll X.K Wout D l) D σ H) := by
  refine ⟨fun pins s σ H D I h => wpAny_Try_except ?_⟩
  have ok := I.ok
  have fr : X.A.frames = some (X.env :: X.outer) := by rw [ok.frames, hs]
  refine wpAny_mono ((hb (wAll X.K Wout D l) (X.pn ++ pins) _ (fun u s' z => ?_) PassesOwn.looking).run [] s σ H D (I.toTry _) h) (fun f s1 sp => ?_) (fun e s1 he => he)
  · obtain ⟨a, B, sI, pins', σ', H', cls, d, rfl, J', nb, up, sky, na, os, ag, w⟩ := z
    have J : Inv X pins σ' H' sI := J'.ofTry ok
    have sky : Sky B (X.env :: X.outer) a (L2N.Zn cls d) X.env.locals s'.heap := by rw [← hs]; exact sky
    show wpAny (model X.prog X.w) X.A (noteFrame (.ref a) X.env) _ _ _
    refine L2N.Sky.land L2N.Zn.steady fr hf sky fun h3 fl3 up3 => clauses_run (s3 := { s' with heap := h3 }) ok hs hf hN tk hh J nb (fun b o e n => ?_) fl3 na os ag w
    obtain ⟨sl, e1⟩ := up b o e n
    obtain ⟨sl2, e2⟩ := up3 b _ e1 n
    exact ⟨sl2, e2⟩
  · cases f with
    | next => obtain ⟨σ', H', J', q⟩ := sp; exact wpAny_execs_nil ⟨σ', H', J'.ofTry ok, q⟩
    | brk => obtain ⟨σ', H', J', q⟩ := sp; exact ⟨σ', H', J'.ofTry ok, q⟩
    | cont => obtain ⟨σ', H', J', q⟩ := sp; exact ⟨σ', H', J'.ofTry ok, q⟩
    | ret u => obtain ⟨v, σ', H', J', r, q⟩ := sp; exact ⟨v, σ', H', J'.ofTry ok, r, q⟩
end
end My

namespace My
open PySem PySem.Spec PyProof.Rows L2
/-! ### xs[::-1] of a short list -/
theorem pick_rev : ∀ its : List Value, its.length ≤ 8 → slicePick its.toArray none none (some (-1)) = its.reverse.toArray
  | [], _ => rfl
  | [_], _ => by with_unfolding_all rfl
  | [_, _], _ => by with_unfolding_all rfl
  | [_, _, _], _ => by with_unfolding_all rfl
  | [_, _, _, _], _ => by with_unfolding_all rfl
  | [_, _, _, _, _], _ => by with_unfolding_all rfl
  | [_, _, _, _, _, _], _ => by with_unfolding_all rfl
  | [_, _, _, _, _, _, _], _ => by with_unfolding_all rfl
  | [_, _, _, _, _, _, _, _], _ => by with_unfolding_all rfl
  | _ :: _ :: _ :: _ :: _ :: _ :: _ :: _ :: _ :: _, h => absurd h (by simp)
section
variable {X : Cx} {e st : Expr} {te : TE} {tl : TO} {p2 pos : Pos}
def tRev (K : PySem.W.Frag) (te : TE) (tl : TO) : TE := fun σ H Q => te σ H fun x H1 => tl σ H1 fun o H2 => ∃ a xs, o = some (-1) ∧ x = .ref a ∧ SqL K H2 a xs ∧ xs.length ≤ 8 ∧ ∀ p, H2 p = none → Q (.ref p) (upd H2 p (.lst xs.reverse))
theorem vals_rev : ∀ {xs : List V} {us : List Value}, Vals xs us → Vals xs.reverse us.reverse
  | _, _, .nil => .nil
  | _, _, .cons r t => by rw [List.reverse_cons, List.reverse_cons]; exact (vals_rev t).append (.cons r .nil)
theorem pe_rev (he : PE X e te) (hs : PO X (some st) tl) : PE X (.Subscript e (.Slice none none (some st) p2) pos) (tRev X.K te tl) := by
  refine ⟨fun pins s σ H Q I h => Subscript_ (thn (he.run pins s σ H _ I h) fun v s1 z => ?_)⟩
  obtain ⟨x, H1, I1, r1, q1⟩ := z
  refine wpAny_Slice ?_
  rw [evalPart_none]
  refine wpAny_pure ?_
  refine wpAny_pure (thn (hs.run pins s1 σ H1 _ I1 q1) fun vs s2 z => ?_)
  obtain ⟨o, H2, I2, ps, a, xs, rfl, rfl, hx, hl, q⟩ := z
  have I3 : Inv X pins σ H2 { s2 with heap := s2.heap.push { cls := .type "slice", data := .fields #[.none, .none, vs] } } := I2.kept (t' := s2.toks) fun b ob q => Heap.get?_push_of_some _ q
  cases r1
  obtain ⟨its, r, ht, hz⟩ := I3.list hx
  have hn := r.length
  show wpAny (model X.prog X.w) X.A (subscriptTail e (.Slice none none (some st) p2) (.ref a) (.ref s2.heap.objs.size)) (EP X pins σ Q) X.xe { s2 with heap := s2.heap.push { cls := .type "slice", data := .fields #[.none, .none, vs] } }
  refine tail_any (ops := [.ref a, .ref s2.heap.objs.size]) ht.isList.typeIs slot_list_getitem.lookup ?_ (by with_unfolding_all rfl)
  refine wpAny_getItem_list_slice ht.isList (Heap.IsSliceOf.new ..) .none .none ps (by simp) ?_ (by rw [List.size_toArray] <;> omega)
  rw [pick_rev its (by omega)]
  refine ⟨.ref _, _, I3.laid (t' := s2.toks) (o := .lst xs.reverse) (fun b ob q => Heap.get?_push_of_some _ q) (Nat.le_refl _) ?_, rfl, q _ (I3.hok.fresh (Nat.le_refl _))⟩
  exact ⟨by rw [List.length_reverse]; exact hz, its.reverse, 0, vals_rev r, Heap.get?_push_size _ rfl⟩
end
end My

namespace My
open PySem PySem.Spec PyProof.Rows L2 PySem.Calls
open PySem.SeqAt
open AutoSeq1 (wpAny_loadPart')
open MeetsSeq MeetsSeq2 MeetsSeq3 SeqRoads2
/-! ### != of two tuples whose items are equal -/
section
variable {prog : Program} {w : World} {A : Around} {R : Result → Shared → Prop}
theorem tupN {l b : Addr} {xs ys : Array Value} {n m : Nat} {dd de : Option Addr} {sl sm : Array (Option Value)} (sz : xs.size = ys.size) (I : Shared → Prop)
    (turn : ∀ i (h1 : i < xs.size) (h2 : i < ys.size) s, I s → wpAny (model prog w) A.in1 (eqBool xs[i] ys[i]) (fun r s' => r = true ∧ I s') (fun e s' => R (.error e) s') s)
    (yes : ∀ s, I s → R (.ok (.ret (.bool false))) s)
    {s : Shared} (h1 : s.heap.get? l = some { cls := .type "tuple", dict := dd, data := .seq xs n, slots := sl }) (h2 : s.heap.get? b = some { cls := .type "tuple", dict := de, data := .seq ys m, slots := sm }) (h : I s) :
    wpAny (model prog w) A.in1 (Builtin.«tuple.__ne__» ⟨[.ref l, .ref b], []⟩) (GQ.FinOf prog w A R) (fun e s' => R (.error e) s') s := by
  have f2 := AutoSeq1.sub_tuple_tuple
  have hZ : (xs.toList.zip ys.toList).length = xs.size := by simp [sz]
  have h0 := h
  obtain ⟨hp, g, dw, tk, os⟩ := s
  wp_walk using wpAny_loadPart' h1, wpAny_loadPart' h2, wpAny_forIn_list _ (fun rest c s' => c.1 = none ∧ ∃ i, rest = (xs.toList.zip ys.toList).drop i ∧ i ≤ xs.size ∧ I s') _
  case turn =>
    rintro ⟨y, x⟩ rest c s' ⟨hc, i, hz, hi, hI⟩
    have lt : i < (xs.toList.zip ys.toList).length := by
      rcases Nat.lt_or_ge i (xs.toList.zip ys.toList).length with q | q
      · exact q
      · rw [List.drop_of_length_le q] at hz; cases hz
    have l1 : i < xs.size := hZ ▸ lt
    have l2 : i < ys.size := sz ▸ l1
    rw [List.drop_eq_getElem_cons lt] at hz
    injection hz with e1 e2
    obtain rfl : y = xs[i] := by have := congrArg Prod.fst e1; simpa using this
    obtain rfl : x = ys[i] := by have := congrArg Prod.snd e1; simpa using this
    refine wpAny_bind (wpAny_mono (turn i l1 l2 s' hI) (fun r s2 q2 => ?_) fun _ _ x => x)
    obtain ⟨hr, q2⟩ := q2
    subst hr
    wp_walk
    exact ⟨rfl, i + 1, e2, l1, q2⟩
  case fin =>
    rintro ⟨c1, c2⟩ s' ⟨hc, i, hz, hi, hI⟩
    simp only at hc
    subst hc
    have hR := yes s' hI
    wp_walk
    simpa [Builtin.Tuple.tupleCompareSizes, sz] using hR
  case h => exact ⟨rfl, 0, rfl, Nat.zero_le _, h0⟩
end
section
variable {X : Cx} {n : Nat} {D : Eqv}
/-- x != y of two tuples, item by item equal -/
def rNeT (K : PySem.W.Frag) (D : Eqv) : R2 := fun x y H Q => ∃ a b xs ys, x = .ref a ∧ y = .ref b ∧ SqT K H a xs ∧ SqT K H b ys ∧ Prs D xs ys H ∧ ∀ H', Same H H' → Q (.bl false) H'
theorem op_neT (hD : Mon D) (h : EqG X n D) (hr : Room (n + 1) X.A) : OpR X (compareOp .NotEq) (rNeT X.K D) := by
  intro pins s σ H x y u v Q I rx ry ⟨a, b, xs, ys, ex, ey, ha, hb, p, q⟩
  subst ex ey
  cases (show u = Value.ref a from rx)
  cases (show v = Value.ref b from ry)
  obtain ⟨its, r, e, _⟩ := I.tuple ha
  obtain ⟨its2, r2, e2, _⟩ := I.tuple hb
  have n1 := r.length; have n2 := r2.length
  have sz : its.toArray.size = its2.toArray.size := by rw [List.size_toArray, List.size_toArray, ← n1, ← n2]; exact p.1
  obtain ⟨⟨k1, d1, t1, l1⟩, ho, hc1, m1, hd1⟩ := id e
  obtain ⟨⟨k2, d2, t2, l2⟩, ho2, hc2, m2, hd2⟩ := id e2
  simp only at hc1 hd1 hc2 hd2
  subst hc1 hd1 hc2 hd2
  refine wpAny_richCompare_same_room (op := .NotEq) ⟨_, ho, rfl⟩ ⟨_, ho2, rfl⟩ PySem.F.slot_tuple_ne (GQ.call_here PySem.F.slot_tuple_ne ⟨_, ho, rfl⟩ PySem.F.entry_tuple_ne (PySem.F.args_tuple_ne_2 _ _) ?_) hr.units0
  refine tupN (R := wants (fun v s' => v ≠ .notImplemented ∧ EP X pins σ Q v s') X.xe) sz (fun s' => LoopI X pins σ H s') (fun i h1 h2 s' q => ?_) (fun s' q => ⟨(fun x => nomatch x), ?_⟩) ho ho2 ⟨H, I, Ext.rfl'⟩
  · exact turnG hD h ⟨hr, rfl⟩ p r r2 i h1 h2 s' q
  · obtain ⟨H', I', e⟩ := q
    exact ⟨.bl false, H', I', rfl, q H' e⟩
end
/-! ### flat values, and what is one object -/
def DSame : Eqv := fun x y H => DFlat x y H ∨ ∃ a, x = .ref a ∧ y = .ref a
theorem mon_DSame : Mon DSame := fun x y H H' e d => d.imp (fun d => d) fun d => d
theorem eqG_same {X : Cx} : EqG X 0 (fun x y _ => ∃ a, x = .ref a ∧ y = .ref a) := by
  intro A pins s σ H x y u v sb I rx ry ⟨a, ex, ey⟩
  subst ex ey
  cases (show u = Value.ref a from rx)
  cases (show v = Value.ref a from ry)
  exact SeqAt.EqAt.same (A := A) (s := s) (.ref a) X.prog X.w X.xe _ ⟨rfl, H, I, Same.refl H⟩
theorem eqG_ds {X : Cx} : EqG X 0 DSame := eqG_flat.or eqG_same
end My

namespace My
open PySem PySem.Spec PyProof.Rows L2 PySem.Calls
open PySem.SeqAt
open AutoSeq1 (wpAny_loadPart')
open MeetsSeq MeetsSeq2 MeetsSeq3 SeqRoads2
/-! ### a text is equal to no dict; an odd thing in a list of texts -/
section
variable {prog : Program} {w : World} {A : Around} {s : Shared}
theorem strD_declines (b : Str) (u : Tok) (l : Addr) (dd : Option Addr) (es : Array DictEntry) (ep : Nat) (sl : Array (Option Value)) :
    Meets (Builtin.«str.__eq__» ⟨[.str b u, .ref l], []⟩) (fun _ R s => s.heap.get? l = some { cls := .type "dict", dict := dd, data := .dict es ep, slots := sl } ∧ R (.ok (.ret .notImplemented)) s) :=
  .of_wp fun prog w A R s h => by
    obtain ⟨hp, g, d, tk, os⟩ := s; obtain ⟨hl, h⟩ := h
    wp_walk using wpAny_loadPart' hl, wpAny_load hl
    exact ⟨_, rfl, h⟩
theorem dictS_declines (b : Str) (u : Tok) (l : Addr) (A : Around) {s : Shared} (hd : s.TypeIs (.ref l) "dict") (E : Value → Shared → Prop) (Q : Value → Shared → Prop) (h : Q .notImplemented s) : wpAny (model prog w) A (call (.builtin "dict.__eq__") [.ref l, .str b u]) Q E s := by
  refine wpAny_call_entry PySem.F.slot_dict_eq_refl hd PySem.F.entry_dict_eq ?_ (PySem.F.args_dict_eq_2 _ _)
  show wpAny _ _ (Builtin.Dict.dictSlotArgs "__eq__" ⟨[.ref l, .str b u], []⟩ >>= _) _ _ s
  refine wpAny_bind ?_
  unfold Builtin.Dict.dictSlotArgs
  refine wpAny_bind (wpAny_notOrdered_dict hd ?_)
  show wpAny _ _ (pure (Value.ref l, Value.str b u)) _ _ s
  refine wpAny_pure ?_
  refine wpAny_bind (wpAny_isInstance (T := "str") (typeIs_str s b u) PySem.F.sub_str_dict ?_)
  simp only [Bool.not_false, if_true]
  exact wpAny_bind (wpAny_rule (wpAny_pure ⟨_, rfl, h⟩))
theorem rcStrD {l : Addr} (b : Str) (u : Tok) {o : Obj} {es : Array DictEntry} {ep : Nat} (ho : s.heap.get? l = some o) (hc : o.cls = .type "dict") (hd : o.data = .dict es ep) (hu : A.units < cLine) : RcAt A s (.str b u) (.ref l) false := fun prog w E Q h => by
  have ht : s.TypeIs (.ref l) "dict" := ⟨o, ho, hc⟩
  obtain ⟨cls, dd, data, sl⟩ := o
  simp only at hc hd
  subst hc hd
  exact rc_eq_decline_or (k := false) (typeIs_str s b u) ht (by decide) F.sub_dict_str F.slot_str_eq F.slot_dict_eq_refl
    (fun _ hq => call_meets F.slot_str_eq (typeIs_str s b u) F.entry_str_eq (F.args_str_eq_2 _ _) (strD_declines b u l dd es ep sl) ⟨ho, hq⟩)
    (fun _ hq => dictS_declines b u l A ht _ _ hq)
    (fun _ hq => wpAny_of_eq (rfl : isSame (.str b u) (.ref l) = pure false) hq) (.inr hu) h
theorem eqStrD {l : Addr} (b : Str) (u : Tok) {o : Obj} {es : Array DictEntry} {ep : Nat} (ho : s.heap.get? l = some o) (hc : o.cls = .type "dict") (hd : o.data = .dict es ep) (hu : A.units < cLine) : EqAt A s (.str b u) (.ref l) false := fun prog w E Q h => by
  unfold eqBool
  refine wpAny_holding ?_
  refine wpAny_ite_split (fun hab => absurd (eq_of_beq hab) nofun) (fun _ => ?_)
  exact wpAny_bind (rcStrD b u ho hc hd hu prog w E _ (wpAny_truthy_bool h))
end
section
variable {X : Cx}
/-- a list, a tuple, an empty dict -/
def Box (K : PySem.W.Frag) (H : Hp) (a : Addr) : Prop := (∃ xs, H a = some (.lst xs)) ∨ (∃ xs, H a = some (.tup xs)) ∨ H a = some (.dK [])
theorem Box.same {K : PySem.W.Frag} {H H' : Hp} {a : Addr} (h : Box K H a) (s : Same H H') : Box K H' a := h.imp (fun ⟨xs, e⟩ => ⟨xs, s _ _ e⟩) fun h => h.imp (fun ⟨xs, e⟩ => ⟨xs, s _ _ e⟩) fun e => s _ _ e
def rOdd (K : PySem.W.Frag) (neg : Bool) : R2 := fun x y H Q => ∃ (a p : Addr) (zs : List Str), x = .ref a ∧ y = .ref p ∧ SqL K H p (zs.map V.str) ∧ Box K H a ∧ Q (.bl neg) H
theorem odd_items {pins : List (Addr × Obj)} {σ : L2.St} {H : Hp} {s : Shared} (I : Inv X pins σ H s) {a : Addr} (hb : Box X.K H a) (hu : X.A.units + 1 < cLine) : ∀ (zs : List Str) (us : List Value), Vals (zs.map fun z => V.str z) us → ∀ u ∈ us, EqAt X.A.in1 s u (.ref a) false
  | [], _, .nil => fun u h => by cases h
  | z :: zs, _ :: us, .cons r t => fun u h => by
    rcases List.mem_cons.mp h with rfl | h
    · obtain ⟨t, rfl⟩ := (show ∃ t, u = Value.str z t from r)
      rcases hb with ⟨xs, hb⟩ | ⟨xs, hb⟩ | hb
      · obtain ⟨its, _, pl, _⟩ := I.list (SqL.of hb)
        exact EqAt.str_list z t pl.isList hu
      · obtain ⟨its, _, pl, _⟩ := I.tuple (SqT.of hb)
        exact EqAt.str_tuple z t pl hu
      · obtain ⟨_, _, vs, _, hd⟩ := dk_of I.hok hb
        obtain ⟨o, es, ep, ho, hx, hda, _⟩ := id hd
        obtain ⟨o2, ho2, hc⟩ := hd.typeIs (s := s)
        rw [ho] at ho2; cases ho2
        exact eqStrD z t ho hc hda hu
    · exact odd_items I hb hu zs us t u h
theorem op_inOdd (hu : X.A.units + 1 < cLine) : OpR X (compareOp .In) (rOdd X.K false) := by
  intro pins s σ H x y v u Q I rx ry ⟨a, p, zs, ex, ey, hl, hb, q⟩
  subst ex ey
  cases (show v = Value.ref a from rx)
  cases (show u = Value.ref p from ry)
  obtain ⟨its, r, pl, hz⟩ := I.list hl
  exact SeqAt.in_listAt (fun _ => false) pl.isList (fun w hw => odd_items I hb hu zs its r w (by simpa using hw)) ⟨.bl _, H, I, by show (_ : Value) = _; simp, q⟩
theorem op_notInOdd (hu : X.A.units + 1 < cLine) : OpR X (compareOp .NotIn) (rOdd X.K true) := by
  intro pins s σ H x y v u Q I rx ry ⟨a, p, zs, ex, ey, hl, hb, q⟩
  subst ex ey
  cases (show v = Value.ref a from rx)
  cases (show u = Value.ref p from ry)
  obtain ⟨its, r, pl, hz⟩ := I.list hl
  exact SeqAt.notIn_listAt (fun _ => false) pl.isList (fun w hw => odd_items I hb hu zs its r w (by simpa using hw)) ⟨.bl _, H, I, by show (_ : Value) = _; simp, q⟩
end
end My

namespace My
open PySem PySem.Spec PyProof.Rows L2 PySem.Calls
/-! ### a text times an integer -/
section
variable {X : Cx}
def rStrRep : R2 := fun x y H Q => ∃ z n, x = .str z ∧ y = .int n ∧ PySem.MulOk z n ∧ Q (.str (PySem.Txt.mul z n)) H
theorem op_strRep : OpR X (binaryOp .Mult) rStrRep := by
  intro pins s σ H x y v u Q I rx ry ⟨z, n, ex, ey, hm, q⟩
  subst ex ey
  obtain ⟨t, rfl⟩ := (show ∃ t, v = Value.str z t from rx)
  obtain ⟨t', rfl⟩ := (show ∃ t, u = Value.int n t from ry)
  exact PySem.SB.mul hm fun t2 k => ⟨.str _, H, I.tok _, ⟨_, rfl⟩, q⟩
theorem mulOk1 {n : Int} (h0 : 0 ≤ n) (h4 : n ≤ 4) : PySem.MulOk "1" n := by
  rcases (by omega : n = 0 ∨ n = 1 ∨ n = 2 ∨ n = 3 ∨ n = 4) with rfl | rfl | rfl | rfl | rfl
  · exact ⟨by decide +kernel, fun h => absurd (by decide) h, fun h => absurd (by decide) h⟩
  all_goals (unfold PySem.MulOk; refine ⟨by decide +kernel, fun _ _ => by decide +kernel, fun _ _ => by decide +kernel⟩)
end
end My

-- the steps of a reading: sm, sq, ss, xs (a fact carried along the heaps), go (what goes without saying)
local macro_rules | `(tactic| walk_at "my sm") => `(tactic| first | assumption | (apply My.sm_step; (· assumption); walk_at "my sm"))
local macro_rules | `(tactic| walk_at "my sq") => `(tactic| first | assumption | (apply L2.SqL.of; walk_at "my sm") | (apply L2.SqT.of; walk_at "my sm") | (apply My.sq_step; (· assumption); walk_at "my sq"))
local macro_rules | `(tactic| walk_at "my ss") => `(tactic| first | assumption | exact L2.Same.refl _ | (apply My.ss_step; (· assumption); walk_at "my ss"))
local macro_rules | `(tactic| walk_at "my xs") => `(tactic| first | assumption | (apply My.xs_step; (· assumption); walk_at "my xs"))
local macro_rules | `(tactic| walk_at "my st") => `(tactic| first | ((with_reducible show @Eq (Option L2.HO) _ _); walk_at "my sm") | ((with_reducible show My.XAt _ _ _ _); walk_at "my xs") | ((with_reducible show L2.SqL _ _ _ _); walk_at "my sq") | ((with_reducible show L2.SqT _ _ _ _); walk_at "my sq") | with_reducible exact My.lk1 | walk_at "my more" | exact rfl | (refine L2.iteT ?_) | (refine L2.iteF ?_) | apply Exists.intro | apply And.intro | (intro h; skip))
local macro_rules | `(tactic| walk_at "my go") => `(tactic| repeat walk_at "my st")
namespace My
open PySem PySem.Spec PyProof.Rows L2 PySem.Calls

section
variable {P : Program} {w : World} {K : PySem.W.Frag} {mg : Str → Option Value} {base : Heap} {fd : FuncData} {f : Addr}
theorem at_ints {ns : List Int} {k : Int} (h0 : 0 ≤ k) (h1 : k < (ns.length : Int)) : ∃ v, atI (ns.map V.int) k = some (.int v) := by
  obtain ⟨n, rfl⟩ : ∃ n : Nat, k = (n : Int) := ⟨k.toNat, by omega⟩
  have h2 : n < ns.length := by omega
  exact ⟨ns[n], by rw [atI_nat (v := .int ns[n]) (by rw [List.getElem?_map, List.getElem?_eq_getElem h2]; rfl)]⟩
/-- a cell of the script -/
def spCellX (K : PySem.W.Frag) : Sp := fun vs H Q _ => ∃ (a : Addr) (ns : List Int) (k : Int), vs = [.ref a, .int k] ∧ SqL K H a (ns.map V.int) ∧ 0 ≤ k ∧ k < 1000 ∧ ∀ v : Int, Q (.int v) H
theorem ok_cell (Z : CT K mg) (F : FunD K d_cell.name d_cell.qual d_cell.params d_cell.body d_cell.scope [] [] f fd) : FnOk P w K mg base CX0 1 f fd ["_law_script", "_law_k"] (spCellX K) := by
  refine F.ok sc_cell (fun vs H Q E h => ?_) (fun cdv A outer s H vs Q E hr h => ?_)
  · obtain ⟨a, ns, k, rfl, _⟩ := h
    rfl
  · obtain ⟨a, ns, k, rfl, hS, h0, h1, q⟩ := h
    refine ⟨_, (pss_cons (ps_if (pt_cmpR op_lt (pv 1) (pe_callB call_lenL (by rfl) (m_len Z) PySem.boot_len (pa_cons (pv 0) pa_nil)) (nomark _)) (pss_one (ps_ret (pe_callTy call_intI (by rfl) (m_int Z) boot_int (pa_cons (pe_ix ix_list (pv 0) (pv 1) (fun _ _ => rfl)) pa_nil)))) pss_nil)
      (pss_cons (ps_if (pt_cmpR op_eq (pe_callB call_lenL (by rfl) (m_len Z) PySem.boot_len (pa_cons (pv 0) pa_nil)) (pe_int) (nomark _)) (pss_one (ps_ret (pe_mul (pe_int) (pv 1)))) pss_nil)
      (pss_one (ps_ret (pe_op op_add (pe_op op_mod (pe_callTy call_intI (by rfl) (m_int Z) boot_int (pa_cons (pe_ix ix_list (pv 0) (pe_op op_mod (pv 1) (pe_callB call_lenL (by rfl) (m_len Z) PySem.boot_len (pa_cons (pv 0) pa_nil))) (fun _ _ => rfl)) pa_nil)) (pe_op op_pow (pe_int) (pe_int))) (pe_mul (pe_int) (pe_op op_add (pv 1) (pe_int)))))))), ?_⟩
    walk_at "my go"
    refine ite2 (fun h => ?_) (fun h => ?_)
    · have h := of_decide_eq_true h
      rw [List.length_map] at h
      obtain ⟨v, hv⟩ := at_ints h0 h
      refine ⟨_, rfl, _, rfl, _, _, _, _, rfl, rfl, hS, hv, _, rfl, q v⟩
    · refine ⟨_, rfl, _, _, rfl, hS, rfl, _, rfl, ?_⟩
      refine ite2 (fun h2 => ?_) (fun h2 => ?_)
      · refine ⟨_, rfl, _, _, rfl, rfl, ⟨by decide, by decide⟩, q _⟩
      · have hp : (0 : Int) < ((ns.map V.int).length : Int) := by
          have h3 : ¬ (V.int ((ns.map V.int).length : Int) = V.int 0) := fun z => h2 (decide_eq_true z)
          have h4 : ((ns.map V.int).length : Int) ≠ 0 := fun z => h3 (by rw [z])
          omega
        have hm : 0 ≤ k % ((ns.map V.int).length : Int) ∧ k % ((ns.map V.int).length : Int) < (ns.length : Int) := by
          have e : ((ns.map V.int).length : Int) = (ns.length : Int) := by rw [List.length_map]
          rw [e] at hp ⊢
          exact ⟨Int.emod_nonneg _ (by omega), Int.emod_lt_of_pos _ hp⟩
        obtain ⟨v, hv⟩ := at_ints hm.1 hm.2
        refine ⟨_, rfl, _, rfl, _, rfl, _, _, rfl, hS, _, _, rfl, rfl, hp, _, _, _, _, rfl, rfl, hS, hv, _, rfl, ?_⟩
        refine ⟨_, _, rfl, rfl, ⟨by decide, by decide, by decide⟩, _, _, rfl, rfl, (show (0 : Int) < 10 ^ (15 : Int).toNat by decide), ?_⟩
        refine ⟨_, rfl, _, _, rfl, rfl, _, _, rfl, rfl, ⟨by decide, by decide⟩, _, _, rfl, rfl, q _⟩
theorem good_cell (Z : CT K mg) : GoodF CX0 P w K mg base 1 "_law_cell" ["_law_script", "_law_k"] (spCellX K) := Z.good 54 21 d_cell (fun _ _ _ _ _ _ us hl => match us, hl with | [_, _], _ => rfl) fun _ F => ok_cell Z F
/-- a pouch: a new list of two numbers -/
def spPouch (K : PySem.W.Frag) : Sp := fun vs H Q _ => ∃ (a : Addr) (ns : List Int) (k : Int), vs = [.ref a, .int k] ∧ SqL K H a (ns.map V.int) ∧ 0 ≤ k ∧ k < 1000 ∧ ∀ (p : Addr) (x y : Int) (H' : Hp), 0 ≤ x → 0 ≤ y → y ≤ 2001 → H p = none → Same H H' → H' p = some (.lst [.int x, .int y]) → Q (.ref p) H'
theorem ok_pouch (Z : CT K mg) (F : FunD K d_pouch.name d_pouch.qual d_pouch.params d_pouch.body d_pouch.scope [] [] f fd) : FnOk P w K mg base CX0 2 f fd ["_law_script", "_law_k"] (spPouch K) := by
  refine F.ok sc_pouch (fun vs H Q E h => ?_) (fun cdv A outer s H vs Q E hr h => ?_)
  · obtain ⟨a, ns, k, rfl, _⟩ := h
    rfl
  · obtain ⟨a, ns, k, rfl, hS, h0, h1, q⟩ := h
    refine ⟨_, (pss_cons (ps_set (i := 2) sc_pouch.nd rfl (Or.inl rfl) (gcall (good_cell Z) hr (pa_cons (pv 0) (pa_cons (pv 1) pa_nil)) pass0))
      (pss_one (ps_ret (pe_lstN (pa_cons (pe_callB call_abs (by rfl) (m_abs Z) boot_abs (pa_cons (pv 2) pa_nil)) (pa_cons (pe_op op_add (pe_mul (pe_int) (pv 1)) (pe_callTy call_intB (by rfl) (m_int Z) boot_int (pa_cons (pe_cmpR op_lt (pv 2) (pe_int) (nomark _)) pa_nil))) pa_nil)))))), ?_⟩
    refine ⟨_, rfl, _, rfl, a, ns, k, rfl, hS, h0, h1, fun v => ?_⟩
    refine ⟨_, rfl, _, rfl, _, rfl, _, _, rfl, rfl, ⟨by decide, by decide⟩, _, rfl, _, _, rfl, rfl, _, rfl, _, _, rfl, rfl, rfl, fun p H' hs ho hn => ?_⟩
    refine q p _ _ H' ?_ ?_ ?_ hn hs ho
    · split <;> omega
    · split <;> omega
    · split <;> omega
theorem good_pouch (Z : CT K mg) : GoodF CX0 P w K mg base 2 "_law_pouch" ["_law_script", "_law_k"] (spPouch K) := Z.good 55 22 d_pouch (fun _ _ _ _ _ _ us hl => match us, hl with | [_, _], _ => rfl) fun _ F => ok_pouch Z F
/-- a draw: a number below m; the pouch goes on -/
def spDraw : Sp := fun vs H Q _ => ∃ (p : Addr) (x y m : Int), vs = [.ref p, .int m] ∧ H p = some (.lst [.int x, .int y]) ∧ 0 ≤ x ∧ 0 ≤ y ∧ y < 1000000 ∧ 0 < m ∧ m < 2 ^ 100 ∧
  ∀ (r x' y' : Int) (H' : Hp), 0 ≤ r → r < m → 0 ≤ x' → y ≤ y' → y' ≤ y + 128 → (∀ b, b ≠ p → H' b = H b) → H' p = some (.lst [.int x', .int y']) → Q (.int r) H'
theorem ok_draw (Z : CT K mg) (F : FunD K d_draw.name d_draw.qual d_draw.params d_draw.body d_draw.scope [] [] f fd) : FnOk P w K mg base CX0 1 f fd ["_law_pouch_here", "_law_many"] spDraw := by
  refine F.ok sc_draw (fun vs H Q E h => ?_) (fun cdv A outer s H vs Q E hr h => ?_)
  · obtain ⟨p, x, y, m, rfl, _⟩ := h
    rfl
  · obtain ⟨p, x, y, m, rfl, hp, hx, hy, hy2, hm, hm2, q⟩ := h
    have hS : SqL K H p [.int x, .int y] := SqL.of hp
    have hdv : CDivW x m := wide_div (b := 101) hm (by omega) (by decide) (by decide)
    refine ⟨_, (pss_cons (ps_set (i := 2) sc_draw.nd rfl (Or.inl rfl) (pe_ix ix_list (pv 0) pe_int (fun _ _ => rfl)))
      (pss_cons (ps_if (pt_cmpR op_ge (pv 2) (pe_op op_pow (pe_int) (pe_int)) (nomark _)) (pss_cons (ps_asg (pe_op op_fdivW (pv 2) (pv 1)) (pg_sub (pv 0) pe_int set_list))
      (pss_one (ps_ret (pe_op op_mod (pe_callTy call_intI (by rfl) (m_int Z) boot_int (pa_cons (pv 2) pa_nil)) (pv 1))))) pss_nil)
      (pss_cons (ps_asg (pe_op op_add (pe_ix ix_list (pv 0) pe_int (fun _ _ => rfl)) (pe_int)) (pg_sub (pv 0) pe_int set_list))
      (pss_cons (ps_set (i := 3) sc_draw.nd rfl (Or.inl rfl) (pe_ix ix_list (pv 0) pe_int (fun _ _ => rfl)))
      (pss_cons (ps_set (i := 4) sc_draw.nd rfl (Or.inl rfl) (pe_op op_mod (pe_mul (pe_op op_add (pe_op op_mod (pe_callTy call_intI (by rfl) (m_int Z) boot_int (pa_cons (pv 2) pa_nil)) (pe_int)) (pe_mul (pe_int) (pv 3))) (pe_op op_add (pe_int) (pe_mul (pe_int) (pv 3)))) (pe_int)))
      (pss_cons (ps_set (i := 4) sc_draw.nd rfl (Or.inl rfl) (pe_op op_mod (pe_mul (pv 4) (pe_op op_add (pe_op op_fdivW (pv 4) (pe_int)) (pe_int))) (pe_int)))
      (pss_cons (ps_set (i := 4) sc_draw.nd rfl (Or.inl rfl) (pe_op op_mod (pe_mul (pv 4) (pe_op op_add (pe_op op_fdivW (pv 4) (pe_int)) (pe_int))) (pe_int)))
      (pss_one (ps_ret (pe_op op_mod (pv 4) (pv 1))))))))))), ?_⟩
    refine ⟨_, rfl, _, _, _, _, rfl, rfl, hS, rfl, _, rfl, _, _, rfl, rfl, ⟨by decide, by decide, by decide⟩, _, _, rfl, rfl, _, rfl, ?_⟩
    refine ite2 (fun h => ?_) (fun h => ?_)
    · refine ⟨_, rfl, _, rfl, _, _, rfl, rfl, hdv, _, rfl, _, _, _, _, rfl, rfl, hp, rfl, ?_⟩
      refine ⟨_, rfl, _, rfl, _, rfl, _, _, rfl, rfl, hm, ?_⟩
      exact q _ _ _ _ (Int.emod_nonneg _ (by omega)) (Int.emod_lt_of_pos _ hm) (Int.ediv_nonneg hx (by omega)) (Int.le_refl _) (by omega) (fun b hb => upd_ne hb) upd_same
    · refine ⟨_, rfl, _, _, _, _, rfl, rfl, hS, rfl, _, _, rfl, rfl, _, rfl, _, _, _, _, rfl, rfl, hp, rfl, ?_⟩
      refine ⟨_, rfl, _, _, _, _, rfl, rfl, SqL.of upd_same, rfl, ?_⟩
      refine ⟨_, rfl, _, rfl, _, _, rfl, rfl, (show (0 : Int) < 2147483629 by decide), _, rfl, _, _, rfl, rfl, ⟨by decide, by decide⟩, _, _, rfl, rfl, _, rfl, _, _, rfl, rfl, ⟨by decide, by decide⟩, _, _, rfl, rfl, _, _, rfl, rfl, ⟨by omega, by omega⟩, _, _, rfl, rfl, (show (0 : Int) < 2147483647 by decide), ?_⟩
      generalize hz : (x % 2147483629 + 7919 * (y + 128)) * (48271 + 2 * (y + 128)) % 2147483647 = z1
      have b1 : 0 ≤ z1 ∧ z1 < 2147483647 := by rw [← hz]; exact ⟨Int.emod_nonneg _ (by decide), Int.emod_lt_of_pos _ (by decide)⟩
      refine ⟨_, rfl, _, rfl, _, _, rfl, rfl, wide_div (b := 11) (by decide) (by decide) (by decide) (by decide), _, _, rfl, rfl, _, _, rfl, rfl, ⟨by omega, by omega⟩, _, _, rfl, rfl, (show (0 : Int) < 2147483647 by decide), ?_⟩
      generalize hz2 : z1 * (z1 / 1009 + 69621) % 2147483647 = z2
      have b2 : 0 ≤ z2 ∧ z2 < 2147483647 := by rw [← hz2]; exact ⟨Int.emod_nonneg _ (by decide), Int.emod_lt_of_pos _ (by decide)⟩
      refine ⟨_, rfl, _, rfl, _, _, rfl, rfl, wide_div (b := 12) (by decide) (by decide) (by decide) (by decide), _, _, rfl, rfl, _, _, rfl, rfl, ⟨by omega, by omega⟩, _, _, rfl, rfl, (show (0 : Int) < 2147483399 by decide), ?_⟩
      refine ⟨_, rfl, _, rfl, _, _, rfl, rfl, hm, ?_⟩
      exact q _ x (y + 128) _ (Int.emod_nonneg _ (by omega)) (Int.emod_lt_of_pos _ hm) hx (by omega) (Int.le_refl _) (fun b hb => upd_ne hb) upd_same
theorem good_draw (Z : CT K mg) : GoodF CX0 P w K mg base 1 "_law_draw" ["_law_pouch_here", "_law_many"] spDraw := Z.good 56 23 d_draw (fun _ _ _ _ _ _ us hl => match us, hl with | [_, _], _ => rfl) fun _ F => ok_draw Z F
end

theorem passN {X : Cx} : Passes (L2N.CX X.prog X.w) X E0 := fun _ _ _ _ _ _ _ h => by
  obtain ⟨_, _, _, _, _, _, _, _, _, _, _, _, z⟩ := h
  exact z.elim
theorem op_fdivZ {X : Cx} : OpR X (binaryOp .FloorDiv) (rI (fun _ j => j ≠ 0 ∧ j.natAbs.log2 < 9000) fun i j => .int (i.fdiv j)) := opI fun i j _ _ _ _ _ hc q => floordiv_int hc.1 q (.inl (PyProof.noPylong_of_log2 hc.2))
/-! ### facts -/
section
variable {K : PySem.W.Frag} {mg : Str → Option Value}
theorem exx (Z : CT K mg) : exX K "NoRatio" = true := (Bool.and_eq_true_iff.mp Z.e).1
theorem exr (Z : CT K mg) : exR K "Ratio" = true := (Bool.and_eq_true_iff.mp (Bool.and_eq_true_iff.mp Z.e).2).1
theorem exi (Z : CT K mg) : exI K = true := (Bool.and_eq_true_iff.mp (Bool.and_eq_true_iff.mp (Bool.and_eq_true_iff.mp Z.e).2).2).1
theorem exg4 (Z : CT K mg) : (exG K && (exX K "NoQuestion" && (exX K "NoWorld" && (exX K "NoSuch" && (exR K "Question" && (exQ K && (exP K && exT K))))))) = true := (Bool.and_eq_true_iff.mp (Bool.and_eq_true_iff.mp (Bool.and_eq_true_iff.mp Z.e).2).2).2
theorem exg (Z : CT K mg) : exG K = true := (Bool.and_eq_true_iff.mp (exg4 Z)).1
theorem exmore (Z : CT K mg) : exX K "NoQuestion" = true ∧ exX K "NoWorld" = true ∧ exX K "NoSuch" = true ∧ exR K "Question" = true ∧ exQ K = true ∧ exP K = true ∧ exT K = true := by
  have h := (Bool.and_eq_true_iff.mp (exg4 Z)).2
  simp only [Bool.and_eq_true] at h
  exact h
theorem m_gcd (Z : CT K mg) : mg "gcd" = some (.builtin "math.gcd") :=
  let ⟨_, X, G⟩ := Z.h; PySem.W.mg_of X G (of_decide_eq_true (Bool.and_eq_true_iff.mp (exg Z)).2)
theorem mro_Ratio (Z : CT K mg) : ∃ cd, PySem.W.clsIn K (He.ga K "Ratio") = some cd ∧ cd.mro = [.ref (He.ga K "Ratio"), .type "object"] := by
  have h := (Bool.and_eq_true_iff.mp (Bool.and_eq_true_iff.mp (exg Z)).1).1
  cases e : PySem.W.clsIn K (He.ga K "Ratio") with
  | none => rw [e] at h; cases h
  | some cd => rw [e] at h; exact ⟨cd, rfl, of_decide_eq_true h⟩
theorem obj_iadd (Z : CT K mg) : PySem.W.findIn K (.type "object") "__iadd__" = some none := of_decide_eq_true (Bool.and_eq_true_iff.mp (Bool.and_eq_true_iff.mp (exg Z)).1).2
theorem xN (Z : CT K mg) : XCls K (He.ga K "NoRatio") := xclsB_ok (Bool.and_eq_true_iff.mp (exx Z)).1
theorem xN_me (Z : CT K mg) : PySem.W.kitOne K (rf K "NoRatio") (rf K "MethodError") = some true := of_decide_eq_true (Bool.and_eq_true_iff.mp (Bool.and_eq_true_iff.mp (exx Z)).2).1
theorem xN_exm (Z : CT K mg) : PySem.W.exmOne K (rf K "NoRatio") (rf K "NoRatio") = some true := of_decide_eq_true (Bool.and_eq_true_iff.mp (Bool.and_eq_true_iff.mp (exx Z)).2).2
/-- what is known of an own class -/
structure OC (K : PySem.W.Frag) (c : Str) : Prop where
  self : PySem.W.selfFirst K (He.ga K c) = true
  ri : PySem.W.subIn K (rf K c) (.type "int") = some false
  ir : PySem.W.subIn K (.type "int") (rf K c) = some false
  ca : PySem.W.findIn K (rf K c) "__class__" = some (some (.builtin "object.__class__"))
  cn : PySem.W.specialIn K (.builtin "object.__class__") "__get__" = some (some (.builtin "getset_descriptor.__get__"))
  ct : PySem.W.takesIn K (.builtin "object.__class__") = some true
  cm : PySem.W.mroIn K (He.ga K c) (.type "object") = some true
  rr : PySem.W.kitOne K (rf K c) (rf K c) = some true
  rI : PySem.W.kitOne K (rf K c) (.type "int") = some false
  rB : PySem.W.kitOne K (rf K c) (.type "bool") = some false
  tR : (["int", "bool", "NoneType", "str", "tuple", "list", "dict"] : List String).all (fun ty => decide (PySem.W.kitOne K (.type ty) (rf K c) = some false)) = true
  cl : Cls K (He.ga K c)
  kt : ∀ t ∈ (["int", "bool", "NoneType", "str", "tuple", "list", "dict"] : List String), PySem.W.kitOne K (rf K c) (.type t) = some false ∧ PySem.W.subIn K (.type t) (rf K c) = some false
  ne : PySem.W.findIn K (rf K c) "__ne__" = some (some (.builtin "object.__ne__"))
  ob : PySem.W.subIn K (rf K c) (.type "object") = some true
theorem oc_of {c : Str} (h : exR K c = true) (cl : Cls K (He.ga K c)) (ht : exT K = true) (hc : c ∈ (["Ratio", "Question"] : List Str)) : OC K c := by
  unfold exR at h
  simp only [Bool.and_eq_true, decide_eq_true_eq] at h
  obtain ⟨h1, h2, h3, h4, h5, h6, h7, h8, h9, h10, h11⟩ := h
  have z := List.all_eq_true.mp ht c hc
  obtain ⟨z1, z2⟩ := Bool.and_eq_true_iff.mp z
  obtain ⟨z2, z3⟩ := Bool.and_eq_true_iff.mp z2
  refine ⟨h1, h2, h3, h4, h5, h6, h7, h8, h9, h10, h11, cl, fun t q => ?_, of_decide_eq_true z2, of_decide_eq_true z3⟩
  obtain ⟨a, b⟩ := Bool.and_eq_true_iff.mp (List.all_eq_true.mp z1 t q)
  exact ⟨of_decide_eq_true a, of_decide_eq_true b⟩
theorem oc_R (Z : CT K mg) : OC K "Ratio" := oc_of (exr Z) (cl_Ratio Z) (exmore Z).2.2.2.2.2.2 (by decide)
theorem oc_Q (Z : CT K mg) : OC K "Question" := oc_of (exmore Z).2.2.2.1 (cl_Question Z) (exmore Z).2.2.2.2.2.2 (by decide)
/-- no two of them are kin -/
theorem kin (Z : CT K mg) {c d : Str} (h : (c, d) ∈ ([("Ratio", "Question"), ("Question", "Ratio")] : List (Str × Str))) : PySem.W.kitOne K (rf K c) (rf K d) = some false ∧ PySem.W.subIn K (rf K c) (rf K d) = some false := by
  obtain ⟨a, b⟩ := Bool.and_eq_true_iff.mp (List.all_eq_true.mp (exmore Z).2.2.2.2.2.1 (c, d) h)
  exact ⟨of_decide_eq_true a, of_decide_eq_true b⟩
/-- what is known of the class Ratio -/
structure RC (K : PySem.W.Frag) : Prop where
  self : PySem.W.selfFirst K (He.ga K "Ratio") = true
  ri : PySem.W.subIn K (rf K "Ratio") (.type "int") = some false
  ir : PySem.W.subIn K (.type "int") (rf K "Ratio") = some false
  ca : PySem.W.findIn K (rf K "Ratio") "__class__" = some (some (.builtin "object.__class__"))
  cn : PySem.W.specialIn K (.builtin "object.__class__") "__get__" = some (some (.builtin "getset_descriptor.__get__"))
  ct : PySem.W.takesIn K (.builtin "object.__class__") = some true
  cm : PySem.W.mroIn K (He.ga K "Ratio") (.type "object") = some true
  rr : PySem.W.kitOne K (rf K "Ratio") (rf K "Ratio") = some true
  rI : PySem.W.kitOne K (rf K "Ratio") (.type "int") = some false
  rB : PySem.W.kitOne K (rf K "Ratio") (.type "bool") = some false
  tR : (["int", "bool", "NoneType", "str", "tuple", "list", "dict"] : List String).all (fun ty => decide (PySem.W.kitOne K (.type ty) (rf K "Ratio") = some false)) = true
  cl : Cls K (He.ga K "Ratio")
  nT : NoAttr K (He.ga K "Ratio") "top"
  nB : NoAttr K (He.ga K "Ratio") "bottom"
  o : ∀ c ∈ (["Question"] : List Str), OC K c ∧ PySem.W.kitOne K (rf K c) (rf K "Ratio") = some false
theorem rc (Z : CT K mg) : RC K := by
  have h := exr Z
  unfold exR at h
  simp only [Bool.and_eq_true, decide_eq_true_eq] at h
  obtain ⟨h1, h2, h3, h4, h5, h6, h7, h8, h9, h10, h11⟩ := h
  exact ⟨h1, h2, h3, h4, h5, h6, h7, h8, h9, h10, h11, cl_Ratio Z, no_Ratio_top Z, no_Ratio_bottom Z, fun c hc => by
    simp only [List.mem_cons, List.not_mem_nil, or_false] at hc
    subst hc
    exact ⟨oc_Q Z, (kin Z (by decide)).1⟩⟩
end
/-! ### a Ratio in the heap -/
theorem tb : ¬ (("top" : Str) = "bottom") := by decide +kernel
def rfs (t b : Int) : List (Str × V) := putF "bottom" (.int b) (putF "top" (.int t) [])
theorem rfs_top (t b : Int) : (rfs t b).lookup ("top" : Str) = some (.int t) := by unfold rfs; rw [lookup_putF, if_neg tb, lookup_putF, if_pos rfl]
theorem rfs_bot (t b : Int) : (rfs t b).lookup ("bottom" : Str) = some (.int b) := by unfold rfs; rw [lookup_putF, if_pos rfl]
theorem rfs_no (t b : Int) {m : Str} (h1 : ¬ m = "bottom") (h2 : ¬ m = "top") : (rfs t b).lookup m = none := by
  unfold rfs; rw [lookup_putF, if_neg h1, lookup_putF, if_neg h2]; rfl
def RAt (K : PySem.W.Frag) (H : Hp) (a : Addr) (q : Int × Int) : Prop := ∃ dx, H a = some (.ins (He.ga K "Ratio") dx (rfs q.1 q.2))
theorem RAt.same {K : PySem.W.Frag} {H H' : Hp} {a : Addr} {q : Int × Int} (h : RAt K H a q) (s : Same H H') : RAt K H' a q := let ⟨dx, e⟩ := h; ⟨dx, s _ _ e⟩
/-- a number: an integer or a Ratio; its value -/
inductive Num (K : PySem.W.Frag) (H : Hp) : V → Int × Int → Prop
  | int (n : Int) : Num K H (.int n) (n, 1)
  | rat {a : Addr} {q : Int × Int} (h : RAt K H a q) : Num K H (.ref a) q
theorem Num.same {K : PySem.W.Frag} {H H' : Hp} {x : V} {q : Int × Int} (h : Num K H x q) (s : Same H H') : Num K H' x q := by
  cases h with
  | int n => exact .int n
  | rat h => exact .rat (h.same s)
/-- whether a thing is an integer -/
inductive Kind (K : PySem.W.Frag) (H : Hp) : V → Bool → Prop
  | int (n : Int) : Kind K H (.int n) true
  | bl (b : Bool) : Kind K H (.bl b) false
  | non : Kind K H .non false
  | str (z : Str) : Kind K H (.str z) false
  | lst {a : Addr} {xs : List V} (h : H a = some (.lst xs)) : Kind K H (.ref a) false
  | tup {a : Addr} {xs : List V} (h : H a = some (.tup xs)) : Kind K H (.ref a) false
  | dic {a : Addr} {xs : List (Key × V)} (h : H a = some (.dK xs)) : Kind K H (.ref a) false
  | rat {a : Addr} {q : Int × Int} (h : RAt K H a q) : Kind K H (.ref a) false
  | oth {c : Str} {a dx : Addr} {fs : List (Str × V)} (hc : c ∈ (["Question"] : List Str)) (h : H a = some (.ins (He.ga K c) dx fs)) : Kind K H (.ref a) false
theorem Kind.same {K : PySem.W.Frag} {H H' : Hp} {x : V} {b : Bool} (h : Kind K H x b) (s : Same H H') : Kind K H' x b := by
  cases h with
  | int n => exact .int n
  | bl b => exact .bl b
  | non => exact .non
  | str z => exact .str z
  | lst h => exact .lst (s _ _ h)
  | tup h => exact .tup (s _ _ h)
  | dic h => exact .dic (s _ _ h)
  | rat h => exact .rat (h.same s)
  | oth hc h => exact .oth hc (s _ _ h)
theorem Kind.int_of {K : PySem.W.Frag} {H : Hp} {x : V} (h : Kind K H x true) : ∃ n, x = .int n := by
  cases h with
  | int n => exact ⟨n, rfl⟩
theorem Num.kind {K : PySem.W.Frag} {H : Hp} {x : V} {q : Int × Int} (h : Num K H x q) : ∃ b, Kind K H x b := by
  cases h with
  | int n => exact ⟨_, .int n⟩
  | rat h => exact ⟨_, .rat h⟩
theorem RC.ty {K : PySem.W.Frag} (R : RC K) {H : Hp} {a : Addr} {q : Int × Int} (h : RAt K H a q) : TyX K H (.ref a) (rf K "Ratio") := let ⟨_, e⟩ := h; .base (.ins e R.cl R.ca R.cn R.ct R.cm)
theorem OC.ty {K : PySem.W.Frag} {c : Str} (R : OC K c) {H : Hp} {a dx : Addr} {fs : List (Str × V)} (e : H a = some (.ins (He.ga K c) dx fs)) : TyX K H (.ref a) (rf K c) := .base (.ins e R.cl R.ca R.cn R.ct R.cm)
theorem Kind.ask {K : PySem.W.Frag} (R : RC K) {H : Hp} {x : V} {b : Bool} (h : Kind K H x b) : ∃ t b1 b2, TyX K H x t ∧ PySem.W.kitOne K t (.type "int") = some b1 ∧ PySem.W.kitOne K t (.type "bool") = some b2 ∧ b = (b1 && !b2) := by
  cases h with
  | int n => exact ⟨_, true, false, .base (.int n), kit_ty (by decide +kernel), kit_ty (by decide +kernel), rfl⟩
  | bl c => exact ⟨_, true, true, .base (.bl c), kit_ty (by decide +kernel), kit_ty (by decide +kernel), rfl⟩
  | non => exact ⟨_, false, false, .base .non, kit_ty (by decide +kernel), kit_ty (by decide +kernel), rfl⟩
  | str z => exact ⟨_, false, false, .base (.str z), kit_ty (by decide +kernel), kit_ty (by decide +kernel), rfl⟩
  | lst h => exact ⟨_, false, false, .base (.lst h), kit_ty (by decide +kernel), kit_ty (by decide +kernel), rfl⟩
  | tup h => exact ⟨_, false, false, .base (.tup h), kit_ty (by decide +kernel), kit_ty (by decide +kernel), rfl⟩
  | dic h => exact ⟨_, false, false, .base (.dK h), kit_ty (by decide +kernel), kit_ty (by decide +kernel), rfl⟩
  | rat h => exact ⟨_, false, false, R.ty h, R.rI, R.rB, rfl⟩
  | oth hc h => exact ⟨_, false, false, (R.o _ hc).1.ty h, (R.o _ hc).1.rI, (R.o _ hc).1.rB, rfl⟩
section
variable {P : Program} {w : World} {K : PySem.W.Frag} {mg : Str → Option Value} {base : Heap} {fd : FuncData} {f : Addr}
def spIsInteger (K : PySem.W.Frag) : Sp := fun vs H Q _ => ∃ x b, vs = [x] ∧ Kind K H x b ∧ Q (.bl b) H
theorem ok_is_integer (Z : CT K mg) (F : FunD K d_is_integer.name d_is_integer.qual d_is_integer.params d_is_integer.body d_is_integer.scope [] [] f fd) : FnOk P w K mg base CX0 1 f fd ["value"] (spIsInteger K) := by
  refine F.ok sc_is_integer (fun vs H Q E h => ?_) (fun cdv A outer s H vs Q E hr h => ?_)
  · obtain ⟨x, b, rfl, _⟩ := h
    rfl
  · obtain ⟨x, b, rfl, hk, q⟩ := h
    obtain ⟨t, b1, b2, ty, k1, k2, rfl⟩ := hk.ask (rc Z)
    refine ⟨_, (pss_one (ps_ret ((pe_and (pe_callB call_isi (by rfl) (m_isinstance Z) boot_isinstance (pa_cons (pv 0) (pa_cons (pe_bltn (by rfl) (m_int Z) boot_int (rel_ty _)) pa_nil))) (pe_one (pe_not (pe_callB call_isi (by rfl) (m_isinstance Z) boot_isinstance (pa_cons (pv 0) (pa_cons (pe_bltn (by rfl) (m_bool Z) boot_bool (rel_ty _)) pa_nil))))))))), ?_⟩
    refine ⟨_, rfl, x, _, t, _, b1, rfl, .ty _, ty, k1, b1, rfl, ?_⟩
    cases b1 with
    | true => exact ⟨_, rfl, x, _, t, _, b2, rfl, .ty _, ty, k2, b2, rfl, q⟩
    | false => exact q
theorem good_is_integer (Z : CT K mg) : GoodF CX0 P w K mg base 1 "is_integer" ["value"] (spIsInteger K) := Z.good 9 6 d_is_integer (fun _ _ _ _ _ _ us hl => match us, hl with | [_], _ => rfl) fun _ F => ok_is_integer Z F
theorem rz_NoRatio {X : Cx} {e : Expr} {es : List Expr} {ta : TA} {p pos : Pos} {k : Nat} (Z : CT X.K X.mg) (hr : Room k X.A) (ha : PA X (e :: es) ta) (hk : 2 ≤ k := by decide) (hg : Gl X "NoRatio" := by rfl) (he : starEach (e :: es) X.env = (false, eval e X.env) :: starEach es X.env := by rfl)
    (hpl : (backTo pos (starEach es X.env)).any (·.1) = false := by rfl) : L2N.PMk X (.Call (.Name "NoRatio" p) (e :: es) [] pos) (tRz (He.ga X.K "NoRatio") "word" ta) :=
  pmkN_ini1 (xN Z) (no_NoRatio_word Z) (glo_NoRatio Z) (me_NoRatio_init Z) (Z.d.def_ 1 (d := d_NoRatio_init) rfl) sc_NoRatio_init rfl (Or.inl rfl) (Or.inl rfl) (by decide) (by decide) (fun _ _ _ _ _ _ us hl => match us, hl with | [_, _], _ => rfl) (by decide) hr ha hk hg he hpl
/-- NoRatio(z) is what is wished -/
def RzW (K : PySem.W.Frag) (z : Str) (H : Hp) (E : XK) : Prop := ∀ d H', Same H H' → H' d = some (.xd [("word", .str z)]) → E (.ref (He.ga K "NoRatio")) (some d) H'
/-- numbers that a division by them takes at once -/
def Sml (n : Int) : Prop := n.natAbs < 2 ^ 8000
theorem sml_gcd {t b : Int} (hb : b ≠ 0) (h : Sml b) : ((Nat.gcd t.natAbs b.natAbs : Nat) : Int) ≠ 0 ∧ ((Nat.gcd t.natAbs b.natAbs : Nat) : Int).natAbs.log2 < 9000 := by
  have h1 : 0 < Nat.gcd t.natAbs b.natAbs := Nat.gcd_pos_of_pos_right _ (Int.natAbs_pos.mpr hb)
  have h2 : Nat.gcd t.natAbs b.natAbs ≤ b.natAbs := Nat.gcd_le_right _ (Int.natAbs_pos.mpr hb)
  refine ⟨by omega, Nat.lt_of_lt_of_le (PySem.Flt.log2_lt_of (k := 8000) (by decide) ?_) (by decide)⟩
  show (((Nat.gcd t.natAbs b.natAbs : Nat) : Int)).natAbs < 2 ^ 8000
  rw [Int.natAbs_natCast]
  exact Nat.lt_of_le_of_lt h2 h
/-- Ratio.__init__ -/
def spRInit (K : PySem.W.Frag) : Sp := fun vs H Q E => ∃ (a dx : Addr) (x y : V) (bx bY : Bool), vs = [.ref a, x, y] ∧ H a = some (.ins (He.ga K "Ratio") dx []) ∧ Kind K H x bx ∧ Kind K H y bY ∧ (bx = false → RzW K "top" H E) ∧ (bx = true → bY = false → RzW K "bottom" H E) ∧
  ∀ t b, x = .int t → y = .int b → (b = 0 → RzW K "zero" H E) ∧ (b ≠ 0 → Sml b ∧ ∀ H', (∀ c, c ≠ a → H' c = H c) → H' a = some (.ins (He.ga K "Ratio") dx (rfs (nrm t b).1 (nrm t b).2)) → Q .non H')
theorem ok_Ratio_init (Z : CT K mg) (F : FunD K d_Ratio_init.name d_Ratio_init.qual d_Ratio_init.params d_Ratio_init.body d_Ratio_init.scope [.int 1] [] f fd) : FnOk P w K mg base (L2N.CX P w) 3 f fd ["self", "top", "bottom"] (spRInit K) := by
  refine F.ok sc_Ratio_init (fun vs H Q E h => ?_) (fun cdv A outer s H vs Q E hr h => ?_)
  · obtain ⟨a, dx, x, y, bx, bY, rfl, _⟩ := h
    rfl
  · obtain ⟨a, dx, x, y, bx, bY, rfl, ha, kx, ky, r1, r2, r3⟩ := h
    refine ⟨_, (pss_cons (ps_if (pt_not (pt_val (gcall (good_is_integer Z) hr (pa_cons (pv 1) pa_nil) pass0) (fun _ => rfl))) (pss_one (L2N.ps_raise rfl (L2N.takes_of rfl rfl rfl rfl) (rz_NoRatio Z hr (pa_cons pe_str pa_nil)))) pss_nil)
      (pss_cons (ps_if (pt_not (pt_val (gcall (good_is_integer Z) hr (pa_cons (pv 2) pa_nil) pass0) (fun _ => rfl))) (pss_one (L2N.ps_raise rfl (L2N.takes_of rfl rfl rfl rfl) (rz_NoRatio Z hr (pa_cons pe_str pa_nil)))) pss_nil)
      (pss_cons (ps_if (pt_cmpR op_eq (pv 2) (pe_int) (nomark _)) (pss_one (L2N.ps_raise rfl (L2N.takes_of rfl rfl rfl rfl) (rz_NoRatio Z hr (pa_cons pe_str pa_nil)))) pss_nil)
      (pss_cons (ps_set (i := 3) sc_Ratio_init.nd rfl (Or.inl rfl) (pe_callBfun cr_gcd (by rfl) (m_gcd Z) (pa_cons (pv 1) (pa_cons (pv 2) pa_nil))))
      (pss_cons (ps_if (pt_cmpR op_lt (pv 2) (pe_int) (nomark _)) (pss_one (ps_set (i := 3) sc_Ratio_init.nd rfl (Or.inl rfl) (pe_un un_neg (pv 3)))) pss_nil)
      (pss_cons (ps_fld (pv 0) (pe_op op_fdivZ (pv 1) (pv 3)) rfl)
      (pss_one (ps_fld (pv 0) (pe_op op_fdivZ (pv 2) (pv 3)) rfl)))))))), ?_⟩
    refine ⟨_, rfl, x, bx, rfl, kx, bx, rfl, ?_⟩
    cases bx with
    | false => exact iteT ⟨_, rfl, fun d H' s' hd => r1 rfl d H' s' hd⟩
    | true =>
      refine iteF ?_
      refine ⟨_, rfl, y, bY, rfl, ky, bY, rfl, ?_⟩
      cases bY with
      | false => exact iteT ⟨_, rfl, fun d H' s' hd => r2 rfl rfl d H' s' hd⟩
      | true =>
        refine iteF ?_
        obtain ⟨t, rfl⟩ := kx.int_of
        obtain ⟨b, rfl⟩ := ky.int_of
        obtain ⟨z1, z2⟩ := r3 t b rfl rfl
        refine ⟨_, rfl, rfl, _, rfl, ite2 (fun h0 => ?_) (fun h0 => ?_)⟩
        · have h0 := of_decide_eq_true h0
          injection h0 with h0
          exact ⟨_, rfl, fun d H' s' hd => z1 h0 d H' s' hd⟩
        · have hb : b ≠ 0 := fun e => h0 (by rw [e]; rfl)
          obtain ⟨hs, q⟩ := z2 hb
          obtain ⟨g0, g1⟩ := sml_gcd (t := t) hb hs
          refine ⟨_, rfl, _, rfl, t, b, rfl, ?_⟩
          refine ⟨_, rfl, _, _, rfl, rfl, _, rfl, ite2 (fun hn => ?_) (fun hn => ?_)⟩
          · have hn := of_decide_eq_true hn
            have e : nrm t b = (t.fdiv (-((Nat.gcd t.natAbs b.natAbs : Nat) : Int)), b.fdiv (-((Nat.gcd t.natAbs b.natAbs : Nat) : Int))) := by unfold nrm; rw [if_pos hn]
            have g2 : -((Nat.gcd t.natAbs b.natAbs : Nat) : Int) ≠ 0 ∧ (-((Nat.gcd t.natAbs b.natAbs : Nat) : Int)).natAbs.log2 < 9000 := ⟨by omega, by rw [Int.natAbs_neg]; exact g1⟩
            refine ⟨_, rfl, _, rfl, ?_⟩
            refine ⟨_, rfl, _, rfl, _, _, rfl, rfl, g2, _, rfl, a, _, dx, [], rfl, ha, (rc Z).cl, (rc Z).nT, (by decide), ?_⟩
            refine ⟨_, rfl, _, rfl, _, _, rfl, rfl, g2, _, rfl, a, _, dx, _, rfl, upd_same, (rc Z).cl, (rc Z).nB, (by show 1 < 1000; decide), ?_⟩
            refine q _ (fun c hc => by rw [upd_ne hc, upd_ne hc]) ?_
            rw [upd_same, e]; rfl
          · have hn : ¬ b < 0 := fun z => hn (decide_eq_true z)
            have e : nrm t b = (t.fdiv ((Nat.gcd t.natAbs b.natAbs : Nat) : Int), b.fdiv ((Nat.gcd t.natAbs b.natAbs : Nat) : Int)) := by unfold nrm; rw [if_neg hn]
            refine ⟨_, rfl, _, rfl, _, _, rfl, rfl, ⟨g0, g1⟩, _, rfl, a, _, dx, [], rfl, ha, (rc Z).cl, (rc Z).nT, (by decide), ?_⟩
            refine ⟨_, rfl, _, rfl, _, _, rfl, rfl, ⟨g0, g1⟩, _, rfl, a, _, dx, _, rfl, upd_same, (rc Z).cl, (rc Z).nB, (by show 1 < 1000; decide), ?_⟩
            refine q _ (fun c hc => by rw [upd_ne hc, upd_ne hc]) ?_
            rw [upd_same, e]; rfl
end
end My

namespace My
open PySem PySem.Spec PyProof.Rows L2 PySem.Calls

section
variable {K : PySem.W.Frag} {mg : Str → Option Value}
def NewR (K : PySem.W.Frag) (H : Hp) (q : Int × Int) (Q : VK) : Prop := ∀ p H', Same H H' → RAt K H' p q → Q (.ref p) H'
theorem RzW.same {z : Str} {H H' : Hp} {E : XK} (h : RzW K z H E) (s : Same H H') : RzW K z H' E := fun d H2 s2 hd => h d H2 (s.trans s2) hd
/-- Ratio(x, y) -/
def AskR (K : PySem.W.Frag) (x y : V) (H : Hp) (Q : VK) (E : XK) : Prop := ∃ bx bY, Kind K H x bx ∧ Kind K H y bY ∧ (bx = false → RzW K "top" H E) ∧ (bx = true → bY = false → RzW K "bottom" H E) ∧
  ∀ t b, x = .int t → y = .int b → (b = 0 → RzW K "zero" H E) ∧ (b ≠ 0 → Sml b ∧ NewR K H (nrm t b) Q)
def tR2 (K : PySem.W.Frag) (E : XK) (t : TA) : TE := fun σ H Q => t σ H fun vs H1 => ∃ x y, vs = [x, y] ∧ AskR K x y H1 Q E
def tR1 (K : PySem.W.Frag) (E : XK) (t : TA) : TE := fun σ H Q => t σ H fun vs H1 => ∃ x, vs = [x] ∧ AskR K x (.int 1) H1 Q E
theorem askR_go {x y : V} {H : Hp} {Q : VK} {E : XK} (h : AskR K x y H Q E) (a dx : Addr) (na : H a = none) (nd : H dx = none) (hne : dx ≠ a) :
    spRInit K [.ref a, x, y] (upd (upd H dx (.own a)) a (.ins (He.ga K "Ratio") dx [])) (fun v H2 => v = .non ∧ Q (.ref a) H2) E := by
  obtain ⟨bx, bY, kx, ky, r1, r2, r3⟩ := h
  have s0 : Same H (upd (upd H dx (.own a)) a (.ins (He.ga K "Ratio") dx [])) := fun b o z => by rw [upd_ne (ne_of_none z na), upd_ne (ne_of_none z nd)]; exact z
  refine ⟨a, dx, x, y, bx, bY, rfl, upd_same, kx.same s0, ky.same s0, fun e => (r1 e).same s0, fun e1 e2 => (r2 e1 e2).same s0, fun t b ex ey => ⟨fun e => ((r3 t b ex ey).1 e).same s0, fun e => ⟨((r3 t b ex ey).2 e).1, fun H' k1 k2 => ⟨rfl, ((r3 t b ex ey).2 e).2 a H' (fun c o z => ?_) ⟨dx, k2⟩⟩⟩⟩⟩
  rw [k1 c (ne_of_none z na)]; exact s0 c o z
end
section
variable {X : Cx} {e : Expr} {es : List Expr} {ta : TA} {p pos : Pos} {k : Nat} {E : XK}
theorem mkR2 (Z : CT X.K X.mg) (hr : Room k X.A) (ha : PA X (e :: es) ta) (hx : Passes (L2N.CX X.prog X.w) X E) (hk : 4 ≤ k := by decide) (hg : Gl X "Ratio" := by rfl) (he : starEach (e :: es) X.env = (false, eval e X.env) :: starEach es X.env := by rfl)
    (hpl : (backTo pos (starEach es X.env)).any (·.1) = false := by rfl) : PE X (.Call (.Name "Ratio" p) (e :: es) [] pos) (tR2 X.K E ta) := by
  obtain ⟨fd, F⟩ := Z.d.def_ 14 (d := d_Ratio_init) rfl
  obtain ⟨ds, r, B⟩ := F.binds1 (ps := ["self", "top", "bottom"]) 3 1 (by intro z; cases z) rfl (fun _ _ _ _ _ _ _ us its h1 h2 => match us, its, h1, h2 with | [_, _, _], [_], _, _ => ⟨_, rfl, rfl⟩)
  cases r
  refine pe_imp (pe_make (mk_Ratio Z) (ok_Ratio_init Z F) (hr.mono hk) hg (glo_Ratio Z) B .nil hx (wk_a ha) (by decide) he hpl) fun σ H Q q => ⟨_, q, fun vs H1 ⟨x, y, ev, h⟩ a dx na nd hne => ?_⟩
  subst ev
  exact askR_go h a dx na nd hne
theorem mkR1 (Z : CT X.K X.mg) (hr : Room k X.A) (ha : PA X (e :: es) ta) (hx : Passes (L2N.CX X.prog X.w) X E) (hk : 4 ≤ k := by decide) (hg : Gl X "Ratio" := by rfl) (he : starEach (e :: es) X.env = (false, eval e X.env) :: starEach es X.env := by rfl)
    (hpl : (backTo pos (starEach es X.env)).any (·.1) = false := by rfl) : PE X (.Call (.Name "Ratio" p) (e :: es) [] pos) (tR1 X.K E ta) := by
  obtain ⟨fd, F⟩ := Z.d.def_ 14 (d := d_Ratio_init) rfl
  obtain ⟨ds, r, B⟩ := F.binds1 (ps := ["self", "top", "bottom"]) 2 0 (by intro z; cases z) rfl (fun _ _ _ _ _ _ _ us its h1 h2 => match us, its, h1, h2 with | [_, _], [_], _, _ => ⟨_, rfl, rfl⟩)
  refine pe_imp (pe_make (dvs := [.int 1]) (mk_Ratio Z) (ok_Ratio_init Z F) (hr.mono hk) hg (glo_Ratio Z) B r hx (wk_a ha) (by decide) he hpl) fun σ H Q q => ⟨_, q, fun vs H1 ⟨x, ev, h⟩ a dx na nd hne => ?_⟩
  subst ev
  exact askR_go h a dx na nd hne
end
theorem nrm_one (n : Int) : nrm n 1 = (n, 1) := by
  unfold nrm
  rw [if_neg (by decide), show Nat.gcd n.natAbs (Int.natAbs 1) = 1 from Nat.gcd_one_right _]
  rw [show ((1 : Nat) : Int) = 1 from rfl, Int.fdiv_one]; rfl
section
variable {P : Program} {w : World} {K : PySem.W.Frag} {mg : Str → Option Value} {base : Heap} {fd : FuncData} {f : Addr}
theorem Num.ask (R : RC K) {H : Hp} {x : V} {q : Int × Int} (h : Num K H x q) : ∃ t b, TyX K H x t ∧ PySem.W.kitOne K t (rf K "Ratio") = some b ∧ (b = false → ∃ n, x = .int n ∧ q = (n, 1)) ∧ (b = true → ∃ a, x = .ref a ∧ RAt K H a q) := by
  cases h with
  | int n => exact ⟨_, false, .base (.int n), of_decide_eq_true (List.all_eq_true.mp R.tR "int" (by decide)), fun _ => ⟨n, rfl, rfl⟩, fun z => nomatch z⟩
  | rat h => exact ⟨_, true, R.ty h, R.rr, fun z => (nomatch z), fun _ => ⟨_, rfl, h⟩⟩
def spIsNumber (K : PySem.W.Frag) : Sp := fun vs H Q _ => ∃ x q, vs = [x] ∧ Num K H x q ∧ Q (.bl true) H
theorem ok_is_number (Z : CT K mg) (F : FunD K d_is_number.name d_is_number.qual d_is_number.params d_is_number.body d_is_number.scope [] [] f fd) : FnOk P w K mg base CX0 2 f fd ["value"] (spIsNumber K) := by
  refine F.ok sc_is_number (fun vs H Q E h => ?_) (fun cdv A outer s H vs Q E hr h => ?_)
  · obtain ⟨x, q, rfl, _⟩ := h
    rfl
  · obtain ⟨x, q, rfl, hn, k⟩ := h
    obtain ⟨t, b, ty, kt, h0, h1⟩ := hn.ask (rc Z)
    refine ⟨_, (pss_one (ps_ret ((pe_or (pe_callB call_isi (by rfl) (m_isinstance Z) boot_isinstance (pa_cons (pv 0) (pa_cons (pe_glob (by rfl) (glo_Ratio Z) (rel_ref _)) pa_nil))) (pe_one (gcall (good_is_integer Z) hr (pa_cons (pv 0) pa_nil) pass0)))))), ?_⟩
    refine ⟨_, rfl, x, _, t, _, b, rfl, .own _, ty, kt, b, rfl, ?_⟩
    cases b with
    | true => exact k
    | false =>
      obtain ⟨n, rfl, _⟩ := h0 rfl
      exact ⟨_, rfl, _, true, rfl, .int n, k⟩
theorem good_is_number (Z : CT K mg) : GoodF CX0 P w K mg base 2 "is_number" ["value"] (spIsNumber K) := Z.good 38 13 d_is_number (fun _ _ _ _ _ _ us hl => match us, hl with | [_], _ => rfl) fun _ F => ok_is_number Z F
def spAsRatio (K : PySem.W.Frag) : Sp := fun vs H Q _ => ∃ x q, vs = [x] ∧ Num K H x q ∧ NewR K H q Q
theorem ok_as_ratio (Z : CT K mg) (F : FunD K d_as_ratio.name d_as_ratio.qual d_as_ratio.params d_as_ratio.body d_as_ratio.scope [] [] f fd) : FnOk P w K mg base CX0 5 f fd ["number"] (spAsRatio K) := by
  refine F.ok sc_as_ratio (fun vs H Q E h => ?_) (fun cdv A outer s H vs Q E hr h => ?_)
  · obtain ⟨x, q, rfl, _⟩ := h
    rfl
  · obtain ⟨x, q, rfl, hn, k⟩ := h
    obtain ⟨t, b, ty, kt, h0, h1⟩ := hn.ask (rc Z)
    refine ⟨_, (pss_cons (ps_if (pt_val (pe_callB call_isi (by rfl) (m_isinstance Z) boot_isinstance (pa_cons (pv 0) (pa_cons (pe_glob (by rfl) (glo_Ratio Z) (rel_ref _)) pa_nil))) (fun _ => rfl)) (pss_one (ps_ret (pv 0))) pss_nil)
      (pss_one (ps_ret (mkR1 Z hr (pa_cons (pv 0) pa_nil) passN)))), ?_⟩
    refine ⟨_, rfl, x, _, t, _, b, rfl, .own _, ty, kt, b, rfl, ?_⟩
    cases b with
    | true =>
      obtain ⟨a, rfl, h⟩ := h1 rfl
      exact iteT ⟨_, rfl, k a H (Same.refl H) h⟩
    | false =>
      obtain ⟨n, rfl, rfl⟩ := h0 rfl
      refine iteF ⟨_, rfl, _, rfl, true, true, .int n, .int 1, fun z => (nomatch z), fun _ z => (nomatch z), fun t b e1 e2 => ?_⟩
      injection e1 with e1
      injection e2 with e2
      subst e1 e2
      exact ⟨fun z => absurd z (by decide), fun _ => ⟨by show (1 : Nat) < 2 ^ 8000; exact Nat.one_lt_two_pow (by decide), by rw [nrm_one]; exact k⟩⟩
theorem good_as_ratio (Z : CT K mg) : GoodF CX0 P w K mg base 5 "as_ratio" ["number"] (spAsRatio K) := Z.good 39 14 d_as_ratio (fun _ _ _ _ _ _ us hl => match us, hl with | [_], _ => rfl) fun _ F => ok_as_ratio Z F
end
/-! ### the operators of numbers -/
section
variable {X : Cx} {CX : CXT} {pins : List (Addr × Obj)} {σ : L2.St} {H : Hp} {s : Shared} {a C dx f g : Addr} {fs : List (Str × V)} {k k' : Nat} {fd gd : FuncData} {sp sr : Sp} {E : XK}
theorem ins_inst (I : Inv X pins σ H s) (e : H a = some (.ins C dx fs)) : ∃ od, PySem.W.InstAt s.heap a (PySem.W.instObj C dx) C (some od) := by
  obtain ⟨mA, O, _⟩ := ins_get I.hok e
  obtain ⟨od, J, _⟩ := O.look
  exact ⟨od, J⟩
theorem slots_int {K : PySem.W.Frag} {mg : Str → Option Value} (Z : CT K mg) {nm : String} (h : nm ∈ ["add", "sub", "mul", "floordiv", "mod", "pow"]) : ∃ fo ro, PySem.W.findIn K (.type "int") (PySem.dunder nm) = some fo ∧ PySem.W.findIn K (.type "int") (PySem.dunderR nm) = some ro := by
  obtain ⟨h1, h2⟩ := Bool.and_eq_true_iff.mp (List.all_eq_true.mp (exi Z) nm h)
  obtain ⟨fo, e1⟩ := Option.isSome_iff_exists.mp h1
  obtain ⟨ro, e2⟩ := Option.isSome_iff_exists.mp h2
  exact ⟨fo, ro, e1, e2⟩
/-- a Ratio on the left -/
def rRatL (K : PySem.W.Frag) (sp : Sp) (E : XK) : R2 := fun x y H Q => ∃ a q r, x = .ref a ∧ RAt K H a q ∧ Num K H y r ∧ sp [x, y] H Q E
theorem op_ratL {op : Operator} {mth : Str} (Z : CT X.K X.mg) (hop : op.info.2 ∈ ["add", "sub", "mul", "floordiv", "mod", "pow"]) (hm : PySem.dunder op.info.2 = mth) (me : Meth X.K (He.ga X.K "Ratio") mth f) (mr : ∃ g, Meth X.K (He.ga X.K "Ratio") (dunderR op.info.2) g)
    (F : FnOk X.prog X.w X.K X.mg X.base CX k f fd ["self", "other"] sp) (B : Binds X.K fd ["self", "other"] []) (hr : Room k' X.A) (hx : Passes CX X E) (hk : k ≤ k' := by decide) : OpR X (binaryOp op) (rRatL X.K sp E) := by
  intro pins s σ H x y v u Q I rx ry ⟨a, q, r, ex, ⟨dx, hd⟩, hn, h⟩
  subst ex
  cases (show v = Value.ref a from rx)
  obtain ⟨od, J⟩ := ins_inst I hd
  obtain ⟨m, hF⟩ := I.fr
  have at_ := me.at_
  rw [← hm] at at_
  have back : ∀ {z : V} {w : Value} {s' : Shared}, EP X pins σ Q w s' → PySem.W.CmpBack (EP X pins σ Q) w s' := fun z => by
    obtain ⟨z', H', I', rz, qz⟩ := z
    exact SlX.cmpback rz ⟨z', H', I', rz, qz⟩
  have run : wpAny (model X.prog X.w) X.A (call (.ref f) [.ref a, u]) (PySem.W.CmpBack (EP X pins σ Q)) X.xe s :=
    wpAny_mono (run_fn (us := [.ref a, u]) (vs := [.ref a, y]) F (hr.mono hk) B .nil hx I (.cons rfl (.cons ry .nil)) h) (fun w s' z => back (z := y) z) fun _ _ e => e
  cases hn with
  | int n =>
    obtain ⟨t, e⟩ := (show ∃ t, u = Value.int n t from ry)
    subst e
    obtain ⟨fo, ro, h1, h2⟩ := slots_int Z hop
    obtain ⟨g, mg'⟩ := mr
    exact PySem.W.ksp_binT hF I.ok.mod.kin J rfl (rc Z).self at_ me.fn mg'.at_ (.inr ⟨g, rfl⟩) h1 h2 (rc Z).ir run
  | @rat b q hb =>
    cases (show u = Value.ref b from ry)
    obtain ⟨dy, hb⟩ := hb
    obtain ⟨od', J'⟩ := ins_inst I hb
    exact PySem.W.binop_K hF I.ok.mod.kin J J'.type (rc Z).self at_ me.fn run
/-- an integer on the left, a Ratio on the right -/
def rRatR (K : PySem.W.Frag) (sr : Sp) (E : XK) : R2 := fun x y H Q => ∃ i b q, x = .int i ∧ y = .ref b ∧ RAt K H b q ∧ sr [y, x] H Q E
theorem op_ratR {op : Operator} {mth rmth : Str} {id : String} {Bi : Builtin} (Z : CT X.K X.mg) (S : IntSlot op id Bi) (hm : PySem.dunder op.info.2 = mth) (hm2 : dunderR op.info.2 = rmth) (me : Meth X.K (He.ga X.K "Ratio") mth f) (mr : Meth X.K (He.ga X.K "Ratio") rmth g)
    (F : FnOk X.prog X.w X.K X.mg X.base CX k g gd ["self", "other"] sr) (B : Binds X.K gd ["self", "other"] []) (hr : Room k' X.A) (hx : Passes CX X E) (hk : k ≤ k' := by decide) : OpR X (binaryOp op) (rRatR X.K sr E) := by
  intro pins s σ H x y v u Q I rx ry ⟨i, b, q, ex, ey, ⟨dy, hb⟩, h⟩
  subst ex ey
  cases (show u = Value.ref b from ry)
  obtain ⟨t, e⟩ := (show ∃ t, v = Value.int i t from rx)
  subst e
  obtain ⟨od, J⟩ := ins_inst I hb
  have at_ := me.at_
  rw [← hm] at at_
  have ar := mr.at_
  rw [← hm2] at ar
  refine bin_refl S I.kIn J (rc Z).self at_ ar mr.fn (rc Z).ri (wpAny_mono (run_fn (us := [.ref b, .int i t]) (vs := [.ref b, .int i]) F (hr.mono hk) B .nil hx I (.cons rfl (.cons ⟨t, rfl⟩ .nil)) h) (fun w s' z => ?_) fun _ _ e => e)
  obtain ⟨z', H', I', rz, qz⟩ := z
  exact SlX.cmpback rz ⟨z', H', I', rz, qz⟩
theorem opR_or {f : Value → Value → Sem Value} {r r' : R2} (h : OpR X f r) (h' : OpR X f r') : OpR X f (fun x y H Q => r x y H Q ∨ r' x y H Q) := fun pins s σ H x y v u Q I rx ry z => z.elim (fun z => h pins s σ H x y v u Q I rx ry z) fun z => h' pins s σ H x y v u Q I rx ry z
end
end My

namespace My
open PySem PySem.Spec PyProof.Rows L2 PySem.Calls

/-! ### methods by their promises -/
structure GoodMd (CX : CXT) (P : Program) (w : World) (K : PySem.W.Frag) (mg : Str → Option Value) (base : Heap) (k : Nat) (m : Str) (ps : List Str) (sp : Sp) : Prop where
  me : Meth K (He.ga K "Ratio") m (He.ma K (He.ga K "Ratio") m)
  fn : ∃ fd, FnOk P w K mg base CX k (He.ma K (He.ga K "Ratio") m) fd ps sp ∧ Binds K fd ps []
theorem goodMd {K : PySem.W.Frag} {mg : Str → Option Value} {CX : CXT} {P : Program} {w : World} {base : Heap} {k : Nat} {m : Str} {ps : List Str} {sp : Sp} (Z : CT K mg) (i : Nat) (d : He.DefD) (me : Meth K (He.ga K "Ratio") m (He.ma K (He.ga K "Ratio") m))
    (hb : ∀ (kV doc pm : Value) (an : Option Addr) (cdv ct : Value) (us : List Value), us.length = ps.length → bindArgs (PySem.W.fnOf d.name d.qual d.params d.body d.scope .none kV doc pm an cdv ct) ⟨us, []⟩ = pure (ps.zip us))
    (ok : ∀ fd, FunD K d.name d.qual d.params d.body d.scope [] [] (He.ma K (He.ga K "Ratio") m) fd → FnOk P w K mg base CX k (He.ma K (He.ga K "Ratio") m) fd ps sp)
    (hd : fn[i]? = some d := by rfl) (hx : d.at_ = (("Ratio" : Str), some m) := by rfl) (hdf : d.dfl = [] := by rfl) (hkw : d.kwd = [] := by rfl) : GoodMd CX P w K mg base k m ps sp := by
  obtain ⟨fd, F⟩ := Z.d.def_ i hd
  have e1 : d.dvs K = [] := by unfold He.DefD.dvs; rw [hdf]; rfl
  have e2 : d.kws K = [] := by unfold He.DefD.kws; rw [hkw]; rfl
  have e3 : He.fAd K d.at_ = He.ma K (He.ga K "Ratio") m := by rw [hx]; rfl
  rw [e1, e2, e3] at F
  exact ⟨me, fd, ok fd F, F.bindsN hb⟩
/-! ### values and their bounds -/
def Okq (B : Nat) (p : Int × Int) : Prop := p.1.natAbs < 2 ^ B ∧ p.2.natAbs < 2 ^ B ∧ p.2 ≠ 0
theorem bnd_mul {i j : Int} {a b c : Nat} (ha : i.natAbs < 2 ^ a) (hb : j.natAbs < 2 ^ b) (h : a + b ≤ c) : (i * j).natAbs < 2 ^ c := Nat.lt_of_lt_of_le (wide_lt ha hb) (Nat.pow_le_pow_right (by decide) h)
theorem bnd_add {i j : Int} {c : Nat} (ha : i.natAbs < 2 ^ c) (hb : j.natAbs < 2 ^ c) : (i + j).natAbs < 2 ^ (c + 1) := by rw [Nat.pow_succ]; omega
theorem bnd_sub {i j : Int} {c : Nat} (ha : i.natAbs < 2 ^ c) (hb : j.natAbs < 2 ^ c) : (i - j).natAbs < 2 ^ (c + 1) := by rw [Nat.pow_succ]; omega
theorem bnd_le {i : Int} {a c : Nat} (ha : i.natAbs < 2 ^ a) (h : a ≤ c) : i.natAbs < 2 ^ c := Nat.lt_of_lt_of_le ha (Nat.pow_le_pow_right (by decide) h)
theorem mulW {i j : Int} {B : Nat} (ha : i.natAbs < 2 ^ B) (hb : j.natAbs < 2 ^ B) (h0 : 0 < B) (h1 : B ≤ 4000) : CMulW i j := wide_mul ha hb h0 h0 (by omega)
theorem ne_mul {i j : Int} (hi : i ≠ 0) (hj : j ≠ 0) : i * j ≠ 0 := Int.mul_ne_zero hi hj
def addQ (p q : Int × Int) : Int × Int := nrm (p.1 * q.2 + q.1 * p.2) (p.2 * q.2)
def subQ (p q : Int × Int) : Int × Int := nrm (p.1 * q.2 - q.1 * p.2) (p.2 * q.2)
def mulQ (p q : Int × Int) : Int × Int := nrm (p.1 * q.1) (p.2 * q.2)
def overQ (p q : Int × Int) : Int × Int := nrm (p.1 * q.2) (p.2 * q.1)
def fdQ (p q : Int × Int) : Int := (overQ p q).1.fdiv (overQ p q).2
section
variable {K : PySem.W.Frag} {H : Hp}
theorem askR_ok {t b : Int} {Q : VK} {E : XK} (hb : b ≠ 0) (hs : b.natAbs < 2 ^ 8000) (h : NewR K H (nrm t b) Q) : AskR K (.int t) (.int b) H Q E :=
  ⟨true, true, .int t, .int b, fun z => (nomatch z), fun _ z => (nomatch z), fun t' b' e1 e2 => by injection e1 with e1; injection e2 with e2; subst e1 e2; exact ⟨fun z => absurd z hb, fun _ => ⟨hs, h⟩⟩⟩
theorem NewR.same {q : Int × Int} {Q : VK} {H' : Hp} (h : NewR K H q Q) (s : Same H H') : NewR K H' q Q := fun p H2 s2 r => h p H2 (s.trans s2) r
/-- a op b, a a Ratio, b a number: the promise of a method -/
def spBin (K : PySem.W.Frag) (f : Int × Int → Int × Int → Int × Int) : Sp := fun vs H Q _ => ∃ a p y q, vs = [.ref a, y] ∧ RAt K H a p ∧ Num K H y q ∧ Okq 3900 p ∧ Okq 3900 q ∧ NewR K H (f p q) Q
def rBinL (K : PySem.W.Frag) (f : Int × Int → Int × Int → Int × Int) : R2 := fun x y H Q => ∃ a p q, x = .ref a ∧ RAt K H a p ∧ Num K H y q ∧ Okq 3900 p ∧ Okq 3900 q ∧ NewR K H (f p q) Q
/-- both are numbers, one of them a Ratio -/
def rBin (K : PySem.W.Frag) (f : Int × Int → Int × Int → Int × Int) : R2 := fun x y H Q => ∃ p q, Num K H x p ∧ Num K H y q ∧ ((∃ a, x = .ref a) ∨ ∃ b, y = .ref b) ∧ Okq 3900 p ∧ Okq 3900 q ∧ NewR K H (f p q) Q
end
theorem op_imp {X : Cx} {f : Value → Value → Sem Value} {r r' : R2} (h : OpR X f r) (i : ∀ x y H Q, r' x y H Q → r x y H Q) : OpR X f r' := fun pins s σ H x y v u Q I rx ry z => h pins s σ H x y v u Q I rx ry (i x y H Q z)
theorem binL {X : Cx} {k k' : Nat} {op : Operator} {mth : Str} {f : Int × Int → Int × Int → Int × Int} (Z : CT X.K X.mg) (G : GoodMd CX0 X.prog X.w X.K X.mg X.base k mth ["self", "other"] (spBin X.K f)) (mr : ∃ g, Meth X.K (He.ga X.K "Ratio") (dunderR op.info.2) g) (hr : Room k' X.A) (hk : k ≤ k')
    (hop : op.info.2 ∈ ["add", "sub", "mul", "floordiv", "mod", "pow"]) (hm : PySem.dunder op.info.2 = mth) : OpR X (binaryOp op) (rBinL X.K f) := by
  obtain ⟨fd, F, B⟩ := G.fn
  exact op_imp (op_ratL Z hop hm G.me mr F B hr pass0 hk) fun x y H Q ⟨a, p, q, e, h1, h2, h3, h4, h5⟩ => ⟨a, p, q, e, h1, h2, a, p, y, q, by rw [e], h1, h2, h3, h4, h5⟩
theorem binA {X : Cx} {k k2 k' : Nat} {op : Operator} {mth rmth : Str} {id : String} {Bi : Builtin} {f fr : Int × Int → Int × Int → Int × Int} (Z : CT X.K X.mg) (G : GoodMd CX0 X.prog X.w X.K X.mg X.base k mth ["self", "other"] (spBin X.K f)) (G2 : GoodMd CX0 X.prog X.w X.K X.mg X.base k2 rmth ["self", "other"] (spBin X.K fr))
    (hf : ∀ p q, fr p q = f q p) (S : IntSlot op id Bi) (hr : Room k' X.A) (hk : k ≤ k') (hk2 : k2 ≤ k') (hop : op.info.2 ∈ ["add", "sub", "mul", "floordiv", "mod", "pow"]) (hm : PySem.dunder op.info.2 = mth) (hm2 : dunderR op.info.2 = rmth) : OpR X (binaryOp op) (rBin X.K f) := by
  obtain ⟨fd2, F2, B2⟩ := G2.fn
  refine op_imp (opR_or (binL Z G ⟨_, by rw [hm2]; exact G2.me⟩ hr hk hop hm) (op_ratR Z S hm hm2 G.me G2.me F2 B2 hr pass0 hk2)) fun x y H Q ⟨p, q, n1, n2, ho, o1, o2, h⟩ => ?_
  cases n1 with
  | rat h1 => exact .inl ⟨_, p, q, rfl, h1, n2, o1, o2, h⟩
  | int i =>
    rcases ho with ⟨a, e⟩ | ⟨b, e⟩
    · cases e
    · subst e
      cases n2 with
      | rat h2 => exact .inr ⟨i, b, q, rfl, rfl, h2, b, q, _, _, rfl, h2, .int i, o2, o1, by rw [hf]; exact h⟩
section
variable {P : Program} {w : World} {K : PySem.W.Frag} {mg : Str → Option Value} {base : Heap} {fd : FuncData} {f : Addr}
theorem ok_Ratio_add (Z : CT K mg) (F : FunD K d_Ratio_add.name d_Ratio_add.qual d_Ratio_add.params d_Ratio_add.body d_Ratio_add.scope [] [] f fd) : FnOk P w K mg base (CX0) 6 f fd ["self", "other"] (spBin K addQ) := by
  refine F.ok sc_Ratio_add (fun vs H Q E h => ?_) (fun cdv A outer s H vs Q E hr h => ?_)
  · obtain ⟨a, p, y, q, rfl, _⟩ := h
    rfl
  · obtain ⟨a, p, y, q, rfl, ha, hn, o1, o2, h⟩ := h
    refine ⟨_, (pss_cons (ps_if (pt_not (pt_val (gcall (good_is_number Z) hr (pa_cons (pv 1) pa_nil) pass0) (fun _ => rfl))) (pss_one ps_never) pss_nil)
      (pss_cons (ps_set (i := 2) sc_Ratio_add.nd rfl (Or.inl rfl) (gcall (good_as_ratio Z) hr (pa_cons (pv 1) pa_nil) pass0))
      (pss_one (ps_ret (mkR2 Z hr (pa_cons (pe_op op_add (pe_op op_mulW (pe_fld (pv 0) rfl) (pe_fld (pv 2) rfl)) (pe_op op_mulW (pe_fld (pv 2) rfl) (pe_fld (pv 0) rfl))) (pa_cons (pe_op op_mulW (pe_fld (pv 0) rfl) (pe_fld (pv 2) rfl)) pa_nil)) passN))))), ?_⟩
    refine ⟨_, rfl, y, q, rfl, hn, true, rfl, iteF ?_⟩
    refine ⟨_, rfl, y, q, rfl, hn, fun r H1 s1 hr1 => ?_⟩
    obtain ⟨dx, hd⟩ := ha.same s1
    obtain ⟨dy, he⟩ := hr1
    refine ⟨_, rfl, a, _, dx, _, _, rfl, hd, (rc Z).cl, (rc Z).nT, rfs_top _ _, _, rfl, r, _, dy, _, _, rfl, he, (rc Z).cl, (rc Z).nB, rfs_bot _ _, _, _, rfl, rfl, mulW o1.1 o2.2.1 (by decide) (by decide), _, rfl, r, _, dy, _, _, rfl, he, (rc Z).cl, (rc Z).nT, rfs_top _ _, _, rfl, a, _, dx, _, _, rfl, hd, (rc Z).cl, (rc Z).nB, rfs_bot _ _, _, _, rfl, rfl, mulW o2.1 o1.2.1 (by decide) (by decide), _, _, rfl, rfl, _, rfl, a, _, dx, _, _, rfl, hd, (rc Z).cl, (rc Z).nB, rfs_bot _ _, _, rfl, r, _, dy, _, _, rfl, he, (rc Z).cl, (rc Z).nB, rfs_bot _ _, _, _, rfl, rfl, mulW o1.2.1 o2.2.1 (by decide) (by decide), _, _, rfl, ?_⟩
    exact askR_ok (ne_mul o1.2.2 o2.2.2) (bnd_mul o1.2.1 o2.2.1 (by decide)) (h.same s1)

theorem good_Ratio_add (Z : CT K mg) : GoodMd (CX0) P w K mg base 6 "__add__" ["self", "other"] (spBin K addQ) := goodMd Z 23 d_Ratio_add (me_Ratio_add Z) (fun _ _ _ _ _ _ us hl => match us, hl with | [_, _], _ => rfl) fun _ F => ok_Ratio_add Z F
theorem ok_Ratio_sub (Z : CT K mg) (F : FunD K d_Ratio_sub.name d_Ratio_sub.qual d_Ratio_sub.params d_Ratio_sub.body d_Ratio_sub.scope [] [] f fd) : FnOk P w K mg base (CX0) 6 f fd ["self", "other"] (spBin K subQ) := by
  refine F.ok sc_Ratio_sub (fun vs H Q E h => ?_) (fun cdv A outer s H vs Q E hr h => ?_)
  · obtain ⟨a, p, y, q, rfl, _⟩ := h
    rfl
  · obtain ⟨a, p, y, q, rfl, ha, hn, o1, o2, h⟩ := h
    refine ⟨_, (pss_cons (ps_if (pt_not (pt_val (gcall (good_is_number Z) hr (pa_cons (pv 1) pa_nil) pass0) (fun _ => rfl))) (pss_one ps_never) pss_nil)
      (pss_cons (ps_set (i := 2) sc_Ratio_sub.nd rfl (Or.inl rfl) (gcall (good_as_ratio Z) hr (pa_cons (pv 1) pa_nil) pass0))
      (pss_one (ps_ret (mkR2 Z hr (pa_cons (pe_op op_sub (pe_op op_mulW (pe_fld (pv 0) rfl) (pe_fld (pv 2) rfl)) (pe_op op_mulW (pe_fld (pv 2) rfl) (pe_fld (pv 0) rfl))) (pa_cons (pe_op op_mulW (pe_fld (pv 0) rfl) (pe_fld (pv 2) rfl)) pa_nil)) passN))))), ?_⟩
    refine ⟨_, rfl, y, q, rfl, hn, true, rfl, iteF ?_⟩
    refine ⟨_, rfl, y, q, rfl, hn, fun r H1 s1 hr1 => ?_⟩
    obtain ⟨dx, hd⟩ := ha.same s1
    obtain ⟨dy, he⟩ := hr1
    refine ⟨_, rfl, a, _, dx, _, _, rfl, hd, (rc Z).cl, (rc Z).nT, rfs_top _ _, _, rfl, r, _, dy, _, _, rfl, he, (rc Z).cl, (rc Z).nB, rfs_bot _ _, _, _, rfl, rfl, mulW o1.1 o2.2.1 (by decide) (by decide), _, rfl, r, _, dy, _, _, rfl, he, (rc Z).cl, (rc Z).nT, rfs_top _ _, _, rfl, a, _, dx, _, _, rfl, hd, (rc Z).cl, (rc Z).nB, rfs_bot _ _, _, _, rfl, rfl, mulW o2.1 o1.2.1 (by decide) (by decide), _, _, rfl, rfl, _, rfl, a, _, dx, _, _, rfl, hd, (rc Z).cl, (rc Z).nB, rfs_bot _ _, _, rfl, r, _, dy, _, _, rfl, he, (rc Z).cl, (rc Z).nB, rfs_bot _ _, _, _, rfl, rfl, mulW o1.2.1 o2.2.1 (by decide) (by decide), _, _, rfl, ?_⟩
    exact askR_ok (ne_mul o1.2.2 o2.2.2) (bnd_mul o1.2.1 o2.2.1 (by decide)) (h.same s1)

theorem good_Ratio_sub (Z : CT K mg) : GoodMd (CX0) P w K mg base 6 "__sub__" ["self", "other"] (spBin K subQ) := goodMd Z 25 d_Ratio_sub (me_Ratio_sub Z) (fun _ _ _ _ _ _ us hl => match us, hl with | [_, _], _ => rfl) fun _ F => ok_Ratio_sub Z F
theorem ok_Ratio_mul (Z : CT K mg) (F : FunD K d_Ratio_mul.name d_Ratio_mul.qual d_Ratio_mul.params d_Ratio_mul.body d_Ratio_mul.scope [] [] f fd) : FnOk P w K mg base (CX0) 6 f fd ["self", "other"] (spBin K mulQ) := by
  refine F.ok sc_Ratio_mul (fun vs H Q E h => ?_) (fun cdv A outer s H vs Q E hr h => ?_)
  · obtain ⟨a, p, y, q, rfl, _⟩ := h
    rfl
  · obtain ⟨a, p, y, q, rfl, ha, hn, o1, o2, h⟩ := h
    refine ⟨_, (pss_cons (ps_if (pt_not (pt_val (gcall (good_is_number Z) hr (pa_cons (pv 1) pa_nil) pass0) (fun _ => rfl))) (pss_one ps_never) pss_nil)
      (pss_cons (ps_set (i := 2) sc_Ratio_mul.nd rfl (Or.inl rfl) (gcall (good_as_ratio Z) hr (pa_cons (pv 1) pa_nil) pass0))
      (pss_one (ps_ret (mkR2 Z hr (pa_cons (pe_op op_mulW (pe_fld (pv 0) rfl) (pe_fld (pv 2) rfl)) (pa_cons (pe_op op_mulW (pe_fld (pv 0) rfl) (pe_fld (pv 2) rfl)) pa_nil)) passN))))), ?_⟩
    refine ⟨_, rfl, y, q, rfl, hn, true, rfl, iteF ?_⟩
    refine ⟨_, rfl, y, q, rfl, hn, fun r H1 s1 hr1 => ?_⟩
    obtain ⟨dx, hd⟩ := ha.same s1
    obtain ⟨dy, he⟩ := hr1
    refine ⟨_, rfl, a, _, dx, _, _, rfl, hd, (rc Z).cl, (rc Z).nT, rfs_top _ _, _, rfl, r, _, dy, _, _, rfl, he, (rc Z).cl, (rc Z).nT, rfs_top _ _, _, _, rfl, rfl, mulW o1.1 o2.1 (by decide) (by decide), _, rfl, a, _, dx, _, _, rfl, hd, (rc Z).cl, (rc Z).nB, rfs_bot _ _, _, rfl, r, _, dy, _, _, rfl, he, (rc Z).cl, (rc Z).nB, rfs_bot _ _, _, _, rfl, rfl, mulW o1.2.1 o2.2.1 (by decide) (by decide), _, _, rfl, ?_⟩
    exact askR_ok (ne_mul o1.2.2 o2.2.2) (bnd_mul o1.2.1 o2.2.1 (by decide)) (h.same s1)

theorem good_Ratio_mul (Z : CT K mg) : GoodMd (CX0) P w K mg base 6 "__mul__" ["self", "other"] (spBin K mulQ) := goodMd Z 27 d_Ratio_mul (me_Ratio_mul Z) (fun _ _ _ _ _ _ us hl => match us, hl with | [_, _], _ => rfl) fun _ F => ok_Ratio_mul Z F
end
theorem opAddL {X : Cx} {k : Nat} (Z : CT X.K X.mg) (hr : Room k X.A) (hk : 6 ≤ k := by decide) : OpR X (binaryOp .Add) (rBinL X.K addQ) := binL Z (good_Ratio_add Z) ⟨_, me_Ratio_radd Z⟩ hr hk (by decide) (by decide +kernel)
theorem opSubL {X : Cx} {k : Nat} (Z : CT X.K X.mg) (hr : Room k X.A) (hk : 6 ≤ k := by decide) : OpR X (binaryOp .Sub) (rBinL X.K subQ) := binL Z (good_Ratio_sub Z) ⟨_, me_Ratio_rsub Z⟩ hr hk (by decide) (by decide +kernel)
theorem opMulL {X : Cx} {k : Nat} (Z : CT X.K X.mg) (hr : Room k X.A) (hk : 6 ≤ k := by decide) : OpR X (binaryOp .Mult) (rBinL X.K mulQ) := binL Z (good_Ratio_mul Z) ⟨_, me_Ratio_rmul Z⟩ hr hk (by decide) (by decide +kernel)
section
variable {P : Program} {w : World} {K : PySem.W.Frag} {mg : Str → Option Value} {base : Heap} {fd : FuncData} {f : Addr}
theorem ok_Ratio_radd (Z : CT K mg) (F : FunD K d_Ratio_radd.name d_Ratio_radd.qual d_Ratio_radd.params d_Ratio_radd.body d_Ratio_radd.scope [] [] f fd) : FnOk P w K mg base (CX0) 7 f fd ["self", "other"] (spBin K addQ) := by
  refine F.ok sc_Ratio_radd (fun vs H Q E h => ?_) (fun cdv A outer s H vs Q E hr h => ?_)
  · obtain ⟨a, p, y, q, rfl, _⟩ := h
    rfl
  · obtain ⟨a, p, y, q, rfl, ha, hn, o1, o2, h⟩ := h
    refine ⟨_, (pss_one (ps_ret (pe_op (opAddL Z hr ) (pv 0) (pv 1)))), ?_⟩
    exact ⟨_, rfl, _, rfl, a, p, q, rfl, ha, hn, o1, o2, h⟩

theorem good_Ratio_radd (Z : CT K mg) : GoodMd (CX0) P w K mg base 7 "__radd__" ["self", "other"] (spBin K addQ) := goodMd Z 24 d_Ratio_radd (me_Ratio_radd Z) (fun _ _ _ _ _ _ us hl => match us, hl with | [_, _], _ => rfl) fun _ F => ok_Ratio_radd Z F
theorem ok_Ratio_rmul (Z : CT K mg) (F : FunD K d_Ratio_rmul.name d_Ratio_rmul.qual d_Ratio_rmul.params d_Ratio_rmul.body d_Ratio_rmul.scope [] [] f fd) : FnOk P w K mg base (CX0) 7 f fd ["self", "other"] (spBin K mulQ) := by
  refine F.ok sc_Ratio_rmul (fun vs H Q E h => ?_) (fun cdv A outer s H vs Q E hr h => ?_)
  · obtain ⟨a, p, y, q, rfl, _⟩ := h
    rfl
  · obtain ⟨a, p, y, q, rfl, ha, hn, o1, o2, h⟩ := h
    refine ⟨_, (pss_one (ps_ret (pe_op (opMulL Z hr ) (pv 0) (pv 1)))), ?_⟩
    exact ⟨_, rfl, _, rfl, a, p, q, rfl, ha, hn, o1, o2, h⟩

theorem good_Ratio_rmul (Z : CT K mg) : GoodMd (CX0) P w K mg base 7 "__rmul__" ["self", "other"] (spBin K mulQ) := goodMd Z 28 d_Ratio_rmul (me_Ratio_rmul Z) (fun _ _ _ _ _ _ us hl => match us, hl with | [_, _], _ => rfl) fun _ F => ok_Ratio_rmul Z F
theorem ok_Ratio_rsub (Z : CT K mg) (F : FunD K d_Ratio_rsub.name d_Ratio_rsub.qual d_Ratio_rsub.params d_Ratio_rsub.body d_Ratio_rsub.scope [] [] f fd) : FnOk P w K mg base (CX0) 7 f fd ["self", "other"] (spBin K (fun p q => subQ q p)) := by
  refine F.ok sc_Ratio_rsub (fun vs H Q E h => ?_) (fun cdv A outer s H vs Q E hr h => ?_)
  · obtain ⟨a, p, y, q, rfl, _⟩ := h
    rfl
  · obtain ⟨a, p, y, q, rfl, ha, hn, o1, o2, h⟩ := h
    refine ⟨_, (pss_cons (ps_if (pt_not (pt_val (gcall (good_is_number Z) hr (pa_cons (pv 1) pa_nil) pass0) (fun _ => rfl))) (pss_one ps_never) pss_nil)
      (pss_one (ps_ret (pe_op (opSubL Z hr ) (gcall (good_as_ratio Z) hr (pa_cons (pv 1) pa_nil) pass0) (pv 0))))), ?_⟩
    refine ⟨_, rfl, y, q, rfl, hn, true, rfl, iteF ?_⟩
    exact ⟨_, rfl, y, q, rfl, hn, fun r H1 s1 hr1 => ⟨_, rfl, r, q, p, rfl, hr1, .rat (ha.same s1), o2, o1, h.same s1⟩⟩

theorem good_Ratio_rsub (Z : CT K mg) : GoodMd (CX0) P w K mg base 7 "__rsub__" ["self", "other"] (spBin K (fun p q => subQ q p)) := goodMd Z 26 d_Ratio_rsub (me_Ratio_rsub Z) (fun _ _ _ _ _ _ us hl => match us, hl with | [_, _], _ => rfl) fun _ F => ok_Ratio_rsub Z F
end
theorem addQ_comm (p q : Int × Int) : addQ p q = addQ q p := by unfold addQ; rw [Int.add_comm, Int.mul_comm p.2]
theorem mulQ_comm (p q : Int × Int) : mulQ p q = mulQ q p := by unfold mulQ; rw [Int.mul_comm p.1, Int.mul_comm p.2]
theorem opAdd {X : Cx} {k : Nat} (Z : CT X.K X.mg) (hr : Room k X.A) (hk : 7 ≤ k := by decide) : OpR X (binaryOp .Add) (rBin X.K addQ) := binA Z (good_Ratio_add Z) (good_Ratio_radd Z) (addQ_comm) is_add hr (Nat.le_trans (by decide) hk) hk (by decide) (by decide +kernel) (by decide +kernel)
theorem opSub {X : Cx} {k : Nat} (Z : CT X.K X.mg) (hr : Room k X.A) (hk : 7 ≤ k := by decide) : OpR X (binaryOp .Sub) (rBin X.K subQ) := binA Z (good_Ratio_sub Z) (good_Ratio_rsub Z) (fun _ _ => rfl) is_sub hr (Nat.le_trans (by decide) hk) hk (by decide) (by decide +kernel) (by decide +kernel)
theorem opMul {X : Cx} {k : Nat} (Z : CT X.K X.mg) (hr : Room k X.A) (hk : 7 ≤ k := by decide) : OpR X (binaryOp .Mult) (rBin X.K mulQ) := binA Z (good_Ratio_mul Z) (good_Ratio_rmul Z) (mulQ_comm) is_mul hr (Nat.le_trans (by decide) hk) hk (by decide) (by decide +kernel) (by decide +kernel)
end My

namespace My
open PySem PySem.Spec PyProof.Rows L2 PySem.Calls

/-! ### unary operators, abs -/
section
variable {prog : Program} {w : World} {A : Around} {E : Value → Shared → Prop} {s : Shared} {K : PySem.W.Frag} {x C f : Addr} {ox : Obj} {od : Option Obj}
theorem abs_own {Q : Value → Shared → Prop} (X : K.In s.heap) (I : PySem.W.InstAt s.heap x ox C od) (hs : PySem.W.findIn K (.ref C) "__abs__" = some (some (.ref f))) (hf : PySem.W.isFn K (.ref f) = true) (h : wpAny (model prog w) A.in1 (call (.ref f) [.ref x]) Q E s) :
    wpAny (model prog w) A (call (.builtin "abs") [.ref x]) Q E s := by
  refine call_function_entry kind_abs plain_abs entry_abs (args_abs _) ?_
  unfold Builtin.«abs»
  refine wpAny_bind (m := oneArg "abs" _) (wpAny_pure (wpAny_bind (m := callSpecial? (.ref x) (Str.ofString "__abs__")) (PySem.W.special_fn X I hs (beq_iff_eq.mp hf) (wpAny_mono h (fun v s' z => ?_) fun _ _ e => e))))
  exact wpAny_pure ⟨v, rfl, z⟩
end
section
variable {X : Cx} {k k' : Nat} {g : Int × Int → Int × Int}
/-- one number in, a new one out -/
def spUn (K : PySem.W.Frag) (g : Int × Int → Int × Int) : Sp := fun vs H Q _ => ∃ a p, vs = [.ref a] ∧ RAt K H a p ∧ Okq 3900 p ∧ NewR K H (g p) Q
def rUn (K : PySem.W.Frag) (g : Int × Int → Int × Int) : V → Hp → VK → Prop := fun x H Q => ∃ a p, x = .ref a ∧ RAt K H a p ∧ Okq 3900 p ∧ NewR K H (g p) Q
theorem un_negR (Z : CT X.K X.mg) (G : GoodMd CX0 X.prog X.w X.K X.mg X.base k "__neg__" ["self"] (spUn X.K g)) (hr : Room k' X.A) (hk : k ≤ k' := by decide) : UnR X (unaryOp .USub) (rUn X.K g) := by
  intro pins s σ H x v Q I rx ⟨a, p, e, ⟨dx, hd⟩, o, h⟩
  subst e
  cases (show v = Value.ref a from rx)
  obtain ⟨od, J⟩ := ins_inst I hd
  obtain ⟨m, hF⟩ := I.fr
  obtain ⟨fd, F, B⟩ := G.fn
  exact PySem.W.ksp_neg hF I.ok.mod.kin J G.me.at_ G.me.fn (run_fn (us := [.ref a]) (vs := [.ref a]) F (hr.mono hk) B .nil pass0 I (.cons rfl .nil) ⟨a, p, rfl, ⟨dx, hd⟩, o, h⟩)
theorem un_posR (Z : CT X.K X.mg) (G : GoodMd CX0 X.prog X.w X.K X.mg X.base k "__pos__" ["self"] (spUn X.K g)) (hr : Room k' X.A) (hk : k ≤ k' := by decide) : UnR X (unaryOp .UAdd) (rUn X.K g) := by
  intro pins s σ H x v Q I rx ⟨a, p, e, ⟨dx, hd⟩, o, h⟩
  subst e
  cases (show v = Value.ref a from rx)
  obtain ⟨od, J⟩ := ins_inst I hd
  obtain ⟨m, hF⟩ := I.fr
  obtain ⟨fd, F, B⟩ := G.fn
  exact PySem.W.ksp_pos hF I.ok.mod.kin J G.me.at_ G.me.fn (run_fn (us := [.ref a]) (vs := [.ref a]) F (hr.mono hk) B .nil pass0 I (.cons rfl .nil) ⟨a, p, rfl, ⟨dx, hd⟩, o, h⟩)
def rAbsR (K : PySem.W.Frag) (g : Int × Int → Int × Int) : List V → Hp → VK → Prop := fun xs H Q => ∃ a p, xs = [.ref a] ∧ RAt K H a p ∧ Okq 3900 p ∧ NewR K H (g p) Q
theorem call_absR (Z : CT X.K X.mg) (G : GoodMd CX0 X.prog X.w X.K X.mg X.base k "__abs__" ["self"] (spUn X.K g)) (hr : Room k' X.A) (hk : k + 1 ≤ k' := by decide) : CallR X (.builtin "abs") (rAbsR X.K g) := by
  intro pins s σ H xs us Q I r ⟨a, p, e, ⟨dx, hd⟩, o, h⟩
  subst e
  obtain ⟨u, rfl, ru⟩ := r.one
  cases (show u = Value.ref a from ru)
  obtain ⟨od, J⟩ := ins_inst I hd
  obtain ⟨fd, F, B⟩ := G.fn
  exact abs_own I.kIn J G.me.at_ G.me.fn (wpAny_call (SlX.run_at (us := [.ref a]) (ws := [.ref a]) (F.raw B .nil) (hr.mono hk).in1 I.env0.in1 pass0 I (.cons rfl .nil) ⟨a, p, rfl, ⟨dx, hd⟩, o, h⟩))
end
def negQ (p : Int × Int) : Int × Int := nrm (-p.1) p.2
def posQ (p : Int × Int) : Int × Int := nrm p.1 p.2
def absQ (p : Int × Int) : Int × Int := nrm (if p.1 < 0 then -p.1 else p.1) p.2
section
variable {P : Program} {w : World} {K : PySem.W.Frag} {mg : Str → Option Value} {base : Heap} {fd : FuncData} {f : Addr}
theorem ok_Ratio_neg (Z : CT K mg) (F : FunD K d_Ratio_neg.name d_Ratio_neg.qual d_Ratio_neg.params d_Ratio_neg.body d_Ratio_neg.scope [] [] f fd) : FnOk P w K mg base (CX0) 5 f fd ["self"] (spUn K negQ) := by
  refine F.ok sc_Ratio_neg (fun vs H Q E h => ?_) (fun cdv A outer s H vs Q E hr h => ?_)
  · obtain ⟨a, p, rfl, _⟩ := h
    rfl
  · obtain ⟨a, p, rfl, ⟨dx, hd⟩, o1, h⟩ := h
    refine ⟨_, (pss_one (ps_ret (mkR2 Z hr (pa_cons (pe_un un_neg (pe_fld (pv 0) rfl)) (pa_cons (pe_fld (pv 0) rfl) pa_nil)) passN))), ?_⟩
    exact ⟨_, rfl, a, _, dx, _, _, rfl, hd, (rc Z).cl, (rc Z).nT, rfs_top _ _, _, rfl, _, rfl, a, _, dx, _, _, rfl, hd, (rc Z).cl, (rc Z).nB, rfs_bot _ _, _, _, rfl, askR_ok o1.2.2 (bnd_le o1.2.1 (by decide)) h⟩

theorem good_Ratio_neg (Z : CT K mg) : GoodMd (CX0) P w K mg base 5 "__neg__" ["self"] (spUn K negQ) := goodMd Z 20 d_Ratio_neg (me_Ratio_neg Z) (fun _ _ _ _ _ _ us hl => match us, hl with | [_], _ => rfl) fun _ F => ok_Ratio_neg Z F
theorem ok_Ratio_pos (Z : CT K mg) (F : FunD K d_Ratio_pos.name d_Ratio_pos.qual d_Ratio_pos.params d_Ratio_pos.body d_Ratio_pos.scope [] [] f fd) : FnOk P w K mg base (CX0) 5 f fd ["self"] (spUn K posQ) := by
  refine F.ok sc_Ratio_pos (fun vs H Q E h => ?_) (fun cdv A outer s H vs Q E hr h => ?_)
  · obtain ⟨a, p, rfl, _⟩ := h
    rfl
  · obtain ⟨a, p, rfl, ⟨dx, hd⟩, o1, h⟩ := h
    refine ⟨_, (pss_one (ps_ret (mkR2 Z hr (pa_cons (pe_fld (pv 0) rfl) (pa_cons (pe_fld (pv 0) rfl) pa_nil)) passN))), ?_⟩
    exact ⟨_, rfl, a, _, dx, _, _, rfl, hd, (rc Z).cl, (rc Z).nT, rfs_top _ _, _, rfl, a, _, dx, _, _, rfl, hd, (rc Z).cl, (rc Z).nB, rfs_bot _ _, _, _, rfl, askR_ok o1.2.2 (bnd_le o1.2.1 (by decide)) h⟩

theorem good_Ratio_pos (Z : CT K mg) : GoodMd (CX0) P w K mg base 5 "__pos__" ["self"] (spUn K posQ) := goodMd Z 21 d_Ratio_pos (me_Ratio_pos Z) (fun _ _ _ _ _ _ us hl => match us, hl with | [_], _ => rfl) fun _ F => ok_Ratio_pos Z F
theorem ok_Ratio_abs (Z : CT K mg) (F : FunD K d_Ratio_abs.name d_Ratio_abs.qual d_Ratio_abs.params d_Ratio_abs.body d_Ratio_abs.scope [] [] f fd) : FnOk P w K mg base (CX0) 5 f fd ["self"] (spUn K absQ) := by
  refine F.ok sc_Ratio_abs (fun vs H Q E h => ?_) (fun cdv A outer s H vs Q E hr h => ?_)
  · obtain ⟨a, p, rfl, _⟩ := h
    rfl
  · obtain ⟨a, p, rfl, ⟨dx, hd⟩, o1, h⟩ := h
    refine ⟨_, (pss_one (ps_ret (mkR2 Z hr (pa_cons (pe_callB call_abs (by rfl) (m_abs Z) boot_abs (pa_cons (pe_fld (pv 0) rfl) pa_nil)) (pa_cons (pe_fld (pv 0) rfl) pa_nil)) passN))), ?_⟩
    exact ⟨_, rfl, a, _, dx, _, _, rfl, hd, (rc Z).cl, (rc Z).nT, rfs_top _ _, _, rfl, _, rfl, a, _, dx, _, _, rfl, hd, (rc Z).cl, (rc Z).nB, rfs_bot _ _, _, _, rfl, askR_ok o1.2.2 (bnd_le o1.2.1 (by decide)) h⟩

theorem good_Ratio_abs (Z : CT K mg) : GoodMd (CX0) P w K mg base 5 "__abs__" ["self"] (spUn K absQ) := goodMd Z 22 d_Ratio_abs (me_Ratio_abs Z) (fun _ _ _ _ _ _ us hl => match us, hl with | [_], _ => rfl) fun _ F => ok_Ratio_abs Z F
/-- a.over(b) -/
def spOver (K : PySem.W.Frag) : Sp := fun vs H Q E => ∃ a p y q, vs = [.ref a, y] ∧ RAt K H a p ∧ Num K H y q ∧ Okq 1000 p ∧ Okq 1000 q ∧ (q.1 = 0 → RzW K "zero" H E) ∧ (q.1 ≠ 0 → NewR K H (overQ p q) Q)
theorem ok_Ratio_over (Z : CT K mg) (F : FunD K d_Ratio_over.name d_Ratio_over.qual d_Ratio_over.params d_Ratio_over.body d_Ratio_over.scope [] [] f fd) : FnOk P w K mg base (L2N.CX P w) 6 f fd ["self", "number"] (spOver K) := by
  refine F.ok sc_Ratio_over (fun vs H Q E h => ?_) (fun cdv A outer s H vs Q E hr h => ?_)
  · obtain ⟨a, p, y, q, rfl, _⟩ := h
    rfl
  · obtain ⟨a, p, y, q, rfl, ha, hn, o1, o2, h0, h⟩ := h
    refine ⟨_, (pss_cons (ps_set (i := 2) sc_Ratio_over.nd rfl (Or.inl rfl) (gcall (good_as_ratio Z) hr (pa_cons (pv 1) pa_nil) pass0))
      (pss_one (ps_ret (mkR2 Z hr (pa_cons (pe_op op_mulW (pe_fld (pv 0) rfl) (pe_fld (pv 2) rfl)) (pa_cons (pe_op op_mulW (pe_fld (pv 0) rfl) (pe_fld (pv 2) rfl)) pa_nil)) (L2N.passes_call (L2N.takes_of rfl rfl rfl rfl) (fun _ _ _ _ h => h)))))), ?_⟩
    refine ⟨_, rfl, y, q, rfl, hn, fun r H1 s1 hr1 => ?_⟩
    obtain ⟨dx, hd⟩ := ha.same s1
    obtain ⟨dy, he⟩ := hr1
    refine ⟨_, rfl, a, _, dx, _, _, rfl, hd, (rc Z).cl, (rc Z).nT, rfs_top _ _, _, rfl, r, _, dy, _, _, rfl, he, (rc Z).cl, (rc Z).nB, rfs_bot _ _, _, _, rfl, rfl, mulW (B := 1000) o1.1 o2.2.1 (by decide) (by decide), _, rfl, a, _, dx, _, _, rfl, hd, (rc Z).cl, (rc Z).nB, rfs_bot _ _, _, rfl, r, _, dy, _, _, rfl, he, (rc Z).cl, (rc Z).nT, rfs_top _ _, _, _, rfl, rfl, mulW (B := 1000) o1.2.1 o2.1 (by decide) (by decide), _, _, rfl, true, true, .int _, .int _, fun z => (nomatch z), fun _ z => (nomatch z), fun t b e1 e2 => ?_⟩
    injection e1 with e1
    injection e2 with e2
    subst e1 e2
    by_cases hq : q.1 = 0
    · exact ⟨fun _ => (h0 hq).same s1, fun z => absurd (by rw [hq, Int.mul_zero]) z⟩
    · exact ⟨fun z => absurd z (ne_mul o1.2.2 hq), fun _ => ⟨bnd_mul o1.2.1 o2.1 (by decide), (h hq).same s1⟩⟩

theorem good_Ratio_over (Z : CT K mg) : GoodMd (L2N.CX P w) P w K mg base 6 "over" ["self", "number"] (spOver K) := goodMd Z 34 d_Ratio_over (me_Ratio_over Z) (fun _ _ _ _ _ _ us hl => match us, hl with | [_, _], _ => rfl) fun _ F => ok_Ratio_over Z F
end
section
variable {X : Cx} {e o : Expr} {ta : TE} {t : TA} {apos pos : Pos} {k : Nat} {E : XK}
def tOverM (K : PySem.W.Frag) (E : XK) (ta : TE) (t : TA) : TE := fun σ H Q => ta σ H fun x H1 => ∃ a p, x = .ref a ∧ RAt K H1 a p ∧ t σ H1 fun vs H2 => spOver K (x :: vs) H2 Q E
theorem overM (Z : CT X.K X.mg) (hr : Room k X.A) (he : PE X o ta) (ha : PA X [e] t) (hx : Passes (L2N.CX X.prog X.w) X E) (hk : 6 ≤ k := by decide) (hst : starEach [e] X.env = (false, eval e X.env) :: starEach [] X.env := by rfl) (hpl : (backTo pos (starEach [] X.env)).any (·.1) = false := by rfl)
    {pl : Sem Bool} (ht : eval (.Call (.Attribute o "over" apos) [e] [] pos) X.env = (do
      let ov ← eval o X.env
      standAt apos.atName
      let (f, first) ← holding [ov] (getMethod ov "over" pl)
      callWith pos f first (backTo pos (starEach [e] X.env)) (backToKw pos (keywordEach [] X.env))) := by rfl) : PE X (.Call (.Attribute o "over" apos) [e] [] pos) (tOverM X.K E ta t) := by
  obtain ⟨fd, F, B⟩ := (good_Ratio_over (P := X.prog) (w := X.w) (base := X.base) Z).fn
  refine pe_imp (pe_meth (wk_e he) (rc Z).cl (me_Ratio_over Z) F (hr.mono hk) B .nil hx (wk_a ha) hst hpl ht) fun σ H Q q => ⟨_, q, fun x H1 ⟨a, p, ex, ⟨dx, hd⟩, q2⟩ => ⟨a, dx, _, ex, hd, rfs_no _ _ (by decide +kernel) (by decide +kernel), _, q2, fun vs H2 z => by show spOver X.K (x :: (vs ++ [])) H2 _ _; rw [List.append_nil]; exact z⟩⟩
end
section
variable {P : Program} {w : World} {K : PySem.W.Frag} {mg : Str → Option Value} {base : Heap} {fd : FuncData} {f : Addr}
theorem fd_log {p q : Int × Int} (o1 : Okq 1000 p) (o2 : Okq 1000 q) (hq : q.1 ≠ 0) : (overQ p q).2 ≠ 0 ∧ (overQ p q).2.natAbs.log2 < 9000 := by
  have hb : p.2 * q.1 ≠ 0 := ne_mul o1.2.2 hq
  have c := (nrm_can (t := p.1 * q.2) hb).1
  refine ⟨by show (nrm (p.1 * q.2) (p.2 * q.1)).2 ≠ 0; omega, ?_⟩
  have l := (nrm_le (t := p.1 * q.2) hb).2
  have l2 : (p.2 * q.1).natAbs < 2 ^ 2000 := bnd_mul o1.2.1 o2.1 (by decide)
  exact Nat.lt_of_lt_of_le (PySem.Flt.log2_lt_of (k := 2000) (by decide) (Nat.lt_of_le_of_lt l l2)) (by decide)
/-- a // b -/
def spFd (K : PySem.W.Frag) : Sp := fun vs H Q E => ∃ a p y q, vs = [.ref a, y] ∧ RAt K H a p ∧ Num K H y q ∧ Okq 1000 p ∧ Okq 1000 q ∧ (q.1 = 0 → RzW K "zero" H E) ∧ (q.1 ≠ 0 → ∀ H', Same H H' → Q (.int (fdQ p q)) H')
theorem ok_Ratio_floordiv (Z : CT K mg) (F : FunD K d_Ratio_floordiv.name d_Ratio_floordiv.qual d_Ratio_floordiv.params d_Ratio_floordiv.body d_Ratio_floordiv.scope [] [] f fd) : FnOk P w K mg base (L2N.CX P w) 7 f fd ["self", "other"] (spFd K) := by
  refine F.ok sc_Ratio_floordiv (fun vs H Q E h => ?_) (fun cdv A outer s H vs Q E hr h => ?_)
  · obtain ⟨a, p, y, q, rfl, _⟩ := h
    rfl
  · obtain ⟨a, p, y, q, rfl, ha, hn, o1, o2, h0, h⟩ := h
    refine ⟨_, (pss_cons (ps_if (pt_not (pt_val (gcall (good_is_number Z) hr (pa_cons (pv 1) pa_nil) pass0) (fun _ => rfl))) (pss_one ps_never) pss_nil)
      (pss_cons (ps_set (i := 2) sc_Ratio_floordiv.nd rfl (Or.inl rfl) (overM Z hr (pv 0) (pa_cons (pv 1) pa_nil) (L2N.passes_call (L2N.takes_of rfl rfl rfl rfl) (fun _ _ _ _ h => h))))
      (pss_one (ps_ret (pe_op op_fdivZ (pe_fld (pv 2) rfl) (pe_fld (pv 2) rfl)))))), ?_⟩
    refine ⟨_, rfl, y, q, rfl, hn, true, rfl, iteF ?_⟩
    refine ⟨_, rfl, a, p, rfl, ha, _, rfl, a, p, y, q, rfl, ha, hn, o1, o2, h0, fun hq r H1 s1 hr1 => ?_⟩
    obtain ⟨dy, he⟩ := hr1
    obtain ⟨z1, z2⟩ := fd_log o1 o2 hq
    exact ⟨_, rfl, r, _, dy, _, _, rfl, he, (rc Z).cl, (rc Z).nT, rfs_top _ _, _, rfl, r, _, dy, _, _, rfl, he, (rc Z).cl, (rc Z).nB, rfs_bot _ _, _, _, rfl, rfl, ⟨z1, z2⟩, h hq H1 s1⟩

theorem good_Ratio_floordiv (Z : CT K mg) : GoodMd (L2N.CX P w) P w K mg base 7 "__floordiv__" ["self", "other"] (spFd K) := goodMd Z 29 d_Ratio_floordiv (me_Ratio_floordiv Z) (fun _ _ _ _ _ _ us hl => match us, hl with | [_, _], _ => rfl) fun _ F => ok_Ratio_floordiv Z F
end
section
variable {X : Cx} {k : Nat} {E : XK}
def rFdL (K : PySem.W.Frag) (E : XK) : R2 := fun x y H Q => ∃ a p q, x = .ref a ∧ RAt K H a p ∧ Num K H y q ∧ Okq 1000 p ∧ Okq 1000 q ∧ (q.1 = 0 → RzW K "zero" H E) ∧ (q.1 ≠ 0 → ∀ H', Same H H' → Q (.int (fdQ p q)) H')
theorem opFdL (Z : CT X.K X.mg) (hr : Room k X.A) (hx : Passes (L2N.CX X.prog X.w) X E) (hk : 7 ≤ k := by decide) : OpR X (binaryOp .FloorDiv) (rFdL X.K E) := by
  obtain ⟨fd, F, B⟩ := (good_Ratio_floordiv (P := X.prog) (w := X.w) (base := X.base) Z).fn
  exact op_imp (op_ratL Z (by decide) (by decide +kernel) (me_Ratio_floordiv Z) ⟨_, me_Ratio_rfloordiv Z⟩ F B hr hx hk) fun x y H Q ⟨a, p, q, e, h1, h2, h3, h4, h5, h6⟩ => ⟨a, p, q, e, h1, h2, a, p, y, q, by rw [e], h1, h2, h3, h4, h5, h6⟩
/-- a number times an integer -/
def rMulN (K : PySem.W.Frag) : R2 := fun x y H Q => ∃ p n, y = .int n ∧ Num K H x p ∧ Okq 3900 p ∧ Okq 3900 (n, 1) ∧ ∀ z H', Same H H' → Num K H' z (mulQ p (n, 1)) → Q z H'
theorem opMulN (Z : CT X.K X.mg) (hr : Room k X.A) (hk : 7 ≤ k := by decide) : OpR X (binaryOp .Mult) (rMulN X.K) := by
  refine op_imp (opR_or (op_mulW (X := X)) (opMulL Z hr (Nat.le_trans (by decide) hk))) fun x y H Q ⟨p, n, ey, hn, o1, o2, h⟩ => ?_
  cases hn with
  | int i =>
    refine .inl ⟨i, n, rfl, ey, mulW (B := 3900) o1.1 o2.1 (by decide) (by decide), h _ H (Same.refl H) ?_⟩
    have e : mulQ (i, 1) (n, 1) = (i * n, 1) := by show nrm (i * n) (1 * 1) = _; rw [Int.mul_one, nrm_one]
    rw [e]; exact .int _
  | rat hr1 => exact .inr ⟨_, p, (n, 1), rfl, hr1, by rw [ey]; exact .int n, o1, o2, fun r H' s1 h1 => h _ H' s1 (.rat h1)⟩
end
def modQ (p q : Int × Int) : Int × Int := subQ p (mulQ q (fdQ p q, 1))
theorem fd_bnd {p q : Int × Int} (o1 : Okq 1000 p) (o2 : Okq 1000 q) (hq : q.1 ≠ 0) : (fdQ p q).natAbs < 2 ^ 2001 := by
  have hb : p.2 * q.1 ≠ 0 := ne_mul o1.2.2 hq
  have l := (nrm_le (t := p.1 * q.2) hb).1
  have l2 : (p.1 * q.2).natAbs < 2 ^ 2000 := bnd_mul o1.1 o2.2.1 (by decide)
  have c := (nrm_can (t := p.1 * q.2) hb).1
  show ((nrm (p.1 * q.2) (p.2 * q.1)).1.fdiv (nrm (p.1 * q.2) (p.2 * q.1)).2).natAbs < 2 ^ 2001
  generalize nrm (p.1 * q.2) (p.2 * q.1) = r at *
  rw [Int.fdiv_eq_ediv_of_nonneg _ (by omega)]
  have h1 : r.1.natAbs < 2 ^ 2000 := Nat.lt_of_le_of_lt l l2
  have h2 : (r.1 / r.2).natAbs ≤ r.1.natAbs := by
    have := Int.natAbs_ediv_le_natAbs r.1 r.2
    omega
  rw [Nat.pow_succ]; omega
theorem ok_int {n : Int} {B : Nat} (h : n.natAbs < 2 ^ B) (hB : 0 < B) : Okq B (n, 1) := ⟨h, by show (1 : Nat) < 2 ^ B; exact Nat.one_lt_two_pow (by omega), by show (1 : Int) ≠ 0; decide⟩
theorem Okq.le {p : Int × Int} {B C : Nat} (h : Okq B p) (hc : B ≤ C) : Okq C p := ⟨bnd_le h.1 hc, bnd_le h.2.1 hc, h.2.2⟩
theorem ok_nrm {t b : Int} {B : Nat} (ht : t.natAbs < 2 ^ B) (hb : b.natAbs < 2 ^ B) (h0 : b ≠ 0) : Okq B (nrm t b) :=
  ⟨Nat.lt_of_le_of_lt (nrm_le h0).1 ht, Nat.lt_of_le_of_lt (nrm_le h0).2 hb, by have := (nrm_can (t := t) h0).1; omega⟩
theorem ok_mul {p : Int × Int} {n : Int} (o : Okq 1000 p) (h : n.natAbs < 2 ^ 2001) : Okq 3900 (mulQ p (n, 1)) :=
  ok_nrm (bnd_mul o.1 h (by decide)) (bnd_le (show (p.2 * 1).natAbs < 2 ^ 1000 by rw [Int.mul_one]; exact o.2.1) (by decide)) (by show p.2 * 1 ≠ 0; rw [Int.mul_one]; exact o.2.2)
section
variable {P : Program} {w : World} {K : PySem.W.Frag} {mg : Str → Option Value} {base : Heap} {fd : FuncData} {f : Addr}
/-- a % b -/
def spMod (K : PySem.W.Frag) : Sp := fun vs H Q E => ∃ a p y q, vs = [.ref a, y] ∧ RAt K H a p ∧ Num K H y q ∧ Okq 1000 p ∧ Okq 1000 q ∧ (q.1 = 0 → RzW K "zero" H E) ∧ (q.1 ≠ 0 → NewR K H (modQ p q) Q)
/-- b // a, b % a -/
def spFdR (K : PySem.W.Frag) : Sp := fun vs H Q E => ∃ a p y q, vs = [.ref a, y] ∧ RAt K H a p ∧ Num K H y q ∧ Okq 1000 p ∧ Okq 1000 q ∧ (p.1 = 0 → RzW K "zero" H E) ∧ (p.1 ≠ 0 → ∀ H', Same H H' → Q (.int (fdQ q p)) H')
def spModR (K : PySem.W.Frag) : Sp := fun vs H Q E => ∃ a p y q, vs = [.ref a, y] ∧ RAt K H a p ∧ Num K H y q ∧ Okq 1000 p ∧ Okq 1000 q ∧ (p.1 = 0 → RzW K "zero" H E) ∧ (p.1 ≠ 0 → NewR K H (modQ q p) Q)
theorem ok_Ratio_rfloordiv (Z : CT K mg) (F : FunD K d_Ratio_rfloordiv.name d_Ratio_rfloordiv.qual d_Ratio_rfloordiv.params d_Ratio_rfloordiv.body d_Ratio_rfloordiv.scope [] [] f fd) : FnOk P w K mg base (L2N.CX P w) 8 f fd ["self", "other"] (spFdR K) := by
  refine F.ok sc_Ratio_rfloordiv (fun vs H Q E h => ?_) (fun cdv A outer s H vs Q E hr h => ?_)
  · obtain ⟨a, p, y, q, rfl, _⟩ := h
    rfl
  · obtain ⟨a, p, y, q, rfl, ha, hn, o1, o2, h0, h⟩ := h
    refine ⟨_, (pss_cons (ps_if (pt_not (pt_val (gcall (good_is_number Z) hr (pa_cons (pv 1) pa_nil) pass0) (fun _ => rfl))) (pss_one ps_never) pss_nil)
      (pss_one (ps_ret (pe_op (opFdL Z hr (L2N.passes_call (L2N.takes_of rfl rfl rfl rfl) (fun _ _ _ _ h => h))) (gcall (good_as_ratio Z) hr (pa_cons (pv 1) pa_nil) pass0) (pv 0))))), ?_⟩
    refine ⟨_, rfl, y, q, rfl, hn, true, rfl, iteF ?_⟩
    exact ⟨_, rfl, y, q, rfl, hn, fun r H1 s1 hr1 => ⟨_, rfl, r, q, p, rfl, hr1, .rat (ha.same s1), o2, o1, fun z => (h0 z).same s1, fun z H2 s2 => h z H2 (s1.trans s2)⟩⟩

theorem good_Ratio_rfloordiv (Z : CT K mg) : GoodMd (L2N.CX P w) P w K mg base 8 "__rfloordiv__" ["self", "other"] (spFdR K) := goodMd Z 30 d_Ratio_rfloordiv (me_Ratio_rfloordiv Z) (fun _ _ _ _ _ _ us hl => match us, hl with | [_, _], _ => rfl) fun _ F => ok_Ratio_rfloordiv Z F
theorem ok_Ratio_mod (Z : CT K mg) (F : FunD K d_Ratio_mod.name d_Ratio_mod.qual d_Ratio_mod.params d_Ratio_mod.body d_Ratio_mod.scope [] [] f fd) : FnOk P w K mg base (L2N.CX P w) 8 f fd ["self", "other"] (spMod K) := by
  refine F.ok sc_Ratio_mod (fun vs H Q E h => ?_) (fun cdv A outer s H vs Q E hr h => ?_)
  · obtain ⟨a, p, y, q, rfl, _⟩ := h
    rfl
  · obtain ⟨a, p, y, q, rfl, ha, hn, o1, o2, h0, h⟩ := h
    refine ⟨_, (pss_cons (ps_if (pt_not (pt_val (gcall (good_is_number Z) hr (pa_cons (pv 1) pa_nil) pass0) (fun _ => rfl))) (pss_one ps_never) pss_nil)
      (pss_one (ps_ret (pe_op (opSubL Z hr ) (pv 0) (pe_op (opMulN Z hr) (pv 1) (pe_op (opFdL Z hr (L2N.passes_call (L2N.takes_of rfl rfl rfl rfl) (fun _ _ _ _ h => h))) (pv 0) (pv 1))))))), ?_⟩
    refine ⟨_, rfl, y, q, rfl, hn, true, rfl, iteF ?_⟩
    refine ⟨_, rfl, _, rfl, _, rfl, _, rfl, a, p, q, rfl, ha, hn, o1, o2, h0, fun hq H1 s1 => ?_⟩
    have fb := fd_bnd o1 o2 hq
    refine ⟨q, fdQ p q, rfl, hn.same s1, o2.le (by decide), ok_int (bnd_le fb (by decide)) (by decide), fun z H2 s2 hz => ?_⟩
    exact ⟨a, p, _, rfl, (ha.same s1).same s2, hz, o1.le (by decide), ok_mul o2 fb, ((h hq).same s1).same s2⟩

theorem good_Ratio_mod (Z : CT K mg) : GoodMd (L2N.CX P w) P w K mg base 8 "__mod__" ["self", "other"] (spMod K) := goodMd Z 31 d_Ratio_mod (me_Ratio_mod Z) (fun _ _ _ _ _ _ us hl => match us, hl with | [_, _], _ => rfl) fun _ F => ok_Ratio_mod Z F
theorem ok_Ratio_rmod (Z : CT K mg) (F : FunD K d_Ratio_rmod.name d_Ratio_rmod.qual d_Ratio_rmod.params d_Ratio_rmod.body d_Ratio_rmod.scope [] [] f fd) : FnOk P w K mg base (L2N.CX P w) 8 f fd ["self", "other"] (spModR K) := by
  refine F.ok sc_Ratio_rmod (fun vs H Q E h => ?_) (fun cdv A outer s H vs Q E hr h => ?_)
  · obtain ⟨a, p, y, q, rfl, _⟩ := h
    rfl
  · obtain ⟨a, p, y, q, rfl, ha, hn, o1, o2, h0, h⟩ := h
    refine ⟨_, (pss_cons (ps_if (pt_not (pt_val (gcall (good_is_number Z) hr (pa_cons (pv 1) pa_nil) pass0) (fun _ => rfl))) (pss_one ps_never) pss_nil)
      (pss_cons (ps_set (i := 2) sc_Ratio_rmod.nd rfl (Or.inl rfl) (gcall (good_as_ratio Z) hr (pa_cons (pv 1) pa_nil) pass0))
      (pss_one (ps_ret (pe_op (opSubL Z hr ) (pv 2) (pe_op (opMulN Z hr) (pv 0) (pe_op (opFdL Z hr (L2N.passes_call (L2N.takes_of rfl rfl rfl rfl) (fun _ _ _ _ h => h))) (pv 2) (pv 0)))))))), ?_⟩
    refine ⟨_, rfl, y, q, rfl, hn, true, rfl, iteF ?_⟩
    refine ⟨_, rfl, y, q, rfl, hn, fun r H0 s0 hr0 => ?_⟩
    refine ⟨_, rfl, _, rfl, _, rfl, _, rfl, r, q, p, rfl, hr0, .rat (ha.same s0), o2, o1, fun z => (h0 z).same s0, fun hq H1 s1 => ?_⟩
    have fb := fd_bnd o2 o1 hq
    refine ⟨p, fdQ q p, rfl, .rat ((ha.same s0).same s1), o1.le (by decide), ok_int (bnd_le fb (by decide)) (by decide), fun z H2 s2 hz => ?_⟩
    exact ⟨r, q, _, rfl, (hr0.same s1).same s2, hz, o2.le (by decide), ok_mul o1 fb, (((h hq).same s0).same s1).same s2⟩

theorem good_Ratio_rmod (Z : CT K mg) : GoodMd (L2N.CX P w) P w K mg base 8 "__rmod__" ["self", "other"] (spModR K) := goodMd Z 32 d_Ratio_rmod (me_Ratio_rmod Z) (fun _ _ _ _ _ _ us hl => match us, hl with | [_, _], _ => rfl) fun _ F => ok_Ratio_rmod Z F
end
section
variable {X : Cx} {k : Nat} {E : XK}
/-- a // b, a % b of numbers, one of them a Ratio -/
def rFd (K : PySem.W.Frag) (E : XK) : R2 := fun x y H Q => ∃ p q, Num K H x p ∧ Num K H y q ∧ ((∃ a, x = .ref a) ∨ ∃ b, y = .ref b) ∧ Okq 1000 p ∧ Okq 1000 q ∧ (q.1 = 0 → RzW K "zero" H E) ∧ (q.1 ≠ 0 → ∀ H', Same H H' → Q (.int (fdQ p q)) H')
def rMod (K : PySem.W.Frag) (E : XK) : R2 := fun x y H Q => ∃ p q, Num K H x p ∧ Num K H y q ∧ ((∃ a, x = .ref a) ∨ ∃ b, y = .ref b) ∧ Okq 1000 p ∧ Okq 1000 q ∧ (q.1 = 0 → RzW K "zero" H E) ∧ (q.1 ≠ 0 → NewR K H (modQ p q) Q)
theorem opFd (Z : CT X.K X.mg) (hr : Room k X.A) (hx : Passes (L2N.CX X.prog X.w) X E) (hk : 8 ≤ k := by decide) : OpR X (binaryOp .FloorDiv) (rFd X.K E) := by
  obtain ⟨fd2, F2, B2⟩ := (good_Ratio_rfloordiv (P := X.prog) (w := X.w) (base := X.base) Z).fn
  refine op_imp (opR_or (opFdL Z hr hx (Nat.le_trans (by decide) hk)) (op_ratR Z is_floordiv (by decide +kernel) (by decide +kernel) (me_Ratio_floordiv Z) (me_Ratio_rfloordiv Z) F2 B2 hr hx hk)) fun x y H Q ⟨p, q, n1, n2, ho, o1, o2, h0, h⟩ => ?_
  cases n1 with
  | rat h1 => exact .inl ⟨_, p, q, rfl, h1, n2, o1, o2, h0, h⟩
  | int i =>
    rcases ho with ⟨a, e⟩ | ⟨b, e⟩
    · cases e
    · subst e
      cases n2 with
      | rat h2 => exact .inr ⟨i, b, q, rfl, rfl, h2, b, q, _, _, rfl, h2, .int i, o2, o1, h0, h⟩
theorem opMod (Z : CT X.K X.mg) (hr : Room k X.A) (hx : Passes (L2N.CX X.prog X.w) X E) (hk : 8 ≤ k := by decide) : OpR X (binaryOp .Mod) (rMod X.K E) := by
  obtain ⟨fd1, F1, B1⟩ := (good_Ratio_mod (P := X.prog) (w := X.w) (base := X.base) Z).fn
  obtain ⟨fd2, F2, B2⟩ := (good_Ratio_rmod (P := X.prog) (w := X.w) (base := X.base) Z).fn
  refine op_imp (opR_or (op_ratL Z (by decide) (by decide +kernel) (me_Ratio_mod Z) ⟨_, me_Ratio_rmod Z⟩ F1 B1 hr hx hk) (op_ratR Z is_mod (by decide +kernel) (by decide +kernel) (me_Ratio_mod Z) (me_Ratio_rmod Z) F2 B2 hr hx hk)) fun x y H Q ⟨p, q, n1, n2, ho, o1, o2, h0, h⟩ => ?_
  cases n1 with
  | @rat a q' h1 => exact .inl ⟨a, p, q, rfl, h1, n2, a, p, y, q, rfl, h1, n2, o1, o2, h0, h⟩
  | int i =>
    rcases ho with ⟨a, e⟩ | ⟨b, e⟩
    · cases e
    · subst e
      cases n2 with
      | rat h2 => exact .inr ⟨i, b, q, rfl, rfl, h2, b, q, _, _, rfl, h2, .int i, o2, o1, h0, h⟩
end
end My

namespace My
open PySem PySem.Spec PyProof.Rows L2 PySem.Calls

section
variable {P : Program} {w : World} {K : PySem.W.Frag} {mg : Str → Option Value} {base : Heap} {fd : FuncData} {f : Addr}
/-- a drawn number, as a pair -/
def spNumber : Sp := fun vs H Q _ => ∃ (p : Addr) (x y : Int), vs = [.ref p] ∧ H p = some (.lst [.int x, .int y]) ∧ 0 ≤ x ∧ 0 ≤ y ∧ y < 999000 ∧
  ∀ (c : Addr) (t b x' y' : Int) (H' : Hp), t.natAbs < 2 ^ 67 → 1 ≤ b → b ≤ 1000000 → 0 ≤ x' → y ≤ y' → y' ≤ y + 640 → (∀ d, d ≠ p → ∀ o, H d = some o → H' d = some o) → H' p = some (.lst [.int x', .int y']) → H' c = some (.tup [.int t, .int b]) → Q (.ref c) H'
theorem ok_number (Z : CT K mg) (F : FunD K d_number.name d_number.qual d_number.params d_number.body d_number.scope [] [] f fd) : FnOk P w K mg base (CX0) 2 f fd ["_law_pouch_here"] (spNumber) := by
  refine F.ok sc_number (fun vs H Q E h => ?_) (fun cdv A outer s H vs Q E hr h => ?_)
  · obtain ⟨p, x, y, rfl, _⟩ := h
    rfl
  · obtain ⟨p, x0, y0, rfl, hp0, hx0, hy0, hm, q⟩ := h
    refine ⟨_, (pss_cons (ps_set (i := 1) sc_number.nd rfl (by first | exact Or.inl rfl | exact Or.inr rfl) (gcall (good_draw Z) hr (pa_cons (pv 0) (pa_cons pe_int pa_nil)) pass0))
      (pss_cons (ps_if (pt_cmpR op_eq (pv 1) (pe_int) (nomark _)) (pss_one (ps_ret (pe_tupN (pa_cons pe_int (pa_cons pe_int pa_nil))))) pss_nil)
      (pss_cons (ps_if (pt_cmpR op_le (pv 1) (pe_int) (nomark _)) (pss_one (ps_ret (pe_tupN (pa_cons (pe_op op_sub (gcall (good_draw Z) hr (pa_cons (pv 0) (pa_cons pe_int pa_nil)) pass0) (pe_int)) (pa_cons pe_int pa_nil))))) pss_nil)
      (pss_cons (ps_if (pt_cmpR op_le (pv 1) (pe_int) (nomark _)) (pss_one (ps_ret (pe_tupN (pa_cons (pe_op op_sub (gcall (good_draw Z) hr (pa_cons (pv 0) (pa_cons pe_int pa_nil)) pass0) (pe_int)) (pa_cons (pe_op op_add (gcall (good_draw Z) hr (pa_cons (pv 0) (pa_cons pe_int pa_nil)) pass0) (pe_int)) pa_nil))))) pss_nil)
      (pss_cons (ps_set (i := 2) sc_number.nd rfl (by first | exact Or.inl rfl | exact Or.inr rfl) (pe_op op_sub (pe_int) (pe_op op_mulW (pe_int) (gcall (good_draw Z) hr (pa_cons (pv 0) (pa_cons pe_int pa_nil)) pass0))))
      (pss_one (ps_ret (pe_tupN (pa_cons (pe_op op_mulW (pv 2) (gcall (good_draw Z) hr (pa_cons (pv 0) (pa_cons (pe_op op_pow (pe_int) (pe_int)) pa_nil)) pass0)) (pa_cons (pe_op op_add (gcall (good_draw Z) hr (pa_cons (pv 0) (pa_cons (pe_op op_pow (pe_int) (pe_int)) pa_nil)) pass0) (pe_int)) pa_nil)))))))))), ?_⟩
    refine ⟨_, rfl, p, x0, y0, 8, rfl, hp0, hx0, by omega, by omega, by decide, by decide, fun r1 x1 y1 H1 ra1 rb1 hx1 hy1 hz1 k1 hp1 => ?_⟩
    refine ⟨_, rfl, rfl, _, rfl, ite2 (fun h1 => ?_) (fun h1 => ?_)⟩
    · refine ⟨rfl, fun c H' hs hc hn => ?_⟩
      exact q c 0 1 x1 y1 H' (by decide) (by decide) (by decide) hx1 (by omega) (by omega) (fun d hd o z => hs _ _ (by rw [k1 d hd]; exact z)) (hs _ _ hp1) hc
    refine ⟨_, rfl, _, _, rfl, rfl, _, rfl, ite2 (fun h2 => ?_) (fun h2 => ?_)⟩
    · refine ⟨_, rfl, p, x1, y1, 7, rfl, hp1, hx1, by omega, by omega, by decide, by decide, fun r2 x2 y2 H2 ra2 rb2 hx2 hy2 hz2 k2 hp2 => ?_⟩
      refine ⟨_, _, rfl, rfl, rfl, fun c H' hs hc hn => ?_⟩
      exact q c _ 1 x2 y2 H' (by omega) (by decide) (by decide) hx2 (by omega) (by omega) (fun d hd o z => hs _ _ (by rw [k2 d hd]; rw [k1 d hd]; exact z)) (hs _ _ hp2) hc
    refine ⟨_, rfl, _, _, rfl, rfl, _, rfl, ite2 (fun h3 => ?_) (fun h3 => ?_)⟩
    · refine ⟨_, rfl, p, x1, y1, 19, rfl, hp1, hx1, by omega, by omega, by decide, by decide, fun r2 x2 y2 H2 ra2 rb2 hx2 hy2 hz2 k2 hp2 => ?_⟩
      refine ⟨_, _, rfl, rfl, _, rfl, p, x2, y2, 5, rfl, hp2, hx2, by omega, by omega, by decide, by decide, fun r3 x3 y3 H3 ra3 rb3 hx3 hy3 hz3 k3 hp3 => ?_⟩
      refine ⟨_, _, rfl, rfl, rfl, fun c H' hs hc hn => ?_⟩
      exact q c _ _ x3 y3 H' (by omega) (by omega) (by omega) hx3 (by omega) (by omega) (fun d hd o z => hs _ _ (by rw [k3 d hd]; rw [k2 d hd]; rw [k1 d hd]; exact z)) (hs _ _ hp3) hc
    refine ⟨_, rfl, p, x1, y1, 2, rfl, hp1, hx1, by omega, by omega, by decide, by decide, fun r2 x2 y2 H2 ra2 rb2 hx2 hy2 hz2 k2 hp2 => ?_⟩
    refine ⟨_, _, rfl, rfl, mulW (B := 100) (by decide) (by omega) (by decide) (by decide), _, _, rfl, rfl, ?_⟩
    refine ⟨_, rfl, _, rfl, _, _, rfl, rfl, ⟨by decide, by decide, by decide⟩, p, x2, y2, _, rfl, hp2, hx2, by omega, by omega, by decide, by decide, fun r3 x3 y3 H3 ra3 rb3 hx3 hy3 hz3 k3 hp3 => ?_⟩
    have rb3 : r3 < 10 ^ 20 := rb3
    refine ⟨_, _, rfl, rfl, ?_, _, rfl, _, _, rfl, rfl, ⟨by decide, by decide, by decide⟩, p, x3, y3, _, rfl, hp3, hx3, by omega, by omega, by decide, by decide, fun r4 x4 y4 H4 ra4 rb4 hx4 hy4 hz4 k4 hp4 => ?_⟩
    · have hr3 : r3.natAbs < 2 ^ 100 := by
        have : (10 : Int) ^ 20 = 100000000000000000000 := by decide
        omega
      exact mulW (B := 100) (by omega) hr3 (by decide) (by decide)
    have rb4 : r4 < 10 ^ 6 := rb4
    refine ⟨_, _, rfl, rfl, rfl, fun c H' hs hc hn => ?_⟩
    refine q c _ _ x4 y4 H' ?_ (by omega) (by omega) hx4 (by omega) (by omega) (fun d hd o z => hs _ _ (by rw [k4 d hd]; rw [k3 d hd]; rw [k2 d hd]; rw [k1 d hd]; exact z)) (hs _ _ hp4) hc
    rcases (by omega : r2 = 0 ∨ r2 = 1) with rfl | rfl
    · show ((1 - 2 * 0) * r3).natAbs < _
      omega
    · show ((1 - 2 * 1) * r3).natAbs < _
      omega

theorem good_number (Z : CT K mg) : GoodF (CX0) P w K mg base 2 "_law_number" ["_law_pouch_here"] (spNumber) := Z.good 57 24 d_number (fun _ _ _ _ _ _ us hl => match us, hl with | [_], _ => rfl) fun _ F => ok_number Z F
/-- a pair as a number: an integer where its bottom is 1 -/
def spMake (K : PySem.W.Frag) : Sp := fun vs H Q _ => ∃ (c : Addr) (t b : Int), vs = [.ref c] ∧ H c = some (.tup [.int t, .int b]) ∧ 1 ≤ b ∧ b.natAbs < 2 ^ 8000 ∧ ∀ v H', Same H H' → Num K H' v (nrm t b) → Q v H'
theorem ok_make (Z : CT K mg) (F : FunD K d_make.name d_make.qual d_make.params d_make.body d_make.scope [] [] f fd) : FnOk P w K mg base (CX0) 5 f fd ["_law_pair"] (spMake K) := by
  refine F.ok sc_make (fun vs H Q E h => ?_) (fun cdv A outer s H vs Q E hr h => ?_)
  · obtain ⟨c, t, b, rfl, _⟩ := h
    rfl
  · obtain ⟨c, t, b, rfl, hc, h0, h1, q⟩ := h
    refine ⟨_, (pss_cons (ps_if (pt_cmpR op_eq (pe_ix ix_tup (pv 0) pe_int (fun _ _ => rfl)) (pe_int) (nomark _)) (pss_one (ps_ret (pe_ix ix_tup (pv 0) pe_int (fun _ _ => rfl)))) pss_nil)
      (pss_one (ps_ret (mkR2 Z hr (pa_cons (pe_ix ix_tup (pv 0) pe_int (fun _ _ => rfl)) (pa_cons (pe_ix ix_tup (pv 0) pe_int (fun _ _ => rfl)) pa_nil)) passN)))), ?_⟩
    refine ⟨_, rfl, c, _, 1, _, rfl, rfl, SqT.of hc, rfl, rfl, _, rfl, ite2 (fun h2 => ?_) (fun h2 => ?_)⟩
    · have h2 := of_decide_eq_true h2
      injection h2 with h2
      subst h2
      refine ⟨_, rfl, c, _, 0, _, rfl, rfl, SqT.of hc, rfl, q _ H (Same.refl H) ?_⟩
      rw [nrm_one]; exact .int t
    · refine ⟨_, rfl, c, _, 0, _, rfl, rfl, SqT.of hc, rfl, _, rfl, c, _, 1, _, rfl, rfl, SqT.of hc, rfl, _, _, rfl, ?_⟩
      exact askR_ok (by omega) h1 fun r H' s1 hr1 => q _ H' s1 (.rat hr1)

theorem good_make (Z : CT K mg) : GoodF (CX0) P w K mg base 5 "_law_make" ["_law_pair"] (spMake K) := Z.good 58 25 d_make (fun _ _ _ _ _ _ us hl => match us, hl with | [_], _ => rfl) fun _ F => ok_make Z F
end
end My

namespace My
open PySem PySem.Spec PyProof.Rows L2 PySem.Calls
end My

namespace My
open PySem PySem.Spec PyProof.Rows L2 PySem.Calls

/-! ### names -/
def LET : Str := "abcdefghijklmnopqrstuvwxyz"
def DIG : Str := "0123456789"
def LDS : Str := "abcdefghijklmnopqrstuvwxyz0123456789"
theorem lds_eq : LET ++ DIG = LDS := by decide +kernel
structure NmOk (z : Str) : Prop where
  lo : 1 ≤ z.length
  hi : z.length ≤ 8
  fst : ∃ c, z.cps[0]? = some c ∧ c ∈ LET.cps.toList
  all : ∀ (i : Nat) (c : Nat), z.cps[i]? = some c → c ∈ LDS.cps.toList
theorem len_append (a b : Str) : (a ++ b).length = a.length + b.length := by
  show (a.cps ++ b.cps).size = _
  rw [Array.size_append]; rfl
theorem cps_append (a b : Str) : (a ++ b).cps = a.cps ++ b.cps := rfl
theorem let_sub : ∀ c ∈ LET.cps.toList, c ∈ LDS.cps.toList := by decide +kernel
theorem lds_at {i : Nat} (h : i < 36) : ∃ c, LDS.cps[i]? = some c ∧ c ∈ LDS.cps.toList ∧ (i < 26 → c ∈ LET.cps.toList) := by
  have sz : LDS.cps.size = 36 := by decide +kernel
  have all : ∀ i : Fin 36, LDS.cps.getD i.val 0 ∈ LDS.cps.toList ∧ (i.val < 26 → LDS.cps.getD i.val 0 ∈ LET.cps.toList) := by decide +kernel
  have z := all ⟨i, h⟩
  refine ⟨LDS.cps.getD i 0, ?_, z⟩
  have hi : i < LDS.cps.size := by rw [sz]; exact h
  rw [Array.getElem?_eq_getElem hi]
  show some _ = some (if h : i < LDS.cps.size then _ else _)
  rw [dif_pos hi]; rfl
theorem nm_one {c : Nat} (h : c ∈ LET.cps.toList) : NmOk ⟨#[c]⟩ := ⟨by show 1 ≤ 1; decide, by show 1 ≤ 8; decide, ⟨c, rfl, h⟩, fun i d e => by
  rcases i with _ | i
  · obtain rfl : c = d := by simpa using e
    exact let_sub _ h
  · simp at e⟩
theorem nm_snoc {z : Str} {c : Nat} (h : NmOk z) (hl : z.length < 8) (hc : c ∈ LDS.cps.toList) : NmOk (z ++ ⟨#[c]⟩) := by
  have hz : 0 < z.cps.size := h.lo
  refine ⟨by rw [len_append]; have := h.lo; omega, by rw [len_append]; show z.length + 1 ≤ 8; omega, ?_, fun i d e => ?_⟩
  · obtain ⟨a, e, k⟩ := h.fst
    refine ⟨a, ?_, k⟩
    rw [cps_append, Array.getElem?_append_left hz]; exact e
  · rw [cps_append] at e
    by_cases hi : i < z.cps.size
    · rw [Array.getElem?_append_left hi] at e
      exact h.all i d e
    · rw [Array.getElem?_append_right (by omega)] at e
      rcases hj : i - z.cps.size with _ | j
      · rw [hj] at e
        obtain rfl : c = d := by simpa using e
        exact hc
      · rw [hj] at e; simp at e
theorem inV_strs (z : Str) (zs : List Str) : inV (.str z) (zs.map V.str) = decide (z ∈ zs) := by
  unfold inV
  induction zs with
  | nil => rfl
  | cons a zs ih =>
    rw [List.map_cons, List.any_cons, ih]
    show ((a == z) || decide (z ∈ zs)) = decide (z ∈ a :: zs)
    by_cases h : a = z
    · subst h; simp
    · have h2 : ¬ z = a := fun e => h e.symm
      have h3 : (a == z) = false := beq_eq_false_iff_ne.mpr h
      rw [h3, Bool.false_or]
      exact decide_eq_decide.mpr ⟨fun q => .tail _ q, fun q => by cases q with | head => exact absurd rfl h | tail _ q => exact q⟩
theorem flat_strs (zs : List Str) : (zs.map V.str).all flatV = true := by
  rw [List.all_map, List.all_eq_true]; intro _ _; rfl
/-- x0, x1, .. -/
def xk (k : Nat) : Str := ("x" : Str) ++ (toString (k : Int) : Str)
theorem xk_ok : ∀ k : Fin 9, NmOk (xk k.val) := by
  have z : ∀ k : Fin 9, (xk k.val).cps = #[120, 48 + k.val] := by decide +kernel
  intro k
  have e : xk k.val = ⟨#[120, 48 + k.val]⟩ := by rw [← z k]
  have d : ∀ k : Fin 9, 48 + k.val ∈ LDS.cps.toList := by decide +kernel
  have l : (⟨#[120, 48 + k.val]⟩ : Str) = ⟨#[120]⟩ ++ ⟨#[48 + k.val]⟩ := rfl
  rw [e, l]
  exact nm_snoc (nm_one (by decide +kernel)) (by show 1 < 8; decide) (d k)
theorem xk_inj {i j : Nat} (hi : i < 9) (hj : j < 9) (e : xk i = xk j) : i = j := by
  have z : ∀ k : Fin 9, (xk k.val).cps = #[120, 48 + k.val] := by decide +kernel
  have h : (xk i).cps = (xk j).cps := by rw [e]
  rw [z ⟨i, hi⟩, z ⟨j, hj⟩] at h
  have h2 : #[120, 48 + i] = #[120, 48 + j] := h
  have h3 := congrArg (fun a : Array Nat => a[1]?) h2
  have h4 : some (48 + i) = some (48 + j) := h3
  have := Option.some.inj h4
  omega
theorem pigeon : ∀ (zs : List Str) (n : Nat), n ≤ 9 → (∀ k, k < n → xk k ∈ zs) → n ≤ zs.length := by
  have gen : ∀ (n : Nat), n ≤ 9 → ∀ (zs : List Str), (∀ k, k < n → xk k ∈ zs) → n ≤ zs.length := by
    intro n
    induction n with
    | zero => intro _ zs _; exact Nat.zero_le _
    | succ n ih =>
      intro hn zs h
      have hm := h n (Nat.lt_succ_self n)
      have h2 := ih (by omega) (zs.erase (xk n)) fun k hk => (List.mem_erase_of_ne fun e => by have := xk_inj (by omega) (by omega) e; omega).mpr (h k (by omega))
      rw [List.length_erase_of_mem hm] at h2
      have : 0 < zs.length := List.length_pos_of_mem hm
      omega
  exact fun zs n hn h => gen n hn zs h
section
variable {P : Program} {w : World} {K : PySem.W.Frag} {mg : Str → Option Value} {base : Heap} {fd : FuncData} {f : Addr}
def spIsName : Sp := fun vs H Q _ => ∃ z, vs = [.str z] ∧ NmOk z ∧ ∀ H', Same H H' → Q (.bl true) H'
theorem ok_is_name (Z : CT K mg) (F : FunD K d_is_name.name d_is_name.qual d_is_name.params d_is_name.body d_is_name.scope [] [] f fd) : FnOk P w K mg base (CX0) 1 f fd ["value"] (spIsName) := by
  refine F.ok sc_is_name (fun vs H Q E h => ?_) (fun cdv A outer s H vs Q E hr h => ?_)
  · obtain ⟨z, rfl, _⟩ := h
    rfl
  · obtain ⟨z, rfl, hz, q⟩ := h
    refine ⟨_, (pss_cons (ps_if (PW.pt (pw_or (pt_not (pt_val (pe_callB call_isi (by rfl) (m_isinstance Z) boot_isinstance (pa_cons (pv 0) (pa_cons (pe_bltn (by rfl) (m_str Z) boot_str (rel_ty _)) pa_nil))) (fun _ => rfl))) (pw_or1 (pt_not (pt_chain op_le op_le (pe_int) (pe_callB call_len_str (by rfl) (m_len Z) PySem.boot_len (pa_cons (pv 0) pa_nil)) (con_LONGEST_NAME Z)))))) (pss_one (ps_ret pe_bl)) pss_nil)
      (pss_one (ps_ret ((pe_and (pe_cmpR op_in_sign (pe_item_str (pv 0) pe_int (fun _ _ => rfl)) (con_LETTERS Z) (by rfl)) (pe_one (pe_callB (cr_all rfl) (by rfl) (m_all Z) boot_all (pa_cons (pe_lc (own := [("char", 1)]) (g := gName 1) (by rfl) sc_is_name.nd (pi_str (pv 0)) (blkOk_by (own := [("char", 1)]) (N := ["value", "char"]) (sc := defScope s_is_name) (by decide +kernel)) (fun _ _ _ _ _ => pg_name (i := 1) sc_is_name.nd rfl (Or.inl rfl)) (fun _ _ _ _ _ => pts_nil) (fun _ _ _ _ _ => pe_cmpR op_in_sign (pv 1) (pe_op op_add_str (con_LETTERS Z) (con_DIGITS Z)) (by rfl))) pa_nil)))))))), ?_⟩
    obtain ⟨c0, e0, m0⟩ := hz.fst
    have h1 := hz.lo
    have h2 := hz.hi
    refine ⟨_, rfl, _, _, _, _, true, rfl, .ty _, .base (.str z), kit_ty (by decide +kernel), true, rfl, ?_⟩
    refine ⟨_, rfl, z, rfl, by unfold sizeLine; omega, _, _, rfl, rfl, _, rfl, ?_⟩
    rw [show decide ((1 : Int) ≤ (z.length : Int)) = true from decide_eq_true (by omega)]
    refine ⟨_, _, rfl, rfl, _, rfl, ?_⟩
    rw [show decide ((z.length : Int) ≤ 8) = true from decide_eq_true (by omega)]
    refine ⟨_, rfl, z, 0, c0, rfl, rfl, by decide, by decide, by omega, e0, c0, _, rfl, rfl, ?_⟩
    refine ⟨_, rfl, ?_⟩
    rw [show decide (c0 ∈ (("abcdefghijklmnopqrstuvwxyz" : Str)).cps.toList) = true from decide_eq_true m0]
    refine ⟨_, rfl, z, rfl, ?_⟩
    intro D hD
    refine comp hD (n := z.cps.size) (G := fun _ => True) walk_str (fun j y H' => y = .bl true) (fun _ _ _ _ h _ => h) (by have : z.cps.size = z.length := rfl; omega) (fun _ _ => trivial) ?_ ?_
    · rintro i x H1 H2 R hi s1 ⟨rfl, c, ec, rfl⟩ k
      refine ⟨rfl, ?_⟩
      refine ⟨_, rfl, _, _, rfl, rfl, by decide +kernel, c, _, rfl, rfl, ?_⟩
      refine k _ _ (Same.refl _) ?_
      congr 1
      exact decide_eq_true (by show c ∈ (LET ++ DIG).cps.toList; rw [lds_eq]; exact hz.all i c ec)
    · intro acc H1 s1 hacc hl hall
      refine ⟨D, List.replicate acc.length true, rfl, SqL.of (by
        rw [hacc]; congr 2
        rw [List.map_replicate]
        exact List.eq_replicate_iff.mpr ⟨rfl, fun y hy => by obtain ⟨j, hj, e⟩ := List.mem_iff_getElem.mp hy; exact hall j y (by rw [List.getElem?_eq_getElem hj, e])⟩), ?_⟩
      rw [show (List.replicate acc.length true).all id = true by rw [List.all_eq_true]; intro y hy; exact (List.eq_of_mem_replicate hy)]
      exact q _ s1

theorem good_is_name (Z : CT K mg) : GoodF (CX0) P w K mg base 1 "is_name" ["value"] (spIsName) := Z.good 11 8 d_is_name (fun _ _ _ _ _ _ us hl => match us, hl with | [_], _ => rfl) fun _ F => ok_is_name Z F
end
end My

namespace My
open PySem PySem.Spec PyProof.Rows L2 PySem.Calls

section
variable {P : Program} {w : World} {K : PySem.W.Frag} {mg : Str → Option Value} {base : Heap} {fd : FuncData} {f : Addr}
theorem strs_ne {H : Hp} {a p : Addr} {zs : List Str} {x y : Int} (ha : H a = some (.lst (zs.map V.str))) (hp : H p = some (.lst [.int x, .int y])) : a ≠ p := fun e => by
  subst e
  rw [ha] at hp
  injection hp with hp
  injection hp with hp
  cases zs with
  | nil => cases hp
  | cons z zs => injection hp with h1 _; cases h1
/-- a name that is not taken -/
def spName : Sp := fun vs H Q _ => ∃ (p a : Addr) (x y : Int) (zs : List Str), vs = [.ref p, .ref a] ∧ H p = some (.lst [.int x, .int y]) ∧ H a = some (.lst (zs.map V.str)) ∧ zs.length ≤ 8 ∧ 0 ≤ x ∧ 0 ≤ y ∧ y < 900000 ∧
  ∀ (z : Str) (x' y' : Int) (H' : Hp), NmOk z → z ∉ zs → 0 ≤ x' → y ≤ y' → y' ≤ y + 1300 → (∀ d, d ≠ p → H' d = H d) → H' p = some (.lst [.int x', .int y']) → Q (.str z) H'
theorem ok_name (Z : CT K mg) (F : FunD K d_name.name d_name.qual d_name.params d_name.body d_name.scope [] [] f fd) : FnOk P w K mg base (CX0) 2 f fd ["_law_pouch_here", "_law_taken"] (spName) := by
  refine F.ok sc_name (fun vs H Q E h => ?_) (fun cdv A outer s H vs Q E hr h => ?_)
  · obtain ⟨p, a, x, y, zs, rfl, _⟩ := h
    rfl
  · obtain ⟨p, a, x0, y0, zs, rfl, hp0, ha, hzs, hx0, hy0, hm, q⟩ := h
    refine ⟨_, PSs.nox (pss_cons (ps_set (i := 2) sc_name.nd rfl (by first | exact Or.inl rfl | exact Or.inr rfl) (pe_str))
      (pss_cons (ps_set (i := 3) sc_name.nd rfl (by first | exact Or.inl rfl | exact Or.inr rfl) (gcall (good_draw Z) hr (pa_cons (pv 0) (pa_cons pe_int pa_nil)) pass0))
      (pss_cons (ps_set (i := 4) sc_name.nd rfl (by first | exact Or.inl rfl | exact Or.inr rfl) (pe_item_str (pv 2) (gcall (good_draw Z) hr (pa_cons (pv 0) (pa_cons pe_int pa_nil)) pass0) (fun _ _ => rfl)))
      (pss_cons (ps_for PassesOwn.never rfl (pi_range1 rfl (m_range Z) (pa_cons (pv 3) pa_nil)) (pg_name (i := 5) sc_name.nd rfl (Or.inl rfl)) (pss_one (ps_if (pt_cmpR op_lt (pv 5) (pe_int) (nomark _)) (pss_one (ps_set (i := 4) sc_name.nd rfl (by first | exact Or.inl rfl | exact Or.inr rfl) (pe_op op_add_str (pv 4) (pe_item_str (pv 2) (gcall (good_draw Z) hr (pa_cons (pv 0) (pa_cons pe_int pa_nil)) pass0) (fun _ _ => rfl))))) pss_nil)))
      (pss_cons (ps_if (pt_cmpR op_notIn_seq (pv 4) (pv 1) (by rfl)) (pss_one (ps_ret (pv 4))) pss_nil)
      (pss_cons (ps_for PassesOwn.never rfl (pi_range1 rfl (m_range Z) (pa_cons (pe_op op_add (pe_callB call_lenL (by rfl) (m_len Z) PySem.boot_len (pa_cons (pv 1) pa_nil)) (pe_int)) pa_nil)) (pg_name (i := 5) sc_name.nd rfl (Or.inl rfl)) (pss_one (ps_if (pt_cmpR op_notIn_seq (pe_op op_add_str (pe_str) (pe_callTy call_str_int (by rfl) (m_str Z) boot_str (pa_cons (pv 5) pa_nil))) (pv 1) (by rfl)) (pss_one (ps_ret (pe_op op_add_str (pe_str) (pe_callTy call_str_int (by rfl) (m_str Z) boot_str (pa_cons (pv 5) pa_nil))))) pss_nil)))
      (pss_one (ps_ret (pv 4))))))))), ?_⟩
    have na := strs_ne ha hp0
    refine ⟨_, rfl, p, x0, y0, 8, rfl, hp0, hx0, by omega, by omega, by decide, by decide, fun r1 x1 y1 H1 ra1 rb1 hx1 hy1 hz1 k1 hp1 => ?_⟩
    refine ⟨_, rfl, _, rfl, p, x1, y1, 26, rfl, hp1, hx1, by omega, by omega, by decide, by decide, fun r2 x2 y2 H2 ra2 rb2 hx2 hy2 hz2 k2 hp2 => ?_⟩
    obtain ⟨c0, e0, _, m0⟩ := lds_at (i := r2.toNat) (by omega)
    refine ⟨LDS, r2, c0, rfl, rfl, ra2, by omega, by show r2 < (36 : Int); omega, e0, ?_⟩
    have z0 := nm_one (m0 (by omega))
    refine ⟨_, rfl, r1, rfl, by omega, by omega, ?_⟩
    refine for_range (lo := 0) (n := r1.toNat) (fun i σ H3 => ∃ (z : Str) (u : Option V) (x3 y3 : Int), σ = [some (.ref p), some (.ref a), some (.str LDS), some (.int r1), some (.str z), u] ∧ NmOk z ∧ z.length ≤ i + 1 ∧ (∀ d, d ≠ p → H3 d = H d) ∧ H3 p = some (.lst [.int x3, .int y3]) ∧ 0 ≤ x3 ∧ y0 ≤ y3 ∧ y3 ≤ y0 + 256 + 128 * i) ⟨_, _, x2, y2, rfl, z0, Nat.le_refl _, fun d hd => by rw [k2 d hd, k1 d hd], hp2, hx2, by omega, by omega⟩ ?_ ?_
    · rintro i σ H3 hi ⟨z, u, x3, y3, rfl, hz, hl, kk, hp3, hx3, hy3, hz3⟩
      refine ⟨_, rfl, _, _, rfl, rfl, _, rfl, ite2 (fun _ => ?_) (fun h => absurd (decide_eq_true (by omega)) h)⟩
      refine ⟨_, rfl, _, rfl, _, rfl, p, x3, y3, 36, rfl, hp3, hx3, by omega, by omega, by decide, by decide, fun r4 x4 y4 H4 ra4 rb4 hx4 hy4 hz4 k4 hp4 => ?_⟩
      obtain ⟨c, ec, mc, _⟩ := lds_at (i := r4.toNat) (by omega)
      refine ⟨LDS, r4, c, rfl, rfl, ra4, by omega, by show r4 < (36 : Int); omega, ec, ?_⟩
      have h8 := hz.hi
      refine ⟨_, _, rfl, rfl, by show z.length + 1 ≤ sizeLine; unfold sizeLine; omega, ?_⟩
      refine ⟨z ++ ⟨#[c]⟩, _, x4, y4, rfl, nm_snoc hz (by omega) mc, by rw [len_append]; show z.length + 1 ≤ i + 1 + 1; omega, fun d hd => by rw [k4 d hd, kk d hd], hp4, hx4, by omega, by omega⟩
    rintro σ H3 ⟨z, u, x3, y3, rfl, hz, hl, kk, hp3, hx3, hy3, hz3⟩
    have ha3 : H3 a = some (.lst (zs.map V.str)) := by rw [kk a na]; exact ha
    refine ⟨_, rfl, _, rfl, a, _, rfl, .inl (SqL.of ha3), rfl, flat_strs zs, _, rfl, ?_⟩
    show if (!inV (.str z) (zs.map V.str)) = true then _ else _
    rw [inV_strs]
    by_cases hin : z ∈ zs
    · rw [decide_eq_true hin]
      refine iteF ?_
      refine ⟨_, rfl, a, _, rfl, SqL.of ha3, _, _, rfl, rfl, _, rfl, by simp; omega, by simp; omega, ?_⟩
      have en : (((zs.map V.str).length : Int) + 1).toNat = zs.length + 1 := by rw [List.length_map]; omega
      rw [en]
      refine for_range (lo := 0) (n := zs.length + 1) (fun i σ H4 => H4 = H3 ∧ (∃ u : Option V, σ = [some (.ref p), some (.ref a), some (.str LDS), some (.int r1), some (.str z), u]) ∧ ∀ j, j < i → xk j ∈ zs) ⟨rfl, ⟨_, rfl⟩, fun j hj => absurd hj (Nat.not_lt_zero _)⟩ ?_ ?_
      · rintro i σ H4 hi ⟨rfl, ⟨u, rfl⟩, hj⟩
        have l2 : (0 + (i : Int)).natAbs.log2 < 1920 := by
          refine Nat.lt_of_lt_of_le (PySem.Flt.log2_lt_of (k := 10) (by decide) ?_) (by decide)
          have : (0 + (i : Int)).natAbs = i := by omega
          rw [this]; omega
        have ex : (("x" : Str) ++ (toString (0 + (i : Int)) : Str)) = xk i := by rw [Int.zero_add]; rfl
        have hk := xk_ok ⟨i, by omega⟩
        have ln : ("x" : Str).length + ((toString (0 + (i : Int)) : Str)).length ≤ sizeLine := by
          rw [← len_append, ex]
          have : (xk i).length ≤ 8 := hk.hi
          unfold sizeLine; omega
        refine ⟨_, rfl, _, rfl, l2, _, _, rfl, rfl, ln, _, rfl, a, _, rfl, .inl (SqL.of ha3), rfl, flat_strs zs, _, rfl, ?_⟩
        show if (!inV (.str (("x" : Str) ++ (toString (0 + (i : Int)) : Str))) (zs.map V.str)) = true then _ else _
        rw [ex, inV_strs]
        by_cases hk2 : xk i ∈ zs
        · rw [decide_eq_true hk2]
          refine iteF ⟨rfl, ⟨_, rfl⟩, fun j h => ?_⟩
          rcases Nat.lt_succ_iff_lt_or_eq.mp h with h | h
          · exact hj j h
          · rw [h]; exact hk2
        · rw [decide_eq_false hk2]
          refine iteT ⟨_, rfl, _, rfl, l2, _, _, rfl, rfl, ln, ?_⟩
          show Q (.str (("x" : Str) ++ (toString (0 + (i : Int)) : Str))) H4
          rw [ex]
          exact q _ x3 y3 H4 hk hk2 hx3 (by omega) (by omega) kk hp3
      · rintro σ H4 ⟨rfl, ⟨u, rfl⟩, hj⟩
        have := pigeon zs (zs.length + 1) (by omega) hj
        omega
    · rw [decide_eq_false hin]
      exact iteT ⟨_, rfl, q z x3 y3 H3 hz hin hx3 (by omega) (by omega) kk hp3⟩

theorem good_name (Z : CT K mg) : GoodF (CX0) P w K mg base 2 "_law_name" ["_law_pouch_here", "_law_taken"] (spName) := Z.good 59 26 d_name (fun _ _ _ _ _ _ us hl => match us, hl with | [_, _], _ => rfl) fun _ F => ok_name Z F
/-- names for effects -/
def spEffects : Sp := fun vs H Q _ => ∃ (p : Addr) (x y m : Int), vs = [.ref p, .int m] ∧ H p = some (.lst [.int x, .int y]) ∧ 0 ≤ x ∧ 0 ≤ y ∧ y < 800000 ∧ 0 ≤ m ∧ m ≤ 8 ∧
  ∀ (l : Addr) (zs : List Str) (x' y' : Int) (H' : Hp), (zs.length : Int) = m → zs.Nodup → (∀ z ∈ zs, NmOk z) → (∀ d, d ≠ p → ∀ o, H d = some o → H' d = some o) → H l = none → H' l = some (.lst (zs.map V.str)) → H' p = some (.lst [.int x', .int y']) → 0 ≤ x' → y ≤ y' → y' ≤ y + 1300 * m → Q (.ref l) H'
theorem ok_Leffects (Z : CT K mg) (F : FunD K d_Leffects.name d_Leffects.qual d_Leffects.params d_Leffects.body d_Leffects.scope [] [] f fd) : FnOk P w K mg base (CX0) 3 f fd ["_law_pouch_here", "_law_many"] (spEffects) := by
  refine F.ok sc_Leffects (fun vs H Q E h => ?_) (fun cdv A outer s H vs Q E hr h => ?_)
  · obtain ⟨p, x, y, m, rfl, _⟩ := h
    rfl
  · obtain ⟨p, x0, y0, m, rfl, hp0, hx0, hy0, hm, hm1, hm2, q⟩ := h
    refine ⟨_, PSs.nox (pss_cons (ps_set (i := 2) sc_Leffects.nd rfl (by first | exact Or.inl rfl | exact Or.inr rfl) (pe_lstN pa_nil))
      (pss_cons (ps_for PassesOwn.never rfl (pi_range1 rfl (m_range Z) (pa_cons (pv 1) pa_nil)) (pg_name (i := 3) sc_Leffects.nd rfl (Or.inl rfl)) (pss_one (ps_expr (pe_bm PySem.F.plainAttrs_list PySem.F.slot_list_append PySem.F.type_list_append mt_append (pv 2) (pa_cons (gcall (good_name Z) hr (pa_cons (pv 0) (pa_cons (pv 2) pa_nil)) pass0) pa_nil)))))
      (pss_one (ps_ret (pv 2))))), ?_⟩
    refine ⟨rfl, fun l H1 s1 hl n1 => ?_⟩
    refine ⟨_, rfl, m, rfl, by omega, by omega, ?_⟩
    have np : ∀ d, d ≠ p → ∀ o, H d = some o → H1 d = some o := fun d _ o z => s1 d o z
    refine for_range (lo := 0) (n := m.toNat) (fun i σ H2 => ∃ (zs : List Str) (u : Option V) (x2 y2 : Int), σ = [some (.ref p), some (.int m), some (.ref l), u] ∧ zs.length = i ∧ zs.Nodup ∧ (∀ z ∈ zs, NmOk z) ∧ (∀ d, d ≠ p → ∀ o, H d = some o → H2 d = some o) ∧ H2 l = some (.lst (zs.map V.str)) ∧ H2 p = some (.lst [.int x2, .int y2]) ∧ 0 ≤ x2 ∧ y0 ≤ y2 ∧ y2 ≤ y0 + 1300 * i) ⟨[], _, x0, y0, rfl, rfl, List.nodup_nil, fun z hz => absurd hz (List.not_mem_nil), np, hl, s1 _ _ hp0, hx0, by omega, by omega⟩ ?_ ?_
    · rintro i σ H2 hi ⟨zs, u, x2, y2, rfl, e, nd, hn, kk, hl2, hp2, hx2, hy2, hz2⟩
      refine ⟨_, rfl, .inl ⟨rfl, _, SqL.of hl2⟩, _, rfl, _, rfl, p, l, x2, y2, zs, rfl, hp2, hl2, by omega, hx2, by omega, by omega, fun z x3 y3 H3 hz hnz hx3 hy3 hz3 k3 hp3 => ?_⟩
      have nl := strs_ne hl2 hp2
      have hl3 : H3 l = some (.lst (zs.map V.str)) := by rw [k3 l nl]; exact hl2
      refine ⟨l, _, _, rfl, rfl, hl3, by rw [List.length_map]; unfold sizeLine; omega, ?_⟩
      refine ⟨zs ++ [z], _, x3, y3, rfl, by rw [List.length_append, e]; rfl, ?_, ?_, fun d hd o h => ?_, ?_, ?_, hx3, by omega, by omega⟩
      · rw [List.nodup_append]
        exact ⟨nd, by simp, fun a ha b hb => by rw [List.mem_singleton] at hb; subst hb; exact fun e => hnz (e ▸ ha)⟩
      · intro y hy
        rcases List.mem_append.mp hy with hy | hy
        · exact hn y hy
        · rw [List.mem_singleton] at hy; subst hy; exact hz
      · have hdl : d ≠ l := ne_of_none h n1
        rw [upd_ne hdl, k3 d hd]; exact kk d hd o h
      · rw [List.map_append]; exact upd_same
      · rw [upd_ne (Ne.symm nl)]; exact hp3
    · rintro σ H2 ⟨zs, u, x2, y2, rfl, e, nd, hn, kk, hl2, hp2, hx2, hy2, hz2⟩
      exact ⟨_, rfl, q l zs x2 y2 H2 (by omega) nd hn kk n1 hl2 hp2 hx2 hy2 (by omega)⟩

theorem good_Leffects (Z : CT K mg) : GoodF (CX0) P w K mg base 3 "_law_effects" ["_law_pouch_here", "_law_many"] (spEffects) := Z.good 60 27 d_Leffects (fun _ _ _ _ _ _ us hl => match us, hl with | [_, _], _ => rfl) fun _ F => ok_Leffects Z F
end
end My

namespace My
open PySem PySem.Spec PyProof.Rows L2 PySem.Calls

theorem boot_list : bootBuiltins "list" = some (.type "list") := by decide +kernel
theorem boot_tuple : bootBuiltins "tuple" = some (.type "tuple") := by decide +kernel
/-- a list or a tuple -/
def SqA (H : Hp) (a : Addr) (xs : List V) : Prop := H a = some (.lst xs) ∨ H a = some (.tup xs)
theorem SqA.same {H H' : Hp} {a : Addr} {xs : List V} (h : SqA H a xs) (s : Same H H') : SqA H' a xs := h.elim (fun h => .inl (s _ _ h)) fun h => .inr (s _ _ h)
theorem SqA.seq {K : PySem.W.Frag} {H : Hp} {a : Addr} {xs : List V} (h : SqA H a xs) : SqL K H a xs ∨ SqT K H a xs := h.elim (fun h => .inl (SqL.of h)) fun h => .inr (SqT.of h)
/-- tuple(x) -/
def rTupA : List V → Hp → VK → Prop := fun vs H Q => ∃ a xs, vs = [.ref a] ∧ SqA H a xs ∧ ∀ t H', Same H H' → H' t = some (.tup xs) → Q (.ref t) H'
theorem call_tupA {X : Cx} : CallR X (.type "tuple") rTupA := fun pins s σ H xs us Q I r ⟨a, ys, e, h, q⟩ => call_tuple_of pins s σ H xs us Q I r ⟨a, ys, e, h.elim (fun h => .inl ⟨SqL.of h, fun l hl => q l _ (same_new hl) upd_same⟩) fun h => .inr ⟨SqT.of h, q a H (Same.refl H) h⟩⟩
/-- numbers, by their values -/
def NumsAt (K : PySem.W.Frag) (H : Hp) (xs : List V) (qs : List (Int × Int)) : Prop := xs.length = qs.length ∧ ∀ (i : Nat) (x : V) (q : Int × Int), xs[i]? = some x → qs[i]? = some q → Num K H x q
def RsAt (K : PySem.W.Frag) (H : Hp) (xs : List V) (qs : List (Int × Int)) : Prop := xs.length = qs.length ∧ ∀ (i : Nat) (x : V) (q : Int × Int), xs[i]? = some x → qs[i]? = some q → ∃ r, x = .ref r ∧ RAt K H r q
section
variable {K : PySem.W.Frag} {H H' : Hp} {xs : List V} {qs : List (Int × Int)}
theorem NumsAt.same (h : NumsAt K H xs qs) (s : Same H H') : NumsAt K H' xs qs := ⟨h.1, fun i x q a b => (h.2 i x q a b).same s⟩
theorem RsAt.same (h : RsAt K H xs qs) (s : Same H H') : RsAt K H' xs qs := ⟨h.1, fun i x q a b => let ⟨r, e, z⟩ := h.2 i x q a b; ⟨r, e, z.same s⟩⟩
theorem RsAt.nums (h : RsAt K H xs qs) : NumsAt K H xs qs := ⟨h.1, fun i x q a b => let ⟨r, e, z⟩ := h.2 i x q a b; by rw [e]; exact .rat z⟩
theorem rat_mon {r : Addr} {q : Int × Int} (h : RAt K H r q) (k : KeepN H H') : RAt K H' r q := let ⟨dx, e⟩ := h; ⟨dx, k _ _ (fun _ z => by cases z) e⟩
end
/-- whether a thing is a number -/
inductive NumB (K : PySem.W.Frag) (H : Hp) : V → Bool → Prop
  | num {x : V} {q : Int × Int} (h : Num K H x q) : NumB K H x true
  | bl (b : Bool) : NumB K H (.bl b) false
  | non : NumB K H .non false
  | str (z : Str) : NumB K H (.str z) false
  | lst {a : Addr} {xs : List V} (h : H a = some (.lst xs)) : NumB K H (.ref a) false
  | tup {a : Addr} {xs : List V} (h : H a = some (.tup xs)) : NumB K H (.ref a) false
  | dic {a : Addr} {xs : List (Key × V)} (h : H a = some (.dK xs)) : NumB K H (.ref a) false
  | oth {c : Str} {a dx : Addr} {fs : List (Str × V)} (hc : c ∈ (["Question"] : List Str)) (h : H a = some (.ins (He.ga K c) dx fs)) : NumB K H (.ref a) false
theorem NumB.same {K : PySem.W.Frag} {H H' : Hp} {x : V} {b : Bool} (h : NumB K H x b) (s : Same H H') : NumB K H' x b := by
  cases h with
  | num h => exact .num (h.same s)
  | bl b => exact .bl b
  | non => exact .non
  | str z => exact .str z
  | lst h => exact .lst (s _ _ h)
  | tup h => exact .tup (s _ _ h)
  | dic h => exact .dic (s _ _ h)
  | oth hc h => exact .oth hc (s _ _ h)
theorem NumB.ask {K : PySem.W.Frag} (R : RC K) {H : Hp} {x : V} {b : Bool} (h : NumB K H x b) : ∃ t c, TyX K H x t ∧ PySem.W.kitOne K t (rf K "Ratio") = some c ∧ (c = true → b = true) ∧ (c = false → Kind K H x b) := by
  have ty : ∀ ty ∈ (["int", "bool", "NoneType", "str", "tuple", "list", "dict"] : List String), PySem.W.kitOne K (.type ty) (rf K "Ratio") = some false := fun ty h => of_decide_eq_true (List.all_eq_true.mp R.tR ty h)
  cases h with
  | num h =>
    cases h with
    | int n => exact ⟨_, false, .base (.int n), ty _ (by decide), fun z => (nomatch z), fun _ => .int n⟩
    | rat h => exact ⟨_, true, R.ty h, R.rr, fun _ => rfl, fun z => (nomatch z)⟩
  | bl b => exact ⟨_, false, .base (.bl b), ty _ (by decide), fun z => (nomatch z), fun _ => .bl b⟩
  | non => exact ⟨_, false, .base .non, ty _ (by decide), fun z => (nomatch z), fun _ => .non⟩
  | str z => exact ⟨_, false, .base (.str z), ty _ (by decide), fun z => (nomatch z), fun _ => .str z⟩
  | lst h => exact ⟨_, false, .base (.lst h), ty _ (by decide), fun z => (nomatch z), fun _ => .lst h⟩
  | tup h => exact ⟨_, false, .base (.tup h), ty _ (by decide), fun z => (nomatch z), fun _ => .tup h⟩
  | dic h => exact ⟨_, false, .base (.dK h), ty _ (by decide), fun z => (nomatch z), fun _ => .dic h⟩
  | oth hc h => exact ⟨_, false, (R.o _ hc).1.ty h, (R.o _ hc).2, fun z => (nomatch z), fun _ => .oth hc h⟩
section
variable {P : Program} {w : World} {K : PySem.W.Frag} {mg : Str → Option Value} {base : Heap} {fd : FuncData} {f : Addr}
def spIsNumberB (K : PySem.W.Frag) : Sp := fun vs H Q _ => ∃ x b, vs = [x] ∧ NumB K H x b ∧ Q (.bl b) H
theorem ok_is_numberB (Z : CT K mg) (F : FunD K d_is_number.name d_is_number.qual d_is_number.params d_is_number.body d_is_number.scope [] [] f fd) : FnOk P w K mg base (CX0) 2 f fd ["value"] (spIsNumberB K) := by
  refine F.ok sc_is_number (fun vs H Q E h => ?_) (fun cdv A outer s H vs Q E hr h => ?_)
  · obtain ⟨x, b, rfl, _⟩ := h
    rfl
  · obtain ⟨x, b, rfl, hn, k⟩ := h
    obtain ⟨t, c, ty, kt, h1, h0⟩ := hn.ask (rc Z)
    refine ⟨_, (pss_one (ps_ret ((pe_or (pe_callB call_isi (by rfl) (m_isinstance Z) boot_isinstance (pa_cons (pv 0) (pa_cons (pe_glob (by rfl) (glo_Ratio Z) (rel_ref _)) pa_nil))) (pe_one (gcall (good_is_integer Z) hr (pa_cons (pv 0) pa_nil) pass0)))))), ?_⟩
    refine ⟨_, rfl, x, _, t, _, c, rfl, .own _, ty, kt, c, rfl, ?_⟩
    cases c with
    | true => rw [h1 rfl] at k; exact k
    | false => exact ⟨_, rfl, _, b, rfl, h0 rfl, k⟩

theorem good_is_numberB (Z : CT K mg) : GoodF (CX0) P w K mg base 2 "is_number" ["value"] (spIsNumberB K) := Z.good 38 13 d_is_number (fun _ _ _ _ _ _ us hl => match us, hl with | [_], _ => rfl) fun _ F => ok_is_numberB Z F
def spIsSeq : Sp := fun vs H Q _ => ∃ a xs, vs = [.ref a] ∧ SqA H a xs ∧ ∀ H', Same H H' → Q (.bl true) H'
theorem ok_is_sequence (Z : CT K mg) (F : FunD K d_is_sequence.name d_is_sequence.qual d_is_sequence.params d_is_sequence.body d_is_sequence.scope [] [] f fd) : FnOk P w K mg base (CX0) 1 f fd ["value"] (spIsSeq) := by
  refine F.ok sc_is_sequence (fun vs H Q E h => ?_) (fun cdv A outer s H vs Q E hr h => ?_)
  · obtain ⟨a, xs, rfl, _⟩ := h
    rfl
  · obtain ⟨a, xs, rfl, ha, q⟩ := h
    refine ⟨_, (pss_one (ps_ret (pe_callB call_isiT (by rfl) (m_isinstance Z) boot_isinstance (pa_cons (pv 0) (pa_cons (pe_tupN (pa_cons (pe_bltn (by rfl) (m_list Z) boot_list (rel_ty _)) (pa_cons (pe_bltn (by rfl) (m_tuple Z) boot_tuple (rel_ty _)) pa_nil))) pa_nil))))), ?_⟩
    refine ⟨_, rfl, rfl, fun tp H1 s1 htp n1 => ?_⟩
    rcases ha.same s1 with ha | ha
    · exact ⟨_, tp, _, _, _, true, rfl, htp, .cons (.ty _) (.cons (.ty _) .nil), .base (.lst ha), kitAny_cons (b := true) (kit_ty (by decide +kernel)) (fun z => (nomatch z)) (fun _ => rfl), q _ s1⟩
    · exact ⟨_, tp, _, _, _, true, rfl, htp, .cons (.ty _) (.cons (.ty _) .nil), .base (.tup ha), kitAny_cons (b := false) (kit_ty (by decide +kernel)) (fun _ => kitAny_cons (b := true) (kit_ty (by decide +kernel)) (fun z => (nomatch z)) (fun _ => rfl)) (fun z => (nomatch z)), q _ s1⟩

theorem good_is_sequence (Z : CT K mg) : GoodF (CX0) P w K mg base 1 "is_sequence" ["value"] (spIsSeq) := Z.good 10 7 d_is_sequence (fun _ _ _ _ _ _ us hl => match us, hl with | [_], _ => rfl) fun _ F => ok_is_sequence Z F
theorem bls_of {acc : List V} {bs : List Bool} {n : Nat} (hl : acc.length = n) (hb : bs.length = n) (h : ∀ (j : Nat) (y : V), acc[j]? = some y → ∃ b, bs[j]? = some b ∧ y = .bl b) : acc = bs.map V.bl := by
  refine List.ext_getElem? fun i => ?_
  rw [List.getElem?_map]
  rcases Nat.lt_or_ge i n with hi | hi
  · have h1 : i < acc.length := by omega
    obtain ⟨b, e1, e2⟩ := h i _ (List.getElem?_eq_getElem h1)
    rw [List.getElem?_eq_getElem h1, e1, e2]; rfl
  · rw [List.getElem?_eq_none (by omega), List.getElem?_eq_none (by omega)]; rfl
def spAreNumbers (K : PySem.W.Frag) : Sp := fun vs H Q _ => ∃ (a : Addr) (xs : List V) (n : Int) (bs : List Bool), vs = [.ref a, .int n] ∧ SqA H a xs ∧ bs.length = xs.length ∧ xs.length ≤ 900 ∧ (∀ (i : Nat) (x : V), xs[i]? = some x → ∃ b, bs[i]? = some b ∧ NumB K H x b) ∧ ∀ H', Same H H' → Q (.bl (decide ((xs.length : Int) = n) && bs.all id)) H'
theorem ok_are_numbers (Z : CT K mg) (F : FunD K d_are_numbers.name d_are_numbers.qual d_are_numbers.params d_are_numbers.body d_are_numbers.scope [] [] f fd) : FnOk P w K mg base (CX0) 3 f fd ["value", "count"] (spAreNumbers K) := by
  refine F.ok sc_are_numbers (fun vs H Q E h => ?_) (fun cdv A outer s H vs Q E hr h => ?_)
  · obtain ⟨a, xs, n, bs, rfl, _⟩ := h
    rfl
  · obtain ⟨a, xs, n, bs, rfl, ha, hl, hn, hb, q⟩ := h
    refine ⟨_, (pss_one (ps_ret ((pe_and (gcall (good_is_sequence Z) hr (pa_cons (pv 0) pa_nil) pass0) (pe_and (pe_cmpR op_eq (pe_callB call_len_seq (by rfl) (m_len Z) PySem.boot_len (pa_cons (pv 0) pa_nil)) (pv 1) (nomark _)) (pe_one (pe_callB (cr_all rfl) (by rfl) (m_all Z) boot_all (pa_cons (pe_lc (own := [("item", 2)]) (g := gName 2) (by rfl) sc_are_numbers.nd (pi_seqV (pv 0)) (blkOk_by (own := [("item", 2)]) (N := ["value", "count", "item"]) (sc := defScope s_are_numbers) (by decide +kernel)) (fun _ _ _ _ _ => pg_name (i := 2) sc_are_numbers.nd rfl (Or.inl rfl)) (fun _ _ _ _ _ => pts_nil) (fun _ _ _ _ _ => gcall (good_is_numberB Z) hr (pa_cons (pv 2) pa_nil) pass0)) pa_nil)))))))), ?_⟩
    refine ⟨_, rfl, a, xs, rfl, ha, fun H1 s1 => ⟨_, rfl, ?_⟩⟩
    refine ⟨_, rfl, a, xs, rfl, (ha.same s1).seq, _, rfl, rfl, _, rfl, ?_⟩
    show if decide (V.int (xs.length : Int) = V.int n) = true then _ else _
    have e : decide (V.int (xs.length : Int) = V.int n) = decide ((xs.length : Int) = n) := decide_eq_decide.mpr ⟨fun e => by injection e, fun e => by rw [e]⟩
    rw [e]
    cases hd : decide ((xs.length : Int) = n) with
    | false =>
      refine iteF ?_
      have z := q H1 s1
      rw [hd] at z
      exact z
    | true =>
      refine iteT ?_
      rcases ha.same s1 with hsq | hsq
      · refine ⟨a, xs, rfl, .inl ⟨SqL.of hsq, ?_⟩⟩
        intro D hD
        refine comp hD (n := xs.length) (G := fun H => SqL K H a xs) walk_list (fun j y H' => ∃ b, bs[j]? = some b ∧ y = .bl b) (fun _ _ _ _ h _ => h) (hn) (fun H' s => SqL.of (s _ _ hsq)) ?_ ?_
        · rintro i x H2 H2b R hi s2 ⟨rfl, ex⟩ k
          obtain ⟨b, eb, hb'⟩ := hb i x ex
          exact ⟨rfl, _, rfl, x, b, rfl, (hb'.same s1).same s2, k _ _ (Same.refl _) ⟨b, eb, rfl⟩⟩
        · intro acc H2 s2 hacc hlen hall
          refine ⟨D, bs, rfl, SqL.of (by rw [hacc, bls_of hlen hl hall]), ?_⟩
          have z := q H2 (s1.trans s2)
          rw [hd, Bool.true_and] at z
          exact z
      · refine ⟨a, xs, rfl, .inr ⟨SqT.of hsq, ?_⟩⟩
        intro D hD
        refine comp hD (n := xs.length) (G := fun H => SqT K H a xs) walk_tup (fun j y H' => ∃ b, bs[j]? = some b ∧ y = .bl b) (fun _ _ _ _ h _ => h) (hn) (fun H' s => SqT.of (s _ _ hsq)) ?_ ?_
        · rintro i x H2 H2b R hi s2 ⟨rfl, ex⟩ k
          obtain ⟨b, eb, hb'⟩ := hb i x ex
          exact ⟨rfl, _, rfl, x, b, rfl, (hb'.same s1).same s2, k _ _ (Same.refl _) ⟨b, eb, rfl⟩⟩
        · intro acc H2 s2 hacc hlen hall
          refine ⟨D, bs, rfl, SqL.of (by rw [hacc, bls_of hlen hl hall]), ?_⟩
          have z := q H2 (s1.trans s2)
          rw [hd, Bool.true_and] at z
          exact z

theorem good_are_numbers (Z : CT K mg) : GoodF (CX0) P w K mg base 3 "are_numbers" ["value", "count"] (spAreNumbers K) := Z.good 40 15 d_are_numbers (fun _ _ _ _ _ _ us hl => match us, hl with | [_, _], _ => rfl) fun _ F => ok_are_numbers Z F
def spAsRatios (K : PySem.W.Frag) : Sp := fun vs H Q _ => ∃ (a : Addr) (xs : List V) (qs : List (Int × Int)), vs = [.ref a] ∧ SqA H a xs ∧ NumsAt K H xs qs ∧ xs.length ≤ 900 ∧ ∀ (t : Addr) (ws : List V) (H' : Hp), Same H H' → H' t = some (.tup ws) → RsAt K H' ws qs → Q (.ref t) H'
theorem ok_as_ratios (Z : CT K mg) (F : FunD K d_as_ratios.name d_as_ratios.qual d_as_ratios.params d_as_ratios.body d_as_ratios.scope [] [] f fd) : FnOk P w K mg base (CX0) 6 f fd ["numbers"] (spAsRatios K) := by
  refine F.ok sc_as_ratios (fun vs H Q E h => ?_) (fun cdv A outer s H vs Q E hr h => ?_)
  · obtain ⟨a, xs, qs, rfl, _⟩ := h
    rfl
  · obtain ⟨a, xs, qs, rfl, ha, hx, hn, q⟩ := h
    refine ⟨_, (pss_one (ps_ret (pe_callTy call_tupA (by rfl) (m_tuple Z) boot_tuple (pa_cons (pe_lc (own := [("number", 1)]) (g := gName 1) (by rfl) sc_as_ratios.nd (pi_seqV (pv 0)) (blkOk_by (own := [("number", 1)]) (N := ["numbers", "number"]) (sc := defScope s_as_ratios) (by decide +kernel)) (fun _ _ _ _ _ => pg_name (i := 1) sc_as_ratios.nd rfl (Or.inl rfl)) (fun _ _ _ _ _ => pts_nil) (fun _ _ _ _ _ => gcall (good_as_ratio Z) hr (pa_cons (pv 1) pa_nil) pass0)) pa_nil)))), ?_⟩
    rcases id ha with hsq | hsq
    · refine ⟨a, xs, rfl, .inl ⟨SqL.of hsq, ?_⟩⟩
      intro D hD
      refine comp hD (n := xs.length) (G := fun H => SqL K H a xs) walk_list (fun j y H' => ∃ r, y = .ref r ∧ RAt K H' r (qs.getD j (0, 0))) (fun _ _ _ _ ⟨r, e, z⟩ k => ⟨r, e, rat_mon z k⟩) (hn) (fun H' s => SqL.of (s _ _ hsq)) ?_ ?_
      · rintro i x H2 H2b R hi s2 ⟨rfl, ex⟩ k
        have hi2 : i < qs.length := by rw [← hx.1]; exact hi
        have nx := hx.2 i x _ ex (List.getElem?_eq_getElem hi2)
        refine ⟨rfl, _, rfl, x, _, rfl, nx.same s2, fun r H3 s3 hr => k _ _ s3 ⟨r, rfl, ?_⟩⟩
        rw [List.getD_eq_getElem?_getD, List.getElem?_eq_getElem hi2]
        exact hr
      · intro acc H2 s2 hacc hlen hall
        refine ⟨D, acc, rfl, .inl hacc, fun t H3 s3 ht => ?_⟩
        refine q t acc _ (s2.trans s3) ht ⟨by rw [hlen, hx.1], fun i x p e1 e2 => ?_⟩
        obtain ⟨r, e, hr⟩ := hall i x e1
        rw [List.getD_eq_getElem?_getD, e2] at hr
        exact ⟨r, e, hr.same s3⟩
    · refine ⟨a, xs, rfl, .inr ⟨SqT.of hsq, ?_⟩⟩
      intro D hD
      refine comp hD (n := xs.length) (G := fun H => SqT K H a xs) walk_tup (fun j y H' => ∃ r, y = .ref r ∧ RAt K H' r (qs.getD j (0, 0))) (fun _ _ _ _ ⟨r, e, z⟩ k => ⟨r, e, rat_mon z k⟩) (hn) (fun H' s => SqT.of (s _ _ hsq)) ?_ ?_
      · rintro i x H2 H2b R hi s2 ⟨rfl, ex⟩ k
        have hi2 : i < qs.length := by rw [← hx.1]; exact hi
        have nx := hx.2 i x _ ex (List.getElem?_eq_getElem hi2)
        refine ⟨rfl, _, rfl, x, _, rfl, nx.same s2, fun r H3 s3 hr => k _ _ s3 ⟨r, rfl, ?_⟩⟩
        rw [List.getD_eq_getElem?_getD, List.getElem?_eq_getElem hi2]
        exact hr
      · intro acc H2 s2 hacc hlen hall
        refine ⟨D, acc, rfl, .inl hacc, fun t H3 s3 ht => ?_⟩
        refine q t acc _ (s2.trans s3) ht ⟨by rw [hlen, hx.1], fun i x p e1 e2 => ?_⟩
        obtain ⟨r, e, hr⟩ := hall i x e1
        rw [List.getD_eq_getElem?_getD, e2] at hr
        exact ⟨r, e, hr.same s3⟩

theorem good_as_ratios (Z : CT K mg) : GoodF (CX0) P w K mg base 6 "as_ratios" ["numbers"] (spAsRatios K) := Z.good 41 16 d_as_ratios (fun _ _ _ _ _ _ us hl => match us, hl with | [_], _ => rfl) fun _ F => ok_as_ratios Z F
/-- names for effects, as they should be -/
structure EfOk (zs : List Str) : Prop where
  lo : 1 ≤ zs.length
  hi : zs.length ≤ 4
  nd : zs.Nodup
  nm : ∀ z ∈ zs, NmOk z
def spAreNames : Sp := fun vs H Q _ => ∃ (a : Addr) (zs : List Str) (m : Int), vs = [.ref a, .int m] ∧ SqA H a (zs.map V.str) ∧ 1 ≤ zs.length ∧ (zs.length : Int) ≤ m ∧ zs.length ≤ 900 ∧ zs.Nodup ∧ (∀ z ∈ zs, NmOk z) ∧ ∀ H', Same H H' → Q (.bl true) H'
def spIsEffects : Sp := fun vs H Q _ => ∃ a zs, vs = [.ref a] ∧ SqA H a (zs.map V.str) ∧ EfOk zs ∧ ∀ H', Same H H' → Q (.bl true) H'
theorem ok_are_names (Z : CT K mg) (F : FunD K d_are_names.name d_are_names.qual d_are_names.params d_are_names.body d_are_names.scope [] [] f fd) : FnOk P w K mg base (CX0) 2 f fd ["value", "most"] (spAreNames) := by
  refine F.ok sc_are_names (fun vs H Q E h => ?_) (fun cdv A outer s H vs Q E hr h => ?_)
  · obtain ⟨a, zs, m, rfl, _⟩ := h
    rfl
  · obtain ⟨a, zs, m, rfl, ha, h1, h2, h3, hnd, hnm, q⟩ := h
    refine ⟨_, (pss_cons (ps_if (PW.pt (pw_or (pt_not (pt_val (gcall (good_is_sequence Z) hr (pa_cons (pv 0) pa_nil) pass0) (fun _ => rfl))) (pw_or1 (pt_not (pt_chain op_le op_le (pe_int) (pe_callB call_len_seq (by rfl) (m_len Z) PySem.boot_len (pa_cons (pv 0) pa_nil)) (pv 1)))))) (pss_one (ps_ret pe_bl)) pss_nil)
      (pss_one (ps_ret ((pe_and (pe_callB (cr_all rfl) (by rfl) (m_all Z) boot_all (pa_cons (pe_lc (own := [("item", 2)]) (g := gName 2) (by rfl) sc_are_names.nd (pi_seqV (pv 0)) (blkOk_by (own := [("item", 2)]) (N := ["value", "most", "item"]) (sc := defScope s_are_names) (by decide +kernel)) (fun _ _ _ _ _ => pg_name (i := 2) sc_are_names.nd rfl (Or.inl rfl)) (fun _ _ _ _ _ => pts_nil) (fun _ _ _ _ _ => gcall (good_is_name Z) hr (pa_cons (pv 2) pa_nil) pass0)) pa_nil)) (pe_one (pe_cmpR op_eq (pe_lenSetS (by rfl) (m_len Z) (by rfl) (m_set Z) (pv 0)) (pe_callB call_len_seq (by rfl) (m_len Z) PySem.boot_len (pa_cons (pv 0) pa_nil)) (nomark _)))))))), ?_⟩
    have ln : (zs.map V.str).length = zs.length := List.length_map _
    refine ⟨_, rfl, a, _, rfl, ha, fun H1 s1 => ⟨_, rfl, ?_⟩⟩
    have ha1 := ha.same s1
    refine ⟨_, rfl, a, _, rfl, ha1.seq, _, _, rfl, rfl, _, rfl, ?_⟩
    rw [ln, show decide ((1 : Int) ≤ (zs.length : Int)) = true from decide_eq_true (by omega)]
    refine ⟨_, rfl, _, _, rfl, rfl, _, rfl, ?_⟩
    rw [show decide ((zs.length : Int) ≤ m) = true from decide_eq_true h2]
    rcases id ha1 with hsq | hsq
    · refine ⟨a, (zs.map V.str), rfl, .inl ⟨SqL.of hsq, ?_⟩⟩
      intro D hD
      refine comp hD (n := (zs.map V.str).length) (G := fun H => SqL K H a (zs.map V.str)) walk_list (fun j y H' => y = .bl true) (fun _ _ _ _ h _ => h) (by omega) (fun H' s => SqL.of (s _ _ hsq)) ?_ ?_
      · rintro i x H2 H2b R hi s2 ⟨rfl, ex⟩ k
        rw [List.getElem?_map] at ex
        cases ez : zs[i]? with
        | none => rw [ez] at ex; cases ex
        | some z =>
          rw [ez] at ex
          obtain rfl : V.str z = x := Option.some.inj ex
          exact ⟨rfl, _, rfl, z, rfl, hnm z (List.mem_of_getElem? ez), fun H3 s3 => k _ _ s3 rfl⟩
      · intro acc H2 s2 hacc hlen hall
        refine ⟨D, List.replicate acc.length true, rfl, SqL.of (by
          rw [hacc]; congr 2
          rw [List.map_replicate]
          exact List.eq_replicate_iff.mpr ⟨rfl, fun y hy => by obtain ⟨j, hj, e⟩ := List.mem_iff_getElem.mp hy; exact hall j y (by rw [List.getElem?_eq_getElem hj, e])⟩), ?_⟩
        rw [show (List.replicate acc.length true).all id = true by rw [List.all_eq_true]; intro y hy; exact (List.eq_of_mem_replicate hy)]
        have ha2 := ha1.same s2
        refine ⟨_, rfl, ?_⟩
        refine ⟨_, rfl, a, zs, rfl, ha2.seq, by omega, _, rfl, a, _, rfl, ha2.seq, rfl, ?_⟩
        rw [ln, dif_nodup hnd]
        show Q (.bl (decide (V.int _ = V.int _))) H2
        rw [decide_eq_true rfl]
        exact q _ (s1.trans s2)
    · refine ⟨a, (zs.map V.str), rfl, .inr ⟨SqT.of hsq, ?_⟩⟩
      intro D hD
      refine comp hD (n := (zs.map V.str).length) (G := fun H => SqT K H a (zs.map V.str)) walk_tup (fun j y H' => y = .bl true) (fun _ _ _ _ h _ => h) (by omega) (fun H' s => SqT.of (s _ _ hsq)) ?_ ?_
      · rintro i x H2 H2b R hi s2 ⟨rfl, ex⟩ k
        rw [List.getElem?_map] at ex
        cases ez : zs[i]? with
        | none => rw [ez] at ex; cases ex
        | some z =>
          rw [ez] at ex
          obtain rfl : V.str z = x := Option.some.inj ex
          exact ⟨rfl, _, rfl, z, rfl, hnm z (List.mem_of_getElem? ez), fun H3 s3 => k _ _ s3 rfl⟩
      · intro acc H2 s2 hacc hlen hall
        refine ⟨D, List.replicate acc.length true, rfl, SqL.of (by
          rw [hacc]; congr 2
          rw [List.map_replicate]
          exact List.eq_replicate_iff.mpr ⟨rfl, fun y hy => by obtain ⟨j, hj, e⟩ := List.mem_iff_getElem.mp hy; exact hall j y (by rw [List.getElem?_eq_getElem hj, e])⟩), ?_⟩
        rw [show (List.replicate acc.length true).all id = true by rw [List.all_eq_true]; intro y hy; exact (List.eq_of_mem_replicate hy)]
        have ha2 := ha1.same s2
        refine ⟨_, rfl, ?_⟩
        refine ⟨_, rfl, a, zs, rfl, ha2.seq, by omega, _, rfl, a, _, rfl, ha2.seq, rfl, ?_⟩
        rw [ln, dif_nodup hnd]
        show Q (.bl (decide (V.int _ = V.int _))) H2
        rw [decide_eq_true rfl]
        exact q _ (s1.trans s2)

theorem good_are_names (Z : CT K mg) : GoodF (CX0) P w K mg base 2 "are_names" ["value", "most"] (spAreNames) := Z.good 12 9 d_are_names (fun _ _ _ _ _ _ us hl => match us, hl with | [_, _], _ => rfl) fun _ F => ok_are_names Z F
theorem ok_is_effects (Z : CT K mg) (F : FunD K d_is_effects.name d_is_effects.qual d_is_effects.params d_is_effects.body d_is_effects.scope [] [] f fd) : FnOk P w K mg base (CX0) 3 f fd ["value"] (spIsEffects) := by
  refine F.ok sc_is_effects (fun vs H Q E h => ?_) (fun cdv A outer s H vs Q E hr h => ?_)
  · obtain ⟨a, zs, rfl, _⟩ := h
    rfl
  · obtain ⟨a, zs, rfl, ha, he, q⟩ := h
    refine ⟨_, (pss_one (ps_ret (gcall (good_are_names Z) hr (pa_cons (pv 0) (pa_cons (con_MOST_EFFECTS Z) pa_nil)) pass0))), ?_⟩
    have h1 := he.lo
    have h2 := he.hi
    exact ⟨_, rfl, a, zs, 4, rfl, ha, h1, by omega, by omega, he.nd, he.nm, fun H1 s1 => q H1 s1⟩

theorem good_is_effects (Z : CT K mg) : GoodF (CX0) P w K mg base 3 "is_effects" ["value"] (spIsEffects) := Z.good 13 10 d_is_effects (fun _ _ _ _ _ _ us hl => match us, hl with | [_], _ => rfl) fun _ F => ok_is_effects Z F
end
end My

namespace My
open PySem PySem.Spec PyProof.Rows L2 PySem.Calls

section
variable {K : PySem.W.Frag} {mg : Str → Option Value}
theorem x_NoWorld (Z : CT K mg) : XCls K (He.ga K "NoWorld") := xclsB_ok (Bool.and_eq_true_iff.mp (exmore Z).2.1).1
theorem x_NoWorld_exm (Z : CT K mg) : PySem.W.exmOne K (rf K "NoWorld") (rf K "NoWorld") = some true := of_decide_eq_true (Bool.and_eq_true_iff.mp (Bool.and_eq_true_iff.mp (exmore Z).2.1).2).2
theorem rz_NoWorld {X : Cx} {p pos : Pos} (Z : CT X.K X.mg) (hg : Gl X "NoWorld" := by rfl) : L2N.PMk X (.Call (.Name "NoWorld" p) [] [] pos) (fun _ H Q => Q (.ref (He.ga X.K "NoWorld")) none H) :=
  pmk0 (x_NoWorld Z) (xc0_NoWorld Z) (He.exc_ok (Z.d.fact 50)).2.1 (glo_NoWorld Z) hg
end
/-- what is wished of NoRun(z), of NoWorld() -/
def RuW (K : PySem.W.Frag) (z : Str) (H : Hp) (E : XK) : Prop := ∀ d H', Same H H' → H' d = some (.xd [("word", .str z)]) → E (.ref (He.ga K "NoSuch")) (some d) H'
def WoW (K : PySem.W.Frag) (H : Hp) (E : XK) : Prop := ∀ H', Same H H' → E (.ref (He.ga K "NoWorld")) none H'
theorem RuW.same {K : PySem.W.Frag} {z : Str} {H H' : Hp} {E : XK} (h : RuW K z H E) (s : Same H H') : RuW K z H' E := fun d H2 s2 hd => h d H2 (s.trans s2) hd
theorem WoW.same {K : PySem.W.Frag} {H H' : Hp} {E : XK} (h : WoW K H E) (s : Same H H') : WoW K H' E := fun H2 s2 => h H2 (s.trans s2)

/-! ### a Question in the heap -/
theorem ew : ¬ (("effects" : Str) = "weights") := by decide +kernel
def qfs (e w : Addr) : List (Str × V) := putF "weights" (.ref w) (putF "effects" (.ref e) [])
theorem qfs_e (e w : Addr) : (qfs e w).lookup ("effects" : Str) = some (.ref e) := by unfold qfs; rw [lookup_putF, if_neg ew, lookup_putF, if_pos rfl]
theorem qfs_w (e w : Addr) : (qfs e w).lookup ("weights" : Str) = some (.ref w) := by unfold qfs; rw [lookup_putF, if_pos rfl]
theorem qfs_no (e w : Addr) {m : Str} (h1 : ¬ m = "weights") (h2 : ¬ m = "effects") : (qfs e w).lookup m = none := by
  unfold qfs; rw [lookup_putF, if_neg h1, lookup_putF, if_neg h2]; rfl
structure QIn (K : PySem.W.Frag) (H : Hp) (a dx e w : Addr) (ws : List V) (zs : List Str) (qs : List (Int × Int)) : Prop where
  o : H a = some (.ins (He.ga K "Question") dx (qfs e w))
  e : H e = some (.tup (zs.map V.str))
  w : H w = some (.tup ws)
  r : RsAt K H ws qs
def QAt (K : PySem.W.Frag) (H : Hp) (a : Addr) (zs : List Str) (qs : List (Int × Int)) : Prop := ∃ dx e w ws, QIn K H a dx e w ws zs qs
theorem QIn.same {K : PySem.W.Frag} {H H' : Hp} {a dx e w : Addr} {ws : List V} {zs : List Str} {qs : List (Int × Int)} (h : QIn K H a dx e w ws zs qs) (s : Same H H') : QIn K H' a dx e w ws zs qs := ⟨s _ _ h.o, s _ _ h.e, s _ _ h.w, h.r.same s⟩
theorem QAt.same {K : PySem.W.Frag} {H H' : Hp} {a : Addr} {zs : List Str} {qs : List (Int × Int)} (h : QAt K H a zs qs) (s : Same H H') : QAt K H' a zs qs := let ⟨dx, e, w, ws, q⟩ := h; ⟨dx, e, w, ws, q.same s⟩
section
variable {P : Program} {w : World} {K : PySem.W.Frag} {mg : Str → Option Value} {base : Heap} {fd : FuncData} {f : Addr}
theorem all_rep (n : Nat) : (List.replicate n true).all id = true := by rw [List.all_eq_true]; intro y hy; exact (List.eq_of_mem_replicate hy)
theorem nums_b {K : PySem.W.Frag} {H : Hp} {xs : List V} {qs : List (Int × Int)} (h : NumsAt K H xs qs) : ∀ (i : Nat) (x : V), xs[i]? = some x → ∃ b, (List.replicate xs.length true)[i]? = some b ∧ NumB K H x b := fun i x e => by
  obtain ⟨hi, _⟩ := List.getElem?_eq_some_iff.mp e
  exact ⟨true, by rw [List.getElem?_replicate, if_pos hi], .num (h.2 i x _ e (List.getElem?_eq_getElem (by rw [← h.1]; exact hi)))⟩
theorem rat_ne {K : PySem.W.Frag} {H : Hp} {a C dx r : Addr} {fs : List (Str × V)} {q : Int × Int} (ha : H a = some (.ins C dx fs)) (hn : fs.lookup ("top" : Str) = none) (h : RAt K H r q) : r ≠ a := fun e => by
  obtain ⟨dy, h⟩ := h
  subst e
  rw [ha] at h
  injection h with h
  injection h with _ _ h
  rw [h, rfs_top] at hn
  cases hn
/-- all but what stands at a -/
def Off (a : Addr) (H H' : Hp) : Prop := ∀ c, c ≠ a → ∀ o, H c = some o → H' c = some o
theorem Off.same {a : Addr} {H H1 H2 : Hp} (h : Off a H H1) (s : Same H1 H2) : Off a H H2 := fun c hc o z => s _ _ (h c hc o z)
theorem same_off {a : Addr} {H H1 H2 : Hp} (s : Same H H1) (h : Off a H1 H2) : Off a H H2 := fun c hc o z => h c hc o (s _ _ z)
theorem Off.upd {a : Addr} {H H1 : Hp} {o : HO} (h : Off a H H1) : Off a H (L2.upd H1 a o) := fun c hc o' z => by rw [upd_ne hc]; exact h c hc o' z
theorem off_upd {a : Addr} {H : Hp} {o : HO} : Off a H (L2.upd H a o) := fun c hc o' z => by rw [upd_ne hc]; exact z
theorem off_num {K : PySem.W.Frag} {H H' : Hp} {a C dx : Addr} {fs : List (Str × V)} {x : V} {q : Int × Int} (ha : H a = some (.ins C dx fs)) (hn : fs.lookup ("top" : Str) = none) (k : Off a H H') (h : Num K H x q) : Num K H' x q := by
  cases h with
  | int n => exact .int n
  | rat h => exact .rat (let ⟨dy, e⟩ := h; ⟨dy, k _ (rat_ne ha hn ⟨dy, e⟩) _ e⟩)
theorem off_sqA {H H' : Hp} {a C dx e : Addr} {fs : List (Str × V)} {xs : List V} (ha : H a = some (.ins C dx fs)) (k : Off a H H') (h : SqA H e xs) : SqA H' e xs := h.elim (fun z => .inl (k _ (ne_of z ha (by intro y; cases y)) _ z)) fun z => .inr (k _ (ne_of z ha (by intro y; cases y)) _ z)
/-- Question.__init__, with what is right -/
def spQInit (K : PySem.W.Frag) : Sp := fun vs H Q _ => ∃ (a dx e w : Addr) (zs : List Str) (xs : List V) (qs : List (Int × Int)), vs = [.ref a, .ref e, .ref w] ∧ H a = some (.ins (He.ga K "Question") dx []) ∧ SqA H e (zs.map V.str) ∧ EfOk zs ∧ SqA H w xs ∧ NumsAt K H xs qs ∧ qs.length = zs.length ∧
  ∀ H' e' w' ws, (∀ c, c ≠ a → ∀ o, H c = some o → H' c = some o) → QIn K H' a dx e' w' ws zs qs → Q .non H'
theorem ok_Question_init (Z : CT K mg) (F : FunD K d_Question_init.name d_Question_init.qual d_Question_init.params d_Question_init.body d_Question_init.scope [] [] f fd) : FnOk P w K mg base CX0 7 f fd ["self", "effects", "weights"] (spQInit K) := by
  refine F.ok sc_Question_init (fun vs H Q E h => ?_) (fun cdv A outer s H vs Q E hr h => ?_)
  · obtain ⟨a, dx, e, w0, zs, xs, qs, rfl, _⟩ := h
    rfl
  · obtain ⟨a, dx, e, w0, zs, xs, qs, rfl, ha, he, ok, hw, hx, hl, q⟩ := h
    refine ⟨_, (pss_cons (ps_if (pt_not (pt_val (gcall (good_is_effects Z) hr (pa_cons (pv 1) pa_nil) pass0) (fun _ => rfl))) (pss_one ps_never) pss_nil)
      (pss_cons (ps_if (pt_not (pt_val (gcall (good_are_numbers Z) hr (pa_cons (pv 2) (pa_cons (pe_callB call_len_seq (by rfl) (m_len Z) PySem.boot_len (pa_cons (pv 1) pa_nil)) pa_nil)) pass0) (fun _ => rfl))) (pss_one ps_never) pss_nil)
      (pss_cons (ps_fld (pv 0) (pe_callTy call_tupA (by rfl) (m_tuple Z) boot_tuple (pa_cons (pv 1) pa_nil)) rfl)
      (pss_one (ps_fld (pv 0) (gcall (good_as_ratios Z) hr (pa_cons (pv 2) pa_nil) pass0) rfl))))), ?_⟩
    have h4 := ok.hi
    have lz : (zs.map V.str).length = zs.length := List.length_map _
    have lx : xs.length = zs.length := by rw [hx.1, hl]
    refine ⟨_, rfl, e, zs, rfl, he, ok, fun H1 s1 => ⟨true, rfl, iteF ?_⟩⟩
    refine ⟨_, rfl, _, rfl, e, _, rfl, (he.same s1).seq, w0, xs, _, List.replicate xs.length true, rfl, hw.same s1, List.length_replicate, by omega, nums_b (hx.same s1), fun H2 s2 => ⟨_, rfl, ?_⟩⟩
    have hd : (decide ((xs.length : Int) = (((zs.map V.str).length : Nat) : Int)) && (List.replicate xs.length true).all id) = true := by rw [all_rep, lz, lx]; simp
    rw [hd]
    refine iteF ?_
    have s02 := s1.trans s2
    refine ⟨_, rfl, e, _, rfl, he.same s02, fun t H3 s3 ht => ?_⟩
    have s03 := s02.trans s3
    have ha3 := s03 _ _ ha
    have nf : (putF "effects" (V.ref t) [] : List (Str × V)).lookup ("top" : Str) = none := by rw [lookup_putF, if_neg (by decide +kernel)]; rfl
    refine ⟨_, rfl, a, _, dx, [], rfl, ha3, (oc_Q Z).cl, no_Question_effects Z, (by decide), ?_⟩
    refine ⟨_, rfl, w0, xs, qs, rfl, off_sqA ha3 off_upd (hw.same s03), ⟨hx.1, fun i x p e1 e2 => off_num ha3 rfl off_upd ((hx.same s03).2 i x p e1 e2)⟩, by omega, fun u ws H5 s5 hu hr => ?_⟩
    have ha5 := s5 _ _ (upd_same (H := H3) (a := a) (o := .ins (He.ga K "Question") dx (putF "effects" (.ref t) [])))
    have k5 : Off a H H5 := Off.same (same_off s03 off_upd) s5
    refine ⟨_, rfl, a, _, dx, _, rfl, ha5, (oc_Q Z).cl, no_Question_weights Z, (by show 1 < 1000; decide), ?_⟩
    have ht5 : H5 t = some (.tup (zs.map V.str)) := s5 _ _ (off_upd t (ne_of ht ha3 (by intro y; cases y)) _ ht)
    refine q _ t u ws k5.upd ⟨upd_same, off_upd t (ne_of ht5 ha5 (by intro y; cases y)) _ ht5, off_upd u (ne_of hu ha5 (by intro y; cases y)) _ hu, hr.1, fun i x p e1 e2 => ?_⟩
    obtain ⟨r, er, hr2⟩ := hr.2 i x p e1 e2
    have hne := rat_ne ha5 nf hr2
    obtain ⟨dy, hr2⟩ := hr2
    exact ⟨r, er, dy, off_upd r hne _ hr2⟩
end
/-- Question(effects, weights) -/
def tQ (K : PySem.W.Frag) (t : TA) : TE := fun σ H Q => t σ H fun vs H1 => ∃ (e w : Addr) (zs : List Str) (xs : List V) (qs : List (Int × Int)), vs = [.ref e, .ref w] ∧ SqA H1 e (zs.map V.str) ∧ EfOk zs ∧ SqA H1 w xs ∧ NumsAt K H1 xs qs ∧ qs.length = zs.length ∧ ∀ p H', Same H1 H' → QAt K H' p zs qs → Q (.ref p) H'
theorem mkQ {X : Cx} {e : Expr} {es : List Expr} {ta : TA} {p pos : Pos} {k : Nat} (Z : CT X.K X.mg) (hr : Room k X.A) (ha : PA X (e :: es) ta) (hk : 8 ≤ k := by decide) (hg : Gl X "Question" := by rfl) (he : starEach (e :: es) X.env = (false, eval e X.env) :: starEach es X.env := by rfl)
    (hpl : (backTo pos (starEach es X.env)).any (·.1) = false := by rfl) : PE X (.Call (.Name "Question" p) (e :: es) [] pos) (tQ X.K ta) := by
  obtain ⟨fd, F⟩ := Z.d.def_ 42 (d := d_Question_init) rfl
  refine pe_imp (pe_make (mk_Question Z) (ok_Question_init Z F) (hr.mono hk) hg (glo_Question Z) (F.bindsN fun _ _ _ _ _ _ us hl => match us, hl with | [_, _, _], _ => rfl) .nil pass0 (wk_a ha) (by decide) he hpl) fun σ H Q q => ⟨_, q, fun vs H1 ⟨e, w, zs, xs, qs, ev, h1, h2, h3, h4, h5, h6⟩ a dx na nd hne => ?_⟩
  subst ev
  have s0 : Same H1 (upd (upd H1 dx (.own a)) a (.ins (He.ga X.K "Question") dx [])) := fun b o z => by rw [upd_ne (ne_of_none z na), upd_ne (ne_of_none z nd)]; exact z
  exact ⟨a, dx, e, w, zs, xs, qs, rfl, upd_same, h1.same s0, h2, h3.same s0, h4.same s0, h5, fun H' e' w' ws k z => ⟨rfl, h6 a H' (fun b o y => k b (ne_of_none y na) o (s0 b o y)) ⟨dx, e', w', ws, z⟩⟩⟩
end My

namespace My
open PySem PySem.Spec PyProof.Rows L2 PySem.Calls

section
variable {P : Program} {w : World} {K : PySem.W.Frag} {mg : Str → Option Value} {base : Heap} {fd : FuncData} {f : Addr}
/-- a Ratio compared with a number -/
def spRCmp (K : PySem.W.Frag) (g : Int → Int → Bool) : Sp := fun vs H Q _ => ∃ a p y q, vs = [.ref a, y] ∧ RAt K H a p ∧ Num K H y q ∧ Okq 3900 p ∧ Okq 3900 q ∧ ∀ H', Same H H' → Q (.bl (g (p.1 * q.2) (q.1 * p.2))) H'
theorem ok_Ratio_lt (Z : CT K mg) (F : FunD K d_Ratio_lt.name d_Ratio_lt.qual d_Ratio_lt.params d_Ratio_lt.body d_Ratio_lt.scope [] [] f fd) : FnOk P w K mg base (CX0) 6 f fd ["self", "other"] (spRCmp K (fun i j => decide (i < j))) := by
  refine F.ok sc_Ratio_lt (fun vs H Q E h => ?_) (fun cdv A outer s H vs Q E hr h => ?_)
  · obtain ⟨a, p, y, q, rfl, _⟩ := h
    rfl
  · obtain ⟨a, p, y, q, rfl, ha, hn, o1, o2, h⟩ := h
    refine ⟨_, (pss_cons (ps_if (pt_not (pt_val (gcall (good_is_number Z) hr (pa_cons (pv 1) pa_nil) pass0) (fun _ => rfl))) (pss_one ps_never) pss_nil)
      (pss_cons (ps_set (i := 2) sc_Ratio_lt.nd rfl (by first | exact Or.inl rfl | exact Or.inr rfl) (gcall (good_as_ratio Z) hr (pa_cons (pv 1) pa_nil) pass0))
      (pss_one (ps_ret (pe_cmpR op_lt (pe_op op_mulW (pe_fld (pv 0) rfl) (pe_fld (pv 2) rfl)) (pe_op op_mulW (pe_fld (pv 2) rfl) (pe_fld (pv 0) rfl)) (nomark _)))))), ?_⟩
    refine ⟨_, rfl, y, q, rfl, hn, true, rfl, iteF ?_⟩
    refine ⟨_, rfl, y, q, rfl, hn, fun r H1 s1 hr1 => ?_⟩
    obtain ⟨dx, hd⟩ := ha.same s1
    obtain ⟨dy, he⟩ := hr1
    exact ⟨_, rfl, a, _, dx, _, _, rfl, hd, (rc Z).cl, (rc Z).nT, rfs_top _ _, _, rfl, r, _, dy, _, _, rfl, he, (rc Z).cl, (rc Z).nB, rfs_bot _ _, _, _, rfl, rfl, mulW o1.1 o2.2.1 (by decide) (by decide), _, rfl, r, _, dy, _, _, rfl, he, (rc Z).cl, (rc Z).nT, rfs_top _ _, _, rfl, a, _, dx, _, _, rfl, hd, (rc Z).cl, (rc Z).nB, rfs_bot _ _, _, _, rfl, rfl, mulW o2.1 o1.2.1 (by decide) (by decide), _, _, rfl, rfl, h H1 s1⟩

theorem good_Ratio_lt (Z : CT K mg) : GoodMd (CX0) P w K mg base 6 "__lt__" ["self", "other"] (spRCmp K (fun i j => decide (i < j))) := goodMd Z 16 d_Ratio_lt (me_Ratio_lt Z) (fun _ _ _ _ _ _ us hl => match us, hl with | [_, _], _ => rfl) fun _ F => ok_Ratio_lt Z F
theorem ok_Ratio_gt (Z : CT K mg) (F : FunD K d_Ratio_gt.name d_Ratio_gt.qual d_Ratio_gt.params d_Ratio_gt.body d_Ratio_gt.scope [] [] f fd) : FnOk P w K mg base (CX0) 6 f fd ["self", "other"] (spRCmp K (fun i j => decide (j < i))) := by
  refine F.ok sc_Ratio_gt (fun vs H Q E h => ?_) (fun cdv A outer s H vs Q E hr h => ?_)
  · obtain ⟨a, p, y, q, rfl, _⟩ := h
    rfl
  · obtain ⟨a, p, y, q, rfl, ha, hn, o1, o2, h⟩ := h
    refine ⟨_, (pss_cons (ps_if (pt_not (pt_val (gcall (good_is_number Z) hr (pa_cons (pv 1) pa_nil) pass0) (fun _ => rfl))) (pss_one ps_never) pss_nil)
      (pss_cons (ps_set (i := 2) sc_Ratio_gt.nd rfl (by first | exact Or.inl rfl | exact Or.inr rfl) (gcall (good_as_ratio Z) hr (pa_cons (pv 1) pa_nil) pass0))
      (pss_one (ps_ret (pe_cmpR op_gt (pe_op op_mulW (pe_fld (pv 0) rfl) (pe_fld (pv 2) rfl)) (pe_op op_mulW (pe_fld (pv 2) rfl) (pe_fld (pv 0) rfl)) (nomark _)))))), ?_⟩
    refine ⟨_, rfl, y, q, rfl, hn, true, rfl, iteF ?_⟩
    refine ⟨_, rfl, y, q, rfl, hn, fun r H1 s1 hr1 => ?_⟩
    obtain ⟨dx, hd⟩ := ha.same s1
    obtain ⟨dy, he⟩ := hr1
    exact ⟨_, rfl, a, _, dx, _, _, rfl, hd, (rc Z).cl, (rc Z).nT, rfs_top _ _, _, rfl, r, _, dy, _, _, rfl, he, (rc Z).cl, (rc Z).nB, rfs_bot _ _, _, _, rfl, rfl, mulW o1.1 o2.2.1 (by decide) (by decide), _, rfl, r, _, dy, _, _, rfl, he, (rc Z).cl, (rc Z).nT, rfs_top _ _, _, rfl, a, _, dx, _, _, rfl, hd, (rc Z).cl, (rc Z).nB, rfs_bot _ _, _, _, rfl, rfl, mulW o2.1 o1.2.1 (by decide) (by decide), _, _, rfl, rfl, h H1 s1⟩

theorem good_Ratio_gt (Z : CT K mg) : GoodMd (CX0) P w K mg base 6 "__gt__" ["self", "other"] (spRCmp K (fun i j => decide (j < i))) := goodMd Z 18 d_Ratio_gt (me_Ratio_gt Z) (fun _ _ _ _ _ _ us hl => match us, hl with | [_, _], _ => rfl) fun _ F => ok_Ratio_gt Z F
/-- a Ratio == a Ratio -/
def spREq (K : PySem.W.Frag) : Sp := fun vs H Q _ => ∃ a p b q, vs = [.ref a, .ref b] ∧ RAt K H a p ∧ RAt K H b q ∧ Q (.bl (decide (p = q))) H
theorem and_ints (p q : Int × Int) : (decide (V.int p.1 = V.int q.1) && decide (V.int p.2 = V.int q.2)) = decide (p = q) := by
  rw [← Bool.decide_and]
  refine decide_eq_decide.mpr ⟨fun ⟨a, b⟩ => ?_, fun e => by rw [e]; exact ⟨rfl, rfl⟩⟩
  injection a with a
  injection b with b
  exact Prod.ext a b
theorem ok_Ratio_eq (Z : CT K mg) (F : FunD K d_Ratio_eq.name d_Ratio_eq.qual d_Ratio_eq.params d_Ratio_eq.body d_Ratio_eq.scope [] [] f fd) : FnOk P w K mg base (CX0) 2 f fd ["self", "other"] (spREq K) := by
  refine F.ok sc_Ratio_eq (fun vs H Q E h => ?_) (fun cdv A outer s H vs Q E hr h => ?_)
  · obtain ⟨a, p, b, q, rfl, _⟩ := h
    rfl
  · obtain ⟨a, p, b, q, rfl, ha, hb, h⟩ := h
    refine ⟨_, (pss_cons (ps_if (pt_val (pe_callB call_isi (by rfl) (m_isinstance Z) boot_isinstance (pa_cons (pv 1) (pa_cons (pe_glob (by rfl) (glo_Ratio Z) (rel_ref _)) pa_nil))) (fun _ => rfl)) (pss_one (ps_ret ((pe_and (pe_cmpR op_eq (pe_fld (pv 0) rfl) (pe_fld (pv 1) rfl) (nomark _)) (pe_one (pe_cmpR op_eq (pe_fld (pv 0) rfl) (pe_fld (pv 1) rfl) (nomark _))))))) pss_nil)
      (pss_one (ps_ret ((pe_and (gcall (good_is_integer Z) hr (pa_cons (pv 1) pa_nil) pass0) (pe_and (pe_cmpR op_eq (pe_fld (pv 0) rfl) (pe_int) (nomark _)) (pe_one (pe_cmpR op_eq (pe_fld (pv 0) rfl) (pv 1) (nomark _))))))))), ?_⟩
    refine ⟨_, rfl, .ref b, _, _, _, true, rfl, .own _, (rc Z).ty hb, (rc Z).rr, true, rfl, iteT ?_⟩
    obtain ⟨dx, hd⟩ := ha
    obtain ⟨dy, he⟩ := hb
    have e := and_ints p q
    refine ⟨_, rfl, a, _, dx, _, _, rfl, hd, (rc Z).cl, (rc Z).nT, rfs_top _ _, _, rfl, b, _, dy, _, _, rfl, he, (rc Z).cl, (rc Z).nT, rfs_top _ _, rfl, _, rfl, ?_⟩
    cases h1 : decide (V.int p.1 = V.int q.1) with
    | false =>
      rw [h1, Bool.false_and] at e
      rw [← e] at h
      exact iteF h
    | true =>
      rw [h1, Bool.true_and] at e
      rw [← e] at h
      exact iteT ⟨_, rfl, a, _, dx, _, _, rfl, hd, (rc Z).cl, (rc Z).nB, rfs_bot _ _, _, rfl, b, _, dy, _, _, rfl, he, (rc Z).cl, (rc Z).nB, rfs_bot _ _, rfl, h⟩

theorem good_Ratio_eq (Z : CT K mg) : GoodMd (CX0) P w K mg base 2 "__eq__" ["self", "other"] (spREq K) := goodMd Z 15 d_Ratio_eq (me_Ratio_eq Z) (fun _ _ _ _ _ _ us hl => match us, hl with | [_, _], _ => rfl) fun _ F => ok_Ratio_eq Z F
end
/-! ### own comparisons as rules -/
section
variable {X : Cx} {C f : Addr} {fd : FuncData} {sp : Sp} {k k' : Nat}
/-- x op y, x an instance of the class c, y of own class or an int or None -/
inductive TbOk (K : PySem.W.Frag) (C : Addr) (H : Hp) : V → Value → Prop
  | own {b D dy : Addr} {gs : List (Str × V)} (h : H b = some (.ins D dy gs)) (hn : PySem.W.notFirst K C (.ref D) = true) : TbOk K C H (.ref b) (.ref D)
  | int (n : Int) (hn : PySem.W.notFirst K C (.type "int") = true) : TbOk K C H (.int n) (.type "int")
  | non (hn : PySem.W.notFirst K C (.type "NoneType") = true) : TbOk K C H .non (.type "NoneType")
  | lst {b : Addr} {xs : List V} (h : H b = some (.lst xs)) (hn : PySem.W.notFirst K C (.type "list") = true) : TbOk K C H (.ref b) (.type "list")
  | str (z : Str) (hn : PySem.W.notFirst K C (.type "str") = true) : TbOk K C H (.str z) (.type "str")
theorem TbOk.look {pins : List (Addr × Obj)} {σ : L2.St} {H : Hp} {s : Shared} {y : V} {u tb : Value} (I : Inv X pins σ H s) (t : TbOk X.K C H y tb) (r : RelV y u) : PySem.W.Looks (model X.prog X.w) s.heap (typeOf u) tb ∧ PySem.W.notFirst X.K C tb = true := by
  cases t with
  | own h hn =>
    cases (show u = Value.ref _ from r)
    obtain ⟨od, J⟩ := ins_inst I h
    exact ⟨J.type, hn⟩
  | int n hn =>
    obtain ⟨t, e⟩ := (show ∃ t, u = Value.int n t from r)
    subst e
    exact ⟨PySem.W.Looks.of_pure rfl, hn⟩
  | non hn =>
    cases (show u = Value.none from r)
    exact ⟨PySem.W.Looks.of_pure rfl, hn⟩
  | @lst b xs h hn =>
    cases (show u = Value.ref _ from r)
    obtain ⟨z, its, k, rr, e⟩ := I.hok b _ h
    exact ⟨fun A Q E s k q => wpAny_typeOf_ref (k _ _ e) q, hn⟩
  | str z hn =>
    obtain ⟨t, e⟩ := (show ∃ t, u = Value.str z t from r)
    subst e
    exact ⟨PySem.W.Looks.of_pure rfl, hn⟩
def rOwnC (K : PySem.W.Frag) (C : Addr) (sp : Sp) : R2 := fun x y H Q => ∃ a dx fs tb, x = .ref a ∧ H a = some (.ins C dx fs) ∧ TbOk K C H y tb ∧ sp [x, y] H Q E0
theorem op_ownC {op : CmpOp} (hop : ∀ a b, compareOp op a b = richCompare op a b) (hs : PySem.W.findIn X.K (.ref C) (cmpInfo op).2.1 = some (some (.ref f))) (hf : PySem.W.isFn X.K (.ref f) = true) (F : FnOk X.prog X.w X.K X.mg X.base CX0 k f fd ["self", "other"] sp) (B : Binds X.K fd ["self", "other"] []) (hr : Room k' X.A) (hk : k ≤ k' := by decide) : OpR X (compareOp op) (rOwnC X.K C sp) := by
  intro pins s σ H x y v u Q I rx ry ⟨a, dx, fs, tb, ex, ha, ht, h⟩
  subst ex
  cases (show v = Value.ref a from rx)
  obtain ⟨od, J⟩ := ins_inst I ha
  obtain ⟨m, hF⟩ := I.fr
  obtain ⟨L, hn⟩ := ht.look I ry
  rw [hop]
  refine PySem.W.cmp_K (op := op) (tb := tb) hr.units0 hF I.ok.mod.kin J L hn hs hf ?_
  refine wpAny_mono (run_fn (us := [.ref a, u]) (vs := [.ref a, y]) F (hr.mono hk) B .nil pass0 I (.cons rfl (.cons ry .nil)) h) (fun w s' z => ?_) fun _ _ e => e
  obtain ⟨z', H', I', rz, qz⟩ := z
  exact SlX.cmpback rz ⟨z', H', I', rz, qz⟩
/-- == of two instances inside a tuple -/
theorem rcB_own {D : EqT} (hs : PySem.W.findIn X.K (.ref C) "__eq__" = some (some (.ref f))) (hf : PySem.W.isFn X.K (.ref f) = true) (F : FnOk X.prog X.w X.K X.mg X.base CX0 k f fd ["self", "other"] sp) (B : Binds X.K fd ["self", "other"] [])
    (hD : ∀ x y c H, D x y c H → ∃ a b dx dy fs gs, x = .ref a ∧ y = .ref b ∧ H a = some (.ins C dx fs) ∧ H b = some (.ins C dy gs) ∧ sp [x, y] H (fun v H' => v = .bl c ∧ Same H H') E0) : RcB X k D := by
  intro A pins s σ H x y c u v sb I rx ry d
  obtain ⟨a, b, dx, dy, fs, gs, ex, ey, ha, hb, h⟩ := hD _ _ _ _ d
  subst ex ey
  cases (show u = Value.ref a from rx)
  cases (show v = Value.ref b from ry)
  obtain ⟨od, J⟩ := ins_inst I ha
  obtain ⟨od', J'⟩ := ins_inst I hb
  obtain ⟨m, hF⟩ := I.fr
  have e0 : Env0 X.prog X.w X.K X.mg X.base A X.stack s H := by
    have e := I.env0
    exact ⟨by rw [sb.fr]; exact e.frames, e.mod, e.bs, e.bsz, e.funs, e.frf, e.hok, e.bare⟩
  refine PySem.W.cmp_K (op := .Eq) (tb := .ref C) sb.room.units0 hF I.ok.mod.kin J J'.type (by simp [PySem.W.notFirst]) hs hf ?_
  refine wpAny_mono (wpAny_call (SlX.run_at (us := [.ref a, .ref b]) (ws := [.ref a, .ref b]) (F.raw B .nil) sb.room e0 pass0 I (.cons rfl (.cons rfl .nil)) h)) (fun w s' z => ?_) fun _ _ e => e
  obtain ⟨z', H', I', rz, ez, ss⟩ := z
  subst ez
  cases (show w = Value.bool c from rz)
  exact ⟨rfl, H', I', ss⟩
/-- x != y, the class without an own __ne__ -/
def rOwnNe (K : PySem.W.Frag) (C : Addr) (sp : Sp) : R2 := fun x y H Q => ∃ a dx fs tb c, x = .ref a ∧ H a = some (.ins C dx fs) ∧ TbOk K C H y tb ∧ sp [x, y] H (fun v H' => v = .bl c ∧ Q (.bl (!c)) H') E0
theorem op_ownNe (hne : PySem.W.findIn X.K (.ref C) "__ne__" = some (some (.builtin "object.__ne__"))) (hob : PySem.W.subIn X.K (.ref C) (.type "object") = some true) (hs : PySem.W.findIn X.K (.ref C) "__eq__" = some (some (.ref f))) (hf : PySem.W.isFn X.K (.ref f) = true)
    (F : FnOk X.prog X.w X.K X.mg X.base CX0 k f fd ["self", "other"] sp) (B : Binds X.K fd ["self", "other"] []) (hr : Room k' X.A) (hk : k + 1 ≤ k' := by decide) : OpR X (compareOp .NotEq) (rOwnNe X.K C sp) := by
  intro pins s σ H x y v u Q I rx ry ⟨a, dx, fs, tb, c, ex, ha, ht, h⟩
  subst ex
  cases (show v = Value.ref a from rx)
  obtain ⟨od, J⟩ := ins_inst I ha
  obtain ⟨L, hn⟩ := ht.look I ry
  have r1 := (hr.mono hk).in1
  refine ne_K (by have := hr.un; omega) I.kIn J L hn hne hob hs hf ?_
  refine wpAny_mono (wpAny_call (SlX.run_at (us := [.ref a, u]) (ws := [.ref a, y]) (F.raw B .nil) r1 I.env0.in1 pass0 I (.cons rfl (.cons ry .nil)) h)) (fun w s' z => ?_) fun _ _ e => e
  obtain ⟨z', H', I', rz, ez, qz⟩ := z
  subst ez
  cases (show w = Value.bool c from rz)
  exact ⟨c, rfl, .bl (!c), H', I', rfl, qz⟩
end
/-- Ratios equal or not -/
def DRat (K : PySem.W.Frag) : EqT := fun x y c H => ∃ a b p q, x = .ref a ∧ y = .ref b ∧ RAt K H a p ∧ RAt K H b q ∧ c = decide (p = q)
theorem mon_rat {K : PySem.W.Frag} : MonT (DRat K) := fun x y c H H' s ⟨a, b, p, q, e1, e2, h1, h2, e3⟩ => ⟨a, b, p, q, e1, e2, h1.same s, h2.same s, e3⟩
theorem rcB_rat {X : Cx} (Z : CT X.K X.mg) : RcB X 2 (DRat X.K) := by
  obtain ⟨fd, F, B⟩ := (good_Ratio_eq (P := X.prog) (w := X.w) (base := X.base) Z).fn
  refine rcB_own (C := He.ga X.K "Ratio") (me_Ratio_eq Z).at_ (me_Ratio_eq Z).fn F B fun x y c H ⟨a, b, p, q, e1, e2, ⟨dx, h1⟩, ⟨dy, h2⟩, e3⟩ => ⟨a, b, dx, dy, _, _, e1, e2, h1, h2, a, p, b, q, by rw [e1, e2], ⟨dx, h1⟩, ⟨dy, h2⟩, by rw [e3], Same.refl H⟩
theorem eqB_rat {X : Cx} (Z : CT X.K X.mg) : EqB X 2 (DRat X.K) := (rcB_rat Z).eqB fun x y c H ⟨a, b, p, q, e1, e2, ⟨dx, h1⟩, ⟨dy, h2⟩, e3⟩ => ⟨a, b, e1, e2, fun e => by
  subst e
  rw [h1] at h2
  injection h2 with h2
  injection h2 with _ _ h2
  have t := congrArg (List.lookup ("top" : Str)) h2
  have u := congrArg (List.lookup ("bottom" : Str)) h2
  rw [rfs_top, rfs_top] at t
  rw [rfs_bot, rfs_bot] at u
  injection t with t; injection t with t
  injection u with u; injection u with u
  rw [e3]
  exact decide_eq_true (Prod.ext t u)⟩
theorem opRatEq {X : Cx} {k : Nat} (Z : CT X.K X.mg) (hr : Room k X.A) (hk : 2 ≤ k := by decide) : OpR X (compareOp .Eq) (rEqB (DRat X.K)) := op_eqB (rcB_rat Z) (hr.mono hk)
theorem opWeEq {X : Cx} {k : Nat} (Z : CT X.K X.mg) (hr : Room k X.A) (hk : 3 ≤ k := by decide) : OpR X (compareOp .Eq) (rEqB (DTupB X.K (DRat X.K))) := op_eqB (rcB_tup mon_rat (eqB_rat Z)) (hr.mono hk)
section
variable {X : Cx} {k : Nat}
theorem opRGt (Z : CT X.K X.mg) (hr : Room k X.A) (hk : 6 ≤ k := by decide) : OpR X (compareOp .Gt) (rOwnC X.K (He.ga X.K "Ratio") (spRCmp X.K (fun i j => decide (j < i)))) := by
  obtain ⟨fd, F, B⟩ := (good_Ratio_gt (P := X.prog) (w := X.w) (base := X.base) Z).fn
  exact op_ownC (op := .Gt) (fun _ _ => rfl) (me_Ratio_gt Z).at_ (me_Ratio_gt Z).fn F B hr hk
/-- a number < 0 -/
def rLtN (K : PySem.W.Frag) : R2 := fun x y H Q => ∃ p, y = .int 0 ∧ Num K H x p ∧ Okq 3900 p ∧ ∀ H', Same H H' → Q (.bl (decide (p.1 < 0))) H'
theorem opLtN (Z : CT X.K X.mg) (hr : Room k X.A) (hk : 6 ≤ k := by decide) : OpR X (compareOp .Lt) (rLtN X.K) := by
  obtain ⟨fd, F, B⟩ := (good_Ratio_lt (P := X.prog) (w := X.w) (base := X.base) Z).fn
  refine op_imp (opR_or (op_lt (X := X)) (op_ownC (op := .Lt) (C := He.ga X.K "Ratio") (fun _ _ => rfl) (me_Ratio_lt Z).at_ (me_Ratio_lt Z).fn F B hr hk)) fun x y H Q ⟨p, ey, hn, o, h⟩ => ?_
  cases hn with
  | int i => exact .inl ⟨i, 0, rfl, ey, h H (Same.refl H)⟩
  | @rat a q hr1 =>
    obtain ⟨dx, hd⟩ := hr1
    refine .inr ⟨a, dx, _, _, rfl, hd, by rw [ey]; exact .int 0 (by unfold PySem.W.notFirst; rw [show PySem.W.subIn X.K (.type "int") (.ref (He.ga X.K "Ratio")) = some false from (rc Z).ir]; simp), a, p, y, (0, 1), rfl, ⟨dx, hd⟩, by rw [ey]; exact .int 0, o, ⟨by decide, by decide, by decide⟩, fun H' s => ?_⟩
    have e : decide (p.1 * 1 < 0 * p.2) = decide (p.1 < 0) := by rw [Int.mul_one, Int.zero_mul]
    show Q (.bl (decide (p.1 * 1 < 0 * p.2))) H'
    rw [e]
    exact h H' s
end
end My

namespace My
open PySem PySem.Spec PyProof.Rows L2 PySem.Calls

structure GoodMq (CX : CXT) (P : Program) (w : World) (K : PySem.W.Frag) (mg : Str → Option Value) (base : Heap) (k : Nat) (c m : Str) (ps : List Str) (sp : Sp) : Prop where
  me : Meth K (He.ga K c) m (He.ma K (He.ga K c) m)
  fn : ∃ fd, FnOk P w K mg base CX k (He.ma K (He.ga K c) m) fd ps sp ∧ Binds K fd ps []
theorem goodMq {K : PySem.W.Frag} {mg : Str → Option Value} {CX : CXT} {P : Program} {w : World} {base : Heap} {k : Nat} {c m : Str} {ps : List Str} {sp : Sp} (Z : CT K mg) (i : Nat) (d : He.DefD) (me : Meth K (He.ga K c) m (He.ma K (He.ga K c) m))
    (hb : ∀ (kV doc pm : Value) (an : Option Addr) (cdv ct : Value) (us : List Value), us.length = ps.length → bindArgs (PySem.W.fnOf d.name d.qual d.params d.body d.scope .none kV doc pm an cdv ct) ⟨us, []⟩ = pure (ps.zip us))
    (ok : ∀ fd, FunD K d.name d.qual d.params d.body d.scope [] [] (He.ma K (He.ga K c) m) fd → FnOk P w K mg base CX k (He.ma K (He.ga K c) m) fd ps sp)
    (hd : fn[i]? = some d := by rfl) (hx : d.at_ = (c, some m) := by rfl) (hdf : d.dfl = [] := by rfl) (hkw : d.kwd = [] := by rfl) : GoodMq CX P w K mg base k c m ps sp := by
  obtain ⟨fd, F⟩ := Z.d.def_ i hd
  have e1 : d.dvs K = [] := by unfold He.DefD.dvs; rw [hdf]; rfl
  have e2 : d.kws K = [] := by unfold He.DefD.kws; rw [hkw]; rfl
  have e3 : He.fAd K d.at_ = He.ma K (He.ga K c) m := by rw [hx]; rfl
  rw [e1, e2, e3] at F
  exact ⟨me, fd, ok fd F, F.bindsN hb⟩
/-! ### the answer of a question -/
def prodQ (qs ns : List (Int × Int)) : List (Int × Int) := List.zipWith mulQ qs ns
def partQ (qs ns : List (Int × Int)) (i : Nat) : Int × Int := ((prodQ qs ns).take i).foldl addQ (0, 1)
def atQ (qs ns : List (Int × Int)) : Int × Int := partQ qs ns (prodQ qs ns).length
theorem partQ_succ {qs ns : List (Int × Int)} {i : Nat} {p q : Int × Int} (h1 : qs[i]? = some p) (h2 : ns[i]? = some q) : partQ qs ns (i + 1) = addQ (partQ qs ns i) (mulQ p q) := by
  unfold partQ prodQ
  rw [List.take_add_one, List.getElem?_zipWith, h1, h2, List.foldl_append]; rfl
theorem okq_mulQ {p q : Int × Int} {A B C : Nat} (h1 : Okq A p) (h2 : Okq B q) (h : A + B ≤ C) : Okq C (mulQ p q) := ok_nrm (bnd_mul h1.1 h2.1 h) (bnd_mul h1.2.1 h2.2.1 h) (ne_mul h1.2.2 h2.2.2)
theorem okq_addQ {p q : Int × Int} {A B C : Nat} (h1 : Okq A p) (h2 : Okq B q) (h : A + B + 1 ≤ C) : Okq C (addQ p q) := ok_nrm (bnd_le (bnd_add (bnd_mul h1.1 h2.2.1 (Nat.le_refl _)) (bnd_mul h2.1 h1.2.1 (by omega))) h) (bnd_mul h1.2.1 h2.2.1 (by omega)) (ne_mul h1.2.2 h2.2.2)
theorem partQ_ok {qs ns : List (Int × Int)} {A B : Nat} (h1 : ∀ p ∈ qs, Okq A p) (h2 : ∀ p ∈ ns, Okq B p) : ∀ i, i ≤ qs.length → i ≤ ns.length → Okq (1 + i * (A + B + 1)) (partQ qs ns i)
  | 0, _, _ => by
    rw [Nat.zero_mul]
    exact ⟨by show (0 : Int).natAbs < 2 ^ 1; decide, by show (1 : Int).natAbs < 2 ^ 1; decide, by show (1 : Int) ≠ 0; decide⟩
  | i + 1, l1, l2 => by
    have ih := partQ_ok h1 h2 i (by omega) (by omega)
    have e1 := List.getElem?_eq_getElem (l := qs) (i := i) (by omega)
    have e2 := List.getElem?_eq_getElem (l := ns) (i := i) (by omega)
    rw [partQ_succ e1 e2]
    exact okq_addQ ih (okq_mulQ (h1 _ (List.getElem_mem _)) (h2 _ (List.getElem_mem _)) (Nat.le_refl _)) (by rw [Nat.succ_mul]; omega)
section
variable {P : Program} {w : World} {K : PySem.W.Frag} {mg : Str → Option Value} {base : Heap} {fd : FuncData} {f : Addr}
/-- q.at(world) -/
def spAt (K : PySem.W.Frag) : Sp := fun vs H Q E => ∃ (a w : Addr) (zs : List Str) (qs : List (Int × Int)) (xs : List V) (bs : List Bool), vs = [.ref a, .ref w] ∧ QAt K H a zs qs ∧ qs.length = zs.length ∧ qs.length ≤ 4 ∧ SqA H w xs ∧ bs.length = xs.length ∧ xs.length ≤ 900 ∧ (∀ (i : Nat) (x : V), xs[i]? = some x → ∃ b, bs[i]? = some b ∧ NumB K H x b) ∧
  (xs.length = qs.length → bs.all id = true → ∃ ns, NumsAt K H xs ns ∧ (∀ p ∈ qs, Okq 200 p) ∧ (∀ p ∈ ns, Okq 700 p) ∧ NewR K H (atQ qs ns) Q) ∧ (¬ (xs.length = qs.length ∧ bs.all id = true) → WoW K H E)
theorem ok_Question_at (Z : CT K mg) (F : FunD K d_Question_at.name d_Question_at.qual d_Question_at.params d_Question_at.body d_Question_at.scope [] [] f fd) : FnOk P w K mg base (L2N.CX P w) 8 f fd ["self", "world"] (spAt K) := by
  refine F.ok sc_Question_at (fun vs H Q E h => ?_) (fun cdv A outer s H vs Q E hr h => ?_)
  · obtain ⟨a, w0, zs, qs, xs, bs, rfl, _⟩ := h
    rfl
  · obtain ⟨a, w0, zs, qs, xs, bs, rfl, hq, hl, h4, hw, hbl, hn, hb, good, bad⟩ := h
    refine ⟨_, (pss_cons (ps_if (pt_not (pt_val (gcall (good_are_numbers Z) hr (pa_cons (pv 1) (pa_cons (pe_callB call_lenT (by rfl) (m_len Z) PySem.boot_len (pa_cons (pe_fld (pv 0) rfl) pa_nil)) pa_nil)) pass0) (fun _ => rfl))) (pss_one (L2N.ps_raise rfl (L2N.takes_of rfl rfl rfl rfl) (rz_NoWorld Z))) pss_nil)
      (pss_cons (ps_set (i := 2) sc_Question_at.nd rfl (by first | exact Or.inl rfl | exact Or.inr rfl) (mkR1 Z hr (pa_cons pe_int pa_nil) (L2N.passes_call (L2N.takes_of rfl rfl rfl rfl) (fun _ _ _ _ h => h))))
      (pss_cons (ps_for (passes_of rfl) rfl (pi_zipM rfl (m_zip Z) (pa_cons (pe_fld (pv 0) rfl) (pa_cons (pv 1) pa_nil))) (pg_tup rfl (pgs_cons (pg_name (i := 3) sc_Question_at.nd rfl (Or.inl rfl)) (pgs_cons (pg_name (i := 4) sc_Question_at.nd rfl (Or.inl rfl)) pgs_nil))) (pss_one (ps_set (i := 2) sc_Question_at.nd rfl (by first | exact Or.inl rfl | exact Or.inr rfl) (pe_op (opAdd Z hr ) (pv 2) (pe_op (opMul Z hr ) (pv 3) (pv 4))))))
      (pss_one (ps_ret (pv 2)))))), ?_⟩
    obtain ⟨dx, e, w1, ws, hq⟩ := hq
    have lz : (zs.map V.str).length = zs.length := List.length_map _
    refine ⟨_, rfl, _, rfl, a, _, dx, _, _, rfl, hq.o, (oc_Q Z).cl, no_Question_effects Z, qfs_e _ _, e, _, rfl, SqT.of hq.e, w0, xs, _, bs, rfl, hw, hbl, hn, hb, fun H1 s1 => ⟨_, rfl, ?_⟩⟩
    have ed : (decide ((xs.length : Int) = (((zs.map V.str).length : Nat) : Int)) && bs.all id) = decide (xs.length = qs.length ∧ bs.all id = true) := by
      rw [lz, ← hl, Bool.decide_and, Bool.decide_eq_true]
      congr 1
      exact decide_eq_decide.mpr ⟨fun e => by omega, fun e => by omega⟩
    rw [ed]
    by_cases hc : xs.length = qs.length ∧ bs.all id = true
    · rw [decide_eq_true hc]
      refine iteF ?_
      obtain ⟨hlen, hall⟩ := hc
      obtain ⟨ns, hns, b1, b2, k⟩ := good hlen hall
      refine ⟨_, rfl, askR_ok (by decide) (by decide) fun r0 H2 s2 hr0 => ?_⟩
      rw [nrm_one] at hr0
      have s02 := s1.trans s2
      have h2 := hq.same s02
      rcases hw.same s02 with hsq | hsq
      · refine ⟨_, rfl, a, _, dx, _, _, rfl, h2.o, (oc_Q Z).cl, no_Question_weights Z, qfs_w _ _, _, rfl, w1, w0, ws, xs, rfl, SqT.of h2.w, .inr ⟨SqL.of hsq, ?_⟩⟩
        refine for_it (walk_ztl (n := ws.length) (by rw [h2.r.1, hlen]; simp)) (fun i σ H3 => Same H2 H3 ∧ ∃ (r : Addr) (u v : Option V), σ = [some (.ref a), some (.ref w0), some (.ref r), u, v] ∧ RAt K H3 r (partQ qs ns i)) ⟨Same.refl _, r0, _, _, rfl, hr0⟩ (fun i σ H3 _ ⟨s, _⟩ => ⟨SqT.of (s _ _ h2.w), SqL.of (s _ _ hsq)⟩) ?_ ?_
        · rintro i x σ H3 H4 hi ⟨s3, r, u, v, rfl, hr⟩ ⟨T, y1, y2, rfl, hT, rfl, e1, e2⟩
          have s4 : Same H3 (upd H3 T (.tup [y1, y2])) := same_new hT
          have li : i < qs.length := by rw [← h2.r.1]; exact hi
          have eq1 := List.getElem?_eq_getElem li
          have ln : i < ns.length := by rw [← hns.1, hlen]; exact li
          have eq2 := List.getElem?_eq_getElem ln
          obtain ⟨r1, er1, hr1⟩ := h2.r.2 i y1 _ e1 eq1
          have hn2 := hns.2 i y2 _ e2 eq2
          subst er1
          have op := b1 _ (List.getElem_mem li)
          have oq := b2 _ (List.getElem_mem ln)
          have pi := partQ_ok b1 b2 i (by omega) (by omega)
          have le : 1 + i * (200 + 700 + 1) ≤ 3900 := by have : i * 901 ≤ 4 * 901 := Nat.mul_le_mul_right _ (by omega); omega
          refine ⟨T, _, rfl, SqT.of upd_same, rfl, _, _, rfl, _, _, rfl, rfl, ?_⟩
          have s24 := s3.trans s4
          refine ⟨_, rfl, _, rfl, _, rfl, _, _, .rat (hr1.same s24), hn2.same (s02.trans s24), .inl ⟨_, rfl⟩, op.le (by decide), oq.le (by decide), fun r5 H5 s5 hr5 => ?_⟩
          refine ⟨_, _, .rat ((hr.same s4).same s5), .rat hr5, .inl ⟨_, rfl⟩, pi.le le, (okq_mulQ op oq (Nat.le_refl _)).le (by decide), fun r6 H6 s6 hr6 => ?_⟩
          refine ⟨(s24.trans s5).trans s6, r6, _, _, rfl, ?_⟩
          rw [partQ_succ eq1 eq2]
          exact hr6
        · rintro σ H3 ⟨s3, r, u, v, rfl, hr⟩
          refine ⟨_, rfl, k r H3 (s02.trans s3) ?_⟩
          have el : ws.length = (prodQ qs ns).length := by unfold prodQ; rw [List.length_zipWith, ← hns.1, hlen, Nat.min_self]; exact h2.r.1
          rw [el] at hr
          exact hr
      · refine ⟨_, rfl, a, _, dx, _, _, rfl, h2.o, (oc_Q Z).cl, no_Question_weights Z, qfs_w _ _, _, rfl, w1, w0, ws, xs, rfl, SqT.of h2.w, .inl ⟨SqT.of hsq, ?_⟩⟩
        refine for_it (walk_ztt (n := ws.length) (by rw [h2.r.1, hlen]; simp)) (fun i σ H3 => Same H2 H3 ∧ ∃ (r : Addr) (u v : Option V), σ = [some (.ref a), some (.ref w0), some (.ref r), u, v] ∧ RAt K H3 r (partQ qs ns i)) ⟨Same.refl _, r0, _, _, rfl, hr0⟩ (fun i σ H3 _ ⟨s, _⟩ => ⟨SqT.of (s _ _ h2.w), SqT.of (s _ _ hsq)⟩) ?_ ?_
        · rintro i x σ H3 H4 hi ⟨s3, r, u, v, rfl, hr⟩ ⟨T, y1, y2, rfl, hT, rfl, e1, e2⟩
          have s4 : Same H3 (upd H3 T (.tup [y1, y2])) := same_new hT
          have li : i < qs.length := by rw [← h2.r.1]; exact hi
          have eq1 := List.getElem?_eq_getElem li
          have ln : i < ns.length := by rw [← hns.1, hlen]; exact li
          have eq2 := List.getElem?_eq_getElem ln
          obtain ⟨r1, er1, hr1⟩ := h2.r.2 i y1 _ e1 eq1
          have hn2 := hns.2 i y2 _ e2 eq2
          subst er1
          have op := b1 _ (List.getElem_mem li)
          have oq := b2 _ (List.getElem_mem ln)
          have pi := partQ_ok b1 b2 i (by omega) (by omega)
          have le : 1 + i * (200 + 700 + 1) ≤ 3900 := by have : i * 901 ≤ 4 * 901 := Nat.mul_le_mul_right _ (by omega); omega
          refine ⟨T, _, rfl, SqT.of upd_same, rfl, _, _, rfl, _, _, rfl, rfl, ?_⟩
          have s24 := s3.trans s4
          refine ⟨_, rfl, _, rfl, _, rfl, _, _, .rat (hr1.same s24), hn2.same (s02.trans s24), .inl ⟨_, rfl⟩, op.le (by decide), oq.le (by decide), fun r5 H5 s5 hr5 => ?_⟩
          refine ⟨_, _, .rat ((hr.same s4).same s5), .rat hr5, .inl ⟨_, rfl⟩, pi.le le, (okq_mulQ op oq (Nat.le_refl _)).le (by decide), fun r6 H6 s6 hr6 => ?_⟩
          refine ⟨(s24.trans s5).trans s6, r6, _, _, rfl, ?_⟩
          rw [partQ_succ eq1 eq2]
          exact hr6
        · rintro σ H3 ⟨s3, r, u, v, rfl, hr⟩
          refine ⟨_, rfl, k r H3 (s02.trans s3) ?_⟩
          have el : ws.length = (prodQ qs ns).length := by unfold prodQ; rw [List.length_zipWith, ← hns.1, hlen, Nat.min_self]; exact h2.r.1
          rw [el] at hr
          exact hr
    · rw [decide_eq_false hc]
      exact iteT (bad hc _ s1)

theorem good_Question_at (Z : CT K mg) : GoodMq (L2N.CX P w) P w K mg base 8 "Question" "at" ["self", "world"] (spAt K) := goodMq Z 43 d_Question_at (me_Question_at Z) (fun _ _ _ _ _ _ us hl => match us, hl with | [_, _], _ => rfl) fun _ F => ok_Question_at Z F
end
end My

namespace My
open PySem PySem.Spec PyProof.Rows L2 PySem.Calls

/-! ### texts compared -/
theorem dp_strs {K : PySem.W.Frag} {H : Hp} : ∀ zs : List Str, DpAll K H (zs.map V.str) (zs.map PyData.str)
  | [] => .nil
  | z :: zs => .cons (.str z) (dp_strs zs)
theorem eqv_strs : ∀ zs ys : List Str, PyData.eqv (.tuple (zs.map .str)) (.tuple (ys.map .str)) = decide (zs = ys) := by
  have h : ∀ zs ys : List Str, PyData.eqvAll (zs.map .str) (ys.map .str) = decide (zs = ys) := by
    intro zs
    induction zs with
    | nil =>
      intro ys
      cases ys with
      | nil => rfl
      | cons y ys => rfl
    | cons z zs ih =>
      intro ys
      cases ys with
      | nil => rfl
      | cons y ys =>
        show (PyData.eqv (.str z) (.str y) && PyData.eqvAll (zs.map .str) (ys.map .str)) = _
        rw [ih]
        show ((z == y) && decide (zs = ys)) = decide (z :: zs = y :: ys)
        rw [show (z == y) = decide (z = y) from by by_cases e : z = y <;> simp [e], ← Bool.decide_and]
        exact decide_eq_decide.mpr ⟨fun ⟨a, b⟩ => by rw [a, b], fun e => by injection e with a b; exact ⟨a, b⟩⟩
  exact fun zs ys => h zs ys
theorem lds_lt : ∀ c ∈ LDS.cps.toList, c < 1114112 := by decide +kernel
theorem nm_strOk {z : Str} (h : NmOk z) : PyData.strOk z = true := by
  unfold PyData.strOk
  rw [Array.all_eq_true]
  intro i hi
  exact decide_eq_true (lds_lt _ (h.all i _ (Array.getElem?_eq_getElem hi)))
theorem shp_strs {zs : List Str} (h : EfOk zs) : SeqAt.shaped (.tuple (zs.map PyData.str)) = true := by
  have lay : ∀ zs : List Str, (∀ z ∈ zs, NmOk z) → PyData.canLayAll0 (zs.map PyData.str) = true := by
    intro zs
    induction zs with
    | nil => intro _; rfl
    | cons z zs ih =>
      intro h
      show (PyData.strOk z && PyData.canLayAll0 (zs.map PyData.str)) = true
      rw [nm_strOk (h z (.head _)), ih fun y hy => h y (.tail _ hy)]; rfl
  have dep : ∀ zs : List Str, PyData.depthAll (zs.map PyData.str) = 0 := by
    intro zs
    induction zs with
    | nil => rfl
    | cons z zs ih =>
      show max 0 (PyData.depthAll (zs.map PyData.str)) = 0
      rw [ih]; rfl
  unfold SeqAt.shaped
  have a : PyData.canLay0 (.tuple (zs.map PyData.str)) = true := lay zs h.nm
  have b : PyData.depth (.tuple (zs.map PyData.str)) = 1 := by
    show PyData.depthAll (zs.map PyData.str) + 1 = 1
    rw [dep]
  rw [a, b]; rfl
theorem all_dec {α : Type} [DecidableEq α] : ∀ {xs ys : List α}, xs.length = ys.length → (List.zipWith (fun a b => decide (a = b)) xs ys).all id = decide (xs = ys)
  | [], [], _ => rfl
  | x :: xs, y :: ys, h => by
    rw [List.zipWith_cons_cons, List.all_cons, all_dec (by simpa using h)]
    show (decide (x = y) && decide (xs = ys)) = decide (x :: xs = y :: ys)
    rw [← Bool.decide_and]
    exact decide_eq_decide.mpr ⟨fun ⟨a, b⟩ => by rw [a, b], fun e => by injection e with a b; exact ⟨a, b⟩⟩
/-- the weights, item by item -/
theorem we_eq {K : PySem.W.Frag} {H : Hp} {a b : Addr} {ws us : List V} {qs rs : List (Int × Int)} (ha : H a = some (.tup ws)) (hb : H b = some (.tup us)) (h1 : RsAt K H ws qs) (h2 : RsAt K H us rs) (hl : qs.length = rs.length) : DTupB K (DRat K) (.ref a) (.ref b) (decide (qs = rs)) H := by
  refine ⟨a, b, ws, us, List.zipWith (fun a b => decide (a = b)) qs rs, rfl, rfl, SqT.of ha, SqT.of hb, by rw [h1.1, h2.1, hl], by rw [List.length_zipWith, ← hl, Nat.min_self, h1.1], fun i x y k e1 e2 e3 => ?_, (all_dec hl).symm⟩
  rw [List.getElem?_zipWith] at e3
  cases g1 : qs[i]? with
  | none => rw [g1] at e3; simp at e3
  | some p =>
    cases g2 : rs[i]? with
    | none => rw [g1, g2] at e3; simp at e3
    | some q =>
      rw [g1, g2] at e3
      obtain ⟨r, er, hr⟩ := h1.2 i x p e1 g1
      obtain ⟨u, eu, hu⟩ := h2.2 i y q e2 g2
      exact ⟨r, u, p, q, er, eu, hr, hu, (Option.some.inj e3).symm⟩
section
variable {P : Program} {w : World} {K : PySem.W.Frag} {mg : Str → Option Value} {base : Heap} {fd : FuncData} {f : Addr}
/-- q == r -/
def spQEq (K : PySem.W.Frag) : Sp := fun vs H Q _ => ∃ (a b : Addr) (zs ys : List Str) (qs rs : List (Int × Int)), vs = [.ref a, .ref b] ∧ QAt K H a zs qs ∧ QAt K H b ys rs ∧ EfOk zs ∧ EfOk ys ∧ ys.length = zs.length ∧ qs.length = zs.length ∧ rs.length = zs.length ∧ ∀ H', Same H H' → Q (.bl (decide (zs = ys ∧ qs = rs))) H'
theorem ok_Question_eq (Z : CT K mg) (F : FunD K d_Question_eq.name d_Question_eq.qual d_Question_eq.params d_Question_eq.body d_Question_eq.scope [] [] f fd) : FnOk P w K mg base (CX0) 4 f fd ["self", "other"] (spQEq K) := by
  refine F.ok sc_Question_eq (fun vs H Q E h => ?_) (fun cdv A outer s H vs Q E hr h => ?_)
  · obtain ⟨a, b, zs, ys, qs, rs, rfl, _⟩ := h
    rfl
  · obtain ⟨a, b, zs, ys, qs, rs, rfl, ha, hb, k1, k2, l2, l3, l4, q⟩ := h
    refine ⟨_, (pss_one (ps_ret ((pe_and (pe_callB call_isi (by rfl) (m_isinstance Z) boot_isinstance (pa_cons (pv 1) (pa_cons (pe_glob (by rfl) (glo_Question Z) (rel_ref _)) pa_nil))) (pe_and (pe_cmpR (op_eqD hr.units) (pe_fld (pv 0) rfl) (pe_fld (pv 1) rfl) (nomark _)) (pe_one (pe_cmpR (opWeEq Z hr) (pe_fld (pv 0) rfl) (pe_fld (pv 1) rfl) (nomark _)))))))), ?_⟩
    obtain ⟨dx, e1, w1, ws, ha⟩ := ha
    obtain ⟨dy, e2, w2, us, hb⟩ := hb
    refine ⟨_, rfl, .ref b, _, _, _, true, rfl, .own _, (oc_Q Z).ty hb.o, (oc_Q Z).rr, true, rfl, ?_⟩
    refine ⟨_, rfl, a, _, dx, _, _, rfl, ha.o, (oc_Q Z).cl, no_Question_effects Z, qfs_e _ _, _, rfl, b, _, dy, _, _, rfl, hb.o, (oc_Q Z).cl, no_Question_effects Z, qfs_e _ _, _, _, .tup (SqT.of ha.e) (dp_strs zs), .tup (SqT.of hb.e) (dp_strs ys), shp_strs k1, shp_strs k2, ?_⟩
    rw [eqv_strs]
    by_cases hz : zs = ys
    · rw [decide_eq_true hz]
      refine ⟨_, rfl, ?_⟩
      refine ⟨_, rfl, a, _, dx, _, _, rfl, ha.o, (oc_Q Z).cl, no_Question_weights Z, qfs_w _ _, _, rfl, b, _, dy, _, _, rfl, hb.o, (oc_Q Z).cl, no_Question_weights Z, qfs_w _ _, _, we_eq ha.w hb.w ha.r hb.r (by omega), fun H1 s1 => ?_⟩
      have z := q H1 s1
      rw [show decide (zs = ys ∧ qs = rs) = decide (qs = rs) from decide_eq_decide.mpr ⟨fun h => h.2, fun h => ⟨hz, h⟩⟩] at z
      exact z
    · rw [decide_eq_false hz]
      refine ⟨_, rfl, ?_⟩
      have z := q H (Same.refl H)
      rw [decide_eq_false (fun h : zs = ys ∧ qs = rs => hz h.1)] at z
      exact z

theorem good_Question_eq (Z : CT K mg) : GoodMq (CX0) P w K mg base 4 "Question" "__eq__" ["self", "other"] (spQEq K) := goodMq Z 44 d_Question_eq (me_Question_eq Z) (fun _ _ _ _ _ _ us hl => match us, hl with | [_, _], _ => rfl) fun _ F => ok_Question_eq Z F
/-- the effects are the same -/
def spSame (K : PySem.W.Frag) : Sp := fun vs H Q _ => ∃ (a b : Addr) (zs : List Str) (qs rs : List (Int × Int)), vs = [.ref a, .ref b] ∧ QAt K H a zs qs ∧ QAt K H b zs rs ∧ EfOk zs ∧ ∀ H', Same H H' → Q .non H'
theorem ok_check_same_effects (Z : CT K mg) (F : FunD K d_check_same_effects.name d_check_same_effects.qual d_check_same_effects.params d_check_same_effects.body d_check_same_effects.scope [] [] f fd) : FnOk P w K mg base (CX0) 2 f fd ["one", "other"] (spSame K) := by
  refine F.ok sc_check_same_effects (fun vs H Q E h => ?_) (fun cdv A outer s H vs Q E hr h => ?_)
  · obtain ⟨a, b, zs, qs, rs, rfl, _⟩ := h
    rfl
  · obtain ⟨a, b, zs, qs, rs, rfl, ha, hb, ok, q⟩ := h
    refine ⟨_, (pss_one (ps_if (pt_cmpR (op_neD hr.units) (pe_fld (pv 0) rfl) (pe_fld (pv 1) rfl) (nomark _)) (pss_one ps_never) pss_nil)), ?_⟩
    obtain ⟨dx, e1, w1, ws, ha⟩ := ha
    obtain ⟨dy, e2, w2, us, hb⟩ := hb
    refine ⟨_, rfl, a, _, dx, _, _, rfl, ha.o, (oc_Q Z).cl, no_Question_effects Z, qfs_e _ _, _, rfl, b, _, dy, _, _, rfl, hb.o, (oc_Q Z).cl, no_Question_effects Z, qfs_e _ _, _, _, .tup (SqT.of ha.e) (dp_strs zs), .tup (SqT.of hb.e) (dp_strs zs), shp_strs ok, shp_strs ok, ?_⟩
    rw [eqv_strs, decide_eq_true rfl]
    exact ⟨_, rfl, iteF (q _ (Same.refl _))⟩

theorem good_check_same_effects (Z : CT K mg) : GoodF (CX0) P w K mg base 2 "check_same_effects" ["one", "other"] (spSame K) := Z.good 51 18 d_check_same_effects (fun _ _ _ _ _ _ us hl => match us, hl with | [_, _], _ => rfl) fun _ F => ok_check_same_effects Z F
/-- q + r -/
def spQAdd (K : PySem.W.Frag) : Sp := fun vs H Q _ => ∃ (a b : Addr) (zs : List Str) (qs rs : List (Int × Int)), vs = [.ref a, .ref b] ∧ QAt K H a zs qs ∧ QAt K H b zs rs ∧ EfOk zs ∧ qs.length = zs.length ∧ rs.length = zs.length ∧ (∀ p ∈ qs, Okq 3900 p) ∧ (∀ p ∈ rs, Okq 3900 p) ∧ ∀ p H', Same H H' → QAt K H' p zs (List.zipWith addQ qs rs) → Q (.ref p) H'
theorem ok_Question_add (Z : CT K mg) (F : FunD K d_Question_add.name d_Question_add.qual d_Question_add.params d_Question_add.body d_Question_add.scope [] [] f fd) : FnOk P w K mg base (CX0) 9 f fd ["self", "other"] (spQAdd K) := by
  refine F.ok sc_Question_add (fun vs H Q E h => ?_) (fun cdv A outer s H vs Q E hr h => ?_)
  · obtain ⟨a, b, zs, qs, rs, rfl, _⟩ := h
    rfl
  · obtain ⟨a, b, zs, qs, rs, rfl, ha, hb, ok, l3, l4, o1, o2, q⟩ := h
    refine ⟨_, (pss_cons (ps_if (pt_not (pt_val (pe_callB call_isi (by rfl) (m_isinstance Z) boot_isinstance (pa_cons (pv 1) (pa_cons (pe_glob (by rfl) (glo_Question Z) (rel_ref _)) pa_nil))) (fun _ => rfl))) (pss_one ps_never) pss_nil)
      (pss_cons (ps_expr (gcall (good_check_same_effects Z) hr (pa_cons (pv 0) (pa_cons (pv 1) pa_nil)) pass0))
      (pss_one (ps_ret (mkQ Z hr (pa_cons (pe_fld (pv 0) rfl) (pa_cons (pe_lc (own := [("one", 2), ("two", 3)]) (g := gTup K 2 (gCons (gName 2) (gCons (gName 3) gNil))) (by rfl) sc_Question_add.nd (pi_zipM rfl (m_zip Z) (pa_cons (pe_fld (pv 0) rfl) (pa_cons (pe_fld (pv 1) rfl) pa_nil))) (blkOk_by (own := [("one", 2), ("two", 3)]) (N := ["self", "other", "one", "two"]) (sc := defScope s_Question_add) (by decide +kernel)) (fun _ _ _ _ _ => pg_tup rfl (pgs_cons (pg_name (i := 2) sc_Question_add.nd rfl (Or.inl rfl)) (pgs_cons (pg_name (i := 3) sc_Question_add.nd rfl (Or.inl rfl)) pgs_nil))) (fun _ _ _ _ _ => pts_nil) (fun _ _ _ _ _ => pe_op ((show OpR _ _ (rBin K addQ) from opAdd Z hr )) (pv 2) (pv 3))) pa_nil))))))), ?_⟩
    have l1 := ok.hi
    have ha0 := ha
    have hb0 := hb
    obtain ⟨dx0, _, _, _, hbx⟩ := hb0
    refine ⟨_, rfl, .ref b, _, _, _, true, rfl, .own _, (oc_Q Z).ty hbx.o, (oc_Q Z).rr, true, rfl, iteF ?_⟩
    refine ⟨_, rfl, _, rfl, a, b, zs, qs, rs, rfl, ha, hb, ok, fun H0 s0 => ?_⟩
    replace q := fun p H' (s : Same H0 H') => q p H' (s0.trans s)
    obtain ⟨dx, e1, w1, ws, ha⟩ := ha.same s0
    obtain ⟨dy, e2, w2, us, hb⟩ := hb.same s0
    refine ⟨_, rfl, a, _, dx, _, _, rfl, ha.o, (oc_Q Z).cl, no_Question_effects Z, qfs_e _ _, _, rfl, a, _, dx, _, _, rfl, ha.o, (oc_Q Z).cl, no_Question_weights Z, qfs_w _ _, _, rfl, b, _, dy, _, _, rfl, hb.o, (oc_Q Z).cl, no_Question_weights Z, qfs_w _ _, w1, w2, ws, us, rfl, SqT.of ha.w, .inl ⟨SqT.of hb.w, ?_⟩⟩
    intro D hD
    refine comp hD (n := ws.length) (G := fun H => SqT K H w1 ws ∧ SqT K H w2 us) (walk_ztt (by rw [ha.r.1, hb.r.1, l3, l4]; simp)) (fun j y H' => ∃ r, y = .ref r ∧ RAt K H' r ((List.zipWith addQ qs rs).getD j (0, 0))) (fun _ _ _ _ ⟨r, e, z⟩ k => ⟨r, e, rat_mon z k⟩) (by rw [ha.r.1]; omega) (fun H' s => ⟨SqT.of (s _ _ ha.w), SqT.of (s _ _ hb.w)⟩) ?_ ?_
    · rintro i x H2 H2b R hi s2 ⟨T, y1, y2, rfl, hT, rfl, g1, g2⟩ k
      have s3 : Same H2 (upd H2 T (.tup [y1, y2])) := same_new hT
      have i1 : i < qs.length := by rw [← ha.r.1]; exact hi
      have i2 : i < rs.length := by omega
      obtain ⟨r1, er1, hr1⟩ := ha.r.2 i y1 _ g1 (List.getElem?_eq_getElem i1)
      obtain ⟨r2, er2, hr2⟩ := hb.r.2 i y2 _ g2 (List.getElem?_eq_getElem i2)
      subst er1 er2
      refine ⟨T, _, rfl, SqT.of upd_same, rfl, _, _, rfl, _, _, rfl, rfl, rfl, ?_⟩
      have s23 := s2.trans s3
      refine ⟨_, rfl, _, rfl, _, _, .rat (hr1.same s23), .rat (hr2.same s23), .inl ⟨_, rfl⟩, o1 _ (List.getElem_mem i1), o2 _ (List.getElem_mem i2), fun r5 H5 s5 hr5 => k _ _ (s3.trans s5) ⟨r5, rfl, ?_⟩⟩
      rw [List.getD_eq_getElem?_getD, List.getElem?_zipWith, List.getElem?_eq_getElem i1, List.getElem?_eq_getElem i2]
      exact hr5
    · intro acc H2 s2 hacc hlen hall
      have lz : (List.zipWith addQ qs rs).length = acc.length := by rw [List.length_zipWith, l3, l4, Nat.min_self, hlen, ha.r.1, l3]
      have rr : RsAt K H2 acc (List.zipWith addQ qs rs) := ⟨lz.symm, fun i x p e1 e2 => by
        obtain ⟨r, e, hr⟩ := hall i x e1
        rw [List.getD_eq_getElem?_getD, e2] at hr
        exact ⟨r, e, hr⟩⟩
      exact ⟨e1, D, zs, acc, _, rfl, .inr (s2 _ _ ha.e), ok, .inl hacc, rr.nums, by rw [List.length_zipWith, l3, l4, Nat.min_self], fun p H3 s3 z => q p H3 (s2.trans s3) z⟩

theorem good_Question_add (Z : CT K mg) : GoodMq (CX0) P w K mg base 9 "Question" "__add__" ["self", "other"] (spQAdd K) := goodMq Z 45 d_Question_add (me_Question_add Z) (fun _ _ _ _ _ _ us hl => match us, hl with | [_, _], _ => rfl) fun _ F => ok_Question_add Z F
end
section
variable {X : Cx} {e o : Expr} {ta : TE} {t : TA} {apos pos : Pos} {k : Nat} {E : XK}
def tAtM (K : PySem.W.Frag) (E : XK) (ta : TE) (t : TA) : TE := fun σ H Q => ta σ H fun x H1 => ∃ a zs qs, x = .ref a ∧ QAt K H1 a zs qs ∧ t σ H1 fun vs H2 => spAt K (x :: vs) H2 Q E
theorem atM (Z : CT X.K X.mg) (hr : Room k X.A) (he : PE X o ta) (ha : PA X [e] t) (hx : Passes (L2N.CX X.prog X.w) X E) (hk : 8 ≤ k := by decide) (hst : starEach [e] X.env = (false, eval e X.env) :: starEach [] X.env := by rfl) (hpl : (backTo pos (starEach [] X.env)).any (·.1) = false := by rfl)
    {pl : Sem Bool} (ht : eval (.Call (.Attribute o "at" apos) [e] [] pos) X.env = (do
      let ov ← eval o X.env
      standAt apos.atName
      let (f, first) ← holding [ov] (getMethod ov "at" pl)
      callWith pos f first (backTo pos (starEach [e] X.env)) (backToKw pos (keywordEach [] X.env))) := by rfl) : PE X (.Call (.Attribute o "at" apos) [e] [] pos) (tAtM X.K E ta t) := by
  obtain ⟨fd, F, B⟩ := (good_Question_at (P := X.prog) (w := X.w) (base := X.base) Z).fn
  refine pe_imp (pe_meth (wk_e he) (oc_Q Z).cl (me_Question_at Z) F (hr.mono hk) B .nil hx (wk_a ha) hst hpl ht) fun σ H Q q => ⟨_, q, fun x H1 ⟨a, zs, qs, ex, ⟨dx, e, w, ws, hd⟩, q2⟩ => ⟨a, dx, _, ex, hd.o, qfs_no _ _ (by decide +kernel) (by decide +kernel), _, q2, fun vs H2 z => by show spAt X.K (x :: (vs ++ [])) H2 _ _; rw [List.append_nil]; exact z⟩⟩
/-- == and != of questions -/
theorem opQEq (Z : CT X.K X.mg) (hr : Room k X.A) (hk : 4 ≤ k := by decide) : OpR X (compareOp .Eq) (rOwnC X.K (He.ga X.K "Question") (spQEq X.K)) := by
  obtain ⟨fd, F, B⟩ := (good_Question_eq (P := X.prog) (w := X.w) (base := X.base) Z).fn
  exact op_ownC (op := .Eq) (fun _ _ => rfl) (me_Question_eq Z).at_ (me_Question_eq Z).fn F B hr hk
theorem opQNe (Z : CT X.K X.mg) (hr : Room k X.A) (hk : 5 ≤ k := by decide) : OpR X (compareOp .NotEq) (rOwnNe X.K (He.ga X.K "Question") (spQEq X.K)) := by
  obtain ⟨fd, F, B⟩ := (good_Question_eq (P := X.prog) (w := X.w) (base := X.base) Z).fn
  exact op_ownNe (oc_Q Z).ne (oc_Q Z).ob (me_Question_eq Z).at_ (me_Question_eq Z).fn F B hr hk
/-- q + r of two questions -/
def rQAdd (K : PySem.W.Frag) : R2 := fun x y H Q => ∃ (a b : Addr) (zs : List Str) (qs rs : List (Int × Int)), x = .ref a ∧ y = .ref b ∧ QAt K H a zs qs ∧ QAt K H b zs rs ∧ EfOk zs ∧ qs.length = zs.length ∧ rs.length = zs.length ∧ (∀ p ∈ qs, Okq 3900 p) ∧ (∀ p ∈ rs, Okq 3900 p) ∧ ∀ p H', Same H H' → QAt K H' p zs (List.zipWith addQ qs rs) → Q (.ref p) H'
theorem opQAdd (Z : CT X.K X.mg) (hr : Room k X.A) (hk : 9 ≤ k := by decide) : OpR X (binaryOp .Add) (rQAdd X.K) := by
  obtain ⟨fd, F, B⟩ := (good_Question_add (P := X.prog) (w := X.w) (base := X.base) Z).fn
  have me := me_Question_add Z
  intro pins s σ H x y v u Q I rx ry ⟨a, b, zs, qs, rs, ex, ey, ha, hb, h⟩
  subst ex ey
  cases (show v = Value.ref a from rx)
  cases (show u = Value.ref b from ry)
  obtain ⟨dx, e1, w1, ws, ha1⟩ := id ha
  obtain ⟨dy, e2, w2, us, hb1⟩ := id hb
  obtain ⟨od, J⟩ := ins_inst I ha1.o
  obtain ⟨od', J'⟩ := ins_inst I hb1.o
  obtain ⟨m, hF⟩ := I.fr
  refine PySem.W.binop_K hF I.ok.mod.kin J J'.type (oc_Q Z).self me.at_ me.fn (wpAny_mono (run_fn (us := [.ref a, .ref b]) (vs := [.ref a, .ref b]) F (hr.mono hk) B .nil pass0 I (.cons rfl (.cons rfl .nil)) ⟨a, b, zs, qs, rs, rfl, ha, hb, h⟩) (fun w s' z => ?_) fun _ _ e => e)
  obtain ⟨z', H', I', rz, qz⟩ := z
  exact SlX.cmpback rz ⟨z', H', I', rz, qz⟩
end
end My

namespace My
open PySem PySem.Spec PyProof.Rows L2 PySem.Calls
theorem TyX.same {K : PySem.W.Frag} {H H' : Hp} {x : V} {t : Value} (h : TyX K H x t) (s : Same H H') : TyX K H' x t := by
  cases h with
  | base h =>
    refine .base ?_
    cases h with
    | non => exact .non
    | bl b => exact .bl b
    | int i => exact .int i
    | str z => exact .str z
    | flt b => exact .flt b
    | lst e => exact .lst (s _ _ e)
    | frz e => exact .frz (s _ _ e)
    | tup e => exact .tup (s _ _ e)
    | dK e => exact .dK (s _ _ e)
    | dT e => exact .dT (s _ _ e)
    | ins e a b c d g => exact .ins (s _ _ e) a b c d g
  | byt b => exact .byt b
  | set e => exact .set (s _ _ e)
  | kList e c => exact .kList e c
  | kTuple e c => exact .kTuple e c
  | kDict e c => exact .kDict e c
  | fTuple e => exact .fTuple (s _ _ e)
  | fDict e => exact .fDict (s _ _ e)

/-- whether a thing is a name -/
inductive NmB (K : PySem.W.Frag) (H : Hp) : V → Bool → Prop
  | good {z : Str} (h : NmOk z) : NmB K H (.str z) true
  | len {z : Str} (s : z.length ≤ 1000) (h : ¬ (1 ≤ z.length ∧ z.length ≤ 8)) : NmB K H (.str z) false
  | fst {z : Str} {c : Nat} (lo : 1 ≤ z.length) (hi : z.length ≤ 8) (e : z.cps[0]? = some c) (h : ¬ c ∈ LET.cps.toList) : NmB K H (.str z) false
  | all {z : Str} {c d j : Nat} (lo : 1 ≤ z.length) (hi : z.length ≤ 8) (e : z.cps[0]? = some c) (m : c ∈ LET.cps.toList) (ed : z.cps[j]? = some d) (h : ¬ d ∈ LDS.cps.toList) : NmB K H (.str z) false
  | oth {x : V} {t : Value} (ty : TyX K H x t) (kt : PySem.W.kitOne K t (.type "str") = some false) : NmB K H x false
theorem NmB.same {K : PySem.W.Frag} {H H' : Hp} {x : V} {b : Bool} (h : NmB K H x b) (s : Same H H') : NmB K H' x b := by
  cases h with
  | good h => exact .good h
  | len s h => exact .len s h
  | fst lo hi e h => exact .fst lo hi e h
  | all lo hi e m ed h => exact .all lo hi e m ed h
  | oth ty kt => exact .oth (TyX.same ty s) kt
section
variable {P : Program} {w : World} {K : PySem.W.Frag} {mg : Str → Option Value} {base : Heap} {fd : FuncData} {f : Addr}
def spIsNameB (K : PySem.W.Frag) : Sp := fun vs H Q _ => ∃ x b, vs = [x] ∧ NmB K H x b ∧ ∀ H', Same H H' → Q (.bl b) H'
theorem ok_is_nameB (Z : CT K mg) (F : FunD K d_is_name.name d_is_name.qual d_is_name.params d_is_name.body d_is_name.scope [] [] f fd) : FnOk P w K mg base (CX0) 1 f fd ["value"] (spIsNameB K) := by
  refine F.ok sc_is_name (fun vs H Q E h => ?_) (fun cdv A outer s H vs Q E hr h => ?_)
  · obtain ⟨x, b, rfl, _⟩ := h
    rfl
  · obtain ⟨x, b, rfl, hx, q⟩ := h
    cases hx with
    | @good z hz =>
      refine ⟨_, (pss_cons (ps_if (PW.pt (pw_or (pt_not (pt_val (pe_callB call_isi (by rfl) (m_isinstance Z) boot_isinstance (pa_cons (pv 0) (pa_cons (pe_bltn (by rfl) (m_str Z) boot_str (rel_ty _)) pa_nil))) (fun _ => rfl))) (pw_or1 (pt_not (pt_chain op_le op_le (pe_int) (pe_callB call_len_str (by rfl) (m_len Z) PySem.boot_len (pa_cons (pv 0) pa_nil)) (con_LONGEST_NAME Z)))))) (pss_one (ps_ret pe_bl)) pss_nil)
      (pss_one (ps_ret ((pe_and (pe_cmpR op_in_sign (pe_item_str (pv 0) pe_int (fun _ _ => rfl)) (con_LETTERS Z) (by rfl)) (pe_one (pe_callB (cr_all rfl) (by rfl) (m_all Z) boot_all (pa_cons (pe_lc (own := [("char", 1)]) (g := gName 1) (by rfl) sc_is_name.nd (pi_str (pv 0)) (blkOk_by (own := [("char", 1)]) (N := ["value", "char"]) (sc := defScope s_is_name) (by decide +kernel)) (fun _ _ _ _ _ => pg_name (i := 1) sc_is_name.nd rfl (Or.inl rfl)) (fun _ _ _ _ _ => pts_nil) (fun _ _ _ _ _ => pe_cmpR op_in_sign (pv 1) (pe_op op_add_str (con_LETTERS Z) (con_DIGITS Z)) (by rfl))) pa_nil)))))))), ?_⟩
      obtain ⟨c0, e0, m0⟩ := hz.fst
      have h1 := hz.lo
      have h2 := hz.hi
      refine ⟨_, rfl, _, _, _, _, true, rfl, .ty _, .base (.str z), kit_ty (by decide +kernel), true, rfl, ?_⟩
      refine ⟨_, rfl, z, rfl, by unfold sizeLine; omega, _, _, rfl, rfl, _, rfl, ?_⟩
      rw [show decide ((1 : Int) ≤ (z.length : Int)) = true from decide_eq_true (by omega)]
      refine ⟨_, _, rfl, rfl, _, rfl, ?_⟩
      rw [show decide ((z.length : Int) ≤ 8) = true from decide_eq_true (by omega)]
      refine ⟨_, rfl, z, 0, c0, rfl, rfl, by decide, by decide, by omega, e0, c0, _, rfl, rfl, ?_⟩
      refine ⟨_, rfl, ?_⟩
      rw [show decide (c0 ∈ (("abcdefghijklmnopqrstuvwxyz" : Str)).cps.toList) = true from decide_eq_true m0]
      refine ⟨_, rfl, z, rfl, ?_⟩
      intro D hD
      refine comp hD (n := z.cps.size) (G := fun _ => True) walk_str (fun j y H' => y = .bl true) (fun _ _ _ _ h _ => h) (by have : z.cps.size = z.length := rfl; omega) (fun _ _ => trivial) ?_ ?_
      · rintro i x H1 H2 R hi s1 ⟨rfl, c, ec, rfl⟩ k
        refine ⟨rfl, ?_⟩
        refine ⟨_, rfl, _, _, rfl, rfl, by decide +kernel, c, _, rfl, rfl, ?_⟩
        refine k _ _ (Same.refl _) ?_
        congr 1
        exact decide_eq_true (by show c ∈ (LET ++ DIG).cps.toList; rw [lds_eq]; exact hz.all i c ec)
      · intro acc H1 s1 hacc hl hall
        refine ⟨D, List.replicate acc.length true, rfl, SqL.of (by
          rw [hacc]; congr 2
          rw [List.map_replicate]
          exact List.eq_replicate_iff.mpr ⟨rfl, fun y hy => by obtain ⟨j, hj, e⟩ := List.mem_iff_getElem.mp hy; exact hall j y (by rw [List.getElem?_eq_getElem hj, e])⟩), ?_⟩
        rw [show (List.replicate acc.length true).all id = true by rw [List.all_eq_true]; intro y hy; exact (List.eq_of_mem_replicate hy)]
        exact q _ s1
    | oth ty kt =>
      refine ⟨_, (pss_cons (ps_if (PW.pt (pw_or (pt_not (pt_val (pe_callB call_isi (by rfl) (m_isinstance Z) boot_isinstance (pa_cons (pv 0) (pa_cons (pe_bltn (by rfl) (m_str Z) boot_str (rel_ty _)) pa_nil))) (fun _ => rfl))) (pw_or1 (pt_not (pt_chain op_le op_le (pe_int) (pe_callB call_len_str (by rfl) (m_len Z) PySem.boot_len (pa_cons (pv 0) pa_nil)) (con_LONGEST_NAME Z)))))) (pss_one (ps_ret pe_bl)) pss_nil)
      (pss_one (ps_ret ((pe_and (pe_cmpR op_in_sign (pe_item_str (pv 0) pe_int (fun _ _ => rfl)) (con_LETTERS Z) (by rfl)) (pe_one (pe_callB (cr_all rfl) (by rfl) (m_all Z) boot_all (pa_cons (pe_lc (own := [("char", 1)]) (g := gName 1) (by rfl) sc_is_name.nd (pi_str (pv 0)) (blkOk_by (own := [("char", 1)]) (N := ["value", "char"]) (sc := defScope s_is_name) (by decide +kernel)) (fun _ _ _ _ _ => pg_name (i := 1) sc_is_name.nd rfl (Or.inl rfl)) (fun _ _ _ _ _ => pts_nil) (fun _ _ _ _ _ => pe_cmpR op_in_sign (pv 1) (pe_op op_add_str (con_LETTERS Z) (con_DIGITS Z)) (by rfl))) pa_nil)))))))), ?_⟩
      exact ⟨_, rfl, _, _, _, _, false, rfl, .ty _, ty, kt, false, rfl, iteT (q _ (Same.refl _))⟩
    | @len z s h =>
      refine ⟨_, (pss_cons (ps_if (PW.pt (pw_or (pt_not (pt_val (pe_callB call_isi (by rfl) (m_isinstance Z) boot_isinstance (pa_cons (pv 0) (pa_cons (pe_bltn (by rfl) (m_str Z) boot_str (rel_ty _)) pa_nil))) (fun _ => rfl))) (pw_or1 (pt_not (pt_chain op_le op_le (pe_int) (pe_callB call_len_str (by rfl) (m_len Z) PySem.boot_len (pa_cons (pv 0) pa_nil)) (con_LONGEST_NAME Z)))))) (pss_one (ps_ret pe_bl)) pss_nil)
      (pss_one (ps_ret ((pe_and (pe_cmpR op_in_sign (pe_item_str (pv 0) pe_int (fun _ _ => rfl)) (con_LETTERS Z) (by rfl)) (pe_one (pe_callB (cr_all rfl) (by rfl) (m_all Z) boot_all (pa_cons (pe_lc (own := [("char", 1)]) (g := gName 1) (by rfl) sc_is_name.nd (pi_str (pv 0)) (blkOk_by (own := [("char", 1)]) (N := ["value", "char"]) (sc := defScope s_is_name) (by decide +kernel)) (fun _ _ _ _ _ => pg_name (i := 1) sc_is_name.nd rfl (Or.inl rfl)) (fun _ _ _ _ _ => pts_nil) (fun _ _ _ _ _ => pe_cmpR op_in_sign (pv 1) (pe_op op_add_str (con_LETTERS Z) (con_DIGITS Z)) (by rfl))) pa_nil)))))))), ?_⟩
      refine ⟨_, rfl, _, _, _, _, true, rfl, .ty _, .base (.str z), kit_ty (by decide +kernel), true, rfl, ?_⟩
      refine ⟨_, rfl, z, rfl, by unfold sizeLine; omega, _, _, rfl, rfl, _, rfl, ?_⟩
      by_cases h1 : 1 ≤ z.length
      · rw [show decide ((1 : Int) ≤ (z.length : Int)) = true from decide_eq_true (by omega)]
        refine ⟨_, _, rfl, rfl, _, rfl, ?_⟩
        rw [show decide ((z.length : Int) ≤ 8) = false from decide_eq_false (by omega)]
        exact iteT (q _ (Same.refl _))
      · rw [show decide ((1 : Int) ≤ (z.length : Int)) = false from decide_eq_false (by omega)]
        exact iteF ⟨false, rfl, iteT (q _ (Same.refl _))⟩
    | @fst z c lo hi e h =>
      refine ⟨_, (pss_cons (ps_if (PW.pt (pw_or (pt_not (pt_val (pe_callB call_isi (by rfl) (m_isinstance Z) boot_isinstance (pa_cons (pv 0) (pa_cons (pe_bltn (by rfl) (m_str Z) boot_str (rel_ty _)) pa_nil))) (fun _ => rfl))) (pw_or1 (pt_not (pt_chain op_le op_le (pe_int) (pe_callB call_len_str (by rfl) (m_len Z) PySem.boot_len (pa_cons (pv 0) pa_nil)) (con_LONGEST_NAME Z)))))) (pss_one (ps_ret pe_bl)) pss_nil)
      (pss_one (ps_ret ((pe_and (pe_cmpR op_in_sign (pe_item_str (pv 0) pe_int (fun _ _ => rfl)) (con_LETTERS Z) (by rfl)) (pe_one (pe_callB (cr_all rfl) (by rfl) (m_all Z) boot_all (pa_cons (pe_lc (own := [("char", 1)]) (g := gName 1) (by rfl) sc_is_name.nd (pi_str (pv 0)) (blkOk_by (own := [("char", 1)]) (N := ["value", "char"]) (sc := defScope s_is_name) (by decide +kernel)) (fun _ _ _ _ _ => pg_name (i := 1) sc_is_name.nd rfl (Or.inl rfl)) (fun _ _ _ _ _ => pts_nil) (fun _ _ _ _ _ => pe_cmpR op_in_sign (pv 1) (pe_op op_add_str (con_LETTERS Z) (con_DIGITS Z)) (by rfl))) pa_nil)))))))), ?_⟩
      refine ⟨_, rfl, _, _, _, _, true, rfl, .ty _, .base (.str z), kit_ty (by decide +kernel), true, rfl, ?_⟩
      refine ⟨_, rfl, z, rfl, by unfold sizeLine; omega, _, _, rfl, rfl, _, rfl, ?_⟩
      rw [show decide ((1 : Int) ≤ (z.length : Int)) = true from decide_eq_true (by omega)]
      refine ⟨_, _, rfl, rfl, _, rfl, ?_⟩
      rw [show decide ((z.length : Int) ≤ 8) = true from decide_eq_true (by omega)]
      refine ⟨_, rfl, z, 0, c, rfl, rfl, by decide, by decide, by omega, e, c, _, rfl, rfl, ?_⟩
      refine ⟨_, rfl, ?_⟩
      rw [show decide (c ∈ (("abcdefghijklmnopqrstuvwxyz" : Str)).cps.toList) = false from decide_eq_false h]
      exact iteF (q _ (Same.refl _))
    | @all z c d j lo hi e m ed h =>
      refine ⟨_, (pss_cons (ps_if (PW.pt (pw_or (pt_not (pt_val (pe_callB call_isi (by rfl) (m_isinstance Z) boot_isinstance (pa_cons (pv 0) (pa_cons (pe_bltn (by rfl) (m_str Z) boot_str (rel_ty _)) pa_nil))) (fun _ => rfl))) (pw_or1 (pt_not (pt_chain op_le op_le (pe_int) (pe_callB call_len_str (by rfl) (m_len Z) PySem.boot_len (pa_cons (pv 0) pa_nil)) (con_LONGEST_NAME Z)))))) (pss_one (ps_ret pe_bl)) pss_nil)
      (pss_one (ps_ret ((pe_and (pe_cmpR op_in_sign (pe_item_str (pv 0) pe_int (fun _ _ => rfl)) (con_LETTERS Z) (by rfl)) (pe_one (pe_callB (cr_all rfl) (by rfl) (m_all Z) boot_all (pa_cons (pe_lc (own := [("char", 1)]) (g := gName 1) (by rfl) sc_is_name.nd (pi_str (pv 0)) (blkOk_by (own := [("char", 1)]) (N := ["value", "char"]) (sc := defScope s_is_name) (by decide +kernel)) (fun _ _ _ _ _ => pg_name (i := 1) sc_is_name.nd rfl (Or.inl rfl)) (fun _ _ _ _ _ => pts_nil) (fun _ _ _ _ _ => pe_cmpR op_in_sign (pv 1) (pe_op op_add_str (con_LETTERS Z) (con_DIGITS Z)) (by rfl))) pa_nil)))))))), ?_⟩
      refine ⟨_, rfl, _, _, _, _, true, rfl, .ty _, .base (.str z), kit_ty (by decide +kernel), true, rfl, ?_⟩
      refine ⟨_, rfl, z, rfl, by unfold sizeLine; omega, _, _, rfl, rfl, _, rfl, ?_⟩
      rw [show decide ((1 : Int) ≤ (z.length : Int)) = true from decide_eq_true (by omega)]
      refine ⟨_, _, rfl, rfl, _, rfl, ?_⟩
      rw [show decide ((z.length : Int) ≤ 8) = true from decide_eq_true (by omega)]
      refine ⟨_, rfl, z, 0, c, rfl, rfl, by decide, by decide, by omega, e, c, _, rfl, rfl, ?_⟩
      refine ⟨_, rfl, ?_⟩
      rw [show decide (c ∈ (("abcdefghijklmnopqrstuvwxyz" : Str)).cps.toList) = true from decide_eq_true m]
      refine ⟨_, rfl, z, rfl, ?_⟩
      intro D hD
      refine comp hD (n := z.cps.size) (G := fun _ => True) walk_str (fun i y H' => ∃ b : Bool, ((z.cps.toList.map fun c => decide (c ∈ LDS.cps.toList)))[i]? = some b ∧ y = .bl b) (fun _ _ _ _ h _ => h) (by have : z.cps.size = z.length := rfl; omega) (fun _ _ => trivial) ?_ ?_
      · rintro i x H1 H2 R hi2 s1 ⟨rfl, c, ec, rfl⟩ k
        refine ⟨rfl, ?_⟩
        refine ⟨_, rfl, _, _, rfl, rfl, by decide +kernel, c, _, rfl, rfl, ?_⟩
        refine k _ _ (Same.refl _) ⟨decide (c ∈ LDS.cps.toList), by rw [List.getElem?_map, Array.getElem?_toList, ec]; rfl, ?_⟩
        exact congrArg V.bl (decide_eq_decide.mpr (by show c ∈ (LET ++ DIG).cps.toList ↔ _; rw [lds_eq]))
      · intro acc H1 s1 hacc hl hall
        have e2 := bls_of hl (by rw [List.length_map, Array.length_toList]) hall
        refine ⟨D, _, rfl, SqL.of (by rw [hacc, e2]), ?_⟩
        have e3 : ((z.cps.toList.map fun c => decide (c ∈ LDS.cps.toList))).all id = false := by
          rw [List.all_eq_false]
          refine ⟨false, List.mem_map.mpr ⟨d, ?_, decide_eq_false h⟩, by simp⟩
          exact List.mem_of_getElem? (by rw [Array.getElem?_toList]; exact ed)
        rw [e3]
        exact q _ s1

theorem good_is_nameB (Z : CT K mg) : GoodF (CX0) P w K mg base 1 "is_name" ["value"] (spIsNameB K) := Z.good 11 8 d_is_name (fun _ _ _ _ _ _ us hl => match us, hl with | [_], _ => rfl) fun _ F => ok_is_nameB Z F
end
end My

namespace My
open PySem PySem.Spec PyProof.Rows L2 PySem.Calls

theorem difsX_le {f : Nat → Str} : ∀ n, difs f n ≤ n
  | 0 => Nat.le_refl _
  | n + 1 => by
    have := difsX_le (f := f) n
    unfold difs
    split <;> omega
theorem difsX_lt {f : Nat → Str} {i j : Nat} (hij : i < j) (e : f i = f j) : ∀ n, j < n → difs f n < n
  | 0, h => absurd h (Nat.not_lt_zero _)
  | n + 1, h => by
    unfold difs
    by_cases hj : j = n
    · have a : (List.range n).any (fun k => decide (f k = f n)) = true := by
        rw [List.any_eq_true]
        exact ⟨i, List.mem_range.mpr (by omega), decide_eq_true (by rw [e, hj])⟩
      rw [if_pos a]
      have := difsX_le (f := f) n
      omega
    · have := difsX_lt hij e n (by omega)
      split <;> omega
theorem dif_dupX {zs : List Str} (h : ¬ zs.Nodup) : ¬ ((dif zs : Nat) : Int) = (zs.length : Int) := fun e => h (by
  refine List.pairwise_iff_getElem.mpr fun i j hi hj hij ez => ?_
  have z := difsX_lt (f := fun i => zs.getD i Str.empty) hij (by show zs.getD i _ = zs.getD j _; rw [List.getD_eq_getElem?_getD, List.getD_eq_getElem?_getD, List.getElem?_eq_getElem hi, List.getElem?_eq_getElem hj, ez]) zs.length hj
  unfold dif at e
  omega)
/-- no list and no tuple -/
def NoSeq (K : PySem.W.Frag) (H : Hp) (x : V) : Prop := ∃ t, TyX K H x t ∧ PySem.W.kitOne K t (.type "list") = some false ∧ PySem.W.kitOne K t (.type "tuple") = some false
theorem NoSeq.same {K : PySem.W.Frag} {H H' : Hp} {x : V} (h : NoSeq K H x) (s : Same H H') : NoSeq K H' x := let ⟨t, a, b⟩ := h; ⟨t, TyX.same a s, b⟩
/-- whether a thing is fit for effects -/
inductive EfB (K : PySem.W.Frag) (H : Hp) : V → Bool → Prop
  | good {a : Addr} {zs : List Str} (h : SqA H a (zs.map V.str)) (ok : EfOk zs) : EfB K H (.ref a) true
  | nos {x : V} (h : NoSeq K H x) : EfB K H x false
  | len {a : Addr} {xs : List V} (h : SqA H a xs) (s : xs.length ≤ 900) (l : ¬ (1 ≤ xs.length ∧ xs.length ≤ 4)) : EfB K H (.ref a) false
  | item {a : Addr} {xs : List V} {bs : List Bool} (h : SqA H a xs) (lo : 1 ≤ xs.length) (hi : xs.length ≤ 4) (hb : bs.length = xs.length) (hn : ∀ (i : Nat) (x : V), xs[i]? = some x → ∃ b, bs[i]? = some b ∧ NmB K H x b) (f : bs.all id = false) : EfB K H (.ref a) false
  | dup {a : Addr} {zs : List Str} (h : SqA H a (zs.map V.str)) (lo : 1 ≤ zs.length) (hi : zs.length ≤ 4) (nm : ∀ z ∈ zs, NmOk z) (nd : ¬ zs.Nodup) : EfB K H (.ref a) false
theorem EfB.same {K : PySem.W.Frag} {H H' : Hp} {x : V} {b : Bool} (h : EfB K H x b) (s : Same H H') : EfB K H' x b := by
  cases h with
  | good h ok => exact .good (h.same s) ok
  | nos h => exact .nos (h.same s)
  | len h a l => exact .len (h.same s) a l
  | item h lo hi hb hn f => exact .item (h.same s) lo hi hb (fun i x e => let ⟨b, c, d⟩ := hn i x e; ⟨b, c, d.same s⟩) f
  | dup h lo hi nm nd => exact .dup (h.same s) lo hi nm nd
section
variable {P : Program} {w : World} {K : PySem.W.Frag} {mg : Str → Option Value} {base : Heap} {fd : FuncData} {f : Addr}
def spIsSeqN (K : PySem.W.Frag) : Sp := fun vs H Q _ => ∃ x, vs = [x] ∧ NoSeq K H x ∧ ∀ H', Same H H' → Q (.bl false) H'
theorem ok_is_sequenceN (Z : CT K mg) (F : FunD K d_is_sequence.name d_is_sequence.qual d_is_sequence.params d_is_sequence.body d_is_sequence.scope [] [] f fd) : FnOk P w K mg base (CX0) 1 f fd ["value"] (spIsSeqN K) := by
  refine F.ok sc_is_sequence (fun vs H Q E h => ?_) (fun cdv A outer s H vs Q E hr h => ?_)
  · obtain ⟨x, rfl, _⟩ := h
    rfl
  · obtain ⟨x, rfl, ⟨t, ty, k1, k2⟩, q⟩ := h
    refine ⟨_, (pss_one (ps_ret (pe_callB call_isiT (by rfl) (m_isinstance Z) boot_isinstance (pa_cons (pv 0) (pa_cons (pe_tupN (pa_cons (pe_bltn (by rfl) (m_list Z) boot_list (rel_ty _)) (pa_cons (pe_bltn (by rfl) (m_tuple Z) boot_tuple (rel_ty _)) pa_nil))) pa_nil))))), ?_⟩
    refine ⟨_, rfl, rfl, fun tp H1 s1 htp n1 => ?_⟩
    exact ⟨_, tp, _, _, _, false, rfl, htp, .cons (.ty _) (.cons (.ty _) .nil), TyX.same ty s1, kitAny_cons (b := false) k1 (fun _ => kitAny_cons (b := false) k2 (fun _ => kitAny_nil) (fun z => (nomatch z))) (fun z => (nomatch z)), q _ s1⟩

theorem good_is_sequenceN (Z : CT K mg) : GoodF (CX0) P w K mg base 1 "is_sequence" ["value"] (spIsSeqN K) := Z.good 10 7 d_is_sequence (fun _ _ _ _ _ _ us hl => match us, hl with | [_], _ => rfl) fun _ F => ok_is_sequenceN Z F
def spAreNamesB (K : PySem.W.Frag) (m : Int) : Sp := fun vs H Q _ => ∃ x b, vs = [x, .int m] ∧ EfB K H x b ∧ ∀ H', Same H H' → Q (.bl b) H'
def spIsEffectsB (K : PySem.W.Frag) : Sp := fun vs H Q _ => ∃ x b, vs = [x] ∧ EfB K H x b ∧ ∀ H', Same H H' → Q (.bl b) H'
theorem ok_are_namesB (Z : CT K mg) (F : FunD K d_are_names.name d_are_names.qual d_are_names.params d_are_names.body d_are_names.scope [] [] f fd) : FnOk P w K mg base (CX0) 2 f fd ["value", "most"] (spAreNamesB K 4) := by
  refine F.ok sc_are_names (fun vs H Q E h => ?_) (fun cdv A outer s H vs Q E hr h => ?_)
  · obtain ⟨x, b, rfl, _⟩ := h
    rfl
  · obtain ⟨x, b, rfl, hx, q⟩ := h
    cases hx with
    | nos h =>
      refine ⟨_, (pss_cons (ps_if (PW.pt (pw_or (pt_not (pt_val (gcall (good_is_sequenceN Z) hr (pa_cons (pv 0) pa_nil) pass0) (fun _ => rfl))) (pw_or1 (pt_not (pt_chain op_le op_le (pe_int) (pe_callB call_len_seq (by rfl) (m_len Z) PySem.boot_len (pa_cons (pv 0) pa_nil)) (pv 1)))))) (pss_one (ps_ret pe_bl)) pss_nil)
      (pss_one (ps_ret ((pe_and (pe_callB (cr_all rfl) (by rfl) (m_all Z) boot_all (pa_cons (pe_lc (own := [("item", 2)]) (g := gName 2) (by rfl) sc_are_names.nd (pi_seqV (pv 0)) (blkOk_by (own := [("item", 2)]) (N := ["value", "most", "item"]) (sc := defScope s_are_names) (by decide +kernel)) (fun _ _ _ _ _ => pg_name (i := 2) sc_are_names.nd rfl (Or.inl rfl)) (fun _ _ _ _ _ => pts_nil) (fun _ _ _ _ _ => gcall (good_is_name Z) hr (pa_cons (pv 2) pa_nil) pass0)) pa_nil)) (pe_one (pe_cmpR op_eq (pe_lenSetS (by rfl) (m_len Z) (by rfl) (m_set Z) (pv 0)) (pe_callB call_len_seq (by rfl) (m_len Z) PySem.boot_len (pa_cons (pv 0) pa_nil)) (nomark _)))))))), ?_⟩
      exact ⟨_, rfl, _, rfl, h, fun H1 s1 => ⟨_, rfl, iteT (q _ s1)⟩⟩
    | @good a zs ha he =>
      refine ⟨_, (pss_cons (ps_if (PW.pt (pw_or (pt_not (pt_val (gcall (good_is_sequence Z) hr (pa_cons (pv 0) pa_nil) pass0) (fun _ => rfl))) (pw_or1 (pt_not (pt_chain op_le op_le (pe_int) (pe_callB call_len_seq (by rfl) (m_len Z) PySem.boot_len (pa_cons (pv 0) pa_nil)) (pv 1)))))) (pss_one (ps_ret pe_bl)) pss_nil)
      (pss_one (ps_ret ((pe_and (pe_callB (cr_all rfl) (by rfl) (m_all Z) boot_all (pa_cons (pe_lc (own := [("item", 2)]) (g := gName 2) (by rfl) sc_are_names.nd (pi_seqV (pv 0)) (blkOk_by (own := [("item", 2)]) (N := ["value", "most", "item"]) (sc := defScope s_are_names) (by decide +kernel)) (fun _ _ _ _ _ => pg_name (i := 2) sc_are_names.nd rfl (Or.inl rfl)) (fun _ _ _ _ _ => pts_nil) (fun _ _ _ _ _ => gcall (good_is_nameB Z) hr (pa_cons (pv 2) pa_nil) pass0)) pa_nil)) (pe_one (pe_cmpR op_eq (pe_lenSetS (by rfl) (m_len Z) (by rfl) (m_set Z) (pv 0)) (pe_callB call_len_seq (by rfl) (m_len Z) PySem.boot_len (pa_cons (pv 0) pa_nil)) (nomark _)))))))), ?_⟩
      have h1 := he.lo
      have h2 := he.hi
      have NM := he.nm
      have ln : (zs.map V.str).length = zs.length := List.length_map _
      refine ⟨_, rfl, a, _, rfl, ha, fun H1 s1 => ⟨_, rfl, ?_⟩⟩
      have ha1 := ha.same s1
      refine ⟨_, rfl, a, _, rfl, ha1.seq, _, _, rfl, rfl, _, rfl, ?_⟩
      rw [ln, show decide ((1 : Int) ≤ (zs.length : Int)) = true from decide_eq_true (by omega)]
      refine ⟨_, rfl, _, _, rfl, rfl, _, rfl, ?_⟩
      rw [show decide ((zs.length : Int) ≤ 4) = true from decide_eq_true (by omega)]
      rcases id ha1 with hsq | hsq
      · refine ⟨a, (zs.map V.str), rfl, .inl ⟨SqL.of hsq, ?_⟩⟩
        intro D hD
        refine comp hD (n := (zs.map V.str).length) (G := fun H => SqL K H a (zs.map V.str)) walk_list (fun j y H' => y = .bl true) (fun _ _ _ _ h _ => h) (by omega) (fun H' s => SqL.of (s _ _ hsq)) ?_ ?_
        · rintro i x H2 H2b R hi s2 ⟨rfl, ex⟩ k
          rw [List.getElem?_map] at ex
          cases ez : zs[i]? with
          | none => rw [ez] at ex; cases ex
          | some z =>
            rw [ez] at ex
            obtain rfl : V.str z = x := Option.some.inj ex
            exact ⟨rfl, _, rfl, _, _, rfl, .good (NM z (List.mem_of_getElem? ez)), fun H3 s3 => k _ _ s3 rfl⟩
        · intro acc H2 s2 hacc hlen hall
          refine ⟨D, List.replicate acc.length true, rfl, SqL.of (by
            rw [hacc]; congr 2
            rw [List.map_replicate]
            exact List.eq_replicate_iff.mpr ⟨rfl, fun y hy => by obtain ⟨j, hj, e⟩ := List.mem_iff_getElem.mp hy; exact hall j y (by rw [List.getElem?_eq_getElem hj, e])⟩), ?_⟩
          rw [show (List.replicate acc.length true).all id = true by rw [List.all_eq_true]; intro y hy; exact (List.eq_of_mem_replicate hy)]
          have ha2 := ha1.same s2
          refine ⟨_, rfl, ?_⟩
          refine ⟨_, rfl, a, zs, rfl, ha2.seq, by omega, _, rfl, a, _, rfl, ha2.seq, rfl, ?_⟩
          rw [ln, dif_nodup he.nd]
          show Q (.bl (decide (V.int _ = V.int _))) H2
          rw [decide_eq_true rfl]
          exact q _ (s1.trans s2)
      · refine ⟨a, (zs.map V.str), rfl, .inr ⟨SqT.of hsq, ?_⟩⟩
        intro D hD
        refine comp hD (n := (zs.map V.str).length) (G := fun H => SqT K H a (zs.map V.str)) walk_tup (fun j y H' => y = .bl true) (fun _ _ _ _ h _ => h) (by omega) (fun H' s => SqT.of (s _ _ hsq)) ?_ ?_
        · rintro i x H2 H2b R hi s2 ⟨rfl, ex⟩ k
          rw [List.getElem?_map] at ex
          cases ez : zs[i]? with
          | none => rw [ez] at ex; cases ex
          | some z =>
            rw [ez] at ex
            obtain rfl : V.str z = x := Option.some.inj ex
            exact ⟨rfl, _, rfl, _, _, rfl, .good (NM z (List.mem_of_getElem? ez)), fun H3 s3 => k _ _ s3 rfl⟩
        · intro acc H2 s2 hacc hlen hall
          refine ⟨D, List.replicate acc.length true, rfl, SqL.of (by
            rw [hacc]; congr 2
            rw [List.map_replicate]
            exact List.eq_replicate_iff.mpr ⟨rfl, fun y hy => by obtain ⟨j, hj, e⟩ := List.mem_iff_getElem.mp hy; exact hall j y (by rw [List.getElem?_eq_getElem hj, e])⟩), ?_⟩
          rw [show (List.replicate acc.length true).all id = true by rw [List.all_eq_true]; intro y hy; exact (List.eq_of_mem_replicate hy)]
          have ha2 := ha1.same s2
          refine ⟨_, rfl, ?_⟩
          refine ⟨_, rfl, a, zs, rfl, ha2.seq, by omega, _, rfl, a, _, rfl, ha2.seq, rfl, ?_⟩
          rw [ln, dif_nodup he.nd]
          show Q (.bl (decide (V.int _ = V.int _))) H2
          rw [decide_eq_true rfl]
          exact q _ (s1.trans s2)
    | @dup a zs ha h1 h2 NM nd =>
      refine ⟨_, (pss_cons (ps_if (PW.pt (pw_or (pt_not (pt_val (gcall (good_is_sequence Z) hr (pa_cons (pv 0) pa_nil) pass0) (fun _ => rfl))) (pw_or1 (pt_not (pt_chain op_le op_le (pe_int) (pe_callB call_len_seq (by rfl) (m_len Z) PySem.boot_len (pa_cons (pv 0) pa_nil)) (pv 1)))))) (pss_one (ps_ret pe_bl)) pss_nil)
      (pss_one (ps_ret ((pe_and (pe_callB (cr_all rfl) (by rfl) (m_all Z) boot_all (pa_cons (pe_lc (own := [("item", 2)]) (g := gName 2) (by rfl) sc_are_names.nd (pi_seqV (pv 0)) (blkOk_by (own := [("item", 2)]) (N := ["value", "most", "item"]) (sc := defScope s_are_names) (by decide +kernel)) (fun _ _ _ _ _ => pg_name (i := 2) sc_are_names.nd rfl (Or.inl rfl)) (fun _ _ _ _ _ => pts_nil) (fun _ _ _ _ _ => gcall (good_is_nameB Z) hr (pa_cons (pv 2) pa_nil) pass0)) pa_nil)) (pe_one (pe_cmpR op_eq (pe_lenSetS (by rfl) (m_len Z) (by rfl) (m_set Z) (pv 0)) (pe_callB call_len_seq (by rfl) (m_len Z) PySem.boot_len (pa_cons (pv 0) pa_nil)) (nomark _)))))))), ?_⟩
      have ln : (zs.map V.str).length = zs.length := List.length_map _
      refine ⟨_, rfl, a, _, rfl, ha, fun H1 s1 => ⟨_, rfl, ?_⟩⟩
      have ha1 := ha.same s1
      refine ⟨_, rfl, a, _, rfl, ha1.seq, _, _, rfl, rfl, _, rfl, ?_⟩
      rw [ln, show decide ((1 : Int) ≤ (zs.length : Int)) = true from decide_eq_true (by omega)]
      refine ⟨_, rfl, _, _, rfl, rfl, _, rfl, ?_⟩
      rw [show decide ((zs.length : Int) ≤ 4) = true from decide_eq_true (by omega)]
      rcases id ha1 with hsq | hsq
      · refine ⟨a, (zs.map V.str), rfl, .inl ⟨SqL.of hsq, ?_⟩⟩
        intro D hD
        refine comp hD (n := (zs.map V.str).length) (G := fun H => SqL K H a (zs.map V.str)) walk_list (fun j y H' => y = .bl true) (fun _ _ _ _ h _ => h) (by omega) (fun H' s => SqL.of (s _ _ hsq)) ?_ ?_
        · rintro i x H2 H2b R hi s2 ⟨rfl, ex⟩ k
          rw [List.getElem?_map] at ex
          cases ez : zs[i]? with
          | none => rw [ez] at ex; cases ex
          | some z =>
            rw [ez] at ex
            obtain rfl : V.str z = x := Option.some.inj ex
            exact ⟨rfl, _, rfl, _, _, rfl, .good (NM z (List.mem_of_getElem? ez)), fun H3 s3 => k _ _ s3 rfl⟩
        · intro acc H2 s2 hacc hlen hall
          refine ⟨D, List.replicate acc.length true, rfl, SqL.of (by
            rw [hacc]; congr 2
            rw [List.map_replicate]
            exact List.eq_replicate_iff.mpr ⟨rfl, fun y hy => by obtain ⟨j, hj, e⟩ := List.mem_iff_getElem.mp hy; exact hall j y (by rw [List.getElem?_eq_getElem hj, e])⟩), ?_⟩
          rw [show (List.replicate acc.length true).all id = true by rw [List.all_eq_true]; intro y hy; exact (List.eq_of_mem_replicate hy)]
          have ha2 := ha1.same s2
          refine ⟨_, rfl, ?_⟩
          refine ⟨_, rfl, a, zs, rfl, ha2.seq, by omega, _, rfl, a, _, rfl, ha2.seq, rfl, ?_⟩
          rw [ln]
          show Q (.bl (decide (V.int _ = V.int _))) H2
          rw [decide_eq_false (fun e => dif_dupX nd (by injection e))]
          exact q _ (s1.trans s2)
      · refine ⟨a, (zs.map V.str), rfl, .inr ⟨SqT.of hsq, ?_⟩⟩
        intro D hD
        refine comp hD (n := (zs.map V.str).length) (G := fun H => SqT K H a (zs.map V.str)) walk_tup (fun j y H' => y = .bl true) (fun _ _ _ _ h _ => h) (by omega) (fun H' s => SqT.of (s _ _ hsq)) ?_ ?_
        · rintro i x H2 H2b R hi s2 ⟨rfl, ex⟩ k
          rw [List.getElem?_map] at ex
          cases ez : zs[i]? with
          | none => rw [ez] at ex; cases ex
          | some z =>
            rw [ez] at ex
            obtain rfl : V.str z = x := Option.some.inj ex
            exact ⟨rfl, _, rfl, _, _, rfl, .good (NM z (List.mem_of_getElem? ez)), fun H3 s3 => k _ _ s3 rfl⟩
        · intro acc H2 s2 hacc hlen hall
          refine ⟨D, List.replicate acc.length true, rfl, SqL.of (by
            rw [hacc]; congr 2
            rw [List.map_replicate]
            exact List.eq_replicate_iff.mpr ⟨rfl, fun y hy => by obtain ⟨j, hj, e⟩ := List.mem_iff_getElem.mp hy; exact hall j y (by rw [List.getElem?_eq_getElem hj, e])⟩), ?_⟩
          rw [show (List.replicate acc.length true).all id = true by rw [List.all_eq_true]; intro y hy; exact (List.eq_of_mem_replicate hy)]
          have ha2 := ha1.same s2
          refine ⟨_, rfl, ?_⟩
          refine ⟨_, rfl, a, zs, rfl, ha2.seq, by omega, _, rfl, a, _, rfl, ha2.seq, rfl, ?_⟩
          rw [ln]
          show Q (.bl (decide (V.int _ = V.int _))) H2
          rw [decide_eq_false (fun e => dif_dupX nd (by injection e))]
          exact q _ (s1.trans s2)
    | @len a xs ha s l =>
      refine ⟨_, (pss_cons (ps_if (PW.pt (pw_or (pt_not (pt_val (gcall (good_is_sequence Z) hr (pa_cons (pv 0) pa_nil) pass0) (fun _ => rfl))) (pw_or1 (pt_not (pt_chain op_le op_le (pe_int) (pe_callB call_len_seq (by rfl) (m_len Z) PySem.boot_len (pa_cons (pv 0) pa_nil)) (pv 1)))))) (pss_one (ps_ret pe_bl)) pss_nil)
      (pss_one (ps_ret ((pe_and (pe_callB (cr_all rfl) (by rfl) (m_all Z) boot_all (pa_cons (pe_lc (own := [("item", 2)]) (g := gName 2) (by rfl) sc_are_names.nd (pi_seqV (pv 0)) (blkOk_by (own := [("item", 2)]) (N := ["value", "most", "item"]) (sc := defScope s_are_names) (by decide +kernel)) (fun _ _ _ _ _ => pg_name (i := 2) sc_are_names.nd rfl (Or.inl rfl)) (fun _ _ _ _ _ => pts_nil) (fun _ _ _ _ _ => gcall (good_is_nameB Z) hr (pa_cons (pv 2) pa_nil) pass0)) pa_nil)) (pe_one (pe_cmpR op_eq (pe_lenSetS (by rfl) (m_len Z) (by rfl) (m_set Z) (pv 0)) (pe_callB call_len_seq (by rfl) (m_len Z) PySem.boot_len (pa_cons (pv 0) pa_nil)) (nomark _)))))))), ?_⟩
      refine ⟨_, rfl, a, _, rfl, ha, fun H1 s1 => ⟨_, rfl, ?_⟩⟩
      have ha1 := ha.same s1
      refine ⟨_, rfl, a, _, rfl, ha1.seq, _, _, rfl, rfl, _, rfl, ?_⟩
      by_cases h1 : 1 ≤ xs.length
      · rw [show decide ((1 : Int) ≤ (xs.length : Int)) = true from decide_eq_true (by omega)]
        refine ⟨_, rfl, _, _, rfl, rfl, _, rfl, ?_⟩
        rw [show decide ((xs.length : Int) ≤ 4) = false from decide_eq_false (by omega)]
        exact iteT (q _ s1)
      · rw [show decide ((1 : Int) ≤ (xs.length : Int)) = false from decide_eq_false (by omega)]
        exact iteF ⟨false, rfl, iteT (q _ s1)⟩
    | @item a xs bs ha h1 h2 hb hn f =>
      refine ⟨_, (pss_cons (ps_if (PW.pt (pw_or (pt_not (pt_val (gcall (good_is_sequence Z) hr (pa_cons (pv 0) pa_nil) pass0) (fun _ => rfl))) (pw_or1 (pt_not (pt_chain op_le op_le (pe_int) (pe_callB call_len_seq (by rfl) (m_len Z) PySem.boot_len (pa_cons (pv 0) pa_nil)) (pv 1)))))) (pss_one (ps_ret pe_bl)) pss_nil)
      (pss_one (ps_ret ((pe_and (pe_callB (cr_all rfl) (by rfl) (m_all Z) boot_all (pa_cons (pe_lc (own := [("item", 2)]) (g := gName 2) (by rfl) sc_are_names.nd (pi_seqV (pv 0)) (blkOk_by (own := [("item", 2)]) (N := ["value", "most", "item"]) (sc := defScope s_are_names) (by decide +kernel)) (fun _ _ _ _ _ => pg_name (i := 2) sc_are_names.nd rfl (Or.inl rfl)) (fun _ _ _ _ _ => pts_nil) (fun _ _ _ _ _ => gcall (good_is_nameB Z) hr (pa_cons (pv 2) pa_nil) pass0)) pa_nil)) (pe_one (pe_cmpR op_eq (pe_lenSetS (by rfl) (m_len Z) (by rfl) (m_set Z) (pv 0)) (pe_callB call_len_seq (by rfl) (m_len Z) PySem.boot_len (pa_cons (pv 0) pa_nil)) (nomark _)))))))), ?_⟩
      refine ⟨_, rfl, a, _, rfl, ha, fun H1 s1 => ⟨_, rfl, ?_⟩⟩
      have ha1 := ha.same s1
      refine ⟨_, rfl, a, _, rfl, ha1.seq, _, _, rfl, rfl, _, rfl, ?_⟩
      rw [show decide ((1 : Int) ≤ (xs.length : Int)) = true from decide_eq_true (by omega)]
      refine ⟨_, rfl, _, _, rfl, rfl, _, rfl, ?_⟩
      rw [show decide ((xs.length : Int) ≤ 4) = true from decide_eq_true (by omega)]
      rcases id ha1 with hsq | hsq
      · refine ⟨a, xs, rfl, .inl ⟨SqL.of hsq, ?_⟩⟩
        intro D hD
        refine comp hD (n := xs.length) (G := fun H => SqL K H a xs) walk_list (fun j y H' => ∃ b, bs[j]? = some b ∧ y = .bl b) (fun _ _ _ _ h _ => h) (by omega) (fun H' s => SqL.of (s _ _ hsq)) ?_ ?_
        · rintro i x H2 H2b R hi s2 ⟨rfl, ex⟩ k
          obtain ⟨b, eb, hb'⟩ := hn i x ex
          exact ⟨rfl, _, rfl, x, b, rfl, (hb'.same s1).same s2, fun H3 s3 => k _ _ s3 ⟨b, eb, rfl⟩⟩
        · intro acc H2 s2 hacc hlen hall
          refine ⟨D, bs, rfl, SqL.of (by rw [hacc, bls_of hlen hb hall]), ?_⟩
          rw [f]
          exact ⟨false, rfl, iteF (q _ (s1.trans s2))⟩
      · refine ⟨a, xs, rfl, .inr ⟨SqT.of hsq, ?_⟩⟩
        intro D hD
        refine comp hD (n := xs.length) (G := fun H => SqT K H a xs) walk_tup (fun j y H' => ∃ b, bs[j]? = some b ∧ y = .bl b) (fun _ _ _ _ h _ => h) (by omega) (fun H' s => SqT.of (s _ _ hsq)) ?_ ?_
        · rintro i x H2 H2b R hi s2 ⟨rfl, ex⟩ k
          obtain ⟨b, eb, hb'⟩ := hn i x ex
          exact ⟨rfl, _, rfl, x, b, rfl, (hb'.same s1).same s2, fun H3 s3 => k _ _ s3 ⟨b, eb, rfl⟩⟩
        · intro acc H2 s2 hacc hlen hall
          refine ⟨D, bs, rfl, SqL.of (by rw [hacc, bls_of hlen hb hall]), ?_⟩
          rw [f]
          exact ⟨false, rfl, iteF (q _ (s1.trans s2))⟩

theorem good_are_namesB (Z : CT K mg) : GoodF (CX0) P w K mg base 2 "are_names" ["value", "most"] (spAreNamesB K 4) := Z.good 12 9 d_are_names (fun _ _ _ _ _ _ us hl => match us, hl with | [_, _], _ => rfl) fun _ F => ok_are_namesB Z F
theorem ok_is_effectsB (Z : CT K mg) (F : FunD K d_is_effects.name d_is_effects.qual d_is_effects.params d_is_effects.body d_is_effects.scope [] [] f fd) : FnOk P w K mg base (CX0) 3 f fd ["value"] (spIsEffectsB K) := by
  refine F.ok sc_is_effects (fun vs H Q E h => ?_) (fun cdv A outer s H vs Q E hr h => ?_)
  · obtain ⟨x, b, rfl, _⟩ := h
    rfl
  · obtain ⟨x, b, rfl, hx, q⟩ := h
    exact ⟨_, (pss_one (ps_ret (gcall (good_are_namesB Z) hr (pa_cons (pv 0) (pa_cons (con_MOST_EFFECTS Z) pa_nil)) pass0))), _, rfl, x, b, rfl, hx, fun H1 s1 => q H1 s1⟩

theorem good_is_effectsB (Z : CT K mg) : GoodF (CX0) P w K mg base 3 "is_effects" ["value"] (spIsEffectsB K) := Z.good 13 10 d_is_effects (fun _ _ _ _ _ _ us hl => match us, hl with | [_], _ => rfl) fun _ F => ok_is_effectsB Z F
def spAreNumbersN (K : PySem.W.Frag) : Sp := fun vs H Q _ => ∃ (x y : V), vs = [x, y] ∧ NoSeq K H x ∧ ∀ H', Same H H' → Q (.bl false) H'
theorem ok_are_numbersN (Z : CT K mg) (F : FunD K d_are_numbers.name d_are_numbers.qual d_are_numbers.params d_are_numbers.body d_are_numbers.scope [] [] f fd) : FnOk P w K mg base (CX0) 3 f fd ["value", "count"] (spAreNumbersN K) := by
  refine F.ok sc_are_numbers (fun vs H Q E h => ?_) (fun cdv A outer s H vs Q E hr h => ?_)
  · obtain ⟨x, y, rfl, _⟩ := h
    rfl
  · obtain ⟨x, y, rfl, hx, q⟩ := h
    refine ⟨_, (pss_one (ps_ret ((pe_and (gcall (good_is_sequenceN Z) hr (pa_cons (pv 0) pa_nil) pass0) (pe_and (pe_cmpR op_eq (pe_callB call_len_seq (by rfl) (m_len Z) PySem.boot_len (pa_cons (pv 0) pa_nil)) (pv 1) (nomark _)) (pe_one (pe_callB (cr_all rfl) (by rfl) (m_all Z) boot_all (pa_cons (pe_lc (own := [("item", 2)]) (g := gName 2) (by rfl) sc_are_numbers.nd (pi_seqV (pv 0)) (blkOk_by (own := [("item", 2)]) (N := ["value", "count", "item"]) (sc := defScope s_are_numbers) (by decide +kernel)) (fun _ _ _ _ _ => pg_name (i := 2) sc_are_numbers.nd rfl (Or.inl rfl)) (fun _ _ _ _ _ => pts_nil) (fun _ _ _ _ _ => gcall (good_is_numberB Z) hr (pa_cons (pv 2) pa_nil) pass0)) pa_nil)))))))), ?_⟩
    exact ⟨_, rfl, x, rfl, hx, fun H1 s1 => ⟨_, rfl, iteF (q _ s1)⟩⟩

theorem good_are_numbersN (Z : CT K mg) : GoodF (CX0) P w K mg base 3 "are_numbers" ["value", "count"] (spAreNumbersN K) := Z.good 40 15 d_are_numbers (fun _ _ _ _ _ _ us hl => match us, hl with | [_, _], _ => rfl) fun _ F => ok_are_numbersN Z F
end
end My

namespace My
open PySem PySem.Spec PyProof.Rows L2 PySem.Calls

/-! ### promises side by side -/
theorem FnOk.or {P : Program} {w : World} {K : PySem.W.Frag} {mg : Str → Option Value} {base : Heap} {CX : CXT} {k : Nat} {f : Addr} {fd : FuncData} {ps : List Str} {sp sp' : Sp} (F : FnOk P w K mg base CX k f fd ps sp) (G : FnOk P w K mg base CX k f fd ps sp') : FnOk P w K mg base CX k f fd ps (fun vs H Q E => sp vs H Q E ∨ sp' vs H Q E) :=
  ⟨fun vs H Q E h => h.elim (F.len _ _ _ _) (G.len _ _ _ _), fun A outer s H args us vs Q E hr e0 hb r h => h.elim (fun h => F.run A outer s H args us vs Q E hr e0 hb r h) fun h => G.run A outer s H args us vs Q E hr e0 hb r h⟩
theorem FnOk.ofCX0 {P : Program} {w : World} {K : PySem.W.Frag} {mg : Str → Option Value} {base : Heap} {CX : CXT} {k : Nat} {f : Addr} {fd : FuncData} {ps : List Str} {sp : Sp} (F : FnOk P w K mg base CX0 k f fd ps sp) : FnOk P w K mg base CX k f fd ps sp :=
  ⟨F.len, fun A outer s H args us vs Q E hr e0 hb r h => codeAny_mono (F.run A outer s H args us vs Q E hr e0 hb r h) fun r s' z => by
    cases r with
    | error e => exact False.elim z
    | ok fl => cases fl <;> exact z⟩
section
variable {K : PySem.W.Frag} {mg : Str → Option Value}
theorem x_NoQuestion (Z : CT K mg) : XCls K (He.ga K "NoQuestion") := xclsB_ok (Bool.and_eq_true_iff.mp (exmore Z).1).1
theorem x_NoQuestion_exm (Z : CT K mg) : PySem.W.exmOne K (rf K "NoQuestion") (rf K "NoQuestion") = some true := of_decide_eq_true (Bool.and_eq_true_iff.mp (Bool.and_eq_true_iff.mp (exmore Z).1).2).2
theorem x_NoQuestion_me (Z : CT K mg) : PySem.W.kitOne K (rf K "NoQuestion") (rf K "MethodError") = some true := of_decide_eq_true (Bool.and_eq_true_iff.mp (Bool.and_eq_true_iff.mp (exmore Z).1).2).1
theorem rz_NoQuestion {X : Cx} {e : Expr} {es : List Expr} {ta : TA} {p pos : Pos} {k : Nat} (Z : CT X.K X.mg) (hr : Room k X.A) (ha : PA X (e :: es) ta) (hk : 2 ≤ k := by decide) (hg : Gl X "NoQuestion" := by rfl) (he : starEach (e :: es) X.env = (false, eval e X.env) :: starEach es X.env := by rfl)
    (hpl : (backTo pos (starEach es X.env)).any (·.1) = false := by rfl) : L2N.PMk X (.Call (.Name "NoQuestion" p) (e :: es) [] pos) (tRz (He.ga X.K "NoQuestion") "word" ta) :=
  pmkN_ini1 (x_NoQuestion Z) (no_NoQuestion_word Z) (glo_NoQuestion Z) (me_NoQuestion_init Z) (Z.d.def_ 3 (d := d_NoQuestion_init) rfl) sc_NoQuestion_init rfl (Or.inl rfl) (Or.inl rfl) (by decide) (by decide) (fun _ _ _ _ _ _ us hl => match us, hl with | [_, _], _ => rfl) (by decide) hr ha hk hg he hpl
theorem x_NoSuch (Z : CT K mg) : XCls K (He.ga K "NoSuch") := xclsB_ok (Bool.and_eq_true_iff.mp (exmore Z).2.2.1).1
theorem x_NoSuch_exm (Z : CT K mg) : PySem.W.exmOne K (rf K "NoSuch") (rf K "NoSuch") = some true := of_decide_eq_true (Bool.and_eq_true_iff.mp (Bool.and_eq_true_iff.mp (exmore Z).2.2.1).2).2
theorem x_NoSuch_me (Z : CT K mg) : PySem.W.kitOne K (rf K "NoSuch") (rf K "MethodError") = some true := of_decide_eq_true (Bool.and_eq_true_iff.mp (Bool.and_eq_true_iff.mp (exmore Z).2.2.1).2).1
theorem rz_NoSuch {X : Cx} {e : Expr} {es : List Expr} {ta : TA} {p pos : Pos} {k : Nat} (Z : CT X.K X.mg) (hr : Room k X.A) (ha : PA X (e :: es) ta) (hk : 2 ≤ k := by decide) (hg : Gl X "NoSuch" := by rfl) (he : starEach (e :: es) X.env = (false, eval e X.env) :: starEach es X.env := by rfl)
    (hpl : (backTo pos (starEach es X.env)).any (·.1) = false := by rfl) : L2N.PMk X (.Call (.Name "NoSuch" p) (e :: es) [] pos) (tRz (He.ga X.K "NoSuch") "name" ta) :=
  pmkN_ini1 (x_NoSuch Z) (no_NoSuch_name Z) (glo_NoSuch Z) (me_NoSuch_init Z) (Z.d.def_ 7 (d := d_NoSuch_init) rfl) sc_NoSuch_init rfl (Or.inl rfl) (Or.inl rfl) (by decide) (by decide) (fun _ _ _ _ _ _ us hl => match us, hl with | [_, _], _ => rfl) (by decide) hr ha hk hg he hpl
theorem exo (Z : CT K mg) : exX K "OtherEffects" = true := (Bool.and_eq_true_iff.mp (exmore Z).2.2.2.2.1).1
theorem such_q (Z : CT K mg) : PySem.W.exmOne K (rf K "NoSuch") (rf K "NoQuestion") = some false := of_decide_eq_true (Bool.and_eq_true_iff.mp (exmore Z).2.2.2.2.1).2
theorem x_OtherEffects (Z : CT K mg) : XCls K (He.ga K "OtherEffects") := xclsB_ok (Bool.and_eq_true_iff.mp (exo Z)).1
theorem x_OtherEffects_exm (Z : CT K mg) : PySem.W.exmOne K (rf K "OtherEffects") (rf K "OtherEffects") = some true := of_decide_eq_true (Bool.and_eq_true_iff.mp (Bool.and_eq_true_iff.mp (exo Z)).2).2
theorem rz_OtherEffects {X : Cx} {p pos : Pos} (Z : CT X.K X.mg) (hg : Gl X "OtherEffects" := by rfl) : L2N.PMk X (.Call (.Name "OtherEffects" p) [] [] pos) (fun _ H Q => Q (.ref (He.ga X.K "OtherEffects")) none H) :=
  pmk0 (x_OtherEffects Z) (xc0_OtherEffects Z) (He.exc_ok (Z.d.fact 48)).2.1 (glo_OtherEffects Z) hg
end
/-- what is wished of NoQuestion(z), NoSuch(v), OtherEffects() -/
def RqW (K : PySem.W.Frag) (z : Str) (H : Hp) (E : XK) : Prop := ∀ d H', Same H H' → H' d = some (.xd [("word", .str z)]) → E (.ref (He.ga K "NoQuestion")) (some d) H'
def RsW (K : PySem.W.Frag) (v : V) (H : Hp) (E : XK) : Prop := ∀ d H', Same H H' → H' d = some (.xd [("name", v)]) → E (.ref (He.ga K "NoSuch")) (some d) H'
def OeW (K : PySem.W.Frag) (H : Hp) (E : XK) : Prop := ∀ H', Same H H' → E (.ref (He.ga K "OtherEffects")) none H'
theorem RqW.same {K : PySem.W.Frag} {z : Str} {H H' : Hp} {E : XK} (h : RqW K z H E) (s : Same H H') : RqW K z H' E := fun d H2 s2 hd => h d H2 (s.trans s2) hd
theorem RsW.same {K : PySem.W.Frag} {v : V} {H H' : Hp} {E : XK} (h : RsW K v H E) (s : Same H H') : RsW K v H' E := fun d H2 s2 hd => h d H2 (s.trans s2) hd
theorem OeW.same {K : PySem.W.Frag} {H H' : Hp} {E : XK} (h : OeW K H E) (s : Same H H') : OeW K H' E := fun H2 s2 => h H2 (s.trans s2)
section
variable {P : Program} {w : World} {K : PySem.W.Frag} {mg : Str → Option Value} {base : Heap} {fd : FuncData} {f : Addr}
/-- Question(x, y), x none -/
def spQBadE (K : PySem.W.Frag) : Sp := fun vs H Q E => ∃ (a : Addr) (x y : V), vs = [.ref a, x, y] ∧ EfB K H x false ∧ RqW K "effects" H E
/-- .., y no sequence -/
def spQBadN (K : PySem.W.Frag) : Sp := fun vs H Q E => ∃ (a e : Addr) (zs : List Str) (y : V), vs = [.ref a, .ref e, y] ∧ SqA H e (zs.map V.str) ∧ EfOk zs ∧ NoSeq K H y ∧ RqW K "weights" H E
/-- .., y a sequence that is none -/
def spQBadL (K : PySem.W.Frag) : Sp := fun vs H Q E => ∃ (a e w : Addr) (zs : List Str) (xs : List V) (bs : List Bool), vs = [.ref a, .ref e, .ref w] ∧ SqA H e (zs.map V.str) ∧ EfOk zs ∧ SqA H w xs ∧ bs.length = xs.length ∧ xs.length ≤ 900 ∧ (∀ (i : Nat) (x : V), xs[i]? = some x → ∃ b, bs[i]? = some b ∧ NumB K H x b) ∧ ¬ (xs.length = zs.length ∧ bs.all id = true) ∧ RqW K "weights" H E
theorem ok_Question_initE (Z : CT K mg) (F : FunD K d_Question_init.name d_Question_init.qual d_Question_init.params d_Question_init.body d_Question_init.scope [] [] f fd) : FnOk P w K mg base (L2N.CX P w) 7 f fd ["self", "effects", "weights"] (spQBadE K) := by
  refine F.ok sc_Question_init (fun vs H Q E h => ?_) (fun cdv A outer s H vs Q E hr h => ?_)
  · obtain ⟨a, x, y, rfl, _⟩ := h
    rfl
  · obtain ⟨a, x, y, rfl, hx, r⟩ := h
    refine ⟨_, (pss_cons (ps_if (pt_not (pt_val (gcall (good_is_effectsB Z) hr (pa_cons (pv 1) pa_nil) pass0) (fun _ => rfl))) (pss_one (L2N.ps_raise rfl (L2N.takes_of rfl rfl rfl rfl) (rz_NoQuestion Z hr (pa_cons pe_str pa_nil)))) pss_nil)
      (pss_cons (ps_if (pt_not (pt_val (gcall (good_are_numbers Z) hr (pa_cons (pv 2) (pa_cons (pe_callB call_len_seq (by rfl) (m_len Z) PySem.boot_len (pa_cons (pv 1) pa_nil)) pa_nil)) pass0) (fun _ => rfl))) (pss_one (L2N.ps_raise rfl (L2N.takes_of rfl rfl rfl rfl) (rz_NoQuestion Z hr (pa_cons pe_str pa_nil)))) pss_nil)
      (pss_cons (ps_fld (pv 0) (pe_callTy call_tupA (by rfl) (m_tuple Z) boot_tuple (pa_cons (pv 1) pa_nil)) rfl)
      (pss_one (ps_fld (pv 0) (gcall (good_as_ratios Z) hr (pa_cons (pv 2) pa_nil) pass0) rfl))))), ?_⟩
    exact ⟨_, rfl, x, false, rfl, hx, fun H1 s1 => ⟨false, rfl, iteT ⟨_, rfl, fun d H' s' hd => r d H' (s1.trans s') hd⟩⟩⟩
theorem ok_Question_initN (Z : CT K mg) (F : FunD K d_Question_init.name d_Question_init.qual d_Question_init.params d_Question_init.body d_Question_init.scope [] [] f fd) : FnOk P w K mg base (L2N.CX P w) 7 f fd ["self", "effects", "weights"] (spQBadN K) := by
  refine F.ok sc_Question_init (fun vs H Q E h => ?_) (fun cdv A outer s H vs Q E hr h => ?_)
  · obtain ⟨a, e, zs, y, rfl, _⟩ := h
    rfl
  · obtain ⟨a, e, zs, y, rfl, he, ok, hy, r⟩ := h
    refine ⟨_, (pss_cons (ps_if (pt_not (pt_val (gcall (good_is_effects Z) hr (pa_cons (pv 1) pa_nil) pass0) (fun _ => rfl))) (pss_one (L2N.ps_raise rfl (L2N.takes_of rfl rfl rfl rfl) (rz_NoQuestion Z hr (pa_cons pe_str pa_nil)))) pss_nil)
      (pss_cons (ps_if (pt_not (pt_val (gcall (good_are_numbersN Z) hr (pa_cons (pv 2) (pa_cons (pe_callB call_len_seq (by rfl) (m_len Z) PySem.boot_len (pa_cons (pv 1) pa_nil)) pa_nil)) pass0) (fun _ => rfl))) (pss_one (L2N.ps_raise rfl (L2N.takes_of rfl rfl rfl rfl) (rz_NoQuestion Z hr (pa_cons pe_str pa_nil)))) pss_nil)
      (pss_cons (ps_fld (pv 0) (pe_callTy call_tupA (by rfl) (m_tuple Z) boot_tuple (pa_cons (pv 1) pa_nil)) rfl)
      (pss_one (ps_fld (pv 0) (gcall (good_as_ratios Z) hr (pa_cons (pv 2) pa_nil) pass0) rfl))))), ?_⟩
    refine ⟨_, rfl, e, zs, rfl, he, ok, fun H1 s1 => ⟨true, rfl, iteF ?_⟩⟩
    exact ⟨_, rfl, _, rfl, e, _, rfl, (he.same s1).seq, _, _, rfl, hy.same s1, fun H2 s2 => ⟨false, rfl, iteT ⟨_, rfl, fun d H' s' hd => r d H' ((s1.trans s2).trans s') hd⟩⟩⟩
theorem ok_Question_initL (Z : CT K mg) (F : FunD K d_Question_init.name d_Question_init.qual d_Question_init.params d_Question_init.body d_Question_init.scope [] [] f fd) : FnOk P w K mg base (L2N.CX P w) 7 f fd ["self", "effects", "weights"] (spQBadL K) := by
  refine F.ok sc_Question_init (fun vs H Q E h => ?_) (fun cdv A outer s H vs Q E hr h => ?_)
  · obtain ⟨a, e, w, zs, xs, bs, rfl, _⟩ := h
    rfl
  · obtain ⟨a, e, w0, zs, xs, bs, rfl, he, ok, hw, hl, hn, hb, bad, r⟩ := h
    refine ⟨_, (pss_cons (ps_if (pt_not (pt_val (gcall (good_is_effects Z) hr (pa_cons (pv 1) pa_nil) pass0) (fun _ => rfl))) (pss_one (L2N.ps_raise rfl (L2N.takes_of rfl rfl rfl rfl) (rz_NoQuestion Z hr (pa_cons pe_str pa_nil)))) pss_nil)
      (pss_cons (ps_if (pt_not (pt_val (gcall (good_are_numbers Z) hr (pa_cons (pv 2) (pa_cons (pe_callB call_len_seq (by rfl) (m_len Z) PySem.boot_len (pa_cons (pv 1) pa_nil)) pa_nil)) pass0) (fun _ => rfl))) (pss_one (L2N.ps_raise rfl (L2N.takes_of rfl rfl rfl rfl) (rz_NoQuestion Z hr (pa_cons pe_str pa_nil)))) pss_nil)
      (pss_cons (ps_fld (pv 0) (pe_callTy call_tupA (by rfl) (m_tuple Z) boot_tuple (pa_cons (pv 1) pa_nil)) rfl)
      (pss_one (ps_fld (pv 0) (gcall (good_as_ratios Z) hr (pa_cons (pv 2) pa_nil) pass0) rfl))))), ?_⟩
    refine ⟨_, rfl, e, zs, rfl, he, ok, fun H1 s1 => ⟨true, rfl, iteF ?_⟩⟩
    refine ⟨_, rfl, _, rfl, e, _, rfl, (he.same s1).seq, w0, xs, _, bs, rfl, hw.same s1, hl, hn, fun i x ex => let ⟨b, c, d⟩ := hb i x ex; ⟨b, c, d.same s1⟩, fun H2 s2 => ⟨_, rfl, ?_⟩⟩
    have lz : (zs.map V.str).length = zs.length := List.length_map _
    have hd : (decide ((xs.length : Int) = (((zs.map V.str).length : Nat) : Int)) && bs.all id) = false := by
      rw [lz]
      cases hb2 : bs.all id with
      | false => rw [Bool.and_false]
      | true => rw [Bool.and_true]; exact decide_eq_false fun e => bad ⟨by omega, hb2⟩
    rw [hd]
    exact iteT ⟨_, rfl, fun d H' s' hd => r d H' ((s1.trans s2).trans s') hd⟩
end
/-- what Question(x, y) answers -/
inductive AskQ (K : PySem.W.Frag) (H : Hp) (E : XK) (G : List Str → List (Int × Int) → Prop) : V → V → Prop
  | good {e w : Addr} {zs : List Str} {xs : List V} {qs : List (Int × Int)} (he : SqA H e (zs.map V.str)) (ok : EfOk zs) (hw : SqA H w xs) (hx : NumsAt K H xs qs) (hl : qs.length = zs.length) (g : G zs qs) : AskQ K H E G (.ref e) (.ref w)
  | eff {x y : V} (h : EfB K H x false) (r : RqW K "effects" H E) : AskQ K H E G x y
  | nos {e : Addr} {zs : List Str} {y : V} (he : SqA H e (zs.map V.str)) (ok : EfOk zs) (hy : NoSeq K H y) (r : RqW K "weights" H E) : AskQ K H E G (.ref e) y
  | bad {e w : Addr} {zs : List Str} {xs : List V} {bs : List Bool} (he : SqA H e (zs.map V.str)) (ok : EfOk zs) (hw : SqA H w xs) (hl : bs.length = xs.length) (hn : xs.length ≤ 900) (hb : ∀ (i : Nat) (x : V), xs[i]? = some x → ∃ b, bs[i]? = some b ∧ NumB K H x b) (h : ¬ (xs.length = zs.length ∧ bs.all id = true)) (r : RqW K "weights" H E) : AskQ K H E G (.ref e) (.ref w)
def tQX (K : PySem.W.Frag) (E : XK) (t : TA) : TE := fun σ H Q => t σ H fun vs H1 => ∃ x y, vs = [x, y] ∧ AskQ K H1 E (fun zs qs => ∀ p H', Same H1 H' → QAt K H' p zs qs → Q (.ref p) H') x y
theorem mkQX {X : Cx} {e : Expr} {es : List Expr} {ta : TA} {p pos : Pos} {k : Nat} {E : XK} (Z : CT X.K X.mg) (hr : Room k X.A) (ha : PA X (e :: es) ta) (hx : Passes (L2N.CX X.prog X.w) X E) (hk : 8 ≤ k := by decide) (hg : Gl X "Question" := by rfl) (he : starEach (e :: es) X.env = (false, eval e X.env) :: starEach es X.env := by rfl)
    (hpl : (backTo pos (starEach es X.env)).any (·.1) = false := by rfl) : PE X (.Call (.Name "Question" p) (e :: es) [] pos) (tQX X.K E ta) := by
  obtain ⟨fd, F⟩ := Z.d.def_ 42 (d := d_Question_init) rfl
  have G := FnOk.or (FnOk.ofCX0 (ok_Question_init (P := X.prog) (w := X.w) (base := X.base) Z F)) (FnOk.or (ok_Question_initE Z F) (FnOk.or (ok_Question_initN Z F) (ok_Question_initL Z F)))
  refine pe_imp (pe_make (mk_Question Z) G (hr.mono hk) hg (glo_Question Z) (F.bindsN fun _ _ _ _ _ _ us hl => match us, hl with | [_, _, _], _ => rfl) .nil hx (wk_a ha) (by decide) he hpl) fun σ H Q q => ⟨_, q, fun vs H1 z a dx na nd hne => ?_⟩
  obtain ⟨x, y, ev, h⟩ := z
  subst ev
  have s0 : Same H1 (upd (upd H1 dx (.own a)) a (.ins (He.ga X.K "Question") dx [])) := fun b o z => by rw [upd_ne (ne_of_none z na), upd_ne (ne_of_none z nd)]; exact z
  cases h with
  | good h1 h2 h3 h4 h5 h6 => exact .inl ⟨a, dx, _, _, _, _, _, rfl, upd_same, h1.same s0, h2, h3.same s0, h4.same s0, h5, fun H' e' w' ws k z => ⟨rfl, h6 a H' (fun b o y => k b (ne_of_none y na) o (s0 b o y)) ⟨dx, e', w', ws, z⟩⟩⟩
  | eff h r => exact .inr (.inl ⟨a, _, _, rfl, h.same s0, r.same s0⟩)
  | nos h1 h2 h3 r => exact .inr (.inr (.inl ⟨a, _, _, _, rfl, h1.same s0, h2, h3.same s0, r.same s0⟩))
  | bad h1 h2 h3 h4 h5 h6 h7 r => exact .inr (.inr (.inr ⟨a, _, _, _, _, _, rfl, h1.same s0, h2, h3.same s0, h4, h5, fun i x e => let ⟨b, c, d⟩ := h6 i x e; ⟨b, c, d.same s0⟩, h7, r.same s0⟩))
end My

namespace My
open PySem PySem.Spec PyProof.Rows L2 PySem.Calls

section
variable {P : Program} {w : World} {K : PySem.W.Frag} {mg : Str → Option Value} {base : Heap} {fd : FuncData} {f : Addr}
/-- a new question -/
def NewQ (K : PySem.W.Frag) (H : Hp) (zs : List Str) (rs : List (Int × Int)) (Q : VK) : Prop := ∀ p H', Same H H' → QAt K H' p zs rs → Q (.ref p) H'
theorem NewQ.to {K : PySem.W.Frag} {H H' : Hp} {zs : List Str} {rs : List (Int × Int)} {Q : VK} (h : NewQ K H zs rs Q) (s : Same H H') : NewQ K H' zs rs Q := fun p H2 s2 z => h p H2 (s.trans s2) z
/-- the question of zeros -/
def spNothing (K : PySem.W.Frag) : Sp := fun vs H Q _ => ∃ (l : Addr) (zs : List Str), vs = [.ref l] ∧ SqA H l (zs.map V.str) ∧ EfOk zs ∧ NewQ K H zs (List.replicate zs.length (0, 1)) Q
theorem ok_nothing (Z : CT K mg) (F : FunD K d_nothing.name d_nothing.qual d_nothing.params d_nothing.body d_nothing.scope [] [] f fd) : FnOk P w K mg base (CX0) 9 f fd ["effects"] (spNothing K) := by
  refine F.ok sc_nothing (fun vs H Q E h => ?_) (fun cdv A outer s H vs Q E hr h => ?_)
  · obtain ⟨l, zs, rfl, _⟩ := h
    rfl
  · obtain ⟨l, zs, rfl, hl, ok, q⟩ := h
    refine ⟨_, (pss_cons (ps_if (pt_not (pt_val (gcall (good_is_effects Z) hr (pa_cons (pv 0) pa_nil) pass0) (fun _ => rfl))) (pss_one ps_never) pss_nil)
      (pss_one (ps_ret (mkQ Z hr (pa_cons (pv 0) (pa_cons (pe_op op_rep (pe_lstN (pa_cons pe_int pa_nil)) (pe_callB call_len_seq (by rfl) (m_len Z) PySem.boot_len (pa_cons (pv 0) pa_nil))) pa_nil)))))), ?_⟩
    refine ⟨_, rfl, l, zs, rfl, hl, ok, fun H1 s1 => ⟨true, rfl, iteF ?_⟩⟩
    have l1 := ok.hi
    refine ⟨_, rfl, rfl, fun l1 H2 s2 hl1 n1 => ?_⟩
    refine ⟨_, rfl, l, _, rfl, (hl.same (s1.trans s2)).seq, l1, _, _, rfl, rfl, hl1, by omega, by rw [List.length_map]; omega, by rw [List.length_map]; unfold sizeLine; simp; omega, fun D hD => ?_⟩
    have s3 := s2.trans (same_new (o := .lst (List.replicate ((zs.map V.str).length : Int).toNat [V.int 0]).flatten) hD)
    refine ⟨l, D, zs, _, List.replicate zs.length (0, 1), rfl, hl.same (s1.trans s3), ok, .inl upd_same, ?_, by rw [List.length_replicate], fun p H3 s4 z => q p H3 (s1.trans (s3.trans s4)) z⟩
    have e : (List.replicate ((zs.map V.str).length : Int).toNat [V.int 0]).flatten = List.replicate zs.length (V.int 0) := by rw [List.length_map, Int.toNat_natCast, List.flatten_replicate_singleton]
    rw [e]
    refine ⟨by rw [List.length_replicate, List.length_replicate], fun i x q a b => ?_⟩
    obtain rfl := List.eq_of_mem_replicate (List.mem_of_getElem? a)
    obtain rfl := List.eq_of_mem_replicate (List.mem_of_getElem? b)
    exact .int 0

/-- the question of one effect -/
def unitW (zs : List Str) (z : Str) : List (Int × Int) := zs.map fun y => if y = z then (1, 1) else (0, 1)
def spEffect (K : PySem.W.Frag) : Sp := fun vs H Q _ => ∃ (l : Addr) (zs : List Str) (z : Str), vs = [.ref l, .str z] ∧ H l = some (.lst (zs.map V.str)) ∧ EfOk zs ∧ z ∈ zs ∧ NewQ K H zs (unitW zs z) Q
theorem ok_effect (Z : CT K mg) (F : FunD K d_effect.name d_effect.qual d_effect.params d_effect.body d_effect.scope [] [] f fd) : FnOk P w K mg base (CX0) 9 f fd ["effects", "name"] (spEffect K) := by
  refine F.ok sc_effect (fun vs H Q E h => ?_) (fun cdv A outer s H vs Q E hr h => ?_)
  · obtain ⟨l, zs, z, rfl, _⟩ := h
    rfl
  · obtain ⟨l, zs, z, rfl, hl, ok, hz, q⟩ := h
    refine ⟨_, (pss_cons (ps_if (pt_not (pt_val (gcall (good_is_effects Z) hr (pa_cons (pv 0) pa_nil) pass0) (fun _ => rfl))) (pss_one ps_never) pss_nil)
      (pss_cons (ps_if (pt_cmpR op_notIn_seq (pv 1) (pv 0) (by rfl)) (pss_one ps_never) pss_nil)
      (pss_one (ps_ret (mkQ Z hr (pa_cons (pv 0) (pa_cons (pe_lc (own := [("other", 2)]) (g := gName 2) (by rfl) sc_effect.nd (pi_list (pv 0)) (blkOk_by (own := [("other", 2)]) (N := ["effects", "name", "other"]) (sc := defScope s_effect) (by decide +kernel)) (fun _ _ _ _ _ => pg_name (i := 2) sc_effect.nd rfl (Or.inl rfl)) (fun _ _ _ _ _ => pts_nil) (fun _ _ _ _ _ => pe_ifExp (pt_cmpR (show OpR _ _ rEq from op_eq) (pv 2) (pv 1) (nomark _)) pe_int pe_int)) pa_nil))))))), ?_⟩
    refine ⟨_, rfl, l, zs, rfl, .inl hl, ok, fun H1 s1 => ⟨true, rfl, iteF ?_⟩⟩
    have l1 := ok.hi
    have hl1 := s1 _ _ hl
    refine ⟨_, rfl, _, rfl, l, _, rfl, .inl (SqL.of hl1), rfl, flat_strs zs, _, rfl, ?_⟩
    show if (!inV (.str z) (zs.map V.str)) = true then _ else _
    rw [inV_strs, decide_eq_true hz]
    refine iteF ⟨_, rfl, _, rfl, l, rfl, ⟨_, SqL.of hl1⟩, ?_⟩
    intro D hD
    refine comp hD (n := (zs.map V.str).length) (G := fun H => SqL K H l (zs.map V.str)) walk_list (fun j y H' => y = .int (if zs[j]? = some z then 1 else 0)) (fun _ _ _ _ h _ => h) (by rw [List.length_map]; omega) (fun H' s => SqL.of (s _ _ hl1)) ?_ ?_
    · rintro i x J1 J2 R hi s2 ⟨rfl, ex⟩ k
      rw [List.getElem?_map] at ex
      cases ez : zs[i]? with
      | none => rw [ez] at ex; cases ex
      | some y =>
        rw [ez] at ex
        obtain rfl := Option.some.inj ex
        refine ⟨rfl, _, rfl, _, rfl, rfl, _, rfl, ite2 (fun h => ?_) (fun h => ?_)⟩
        · have h := of_decide_eq_true h
          injection h with h
          exact k _ _ (Same.refl _) (by rw [ez, if_pos (by rw [h])])
        · have h : ¬ y = z := fun e => h (by rw [e]; exact decide_eq_true rfl)
          exact k _ _ (Same.refl _) (by rw [ez, if_neg (fun w => h (Option.some.inj w))])
    · intro acc H2 s2 hacc hlen hall
      have la : acc.length = zs.length := by rw [hlen, List.length_map]
      refine ⟨l, D, zs, acc, unitW zs z, rfl, .inl (s2 _ _ hl1), ok, .inl hacc, ⟨by unfold unitW; rw [List.length_map, la], fun i x q a b => ?_⟩, by unfold unitW; rw [List.length_map], fun p H3 s4 w => q p H3 (s1.trans (s2.trans s4)) w⟩
      have e := hall i x a
      unfold unitW at b
      rw [List.getElem?_map] at b
      cases ez : zs[i]? with
      | none => rw [ez] at b; cases b
      | some y =>
        rw [ez] at b e
        obtain rfl := Option.some.inj b
        rw [e]
        show Num _ _ (V.int (if some y = some z then 1 else 0)) (if y = z then (1, 1) else (0, 1))
        by_cases h : y = z
        · rw [if_pos h, if_pos (by rw [h])]; exact .int 1
        · rw [if_neg h, if_neg (fun w => h (Option.some.inj w))]; exact .int 0

def spNothingE (K : PySem.W.Frag) : Sp := fun vs H Q E => ∃ (x : V), vs = [x] ∧ EfB K H x false ∧ RqW K "effects" H E
/-- no name of the list -/
def NotIn (K : PySem.W.Frag) (H : Hp) (y : V) (zs : List Str) : Prop := (flatV y = true ∧ inV y (zs.map V.str) = false) ∨ ∃ a, y = .ref a ∧ Box K H a
theorem NotIn.same {K : PySem.W.Frag} {H H' : Hp} {y : V} {zs : List Str} (h : NotIn K H y zs) (s : Same H H') : NotIn K H' y zs := h.imp (fun h => h) fun ⟨a, e, b⟩ => ⟨a, e, b.same s⟩
def spEffectE (K : PySem.W.Frag) : Sp := fun vs H Q E => ∃ (x y : V), vs = [x, y] ∧ EfB K H x false ∧ RqW K "effects" H E
def spEffectS (K : PySem.W.Frag) : Sp := fun vs H Q E => ∃ (l : Addr) (zs : List Str) (y : V), vs = [.ref l, y] ∧ H l = some (.lst (zs.map V.str)) ∧ EfOk zs ∧ NotIn K H y zs ∧ RsW K y H E
theorem ok_nothingE (Z : CT K mg) (F : FunD K d_nothing.name d_nothing.qual d_nothing.params d_nothing.body d_nothing.scope [] [] f fd) : FnOk P w K mg base (L2N.CX P w) 9 f fd ["effects"] (spNothingE K) := by
  refine F.ok sc_nothing (fun vs H Q E h => ?_) (fun cdv A outer s H vs Q E hr h => ?_)
  · obtain ⟨x, rfl, _⟩ := h
    rfl
  · obtain ⟨x, rfl, hx, r⟩ := h
    refine ⟨_, (pss_cons (ps_if (pt_not (pt_val (gcall (good_is_effectsB Z) hr (pa_cons (pv 0) pa_nil) pass0) (fun _ => rfl))) (pss_one (L2N.ps_raise rfl (L2N.takes_of rfl rfl rfl rfl) (rz_NoQuestion Z hr (pa_cons pe_str pa_nil)))) pss_nil)
      (pss_one ps_never)), ?_⟩
    exact ⟨_, rfl, x, false, rfl, hx, fun H1 s1 => ⟨false, rfl, iteT ⟨_, rfl, fun d H' s' hd => r d H' (s1.trans s') hd⟩⟩⟩

theorem ok_effectE (Z : CT K mg) (F : FunD K d_effect.name d_effect.qual d_effect.params d_effect.body d_effect.scope [] [] f fd) : FnOk P w K mg base (L2N.CX P w) 9 f fd ["effects", "name"] (spEffectE K) := by
  refine F.ok sc_effect (fun vs H Q E h => ?_) (fun cdv A outer s H vs Q E hr h => ?_)
  · obtain ⟨x, y, rfl, _⟩ := h
    rfl
  · obtain ⟨x, y, rfl, hx, r⟩ := h
    refine ⟨_, (pss_cons (ps_if (pt_not (pt_val (gcall (good_is_effectsB Z) hr (pa_cons (pv 0) pa_nil) pass0) (fun _ => rfl))) (pss_one (L2N.ps_raise rfl (L2N.takes_of rfl rfl rfl rfl) (rz_NoQuestion Z hr (pa_cons pe_str pa_nil)))) pss_nil)
      (pss_cons ps_never
      (pss_one ps_never))), ?_⟩
    exact ⟨_, rfl, x, false, rfl, hx, fun H1 s1 => ⟨false, rfl, iteT ⟨_, rfl, fun d H' s' hd => r d H' (s1.trans s') hd⟩⟩⟩

theorem ok_effectS (Z : CT K mg) (F : FunD K d_effect.name d_effect.qual d_effect.params d_effect.body d_effect.scope [] [] f fd) : FnOk P w K mg base (L2N.CX P w) 9 f fd ["effects", "name"] (spEffectS K) := by
  refine F.ok sc_effect (fun vs H Q E h => ?_) (fun cdv A outer s H vs Q E hr h => ?_)
  · obtain ⟨l, zs, y, rfl, _⟩ := h
    rfl
  · obtain ⟨l, zs, y, rfl, hl, ok, hy, r⟩ := h
    refine ⟨_, (pss_cons (ps_if (pt_not (pt_val (gcall (good_is_effects Z) hr (pa_cons (pv 0) pa_nil) pass0) (fun _ => rfl))) (pss_one ps_never) pss_nil)
      (pss_cons (ps_if (pt_cmpR (opR_or op_notIn_seq (op_notInOdd (Nat.lt_of_le_of_lt (Nat.add_le_add_left (by decide : 1 ≤ 64) _) hr.units))) (pv 1) (pv 0) (by rfl)) (pss_one (L2N.ps_raise rfl (L2N.takes_of rfl rfl rfl rfl) (rz_NoSuch Z hr (pa_cons (pv 1) pa_nil)))) pss_nil)
      (pss_one ps_never))), ?_⟩
    refine ⟨_, rfl, l, zs, rfl, .inl hl, ok, fun H1 s1 => ⟨true, rfl, iteF ?_⟩⟩
    have hl1 := s1 _ _ hl
    have e : ∀ H' : Hp, Same H1 H' → RsW K y H' E := fun H' s' => r.same (s1.trans s')
    refine ⟨_, rfl, _, rfl, ?_⟩
    rcases hy with ⟨fy, hy⟩ | ⟨a, rfl, hb⟩
    · refine .inl ⟨l, _, rfl, .inl (SqL.of hl1), fy, flat_strs zs, _, rfl, ?_⟩
      show if (!inV y (zs.map V.str)) = true then _ else _
      rw [hy]
      exact iteT ⟨_, rfl, _, rfl, fun d H' s' hd => r d H' (s1.trans s') hd⟩
    · exact .inr ⟨a, l, zs, rfl, rfl, SqL.of hl1, hb.same s1, _, rfl, iteT ⟨_, rfl, _, rfl, fun d H' s' hd => r d H' (s1.trans s') hd⟩⟩

/-- nothing(x), effect(x, y): what they answer or raise -/
theorem good_nothing (Z : CT K mg) : GoodF (L2N.CX P w) P w K mg base 9 "nothing" ["effects"] (fun vs H Q E => spNothing K vs H Q E ∨ spNothingE K vs H Q E) := Z.good 53 20 d_nothing (fun _ _ _ _ _ _ us hl => match us, hl with | [_], _ => rfl) fun _ F => FnOk.or (FnOk.ofCX0 (ok_nothing Z F)) (ok_nothingE Z F)
theorem good_effect (Z : CT K mg) : GoodF (L2N.CX P w) P w K mg base 9 "effect" ["effects", "name"] (fun vs H Q E => spEffect K vs H Q E ∨ (spEffectE K vs H Q E ∨ spEffectS K vs H Q E)) := Z.good 52 19 d_effect (fun _ _ _ _ _ _ us hl => match us, hl with | [_, _], _ => rfl) fun _ F => FnOk.or (FnOk.ofCX0 (ok_effect Z F)) (FnOk.or (ok_effectE Z F) (ok_effectS Z F))
end
end My

namespace My
open PySem PySem.Spec PyProof.Rows L2 PySem.Calls

section
variable {P : Program} {w : World} {K : PySem.W.Frag} {mg : Str → Option Value} {base : Heap} {fd : FuncData} {f : Addr}
def spQNeg (K : PySem.W.Frag) : Sp := fun vs H Q _ => ∃ (a : Addr) (zs : List Str) (qs : List (Int × Int)), vs = [.ref a] ∧ QAt K H a zs qs ∧ EfOk zs ∧ qs.length = zs.length ∧ (∀ p ∈ qs, Okq 3900 p) ∧ NewQ K H zs (qs.map negQ) Q
theorem ok_Question_neg (Z : CT K mg) (F : FunD K d_Question_neg.name d_Question_neg.qual d_Question_neg.params d_Question_neg.body d_Question_neg.scope [] [] f fd) : FnOk P w K mg base (CX0) 9 f fd ["self"] (spQNeg K) := by
  refine F.ok sc_Question_neg (fun vs H Q E h => ?_) (fun cdv A outer s H vs Q E hr h => ?_)
  · obtain ⟨a, zs, qs, rfl, _⟩ := h
    rfl
  · obtain ⟨a, zs, qs, rfl, ha, ok, l3, o1, q⟩ := h
    refine ⟨_, (pss_one (ps_ret (mkQ Z hr (pa_cons (pe_fld (pv 0) rfl) (pa_cons (pe_lc (own := [("weight", 1)]) (g := gName 1) (by rfl) sc_Question_neg.nd (pi_tup (pe_fld (pv 0) rfl)) (blkOk_by (own := [("weight", 1)]) (N := ["self", "weight"]) (sc := defScope s_Question_neg) (by decide +kernel)) (fun _ _ _ _ _ => pg_name (i := 1) sc_Question_neg.nd rfl (Or.inl rfl)) (fun _ _ _ _ _ => pts_nil) (fun _ _ _ _ _ => pe_un ((show UnR _ _ (rUn K negQ) from un_negR Z (good_Ratio_neg Z) hr)) (pv 1))) pa_nil))))), ?_⟩
    obtain ⟨dx, e1, w1, ws, ha⟩ := ha
    have l1 := ok.hi
    refine ⟨_, rfl, a, _, dx, _, _, rfl, ha.o, (oc_Q Z).cl, no_Question_effects Z, qfs_e _ _, _, rfl, a, _, dx, _, _, rfl, ha.o, (oc_Q Z).cl, no_Question_weights Z, qfs_w _ _, w1, rfl, ⟨_, SqT.of ha.w⟩, ?_⟩
    intro D hD
    refine comp hD (n := ws.length) (G := fun H => SqT K H w1 ws) walk_tup (fun j y H' => ∃ r, y = .ref r ∧ RAt K H' r ((qs.map negQ).getD j (0, 0))) (fun _ _ _ _ ⟨r, e, z⟩ k => ⟨r, e, rat_mon z k⟩) (by rw [ha.r.1]; omega) (fun H' s => SqT.of (s _ _ ha.w)) ?_ ?_
    · rintro i x J1 J2 R hi s1 ⟨rfl, ex⟩ k
      have i1 : i < qs.length := by rw [← ha.r.1]; exact hi
      obtain ⟨r1, er1, hr1⟩ := ha.r.2 i x _ ex (List.getElem?_eq_getElem i1)
      subst er1
      refine ⟨rfl, _, rfl, _, _, rfl, hr1.same s1, o1 _ (List.getElem_mem i1), fun r5 H5 s5 hr5 => k _ _ s5 ⟨r5, rfl, ?_⟩⟩
      rw [List.getD_eq_getElem?_getD, List.getElem?_map, List.getElem?_eq_getElem i1]
      exact hr5
    · intro acc H2 s2 hacc hlen hall
      have lz : (qs.map negQ).length = acc.length := by rw [List.length_map, hlen, ha.r.1]
      have rr : RsAt K H2 acc (qs.map negQ) := ⟨lz.symm, fun i x p e1 e2 => by
        obtain ⟨r, e, hr⟩ := hall i x e1
        rw [List.getD_eq_getElem?_getD, e2] at hr
        exact ⟨r, e, hr⟩⟩
      exact ⟨e1, D, zs, acc, _, rfl, .inr (s2 _ _ ha.e), ok, .inl hacc, rr.nums, by rw [List.length_map, l3], fun p H3 s3 z => q p H3 (s2.trans s3) z⟩

theorem good_Question_neg (Z : CT K mg) : GoodMq (CX0) P w K mg base 9 "Question" "__neg__" ["self"] (spQNeg K) := goodMq Z 47 d_Question_neg (me_Question_neg Z) (fun _ _ _ _ _ _ us hl => match us, hl with | [_], _ => rfl) fun _ F => ok_Question_neg Z F
end
section
variable {X : Cx} {k : Nat}
/-- -q -/
def rQNeg (K : PySem.W.Frag) : V → Hp → VK → Prop := fun x H Q => ∃ (a : Addr) (zs : List Str) (qs : List (Int × Int)), x = .ref a ∧ QAt K H a zs qs ∧ EfOk zs ∧ qs.length = zs.length ∧ (∀ p ∈ qs, Okq 3900 p) ∧ NewQ K H zs (qs.map negQ) Q
theorem unQneg (Z : CT X.K X.mg) (hr : Room k X.A) (hk : 9 ≤ k := by decide) : UnR X (unaryOp .USub) (rQNeg X.K) := by
  obtain ⟨fd, F, B⟩ := (good_Question_neg (P := X.prog) (w := X.w) (base := X.base) Z).fn
  have me := me_Question_neg Z
  intro pins s σ H x v Q I rx ⟨a, zs, qs, e, h, ok, l3, o, q⟩
  subst e
  cases (show v = Value.ref a from rx)
  obtain ⟨dx, e1, w1, ws, hd⟩ := id h
  obtain ⟨od, J⟩ := ins_inst I hd.o
  obtain ⟨m, hF⟩ := I.fr
  exact PySem.W.ksp_neg hF I.ok.mod.kin J me.at_ me.fn (run_fn (us := [.ref a]) (vs := [.ref a]) F (hr.mono hk) B .nil pass0 I (.cons rfl .nil) ⟨a, zs, qs, rfl, h, ok, l3, o, q⟩)
end
section
variable {P : Program} {w : World} {K : PySem.W.Frag} {mg : Str → Option Value} {base : Heap} {fd : FuncData} {f : Addr}
/-- the effects are not the same -/
def spSameX (K : PySem.W.Frag) : Sp := fun vs H Q E => ∃ (a b : Addr) (zs ys : List Str) (qs rs : List (Int × Int)), vs = [.ref a, .ref b] ∧ QAt K H a zs qs ∧ QAt K H b ys rs ∧ EfOk zs ∧ EfOk ys ∧ ¬ zs = ys ∧ OeW K H E
/-- q + r, effects unlike -/
def spQAddX (K : PySem.W.Frag) : Sp := fun vs H Q E => ∃ (a b : Addr) (zs ys : List Str) (qs rs : List (Int × Int)), vs = [.ref a, .ref b] ∧ QAt K H a zs qs ∧ QAt K H b ys rs ∧ EfOk zs ∧ EfOk ys ∧ ¬ zs = ys ∧ OeW K H E
theorem ok_check_same_effectsX (Z : CT K mg) (F : FunD K d_check_same_effects.name d_check_same_effects.qual d_check_same_effects.params d_check_same_effects.body d_check_same_effects.scope [] [] f fd) : FnOk P w K mg base (L2N.CX P w) 2 f fd ["one", "other"] (spSameX K) := by
  refine F.ok sc_check_same_effects (fun vs H Q E h => ?_) (fun cdv A outer s H vs Q E hr h => ?_)
  · obtain ⟨a, b, zs, ys, qs, rs, rfl, _⟩ := h
    rfl
  · obtain ⟨a, b, zs, ys, qs, rs, rfl, ha, hb, ok, ok2, ne, r⟩ := h
    refine ⟨_, (pss_one (ps_if (pt_cmpR (op_neD hr.units) (pe_fld (pv 0) rfl) (pe_fld (pv 1) rfl) (nomark _)) (pss_one (L2N.ps_raise rfl (L2N.takes_of rfl rfl rfl rfl) (rz_OtherEffects Z))) pss_nil)), ?_⟩
    obtain ⟨dx, e1, w1, ws, ha⟩ := ha
    obtain ⟨dy, e2, w2, us, hb⟩ := hb
    refine ⟨_, rfl, a, _, dx, _, _, rfl, ha.o, (oc_Q Z).cl, no_Question_effects Z, qfs_e _ _, _, rfl, b, _, dy, _, _, rfl, hb.o, (oc_Q Z).cl, no_Question_effects Z, qfs_e _ _, _, _, .tup (SqT.of ha.e) (dp_strs zs), .tup (SqT.of hb.e) (dp_strs ys), shp_strs ok, shp_strs ok2, ?_⟩
    rw [eqv_strs, decide_eq_false ne]
    exact ⟨_, rfl, iteT (r _ (Same.refl _))⟩

theorem good_check_same_effectsX (Z : CT K mg) : GoodF (L2N.CX P w) P w K mg base 2 "check_same_effects" ["one", "other"] (spSameX K) := Z.good 51 18 d_check_same_effects (fun _ _ _ _ _ _ us hl => match us, hl with | [_, _], _ => rfl) fun _ F => ok_check_same_effectsX Z F
theorem ok_Question_addX (Z : CT K mg) (F : FunD K d_Question_add.name d_Question_add.qual d_Question_add.params d_Question_add.body d_Question_add.scope [] [] f fd) : FnOk P w K mg base (L2N.CX P w) 9 f fd ["self", "other"] (spQAddX K) := by
  refine F.ok sc_Question_add (fun vs H Q E h => ?_) (fun cdv A outer s H vs Q E hr h => ?_)
  · obtain ⟨a, b, zs, ys, qs, rs, rfl, _⟩ := h
    rfl
  · obtain ⟨a, b, zs, ys, qs, rs, rfl, ha, hb, ok, ok2, ne, r⟩ := h
    refine ⟨_, (pss_cons (ps_if (pt_not (pt_val (pe_callB call_isi (by rfl) (m_isinstance Z) boot_isinstance (pa_cons (pv 1) (pa_cons (pe_glob (by rfl) (glo_Question Z) (rel_ref _)) pa_nil))) (fun _ => rfl))) (pss_one ps_never) pss_nil)
      (pss_cons (ps_expr (gcall (good_check_same_effectsX Z) hr (pa_cons (pv 0) (pa_cons (pv 1) pa_nil)) (L2N.passes_call (L2N.takes_of rfl rfl rfl rfl) (fun _ _ _ _ h => h))))
      (pss_one ps_never))), ?_⟩
    have hb0 := hb
    obtain ⟨dx0, _, _, _, hbx⟩ := hb0
    refine ⟨_, rfl, .ref b, _, _, _, true, rfl, .own _, (oc_Q Z).ty hbx.o, (oc_Q Z).rr, true, rfl, iteF ?_⟩
    exact ⟨_, rfl, _, rfl, a, b, zs, ys, qs, rs, rfl, ha, hb, ok, ok2, ne, r⟩

theorem good_Question_addA (Z : CT K mg) : GoodMq (L2N.CX P w) P w K mg base 9 "Question" "__add__" ["self", "other"] (fun vs H Q E => spQAdd K vs H Q E ∨ spQAddX K vs H Q E) := goodMq Z 45 d_Question_add (me_Question_add Z) (fun _ _ _ _ _ _ us hl => match us, hl with | [_, _], _ => rfl) fun _ F => FnOk.or (FnOk.ofCX0 (ok_Question_add Z F)) (ok_Question_addX Z F)
/-- two questions joined -/
def JQ (K : PySem.W.Frag) (g : List (Int × Int) → List (Int × Int) → List (Int × Int)) (x y : V) (H : Hp) (Q : VK) (E : XK) : Prop := ∃ (a b : Addr) (zs ys : List Str) (qs rs : List (Int × Int)), x = .ref a ∧ y = .ref b ∧ QAt K H a zs qs ∧ QAt K H b ys rs ∧ EfOk zs ∧ EfOk ys ∧ qs.length = zs.length ∧ rs.length = ys.length ∧ (∀ p ∈ qs, Okq 3900 p) ∧ (∀ p ∈ rs, Okq 3900 p) ∧ (zs = ys → NewQ K H zs (g qs rs) Q) ∧ (¬ zs = ys → OeW K H E)
end
section
variable {X : Cx} {k : Nat} {E : XK}
def rJQ (K : PySem.W.Frag) (g : List (Int × Int) → List (Int × Int) → List (Int × Int)) (E : XK) : R2 := fun x y H Q => JQ K g x y H Q E
def addW (qs rs : List (Int × Int)) : List (Int × Int) := List.zipWith addQ qs rs
theorem opQAddA (Z : CT X.K X.mg) (hr : Room k X.A) (hx : Passes (L2N.CX X.prog X.w) X E) (hk : 9 ≤ k := by decide) : OpR X (binaryOp .Add) (rJQ X.K addW E) := by
  obtain ⟨fd, F, B⟩ := (good_Question_addA (P := X.prog) (w := X.w) (base := X.base) Z).fn
  have me := me_Question_add Z
  intro pins s σ H x y v u Q I rx ry ⟨a, b, zs, ys, qs, rs, ex, ey, ha, hb, h⟩
  subst ex ey
  cases (show v = Value.ref a from rx)
  cases (show u = Value.ref b from ry)
  obtain ⟨dx, e1, w1, ws, ha1⟩ := id ha
  obtain ⟨dy, e2, w2, us, hb1⟩ := id hb
  obtain ⟨od, J⟩ := ins_inst I ha1.o
  obtain ⟨od', J'⟩ := ins_inst I hb1.o
  obtain ⟨m, hF⟩ := I.fr
  refine PySem.W.binop_K hF I.ok.mod.kin J J'.type (oc_Q Z).self me.at_ me.fn (wpAny_mono (run_fn (Q := Q) (us := [.ref a, .ref b]) (vs := [.ref a, .ref b]) F (hr.mono hk) B .nil hx I (.cons rfl (.cons rfl .nil)) ?_) (fun w s' z => ?_) fun _ _ e => e)
  · obtain ⟨k1, k2, l1, l2, o1, o2, q1, q2⟩ := h
    by_cases e : zs = ys
    · subst e
      exact .inl ⟨a, b, zs, qs, rs, rfl, ha, hb, k1, l1, l2, o1, o2, q1 rfl⟩
    · exact .inr ⟨a, b, zs, ys, qs, rs, rfl, ha, hb, k1, k2, e, q2 e⟩
  · obtain ⟨z', H', I', rz, qz⟩ := z
    exact SlX.cmpback rz ⟨z', H', I', rz, qz⟩
end
section
variable {P : Program} {w : World} {K : PySem.W.Frag} {mg : Str → Option Value} {base : Heap} {fd : FuncData} {f : Addr}
theorem okq_negQ {p : Int × Int} {B : Nat} (h : Okq B p) : Okq B (negQ p) := ok_nrm (by simpa using h.1) h.2.1 h.2.2
def subW (qs rs : List (Int × Int)) : List (Int × Int) := List.zipWith addQ qs (rs.map negQ)
/-- q - r -/
def spQSubA (K : PySem.W.Frag) : Sp := fun vs H Q E => ∃ x y, vs = [x, y] ∧ JQ K subW x y H Q E
theorem ok_Question_subA (Z : CT K mg) (F : FunD K d_Question_sub.name d_Question_sub.qual d_Question_sub.params d_Question_sub.body d_Question_sub.scope [] [] f fd) : FnOk P w K mg base (L2N.CX P w) 10 f fd ["self", "other"] (spQSubA K) := by
  refine F.ok sc_Question_sub (fun vs H Q E h => ?_) (fun cdv A outer s H vs Q E hr h => ?_)
  · obtain ⟨x, y, rfl, _⟩ := h
    rfl
  · obtain ⟨x, y, rfl, a, b, zs, ys, qs, rs, rfl, rfl, ha, hb, k1, k2, l1, l2, o1, o2, q1, q2⟩ := h
    refine ⟨_, (pss_cons (ps_if (pt_not (pt_val (pe_callB call_isi (by rfl) (m_isinstance Z) boot_isinstance (pa_cons (pv 1) (pa_cons (pe_glob (by rfl) (glo_Question Z) (rel_ref _)) pa_nil))) (fun _ => rfl))) (pss_one ps_never) pss_nil)
      (pss_one (ps_ret (pe_op (opQAddA Z hr (L2N.passes_call (L2N.takes_of rfl rfl rfl rfl) (fun _ _ _ _ h => h))) (pv 0) (pe_un (unQneg Z hr) (pv 1)))))), ?_⟩
    obtain ⟨dy, e2, w2, us, hb1⟩ := id hb
    refine ⟨_, rfl, .ref b, _, _, _, true, rfl, .own _, (oc_Q Z).ty hb1.o, (oc_Q Z).rr, true, rfl, iteF ?_⟩
    refine ⟨_, rfl, _, rfl, b, ys, rs, rfl, hb, k2, l2, o2, fun p H1 s1 hp => ?_⟩
    exact ⟨a, p, zs, ys, qs, _, rfl, rfl, ha.same s1, hp, k1, k2, l1, by rw [List.length_map, l2], o1, fun r hr => by
      obtain ⟨r0, h0, rfl⟩ := List.mem_map.mp hr
      exact okq_negQ (o2 _ h0), fun e p2 H2 s2 h2 => q1 e p2 H2 (s1.trans s2) h2, fun e H2 s2 => q2 e H2 (s1.trans s2)⟩

theorem good_Question_subA (Z : CT K mg) : GoodMq (L2N.CX P w) P w K mg base 10 "Question" "__sub__" ["self", "other"] (spQSubA K) := goodMq Z 46 d_Question_sub (me_Question_sub Z) (fun _ _ _ _ _ _ us hl => match us, hl with | [_, _], _ => rfl) fun _ F => ok_Question_subA Z F
end
section
variable {X : Cx} {k : Nat} {E : XK}
theorem opQSubA (Z : CT X.K X.mg) (hr : Room k X.A) (hx : Passes (L2N.CX X.prog X.w) X E) (hk : 10 ≤ k := by decide) : OpR X (binaryOp .Sub) (rJQ X.K subW E) := by
  obtain ⟨fd, F, B⟩ := (good_Question_subA (P := X.prog) (w := X.w) (base := X.base) Z).fn
  have me := me_Question_sub Z
  intro pins s σ H x y v u Q I rx ry ⟨a, b, zs, ys, qs, rs, ex, ey, ha, hb, h⟩
  subst ex ey
  cases (show v = Value.ref a from rx)
  cases (show u = Value.ref b from ry)
  obtain ⟨dx, e1, w1, ws, ha1⟩ := id ha
  obtain ⟨dy, e2, w2, us, hb1⟩ := id hb
  obtain ⟨od, J⟩ := ins_inst I ha1.o
  obtain ⟨od', J'⟩ := ins_inst I hb1.o
  obtain ⟨m, hF⟩ := I.fr
  refine PySem.W.binop_K hF I.ok.mod.kin J J'.type (oc_Q Z).self me.at_ me.fn (wpAny_mono (run_fn (Q := Q) (us := [.ref a, .ref b]) (vs := [.ref a, .ref b]) F (hr.mono hk) B .nil hx I (.cons rfl (.cons rfl .nil)) ?_) (fun w s' z => ?_) fun _ _ e => e)
  · exact ⟨.ref a, .ref b, rfl, a, b, zs, ys, qs, rs, rfl, rfl, ha, hb, h⟩
  · obtain ⟨z', H', I', rz, qz⟩ := z
    exact SlX.cmpback rz ⟨z', H', I', rz, qz⟩
end
section
variable {P : Program} {w : World} {K : PySem.W.Frag} {mg : Str → Option Value} {base : Heap} {fd : FuncData} {f : Addr}
/-- q.over(0) -/
def spQZero (K : PySem.W.Frag) : Sp := fun vs H Q E => ∃ (a : Addr) (y : V) (n : Int × Int) (zs : List Str) (qs : List (Int × Int)), vs = [.ref a, y] ∧ QAt K H a zs qs ∧ Num K H y n ∧ Okq 1000 n ∧ n.1 = 0 ∧ EfOk zs ∧ qs.length = zs.length ∧ (∀ p ∈ qs, Okq 1000 p) ∧ RzW K "zero" H E
theorem ok_Question_overZ (Z : CT K mg) (F : FunD K d_Question_over.name d_Question_over.qual d_Question_over.params d_Question_over.body d_Question_over.scope [] [] f fd) : FnOk P w K mg base (L2N.CX P w) 9 f fd ["self", "number"] (spQZero K) := by
  refine F.ok sc_Question_over (fun vs H Q E h => ?_) (fun cdv A outer s H vs Q E hr h => ?_)
  · obtain ⟨a, y, n, zs, qs, rfl, _⟩ := h
    rfl
  · obtain ⟨a, y, n, zs, qs, rfl, ha, hn, on, n0, ok, l3, o1, r⟩ := h
    refine ⟨_, (pss_one (ps_ret (mkQ Z hr (pa_cons (pe_fld (pv 0) rfl) (pa_cons (pe_lcX (W := fun cls d _ H => E cls d H) (own := [("weight", 2)]) (g := gName 2) (by rfl) sc_Question_over.nd (pi_tup (pe_fld (pv 0) rfl)) (blkOk_by (own := [("weight", 2)]) (N := ["self", "number", "weight"]) (sc := defScope s_Question_over) (by decide +kernel)) rfl rfl (L2N.takes_of rfl rfl rfl rfl) (fun _ _ _ _ _ h => h) (fun _ _ _ _ _ => pg_name (i := 2) sc_Question_over.nd rfl (Or.inl rfl)) (fun _ _ _ _ _ => (show PE _ _ (tOverM K E _ _) from overM Z hr (pv 2) (pa_cons (pv 1) pa_nil) (passF fun _ _ _ _ h => h)))) pa_nil))))), ?_⟩
    obtain ⟨dx, e1, w1, ws, ha⟩ := ha
    have l1 := ok.lo
    have hl : 0 < ws.length := by rw [ha.r.1, l3]; omega
    refine ⟨_, rfl, a, _, dx, _, _, rfl, ha.o, (oc_Q Z).cl, no_Question_effects Z, qfs_e _ _, _, rfl, a, _, dx, _, _, rfl, ha.o, (oc_Q Z).cl, no_Question_weights Z, qfs_w _ _, w1, rfl, ⟨_, SqT.of ha.w⟩, ?_⟩
    intro D hD
    have s1 : Same H (upd H D (.lst [])) := same_new hD
    refine ⟨walk_tup.1 0 _ hl (SqT.of (s1 _ _ ha.w)), fun x H' hy => ?_⟩
    obtain ⟨rfl, ex⟩ := walk_tup.3 0 _ _ _ hl (SqT.of (s1 _ _ ha.w)) hy
    have i1 : 0 < qs.length := by rw [← ha.r.1]; exact hl
    obtain ⟨r1, er1, hr1⟩ := ha.r.2 0 x _ ex (List.getElem?_eq_getElem i1)
    subst er1
    exact ⟨_, rfl, r1, _, rfl, hr1.same s1, _, rfl, r1, _, y, n, rfl, hr1.same s1, hn.same s1, o1 _ (List.getElem_mem i1), on, fun _ d H2 s2 hd => r d H2 (s1.trans s2) hd, fun z => absurd n0 z⟩

theorem good_Question_overZ (Z : CT K mg) : GoodMq (L2N.CX P w) P w K mg base 9 "Question" "over" ["self", "number"] (spQZero K) := goodMq Z 50 d_Question_over (me_Question_over Z) (fun _ _ _ _ _ _ us hl => match us, hl with | [_, _], _ => rfl) fun _ F => ok_Question_overZ Z F
end
section
variable {X : Cx} {e o : Expr} {ta : TE} {t : TA} {apos pos : Pos} {k : Nat} {E : XK}
def tOverZ (K : PySem.W.Frag) (E : XK) (ta : TE) (t : TA) : TE := fun σ H Q => ta σ H fun x H1 => ∃ a zs qs, x = .ref a ∧ QAt K H1 a zs qs ∧ t σ H1 fun vs H2 => spQZero K (x :: vs) H2 Q E
theorem overQZ (Z : CT X.K X.mg) (hr : Room k X.A) (he : PE X o ta) (ha : PA X [e] t) (hx : Passes (L2N.CX X.prog X.w) X E) (hk : 9 ≤ k := by decide) (hst : starEach [e] X.env = (false, eval e X.env) :: starEach [] X.env := by rfl) (hpl : (backTo pos (starEach [] X.env)).any (·.1) = false := by rfl)
    {pl : Sem Bool} (ht : eval (.Call (.Attribute o "over" apos) [e] [] pos) X.env = (do
      let ov ← eval o X.env
      standAt apos.atName
      let (f, first) ← holding [ov] (getMethod ov "over" pl)
      callWith pos f first (backTo pos (starEach [e] X.env)) (backToKw pos (keywordEach [] X.env))) := by rfl) : PE X (.Call (.Attribute o "over" apos) [e] [] pos) (tOverZ X.K E ta t) := by
  obtain ⟨fd, F, B⟩ := (good_Question_overZ (P := X.prog) (w := X.w) (base := X.base) Z).fn
  refine pe_imp (pe_meth (wk_e he) (oc_Q Z).cl (me_Question_over Z) F (hr.mono hk) B .nil hx (wk_a ha) hst hpl ht) fun σ H Q q => ⟨_, q, fun x H1 ⟨a, zs, qs, ex, ⟨dx, e, w, ws, hd⟩, q2⟩ => ⟨a, dx, _, ex, hd.o, qfs_no _ _ (by decide +kernel) (by decide +kernel), _, q2, fun vs H2 z => by show spQZero X.K (x :: (vs ++ [])) H2 _ _; rw [List.append_nil]; exact z⟩⟩
end
end My

namespace My
open PySem PySem.Spec PyProof.Rows L2 PySem.Calls

/-- what a call in the body of a try may let out, whatever the slots are -/
abbrev WL (n : Nat) (W : L2.WX) : XK := fun cls d H => ∀ σ : L2.St, σ.length = n → W cls d σ H
theorem passL {X : Cx} {W : L2.WX} {n : Nat} (tk : L2N.Takes X W) (hn : X.N.length = n := by rfl) : Passes (L2N.CX X.prog X.w) X (WL n W) := fun _ σ _ _ e s' I c => tk e s' (L2N.XE.of_call I (fun _ _ _ h => h σ (I.len.trans hn)) c)
section
variable {X : Cx} {a : Addr} {oe : Obj} {cls : Value} {d : Option Addr} {pn : List (Addr × Obj)}
def rIsS0 (K : PySem.W.Frag) (a : Addr) (cls : Value) (d : Option Addr) : List V → Hp → VK → Prop := fun xs H Q => ∃ (C : Addr) (c : V) (cv : Value) (b : Bool), xs = [.ref a, c] ∧ cls = .ref C ∧ d = none ∧ XCls K C ∧ (∀ u, RelV c u → u = cv) ∧ PySem.W.kitOne K (.ref C) cv = some b ∧ Q (.bl b) H
theorem call_isS0 (hz : L2N.Zn cls d oe) (hf : ∃ vs, oe.data = .fields vs) : CallR (X.suite a ((a, oe) :: pn)) (.builtin "isinstance") (rIsS0 X.K a cls d) := by
  intro pins s σ H xs us Q I r h
  obtain ⟨C, c, cv, b, rfl, ec, ed, T, hcv, hk, q⟩ := h
  obtain ⟨u1, u2, rfl, r1, r2⟩ := r.two
  cases (show u1 = Value.ref a from r1)
  have e2 := hcv _ r2
  subst e2 ec ed
  obtain ⟨ha, _⟩ := I.pin (a, oe) (List.mem_append_left _ List.mem_cons_self)
  obtain ⟨vs, hv⟩ := hf
  have J : PySem.W.InstAt s.heap a oe C none := ⟨ha, hz.1, by unfold PySem.W.notCls; rw [hv] <;> rfl, by rw [hz.2.1]; trivial⟩
  exact PySem.W.kia_one (x_kit T) I.kIn J hk (fun z => nomatch z) fun tk => ⟨.bl b, H, I.tok _, rfl, q⟩
end
section
variable {P : Program} {w : World} {K : PySem.W.Frag} {mg : Str → Option Value} {base : Heap} {fd : FuncData} {f : Addr}
theorem x_NoWorld_me (Z : CT K mg) : PySem.W.kitOne K (rf K "NoWorld") (rf K "MethodError") = some true := of_decide_eq_true (Bool.and_eq_true_iff.mp (Bool.and_eq_true_iff.mp (exmore Z).2.1).2).1
theorem caught_NoQuestion {H : Hp} {d : Addr} {fs : List (Str × V)} (Z : CT K mg) (h : H d = some (.xd fs)) : Caught K (.ref (He.ga K "NoQuestion")) (some d) H (He.ga K "NoQuestion") fs := ⟨rfl, x_NoQuestion Z, d, rfl, h⟩
theorem caught_NoSuch {H : Hp} {d : Addr} {fs : List (Str × V)} (Z : CT K mg) (h : H d = some (.xd fs)) : Caught K (.ref (He.ga K "NoSuch")) (some d) H (He.ga K "NoSuch") fs := ⟨rfl, x_NoSuch Z, d, rfl, h⟩
theorem caught_NoRatio {H : Hp} {d : Addr} {fs : List (Str × V)} (Z : CT K mg) (h : H d = some (.xd fs)) : Caught K (.ref (He.ga K "NoRatio")) (some d) H (He.ga K "NoRatio") fs := ⟨rfl, xN Z, d, rfl, h⟩
theorem told_NoQuestion (Z : CT K mg) : XMethH P w K mg base (He.ga K "NoQuestion") "told" (He.ma K (He.ga K "NoQuestion") "told") "refused noquestion" :=
  toldH_of (me_NoQuestion_told Z) (Z.d.def_ 4 (d := d_NoQuestion_told) rfl) sc_NoQuestion_told rfl (fun _ _ _ _ _ _ us hl => match us, hl with | [_], _ => rfl)
theorem told_NoSuch (Z : CT K mg) : XMethH P w K mg base (He.ga K "NoSuch") "told" (He.ma K (He.ga K "NoSuch") "told") "refused nosuch" :=
  toldH_of (me_NoSuch_told Z) (Z.d.def_ 8 (d := d_NoSuch_told) rfl) sc_NoSuch_told rfl (fun _ _ _ _ _ _ us hl => match us, hl with | [_], _ => rfl)
theorem told_NoWorld (Z : CT K mg) : XMethH P w K mg base (He.ga K "NoWorld") "told" (He.ma K (He.ga K "NoWorld") "told") "refused noworld" :=
  toldH_of (me_NoWorld_told Z) (Z.d.def_ 6 (d := d_NoWorld_told) rfl) sc_NoWorld_told rfl (fun _ _ _ _ _ _ us hl => match us, hl with | [_], _ => rfl)
theorem told_OtherEffects (Z : CT K mg) : XMethH P w K mg base (He.ga K "OtherEffects") "told" (He.ma K (He.ga K "OtherEffects") "told") "refused othereffects" :=
  toldH_of (me_OtherEffects_told Z) (Z.d.def_ 5 (d := d_OtherEffects_told) rfl) sc_OtherEffects_told rfl (fun _ _ _ _ _ _ us hl => match us, hl with | [_], _ => rfl)
/-- no sequence of n numbers -/
inductive BadNs (K : PySem.W.Frag) (H : Hp) (n : Nat) : V → Prop
  | nos {y : V} (h : NoSeq K H y) : BadNs K H n y
  | seq {w : Addr} {xs : List V} {bs : List Bool} (hw : SqA H w xs) (hl : bs.length = xs.length) (hn : xs.length ≤ 900) (hb : ∀ (i : Nat) (x : V), xs[i]? = some x → ∃ b, bs[i]? = some b ∧ NumB K H x b) (h : ¬ (xs.length = n ∧ bs.all id = true)) : BadNs K H n (.ref w)
theorem BadNs.same {K : PySem.W.Frag} {H H' : Hp} {n : Nat} {y : V} (h : BadNs K H n y) (s : Same H H') : BadNs K H' n y := by
  cases h with
  | nos h => exact .nos (h.same s)
  | seq hw hl hn hb h => exact .seq (hw.same s) hl hn (fun i x e => let ⟨b, c, d⟩ := hb i x e; ⟨b, c, d.same s⟩) h
/-- at, asked of a thing that is no sequence -/
def spAtN (K : PySem.W.Frag) : Sp := fun vs H Q E => ∃ (a : Addr) (zs : List Str) (qs : List (Int × Int)) (y : V), vs = [.ref a, y] ∧ QAt K H a zs qs ∧ NoSeq K H y ∧ WoW K H E
theorem ok_Question_atN (Z : CT K mg) (F : FunD K d_Question_at.name d_Question_at.qual d_Question_at.params d_Question_at.body d_Question_at.scope [] [] f fd) : FnOk P w K mg base (L2N.CX P w) 8 f fd ["self", "world"] (spAtN K) := by
  refine F.ok sc_Question_at (fun vs H Q E h => ?_) (fun cdv A outer s H vs Q E hr h => ?_)
  · obtain ⟨a, zs, qs, y, rfl, _⟩ := h
    rfl
  · obtain ⟨a, zs, qs, y, rfl, hq, hy, bad⟩ := h
    refine ⟨_, (pss_cons (ps_if (pt_not (pt_val (gcall (good_are_numbersN Z) hr (pa_cons (pv 1) (pa_cons (pe_callB call_lenT (by rfl) (m_len Z) PySem.boot_len (pa_cons (pe_fld (pv 0) rfl) pa_nil)) pa_nil)) pass0) (fun _ => rfl))) (pss_one (L2N.ps_raise rfl (L2N.takes_of rfl rfl rfl rfl) (rz_NoWorld Z))) pss_nil)
      (pss_cons (ps_set (i := 2) sc_Question_at.nd rfl (by first | exact Or.inl rfl | exact Or.inr rfl) (mkR1 Z hr (pa_cons pe_int pa_nil) (L2N.passes_call (L2N.takes_of rfl rfl rfl rfl) (fun _ _ _ _ h => h))))
      (pss_cons (ps_for (passes_of rfl) rfl (pi_zipM rfl (m_zip Z) (pa_cons (pe_fld (pv 0) rfl) (pa_cons (pv 1) pa_nil))) (pg_tup rfl (pgs_cons (pg_name (i := 3) sc_Question_at.nd rfl (Or.inl rfl)) (pgs_cons (pg_name (i := 4) sc_Question_at.nd rfl (Or.inl rfl)) pgs_nil))) (pss_one (ps_set (i := 2) sc_Question_at.nd rfl (by first | exact Or.inl rfl | exact Or.inr rfl) (pe_op (opAdd Z hr ) (pv 2) (pe_op (opMul Z hr ) (pv 3) (pv 4))))))
      (pss_one (ps_ret (pv 2)))))), ?_⟩
    obtain ⟨dx, e, w1, ws, hq⟩ := hq
    exact ⟨_, rfl, _, rfl, a, _, dx, _, _, rfl, hq.o, (oc_Q Z).cl, no_Question_effects Z, qfs_e _ _, e, _, rfl, SqT.of hq.e, _, _, rfl, hy, fun H1 s1 => ⟨_, rfl, iteT (bad _ s1)⟩⟩

def spAtA (K : PySem.W.Frag) : Sp := fun vs H Q E => spAt K vs H Q E ∨ spAtN K vs H Q E
theorem good_Question_atA (Z : CT K mg) : GoodMq (L2N.CX P w) P w K mg base 8 "Question" "at" ["self", "world"] (spAtA K) := goodMq Z 43 d_Question_at (me_Question_at Z) (fun _ _ _ _ _ _ us hl => match us, hl with | [_, _], _ => rfl) fun _ F => FnOk.or (ok_Question_at Z F) (ok_Question_atN Z F)
end
section
variable {X : Cx} {e o : Expr} {ta : TE} {t : TA} {apos pos : Pos} {k : Nat} {E : XK}
def tAtMA (K : PySem.W.Frag) (E : XK) (ta : TE) (t : TA) : TE := fun σ H Q => ta σ H fun x H1 => ∃ a zs qs, x = .ref a ∧ QAt K H1 a zs qs ∧ t σ H1 fun vs H2 => spAtA K (x :: vs) H2 Q E
theorem atMA (Z : CT X.K X.mg) (hr : Room k X.A) (he : PE X o ta) (ha : PA X [e] t) (hx : Passes (L2N.CX X.prog X.w) X E) (hk : 8 ≤ k := by decide) (hst : starEach [e] X.env = (false, eval e X.env) :: starEach [] X.env := by rfl) (hpl : (backTo pos (starEach [] X.env)).any (·.1) = false := by rfl)
    {pl : Sem Bool} (ht : eval (.Call (.Attribute o "at" apos) [e] [] pos) X.env = (do
      let ov ← eval o X.env
      standAt apos.atName
      let (f, first) ← holding [ov] (getMethod ov "at" pl)
      callWith pos f first (backTo pos (starEach [e] X.env)) (backToKw pos (keywordEach [] X.env))) := by rfl) : PE X (.Call (.Attribute o "at" apos) [e] [] pos) (tAtMA X.K E ta t) := by
  obtain ⟨fd, F, B⟩ := (good_Question_atA (P := X.prog) (w := X.w) (base := X.base) Z).fn
  refine pe_imp (pe_meth (wk_e he) (oc_Q Z).cl (me_Question_at Z) F (hr.mono hk) B .nil hx (wk_a ha) hst hpl ht) fun σ H Q q => ⟨_, q, fun x H1 ⟨a, zs, qs, ex, ⟨dx, e, w, ws, hd⟩, q2⟩ => ⟨a, dx, _, ex, hd.o, qfs_no _ _ (by decide +kernel) (by decide +kernel), _, q2, fun vs H2 z => by show spAtA X.K (x :: (vs ++ [])) H2 _ _; rw [List.append_nil]; exact z⟩⟩
end
section
variable {P : Program} {w : World} {K : PySem.W.Frag} {mg : Str → Option Value} {base : Heap} {fd : FuncData} {f : Addr}
/-- what Question(x, y) tells -/
def TQ (z : Str) (H : Hp) (Q : VK) : Prop := ∀ H' t, Same H H' → H' t = some (.tup [.str z, .str "refused noquestion", .bl true]) → Q (.ref t) H'
def TS0 (z : Str) (H : Hp) (Q : VK) : Prop := ∀ H', Same H H' → Q (.str z) H'
inductive Made (K : PySem.W.Frag) (H : Hp) (Q : VK) : V → V → Prop
  | good {e w : Addr} {zs : List Str} {xs : List V} {qs : List (Int × Int)} (he : SqA H e (zs.map V.str)) (ok : EfOk zs) (hw : SqA H w xs) (hx : NumsAt K H xs qs) (hl : qs.length = zs.length) (q : TS0 "made" H Q) : Made K H Q (.ref e) (.ref w)
  | eff {x y : V} (h : EfB K H x false) (q : TQ "effects" H Q) : Made K H Q x y
  | bad {e : Addr} {zs : List Str} {y : V} (he : SqA H e (zs.map V.str)) (ok : EfOk zs) (h : BadNs K H zs.length y) (q : TQ "weights" H Q) : Made K H Q (.ref e) y
def spMade (K : PySem.W.Frag) : Sp := fun vs H Q _ => ∃ (x y : V), vs = [x, y] ∧ Made K H Q x y
theorem ok_made (Z : CT K mg) (F : FunD K d_made.name d_made.qual d_made.params d_made.body d_made.scope [] [] f fd) : FnOk P w K mg base (L2N.CX P w) 9 f fd ["_law_effects_here", "_law_weights"] (spMade K) := by
  refine F.ok sc_made (fun vs H Q E h => ?_) (fun cdv A outer s H vs Q E hr h => ?_)
  · obtain ⟨x, y, rfl, _⟩ := h
    rfl
  · obtain ⟨x, y, rfl, hm⟩ := h
    refine ⟨_, (pss_cons (ps_set (i := 2) sc_made.nd rfl (by first | exact Or.inl rfl | exact Or.inr rfl) (pe_str))
      (pss_cons (L2N.ps_try_as (i := 4) (tb := fun W => tAsg (tQX K (WL 5 W) (tCons (tVar 0) (tCons (tVar 1) tNil))) (gName 3)) rfl rfl sc_made.nd rfl rfl ⟨by rfl, by decide, .inl (glo_NoQuestion Z)⟩ (L2N.takes_of rfl rfl rfl rfl) (fun W pn xe tk hp => (pss_one (ps_set (i := 3) sc_made.nd rfl (by first | exact Or.inl rfl | exact Or.inr rfl) (mkQX Z hr (pa_cons (pv 0) (pa_cons (pv 1) pa_nil)) (passL tk))))) (fun a oe cls d pn hz hf => (pss_one (ps_set (i := 2) sc_made.nd rfl (by first | exact Or.inl rfl | exact Or.inr rfl) (pe_tupN (pa_cons (pe_xs hz hf (pv 4)) (pa_cons (pe_xsM hz hf hr (pv 4)) (pa_cons (pe_callB (call_isS hz hf) (by rfl) (m_isinstance Z) boot_isinstance (pa_cons (pv 4) (pa_cons (pe_glob (by rfl) (glo_MethodError Z) (rel_ref _)) pa_nil))) pa_nil))))))))
      (pss_one (ps_ret (pv 2))))), ?_⟩
    refine ⟨_, rfl, _, rfl, x, y, rfl, ?_⟩
    cases hm with
    | good he ok hw hx hl q => exact .good he ok hw hx hl fun p H' s' hu => ⟨_, rfl, q H' s'⟩
    | eff h q =>
      refine .eff h ?_
      intro d H' s' hd σ hl
      match σ, hl with
      | [_, _, _, _, _], _ =>
        refine ⟨true, x_NoQuestion_exm Z, fun _ a ha => ⟨_, rfl, _, _, _, rfl, caught_NoQuestion Z hd, no_NoQuestion_word Z, rfl, _, rfl, _, _, _, _, rfl, caught_NoQuestion Z hd, rfl, told_NoQuestion Z, _, rfl, _, _, _, _, true, rfl, caught_NoQuestion Z hd, fun u r => r, x_NoQuestion_me Z, rfl, fun t5 G5 s5 h5 n5 => ?_⟩, fun z => (nomatch z)⟩
        exact ⟨_, rfl, q _ _ (s'.trans s5) h5⟩
    | bad he ok h q =>
      cases h with
      | nos h =>
        refine .nos he ok h ?_
        intro d H' s' hd σ hl
        match σ, hl with
        | [_, _, _, _, _], _ =>
          refine ⟨true, x_NoQuestion_exm Z, fun _ a ha => ⟨_, rfl, _, _, _, rfl, caught_NoQuestion Z hd, no_NoQuestion_word Z, rfl, _, rfl, _, _, _, _, rfl, caught_NoQuestion Z hd, rfl, told_NoQuestion Z, _, rfl, _, _, _, _, true, rfl, caught_NoQuestion Z hd, fun u r => r, x_NoQuestion_me Z, rfl, fun t5 G5 s5 h5 n5 => ?_⟩, fun z => (nomatch z)⟩
          exact ⟨_, rfl, q _ _ (s'.trans s5) h5⟩
      | seq hw hl hn hb h =>
        refine .bad he ok hw hl hn hb h ?_
        intro d H' s' hd σ hl
        match σ, hl with
        | [_, _, _, _, _], _ =>
          refine ⟨true, x_NoQuestion_exm Z, fun _ a ha => ⟨_, rfl, _, _, _, rfl, caught_NoQuestion Z hd, no_NoQuestion_word Z, rfl, _, rfl, _, _, _, _, rfl, caught_NoQuestion Z hd, rfl, told_NoQuestion Z, _, rfl, _, _, _, _, true, rfl, caught_NoQuestion Z hd, fun u r => r, x_NoQuestion_me Z, rfl, fun t5 G5 s5 h5 n5 => ?_⟩, fun z => (nomatch z)⟩
          exact ⟨_, rfl, q _ _ (s'.trans s5) h5⟩

theorem good_made (Z : CT K mg) : GoodF (L2N.CX P w) P w K mg base 9 "_law_made" ["_law_effects_here", "_law_weights"] (spMade K) := Z.good 61 28 d_made (fun _ _ _ _ _ _ us hl => match us, hl with | [_, _], _ => rfl) fun _ F => ok_made Z F
/-- what at(world) tells -/
inductive Askd (K : PySem.W.Frag) (H : Hp) (Q : VK) (qs : List (Int × Int)) : V → Prop
  | good {w : Addr} {xs : List V} {ns : List (Int × Int)} (hw : SqA H w xs) (hx : NumsAt K H xs ns) (hl : ns.length = qs.length) (b1 : ∀ p ∈ qs, Okq 200 p) (b2 : ∀ p ∈ ns, Okq 700 p) (q : TS0 "told" H Q) : Askd K H Q qs (.ref w)
  | bad {y : V} (h : BadNs K H qs.length y) (q : ∀ H' t, Same H H' → H' t = some (.tup [.str "refused noworld", .bl true]) → Q (.ref t) H') : Askd K H Q qs y
def spAsked (K : PySem.W.Frag) : Sp := fun vs H Q _ => ∃ (a : Addr) (y : V) (zs : List Str) (qs : List (Int × Int)), vs = [.ref a, y] ∧ QAt K H a zs qs ∧ qs.length = zs.length ∧ qs.length ≤ 4 ∧ Askd K H Q qs y
theorem ok_asked (Z : CT K mg) (F : FunD K d_asked.name d_asked.qual d_asked.params d_asked.body d_asked.scope [] [] f fd) : FnOk P w K mg base (L2N.CX P w) 9 f fd ["_law_question", "_law_world"] (spAsked K) := by
  refine F.ok sc_asked (fun vs H Q E h => ?_) (fun cdv A outer s H vs Q E hr h => ?_)
  · obtain ⟨a, y, zs, qs, rfl, _⟩ := h
    rfl
  · obtain ⟨a, y, zs, qs, rfl, hq, l1, l4, hm⟩ := h
    refine ⟨_, (pss_cons (ps_set (i := 2) sc_asked.nd rfl (by first | exact Or.inl rfl | exact Or.inr rfl) (pe_str))
      (pss_cons (L2N.ps_try_as (i := 4) (tb := fun W => tAsg (tAtMA K (WL 5 W) (tVar 0) (tCons (tVar 1) tNil)) (gName 3)) rfl rfl sc_asked.nd rfl rfl ⟨by rfl, by decide, .inl (glo_NoWorld Z)⟩ (L2N.takes_of rfl rfl rfl rfl) (fun W pn xe tk hp => (pss_one (ps_set (i := 3) sc_asked.nd rfl (by first | exact Or.inl rfl | exact Or.inr rfl) (atMA Z hr (pv 0) (pa_cons (pv 1) pa_nil) (passL tk))))) (fun a oe cls d pn hz hf => (pss_one (ps_set (i := 2) sc_asked.nd rfl (by first | exact Or.inl rfl | exact Or.inr rfl) (pe_tupN (pa_cons (pe_xsM0 hz hf hr (pv 4)) (pa_cons (pe_callB (call_isS0 hz hf) (by rfl) (m_isinstance Z) boot_isinstance (pa_cons (pv 4) (pa_cons (pe_glob (by rfl) (glo_MethodError Z) (rel_ref _)) pa_nil))) pa_nil)))))))
      (pss_one (ps_ret (pv 2))))), ?_⟩
    refine ⟨_, rfl, a, zs, qs, rfl, hq, _, rfl, ?_⟩
    cases hm with
    | @good w0 xs ns hw hx hl b1 b2 q =>
      have lx : xs.length = ns.length := hx.1
      exact .inl ⟨a, w0, zs, qs, xs, List.replicate xs.length true, rfl, hq, l1, l4, hw, List.length_replicate, by omega, nums_b hx, fun _ _ => ⟨ns, hx, b1, b2, fun r H1 s1 hr1 => ⟨_, rfl, q H1 s1⟩⟩, fun h => absurd ⟨by omega, all_rep _⟩ h⟩
    | bad h q =>
      cases h with
      | nos h =>
        refine .inr ⟨a, zs, qs, _, rfl, hq, h, ?_⟩
        intro H' s' σ hl
        match σ, hl with
        | [_, _, _, _, _], _ =>
          refine ⟨true, x_NoWorld_exm Z, fun _ a ha => ⟨_, rfl, _, _, _, rfl, rfl, rfl, x_NoWorld Z, told_NoWorld Z, _, rfl, _, _, _, true, rfl, rfl, rfl, x_NoWorld Z, fun u r => r, x_NoWorld_me Z, rfl, fun t5 G5 s5 h5 n5 => ?_⟩, fun z => (nomatch z)⟩
          exact ⟨_, rfl, q _ _ (s'.trans s5) h5⟩
      | @seq w0 xs bs hw hl hn hb h =>
        refine .inl ⟨a, w0, zs, qs, xs, bs, rfl, hq, l1, l4, hw, hl, hn, hb, fun c1 c2 => absurd ⟨c1, c2⟩ h, fun _ => ?_⟩
        intro H' s' σ hl
        match σ, hl with
        | [_, _, _, _, _], _ =>
          refine ⟨true, x_NoWorld_exm Z, fun _ a ha => ⟨_, rfl, _, _, _, rfl, rfl, rfl, x_NoWorld Z, told_NoWorld Z, _, rfl, _, _, _, true, rfl, rfl, rfl, x_NoWorld Z, fun u r => r, x_NoWorld_me Z, rfl, fun t5 G5 s5 h5 n5 => ?_⟩, fun z => (nomatch z)⟩
          exact ⟨_, rfl, q _ _ (s'.trans s5) h5⟩

theorem good_asked (Z : CT K mg) : GoodF (L2N.CX P w) P w K mg base 9 "_law_asked" ["_law_question", "_law_world"] (spAsked K) := Z.good 62 29 d_asked (fun _ _ _ _ _ _ us hl => match us, hl with | [_, _], _ => rfl) fun _ F => ok_asked Z F
end
end My

namespace My
open PySem PySem.Spec PyProof.Rows L2 PySem.Calls

section
variable {P : Program} {w : World} {K : PySem.W.Frag} {mg : Str → Option Value} {base : Heap} {fd : FuncData} {f : Addr}
theorem x_OtherEffects_me (Z : CT K mg) : PySem.W.kitOne K (rf K "OtherEffects") (rf K "MethodError") = some true := of_decide_eq_true (Bool.and_eq_true_iff.mp (Bool.and_eq_true_iff.mp (exo Z)).2).1
def spNoA (K : PySem.W.Frag) : Sp := fun vs H Q E => spNothing K vs H Q E ∨ spNothingE K vs H Q E
def spEfA (K : PySem.W.Frag) : Sp := fun vs H Q E => spEffect K vs H Q E ∨ (spEffectE K vs H Q E ∨ spEffectS K vs H Q E)
/-- what nothing(x) tells -/
inductive Emp (K : PySem.W.Frag) (H : Hp) (Q : VK) : V → Prop
  | good {e : Addr} {zs : List Str} (he : SqA H e (zs.map V.str)) (ok : EfOk zs) (q : TS0 "made" H Q) : Emp K H Q (.ref e)
  | eff {x : V} (h : EfB K H x false) (q : TS0 "effects" H Q) : Emp K H Q x
def spEmpty (K : PySem.W.Frag) : Sp := fun vs H Q _ => ∃ (x : V), vs = [x] ∧ Emp K H Q x
theorem ok_empty (Z : CT K mg) (F : FunD K d_empty.name d_empty.qual d_empty.params d_empty.body d_empty.scope [] [] f fd) : FnOk P w K mg base (L2N.CX P w) 10 f fd ["_law_effects_here"] (spEmpty K) := by
  refine F.ok sc_empty (fun vs H Q E h => ?_) (fun cdv A outer s H vs Q E hr h => ?_)
  · obtain ⟨x, rfl, _⟩ := h
    rfl
  · obtain ⟨x, rfl, hm⟩ := h
    refine ⟨_, (pss_cons (ps_set (i := 1) sc_empty.nd rfl (by first | exact Or.inl rfl | exact Or.inr rfl) (pe_str))
      (pss_cons (L2N.ps_try_as (i := 3) (tb := fun W => tAsg (tCall (spNoA K) [] (WL 4 W) (tCons (tVar 0) tNil)) (gName 2)) rfl rfl sc_empty.nd rfl rfl ⟨by rfl, by decide, .inl (glo_NoQuestion Z)⟩ (L2N.takes_of rfl rfl rfl rfl) (fun W pn xe tk hp => (pss_one (ps_set (i := 2) sc_empty.nd rfl (by first | exact Or.inl rfl | exact Or.inr rfl) (gcall (good_nothing Z) hr (pa_cons (pv 0) pa_nil) (passL tk))))) (fun a oe cls d pn hz hf => (pss_one (ps_set (i := 1) sc_empty.nd rfl (by first | exact Or.inl rfl | exact Or.inr rfl) (pe_xs hz hf (pv 3))))))
      (pss_one (ps_ret (pv 1))))), ?_⟩
    refine ⟨_, rfl, ?_⟩
    cases hm with
    | good he ok q => exact .inl ⟨_, _, rfl, he, ok, fun p H' s' hu => ⟨_, rfl, q H' s'⟩⟩
    | eff h q =>
      exact .inr ⟨_, rfl, h, fun d H' s' hd σ hl => match σ, hl with
      | [_, _, _, _], _ => ⟨true, x_NoQuestion_exm Z, fun _ a ha => ⟨_, rfl, _, _, _, rfl, caught_NoQuestion Z hd, no_NoQuestion_word Z, rfl, _, rfl, q _ s'⟩, fun z => (nomatch z)⟩⟩

theorem good_empty (Z : CT K mg) : GoodF (L2N.CX P w) P w K mg base 10 "_law_empty" ["_law_effects_here"] (spEmpty K) := Z.good 64 31 d_empty (fun _ _ _ _ _ _ us hl => match us, hl with | [_], _ => rfl) fun _ F => ok_empty Z F
/-- what effect(x, y) tells -/
inductive Sng (K : PySem.W.Frag) (H : Hp) (Q : VK) : V → V → Prop
  | good {l : Addr} {zs : List Str} {z : Str} (he : H l = some (.lst (zs.map V.str))) (ok : EfOk zs) (hz : z ∈ zs) (q : TS0 "made" H Q) : Sng K H Q (.ref l) (.str z)
  | eff {x y : V} (h : EfB K H x false) (q : TS0 "effects" H Q) : Sng K H Q x y
  | such {l : Addr} {zs : List Str} {y : V} (he : H l = some (.lst (zs.map V.str))) (ok : EfOk zs) (hy : NotIn K H y zs) (q : ∀ H' t, Same H H' → H' t = some (.tup [.str "such", y, .str "refused nosuch"]) → Q (.ref t) H') : Sng K H Q (.ref l) y
def spSingle (K : PySem.W.Frag) : Sp := fun vs H Q _ => ∃ (x y : V), vs = [x, y] ∧ Sng K H Q x y
theorem ok_single (Z : CT K mg) (F : FunD K d_single.name d_single.qual d_single.params d_single.body d_single.scope [] [] f fd) : FnOk P w K mg base (L2N.CX P w) 10 f fd ["_law_effects_here", "_law_name_here"] (spSingle K) := by
  refine F.ok sc_single (fun vs H Q E h => ?_) (fun cdv A outer s H vs Q E hr h => ?_)
  · obtain ⟨x, y, rfl, _⟩ := h
    rfl
  · obtain ⟨x, y, rfl, hm⟩ := h
    refine ⟨_, (pss_cons (ps_set (i := 2) sc_single.nd rfl (by first | exact Or.inl rfl | exact Or.inr rfl) (pe_str))
      (pss_cons (ps_try_all (fun W => tAsg (tCall (spEfA K) [] (WL 5 W) (tCons (tVar 0) (tCons (tVar 1) tNil))) (gName 3)) rfl rfl sc_single.nd (L2N.takes_of rfl rfl rfl rfl) (fun W pn xe tk hp => (pss_one (ps_set (i := 3) sc_single.nd rfl (by first | exact Or.inl rfl | exact Or.inr rfl) (gcall (good_effect Z) hr (pa_cons (pv 0) (pa_cons (pv 1) pa_nil)) (passL tk))))) (.cons (i := 4) rfl rfl ⟨by rfl, by decide, .inl (glo_NoQuestion Z)⟩ (fun a oe cls d pn hz hf => (pss_one (ps_set (i := 2) sc_single.nd rfl (by first | exact Or.inl rfl | exact Or.inr rfl) (pe_xs hz hf (pv 4))))) (.cons (i := 4) rfl rfl ⟨by rfl, by decide, .inl (glo_NoSuch Z)⟩ (fun a oe cls d pn hz hf => (pss_one (ps_set (i := 2) sc_single.nd rfl (by first | exact Or.inl rfl | exact Or.inr rfl) (pe_tupN (pa_cons pe_str (pa_cons (pe_xs hz hf (pv 4)) (pa_cons (pe_xsM hz hf hr (pv 4)) pa_nil))))))) .nil)))
      (pss_one (ps_ret (pv 2))))), ?_⟩
    refine ⟨_, rfl, _, rfl, ?_⟩
    cases hm with
    | good he ok hz q => exact .inl ⟨_, _, _, rfl, he, ok, hz, fun p H' s' hu => ⟨_, rfl, q H' s'⟩⟩
    | eff h q =>
      exact .inr (.inl ⟨_, _, rfl, h, fun d H' s' hd σ hl => match σ, hl with
      | [_, _, _, _, _], _ => ⟨true, x_NoQuestion_exm Z, fun _ a ha => ⟨_, rfl, _, _, _, rfl, caught_NoQuestion Z hd, no_NoQuestion_word Z, rfl, _, rfl, q _ s'⟩, fun z => (nomatch z)⟩⟩)
    | such he ok hy q =>
      refine .inr (.inr ⟨_, _, _, rfl, he, ok, hy, fun d H' s' hd σ hl => ?_⟩)
      match σ, hl with
      | [_, _, _, _, _], _ =>
        refine ⟨false, such_q Z, fun z => (nomatch z), fun _ => ⟨true, x_NoSuch_exm Z, fun _ a ha => ?_, fun z => (nomatch z)⟩⟩
        refine ⟨_, rfl, _, _, _, rfl, caught_NoSuch Z hd, no_NoSuch_name Z, rfl, _, rfl, _, _, _, _, rfl, caught_NoSuch Z hd, rfl, told_NoSuch Z, rfl, fun t5 G5 s5 h5 n5 => ?_⟩
        exact ⟨_, rfl, q _ _ (s'.trans s5) h5⟩

theorem good_single (Z : CT K mg) : GoodF (L2N.CX P w) P w K mg base 10 "_law_single" ["_law_effects_here", "_law_name_here"] (spSingle K) := Z.good 63 30 d_single (fun _ _ _ _ _ _ us hl => match us, hl with | [_, _], _ => rfl) fun _ F => ok_single Z F
/-- two questions joined, told -/
def spJoined (K : PySem.W.Frag) : Sp := fun vs H Q _ => ∃ (a b : Addr) (i : Int) (zs ys : List Str) (qs rs : List (Int × Int)), vs = [.ref a, .ref b, .int i] ∧ QAt K H a zs qs ∧ QAt K H b ys rs ∧ EfOk zs ∧ EfOk ys ∧ qs.length = zs.length ∧ rs.length = ys.length ∧ (∀ p ∈ qs, Okq 3900 p) ∧ (∀ p ∈ rs, Okq 3900 p) ∧ TS0 (if zs = ys then "made" else "refused othereffects") H Q
theorem ok_joined (Z : CT K mg) (F : FunD K d_joined.name d_joined.qual d_joined.params d_joined.body d_joined.scope [] [] f fd) : FnOk P w K mg base (L2N.CX P w) 11 f fd ["_law_q", "_law_r", "_law_way"] (spJoined K) := by
  refine F.ok sc_joined (fun vs H Q E h => ?_) (fun cdv A outer s H vs Q E hr h => ?_)
  · obtain ⟨a, b, i, zs, ys, qs, rs, rfl, _⟩ := h
    rfl
  · obtain ⟨a, b, i, zs, ys, qs, rs, rfl, ha, hb, k1, k2, l1, l2, o1, o2, q⟩ := h
    refine ⟨_, (pss_cons (ps_set (i := 3) sc_joined.nd rfl (by first | exact Or.inl rfl | exact Or.inr rfl) (pe_str))
      (pss_cons (L2N.ps_try_as (i := 5) (tb := fun W => tIfS _ (tAsg (tOp (rJQ K addW (WL 6 W)) (tVar 0) (tVar 1)) (gName 4)) (tAsg (tOp (rJQ K subW (WL 6 W)) (tVar 0) (tVar 1)) (gName 4))) rfl rfl sc_joined.nd rfl rfl ⟨by rfl, by decide, .inl (glo_OtherEffects Z)⟩ (L2N.takes_of rfl rfl rfl rfl) (fun W pn xe tk hp => (pss_one (ps_if (pt_cmpR op_eq (pv 2) (pe_int) (nomark _)) (pss_one (ps_set (i := 4) sc_joined.nd rfl (by first | exact Or.inl rfl | exact Or.inr rfl) (pe_op (opQAddA Z hr (passL tk)) (pv 0) (pv 1)))) (pss_one (ps_set (i := 4) sc_joined.nd rfl (by first | exact Or.inl rfl | exact Or.inr rfl) (pe_op (opQSubA Z hr (passL tk)) (pv 0) (pv 1))))))) (fun a oe cls d pn hz hf => (pss_one (ps_set (i := 3) sc_joined.nd rfl (by first | exact Or.inl rfl | exact Or.inr rfl) (pe_xsM0 hz hf hr (pv 5))))))
      (pss_one (ps_ret (pv 3))))), ?_⟩
    refine ⟨_, rfl, rfl, _, rfl, ite2 (fun _ => ?_) (fun _ => ?_)⟩
    · refine ⟨_, rfl, _, rfl, a, b, zs, ys, qs, rs, rfl, rfl, ha, hb, k1, k2, l1, l2, o1, o2, fun e p H' s' _ => ?_, fun e H' s' σ hl => ?_⟩
      · have z := q H' s'
        rw [if_pos e] at z
        exact ⟨_, rfl, z⟩
      · match σ, hl with
        | [_, _, _, _, _, _], _ =>
          have z := q H' s'
          rw [if_neg e] at z
          exact ⟨true, x_OtherEffects_exm Z, fun _ a ha => ⟨_, rfl, _, _, _, rfl, rfl, rfl, x_OtherEffects Z, told_OtherEffects Z, _, rfl, z⟩, fun z => (nomatch z)⟩
    · refine ⟨_, rfl, _, rfl, a, b, zs, ys, qs, rs, rfl, rfl, ha, hb, k1, k2, l1, l2, o1, o2, fun e p H' s' _ => ?_, fun e H' s' σ hl => ?_⟩
      · have z := q H' s'
        rw [if_pos e] at z
        exact ⟨_, rfl, z⟩
      · match σ, hl with
        | [_, _, _, _, _, _], _ =>
          have z := q H' s'
          rw [if_neg e] at z
          exact ⟨true, x_OtherEffects_exm Z, fun _ a ha => ⟨_, rfl, _, _, _, rfl, rfl, rfl, x_OtherEffects Z, told_OtherEffects Z, _, rfl, z⟩, fun z => (nomatch z)⟩

theorem good_joined (Z : CT K mg) : GoodF (L2N.CX P w) P w K mg base 11 "_law_joined" ["_law_q", "_law_r", "_law_way"] (spJoined K) := Z.good 65 32 d_joined (fun _ _ _ _ _ _ us hl => match us, hl with | [_, _, _], _ => rfl) fun _ F => ok_joined Z F
/-- over(0), told -/
def spZero (K : PySem.W.Frag) : Sp := fun vs H Q _ => ∃ (a : Addr) (zs : List Str) (qs : List (Int × Int)), vs = [.ref a] ∧ QAt K H a zs qs ∧ EfOk zs ∧ qs.length = zs.length ∧ (∀ p ∈ qs, Okq 1000 p) ∧ TS0 "zero" H Q
theorem ok_zero (Z : CT K mg) (F : FunD K d_zero.name d_zero.qual d_zero.params d_zero.body d_zero.scope [] [] f fd) : FnOk P w K mg base (L2N.CX P w) 10 f fd ["_law_q"] (spZero K) := by
  refine F.ok sc_zero (fun vs H Q E h => ?_) (fun cdv A outer s H vs Q E hr h => ?_)
  · obtain ⟨a, zs, qs, rfl, _⟩ := h
    rfl
  · obtain ⟨a, zs, qs, rfl, ha, ok, l1, o1, q⟩ := h
    refine ⟨_, (pss_cons (ps_set (i := 1) sc_zero.nd rfl (by first | exact Or.inl rfl | exact Or.inr rfl) (pe_str))
      (pss_cons (L2N.ps_try_as (i := 3) (tb := fun W => tAsg (tOverZ K (WL 4 W) (tVar 0) (tCons (tC (.int 0)) tNil)) (gName 2)) rfl rfl sc_zero.nd rfl rfl ⟨by rfl, by decide, .inl (glo_NoRatio Z)⟩ (L2N.takes_of rfl rfl rfl rfl) (fun W pn xe tk hp => (pss_one (ps_set (i := 2) sc_zero.nd rfl (by first | exact Or.inl rfl | exact Or.inr rfl) (overQZ Z hr (pv 0) (pa_cons pe_int pa_nil) (passL tk))))) (fun a oe cls d pn hz hf => (pss_one (ps_set (i := 1) sc_zero.nd rfl (by first | exact Or.inl rfl | exact Or.inr rfl) (pe_xs hz hf (pv 3))))))
      (pss_one (ps_ret (pv 1))))), ?_⟩
    exact ⟨_, rfl, a, zs, qs, rfl, ha, a, _, (0, 1), zs, qs, rfl, ha, .int 0, Okq.le (B := 1) ⟨by decide, by decide, by decide⟩ (by decide), rfl, ok, l1, o1, fun d H' s' hd σ hl => match σ, hl with
      | [_, _, _, _], _ => ⟨true, xN_exm Z, fun _ a ha => ⟨_, rfl, _, _, _, rfl, caught_NoRatio Z hd, no_NoRatio_word Z, rfl, _, rfl, q _ s'⟩, fun z => (nomatch z)⟩⟩

theorem good_zero (Z : CT K mg) : GoodF (L2N.CX P w) P w K mg base 10 "_law_zero" ["_law_q"] (spZero K) := Z.good 68 35 d_zero (fun _ _ _ _ _ _ us hl => match us, hl with | [_], _ => rfl) fun _ F => ok_zero Z F
end
end My

namespace My
open PySem PySem.Spec PyProof.Rows L2 PySem.Calls
theorem cut_lo {xs : List V} {k : Int} (h0 : 0 ≤ k) (h1 : k < (xs.length : Int)) : cutV xs none (some k) = xs.take k.toNat := by
  obtain ⟨n, rfl⟩ : ∃ n : Nat, k = (n : Int) := ⟨k.toNat, by omega⟩
  unfold cutV
  rw [HT.sIx_none, HT.sIx_nat, List.drop_zero, Nat.sub_zero, Int.toNat_natCast, Nat.min_eq_left (by omega)]
theorem cut_hi {xs : List V} {k : Int} (h0 : 0 ≤ k) (h1 : k < (xs.length : Int)) : cutV xs (some (k + 1)) none = xs.drop (k.toNat + 1) := by
  obtain ⟨n, rfl⟩ : ∃ n : Nat, k = (n : Int) := ⟨k.toNat, by omega⟩
  unfold cutV
  rw [HT.sIx_none, show ((n : Int) + 1) = ((n + 1 : Nat) : Int) by omega, HT.sIx_nat, Int.toNat_natCast, Nat.min_eq_left (by omega), List.take_of_length_le (by rw [List.length_drop]; omega)]
theorem cut_hi0 {xs : List V} {k : Int} (h0 : 0 ≤ k) (h1 : k < (xs.length : Int)) : cutV xs (some k) none = xs.drop k.toNat := by
  obtain ⟨n, rfl⟩ : ∃ n : Nat, k = (n : Int) := ⟨k.toNat, by omega⟩
  unfold cutV
  rw [HT.sIx_none, HT.sIx_nat, Int.toNat_natCast, Nat.min_eq_left (by omega), List.take_of_length_le (by rw [List.length_drop]; omega)]
section
variable {K : PySem.W.Frag} {H H' : Hp} {p : Addr} {zs : List V}
theorem few_le {xs : List V} (h : xs.length ≤ 1000) : Few xs := Nat.ble_eq_true_of_le h
theorem offL_num {x : V} {q : Int × Int} (hp : H p = some (.lst zs)) (k : Off p H H') (h : Num K H x q) : Num K H' x q := by
  cases h with
  | int n => exact .int n
  | rat h => obtain ⟨dx, e⟩ := h; exact .rat ⟨dx, k _ (ne_of e hp (by intro z; cases z)) _ e⟩
theorem offL_rat {r : Addr} {q : Int × Int} (hp : H p = some (.lst zs)) (k : Off p H H') (h : RAt K H r q) : RAt K H' r q := let ⟨dx, e⟩ := h; ⟨dx, k _ (ne_of e hp (by intro z; cases z)) _ e⟩
theorem offL_tup {a : Addr} {xs : List V} (hp : H p = some (.lst zs)) (k : Off p H H') (h : H a = some (.tup xs)) : H' a = some (.tup xs) := k _ (ne_of h hp (by intro z; cases z)) _ h
theorem offL_que {a : Addr} {ys : List Str} {qs : List (Int × Int)} (hp : H p = some (.lst zs)) (k : Off p H H') (h : QAt K H a ys qs) : QAt K H' a ys qs := by
  obtain ⟨dx, e, w, ws, h⟩ := h
  exact ⟨dx, e, w, ws, k _ (ne_of h.o hp (by intro z; cases z)) _ h.o, offL_tup hp k h.e, offL_tup hp k h.w, h.r.1, fun i x q a b => let ⟨r, e, z⟩ := h.r.2 i x q a b; ⟨r, e, offL_rat hp k z⟩⟩
theorem off_of {p : Addr} {H H' : Hp} (k : ∀ b, b ≠ p → H' b = H b) : Off p H H' := fun c hc o z => by rw [k c hc]; exact z
theorem off_trans {p : Addr} {H H1 H2 : Hp} (a : Off p H H1) (b : Off p H1 H2) : Off p H H2 := fun c hc o z => b c hc o (a c hc o z)
theorem nos_non : NoSeq K H .non := ⟨_, .base .non, kit_ty (by decide +kernel), kit_ty (by decide +kernel)⟩
theorem nos_int {i : Int} : NoSeq K H (.int i) := ⟨_, .base (.int i), kit_ty (by decide +kernel), kit_ty (by decide +kernel)⟩
theorem nos_str {z : Str} : NoSeq K H (.str z) := ⟨_, .base (.str z), kit_ty (by decide +kernel), kit_ty (by decide +kernel)⟩
theorem nos_dic {a : Addr} {xs : List (Key × V)} (h : H a = some (.dK xs)) : NoSeq K H (.ref a) := ⟨_, .base (.dK h), kit_ty (by decide +kernel), kit_ty (by decide +kernel)⟩
theorem nm_non : NmB K H .non false := .oth (.base .non) (kit_ty (by decide +kernel))
theorem nm_int {i : Int} : NmB K H (.int i) false := .oth (.base (.int i)) (kit_ty (by decide +kernel))
theorem nm_bl {b : Bool} : NmB K H (.bl b) false := .oth (.base (.bl b)) (kit_ty (by decide +kernel))
theorem nm_tup {a : Addr} {xs : List V} (h : H a = some (.tup xs)) : NmB K H (.ref a) false := .oth (.base (.tup h)) (kit_ty (by decide +kernel))
theorem nm_lst {a : Addr} {xs : List V} (h : H a = some (.lst xs)) : NmB K H (.ref a) false := .oth (.base (.lst h)) (kit_ty (by decide +kernel))
theorem nm_dic {a : Addr} {xs : List (Key × V)} (h : H a = some (.dK xs)) : NmB K H (.ref a) false := .oth (.base (.dK h)) (kit_ty (by decide +kernel))
theorem nm_b0 : NmB K H (.str "") false := .len (by decide +kernel) (by decide +kernel)
theorem nm_b1 : NmB K H (.str "A") false := .fst (c := 65) (by decide +kernel) (by decide +kernel) (by decide +kernel) (by decide +kernel)
theorem nm_b2 : NmB K H (.str "1a") false := .fst (c := 49) (by decide +kernel) (by decide +kernel) (by decide +kernel) (by decide +kernel)
theorem nm_b3 : NmB K H (.str "a-b") false := .all (c := 97) (d := 45) (j := 1) (by decide +kernel) (by decide +kernel) (by decide +kernel) (by decide +kernel) (by decide +kernel) (by decide +kernel)
theorem nm_b4 : NmB K H (.str "abcdefghi") false := .len (by decide +kernel) (by decide +kernel)
theorem nm_b5 : NmB K H (.str "a b") false := .all (c := 97) (d := 32) (j := 1) (by decide +kernel) (by decide +kernel) (by decide +kernel) (by decide +kernel) (by decide +kernel) (by decide +kernel)
theorem off_same {p : Addr} {H0 H H' : Hp} (s : Same H0 H) (n : H0 p = none) (k : Off p H H') : Same H0 H' := fun d o z => k d (ne_of_none z n) o (s d o z)
theorem one_bad {a b : Nat} : (List.replicate a true ++ [false] ++ List.replicate b true).all id = false := by
  rw [List.all_append, List.all_append]; simp
/-- a bad thing in the place r of good ones -/
theorem put_bad {α : Type} {xs : List α} {v : α} {r : Nat} {good : α → Prop} {bad : α → Prop} (hr : r < xs.length) (hg : ∀ x ∈ xs, good x) (hb : bad v) : (xs.take r ++ [v] ++ xs.drop (r + 1)).length = xs.length ∧ (List.replicate r true ++ [false] ++ List.replicate (xs.length - (r + 1)) true).length = xs.length ∧
    ∀ (i : Nat) (u : α), (xs.take r ++ [v] ++ xs.drop (r + 1))[i]? = some u → ∃ b, (List.replicate r true ++ [false] ++ List.replicate (xs.length - (r + 1)) true)[i]? = some b ∧ ((b = true ∧ good u) ∨ (b = false ∧ bad u)) := by
  have lt : (xs.take r).length = r := by rw [List.length_take]; omega
  have ld : (xs.drop (r + 1)).length = xs.length - (r + 1) := List.length_drop
  refine ⟨by rw [List.length_append, List.length_append, lt, ld]; show r + 1 + _ = _; omega, by rw [List.length_append, List.length_append, List.length_replicate, List.length_replicate]; show r + 1 + _ = _; omega, fun i u e => ?_⟩
  rcases Nat.lt_trichotomy i r with hi | hi | hi
  · rw [List.append_assoc, List.getElem?_append_left (by omega)] at e
    exact ⟨true, by rw [List.append_assoc, List.getElem?_append_left (by rw [List.length_replicate]; exact hi), List.getElem?_replicate, if_pos hi], .inl ⟨rfl, hg u (List.mem_of_mem_take (List.mem_of_getElem? e))⟩⟩
  · subst hi
    rw [List.append_assoc, List.getElem?_append_right (by omega), lt, Nat.sub_self] at e
    obtain rfl : v = u := by simpa using e
    exact ⟨false, by rw [List.append_assoc, List.getElem?_append_right (by rw [List.length_replicate]; exact Nat.le_refl _), List.length_replicate, Nat.sub_self]; rfl, .inr ⟨rfl, hb⟩⟩
  · rw [List.getElem?_append_right (by rw [List.length_append, lt]; show r + 1 ≤ i; omega)] at e
    have hlen : i < xs.length := by
      obtain ⟨z, _⟩ := List.getElem?_eq_some_iff.mp e
      rw [ld, List.length_append, lt] at z
      have : i - (r + 1) < xs.length - (r + 1) := z
      omega
    refine ⟨true, ?_, .inl ⟨rfl, hg u (List.mem_of_mem_drop (List.mem_of_getElem? e))⟩⟩
    rw [List.getElem?_append_right (by rw [List.length_append, List.length_replicate]; show r + 1 ≤ i; omega), List.getElem?_replicate, if_pos]
    rw [List.length_append, List.length_replicate]
    show i - (r + 1) < _
    omega
theorem dup_in {zs : List Str} {r : Nat} (hr : r < zs.length) : ¬ (zs.take r ++ [zs[r]] ++ zs.drop r).Nodup := fun h => by
  rw [List.append_assoc] at h
  have h2 := (List.nodup_append.mp h).2.1
  have h3 := (List.nodup_cons.mp h2).1
  exact h3 (by show zs[r] ∈ zs.drop r; rw [List.drop_eq_getElem_cons hr]; exact List.mem_cons_self)
end
theorem fr {p d : Addr} {H G : Hp} {o : HO} (k : Off p H G) (hp : G p = some o) (n : G d = none) : H d = none := by
  cases e : H d with
  | none => rfl
  | some z =>
    by_cases h : d = p
    · subst h; rw [hp] at n; cases n
    · rw [k d h _ e] at n; cases n
/-- what is new since H stands in J as in H' -/
def Keeps (H H' J : Hp) : Prop := ∀ b, H b = none → ∀ o, H' b = some o → J b = some o
section
variable {P : Program} {w : World} {K : PySem.W.Frag} {mg : Str → Option Value} {base : Heap} {fd : FuncData} {f : Addr}
/-- effects that are none -/
def spBadE (K : PySem.W.Frag) : Sp := fun vs H Q _ => ∃ (p l : Addr) (x y : Int) (zs : List Str), vs = [.ref p, .ref l] ∧ H p = some (.lst [.int x, .int y]) ∧ H l = some (.lst (zs.map V.str)) ∧ l ≠ p ∧ EfOk zs ∧ 0 ≤ x ∧ 0 ≤ y ∧ y < 900000 ∧
  ∀ (v : V) (x' y' : Int) (H' : Hp), Off p H H' → H' p = some (.lst [.int x', .int y']) → 0 ≤ x' → y ≤ y' → y' ≤ y + 400 → (∀ J, Keeps H H' J → EfB K J v false) → Q v H'
theorem ok_bad_effects (Z : CT K mg) (F : FunD K d_bad_effects.name d_bad_effects.qual d_bad_effects.params d_bad_effects.body d_bad_effects.scope [] [] f fd) : FnOk P w K mg base (CX0) 2 f fd ["_law_pouch_here", "_law_effects_here"] (spBadE K) := by
  refine F.ok sc_bad_effects (fun vs H Q E h => ?_) (fun cdv A outer s H vs Q E hr h => ?_)
  · obtain ⟨p, l, x, y, zs, rfl, _⟩ := h
    rfl
  · obtain ⟨p, l, x0, y0, zs, rfl, hp0, hl, lp, ok, hx0, hy0, hm, q⟩ := h
    refine ⟨_, (pss_cons (ps_set (i := 2) sc_bad_effects.nd rfl (by first | exact Or.inl rfl | exact Or.inr rfl) (gcall (good_draw Z) hr (pa_cons (pv 0) (pa_cons pe_int pa_nil)) pass0))
      (pss_cons (ps_set (i := 3) sc_bad_effects.nd rfl (by first | exact Or.inl rfl | exact Or.inr rfl) (gcall (good_draw Z) hr (pa_cons (pv 0) (pa_cons (pe_callB call_lenL (by rfl) (m_len Z) PySem.boot_len (pa_cons (pv 1) pa_nil)) pa_nil)) pass0))
      (pss_cons (ps_if (pt_cmpR op_ge (pv 2) (pe_int) (nomark _)) (pss_one (ps_ret (pe_ix ix_list (pe_lstN (pa_cons pe_non (pa_cons pe_dnewK (pa_cons pe_str (pa_cons pe_int (pa_cons (pe_tupN pa_nil) (pa_cons (pe_lstN (pa_cons pe_str (pa_cons pe_str (pa_cons pe_str (pa_cons pe_str (pa_cons pe_str pa_nil)))))) pa_nil))))))) (gcall (good_draw Z) hr (pa_cons (pv 0) (pa_cons pe_int pa_nil)) pass0) (fun _ _ => rfl)))) pss_nil)
      (pss_cons (ps_if (pt_cmpR op_eq (pv 2) (pe_int) (nomark _)) (pss_cons (ps_if (pt_cmpR op_eq (pe_callB call_lenL (by rfl) (m_len Z) PySem.boot_len (pa_cons (pv 1) pa_nil)) (pe_int) (nomark _)) (pss_one (ps_ret (pe_op op_catN (pv 1) (pe_lstN (pa_cons pe_str pa_nil))))) pss_nil)
      (pss_one (ps_ret (pe_op op_catN (pe_op op_catN (pe_slice sl_list (pv 1) po_none (po_some (pv 3))) (pe_lstN (pa_cons (pe_ix ix_list (pv 1) (pv 3) (fun _ _ => rfl)) pa_nil))) (pe_slice sl_list (pv 1) (po_some (pv 3)) po_none))))) pss_nil)
      (pss_cons (ps_set (i := 4) sc_bad_effects.nd rfl (by first | exact Or.inl rfl | exact Or.inr rfl) (pe_lstN (pa_cons pe_str (pa_cons pe_str (pa_cons pe_str (pa_cons pe_str (pa_cons pe_str (pa_cons pe_str (pa_cons pe_non (pa_cons pe_int (pa_cons pe_bl (pa_cons (pe_tupN (pa_cons pe_str pa_nil)) (pa_cons (pe_lstN (pa_cons pe_str pa_nil)) (pa_cons pe_dnewK pa_nil))))))))))))))
      (pss_one (ps_ret (pe_op op_catN (pe_op op_catN (pe_slice sl_list (pv 1) po_none (po_some (pv 3))) (pe_lstN (pa_cons (pe_ix ix_list (pv 4) (gcall (good_draw Z) hr (pa_cons (pv 0) (pa_cons pe_int pa_nil)) pass0) (fun _ _ => rfl)) pa_nil))) (pe_slice sl_list (pv 1) (po_some (pe_op op_add (pv 3) (pe_int))) po_none))))))))), ?_⟩
    have lz : (zs.map V.str).length = zs.length := List.length_map _
    have h1 := ok.lo
    have h4 := ok.hi
    refine ⟨_, rfl, p, x0, y0, 10, rfl, hp0, hx0, by omega, by omega, by omega, by omega, fun r1 x1 y1 H1 ra1 rb1 hx1 hy1 hz1 k1 hp1 => ?_⟩
    have o1 : Off p H H1 := off_of k1
    refine ⟨_, rfl, _, rfl, l, _, rfl, SqL.of (o1 l lp _ hl), p, x1, y1, _, rfl, hp1, hx1, by omega, by omega, by omega, by omega, fun r2 x2 y2 H2 ra2 rb2 hx2 hy2 hz2 k2 hp2 => ?_⟩
    have o2 : Off p H H2 := off_trans o1 (off_of k2)
    have hl2 := o2 l lp _ hl
    rw [lz] at rb2
    have r2n : r2.toNat < zs.length := by omega
    have cl := cut_lo (xs := zs.map V.str) ra2 (by omega)
    have ch := cut_hi (xs := zs.map V.str) ra2 (by omega)
    have ch0 := cut_hi0 (xs := zs.map V.str) ra2 (by omega)
    refine ⟨_, rfl, _, _, rfl, rfl, _, rfl, ite2 (fun h7 => ?_) (fun h7 => ?_)⟩
    · intro c n3
      refine ⟨rfl, fun t1 G1 s1 ht1 n1 => ⟨rfl, fun l5 G2 s2 hl5 n2 => ⟨rfl, fun lb G3 s3 hlb n4 => ?_⟩⟩⟩
      have sd : Same H2 (upd H2 c (.dK [])) := same_new n3
      have z3 : Same H2 G3 := ((sd.trans s1).trans s2).trans s3
      have cp : c ≠ p := Ne.symm (ne_of_none hp2 n3)
      have t1p : t1 ≠ p := Ne.symm (ne_of_none (sd _ _ hp2) n1)
      have l5p : l5 ≠ p := Ne.symm (ne_of_none ((sd.trans s1) _ _ hp2) n2)
      have lbp : lb ≠ p := Ne.symm (ne_of_none (((sd.trans s1).trans s2) _ _ hp2) n4)
      have hp3 := z3 _ _ hp2
      refine ⟨_, rfl, p, x2, y2, 6, rfl, hp3, hx2, by omega, by omega, by omega, by omega, fun r6 x6 y6 H6 ra6 rb6 hx6 hy6 hz6 k6 hp6 => ?_⟩
      have o6 : Off p G3 H6 := off_of k6
      have oF : Off p H H6 := off_trans (Off.same o2 z3) o6
      have fc := fr o2 hp2 n3
      have ft1 := fr (Off.same o2 sd) (sd _ _ hp2) n1
      have fl5 := fr (Off.same o2 (sd.trans s1)) ((sd.trans s1) _ _ hp2) n2
      obtain ⟨v, hv, hk⟩ : ∃ v, atI [V.non, V.ref c, V.str "abc", V.int 3, V.ref t1, V.ref l5] r6 = some v ∧ ∀ J, Keeps H H6 J → EfB K J v false := by
        rcases (by omega : r6 = 0 ∨ r6 = 1 ∨ r6 = 2 ∨ r6 = 3 ∨ r6 = 4 ∨ r6 = 5) with rfl | rfl | rfl | rfl | rfl | rfl
        · exact ⟨_, rfl, fun J k => .nos nos_non⟩
        · exact ⟨_, rfl, fun J k => .nos (nos_dic (k c fc _ (o6 c cp _ (((s1.trans s2).trans s3) _ _ upd_same))))⟩
        · exact ⟨_, rfl, fun J k => .nos nos_str⟩
        · exact ⟨_, rfl, fun J k => .nos nos_int⟩
        · exact ⟨_, rfl, fun J k => .len (.inr (k t1 ft1 _ (o6 t1 t1p _ ((s2.trans s3) _ _ ht1)))) (by decide) (by decide)⟩
        · exact ⟨_, rfl, fun J k => .len (.inl (k l5 fl5 _ (o6 l5 l5p _ (s3 _ _ hl5)))) (by decide) (by decide)⟩
      exact ⟨_, _, _, v, rfl, rfl, SqL.of (o6 lb lbp _ hlb), hv, q v x6 y6 H6 oF hp6 hx6 (by omega) (by omega) hk⟩
    refine ⟨_, rfl, rfl, _, rfl, ite2 (fun h6 => ?_) (fun h6 => ?_)⟩
    · refine ⟨_, rfl, l, _, rfl, SqL.of hl2, rfl, _, rfl, ite2 (fun h5 => ?_) (fun h5 => ?_)⟩
      · have h5 := of_decide_eq_true h5
        injection h5 with h5
        refine ⟨_, rfl, rfl, fun l1 G1 s1 hl1 n1 => ⟨l, l1, _, _, rfl, rfl, s1 _ _ hl2, hl1, few_le (by rw [List.length_append, lz]; show zs.length + 1 ≤ 1000; omega), fun d G2 s2 hd n2 => ?_⟩⟩
        have s12 := s1.trans s2
        refine q _ x2 y2 G2 (Off.same o2 s12) (s12 _ _ hp2) hx2 (by omega) (by omega) (fun J k => .len (.inl (k d (fr (Off.same o2 s1) (s1 _ _ hp2) n2) _ hd)) (by rw [List.length_append, lz]; show zs.length + 1 ≤ 900; omega) (fun h => ?_))
        rw [List.length_append, lz] at h
        have : zs.length + 1 ≤ 4 := h.2
        omega
      · have h5 : ¬ ((((zs.map V.str).length : Nat) : Int) = 4) := fun e => h5 (by rw [e]; exact decide_eq_true rfl)
        refine ⟨_, rfl, _, rfl, r2, rfl, l, _, rfl, SqL.of hl2, fun d1 m1 => ?_⟩
        have u1 : Same H2 (upd H2 d1 (.lst (cutV (zs.map V.str) none (some r2)))) := same_new m1
        have x1 : atI (zs.map V.str) r2 = some (.str zs[r2.toNat]) := by
          have z : atI (zs.map V.str) ((r2.toNat : Nat) : Int) = some (.str zs[r2.toNat]) := atI_nat (by rw [List.getElem?_map, List.getElem?_eq_getElem r2n]; rfl)
          rwa [show ((r2.toNat : Nat) : Int) = r2 by omega] at z
        refine ⟨_, rfl, _, rfl, l, _, _, _, rfl, rfl, SqL.of (u1 _ _ hl2), x1, rfl, fun l1 G2 u2 hl1 n2 => ?_⟩
        refine ⟨d1, l1, _, _, rfl, rfl, u2 _ _ upd_same, hl1, few_le (by rw [cl, List.length_append, List.length_take]; show _ + 1 ≤ 1000; omega), fun d3 G3 u3 hd3 n3 => ?_⟩
        have u13 := (u1.trans u2).trans u3
        refine ⟨_, rfl, _, rfl, _, rfl, l, _, rfl, SqL.of (u13 _ _ hl2), fun d2 m2 => ?_⟩
        have u4 : Same G3 (upd G3 d2 (.lst (cutV (zs.map V.str) (some r2) none))) := same_new m2
        refine ⟨d3, d2, _, _, rfl, rfl, u4 _ _ hd3, upd_same, few_le (by rw [cl, ch0, List.length_append, List.length_append, List.length_take, List.length_drop]; show _ + 1 + _ ≤ 1000; omega), fun d HF uF hd nF => ?_⟩
        have sF := (u13.trans u4).trans uF
        rw [cl, ch0] at hd
        have e : (zs.map V.str).take r2.toNat ++ [V.str zs[r2.toNat]] ++ (zs.map V.str).drop r2.toNat = (zs.take r2.toNat ++ [zs[r2.toNat]] ++ zs.drop r2.toNat).map V.str := by
          rw [List.map_append, List.map_append, List.map_take, List.map_drop]; rfl
        rw [e] at hd
        have ll : (zs.take r2.toNat ++ [zs[r2.toNat]] ++ zs.drop r2.toNat).length = zs.length + 1 := by
          rw [List.length_append, List.length_append, List.length_take, List.length_drop]; show _ + 1 + _ = _; omega
        refine q _ x2 y2 HF (Off.same o2 sF) (sF _ _ hp2) hx2 (by omega) (by omega) (fun J k => .dup (.inl (k d (fr (Off.same o2 (u13.trans u4)) ((u13.trans u4) _ _ hp2) nF) _ hd)) (by omega) (by rw [lz] at h5; omega) (fun z hz => ok.nm z ?_) (dup_in r2n))
        rcases List.mem_append.mp hz with hz | hz
        · rcases List.mem_append.mp hz with hz | hz
          · exact List.mem_of_mem_take hz
          · obtain rfl := List.mem_singleton.mp hz; exact List.getElem_mem r2n
        · exact List.mem_of_mem_drop hz
    refine ⟨rfl, fun t1 G1 s1 ht1 n1 => ⟨rfl, fun l1 G2 s2 hl1 n2 => fun c n3 => ⟨rfl, fun lb G3 s3 hlb n4 => ?_⟩⟩⟩
    have sd : Same G2 (upd G2 c (.dK [])) := same_new n3
    have z3 : Same H2 G3 := ((s1.trans s2).trans sd).trans s3
    have t1p : t1 ≠ p := Ne.symm (ne_of_none hp2 n1)
    have l1p : l1 ≠ p := Ne.symm (ne_of_none (s1 _ _ hp2) n2)
    have cp : c ≠ p := Ne.symm (ne_of_none ((s1.trans s2) _ _ hp2) n3)
    have lbp : lb ≠ p := Ne.symm (ne_of_none (((s1.trans s2).trans sd) _ _ hp2) n4)
    have hl3 := z3 _ _ hl2
    refine ⟨_, rfl, _, rfl, r2, rfl, l, _, rfl, SqL.of hl3, fun d1 m1 => ?_⟩
    have s5 : Same G3 (upd G3 d1 (.lst (cutV (zs.map V.str) none (some r2)))) := same_new m1
    generalize hG5 : upd G3 d1 (.lst (cutV (zs.map V.str) none (some r2))) = G5 at *
    have hd1 : G5 d1 = some (.lst (cutV (zs.map V.str) none (some r2))) := by rw [← hG5]; exact upd_same
    have hp5 : G5 p = some (.lst [.int x2, .int y2]) := s5 _ _ (z3 _ _ hp2)
    have d1p : d1 ≠ p := Ne.symm (ne_of_none (z3 _ _ hp2) m1)
    refine ⟨_, rfl, _, rfl, p, x2, y2, 12, rfl, hp5, hx2, by omega, by omega, by omega, by omega, fun r6 x6 y6 H6 ra6 rb6 hx6 hy6 hz6 k6 hp6 => ?_⟩
    have o6 : Off p G5 H6 := off_of k6
    have ft1 := fr o2 hp2 n1
    have fl1 := fr (Off.same o2 s1) (s1 _ _ hp2) n2
    have fc := fr (Off.same o2 (s1.trans s2)) ((s1.trans s2) _ _ hp2) n3
    obtain ⟨v, hv, hk⟩ : ∃ v, atI [V.str "", V.str "A", V.str "1a", V.str "a-b", V.str "abcdefghi", V.str "a b", V.non, V.int 3, V.bl true, V.ref t1, V.ref l1, V.ref c] r6 = some v ∧ ∀ J, Keeps H H6 J → NmB K J v false := by
      rcases (by omega : r6 = 0 ∨ r6 = 1 ∨ r6 = 2 ∨ r6 = 3 ∨ r6 = 4 ∨ r6 = 5 ∨ r6 = 6 ∨ r6 = 7 ∨ r6 = 8 ∨ r6 = 9 ∨ r6 = 10 ∨ r6 = 11) with rfl | rfl | rfl | rfl | rfl | rfl | rfl | rfl | rfl | rfl | rfl | rfl
      · exact ⟨_, rfl, fun J k => nm_b0⟩
      · exact ⟨_, rfl, fun J k => nm_b1⟩
      · exact ⟨_, rfl, fun J k => nm_b2⟩
      · exact ⟨_, rfl, fun J k => nm_b3⟩
      · exact ⟨_, rfl, fun J k => nm_b4⟩
      · exact ⟨_, rfl, fun J k => nm_b5⟩
      · exact ⟨_, rfl, fun J k => nm_non⟩
      · exact ⟨_, rfl, fun J k => nm_int⟩
      · exact ⟨_, rfl, fun J k => nm_bl⟩
      · exact ⟨_, rfl, fun J k => nm_tup (k t1 ft1 _ (o6 t1 t1p _ (s5 _ _ (((s2.trans sd).trans s3) _ _ ht1))))⟩
      · exact ⟨_, rfl, fun J k => nm_lst (k l1 fl1 _ (o6 l1 l1p _ (s5 _ _ ((sd.trans s3) _ _ hl1))))⟩
      · exact ⟨_, rfl, fun J k => nm_dic (k c fc _ (o6 c cp _ (s5 _ _ (s3 _ _ upd_same))))⟩
    refine ⟨_, _, _, v, rfl, rfl, SqL.of (o6 lb lbp _ (s5 _ _ hlb)), hv, ?_⟩
    refine ⟨rfl, fun l7 G7 s7 hl7 n7 => ?_⟩
    refine ⟨d1, l7, _, _, rfl, rfl, s7 _ _ (o6 d1 d1p _ hd1), hl7, few_le (by rw [cl, List.length_append, List.length_take]; show _ + 1 ≤ 1000; omega), fun d3 G8 s8 hd3 n8 => ?_⟩
    have hl8 : G8 l = some (.lst (zs.map V.str)) := s8 _ _ (s7 _ _ (o6 l lp _ (s5 _ _ hl3)))
    refine ⟨_, rfl, _, rfl, _, _, rfl, rfl, _, rfl, l, _, rfl, SqL.of hl8, fun d2 m2 => ?_⟩
    have s9 : Same G8 (upd G8 d2 (.lst (cutV (zs.map V.str) (some (r2 + 1)) none))) := same_new m2
    refine ⟨d3, d2, _, _, rfl, rfl, s9 _ _ hd3, upd_same, few_le (by rw [cl, ch, List.length_append, List.length_append, List.length_take, List.length_drop]; show _ + 1 + _ ≤ 1000; omega), fun d HF sF hd nF => ?_⟩
    have s6F := ((s7.trans s8).trans s9).trans sF
    have oF : Off p H HF := Off.same (off_trans (Off.same (Off.same o2 z3) s5) o6) s6F
    rw [cl, ch] at hd
    refine q _ x6 y6 HF oF (s6F _ _ hp6) hx6 (by omega) (by omega) fun J k => ?_
    obtain ⟨e1, e2, e3⟩ := put_bad (xs := zs.map V.str) (v := v) (r := r2.toNat) (good := fun u => NmB K J u true) (bad := fun u => NmB K J u false) (by omega) (fun u hu => by
      obtain ⟨z, hz, rfl⟩ := List.mem_map.mp hu
      exact .good (ok.nm z hz)) (hk J fun b n o e => k b n o (s6F _ _ e))
    have o8 : Off p H (upd G8 d2 (.lst (cutV (zs.map V.str) (some (r2 + 1)) none))) := Off.same (off_trans (Off.same (Off.same o2 z3) s5) o6) ((s7.trans s8).trans s9)
    refine .item (.inl (k d (fr o8 (((s7.trans s8).trans s9) _ _ hp6) nF) _ hd)) (by omega) (by omega) (e2.trans e1.symm) (fun i u e => ?_) one_bad
    obtain ⟨b, eb, hb⟩ := e3 i u e
    rcases hb with ⟨rfl, hb⟩ | ⟨rfl, hb⟩
    · exact ⟨true, eb, hb⟩
    · exact ⟨false, eb, hb⟩

theorem good_bad_effects (Z : CT K mg) : GoodF (CX0) P w K mg base 2 "_law_bad_effects" ["_law_pouch_here", "_law_effects_here"] (spBadE K) := Z.good 66 33 d_bad_effects (fun _ _ _ _ _ _ us hl => match us, hl with | [_, _], _ => rfl) fun _ F => ok_bad_effects Z F
end
end My

namespace My
open PySem PySem.Spec PyProof.Rows L2 PySem.Calls

section
variable {P : Program} {w : World} {K : PySem.W.Frag} {mg : Str → Option Value} {base : Heap} {fd : FuncData} {f : Addr}
/-- numbers that are none -/
def spBadN (K : PySem.W.Frag) : Sp := fun vs H Q _ => ∃ (p l : Addr) (x y : Int) (xs : List V) (qs : List (Int × Int)), vs = [.ref p, .ref l] ∧ H p = some (.lst [.int x, .int y]) ∧ H l = some (.lst xs) ∧ l ≠ p ∧ NumsAt K H xs qs ∧ 1 ≤ xs.length ∧ xs.length ≤ 4 ∧ 0 ≤ x ∧ 0 ≤ y ∧ y < 900000 ∧
  ∀ (v : V) (x' y' : Int) (H' : Hp), Off p H H' → H' p = some (.lst [.int x', .int y']) → 0 ≤ x' → y ≤ y' → y' ≤ y + 400 → BadNs K H' xs.length v → Q v H'
theorem ok_bad_numbers (Z : CT K mg) (F : FunD K d_bad_numbers.name d_bad_numbers.qual d_bad_numbers.params d_bad_numbers.body d_bad_numbers.scope [] [] f fd) : FnOk P w K mg base (CX0) 2 f fd ["_law_pouch_here", "_law_numbers"] (spBadN K) := by
  refine F.ok sc_bad_numbers (fun vs H Q E h => ?_) (fun cdv A outer s H vs Q E hr h => ?_)
  · obtain ⟨p, l, x, y, xs, qs, rfl, _⟩ := h
    rfl
  · obtain ⟨p, l, x0, y0, xs, qs, rfl, hp0, hl, lp, hq, h1, h4, hx0, hy0, hm, q⟩ := h
    refine ⟨_, (pss_cons (ps_set (i := 2) sc_bad_numbers.nd rfl (by first | exact Or.inl rfl | exact Or.inr rfl) (gcall (good_draw Z) hr (pa_cons (pv 0) (pa_cons pe_int pa_nil)) pass0))
      (pss_cons (ps_set (i := 3) sc_bad_numbers.nd rfl (by first | exact Or.inl rfl | exact Or.inr rfl) (gcall (good_draw Z) hr (pa_cons (pv 0) (pa_cons (pe_callB call_lenL (by rfl) (m_len Z) PySem.boot_len (pa_cons (pv 1) pa_nil)) pa_nil)) pass0))
      (pss_cons (ps_if (pt_cmpR op_ge (pv 2) (pe_int) (nomark _)) (pss_one (ps_ret (pe_ix ix_list (pe_lstN (pa_cons pe_non (pa_cons pe_dnewK (pa_cons (pe_op op_strRep (pe_str) (pe_callB call_lenL (by rfl) (m_len Z) PySem.boot_len (pa_cons (pv 1) pa_nil))) (pa_cons pe_int pa_nil))))) (gcall (good_draw Z) hr (pa_cons (pv 0) (pa_cons pe_int pa_nil)) pass0) (fun _ _ => rfl)))) pss_nil)
      (pss_cons (ps_if (pt_cmpR op_eq (pv 2) (pe_int) (nomark _)) (pss_one (ps_ret (pe_op op_catN (pe_slice sl_list (pv 1) po_none (po_some (pv 3))) (pe_slice sl_list (pv 1) (po_some (pe_op op_add (pv 3) (pe_int))) po_none)))) pss_nil)
      (pss_cons (ps_if (pt_cmpR op_eq (pv 2) (pe_int) (nomark _)) (pss_one (ps_ret (pe_op op_catN (pe_op op_catN (pe_slice sl_list (pv 1) po_none (po_some (pv 3))) (pe_lstN (pa_cons pe_int pa_nil))) (pe_slice sl_list (pv 1) (po_some (pv 3)) po_none)))) pss_nil)
      (pss_cons (ps_set (i := 4) sc_bad_numbers.nd rfl (by first | exact Or.inl rfl | exact Or.inr rfl) (pe_lstN (pa_cons pe_non (pa_cons pe_bl (pa_cons pe_bl (pa_cons pe_str (pa_cons (pe_tupN (pa_cons pe_int pa_nil)) (pa_cons (pe_lstN (pa_cons pe_int pa_nil)) (pa_cons pe_dnewK pa_nil)))))))))
      (pss_one (ps_ret (pe_op op_catN (pe_op op_catN (pe_slice sl_list (pv 1) po_none (po_some (pv 3))) (pe_lstN (pa_cons (pe_ix ix_list (pv 4) (gcall (good_draw Z) hr (pa_cons (pv 0) (pa_cons pe_int pa_nil)) pass0) (fun _ _ => rfl)) pa_nil))) (pe_slice sl_list (pv 1) (po_some (pe_op op_add (pv 3) (pe_int))) po_none)))))))))), ?_⟩
    refine ⟨_, rfl, p, x0, y0, 8, rfl, hp0, hx0, by omega, by omega, by omega, by omega, fun r1 x1 y1 H1 ra1 rb1 hx1 hy1 hz1 k1 hp1 => ?_⟩
    have o1 : Off p H H1 := off_of k1
    refine ⟨_, rfl, _, rfl, l, _, rfl, SqL.of (o1 l lp _ hl), p, x1, y1, _, rfl, hp1, hx1, by omega, by omega, by omega, by omega, fun r2 x2 y2 H2 ra2 rb2 hx2 hy2 hz2 k2 hp2 => ?_⟩
    have o2 : Off p H H2 := off_trans o1 (off_of k2)
    have hl2 := o2 l lp _ hl
    have hq2 : ∀ x ∈ xs, NumB K H2 x true := fun x h => by
      obtain ⟨i, hi, e⟩ := List.mem_iff_getElem.mp h
      have hi2 : i < qs.length := by rw [← hq.1]; exact hi
      exact .num (offL_num hp0 o2 (hq.2 i x _ (by rw [List.getElem?_eq_getElem hi, e]) (List.getElem?_eq_getElem hi2)))
    have cl := cut_lo (xs := xs) ra2 (by omega)
    have ch := cut_hi (xs := xs) ra2 (by omega)
    have ch0 := cut_hi0 (xs := xs) ra2 (by omega)
    have lt : (xs.take r2.toNat).length = r2.toNat := by rw [List.length_take]; omega
    have ld : (xs.drop (r2.toNat + 1)).length = xs.length - (r2.toNat + 1) := List.length_drop
    have ld0 : (xs.drop r2.toNat).length = xs.length - r2.toNat := List.length_drop
    refine ⟨_, rfl, _, _, rfl, rfl, _, rfl, ite2 (fun h7 => ?_) (fun h7 => ?_)⟩
    · intro c n3
      have sd : Same H2 (upd H2 c (.dK [])) := same_new n3
      refine ⟨_, rfl, l, _, rfl, SqL.of (sd _ _ hl2), _, _, rfl, rfl, mulOk1 (by omega) (by omega), ⟨rfl, fun lb G3 s3 hlb n4 => ?_⟩⟩
      have z3 : Same H2 G3 := sd.trans s3
      have cp : c ≠ p := Ne.symm (ne_of_none hp2 n3)
      have lbp : lb ≠ p := Ne.symm (ne_of_none (sd _ _ hp2) n4)
      have hp3 := z3 _ _ hp2
      refine ⟨_, rfl, p, x2, y2, 4, rfl, hp3, hx2, by omega, by omega, by omega, by omega, fun r6 x6 y6 H6 ra6 rb6 hx6 hy6 hz6 k6 hp6 => ?_⟩
      have o6 : Off p G3 H6 := off_of k6
      have oF : Off p H H6 := off_trans (Off.same o2 z3) o6
      obtain ⟨v, hv, hk⟩ : ∃ v, atI [V.non, V.ref c, V.str (PySem.Txt.mul "1" (xs.length : Int)), V.int 3] r6 = some v ∧ BadNs K H6 xs.length v := by
        rcases (by omega : r6 = 0 ∨ r6 = 1 ∨ r6 = 2 ∨ r6 = 3) with rfl | rfl | rfl | rfl
        · exact ⟨_, rfl, .nos nos_non⟩
        · exact ⟨_, rfl, .nos (nos_dic (o6 c cp _ (s3 _ _ upd_same)))⟩
        · exact ⟨_, rfl, .nos nos_str⟩
        · exact ⟨_, rfl, .nos nos_int⟩
      exact ⟨_, _, _, v, rfl, rfl, SqL.of (o6 lb lbp _ hlb), hv, q v x6 y6 H6 oF hp6 hx6 (by omega) (by omega) hk⟩
    refine ⟨_, rfl, rfl, _, rfl, ite2 (fun h6 => ?_) (fun h6 => ?_)⟩
    · refine ⟨_, rfl, _, rfl, r2, rfl, l, xs, rfl, SqL.of hl2, fun d1 n1 => ?_⟩
      have s3 : Same H2 (upd H2 d1 (.lst (cutV xs none (some r2)))) := same_new n1
      refine ⟨_, rfl, _, rfl, _, _, rfl, rfl, _, rfl, l, xs, rfl, SqL.of (s3 _ _ hl2), fun d2 n2 => ?_⟩
      have s4 := same_new (o := .lst (cutV xs (some (r2 + 1)) none)) n2
      refine ⟨d1, d2, _, _, rfl, rfl, s4 _ _ upd_same, upd_same, few_le (by rw [cl, ch, List.length_append, lt, ld]; omega), fun d H5 s5 hd n5 => ?_⟩
      have s25 := (s3.trans s4).trans s5
      rw [cl, ch] at hd
      have ll : (xs.take r2.toNat ++ xs.drop (r2.toNat + 1)).length = xs.length - 1 := by rw [List.length_append, lt, ld]; omega
      refine q _ x2 y2 H5 (Off.same o2 s25) (s25 _ _ hp2) hx2 (by omega) (by omega) (.seq (bs := List.replicate (xs.length - 1) true) (.inl hd) (by rw [List.length_replicate, ll]) (by omega) (fun i v e => ?_) (fun h => by have := h.1; omega))
      obtain ⟨hi, _⟩ := List.getElem?_eq_some_iff.mp e
      refine ⟨true, by rw [List.getElem?_replicate, if_pos (by omega)], ?_⟩
      have hv : v ∈ xs := by
        rcases List.mem_append.mp (List.mem_of_getElem? e) with h | h
        · exact List.mem_of_mem_take h
        · exact List.mem_of_mem_drop h
      exact (hq2 v hv).same s25
    refine ⟨_, rfl, rfl, _, rfl, ite2 (fun h5 => ?_) (fun h5 => ?_)⟩
    · refine ⟨_, rfl, _, rfl, r2, rfl, l, xs, rfl, SqL.of hl2, fun d1 m1 => ?_⟩
      have u1 : Same H2 (upd H2 d1 (.lst (cutV xs none (some r2)))) := same_new m1
      refine ⟨rfl, fun l1 G2 u2 hl1 n2 => ?_⟩
      refine ⟨d1, l1, _, _, rfl, rfl, u2 _ _ upd_same, hl1, few_le (by rw [cl, List.length_append, lt]; show _ + 1 ≤ 1000; omega), fun d3 G3 u3 hd3 n3 => ?_⟩
      have u13 := (u1.trans u2).trans u3
      refine ⟨_, rfl, _, rfl, _, rfl, l, _, rfl, SqL.of (u13 _ _ hl2), fun d2 m2 => ?_⟩
      have u4 : Same G3 (upd G3 d2 (.lst (cutV xs (some r2) none))) := same_new m2
      refine ⟨d3, d2, _, _, rfl, rfl, u4 _ _ hd3, upd_same, few_le (by rw [cl, ch0, List.length_append, List.length_append, lt, ld0]; show _ + 1 + _ ≤ 1000; omega), fun d HF uF hd nF => ?_⟩
      have sF := (u13.trans u4).trans uF
      rw [cl, ch0] at hd
      have ll : (xs.take r2.toNat ++ [V.int 0] ++ xs.drop r2.toNat).length = xs.length + 1 := by
        rw [List.length_append, List.length_append, lt, ld0]; show _ + 1 + _ = _; omega
      refine q _ x2 y2 HF (Off.same o2 sF) (sF _ _ hp2) hx2 (by omega) (by omega) (.seq (bs := List.replicate (xs.length + 1) true) (.inl hd) (by rw [List.length_replicate, ll]) (by omega) (fun i v e => ?_) (fun h => by have := h.1; omega))
      obtain ⟨hi, _⟩ := List.getElem?_eq_some_iff.mp e
      refine ⟨true, by rw [List.getElem?_replicate, if_pos (by omega)], ?_⟩
      rcases List.mem_append.mp (List.mem_of_getElem? e) with h | h
      · rcases List.mem_append.mp h with h | h
        · exact (hq2 v (List.mem_of_mem_take h)).same sF
        · obtain rfl := List.mem_singleton.mp h; exact .num (.int 0)
      · exact (hq2 v (List.mem_of_mem_drop h)).same sF
    refine ⟨rfl, fun t1 G1 s1 ht1 n1 => ⟨rfl, fun l1 G2 s2 hl1 n2 => fun c n3 => ⟨rfl, fun lb G3 s3 hlb n4 => ?_⟩⟩⟩
    have sd : Same G2 (upd G2 c (.dK [])) := same_new n3
    have z3 : Same H2 G3 := ((s1.trans s2).trans sd).trans s3
    have t1p : t1 ≠ p := Ne.symm (ne_of_none hp2 n1)
    have l1p : l1 ≠ p := Ne.symm (ne_of_none (s1 _ _ hp2) n2)
    have cp : c ≠ p := Ne.symm (ne_of_none ((s1.trans s2) _ _ hp2) n3)
    have lbp : lb ≠ p := Ne.symm (ne_of_none (((s1.trans s2).trans sd) _ _ hp2) n4)
    have hl3 := z3 _ _ hl2
    refine ⟨_, rfl, _, rfl, r2, rfl, l, _, rfl, SqL.of hl3, fun d1 m1 => ?_⟩
    have s5 : Same G3 (upd G3 d1 (.lst (cutV xs none (some r2)))) := same_new m1
    generalize hG5 : upd G3 d1 (.lst (cutV xs none (some r2))) = G5 at *
    have hd1 : G5 d1 = some (.lst (cutV xs none (some r2))) := by rw [← hG5]; exact upd_same
    have hp5 : G5 p = some (.lst [.int x2, .int y2]) := s5 _ _ (z3 _ _ hp2)
    have d1p : d1 ≠ p := Ne.symm (ne_of_none (z3 _ _ hp2) m1)
    refine ⟨_, rfl, _, rfl, p, x2, y2, 7, rfl, hp5, hx2, by omega, by omega, by omega, by omega, fun r6 x6 y6 H6 ra6 rb6 hx6 hy6 hz6 k6 hp6 => ?_⟩
    have o6 : Off p G5 H6 := off_of k6
    obtain ⟨v, hv, hk⟩ : ∃ v, atI [V.non, V.bl true, V.bl false, V.str "1", V.ref t1, V.ref l1, V.ref c] r6 = some v ∧ NumB K H6 v false := by
      rcases (by omega : r6 = 0 ∨ r6 = 1 ∨ r6 = 2 ∨ r6 = 3 ∨ r6 = 4 ∨ r6 = 5 ∨ r6 = 6) with rfl | rfl | rfl | rfl | rfl | rfl | rfl
      · exact ⟨_, rfl, .non⟩
      · exact ⟨_, rfl, .bl _⟩
      · exact ⟨_, rfl, .bl _⟩
      · exact ⟨_, rfl, .str _⟩
      · exact ⟨_, rfl, .tup (o6 t1 t1p _ (s5 _ _ (((s2.trans sd).trans s3) _ _ ht1)))⟩
      · exact ⟨_, rfl, .lst (o6 l1 l1p _ (s5 _ _ ((sd.trans s3) _ _ hl1)))⟩
      · exact ⟨_, rfl, .dic (o6 c cp _ (s5 _ _ (s3 _ _ upd_same)))⟩
    refine ⟨_, _, _, v, rfl, rfl, SqL.of (o6 lb lbp _ (s5 _ _ hlb)), hv, ?_⟩
    refine ⟨rfl, fun l7 G7 s7 hl7 n7 => ?_⟩
    refine ⟨d1, l7, _, _, rfl, rfl, s7 _ _ (o6 d1 d1p _ hd1), hl7, few_le (by rw [cl, List.length_append, lt]; show _ + 1 ≤ 1000; omega), fun d3 G8 s8 hd3 n8 => ?_⟩
    have hl8 : G8 l = some (.lst xs) := s8 _ _ (s7 _ _ (o6 l lp _ (s5 _ _ hl3)))
    refine ⟨_, rfl, _, rfl, _, _, rfl, rfl, _, rfl, l, _, rfl, SqL.of hl8, fun d2 m2 => ?_⟩
    have s9 : Same G8 (upd G8 d2 (.lst (cutV xs (some (r2 + 1)) none))) := same_new m2
    refine ⟨d3, d2, _, _, rfl, rfl, s9 _ _ hd3, upd_same, few_le (by rw [cl, ch, List.length_append, List.length_append, lt, ld]; show _ + 1 + _ ≤ 1000; omega), fun d HF sF hd nF => ?_⟩
    have s6F := ((s7.trans s8).trans s9).trans sF
    have oF : Off p H HF := Off.same (off_trans (Off.same (Off.same o2 z3) s5) o6) s6F
    rw [cl, ch] at hd
    obtain ⟨e1, e2, e3⟩ := put_bad (xs := xs) (v := v) (r := r2.toNat) (good := fun u => NumB K HF u true) (bad := fun u => NumB K HF u false) (by omega) (fun u hu => by
      obtain ⟨i, hi, e⟩ := List.mem_iff_getElem.mp hu
      have hi2 : i < qs.length := by rw [← hq.1]; exact hi
      exact .num (offL_num hp0 oF (hq.2 i u _ (by rw [List.getElem?_eq_getElem hi, e]) (List.getElem?_eq_getElem hi2)))) (hk.same s6F)
    refine q _ x6 y6 HF oF (s6F _ _ hp6) hx6 (by omega) (by omega) (.seq (.inl hd) (e2.trans e1.symm) (by omega) (fun i u e => ?_) (fun h => by have z := h.2; rw [one_bad] at z; cases z))
    obtain ⟨b, eb, hb⟩ := e3 i u e
    rcases hb with ⟨rfl, hb⟩ | ⟨rfl, hb⟩
    · exact ⟨true, eb, hb⟩
    · exact ⟨false, eb, hb⟩

theorem good_bad_numbers (Z : CT K mg) : GoodF (CX0) P w K mg base 2 "_law_bad_numbers" ["_law_pouch_here", "_law_numbers"] (spBadN K) := Z.good 67 34 d_bad_numbers (fun _ _ _ _ _ _ us hl => match us, hl with | [_, _], _ => rfl) fun _ F => ok_bad_numbers Z F
end
end My

namespace My
open PySem PySem.Spec PyProof.Rows L2 PySem.Calls

/-- what stands behind a statement, by what holds there -/
def tInv (t : TS) : TS := fun D σ H => ∃ I : L2.St → Hp → Prop, t { D with nx := I } σ H ∧ ∀ σ' H', I σ' H' → D.nx σ' H'
theorem ps_inv {X : Cx} {st : Stmt} {t : TS} (h : PS X st t) : PS X st (tInv t) := ⟨fun pins s σ H D I ⟨J, h1, h2⟩ => thn (h.run pins s σ H { D with nx := J } I h1) fun f s' q => by
  cases f with
  | next => obtain ⟨σ', H', I', q⟩ := q; exact ⟨σ', H', I', h2 _ _ q⟩
  | brk => exact q
  | cont => exact q
  | ret u => exact q⟩

theorem prs_same {xs : List V} {H : Hp} (h : ∀ x ∈ xs, DSame x x H) : Prs DSame xs xs H := ⟨rfl, fun i x y a b => by
  rw [a] at b
  obtain rfl := Option.some.inj b
  exact h x (List.mem_of_getElem? a)⟩
theorem inV_strX {x : V} (h : ∀ z, x ≠ .str z) (hf : flatV x = true) : ∀ zs : List Str, inV x (zs.map V.str) = false := by
  intro zs
  unfold inV
  rw [List.any_eq_false]
  intro y hy
  obtain ⟨z, _, rfl⟩ := List.mem_map.mp hy
  cases x <;> first | exact absurd rfl (h _) | (intro e; exact absurd e (by simp [eqV])) | (intro e; cases e)
theorem cut6_len {z : Str} : (cutS z none (some 6)).length ≤ 6 := by
  show (cutS z none (some ((6 : Nat) : Int))).cps.size ≤ 6
  unfold cutS
  rw [HT.sIx_none, HT.sIx_nat, List.drop_zero, Nat.sub_zero, List.size_toArray, List.length_take]; omega
theorem same3 {K : PySem.W.Frag} {H : Hp} {a b : V} (hb : (flatV b = true ∧ scal b b = true) ∨ ∃ r, b = .ref r) : DSame b b H := by
  rcases hb with ⟨h, _⟩ | ⟨r, rfl⟩
  · refine .inl ⟨h, h, ?_⟩
    cases b <;> first | rfl | (simp [eqV]; done) | (simp [flatV] at h; done) | cases h
  · exact .inr ⟨r, rfl, rfl⟩
section
variable {P : Program} {w : World} {K : PySem.W.Frag} {mg : Str → Option Value} {base : Heap} {fd : FuncData} {f : Addr}
/-- effect and nothing, told -/
def spSinglesK (K : PySem.W.Frag) : Sp := fun vs H Q _ => ∃ (p l : Addr) (v : V) (x y : Int) (zs : List Str), vs = [.ref p, .ref l, v] ∧ H p = some (.lst [.int x, .int y]) ∧ H l = some (.lst (zs.map V.str)) ∧ l ≠ p ∧ EfOk zs ∧ 0 ≤ x ∧ 0 ≤ y ∧ y < 900000 ∧ (∀ J, Off p H J → EfB K J v false) ∧
  ∀ (x' y' : Int) (H' : Hp), Off p H H' → H' p = some (.lst [.int x', .int y']) → 0 ≤ x' → y ≤ y' → y' ≤ y + 400 → Q (.bl true) H'
theorem ok_singles (Z : CT K mg) (F : FunD K d_singles.name d_singles.qual d_singles.params d_singles.body d_singles.scope [] [] f fd) : FnOk P w K mg base (CX0) 11 f fd ["_law_pouch_here", "_law_effects_here", "_law_spoiled"] (spSinglesK K) := by
  refine F.ok sc_singles (fun vs H Q E h => ?_) (fun cdv A outer s H vs Q E hr h => ?_)
  · obtain ⟨p, l, v, x, y, zs, rfl, _⟩ := h
    rfl
  · obtain ⟨p, l, v, x0, y0, zs, rfl, hp0, hl, lp, ok, hx0, hy0, hm, hv, q⟩ := h
    refine ⟨_, PSs.nox (pss_cons (ps_set (i := 3) sc_singles.nd rfl (by first | exact Or.inl rfl | exact Or.inr rfl) (pe_lstN (pa_cons pe_non (pa_cons pe_int (pa_cons pe_str (pa_cons (pe_op op_add_str (pe_str) (pe_slice sl_str (pe_ix ix_list (pv 1) pe_int (fun _ _ => rfl)) po_none (po_some pe_int))) (pa_cons (pe_tupN (pa_cons (pe_ix ix_list (pv 1) pe_int (fun _ _ => rfl)) pa_nil)) (pa_cons (pe_lstN (pa_cons (pe_ix ix_list (pv 1) pe_int (fun _ _ => rfl)) pa_nil)) (pa_cons pe_bl (pa_cons pe_dnewK pa_nil))))))))))
      (pss_cons (ps_set (i := 4) sc_singles.nd rfl (by first | exact Or.inl rfl | exact Or.inr rfl) (pe_ix ix_list (pv 3) (gcall (good_draw Z) hr (pa_cons (pv 0) (pa_cons pe_int pa_nil)) pass0) (fun _ _ => rfl)))
      (pss_cons (ps_set (i := 5) sc_singles.nd rfl (by first | exact Or.inl rfl | exact Or.inr rfl) (pe_tupN (pa_cons pe_str (pa_cons (pv 4) (pa_cons pe_str pa_nil)))))
      (pss_cons (ps_inv (ps_if (PW.pt (pw_and (pt_cmpR (opR_or op_notIn_seq (op_notInOdd (Nat.lt_of_le_of_lt (Nat.add_le_add_left (by decide : 1 ≤ 64) _) hr.units))) (pv 4) (pv 1) (by rfl)) (pw_and1 (pt_cmpR (op_neT mon_DSame eqG_ds (hr.mono (by decide))) (gcall (good_single Z) hr (pa_cons (pv 1) (pa_cons (pv 4) pa_nil)) passN) (pv 5) (nomark _))))) (pss_one (ps_ret pe_bl)) pss_nil))
      (pss_cons (ps_if (PW.pt (pw_or (pt_cmpR op_ne (gcall (good_single Z) hr (pa_cons (pv 2) (pa_cons (pv 4) pa_nil)) passN) (pe_str) (nomark _)) (pw_or1 (pt_cmpR op_ne (gcall (good_empty Z) hr (pa_cons (pv 2) pa_nil) passN) (pe_str) (nomark _))))) (pss_one (ps_ret pe_bl)) pss_nil)
      (pss_cons (ps_set (i := 6) sc_singles.nd rfl (by first | exact Or.inl rfl | exact Or.inr rfl) (pe_ix ix_list (pv 1) (gcall (good_draw Z) hr (pa_cons (pv 0) (pa_cons (pe_callB call_lenL (by rfl) (m_len Z) PySem.boot_len (pa_cons (pv 1) pa_nil)) pa_nil)) pass0) (fun _ _ => rfl)))
      (pss_one (ps_ret ((pe_and (pe_cmpR op_eq (gcall (good_single Z) hr (pa_cons (pv 1) (pa_cons (pv 6) pa_nil)) passN) (pe_str) (nomark _)) (pe_one (pe_cmpR op_eq (gcall (good_empty Z) hr (pa_cons (pv 1) pa_nil) passN) (pe_str) (nomark _))))))))))))), ?_⟩
    have lz : (zs.map V.str).length = zs.length := List.length_map _
    have h1 := ok.lo
    have h4 := ok.hi
    have n0 : 0 < zs.length := by omega
    have x1 : atI (zs.map V.str) 0 = some (.str zs[0]) := (show atI (zs.map V.str) ((0 : Nat) : Int) = _ from atI_nat (by rw [List.getElem?_map, List.getElem?_eq_getElem n0]; rfl))
    have zl := (ok.nm _ (List.getElem_mem n0)).hi
    refine ⟨_, rfl, l, _, _, _, rfl, rfl, SqL.of hl, x1, 6, rfl, zs[0], rfl, by unfold sizeLine; omega, _, _, rfl, rfl, ?_, ?_⟩
    · have := cut6_len (z := zs[0])
      have : ("zz" : Str).length = 2 := by decide +kernel
      unfold sizeLine; omega
    refine ⟨_, rfl, l, _, _, _, rfl, rfl, SqL.of hl, x1, rfl, fun t1 G1 s1 ht1 n1 => ⟨_, rfl, l, _, _, _, rfl, rfl, SqL.of (s1 _ _ hl), x1, rfl, fun l1 G2 s2 hl1 n2 => fun c n3 => ⟨rfl, fun lb G3 s3 hlb n4 => ?_⟩⟩⟩
    generalize (("zz" : Str) ++ cutS zs[0] none (some 6)) = zz at hlb
    have sd : Same G2 (upd G2 c (.dK [])) := same_new n3
    have z3 : Same H G3 := ((s1.trans s2).trans sd).trans s3
    have t1p : t1 ≠ p := Ne.symm (ne_of_none hp0 n1)
    have l1p : l1 ≠ p := Ne.symm (ne_of_none (s1 _ _ hp0) n2)
    have cp : c ≠ p := Ne.symm (ne_of_none ((s1.trans s2) _ _ hp0) n3)
    have lbp : lb ≠ p := Ne.symm (ne_of_none (((s1.trans s2).trans sd) _ _ hp0) n4)
    refine ⟨_, rfl, _, rfl, p, x0, y0, 8, rfl, z3 _ _ hp0, hx0, by omega, by omega, by omega, by omega, fun r6 x6 y6 H6 ra6 rb6 hx6 hy6 hz6 k6 hp6 => ?_⟩
    have o6 : Off p G3 H6 := off_of k6
    have oF : Off p H H6 := off_trans (fun b _ o e => z3 b o e) o6
    obtain ⟨u, hu, hs, hk⟩ : ∃ u, atI [V.non, V.int 3, V.str "", V.str zz, V.ref t1, V.ref l1, V.bl true, V.ref c] r6 = some u ∧ (∀ J, DSame u u J) ∧ (flatV u = true ∨ ∃ a, u = .ref a ∧ Box K H6 a) := by
      rcases (by omega : r6 = 0 ∨ r6 = 1 ∨ r6 = 2 ∨ r6 = 3 ∨ r6 = 4 ∨ r6 = 5 ∨ r6 = 6 ∨ r6 = 7) with rfl | rfl | rfl | rfl | rfl | rfl | rfl | rfl
      · exact ⟨_, rfl, fun J => .inl ⟨rfl, rfl, rfl⟩, .inl rfl⟩
      · exact ⟨_, rfl, fun J => .inl ⟨rfl, rfl, by simp [eqV]⟩, .inl rfl⟩
      · exact ⟨_, rfl, fun J => .inl ⟨rfl, rfl, by simp [eqV]⟩, .inl rfl⟩
      · exact ⟨_, rfl, fun J => .inl ⟨rfl, rfl, by simp [eqV]⟩, .inl rfl⟩
      · exact ⟨_, rfl, fun J => .inr ⟨_, rfl, rfl⟩, .inr ⟨_, rfl, .inr (.inl ⟨_, o6 t1 t1p _ (((s2.trans sd).trans s3) _ _ ht1)⟩)⟩⟩
      · exact ⟨_, rfl, fun J => .inr ⟨_, rfl, rfl⟩, .inr ⟨_, rfl, .inl ⟨_, o6 l1 l1p _ ((sd.trans s3) _ _ hl1)⟩⟩⟩
      · exact ⟨_, rfl, fun J => .inl ⟨rfl, rfl, by simp [eqV]⟩, .inl rfl⟩
      · exact ⟨_, rfl, fun J => .inr ⟨_, rfl, rfl⟩, .inr ⟨_, rfl, .inr (.inr (o6 c cp _ (s3 _ _ upd_same)))⟩⟩
    refine ⟨lb, _, _, u, rfl, rfl, SqL.of (o6 lb lbp _ hlb), hu, ?_⟩
    refine ⟨_, rfl, rfl, fun td G7 s7 htd n7 => ?_⟩
    have hl6 := oF l lp _ hl
    have hl7 := s7 _ _ hl6
    have ptd : ∀ J, Prs DSame [V.str "such", u, V.str "refused nosuch"] [V.str "such", u, V.str "refused nosuch"] J := fun J => prs_same fun x hx => by
      simp only [List.mem_cons, List.not_mem_nil, or_false] at hx
      rcases hx with rfl | rfl | rfl
      · exact .inl ⟨rfl, rfl, by simp [eqV]⟩
      · exact hs J
      · exact .inl ⟨rfl, rfl, by simp [eqV]⟩
    refine ⟨fun σ H' => σ = [some (.ref p), some (.ref l), some v, some (.ref lb), some u, some (.ref td), none] ∧ Same G7 H', ?_, fun σ H' hI => ?_⟩
    · have told : NotIn K G7 u zs → ∀ Q' : V → Hp → Prop, (∀ H9, Same G7 H9 → Q' (.bl false) H9) → tOp (rNeT K DSame) (tCall (spSingle K) [] E0 (tCons (tVar 1) (tCons (tVar 4) tNil))) (tVar 5) [some (.ref p), some (.ref l), some v, some (.ref lb), some u, some (.ref td), none] G7 Q' := fun hn Q' hq =>
        ⟨_, rfl, _, rfl, _, _, rfl, .such hl7 ok hn fun H8 t s8 ht => ⟨_, rfl, t, td, _, _, rfl, rfl, SqT.of ht, SqT.of (s8 _ _ htd), ptd H8, fun H9 s9 => hq H9 (s8.trans s9)⟩⟩
      refine ⟨_, rfl, _, rfl, ?_⟩
      rcases hk with fu | ⟨a, rfl, hb⟩
      · refine .inl ⟨l, _, rfl, .inl (SqL.of hl7), fu, flat_strs zs, _, rfl, ?_⟩
        show if (!inV u (zs.map V.str)) = true then _ else _
        cases hin : inV u (zs.map V.str) with
        | true => exact iteF (iteF ⟨rfl, Same.refl _⟩)
        | false => exact iteT (told (.inl ⟨fu, hin⟩) _ fun H9 s9 => ⟨_, rfl, iteF ⟨rfl, s9⟩⟩)
      · exact .inr ⟨a, l, zs, rfl, rfl, SqL.of hl7, hb.same s7, _, rfl, iteT (told (.inr ⟨a, rfl, hb.same s7⟩) _ fun H9 s9 => ⟨_, rfl, iteF ⟨rfl, s9⟩⟩)⟩
    obtain ⟨rfl, s8⟩ := hI
    have o8 : Off p H H' := Off.same oF (s7.trans s8)
    have hl8 := s8 _ _ hl7
    have hp8 := s8 _ _ (s7 _ _ hp6)
    refine ⟨_, rfl, _, rfl, _, _, rfl, .eff (hv _ o8) fun H9 s9 => ⟨rfl, _, rfl, ite2 (fun h => absurd h (by simp)) fun _ => ?_⟩⟩
    refine ⟨_, rfl, _, rfl, .eff ((hv _ o8).same s9) fun H10 s10 => ⟨rfl, _, rfl, ite2 (fun h => absurd h (by simp)) fun _ => ?_⟩⟩
    have s910 := s9.trans s10
    have hl10 := s910 _ _ hl8
    refine ⟨_, rfl, _, rfl, _, rfl, l, _, rfl, SqL.of hl10, p, x6, y6, _, rfl, s910 _ _ hp8, hx6, by omega, by omega, by omega, by omega, fun r11 x11 y11 H11 ra11 rb11 hx11 hy11 hz11 k11 hp11 => ?_⟩
    rw [lz] at rb11
    have r11n : r11.toNat < zs.length := by omega
    have hl11 := off_of k11 l lp _ hl10
    have x11' : atI (zs.map V.str) r11 = some (.str zs[r11.toNat]) := by
      have z : atI (zs.map V.str) ((r11.toNat : Nat) : Int) = some (.str zs[r11.toNat]) := atI_nat (by rw [List.getElem?_map, List.getElem?_eq_getElem r11n]; rfl)
      rwa [show ((r11.toNat : Nat) : Int) = r11 by omega] at z
    refine ⟨l, _, _, _, rfl, rfl, SqL.of hl11, x11', ?_⟩
    refine ⟨_, rfl, _, rfl, _, _, rfl, .good hl11 ok (List.getElem_mem r11n) fun H12 s12 => ⟨rfl, _, rfl, ite2 (fun _ => ?_) fun h => absurd (decide_eq_true rfl) h⟩⟩
    refine ⟨_, rfl, _, rfl, .good (.inl (s12 _ _ hl11)) ok fun H13 s13 => ⟨rfl, ?_⟩⟩
    rw [decide_eq_true (rfl : V.str "made" = V.str "made")]
    have s123 := s12.trans s13
    exact q x11 y11 H13 (Off.same (off_trans (Off.same o8 s910) (off_of k11)) s123) (s123 _ _ hp11) hx11 (by omega) (by omega)

theorem good_singles (Z : CT K mg) : GoodF (CX0) P w K mg base 11 "_law_singles" ["_law_pouch_here", "_law_effects_here", "_law_spoiled"] (spSinglesK K) := Z.good 69 36 d_singles (fun _ _ _ _ _ _ us hl => match us, hl with | [_, _, _], _ => rfl) fun _ F => ok_singles Z F
end
end My

namespace My
open PySem PySem.Spec PyProof.Rows L2 PySem.Calls

theorem eqv_lsts : ∀ zs ys : List Str, PyData.eqv (.list (zs.map .str)) (.list (ys.map .str)) = decide (zs = ys) := by
  have h : ∀ zs ys : List Str, PyData.eqvAll (zs.map .str) (ys.map .str) = decide (zs = ys) := by
    intro zs
    induction zs with
    | nil =>
      intro ys
      cases ys with
      | nil => rfl
      | cons y ys => rfl
    | cons z zs ih =>
      intro ys
      cases ys with
      | nil => rfl
      | cons y ys =>
        show (PyData.eqv (.str z) (.str y) && PyData.eqvAll (zs.map .str) (ys.map .str)) = _
        rw [ih]
        show ((z == y) && decide (zs = ys)) = decide (z :: zs = y :: ys)
        rw [show (z == y) = decide (z = y) from by by_cases e : z = y <;> simp [e], ← Bool.decide_and]
        exact decide_eq_decide.mpr ⟨fun ⟨a, b⟩ => by rw [a, b], fun e => by injection e with a b; exact ⟨a, b⟩⟩
  exact fun zs ys => h zs ys
theorem shl_strs {zs : List Str} (h : EfOk zs) : SeqAt.shaped (.list (zs.map PyData.str)) = true := by
  have lay : ∀ zs : List Str, (∀ z ∈ zs, NmOk z) → PyData.canLayAll0 (zs.map PyData.str) = true := by
    intro zs
    induction zs with
    | nil => intro _; rfl
    | cons z zs ih =>
      intro h
      show (PyData.strOk z && PyData.canLayAll0 (zs.map PyData.str)) = true
      rw [nm_strOk (h z (.head _)), ih fun y hy => h y (.tail _ hy)]; rfl
  have dep : ∀ zs : List Str, PyData.depthAll (zs.map PyData.str) = 0 := by
    intro zs
    induction zs with
    | nil => rfl
    | cons z zs ih =>
      show max 0 (PyData.depthAll (zs.map PyData.str)) = 0
      rw [ih]; rfl
  unfold SeqAt.shaped
  have a : PyData.canLay0 (.list (zs.map PyData.str)) = true := lay zs h.nm
  have b : PyData.depth (.list (zs.map PyData.str)) = 1 := by
    show PyData.depthAll (zs.map PyData.str) + 1 = 1
    rw [dep]
  rw [a, b]; rfl
theorem ef_rev {zs : List Str} (h : EfOk zs) : EfOk zs.reverse := ⟨by rw [List.length_reverse]; exact h.lo, by rw [List.length_reverse]; exact h.hi, (List.reverse_perm zs).nodup_iff.mpr h.nd, fun z hz => h.nm z (List.mem_reverse.mp hz)⟩
theorem rev_ne {zs : List Str} (h : EfOk zs) (h2 : ¬ zs.length < 2) : ¬ zs = zs.reverse := fun e => by
  have e2 : zs[0]? = zs.reverse[0]? := congrArg (fun l => l[0]?) e
  rw [List.getElem?_reverse (by omega), List.getElem?_eq_getElem (by omega), List.getElem?_eq_getElem (by omega)] at e2
  have := (List.getElem_inj h.nd).mp (Option.some.inj e2)
  omega
theorem okq_rep {n B : Nat} (hB : 1 ≤ B) : ∀ p ∈ List.replicate n ((0, 1) : Int × Int), Okq B p := fun p hp => by
  obtain rfl := List.eq_of_mem_replicate hp
  exact Okq.le (B := 1) ⟨by decide, by decide, by decide⟩ hB
section
variable {P : Program} {w : World} {K : PySem.W.Frag} {mg : Str → Option Value} {base : Heap} {fd : FuncData} {f : Addr}
/-- sums of questions, told -/
def spSumsK (K : PySem.W.Frag) : Sp := fun vs H Q _ => ∃ (l m a : Addr) (zs ys : List Str) (qs : List (Int × Int)), vs = [.ref l, .ref m, .ref a] ∧ H l = some (.lst (zs.map V.str)) ∧ H m = some (.lst (ys.map V.str)) ∧ EfOk zs ∧ EfOk ys ∧ QAt K H a zs qs ∧ qs.length = zs.length ∧ (∀ p ∈ qs, Okq 3900 p) ∧ ∀ H', Same H H' → Q (.bl true) H'
theorem ok_sums (Z : CT K mg) (F : FunD K d_sums.name d_sums.qual d_sums.params d_sums.body d_sums.scope [] [] f fd) : FnOk P w K mg base (CX0) 12 f fd ["_law_effects_here", "_law_other", "_law_q"] (spSumsK K) := by
  refine F.ok sc_sums (fun vs H Q E h => ?_) (fun cdv A outer s H vs Q E hr h => ?_)
  · obtain ⟨l, m, a, zs, ys, qs, rfl, _⟩ := h
    rfl
  · obtain ⟨l, m, a, zs, ys, qs, rfl, hl, hm, ok, ok2, ha, l1, o1, q⟩ := h
    refine ⟨_, PSs.nox (pss_cons (ps_set (i := 3) sc_sums.nd rfl (by first | exact Or.inl rfl | exact Or.inr rfl) (gcall (good_nothing Z) hr (pa_cons (pv 1) pa_nil) passN))
      (pss_cons (ps_set (i := 4) sc_sums.nd rfl (by first | exact Or.inl rfl | exact Or.inr rfl) (pe_str))
      (pss_cons (ps_inv (ps_if (pt_cmpR (op_neD hr.units) (pv 1) (pv 0) (nomark _)) (pss_one (ps_set (i := 4) sc_sums.nd rfl (by first | exact Or.inl rfl | exact Or.inr rfl) (pe_str))) pss_nil))
      (pss_cons (ps_if (PW.pt (pw_or (pt_cmpR op_ne (gcall (good_joined Z) hr (pa_cons (pv 2) (pa_cons (pv 3) (pa_cons pe_int pa_nil))) passN) (pv 4) (nomark _)) (pw_or1 (pt_cmpR op_ne (gcall (good_joined Z) hr (pa_cons (pv 3) (pa_cons (pv 2) (pa_cons pe_int pa_nil))) passN) (pv 4) (nomark _))))) (pss_one (ps_ret pe_bl)) pss_nil)
      (pss_cons (ps_if (PW.pt (pw_or (pt_cmpR op_ne (gcall (good_joined Z) hr (pa_cons (pv 2) (pa_cons (pv 2) (pa_cons pe_int pa_nil))) passN) (pe_str) (nomark _)) (pw_or1 (pt_cmpR op_ne (gcall (good_joined Z) hr (pa_cons (pv 3) (pa_cons (pv 3) (pa_cons pe_int pa_nil))) passN) (pe_str) (nomark _))))) (pss_one (ps_ret pe_bl)) pss_nil)
      (pss_cons (ps_if (pt_cmpR op_lt (pe_callB call_lenL (by rfl) (m_len Z) PySem.boot_len (pa_cons (pv 0) pa_nil)) (pe_int) (nomark _)) (pss_one (ps_ret pe_bl)) pss_nil)
      (pss_one (ps_ret (pe_cmpR op_eq (gcall (good_joined Z) hr (pa_cons (pv 2) (pa_cons (gcall (good_nothing Z) hr (pa_cons (pe_rev (pv 0) (po_some (pe_un un_neg (pe_int)))) pa_nil) passN) (pa_cons pe_int pa_nil))) passN) (pe_str) (nomark _)))))))))), ?_⟩
    have lz : (zs.map V.str).length = zs.length := List.length_map _
    have h4 := ok.hi
    refine ⟨_, rfl, .inl ⟨m, ys, rfl, .inl hm, ok2, fun rr H1 s1 hr1 => ?_⟩⟩
    have oR := okq_rep (n := ys.length) (B := 3900) (by decide)
    have lR : (List.replicate ys.length ((0, 1) : Int × Int)).length = ys.length := List.length_replicate
    refine ⟨fun σ H' => σ = [some (.ref l), some (.ref m), some (.ref a), some (.ref rr), some (.str (if zs = ys then "made" else "refused othereffects"))] ∧ Same H1 H', ?_, fun σ H' hI => ?_⟩
    · refine ⟨_, rfl, _, rfl, _, _, .lst (SqL.of (s1 _ _ hm)) (dp_strs ys), .lst (SqL.of (s1 _ _ hl)) (dp_strs zs), shl_strs ok2, shl_strs ok, ?_⟩
      rw [eqv_lsts]
      by_cases e : zs = ys
      · subst e
        rw [decide_eq_true rfl, if_pos rfl]
        exact ⟨_, rfl, iteF ⟨rfl, Same.refl _⟩⟩
      · rw [decide_eq_false (fun h => e h.symm), if_neg e]
        exact ⟨_, rfl, iteT ⟨rfl, Same.refl _⟩⟩
    obtain ⟨rfl, s2⟩ := hI
    have hr2 := hr1.same s2
    have ha2 := ha.same (s1.trans s2)
    refine ⟨_, rfl, _, rfl, a, rr, _, zs, ys, qs, _, rfl, ha2, hr2, ok, ok2, l1, lR, o1, oR, fun H3 s3 => ⟨_, rfl, rfl, _, rfl, ite2 (fun h => absurd h (by simp)) fun _ => ?_⟩⟩
    refine ⟨_, rfl, _, rfl, rr, a, _, ys, zs, _, qs, rfl, hr2.same s3, ha2.same s3, ok2, ok, lR, l1, oR, o1, fun H4 s4 => ⟨_, rfl, rfl, _, rfl, ite2 (fun h => absurd h (by simp [eq_comm (a := ys)])) fun _ => ?_⟩⟩
    have s34 := s3.trans s4
    have hr4 := hr2.same s34
    have ha4 := ha2.same s34
    refine ⟨_, rfl, _, rfl, a, a, _, zs, zs, qs, qs, rfl, ha4, ha4, ok, ok, l1, l1, o1, o1, fun H5 s5 => ⟨rfl, _, rfl, ite2 (fun h => absurd h (by simp)) fun _ => ?_⟩⟩
    refine ⟨_, rfl, _, rfl, rr, rr, _, ys, ys, _, _, rfl, hr4.same s5, hr4.same s5, ok2, ok2, lR, lR, oR, oR, fun H6 s6 => ⟨rfl, _, rfl, ite2 (fun h => absurd h (by simp)) fun _ => ?_⟩⟩
    have s56 := s5.trans s6
    have s16 := ((s1.trans s2).trans s34).trans s56
    have hl6 := s16 _ _ hl
    have ha6 := ha4.same s56
    refine ⟨_, rfl, l, _, rfl, SqL.of hl6, _, _, rfl, rfl, _, rfl, ite2 (fun _ => q _ s16) fun h => ?_⟩
    have h2 : ¬ zs.length < 2 := fun e => h (decide_eq_true (by rw [lz]; omega))
    refine ⟨_, rfl, _, rfl, _, rfl, ?_⟩
    refine ⟨-1, rfl, l, _, rfl, rfl, SqL.of hl6, by rw [lz]; omega, fun d hd => .inl ⟨d, zs.reverse, rfl, .inl (by rw [upd_same, List.map_reverse]), ef_rev ok, fun r7 H7 s7 hr7 => ?_⟩⟩
    have s8 := (same_new (o := .lst (zs.map V.str).reverse) hd).trans s7
    refine ⟨a, r7, _, zs, zs.reverse, qs, _, rfl, ha6.same s8, hr7, ok, ef_rev ok, l1, List.length_replicate, o1, okq_rep (by decide), fun H8 s9 => ⟨by rw [if_neg (rev_ne ok h2)]; rfl, ?_⟩⟩
    rw [if_neg (rev_ne ok h2), decide_eq_true rfl]
    exact q H8 ((s16.trans s8).trans s9)

theorem good_sums (Z : CT K mg) : GoodF (CX0) P w K mg base 12 "_law_sums" ["_law_effects_here", "_law_other", "_law_q"] (spSumsK K) := Z.good 70 37 d_sums (fun _ _ _ _ _ _ us hl => match us, hl with | [_, _, _], _ => rfl) fun _ F => ok_sums Z F
end
end My

namespace My
open PySem PySem.Spec PyProof.Rows L2 PySem.Calls

theorem num_mon {K : PySem.W.Frag} {H H' : Hp} {y : V} {q : Int × Int} (h : Num K H y q) (k : KeepN H H') : Num K H' y q := by
  cases h with
  | int n => exact .int n
  | rat h => exact .rat (rat_mon h k)
theorem nums_ex {K : PySem.W.Frag} {H : Hp} {B : Int × Int → Prop} : ∀ {acc : List V}, (∀ (j : Nat) (y : V), acc[j]? = some y → ∃ p : Int × Int, Num K H y p ∧ B p) → ∃ ps, NumsAt K H acc ps ∧ ∀ p ∈ ps, B p
  | [], _ => ⟨[], ⟨rfl, fun i x p h => by simp at h⟩, fun p h => (nomatch h)⟩
  | y :: acc, h => by
    obtain ⟨p, z, k⟩ := h 0 y rfl
    obtain ⟨ps, hp, hb⟩ := nums_ex (acc := acc) fun j x hx => h (j + 1) x hx
    refine ⟨p :: ps, ⟨by rw [List.length_cons, List.length_cons, hp.1], fun i x r h1 h2 => ?_⟩, fun r hr => ?_⟩
    · cases i with
      | zero =>
        obtain rfl := Option.some.inj h1
        obtain rfl := Option.some.inj h2
        exact z
      | succ i => exact hp.2 i x r h1 h2
    · rcases List.mem_cons.mp hr with rfl | h
      · exact k
      · exact hb r h
theorem nums_off {K : PySem.W.Frag} {H H' : Hp} {d : Addr} {zs xs : List V} {qs : List (Int × Int)} (hd : H d = some (.lst zs)) (k : Off d H H') (h : NumsAt K H xs qs) : NumsAt K H' xs qs := ⟨h.1, fun i x p a b => offL_num hd k (h.2 i x p a b)⟩
section
variable {P : Program} {w : World} {K : PySem.W.Frag} {mg : Str → Option Value} {base : Heap} {fd : FuncData} {f : Addr}
theorem kp_of {p : Addr} {H H' : Hp} (h : ∀ b, b ≠ p → H' b = H b) : Off p H H' := fun d hd o z => by rw [h d hd]; exact z
def spLaw (K : PySem.W.Frag) : Sp := fun vs H Q _ => ∃ (a : Addr) (ns : List Int), vs = [.ref a] ∧ SqL K H a (ns.map V.int) ∧ ∀ H', Q (.bl true) H'
theorem ok_law (Z : CT K mg) (F : FunD K d_law.name d_law.qual d_law.params d_law.body d_law.scope [] [] f fd) : FnOk P w K mg base (CX0) 13 f fd ["_law_script"] (spLaw K) := by
  refine F.ok sc_law (fun vs H Q E h => ?_) (fun cdv A outer s H vs Q E hr h => ?_)
  · obtain ⟨a, ns, rfl, _⟩ := h
    rfl
  · obtain ⟨s0, ns, rfl, hS, q⟩ := h
    refine ⟨_, PSs.nox (pss_cons (ps_set (i := 1) sc_law.nd rfl (by first | exact Or.inl rfl | exact Or.inr rfl) (gcall (good_pouch Z) hr (pa_cons (pv 0) (pa_cons pe_int pa_nil)) pass0))
      (pss_cons (ps_set (i := 2) sc_law.nd rfl (by first | exact Or.inl rfl | exact Or.inr rfl) (gcall (good_Leffects Z) hr (pa_cons (pv 1) (pa_cons (pe_op op_add (gcall (good_draw Z) hr (pa_cons (pv 1) (pa_cons pe_int pa_nil)) pass0) (pe_int)) pa_nil)) pass0))
      (pss_cons (ps_setLc (i := 3) (own := [("_law_k", 9)]) (g := gName 9) (by rfl) sc_law.nd rfl rfl (sw_true rfl rfl rfl (by decide +kernel)) (pi_range1 rfl (m_range Z) (pa_cons (pe_callB call_lenL (by rfl) (m_len Z) PySem.boot_len (pa_cons (pv 2) pa_nil)) pa_nil)) (blkOk_by (own := [("_law_k", 9)]) (N := ["_law_script", "_law_pouch_here", "_law_effects_here", "_law_weights", "_law_world", "_law_spoiled", "_law_numbers", "_law_q", "_law_other", "_law_k"]) (sc := defScope s_law) (by decide +kernel)) (fun _ _ _ _ _ => pg_name (i := 9) sc_law.nd rfl (Or.inl rfl)) (fun _ _ _ _ _ => pts_nil) (fun _ _ _ _ _ => gcall (good_make Z) hr (pa_cons (gcall (good_number Z) hr (pa_cons (gcall (good_pouch Z) hr (pa_cons (pv 0) (pa_cons (pe_op op_add (pe_int) (pv 9)) pa_nil)) pass0) pa_nil) pass0) pa_nil) pass0))
      (pss_cons (ps_setLc (i := 4) (own := [("_law_k", 9)]) (g := gName 9) (by rfl) sc_law.nd rfl rfl (sw_true rfl rfl rfl (by decide +kernel)) (pi_range1 rfl (m_range Z) (pa_cons (pe_callB call_lenL (by rfl) (m_len Z) PySem.boot_len (pa_cons (pv 2) pa_nil)) pa_nil)) (blkOk_by (own := [("_law_k", 9)]) (N := ["_law_script", "_law_pouch_here", "_law_effects_here", "_law_weights", "_law_world", "_law_spoiled", "_law_numbers", "_law_q", "_law_other", "_law_k"]) (sc := defScope s_law) (by decide +kernel)) (fun _ _ _ _ _ => pg_name (i := 9) sc_law.nd rfl (Or.inl rfl)) (fun _ _ _ _ _ => pts_nil) (fun _ _ _ _ _ => gcall (good_make Z) hr (pa_cons (gcall (good_number Z) hr (pa_cons (gcall (good_pouch Z) hr (pa_cons (pv 0) (pa_cons (pe_op op_add (pe_int) (pv 9)) pa_nil)) pass0) pa_nil) pass0) pa_nil) pass0))
      (pss_cons (ps_set (i := 5) sc_law.nd rfl (by first | exact Or.inl rfl | exact Or.inr rfl) (gcall (good_bad_effects Z) hr (pa_cons (gcall (good_pouch Z) hr (pa_cons (pv 0) (pa_cons pe_int pa_nil)) pass0) (pa_cons (pv 2) pa_nil)) pass0))
      (pss_cons (ps_set (i := 6) sc_law.nd rfl (by first | exact Or.inl rfl | exact Or.inr rfl) (gcall (good_bad_numbers Z) hr (pa_cons (gcall (good_pouch Z) hr (pa_cons (pv 0) (pa_cons pe_int pa_nil)) pass0) (pa_cons (pv 3) pa_nil)) pass0))
      (pss_cons (ps_if (PW.pt (pw_or (pt_cmpR op_ne (gcall (good_made Z) hr (pa_cons (pv 2) (pa_cons (pv 3) pa_nil)) passN) (pe_str) (nomark _)) (pw_or1 (pt_cmpR op_ne (gcall (good_made Z) hr (pa_cons (pe_callTy call_tupA (by rfl) (m_tuple Z) boot_tuple (pa_cons (pv 2) pa_nil)) (pa_cons (pe_callTy call_tupA (by rfl) (m_tuple Z) boot_tuple (pa_cons (pv 3) pa_nil)) pa_nil)) passN) (pe_str) (nomark _))))) (pss_one (ps_ret pe_bl)) pss_nil)
      (pss_cons (ps_if (pt_cmpR (op_neT mon_DSame eqG_ds (hr.mono (by decide))) (gcall (good_made Z) hr (pa_cons (pv 5) (pa_cons (pv 3) pa_nil)) passN) (pe_tupN (pa_cons pe_str (pa_cons pe_str (pa_cons pe_bl pa_nil)))) (nomark _)) (pss_one (ps_ret pe_bl)) pss_nil)
      (pss_cons (ps_if (pt_cmpR (op_neT mon_DSame eqG_ds (hr.mono (by decide))) (gcall (good_made Z) hr (pa_cons (pv 5) (pa_cons (pv 6) pa_nil)) passN) (pe_tupN (pa_cons pe_str (pa_cons pe_str (pa_cons pe_bl pa_nil)))) (nomark _)) (pss_one (ps_ret pe_bl)) pss_nil)
      (pss_cons (ps_if (pt_cmpR (op_neT mon_DSame eqG_ds (hr.mono (by decide))) (gcall (good_made Z) hr (pa_cons (pv 2) (pa_cons (pv 6) pa_nil)) passN) (pe_tupN (pa_cons pe_str (pa_cons pe_str (pa_cons pe_bl pa_nil)))) (nomark _)) (pss_one (ps_ret pe_bl)) pss_nil)
      (pss_cons (ps_set (i := 7) sc_law.nd rfl (by first | exact Or.inl rfl | exact Or.inr rfl) (mkQ Z hr (pa_cons (pv 2) (pa_cons (pv 3) pa_nil))))
      (pss_cons (ps_if (pt_cmpR (op_neT mon_DSame eqG_ds (hr.mono (by decide))) (gcall (good_asked Z) hr (pa_cons (pv 7) (pa_cons (gcall (good_bad_numbers Z) hr (pa_cons (gcall (good_pouch Z) hr (pa_cons (pv 0) (pa_cons pe_int pa_nil)) pass0) (pa_cons (pv 4) pa_nil)) pass0) pa_nil)) passN) (pe_tupN (pa_cons pe_str (pa_cons pe_bl pa_nil))) (nomark _)) (pss_one (ps_ret pe_bl)) pss_nil)
      (pss_cons (ps_if (PW.pt (pw_or (pt_cmpR op_ne (gcall (good_asked Z) hr (pa_cons (pv 7) (pa_cons (pv 4) pa_nil)) passN) (pe_str) (nomark _)) (pw_or1 (pt_cmpR op_ne (gcall (good_asked Z) hr (pa_cons (pv 7) (pa_cons (pe_callTy call_tupA (by rfl) (m_tuple Z) boot_tuple (pa_cons (pv 4) pa_nil)) pa_nil)) passN) (pe_str) (nomark _))))) (pss_one (ps_ret pe_bl)) pss_nil)
      (pss_cons (ps_if (pt_not (pt_val (gcall (good_singles Z) hr (pa_cons (pv 1) (pa_cons (pv 2) (pa_cons (pv 5) pa_nil))) pass0) (fun _ => rfl))) (pss_one (ps_ret pe_bl)) pss_nil)
      (pss_cons (ps_set (i := 8) sc_law.nd rfl (by first | exact Or.inl rfl | exact Or.inr rfl) (gcall (good_Leffects Z) hr (pa_cons (gcall (good_pouch Z) hr (pa_cons (pv 0) (pa_cons pe_int pa_nil)) pass0) (pa_cons (pe_op op_add (gcall (good_draw Z) hr (pa_cons (pv 1) (pa_cons pe_int pa_nil)) pass0) (pe_int)) pa_nil)) pass0))
      (pss_cons (ps_if (pt_not (pt_val (gcall (good_sums Z) hr (pa_cons (pv 2) (pa_cons (pv 8) (pa_cons (pv 7) pa_nil))) pass0) (fun _ => rfl))) (pss_one (ps_ret pe_bl)) pss_nil)
      (pss_one (ps_ret ((pe_and (pe_cmpR op_eq (gcall (good_zero Z) hr (pa_cons (pv 7) pa_nil) passN) (pe_str) (nomark _)) (pe_one (pe_cmpR op_eq (gcall (good_made Z) hr (pa_cons (pv 2) (pa_cons (pv 3) pa_nil)) passN) (pe_str) (nomark _))))))))))))))))))))))), ?_⟩
    refine ⟨_, rfl, s0, ns, 0, rfl, hS, by decide, by decide, fun p x y H1 hx hy hy2 hn hs hp => ?_⟩
    refine ⟨_, rfl, _, rfl, p, x, y, 4, rfl, hp, hx, hy, by omega, by decide, by decide, fun r1 x1 y1 H2 ra1 rb1 hx1 hy1 hz1 k1 hp1 => ⟨_, _, rfl, rfl, ?_⟩⟩
    refine ⟨p, x1, y1, r1 + 1, rfl, hp1, hx1, by omega, by omega, by omega, by omega, fun l zs x2 y2 H3 lz nd nm k3 hln hl hp2 hx2 hy2 hz2 => ?_⟩
    have ok : EfOk zs := ⟨by omega, by omega, nd, nm⟩
    have z4 := ok.hi
    have z1 := ok.lo
    have T : Same H H3 := off_same (off_same hs hn (kp_of k1)) hn k3
    have lp : l ≠ p := Ne.symm (ne_of_none hp1 hln)
    clear k1 k3 hp hp1 hs hln
    have hp := hp2
    clear hp2
    have lm : (zs.map V.str).length = zs.length := List.length_map _
    refine ⟨_, rfl, l, (zs.map V.str), rfl, SqL.of hl, ((zs.map V.str).length : Int), rfl, by omega, by omega, ?_⟩
    rw [lm]
    intro D3 hD3
    refine comp hD3 (n := zs.length) (G := fun _ => True) (Y := YFn fun i => .int (0 + (i : Int))) (walk_range (lo := 0) (n := zs.length)) (fun j y H' => ∃ q : Int × Int, Num K H' y q ∧ Okq 67 q) (fun _ _ _ _ ⟨q, h, w⟩ k => ⟨q, num_mon h k, w⟩) (by omega) (fun _ _ => trivial) ?_ ?_
    · rintro i x J1 J2 R hi s1 ⟨rfl, rfl⟩ k
      refine ⟨rfl, _, rfl, _, rfl, _, _, rfl, rfl, s0, ns, 1 + (0 + (i : Int)), rfl, (T.trans s1).seq hS, by omega, by omega, fun q xq yq J3 hxq hyq hyq2 hnq hsq hq => ?_⟩
      refine ⟨q, xq, yq, rfl, hq, hxq, hyq, by omega, fun c t b xq' yq' J4 ht hb1 hb2 hxq' hyq' hzq kq hq' hc => ?_⟩
      refine ⟨c, t, b, rfl, hc, hb1, Nat.lt_of_lt_of_le (show b.natAbs < 2 ^ 67 by omega) (Nat.pow_le_pow_right (by decide) (by decide)), fun v J5 s5 hv => k _ _ ((off_same hsq hnq kq).trans s5) ⟨_, hv, ok_nrm ht (show b.natAbs < 2 ^ 67 by omega) (by omega)⟩⟩
    intro acc3 G3 t3 hacc3 hlen3 hall3
    obtain ⟨qs3, n3, b3⟩ := nums_ex (B := fun q => Okq 67 q) hall3
    clear hall3
    have d3p : D3 ≠ p := Ne.symm (ne_of_none hp hD3)
    clear hD3
    have hl := t3 _ _ hl
    have hp := t3 _ _ hp
    have T := T.trans t3
    refine ⟨_, rfl, l, (zs.map V.str), rfl, SqL.of hl, ((zs.map V.str).length : Int), rfl, by omega, by omega, ?_⟩
    rw [lm]
    intro D4 hD4
    refine comp hD4 (n := zs.length) (G := fun _ => True) (Y := YFn fun i => .int (0 + (i : Int))) (walk_range (lo := 0) (n := zs.length)) (fun j y H' => ∃ q : Int × Int, Num K H' y q ∧ Okq 67 q) (fun _ _ _ _ ⟨q, h, w⟩ k => ⟨q, num_mon h k, w⟩) (by omega) (fun _ _ => trivial) ?_ ?_
    · rintro i x J1 J2 R hi s1 ⟨rfl, rfl⟩ k
      refine ⟨rfl, _, rfl, _, rfl, _, _, rfl, rfl, s0, ns, 5 + (0 + (i : Int)), rfl, (T.trans s1).seq hS, by omega, by omega, fun q xq yq J3 hxq hyq hyq2 hnq hsq hq => ?_⟩
      refine ⟨q, xq, yq, rfl, hq, hxq, hyq, by omega, fun c t b xq' yq' J4 ht hb1 hb2 hxq' hyq' hzq kq hq' hc => ?_⟩
      refine ⟨c, t, b, rfl, hc, hb1, Nat.lt_of_lt_of_le (show b.natAbs < 2 ^ 67 by omega) (Nat.pow_le_pow_right (by decide) (by decide)), fun v J5 s5 hv => k _ _ ((off_same hsq hnq kq).trans s5) ⟨_, hv, ok_nrm ht (show b.natAbs < 2 ^ 67 by omega) (by omega)⟩⟩
    intro acc4 G4 t4 hacc4 hlen4 hall4
    obtain ⟨qs4, n4, b4⟩ := nums_ex (B := fun q => Okq 67 q) hall4
    clear hall4
    clear hD4
    have hl := t4 _ _ hl
    have hp := t4 _ _ hp
    have T := T.trans t4
    have hacc3 := t4 _ _ hacc3
    have n3 := n3.same t4
    have m3 : qs3.length = zs.length := n3.1.symm.trans hlen3
    have m4 : qs4.length = zs.length := n4.1.symm.trans hlen4
    -- spoiled
    refine ⟨_, rfl, s0, ns, 9, rfl, T.seq hS, by decide, by decide, fun q9 x9 y9 J9 hx9 hy9 hb9 hn9 hs9 hq9 => ?_⟩
    have hpJ := hs9 _ _ hp
    refine ⟨_, rfl, q9, l, x9, y9, zs, rfl, hq9, hs9 _ _ hl, ne_of_none hl hn9, ok, hx9, hy9, by omega, fun v xv yv H10 o10 _ _ _ _ hv => ?_⟩
    have t10 := off_same hs9 hn9 o10
    have hl := t10 _ _ hl
    have hp := t10 _ _ hp
    have T := T.trans t10
    have hacc3 := t10 _ _ hacc3
    have n3 := n3.same t10
    have hacc4 := t10 _ _ hacc4
    have n4 := n4.same t10
    clear t10 o10 hs9 hn9 hq9
    -- numbers
    refine ⟨_, rfl, s0, ns, 10, rfl, T.seq hS, by decide, by decide, fun q9 x9 y9 J10 hx9 hy9 hb9 hn9 hs9 hq9 => ?_⟩
    refine ⟨_, rfl, q9, D3, x9, y9, acc3, qs3, rfl, hq9, hs9 _ _ hacc3, ne_of_none hacc3 hn9, n3.same hs9, by omega, by omega, hx9, hy9, by omega, fun bw xv yv H11 o11 _ _ _ _ hbw => ?_⟩
    rw [hlen3] at hbw
    have V := off_same hs9 hn9 o11
    have hl := V _ _ hl
    have hp := V _ _ hp
    have T := T.trans V
    have hacc3 := V _ _ hacc3
    have n3 := n3.same V
    have hacc4 := V _ _ hacc4
    have n4 := n4.same V
    clear o11 hs9 hn9 hq9
    -- what is right
    refine ⟨_, rfl, _, rfl, _, _, rfl, .good (.inl hl) ok (.inl hacc3) n3 m3 fun H12 t12 => ⟨rfl, _, rfl, ite2 (fun h => absurd h (by simp)) fun _ => ?_⟩⟩
    have hl := t12 _ _ hl
    have hp := t12 _ _ hp
    have T := T.trans t12
    have hacc3 := t12 _ _ hacc3
    have n3 := n3.same t12
    have hacc4 := t12 _ _ hacc4
    have n4 := n4.same t12
    have V := V.trans t12
    have hbw := hbw.same t12
    clear t12
    refine ⟨_, rfl, l, _, rfl, .inl hl, fun a1 Ha sa ha1 => ⟨_, rfl, D3, _, rfl, .inl (sa _ _ hacc3), fun a2 Hb sb ha2 => ?_⟩⟩
    have sab := sa.trans sb
    refine ⟨_, _, rfl, .good (.inr (sb _ _ ha1)) ok (.inr ha2) (n3.same sab) m3 fun H13 t13' => ⟨rfl, _, rfl, ite2 (fun h => absurd h (by simp)) fun _ => ?_⟩⟩
    have t13 := sab.trans t13'
    have hl := t13 _ _ hl
    have hp := t13 _ _ hp
    have T := T.trans t13
    have hacc3 := t13 _ _ hacc3
    have n3 := n3.same t13
    have hacc4 := t13 _ _ hacc4
    have n4 := n4.same t13
    have V := V.trans t13
    have hbw := hbw.same t13
    clear t13 t13' sab sa sb ha1 ha2
    -- what is wrong
    refine ⟨_, rfl, _, rfl, _, _, rfl, .eff (hv _ fun b _ o e => V b o e) fun H14 t t14' ht => ⟨rfl, fun td14 G14 u14 htd14 nd14 => ⟨t, td14, _, _, rfl, rfl, SqT.of (u14 _ _ ht), SqT.of htd14, prs_same fun x hx => by
      simp only [List.mem_cons, List.not_mem_nil, or_false] at hx
      rcases hx with rfl | rfl | rfl <;> exact .inl ⟨rfl, rfl, by simp [eqV]⟩, fun Z14 v14 => ⟨_, rfl, iteF ?_⟩⟩⟩⟩
    have t14 := (t14'.trans u14).trans v14
    have hl := t14 _ _ hl
    have hp := t14 _ _ hp
    have T := T.trans t14
    have hacc3 := t14 _ _ hacc3
    have n3 := n3.same t14
    have hacc4 := t14 _ _ hacc4
    have n4 := n4.same t14
    have V := V.trans t14
    have hbw := hbw.same t14
    clear t14 t14' u14 v14 ht htd14 nd14
    refine ⟨_, rfl, _, rfl, _, _, rfl, .eff (hv _ fun b _ o e => V b o e) fun H15 t t15' ht => ⟨rfl, fun td15 G15 u15 htd15 nd15 => ⟨t, td15, _, _, rfl, rfl, SqT.of (u15 _ _ ht), SqT.of htd15, prs_same fun x hx => by
      simp only [List.mem_cons, List.not_mem_nil, or_false] at hx
      rcases hx with rfl | rfl | rfl <;> exact .inl ⟨rfl, rfl, by simp [eqV]⟩, fun Z15 v15 => ⟨_, rfl, iteF ?_⟩⟩⟩⟩
    have t15 := (t15'.trans u15).trans v15
    have hl := t15 _ _ hl
    have hp := t15 _ _ hp
    have T := T.trans t15
    have hacc3 := t15 _ _ hacc3
    have n3 := n3.same t15
    have hacc4 := t15 _ _ hacc4
    have n4 := n4.same t15
    have V := V.trans t15
    have hbw := hbw.same t15
    clear t15 t15' u15 v15 ht htd15 nd15
    refine ⟨_, rfl, _, rfl, _, _, rfl, .bad (.inl hl) ok hbw fun H16 t t16' ht => ⟨rfl, fun td16 G16 u16 htd16 nd16 => ⟨t, td16, _, _, rfl, rfl, SqT.of (u16 _ _ ht), SqT.of htd16, prs_same fun x hx => by
      simp only [List.mem_cons, List.not_mem_nil, or_false] at hx
      rcases hx with rfl | rfl | rfl <;> exact .inl ⟨rfl, rfl, by simp [eqV]⟩, fun Z16 v16 => ⟨_, rfl, iteF ?_⟩⟩⟩⟩
    have t16 := (t16'.trans u16).trans v16
    have hl := t16 _ _ hl
    have hp := t16 _ _ hp
    have T := T.trans t16
    have hacc3 := t16 _ _ hacc3
    have n3 := n3.same t16
    have hacc4 := t16 _ _ hacc4
    have n4 := n4.same t16
    have V := V.trans t16
    clear t16 t16' u16 v16 ht htd16 nd16 hbw
    -- the question
    refine ⟨_, rfl, _, rfl, l, D3, zs, acc3, qs3, rfl, .inl hl, ok, .inl hacc3, n3, m3, fun qa H17 t17 hq => ?_⟩
    have hl := t17 _ _ hl
    have hp := t17 _ _ hp
    have T := T.trans t17
    have hacc3 := t17 _ _ hacc3
    have n3 := n3.same t17
    have hacc4 := t17 _ _ hacc4
    have n4 := n4.same t17
    have V := V.trans t17
    clear t17
    refine ⟨_, rfl, _, rfl, s0, ns, 11, rfl, T.seq hS, by decide, by decide, fun q9 x9 y9 J11 hx9 hy9 hb9 hn9 hs9 hq9 => ?_⟩
    refine ⟨_, rfl, q9, D4, x9, y9, acc4, qs4, rfl, hq9, hs9 _ _ hacc4, ne_of_none hacc4 hn9, n4.same hs9, by omega, by omega, hx9, hy9, by omega, fun cw xv yv H18 o18 _ _ _ _ hcw => ?_⟩
    rw [hlen4, ← m3] at hcw
    have t18 := off_same hs9 hn9 o18
    have hl := t18 _ _ hl
    have hp := t18 _ _ hp
    have T := T.trans t18
    have hacc3 := t18 _ _ hacc3
    have n3 := n3.same t18
    have hacc4 := t18 _ _ hacc4
    have n4 := n4.same t18
    have V := V.trans t18
    have hq := hq.same t18
    clear t18 o18 hs9 hn9 hq9
    refine ⟨qa, cw, zs, qs3, rfl, hq, m3, by omega, .bad hcw fun H19 t t19' ht => ⟨rfl, fun td19 G19 u19 htd19 nd19 => ⟨t, td19, _, _, rfl, rfl, SqT.of (u19 _ _ ht), SqT.of htd19, prs_same fun x hx => by
      simp only [List.mem_cons, List.not_mem_nil, or_false] at hx
      rcases hx with rfl | rfl <;> exact .inl ⟨rfl, rfl, by simp [eqV]⟩, fun Z19 v19 => ⟨_, rfl, iteF ?_⟩⟩⟩⟩
    have t19 := (t19'.trans u19).trans v19
    have hl := t19 _ _ hl
    have hp := t19 _ _ hp
    have T := T.trans t19
    have hacc3 := t19 _ _ hacc3
    have n3 := n3.same t19
    have hacc4 := t19 _ _ hacc4
    have n4 := n4.same t19
    have V := V.trans t19
    have hq := hq.same t19
    clear t19 t19' u19 v19 ht htd19 nd19 hcw
    have b200 : ∀ p ∈ qs3, Okq 200 p := fun p h => (b3 p h).le (by decide)
    have b700 : ∀ p ∈ qs4, Okq 700 p := fun p h => (b4 p h).le (by decide)
    refine ⟨_, rfl, _, rfl, qa, _, zs, qs3, rfl, hq, m3, by omega, .good (.inl hacc4) n4 (by omega) b200 b700 fun H20 t20 => ⟨rfl, _, rfl, ite2 (fun h => absurd h (by simp)) fun _ => ?_⟩⟩
    have hl := t20 _ _ hl
    have hp := t20 _ _ hp
    have T := T.trans t20
    have hacc3 := t20 _ _ hacc3
    have n3 := n3.same t20
    have hacc4 := t20 _ _ hacc4
    have n4 := n4.same t20
    have V := V.trans t20
    have hq := hq.same t20
    clear t20
    refine ⟨_, rfl, _, rfl, D4, _, rfl, .inl hacc4, fun a1 Ha sa ha1 => ⟨qa, _, zs, qs3, rfl, hq.same sa, m3, by omega, .good (.inr ha1) (n4.same sa) (by omega) b200 b700 fun H21 t21' => ⟨rfl, _, rfl, ite2 (fun h => absurd h (by simp)) fun _ => ?_⟩⟩⟩
    have t21 := sa.trans t21'
    have hl := t21 _ _ hl
    have hp := t21 _ _ hp
    have T := T.trans t21
    have hacc3 := t21 _ _ hacc3
    have n3 := n3.same t21
    have V := V.trans t21
    have hq := hq.same t21
    clear t21 t21' sa ha1 hacc4 n4
    -- effect and nothing
    refine ⟨_, rfl, _, rfl, _, rfl, p, l, v, x2, y2, zs, rfl, hp, hl, lp, ok, hx2, by omega, by omega, fun J oJ => hv J fun b hb o e => oJ b (fun z => by rw [z, hpJ] at hb; cases hb) o (V b o e), fun x22 y22 H22 o22 hp22 hx22 hy22 hz22 => ⟨true, rfl, iteF ?_⟩⟩
    have hl := o22 l lp _ hl
    have hacc3 := o22 D3 d3p _ hacc3
    have n3 := nums_off hp o22 n3
    have hq := offL_que hp o22 hq
    have T := off_same T hn o22
    clear hp o22 V
    -- sums
    refine ⟨_, rfl, s0, ns, 12, rfl, T.seq hS, by decide, by decide, fun q9 x9 y9 J12 hx9 hy9 hb9 hn9 hs9 hq9 => ?_⟩
    have qp : q9 ≠ p := Ne.symm (ne_of_none hp22 hn9)
    have hlJ := hs9 _ _ hl
    refine ⟨_, rfl, p, x22, y22, 4, rfl, hs9 _ _ hp22, hx22, by omega, by omega, by decide, by decide, fun r23 x23 y23 H23 ra23 rb23 hx23 hy23 hz23 k23 hp23 => ⟨_, _, rfl, rfl, ?_⟩⟩
    have o23 := kp_of k23
    refine ⟨q9, x9, y9, r23 + 1, rfl, o23 q9 qp _ hq9, hx9, by omega, by omega, by omega, by omega, fun m ys x24 y24 H24 ly nd2 nm2 k24 hmn hm hp24 hx24 hy24 hz24 => ?_⟩
    have ok2 : EfOk ys := ⟨by omega, by omega, nd2, nm2⟩
    have o24 : Off q9 H23 H24 := k24
    have lq : l ≠ q9 := ne_of_none hl hn9
    have hl := o24 l lq _ (o23 l lp _ hlJ)
    have hq := offL_que (o23 q9 qp _ hq9) o24 (offL_que (hs9 _ _ hp22) o23 (hq.same hs9))
    have n3 := nums_off (o23 q9 qp _ hq9) o24 (nums_off (hs9 _ _ hp22) o23 (n3.same hs9))
    have hacc3 := o24 D3 (ne_of_none hacc3 hn9) _ (o23 D3 d3p _ (hs9 _ _ hacc3))
    refine ⟨_, rfl, _, rfl, _, rfl, l, m, qa, zs, ys, qs3, rfl, hl, hm, ok, ok2, hq, m3, fun p h => (b3 p h).le (by decide), fun H25 t25 => ⟨true, rfl, iteF ?_⟩⟩
    refine ⟨_, rfl, qa, zs, qs3, rfl, hq.same t25, ok, m3, fun p h => (b3 p h).le (by decide), fun H26 t26 => ⟨rfl, _, rfl, ite2 (fun _ => ?_) fun h => absurd (decide_eq_true rfl) h⟩⟩
    have t27 := t25.trans t26
    refine ⟨_, rfl, _, rfl, _, _, rfl, .good (.inl (t27 _ _ hl)) ok (.inl (t27 _ _ hacc3)) (n3.same t27) m3 fun H28 t28 => ⟨rfl, ?_⟩⟩
    rw [decide_eq_true rfl]
    exact q H28

theorem good_law (Z : CT K mg) : GoodF (CX0) P w K mg base 13 "law" ["_law_script"] (spLaw K) := Z.good 71 38 d_law (fun _ _ _ _ _ _ us hl => match us, hl with | [_], _ => rfl) fun _ F => ok_law Z F
end
end My

open PySem PySem.W PySem.Calls PyProof.Rows
set_option maxRecDepth 100000 in
set_option maxHeartbeats 0 in
theorem PySem.Challenge.cw_anymethod_k04_questions_refused_holds : PySem.Challenge.rw_anymethod_k04_questions_refused.Holds := by
  w_on; o_law
  refine HandSHeadRun.head_imp (r := OpenLaw.row PySem.Challenge.rw_anymethod_k04_questions_refused) (q := view (OpenLaw.row PySem.Challenge.rw_anymethod_k04_questions_refused).prog [0, 50]) (H := My.hk) (ob := My.ob) (M := 20000) (loose := My.loose) (d := HandSHeadRun.topDef (OpenLaw.row PySem.Challenge.rw_anymethod_k04_questions_refused).prog 50) (kwd := []) My.ob_eq My.run (by kernel_rfl) (by kernel_rfl) (by kernel_rfl) (by rfl) (by first | assumption | decide +kernel) (by decide +kernel) ⟨rfl, rfl, rfl, rfl, rfl, by decide +kernel⟩ ?hw ?hc
  case hw => w_witness2
  case hc =>
    refine L2.walk_ofE (l := PySem.Challenge.rw_anymethod_k04_questions_refused) (n := 63) (k := 13) (x := "_law_script") (CX := L2.CX0) rfl (by decide) (by kernel_rfl) ⟨rfl, by decide, by decide⟩ ?F (fun _ _ _ _ z => z)
    intro w mg fa h Y G hmg0
    obtain ⟨K, KX, c⟩ := Y
    have Z : My.CT K mg := My.ctx_of KX G c
    have hmg : mg ("law" : PySem.Str) = some (.ref fa) := by
      rw [show ("law" : PySem.Str) = (HandSHeadRun.topDef (OpenLaw.row PySem.Challenge.rw_anymethod_k04_questions_refused).prog 50).name by kernel_rfl]; exact hmg0
    obtain ⟨fd, F⟩ := Z.d.def_ 71 (d := My.d_law) rfl
    have e := hmg.symm.trans (Z.glo 38 rfl)
    cases e
    exact ⟨K, fd, My.spLaw K, KX, fun s u => L2.FunD.bindsA (ps := ["_law_script"]) F (fun _ _ _ _ _ _ us hl => match us, hl with | [_], _ => rfl) s [u] rfl, fun H a ns hl _ hS => ⟨a, ns, rfl, hS, fun _ => rfl⟩, fun base _ _ => My.ok_law Z F⟩

